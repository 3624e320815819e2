import PyProof.Rows.All
import Wide.All
import OpenK.AllK
import Wide.FinOn
import Lean
import PyProof.EqAt
import PyProof.EqKinds
import PyProof.TupleCall
import PyProof.CompFree
import PyProof.Rows.SumAny
import PyProof.ZipIter
import PyProof.ConsumeWalk
import PySem.Challenge.RW_clackrow_k13_together_refused
import KE.KSortKey
import KE.KLam
import KE.KNestM
import KE.KTryMore
import KE.KIsAll
set_option Elab.async false
set_option linter.all false
set_option maxRecDepth 100000
namespace L2
open PySem PySem.Spec PyProof.Rows
abbrev Key:=Sum Int Str
def zdh:Key->Value->Bool
 | .inl k,v=>Value.isInt k v
 | .inr x,v=>Value.isStrOf x v
def keyH (w:World):Key->Int
 | .inl k=>hashInt k
 | .inr x=>hashStr w x
theorem xF:∀{k:Key}{v:Value},zdh k v=true->(∃i t,k=Sum.inl i/\v=Value.int i t)\/(∃x t,k=Sum.inr x/\v=Value.str x t)
 | .inl i,v,h=>by
  obtain⟨t,e⟩:=Value.isInt_shape (k:=i) (v:=v) h
  exact .inl ⟨i,t,rfl,e⟩
 | .inr x,v,h=>by
  obtain⟨t,e⟩:=Value.isStrOf_shape (x:=x) (v:=v) h
  exact .inr ⟨x,t,rfl,e⟩
theorem zdP (a b:Int):decide ((Sum.inl a:Key)=Sum.inl b)=(a == b):=by
 by_cases e:a=b
 ·subst e;simp
 ·have h:¬(Sum.inl a:Key)=Sum.inl b:=λq=>e (Sum.inl.inj q)
  rw[decide_eq_false h]
  exact(beq_eq_false_iff_ne.mpr e).symm
theorem zdS (a b:Str):decide ((Sum.inr a:Key)=Sum.inr b)=decide (a=b):=by
 by_cases e:a=b
 ·subst e;simp
 ·have h:¬(Sum.inr a:Key)=Sum.inr b:=λq=>e (Sum.inr.inj q)
  rw[decide_eq_false h,decide_eq_false e]
theorem zdQ (a:Int) (b:Str):decide ((Sum.inl a:Key)=Sum.inr b)=false:=decide_eq_false (λq=>nomatch q)
theorem zdR (a:Str) (b:Int):decide ((Sum.inr a:Key)=Sum.inl b)=false:=decide_eq_false (λq=>nomatch q)
def Qh (prog:Program) (w:World):PySem.KeyKind prog w Key where
 is:=zdh
 hash:=keyH w
 inj:=λv a b ha hb=>by
  rcases xF ha with⟨i,t,rfl,rfl⟩ | ⟨x,t,rfl,rfl⟩
  ·rcases xF hb with⟨j,u,rfl,e⟩ | ⟨y,u,rfl,e⟩
   ·injection e with e1 _;rw[e1]
   ·exact nomatch e
  ·rcases xF hb with⟨j,u,rfl,e⟩ | ⟨y,u,rfl,e⟩
   ·exact nomatch e
   ·injection e with e1 _;rw[e1]
 byValue:=λk v h=>by
  rcases xF h with⟨i,t,rfl,rfl⟩ | ⟨x,t,rfl,rfl⟩ <;> rfl
 pyHash:=λhv h=>by
  rcases xF hv with⟨i,t,rfl,rfl⟩ | ⟨x,t,rfl,rfl⟩
  ·exact wpAny_pyHash_int h
  ·exact wpAny_pyHash_str h
 eqBool:=λhu hv h=>by
  rcases xF hu with⟨i,t,rfl,rfl⟩ | ⟨x,t,rfl,rfl⟩
  ·rcases xF hv with⟨j,u,rfl,rfl⟩ | ⟨y,u,rfl,rfl⟩
   ·rw[zdP]at h;exact wpAny_eqBool_int h
   ·rw[zdQ]at h;exact SeqAt.EqAt.int_str i t y u _ _ _ _ h
  ·rcases xF hv with⟨j,u,rfl,rfl⟩ | ⟨y,u,rfl,rfl⟩
   ·rw[zdR]at h;exact SeqAt.EqAt.str_int x t j u _ _ _ _ h
   ·rw[zdS]at h;exact wpAny_eqBool_str h
 «strs»:=λk x t v h=>by
  rcases xF h with⟨i,u,rfl,e⟩ | ⟨y,u,rfl,e⟩
  ·exact nomatch e
  ·injection e with e1 _
   subst e1
   cases v <;> rfl
end L2
namespace L2
open PySem PySem.Spec PyProof.Rows
inductive V where
 | non | bl (b:Bool) | int (i:Int) | str (x:Str) | byt (b:Array UInt8) | flt (b:UInt64) | ref (a:Addr) | ty (n:String)
 deriving DecidableEq
def xj:V->Value->Prop
 | .non,u=>u=Value.none
 | .bl b,u=>u=Value.bool b
 | .int i,u=>∃t,u=Value.int i t
 | .str x,u=>∃t,u=Value.str x t
 | .byt b,u=>∃t,u=Value.bytes b t
 | .flt b,u=>∃t,u=Value.float b t
 | .ref a,u=>u=Value.ref a
 | .ty n,u=>u=Value.type n
abbrev zU:List V->List Value->Prop:=Paired xj
theorem zU.length {xs:List V}{us:List Value}(r:zU xs us):xs.length=us.length:=Paired.length r
theorem zU.get:∀{xs:List V}{us:List Value}{i:Nat}{x:V},zU xs us->xs[i]? = some x->∃u,us[i]? = some u/\xj x u
 | _,_,_,_,.nil,e=>by simp at e
 | _,_,0,_,.cons r _,e=>by simp at e;subst e;exact⟨_,rfl,r⟩
 | _,_,i+1,x,.cons _ t,e=>by
  obtain⟨u,h1,h2⟩:=zU.get (i:=i) (x:=x) t (by simpa using e)
  exact⟨u,by simpa using h1,h2⟩
theorem zU.set {x:V}{u:Value}(r:xj x u):∀{xs:List V}{us:List Value}(i:Nat),zU xs us->zU (xs.set i x) (us.set i u)
 | _,_,_,.nil=>.nil
 | _,_,0,.cons _ t=>.cons r t
 | _,_,i+1,.cons q t=>.cons q (zU.set r i t)
theorem zU.append:∀{xs ys:List V}{us ws:List Value},zU xs us->zU ys ws->zU (xs++ys) (us++ws)
 | _,_,_,_,.nil,s=>s
 | _,_,_,_,.cons r t,s=>.cons r (zU.append t s)
theorem zU.take:∀{xs:List V}{us:List Value}(n:Nat),zU xs us->zU (xs.take n) (us.take n)
 | _,_,0,_=>.nil
 | _,_,_+1,.nil=>.nil
 | _,_,n+1,.cons r t=>.cons r (zU.take n t)
theorem zU.drop:∀{xs:List V}{us:List Value}(n:Nat),zU xs us->zU (xs.drop n) (us.drop n)
 | _,_,0,r=>r
 | _,_,_+1,.nil=>.nil
 | _,_,n+1,.cons _ t=>zU.drop n t
def Xr:Option V->Option Value->Prop
 | some v,some u=>xj v u
 | none,none=>True
 | _,_=>False
def KV {κ:Type}:List (κ×V)->List (κ×Value)->Prop:=Paired λ(p:κ×V) (q:κ×Value)=>p.1=q.1/\xj p.2 q.2
def kV:Key->V
 | .inl i=>.int i
 | .inr x=>.str x
inductive HO where
 | lst (xs:List V)
 | tup (xs:List V)
 | dK (kvs:List (Key×V)) | dT (kvs:List (List Key×V))
 | set (S:Int->Bool) (n:Nat)
 | ins (C dx:Addr) (fs:List (Str×V))
 | own (x:Addr)
 | xd (fs:List (Str×V))
 | met (f x:Addr)
 | rng (lo hi:Int)
 | frz (o:Obj) (u:HO)
 | tbl (ps:Array Value)
 | ext (φ:Heap->Prop)
abbrev Hp:=Addr->Option HO
def upd (H:Hp) (a:Addr) (o:HO):Hp:=λb=>if b=a then some o else H b
theorem zf {H:Hp}{a:Addr}{o:HO}:upd H a o a=some o:=by unfold upd;rw[if_pos rfl]
theorem zB {H:Hp}{a b:Addr}{o:HO}(h:b≠a):upd H a o b=H b:=by unfold upd;rw[if_neg h]
theorem zeV {H:Hp}{a b:Addr}{o u:HO}(h:H a=some o) (h':H b=some u) (d:o≠u):a≠b:=by
 intro e;subst e;rw[h]at h';exact d (Option.some.inj h')
theorem zC {H:Hp}{a b:Addr}{o:HO}(h:H a=some o) (h':H b=none):a≠b:=by
 intro e;subst e;rw[h]at h';cases h'
section
variable (P:Program) (w:World)
def xo (H:Hp) (h:Heap) (a:Addr):HO->Prop
 | .lst xs=>xs.length<=sizeLine/\∃(its:List Value) (n:Nat),zU xs its/\h.get? a=some { cls:=.type "list",data:=.seq its.toArray n }
 | .tup xs=>xs.length<=sizeLine/\∃its:List Value,zU xs its/\IsTup h a its.toArray
 | .dK kvs=>kvs.length<=sizeLine/\(a == sysModules)=false/\∃vs,KV kvs vs/\h.DictOf (Qh P w) a vs
 | .dT kvs=>kvs.length<=sizeLine/\(a == sysModules)=false/\∃xs:List (List Key×Addr×Value),
   Paired (λ(p:List Key×V) (q:List Key×Addr×Value)=>p.1=q.1/\H q.2.1=some (.tup (p.1.map kV))/\xj p.2 q.2.2) kvs xs ∧
   ∃o es ep,h.get? a=some o/\o.ExactDict/\o.data = .dict es ep/\es.toList=xs.map (entryOfKey (tupleKind (Qh P w)))/\(xs.map (·.1)).Nodup
 | .set S n=>h.SetOf (intKind P w) a S n
 | .ins C dx fs=>H dx=some (.own a)/\fs.length<=1000/\dx≠a/\h.get? a=some (PySem.W.instObj C dx) ∧
   ∃mA,h.Ns1 dx mA/\(∀f,Xr (fs.lookup f) (mA f))/\PySem.Within mA (fs.map (·.1))
 | .own _=>∃o,h.get? a=some o
 | .xd fs=>∃mA,h.Ns1 a mA/\∀f,Xr (fs.lookup f) (mA f)
 | .rng lo hi=>∃t u v,h.get? a=some { cls:=.type "range",data:=.fields #[.int lo t,.int hi u,.int 1 v] }
 | .frz o u=>h.get? a=some o/\xo H h a u
 | .tbl ps=>h.get? a=some { cls:=.none,data:=.fields ps }
 | .met f x=>h.get? a=some (PySem.W.methodObj (.ref f) (.ref x))
 | .ext φ=>φ h/\(∃o,h.get? a=some o)/\∀h1 h2:Heap,φ h1->(∀o,h1.get? a=some o->h2.get? a=some o)->φ h2
def HOk (H:Hp) (h:Heap):Prop:=∀a o,H a=some o->xo P w H h a o
end
section
variable {P:Program}{w:World}{H H':Hp}{h h':Heap}{a:Addr}{o:HO}
theorem xo.lt (x:xo P w H h a o):a<h.objs.size:=by
 cases o with
 | lst xs=>obtain⟨_,_,_,_,e⟩:=x;exact Heap.lt_size e
 | tup xs=>obtain⟨_,_,_,p⟩:=x;exact p.lt
 | dK kvs=>obtain⟨_,_,_,_,o,_,_,e,_⟩:=x;exact Heap.lt_size e
 | dT kvs=>obtain⟨_,_,_,_,o,_,_,e,_⟩:=x;exact Heap.lt_size e
 | set S n=>obtain⟨o,_,_,_,e,_⟩:=x;exact Heap.lt_size e
 | ins C dx fs=>obtain⟨_,_,_,e,_⟩:=x;exact Heap.lt_size e
 | own y=>obtain⟨_,e⟩:=x;exact Heap.lt_size e
 | xd fs=>obtain⟨_,⟨_,_,_,e,_⟩,_⟩:=x;exact Heap.lt_size e
 | rng lo hi=>obtain⟨_,_,_,e⟩:=x;exact Heap.lt_size e
 | frz ob u=>obtain⟨e,_⟩:=x;exact Heap.lt_size e
 | tbl ps=>exact Heap.lt_size (show h.get? a=some _ from x)
 | met f y=>exact Heap.lt_size (show h.get? a=some _ from x)
 | ext φ=>obtain⟨_,⟨_,e⟩,_⟩:=x;exact Heap.lt_size e
theorem Paired.mapP {α β:Type}{F G:α->β->Prop}:∀{l₁:List α}{l₂:List β},Paired F l₁ l₂->(∀a b,F a b->G a b)->Paired G l₁ l₂
 | _,_,.nil,_=>.nil
 | _,_,.cons r t,f=>.cons (f _ _ r) (Paired.mapP t f)
theorem xo.stay (x:xo P w H h a o) (k:∀b u,(b=a\/H b=some (.own a))->h.get? b=some u->h'.get? b=some u)
  (ho:∀b,H b=some (.own a)->H' b=some (.own a)) (ht:∀b xs,H b=some (.tup xs)->H' b=some (.tup xs)):xo P w H' h' a o:=by
 induction o with
 | lst xs=>obtain⟨z,its,n,r,e⟩:=x;exact⟨z,its,n,r,k _ _ (.inl rfl) e⟩
 | tup xs=>obtain⟨z,its,r,ob,e,c⟩:=x;exact⟨z,its,r,ob,k _ _ (.inl rfl) e,c⟩
 | dK kvs=>obtain⟨z,y,vs,r,ob,es,ep,e,c⟩:=x;exact⟨z,y,vs,r,ob,es,ep,k _ _ (.inl rfl) e,c⟩
 | dT kvs =>
  obtain⟨z,y,xs,r,ob,es,ep,e,c⟩:=x
  exact⟨z,y,xs,Paired.mapP r λp q z=>⟨z.1,ht _ _ z.2.1,z.2.2⟩,ob,es,ep,k _ _ (.inl rfl) e,c⟩
 | set S n=>obtain⟨ob,es,ep,t,e,c⟩:=x;exact⟨ob,es,ep,t,k _ _ (.inl rfl) e,c⟩
 | ins C dx fs =>
  obtain⟨d,z,ne,e,mA,⟨od,es,ep,e2,c⟩,r⟩:=x
  exact⟨ho _ d,z,ne,k _ _ (.inl rfl) e,mA,⟨od,es,ep,k _ _ (.inr d) e2,c⟩,r⟩
 | own y=>obtain⟨ob,e⟩:=x;exact⟨ob,k _ _ (.inl rfl) e⟩
 | xd fs=>obtain⟨mA,⟨od,es,ep,e,c⟩,r⟩:=x;exact⟨mA,⟨od,es,ep,k _ _ (.inl rfl) e,c⟩,r⟩
 | rng lo hi=>obtain⟨t,u,v,e⟩:=x;exact⟨t,u,v,k _ _ (.inl rfl) e⟩
 | frz ob u ih=>obtain⟨e,q⟩:=x;exact⟨k _ _ (.inl rfl) e,ih q⟩
 | tbl ps =>
  have e:h.get? a=some { cls:=.none,data:=.fields ps }:=x
  show h'.get? a=some { cls:=.none,data:=.fields ps }
  exact k a _ (.inl rfl) e
 | met f y =>
  have e:h.get? a=some (PySem.W.methodObj (.ref f) (.ref y)):=x
  show h'.get? a=some (PySem.W.methodObj (.ref f) (.ref y))
  exact k a _ (.inl rfl) e
 | ext φ=>obtain⟨p,⟨o,e⟩,st⟩:=x;exact⟨st _ _ p λo q=>k _ _ (.inl rfl) q,⟨o,k _ _ (.inl rfl) e⟩,st⟩
theorem HOk.lt (x:HOk P w H h) (e:H a=some o):a<h.objs.size:=(x a o e).lt
theorem HOk.fresh (x:HOk P w H h) (e:h.objs.size<=a):H a=none:=by
 cases q:H a with
 | none=>rfl
 | some u=>exact absurd (Nat.lt_of_lt_of_le (x.lt q) e) (Nat.lt_irrefl _)
theorem HOk.kept (x:HOk P w H h) (k:∀b u,h.get? b=some u->h'.get? b=some u):HOk P w H h':=λa o e =>
 (x a o e).stay (λb u _ q=>k b u q) (λ_ q=>q) λ_ _ q=>q
theorem HOk.laid (x:HOk P w H h) (k:∀b u,h.get? b=some u->h'.get? b=some u) (hp:h.objs.size<=a) (new:xo P w (upd H a o) h' a o):HOk P w (upd H a o) h':=λb u e=>by
 have hn:=x.fresh hp
 by_cases hb:b=a
 ·subst hb;rw[zf]at e;cases e;exact new
 ·rw[zB hb]at e
  exact(x b u e).stay (λc v _ q=>k c v q) (λc q=>by rw[zB (zC q hn)];exact q) λc xs q=>by rw[zB (zC q hn)];exact q
end
def Rd (H:Hp) (a:Addr) (u:HO):Prop:=H a=some u\/∃o,H a=some (.frz o u)
theorem Rd.ok {P:Program}{w:World}{H:Hp}{h:Heap}{a:Addr}{u:HO}(r:Rd H a u) (x:HOk P w H h):xo P w H h a u:=by
 rcases r with r | ⟨o,r⟩
 ·exact x a u r
 ·obtain⟨_,q⟩:=x a _ r
  exact q
def Mut:Option HO->Prop
 | some (.lst _)=>True
 | some (.dK _)=>True
 | some (.dT _)=>True
 | some (.set _ _)=>True
 | some (.ins _ _ _)=>True
 | some (.ext _)=>True
 | _=>False
section
variable {P:Program}{w:World}{H:Hp}{h h':Heap}{x e:Addr}{o':HO}
theorem HOk.write (ok:HOk P w H h) (mu:Mut (H x)) (he:e=x\/H e=some (.own x)) (k:∀b u,b≠e->h.get? b=some u->h'.get? b=some u) (heo:∃u,h'.get? e=some u)
  (new:xo P w (upd H x o') h' x o'):HOk P w (upd H x o') h':=λb u q=>by
 have nown:∀c y,H c=some (.own y)->c≠x:=λc y r z=>by subst z;rw[r]at mu;exact mu
 have ntup:∀c xs,H c=some (.tup xs)->c≠x:=λc xs r z=>by subst z;rw[r]at mu;exact mu
 by_cases hb:b=x
 ·subst hb;rw[zf]at q;cases q;exact new
 ·rw[zB hb]at q
  by_cases hbe:b=e
  ·have q':H b=some (.own x):=by
    rcases he with z | z
    ·exact absurd (hbe.trans z) hb
    ·rw[hbe];exact z
   rw[q]at q';cases q'
   obtain⟨v,hv⟩:=heo
   exact⟨v,by rw[hbe];exact hv⟩
  ·refine(ok b u q).stay (λc v hc r=>k c v ?_ r) (λc r=>by rw[zB (nown c b r)];exact r) λc xs r=>by rw[zB (ntup c xs r)];exact r
   rcases hc with rfl | hc
   ·exact hbe
   ·rintro rfl
    rcases he with z | z
    ·exact nown c b hc z
    ·rw[hc]at z;cases z;exact hb rfl
end
structure Un (fs ex:List Addr) (H H':Hp) (h h':Heap):Prop where
 keep:∀b o,h.get? b=some o->H b=none->b∉fs->b∉ex->h'.get? b=some o
 slot:∀b o,h.get? b=some o->H b=none->b∈fs->b∉ex->∃sl,h'.get? b=some { o with slots:=sl }
 free:∀b o,h.get? b=some o->H b=none->b∉ex->H' b=none
 there:∀b o,h.get? b=some o->b∉ex->∃o',h'.get? b=some o'
 tups:∀b xs,H b=some (.tup xs)->H' b=some (.tup xs)
 frzs:∀b o u,H b=some (.frz o u)->H' b=some (.frz o u)
 tbls:∀b ps,H b=some (.tbl ps)->∃more,H' b=some (.tbl (ps++more))
section
variable {fs fs' ex ex':List Addr}{H H1 H2:Hp}{h h1 h2 h':Heap}{a x e:Addr}{o:HO}
theorem Un.any (u:Un fs ex H H1 h h1){b:Addr}{ob:Obj}(q:h.get? b=some ob) (n:H b=none) (hx:b∉ex):∃sl,h1.get? b=some { ob with slots:=sl }:=by
 by_cases hb:b∈fs
 ·exact u.slot b ob q n hb hx
 ·exact⟨ob.slots,u.keep b ob q n hb hx⟩
theorem Un.trans (a:Un fs ex H H1 h h1) (b:Un fs ex H1 H2 h1 h2):Un fs ex H H2 h h2 where
 keep:=λc ob q n hc hx=>b.keep c ob (a.keep c ob q n hc hx) (a.free c ob q n hx) hc hx
 slot:=λc ob q n hc hx=>by
  obtain⟨sl,e1⟩:=a.slot c ob q n hc hx
  obtain⟨sl',e2⟩:=b.slot c _ e1 (a.free c ob q n hx) hc hx
  exact⟨sl',e2⟩
 free:=λc ob q n hx=>by
  obtain⟨o',e1⟩:=a.there c ob q hx
  exact b.free c o' e1 (a.free c ob q n hx) hx
 there:=λc ob q hx=>by
  obtain⟨o',e1⟩:=a.there c ob q hx
  exact b.there c o' e1 hx
 tups:=λc xs q=>b.tups c xs (a.tups c xs q)
 frzs:=λc ob xs q=>b.frzs c ob xs (a.frzs c ob xs q)
 tbls:=λc ps q=>by
  obtain⟨m1,e1⟩:=a.tbls c ps q
  obtain⟨m2,e2⟩:=b.tbls c _ e1
  exact⟨m1++m2,by rw[e2,Array.append_assoc]⟩
theorem Un.kept (k:∀b u,h.get? b=some u->h'.get? b=some u):Un fs ex H H h h' :=
 ⟨λb ob q _ _ _=>k b ob q,λb ob q _ _ _=>⟨ob.slots,k b ob q⟩,λ_ _ _ n _=>n,λb ob q _=>⟨ob,k b ob q⟩,λ_ _ q=>q,λ_ _ _ q=>q,λ_ ps q=>⟨#[],by rw[q];simp⟩⟩
theorem Un.refl:Un fs ex H H h h:=Un.kept λ_ _ q=>q
theorem Un.laid (k:∀b u,h.get? b=some u->h'.get? b=some u) (hp:h.objs.size<=a) (hn:H a=none):Un fs ex H (upd H a o) h h' where
 keep:=λb u q _ _ _=>k b u q
 slot:=λb u q _ _ _=>⟨u.slots,k b u q⟩
 free:=λb u q n _=>by rw[zB (Nat.ne_of_lt (Nat.lt_of_lt_of_le (Heap.lt_size q) hp))];exact n
 there:=λb u q _=>⟨u,k b u q⟩
 tups:=λb xs q=>by rw[zB (zC q hn)];exact q
 frzs:=λb u xs q=>by rw[zB (zC q hn)];exact q
 tbls:=λb ps q=>⟨#[],by rw[zB (zC q hn),q];simp⟩
theorem Un.write (mu:Mut (H x)) (he:e=x\/H e=some (.own x)) (k:∀b u,b≠e->h.get? b=some u->h'.get? b=some u) (heo:∃u,h'.get? e=some u):Un fs ex H (upd H x o) h h':=by
 have hx:∀b,H b=none->b≠x:=λb n z=>by subst z;rw[n]at mu;exact mu
 have hb:∀b,H b=none->b≠e:=λb n z=>by
  subst z
  rcases he with r | r
  ·exact hx b n r
  ·rw[n]at r;cases r
 have hm:∀b u,H b=some u->¬Mut (some u)->b≠x:=λb u q nm z=>by subst z;rw[q]at mu;exact nm mu
 refine⟨λb u q n _ _=>k b u (hb b n) q,λb u q n _ _=>⟨u.slots,k b u (hb b n) q⟩,λb u q n _=>by rw[zB (hx b n)];exact n,λb u q _=>?_,
  λb xs q=>by rw[zB (hm b _ q λz=>z)];exact q,λb u xs q=>by rw[zB (hm b _ q λz=>z)];exact q,λb ps q=>⟨#[],by rw[zB (hm b _ q λz=>z),q];simp⟩⟩
 by_cases hbe:b=e
 ·subst hbe;exact heo
 ·exact⟨u,k b u hbe q⟩
end
def trk (h:Heap) (H:Hp):List Addr:=(List.range h.objs.size).filter λa=>(H a).isSome
def Xs (h:Heap) (H:Hp):Heap:=PySem.W.hideAll h (trk h H)
theorem J5 (h:Heap) (H:Hp):(Xs h H).objs.size=h.objs.size:=PySem.W.hideAll_size _ _
theorem zaT {h:Heap}{H:Hp}{b:Addr}{o:Obj}(e:h.get? b=some o) (n:H b=none):(Xs h H).get? b=some o :=
 PySem.W.hideAll_get _ e λhm=>by
  have q:(H b).isSome=true:=(List.mem_filter.mp hm).2
  rw[n]at q;simp at q
theorem zch {h:Heap}{H:Hp}{b:Addr}{o:Obj}(e:(Xs h H).get? b=some o):h.get? b=some o/\H b=none:=by
 have e':h.get? b=some o:=PySem.W.of_hideAll (trk h H) e
 refine⟨e',?_⟩
 cases q:H b with
 | none=>rfl
 | some x =>
  have hm:b∈trk h H:=List.mem_filter.mpr ⟨List.mem_range.mpr (Heap.lt_size e'),by simp[q]⟩
  have z:(Xs h H).get? b=none:=PySem.W.hideAll_none (trk h H) hm
  rw[z]at e;cases e
end L2
namespace L2
open PySem PySem.Spec PyProof.Rows
structure Mod (K:PySem.W.Frag) (mg:Str->Option Value) (base:Heap):Prop where
 kin:K.In base
 glob:base.Ns mainGlobals mg
 blt:∃mb,base.Ns builtinsNs mb/\∀x:Str,x≠"__name__"->mb x=bootBuiltins x
 nolimit:base.NoLimit
structure Cx where
 prog:Program
 w:World
 K:PySem.W.Frag
 mg:Str->Option Value
 base:Heap
 A:Around
 N:List Str
 s₀:Shared
 H₀:Hp
 env:Env
 outer:List Env
 stack:List Env
 ex:List Addr
 fn:Str->Bool
 calm:Bool
 pn:List (Addr×Obj)
 xe:Value->Shared->Prop
def frs (l:List Env):List Addr:=l.filterMap (·.frame)
abbrev Cx.fs (X:Cx):List Addr:=frs X.outer
def Vis (sc:Scope) (x:Str):Prop:=sc.names.lookup x=some .local ∨ sc.names.lookup x=some .cell\/sc.names.lookup x=some .free
def Loc (sc:Scope) (x:Str):Prop:=sc.names.lookup x=some .local ∨ sc.names.lookup x=some .cell
def Look (env:Env) (h:Heap) (m:Str->Option Value) (x:Str) (u:Value):Prop :=
 (env.kindOf x=some .local ∧ m x=some u)\/((env.kindOf x=some .cell\/env.kindOf x=some .free)/\∃c,env.cells.lookup x=some c/\h.IsCell c (some u))
structure Cx.Ok (X:Cx):Prop where
 mod:Mod X.K X.mg X.base
 kind:X.env.scope.kind = .function
 glob:X.env.globals=mainGlobals
 blt:X.env.builtins=builtinsNs
 above:X.s₀.heap.objs.size<=X.env.locals
 inj:∀x y c,X.env.cells.lookup x=some c->X.env.cells.lookup y=some c->x=y
 has:∀x,(X.env.kindOf x=some .cell\/X.env.kindOf x=some .free)->∃c,X.env.cells.lookup x=some c
 cab:∀x c,X.fn x=true->X.env.cells.lookup x=some c->X.s₀.heap.objs.size<=c
 hd:X.calm=true->X.A.handled=none
 frames:X.A.frames=some X.stack
 stk:X.stack=X.outer\/(X.stack=X.env::X.outer/\X.env.frame=some X.env.locals)
 exf:∀b∈X.ex,b≠X.env.locals/\∀x c,X.env.cells.lookup x=some c->c≠b
 bs:∀b o,X.base.get? b=some o->X.s₀.heap.get? b=some o/\X.H₀ b=none
 bsz:X.base.objs.size<=X.s₀.heap.objs.size
 noex:∀b o,X.base.get? b=some o->b∉X.ex
 exfs:∀b∈X.ex,b∉X.fs
 funs:X.s₀.heap.FunFrames X.base X.outer
 frf:∀b∈X.fs,X.H₀ b=none
structure Inv (X:Cx) (pins:List (Addr×Obj)) (σ:List (Option V)) (H:Hp) (s:Shared):Prop where
 ok:X.Ok
 os:s.os=X.s₀.os
 bare:AllBare s.gens
 base:Un X.fs X.ex X.H₀ H X.s₀.heap s.heap
 loc:∃m,s.heap.Ns X.env.locals m/\∀(i:Nat) (x:Str) (v:V),X.N[i]? = some x->σ[i]? = some (some v)->Vis X.env.scope x->∃u,xj v u/\Look X.env s.heap m x u
 cell:∀x c,X.env.cells.lookup x=some c->∃v,s.heap.IsCell c v
 free:H X.env.locals=none
 freeC:∀x c,X.env.cells.lookup x=some c->H c=none
 pin:∀p∈X.pn++pins,s.heap.get? p.1=some p.2/\H p.1=none/\p.1≠X.env.locals/\p.1∉X.fs/\∀v,p.2.data≠.cell v
 hok:HOk X.prog X.w H s.heap
 len:σ.length=X.N.length
section
variable {X:Cx}{pins:List (Addr×Obj)}{σ:List (Option V)}{H H':Hp}{s:Shared}{h':Heap}
theorem Cx.Ok.nofr (ok:X.Ok){b:Addr}{o:Obj}(e:X.base.get? b=some o):b∉X.fs:=λhb=>by
 have:=(ok.funs.mem hb).1
 rw[e]at this;cases this
theorem Inv.bs (I:Inv X pins σ H s):∀b o,X.base.get? b=some o->s.heap.get? b=some o/\H b=none:=λb o e =>
 ⟨I.base.keep b o (I.ok.bs b o e).1 (I.ok.bs b o e).2 (I.ok.nofr e) (I.ok.noex b o e),I.base.free b o (I.ok.bs b o e).1 (I.ok.bs b o e).2 (I.ok.noex b o e)⟩
theorem Inv.bk (I:Inv X pins σ H s):∀b o,X.base.get? b=some o->s.heap.get? b=some o:=λb o e=>(I.bs b o e).1
theorem Inv.mod (I:Inv X pins σ H s):Mod X.K X.mg X.base:=I.ok.mod
theorem Inv.kIn (I:Inv X pins σ H s):X.K.In s.heap:=I.ok.mod.kin.keeps I.bk
theorem Inv.lt (I:Inv X pins σ H s):X.env.locals<s.heap.objs.size:=let ⟨_,hn,_⟩:=I.loc;hn.lt
theorem Inv.sz (I:Inv X pins σ H s):X.s₀.heap.objs.size<=s.heap.objs.size:=Nat.le_trans I.ok.above (Nat.le_of_lt I.lt)
theorem Inv.nofs (I:Inv X pins σ H s){a:Addr}(h:s.heap.objs.size<=a):a∉X.fs:=λhb=>by
 obtain⟨_,o,ho,_⟩:=I.ok.funs.mem hb
 exact absurd (Nat.lt_of_lt_of_le (Heap.lt_size ho) (Nat.le_trans I.sz h)) (Nat.lt_irrefl _)
theorem Inv.cne (I:Inv X pins σ H s):∀x c,X.env.cells.lookup x=some c->c≠X.env.locals:=λx c e z=>by
 obtain⟨v,o,ho,hd⟩:=I.cell x c e
 obtain⟨m,⟨o',es,ep,ho',hd',_⟩,_⟩:=I.loc
 rw[z,ho']at ho;cases ho;rw[hd']at hd;cases hd
theorem Inv.funs (I:Inv X pins σ H s):s.heap.FunFrames X.base X.outer:=by
 have all:∀(l:List Env),(∀b∈frs l,b∈X.fs)->X.s₀.heap.FunFrames X.base l->s.heap.FunFrames X.base l:=by
  intro l
  induction l with
  | nil=>intro _ _;trivial
  | cons env r ih =>
   intro hs hl
   obtain⟨hk,⟨L,o,hf,hn,ho,hd⟩,hr⟩:=hl
   have hL:L∈X.fs:=hs L (by unfold frs;rw[List.filterMap_cons,hf];exact List.mem_cons_self)
   obtain⟨sl,e⟩:=I.base.slot L o ho (I.ok.frf L hL) hL λz=>I.ok.exfs L z hL
   exact⟨hk,⟨L,_,hf,hn,e,hd⟩,ih (λb hb=>hs b (by unfold frs;rw[List.filterMap_cons,hf];exact List.mem_cons_of_mem _ hb)) hr⟩
 exact all X.outer (λ_ hb=>hb) I.ok.funs
theorem Inv.stack (I:Inv X pins σ H s):s.heap.FunFrames X.base X.stack:=by
 rcases I.ok.stk with e | ⟨e,hf⟩
 ·rw[e];exact I.funs
 ·rw[e]
  obtain⟨m,hn,_⟩:=I.loc
  refine .cons (by rw[I.ok.kind];decide) hf hn ?_ I.funs
  exact Heap.get?_none_of_le (Nat.le_trans I.ok.bsz I.ok.above)
theorem Inv.stkSub (I:Inv X pins σ H s):∀b∈frs X.stack,b∈X.env.locals::X.fs:=λb hb=>by
 rcases I.ok.stk with e | ⟨e,hf⟩
 ·rw[e]at hb;exact List.mem_cons_of_mem _ hb
 ·rw[e]at hb
  unfold frs at hb
  rw[List.filterMap_cons,hf]at hb
  exact hb
theorem Inv.stkFree (I:Inv X pins σ H s):∀b∈frs X.stack,H b=none:=λb hb=>by
 rcases List.mem_cons.mp (I.stkSub b hb)with e | hb
 ·rw[e];exact I.free
 ·obtain⟨_,o,ho,_⟩:=I.ok.funs.mem hb
  exact I.base.free b o ho (I.ok.frf b hb) λz=>I.ok.exfs b z hb
theorem Inv.step {g':Array GenState}{t':Nat}{d':Drawn}{ch:List Addr}(I:Inv X pins σ H s)
  (hch:∀b∈ch,(b∈X.ex\/X.s₀.heap.objs.size<=b)/\b≠X.env.locals/\(∀x c,X.env.cells.lookup x=some c->c≠b)/\∀p∈X.pn++pins,p.1≠b)
  (keep:∀b o,b≠X.env.locals->b∉X.fs->b∉ch->s.heap.get? b=some o->H b=none->h'.get? b=some o)
  (slot:∀b o,b≠X.env.locals->b∈X.fs->b∉ch->s.heap.get? b=some o->H b=none->∃sl,h'.get? b=some { o with slots:=sl }) (free:∀b o,b∉ch->s.heap.get? b=some o->H b=none->H' b=none)
  (there:∀b o,b∉ch->s.heap.get? b=some o->∃o',h'.get? b=some o')
  (tups:∀b xs,H b=some (.tup xs)->H' b=some (.tup xs)) (frzs:∀b o u,H b=some (.frz o u)->H' b=some (.frz o u)) (tbls:∀b ps,H b=some (.tbl ps)->∃more,H' b=some (.tbl (ps++more)))
  (ns:∀m,s.heap.Ns X.env.locals m->h'.Ns X.env.locals m) (hok:HOk X.prog X.w H' h') (hg:AllBare g') :
  Inv X pins σ H' { s with heap:=h',gens:=g',drawn:=d',toks:=t' }:=by
 have neL:∀b o,X.s₀.heap.get? b=some o->b≠X.env.locals:=λb o e=>Nat.ne_of_lt (Nat.lt_of_lt_of_le (Heap.lt_size e) I.ok.above)
 have neC:∀b o,X.s₀.heap.get? b=some o->b∉X.ex->b∉ch:=λb o e hx hb=>by
  rcases(hch b hb).1 with z | z
  ·exact hx z
  ·exact absurd (Nat.lt_of_lt_of_le (Heap.lt_size e) z) (Nat.lt_irrefl _)
 have cellK:∀x c,X.env.cells.lookup x=some c->∀v,s.heap.IsCell c v->h'.IsCell c v:=λx c e v ⟨o,ho,hd⟩=>by
  have nch:c∉ch:=λz=>(hch c z).2.2.1 x c e rfl
  by_cases hc:c∈X.fs
  ·obtain⟨sl,q⟩:=slot c o (I.cne x c e) hc nch ho (I.freeC x c e)
   exact⟨_,q,hd⟩
  ·exact⟨o,keep c o (I.cne x c e) hc nch ho (I.freeC x c e),hd⟩
 refine⟨I.ok,I.os,hg,⟨λb o e n hb hx=>?_,λb o e n hb hx=>?_,λb o e n hx=>?_,λb o e hx=>?_,λb xs e=>tups b xs (I.base.tups b xs e),λb o xs e=>frzs b o xs (I.base.frzs b o xs e),λb ps e=>?_⟩,?_,λx c e=>?_,?_,λx c e=>?_,λp hp=>?_,hok,I.len⟩
 ·exact keep b o (neL b o e) hb (neC b o e hx) (I.base.keep b o e n hb hx) (I.base.free b o e n hx)
 ·obtain⟨sl,e1⟩:=I.base.slot b o e n hb hx
  obtain⟨sl',e2⟩:=slot b _ (neL b o e) hb (neC b o e hx) e1 (I.base.free b o e n hx)
  exact⟨sl',e2⟩
 ·obtain⟨o',e1⟩:=I.base.there b o e hx
  exact free b o' (neC b o e hx) e1 (I.base.free b o e n hx)
 ·obtain⟨o',e1⟩:=I.base.there b o e hx
  exact there b o' (neC b o e hx) e1
 ·obtain⟨m1,e1⟩:=I.base.tbls b ps e
  obtain⟨m2,e2⟩:=tbls b _ e1
  exact⟨m1++m2,by rw[e2,Array.append_assoc]⟩
 ·obtain⟨m,hn,hl⟩:=I.loc
  refine⟨m,ns m hn,λi x v e1 e2 e3=>?_⟩
  obtain⟨u,r,l⟩:=hl i x v e1 e2 e3
  refine⟨u,r,?_⟩
  rcases l with l | ⟨k,c,e,z⟩
  ·exact .inl l
  ·exact .inr ⟨k,c,e,cellK x c e _ z⟩
 ·obtain⟨v,z⟩:=I.cell x c e
  exact⟨v,cellK x c e v z⟩
 ·obtain⟨m,⟨o,_,_,ho,_⟩,_⟩:=I.loc
  exact free _ o (λz=>(hch _ z).2.1 rfl) ho I.free
 ·obtain⟨v,o,ho,hd⟩:=I.cell x c e
  exact free c o (λz=>(hch c z).2.2.1 x c e rfl) ho (I.freeC x c e)
 ·obtain⟨e,n,ne,nf,d⟩:=I.pin p hp
  have nch:p.1∉ch:=λz=>(hch p.1 z).2.2.2 p hp rfl
  exact⟨keep p.1 p.2 ne nf nch e n,free p.1 p.2 nch e n,ne,nf,d⟩
theorem Inv.un {t':Nat}(I:Inv X pins σ H s) (u:Un X.fs [] H H' s.heap h') (hok:HOk X.prog X.w H' h'):Inv X pins σ H' { s with heap:=h',toks:=t' }:=by
 obtain⟨m,⟨o,es,ep,ho,r⟩,_⟩:=id I.loc
 obtain⟨sl,hL⟩:=u.any ho I.free (by simp)
 exact I.step (g':=s.gens) (d':=s.drawn) (ch:=[]) (λ_ z=>nomatch z) (λb o _ hb _ e n=>u.keep b o e n hb (by simp)) (λb o _ hb _ e n=>u.slot b o e n hb (by simp)) (λb o _ e n=>u.free b o e n (by simp)) (λb o _ e=>u.there b o e (by simp)) u.tups u.frzs u.tbls (λm' hm=>by
  obtain⟨o',es',ep',ho',r'⟩:=hm
  rw[ho]at ho';cases ho'
  exact⟨_,es',ep',hL,r'⟩) hok I.bare
theorem Inv.call {g':Array GenState}{t':Nat}{d':Drawn}{ch:List Addr}(I:Inv X pins σ H s) (u:Un (frs X.stack) ch H H' s.heap h') (hok:HOk X.prog X.w H' h') (hg:AllBare g')
  (hch:∀b∈ch,(b∈X.ex\/X.s₀.heap.objs.size<=b)/\b≠X.env.locals/\(∀x c,X.env.cells.lookup x=some c->c≠b)/\∀p∈X.pn++pins,p.1≠b) :
  Inv X pins σ H' { s with heap:=h',gens:=g',drawn:=d',toks:=t' }:=by
 obtain⟨m,⟨o,es,ep,ho,r⟩,_⟩:=id I.loc
 obtain⟨sl,hL⟩:=u.any ho I.free λz=>(hch _ z).2.1 rfl
 exact I.step (ch:=ch) hch (λb o hL hb hc e n=>u.keep b o e n (λz=>(List.mem_cons.mp (I.stkSub b z)).elim hL hb) hc) (λb o _ _ hc e n=>u.any e n hc) (λb o hc e n=>u.free b o e n hc) (λb o hc e=>u.there b o e hc) u.tups u.frzs u.tbls (λm' hm=>by
  obtain⟨o',es',ep',ho',r'⟩:=hm
  rw[ho]at ho';cases ho'
  exact⟨_,es',ep',hL,r'⟩) hok hg
theorem Inv.turned {t':Nat}{it:Addr}(I:Inv X pins σ H s) (k:∀b o,b≠it->s.heap.get? b=some o->h'.get? b=some o) (hn:H it=none) (hL:it≠X.env.locals)
  (h1:it∈X.ex\/X.s₀.heap.objs.size<=it) (h2:∀x c,X.env.cells.lookup x=some c->c≠it) (h3:∀p∈X.pn++pins,p.1≠it):Inv X pins σ H { s with heap:=h',toks:=t' }:=by
 have nit:∀b u,H b=some u->b≠it:=λb u e z=>by rw[z,hn]at e;cases e
 refine I.step (g':=s.gens) (d':=s.drawn) (ch:=[it]) (λb hb=>?_) (λb o _ _ hc e _=>k b o (λz=>hc (by simp[z])) e) (λb o _ _ hc e _=>⟨o.slots,k b o (λz=>hc (by simp[z])) e⟩) (λ_ _ _ _ n=>n)
  (λb o hc e=>⟨o,k b o (λz=>hc (by simp[z])) e⟩) (λ_ _ e=>e) (λ_ _ _ e=>e) (λb ps e=>⟨#[],by rw[e];simp⟩) (λm hm=>?_) (λb u e=>?_) I.bare
 ·have e:b=it:=by simpa using hb
  subst e
  exact⟨h1,hL,h2,h3⟩
 ·obtain⟨o,es,ep,ho,r⟩:=hm
  exact⟨o,es,ep,k _ o (Ne.symm hL) ho,r⟩
 ·refine(I.hok b u e).stay (λc v hc q=>k c v ?_ q) (λ_ q=>q) λ_ _ q=>q
  rcases hc with z | z
  ·rw[z];exact nit b u e
  ·exact nit c _ z
theorem Inv.tok (I:Inv X pins σ H s) (t:Nat):Inv X pins σ H { s with toks:=t }:=I.un (h':=s.heap) (t':=t) Un.refl I.hok
theorem Inv.kept {t':Nat}(I:Inv X pins σ H s) (k:∀b u,s.heap.get? b=some u->h'.get? b=some u):Inv X pins σ H { s with heap:=h',toks:=t' }:=I.un (Un.kept k) (I.hok.kept k)
theorem Inv.laid {a:Addr}{o:HO}{t':Nat}(I:Inv X pins σ H s) (k:∀b u,s.heap.get? b=some u->h'.get? b=some u) (hp:s.heap.objs.size<=a) (new:xo X.prog X.w (upd H a o) h' a o) :
  Inv X pins σ (upd H a o) { s with heap:=h',toks:=t' }:=I.un (Un.laid k hp (I.hok.fresh hp)) (I.hok.laid k hp new)
theorem Inv.write {x e:Addr}{o:HO}{t':Nat}(I:Inv X pins σ H s) (mu:Mut (H x)) (he:e=x\/H e=some (.own x)) (k:∀b u,b≠e->s.heap.get? b=some u->h'.get? b=some u) (heo:∃u,h'.get? e=some u)
  (new:xo X.prog X.w (upd H x o) h' x o):Inv X pins σ (upd H x o) { s with heap:=h',toks:=t' }:=I.un (Un.write mu he k heo) (I.hok.write mu he k heo new)
theorem Inv.pins_of {pins':List (Addr×Obj)} (I:Inv X pins σ H s) (h:∀p∈pins',s.heap.get? p.1=some p.2/\H p.1=none/\p.1≠X.env.locals/\p.1∉X.fs/\∀v,p.2.data≠.cell v):Inv X pins' σ H s :=
 ⟨I.ok,I.os,I.bare,I.base,I.loc,I.cell,I.free,I.freeC,λp hp=>(List.mem_append.mp hp).elim (λz=>I.pin p (List.mem_append_left _ z)) (h p),I.hok,I.len⟩
theorem Xc {N:List Str}(hN:N.Nodup){i j:Nat}{x:Str}(a:N[i]? = some x) (b:N[j]? = some x):i=j:=by
 obtain⟨h1,e1⟩:=List.getElem?_eq_some_iff.mp a
 obtain⟨h2,e2⟩:=List.getElem?_eq_some_iff.mp b
 exact(List.getElem_inj hN).mp (e1.trans e2.symm)
theorem XX {M:Model}{A:Around}{E:Value->Shared->Prop}{i:Nat}{x:Str}{v:V}{u:Value}{Q:Unit->Shared->Prop}(I:Inv X pins σ H s) (hN:X.N.Nodup) (hi:X.N[i]? = some x) (hx:Loc X.env.scope x) (r:xj v u)
  (h:∀s',Inv X pins (σ.set i (some v)) H s'->(∃a,Heap.SameBut a s.heap s'.heap/\(a=X.env.locals\/X.env.cells.lookup x=some a))->Q () s') (hf:X.fn x=true\/X.env.scope.names.lookup x=some .local := by first | exact .inl rfl | exact .inr rfl | assumption):wpAny M A (storeName X.env x u) Q E s:=by
 obtain⟨m,hn,hl⟩:=id I.loc
 have hcls:(X.env.scope.kind == .class || (X.env.scope.kind == .module&&X.env.locals != X.env.globals))=false:=by rw[I.ok.kind];rfl
 have hiσ:i<σ.length:=by rw[I.len];exact(List.getElem?_eq_some_iff.mp hi).1
 have cne:=I.cne
 have tracked:∀{a:Addr}{h':Heap},(∃o,s.heap.get? a=some o/\H a=none)->Heap.SameBut a s.heap h'->HOk X.prog X.w H h':=λ{a h'} ha hs b ob e=>by
  obtain⟨_,_,hfree⟩:=ha
  refine(I.hok b ob e).stay (λc w' hc q=>(hs.2 c ?_).trans q) (λ_ q=>q) λ_ _ q=>q
  rintro rfl
  rcases hc with rfl | hc
  ·rw[hfree]at e;cases e
  ·rw[hfree]at hc;cases hc
 rcases hx with hk | hk
 ·refine wpAny_storeName_local hk hn (λh' hn' hs=>?_) hcls
  obtain⟨oL,_,_,hoL,_⟩:=id hn
  refine h _ ⟨I.ok,I.os,I.bare,⟨λb o e n hb hx=>?_,λb o e n hb hx=>?_,I.base.free,λb o e hx=>?_,I.base.tups,I.base.frzs,I.base.tbls⟩,⟨_,hn',λj y v' e1 e2 e3=>?_⟩,λy c e=>?_,I.free,I.freeC,λp hp=>?_,tracked ⟨oL,hoL,I.free⟩ hs,by simpa using I.len⟩ ⟨_,hs,.inl rfl⟩
  ·exact(hs.2 b (Nat.ne_of_lt (Nat.lt_of_lt_of_le (Heap.lt_size e) I.ok.above))).trans (I.base.keep b o e n hb hx)
  ·obtain⟨sl,e1⟩:=I.base.slot b o e n hb hx
   exact⟨sl,(hs.2 b (Nat.ne_of_lt (Nat.lt_of_lt_of_le (Heap.lt_size e) I.ok.above))).trans e1⟩
  ·obtain⟨o',e1⟩:=I.base.there b o e hx
   exact⟨o',(hs.2 b (Nat.ne_of_lt (Nat.lt_of_lt_of_le (Heap.lt_size e) I.ok.above))).trans e1⟩
  ·by_cases hj:j=i
   ·subst hj
    rw[hi]at e1;cases e1
    rw[List.getElem?_set_self hiσ]at e2
    cases e2
    exact⟨u,r,.inl ⟨hk,by simp⟩⟩
   ·rw[List.getElem?_set_ne (Ne.symm hj)]at e2
    obtain⟨u',r',q⟩:=hl j y v' e1 e2 e3
    refine⟨u',r',?_⟩
    rcases q with⟨k,e⟩ | ⟨k,c,e,z⟩
    ·refine .inl ⟨k,?_⟩
     have:y≠x:=λe=>hj (Xc hN e1 (e ▸ hi))
     simp[this,e]
    ·exact .inr ⟨k,c,e,z.sameBut hs (cne y c e)⟩
  ·obtain⟨w',z⟩:=I.cell y c e
   exact⟨w',z.sameBut hs (cne y c e)⟩
  ·obtain⟨e,n,ne,nf,d⟩:=I.pin p hp
   exact⟨(hs.2 p.1 ne).trans e,n,ne,nf,d⟩
 ·have hfn:X.fn x=true:=by
   rcases hf with z | z
   ·exact z
   ·rw[z]at hk;cases hk
  obtain⟨c,hc⟩:=I.ok.has x (.inl hk)
  obtain⟨w',z⟩:=I.cell x c hc
  refine wpAny_storeName_cell I.ok.kind hk hc z (λh' hc' hs=>?_)
  obtain⟨oc,hoc,hocd⟩:=id z
  refine h { s with heap:=h' } ⟨I.ok,I.os,I.bare,⟨λb o e n hb hx=>?_,λb o e n hb hx=>?_,I.base.free,λb o e hx=>?_,I.base.tups,I.base.frzs,I.base.tbls⟩,⟨m,hn.sameBut hs (Ne.symm (cne x c hc)),λj y v' e1 e2 e3=>?_⟩,λy c' e=>?_,I.free,I.freeC,λp hp=>?_,tracked ⟨oc,hoc,I.freeC x c hc⟩ hs,by simpa using I.len⟩ ⟨c,hs,.inr hc⟩
  ·exact(hs.2 b (Nat.ne_of_lt (Nat.lt_of_lt_of_le (Heap.lt_size e) (I.ok.cab x c hfn hc)))).trans (I.base.keep b o e n hb hx)
  ·obtain⟨sl,e1⟩:=I.base.slot b o e n hb hx
   exact⟨sl,(hs.2 b (Nat.ne_of_lt (Nat.lt_of_lt_of_le (Heap.lt_size e) (I.ok.cab x c hfn hc)))).trans e1⟩
  ·obtain⟨o',e1⟩:=I.base.there b o e hx
   exact⟨o',(hs.2 b (Nat.ne_of_lt (Nat.lt_of_lt_of_le (Heap.lt_size e) (I.ok.cab x c hfn hc)))).trans e1⟩
  ·by_cases hj:j=i
   ·subst hj
    rw[hi]at e1;cases e1
    rw[List.getElem?_set_self hiσ]at e2
    cases e2
    exact⟨u,r,.inr ⟨.inl hk,c,hc,hc'⟩⟩
   ·rw[List.getElem?_set_ne (Ne.symm hj)]at e2
    obtain⟨u',r',q⟩:=hl j y v' e1 e2 e3
    refine⟨u',r',?_⟩
    rcases q with q | ⟨k,c',e,z'⟩
    ·exact .inl q
    ·refine .inr ⟨k,c',e,z'.sameBut hs ?_⟩
     rintro rfl
     exact hj (Xc hN e1 (I.ok.inj _ _ _ e hc ▸ hi))
  ·by_cases hcc:c'=c
   ·subst hcc;exact⟨_,hc'⟩
   ·obtain⟨w2,z2⟩:=I.cell y c' e
    exact⟨w2,z2.sameBut hs hcc⟩
  ·obtain⟨e,n,ne,nf,d⟩:=I.pin p hp
   refine⟨(hs.2 p.1 ?_).trans e,n,ne,nf,d⟩
   intro q
   rw[q,hoc]at e
   have q':oc=p.2:=Option.some.inj e
   exact d w' (by rw[<-q'];exact hocd)
theorem jv {M:Model}{A:Around}{E:Value->Shared->Prop}{i:Nat}{x:Str}{v:V}{u:Value}{Q:Unit->Shared->Prop}(I:Inv X pins σ H s) (hN:X.N.Nodup) (hi:X.N[i]? = some x) (hx:Loc X.env.scope x) (r:xj v u)
  (h:∀s',Inv X pins (σ.set i (some v)) H s'->Q () s') (hf:X.fn x=true\/X.env.scope.names.lookup x=some .local := by first | exact .inl rfl | exact .inr rfl | assumption):wpAny M A (storeName X.env x u) Q E s :=
 XX I hN hi hx r (λs' I' _=>h s' I') hf
theorem Inv.call' {s':Shared}{ch:List Addr}(I:Inv X pins σ H s) (ho:s'.os=s.os) (u:Un (frs X.stack) ch H H' s.heap s'.heap) (hok:HOk X.prog X.w H' s'.heap) (hg:AllBare s'.gens)
  (hch:∀b∈ch,(b∈X.ex\/X.s₀.heap.objs.size<=b)/\b≠X.env.locals/\(∀x c,X.env.cells.lookup x=some c->c≠b)/\∀p∈X.pn++pins,p.1≠b):Inv X pins σ H' s':=by
 obtain⟨h',g',d',t',o'⟩:=s'
 have e:o'=s.os:=ho
 subst e
 exact I.call (g':=g') (t':=t') (d':=d') u hok hg hch
end
abbrev XK:=Value->Option Addr->Hp->Prop
abbrev St:=List (Option V)
abbrev VK:=V->Hp->Prop
abbrev TE:=St->Hp->VK->Prop
abbrev TT:=St->Hp->(Bool->Hp->Prop)->Prop
abbrev TA:=St->Hp->(List V->Hp->Prop)->Prop
structure qQ where
 nx:St->Hp->Prop
 rt:VK
 bk:St->Hp->Prop:=λ_ _=>False
 ct:St->Hp->Prop:=λ_ _=>False
abbrev TS:=qQ->St->Hp->Prop
def EP (X:Cx) (pins:List (Addr×Obj)) (σ:St) (Q:VK) (u:Value) (s':Shared):Prop:=∃v H',Inv X pins σ H' s'/\xj v u/\Q v H'
def TP (X:Cx) (pins:List (Addr×Obj)) (σ:St) (Q:Bool->Hp->Prop) (b:Bool) (s':Shared):Prop:=∃H',Inv X pins σ H' s'/\Q b H'
def AP (X:Cx) (pins:List (Addr×Obj)) (σ:St) (Q:List V->Hp->Prop) (us:List Value) (s':Shared):Prop:=∃vs H',Inv X pins σ H' s'/\zU vs us/\Q vs H'
def SP (X:Cx) (pins:List (Addr×Obj)) (D:qQ) (f:Flow) (s':Shared):Prop :=
 match f with
 | .next=>∃σ' H',Inv X pins σ' H' s'/\D.nx σ' H'
 | .brk=>∃σ' H',Inv X pins σ' H' s'/\D.bk σ' H'
 | .cont=>∃σ' H',Inv X pins σ' H' s'/\D.ct σ' H'
 | .ret u=>∃v σ' H',Inv X pins σ' H' s'/\xj v u/\D.rt v H'
def PE (X:Cx) (e:Expr) (t:TE):Prop :=
 ∀(pins:List (Addr×Obj)) (s:Shared) (σ:St) (H:Hp) (Q:VK),Inv X pins σ H s->t σ H Q->wpAny (model X.prog X.w) X.A (eval e X.env) (EP X pins σ Q) X.xe s
def PT (X:Cx) (e:Expr) (t:TT):Prop :=
 ∀(pins:List (Addr×Obj)) (s:Shared) (σ:St) (H:Hp) (Q:Bool->Hp->Prop),Inv X pins σ H s->t σ H Q->wpAny (model X.prog X.w) X.A (isTrue e X.env (eval e X.env)) (TP X pins σ Q) X.xe s
def PW (X:Cx) (e:Expr) (t:TT):Prop :=
 ∀(whole:Sem Value) (pins:List (Addr×Obj)) (s:Shared) (σ:St) (H:Hp) (Q:Bool->Hp->Prop),Inv X pins σ H s->t σ H Q->wpAny (model X.prog X.w) X.A (isTrue e X.env whole) (TP X pins σ Q) X.xe s
theorem PW.pt {X:Cx}{e:Expr}{t:TT}(h:PW X e t):PT X e t:=h _
def PA (X:Cx) (es:List Expr) (t:TA):Prop :=
 ∀(pos:Pos) (pins:List (Addr×Obj)) (s:Shared) (σ:St) (H:Hp) (Q:List V->Hp->Prop),Inv X pins σ H s->t σ H Q->wpAny (model X.prog X.w) X.A (spliced (backTo pos (starEach es X.env))) (AP X pins σ Q) X.xe s
def PS (X:Cx) (st:Stmt) (t:TS):Prop :=
 ∀(pins:List (Addr×Obj)) (s:Shared) (σ:St) (H:Hp) (D:qQ),Inv X pins σ H s->t D σ H->wpAny (model X.prog X.w) X.A (exec st X.env) (SP X pins D) X.xe s
def PSs (X:Cx) (st:List Stmt) (t:TS):Prop :=
 ∀(pins:List (Addr×Obj)) (s:Shared) (σ:St) (H:Hp) (D:qQ),Inv X pins σ H s->t D σ H->wpAny (model X.prog X.w) X.A (execs st X.env) (SP X pins D) X.xe s
theorem thn {α:Type}{t:Sem α}{Q Q':α->Shared->Prop}{M:Model}{A:Around}{E:Value->Shared->Prop}{s:Shared}(h:wpAny M A t Q E s) (hQ:∀a s,Q a s->Q' a s):wpAny M A t Q' E s:=wpAny_mono h hQ λ_ _ x=>x
end L2
namespace L2
open PySem PySem.Spec PyProof.Rows
section
variable {X:Cx}
def xQ (i:Nat):TE:=λσ H Q=>∃v,σ[i]? = some (some v)/\Q v H
def tC (v:V):TE:=λ_ H Q=>Q v H
theorem zef {i:Nat}{x:Str}{pos:Pos}(hN:X.N[i]? = some x) (hv:Vis X.env.scope x) (hd:(x == ("__debug__":Str))=false:=by decide) (hcd:(x == ("__classdict__":Str))=false:=by decide):PE X (.Name x pos) (xQ i):=by
 intro pins s σ H Q I h
 obtain⟨v,e,h⟩:=h
 obtain⟨m,hn,hl⟩:=I.loc
 obtain⟨u,r,l⟩:=hl i x v hN e hv
 have fin:EP X pins σ Q u s:=⟨v,H,I,r,h⟩
 rcases l with⟨hk,hm⟩ | ⟨hk,c,hc,hcell⟩
 ·exact wpAny_Name (wpAny_loadName_local I.ok.kind hk hn hm fin) hd
 ·rcases hk with hk | hk
  ·exact wpAny_Name (wpAny_loadName_cell I.ok.kind hk hc hcell fin) hd
  ·exact wpAny_Name (wpAny_loadName_free I.ok.kind hk hc hcell fin hcd) hd
theorem zd {i j pos}:PE X (.Constant (.int i) j pos) (tC (.int i)):=λ_ _ _ H _ I h=>wpAny_Constant_int ⟨.int i,H,I.tok _,⟨_,rfl⟩,h⟩
theorem Zy {b j pos}:PE X (.Constant (.bool b) j pos) (tC (.bl b)):=λ_ _ _ H _ I h=>Constant_bool ⟨.bl b,H,I,rfl,h⟩
theorem zX {j pos}:PE X (.Constant .none j pos) (tC .non):=λ_ _ _ H _ I h=>Constant_none ⟨.non,H,I,rfl,h⟩
theorem vV {x j pos}:PE X (.Constant (.str x) j pos) (tC (.str x)):=λ_ _ _ H _ I h=>Calls.Constant_str ⟨.str x,H,I.tok _,⟨_,rfl⟩,h⟩
def Gl (X:Cx) (x:Str):Prop:=X.env.kindOf x=some .globalImplicit
theorem jb {E:Value->Shared->Prop}{pins:List (Addr×Obj)}{s:Shared}{σ:St}{H:Hp}{x:Str}{u:Value}{pos:Pos}{Q:Value->Shared->Prop}(I:Inv X pins σ H s) (hg:Gl X x) (hm:X.mg x=some u) (h:Q u s)
  (hd:(x == ("__debug__":Str))=false:=by decide):wpAny (model X.prog X.w) X.A (eval (.Name x pos) X.env) Q E s :=
 Calls.Name_function_global I.ok.kind hg (Calls.loadGlobal_global (by rw[I.ok.glob];exact I.mod.glob.keeps I.bk) hm h) hd
theorem jm {E:Value->Shared->Prop}{pins:List (Addr×Obj)}{s:Shared}{σ:St}{H:Hp}{x:Str}{u:Value}{pos:Pos}{Q:Value->Shared->Prop}(I:Inv X pins σ H s) (hg:Gl X x) (hm:X.mg x=none) (hv:bootBuiltins x=some u) (h:Q u s)
  (hn:x≠"__name__":=by decide) (hd:(x == ("__debug__":Str))=false:=by decide):wpAny (model X.prog X.w) X.A (eval (.Name x pos) X.env) Q E s:=by
 obtain⟨mb,h1,h2⟩:=I.mod.blt
 exact Calls.Name_function_global I.ok.kind hg (Calls.loadGlobal_builtin (by rw[I.ok.glob];exact I.mod.glob.keeps I.bk) hm (by rw[I.ok.blt];exact h1.keeps I.bk) ((h2 x hn).trans hv) h) hd
theorem jS {x:Str}{v:V}{u:Value}{pos:Pos}(hg:Gl X x) (hm:X.mg x=some u) (r:xj v u) (hd:(x == ("__debug__":Str))=false:=by decide):PE X (.Name x pos) (tC v) :=
 λ_ _ _ H _ I h=>jb I hg hm ⟨v,H,I,r,h⟩ hd
theorem Qj {x:Str}{v:V}{u:Value}{pos:Pos}(hg:Gl X x) (hm:X.mg x=none) (hv:bootBuiltins x=some u) (r:xj v u) (hn:x≠"__name__":=by decide) (hd:(x == ("__debug__":Str))=false:=by decide):PE X (.Name x pos) (tC v) :=
 λ_ _ _ H _ I h=>jm I hg hm hv ⟨v,H,I,r,h⟩ hn hd
variable {a b:Expr}{ta tb:TE}{pos:Pos}
variable {tA tB':TT}{rest:List Expr}
def tAnd (t u:TT):TT:=λσ H Q=>t σ H λc H1=>if c=true then u σ H1 Q else Q false H1
def tOr (t u:TT):TT:=λσ H Q=>t σ H λc H1=>if c=true then Q true H1 else u σ H1 Q
def tNot (t:TT):TT:=λσ H Q=>t σ H λc H1=>Q (!c) H1
theorem vf (ha:PT X a tA):PW X (.BoolOp .And [a] pos) tA:=by
 intro wh pins s σ H Q I h
 refine isTrue_and (thn (ha pins s σ H Q I h) λc s1 e=>?_)
 cases c with
 | true=>exact isTrue_and_nil e
 | false=>exact e
theorem jd (ha:PT X a tA):PW X (.BoolOp .Or [a] pos) tA:=by
 intro wh pins s σ H Q I h
 refine isTrue_or (thn (ha pins s σ H Q I h) λc s1 e=>?_)
 cases c with
 | false=>exact isTrue_or_nil e
 | true=>exact e
theorem vX (ha:PT X a tA) (hb:PW X (.BoolOp .And (b::rest) pos) tB'):PW X (.BoolOp .And (a::b::rest) pos) (tAnd tA tB'):=by
 intro wh pins s σ H Q I h
 refine isTrue_and (thn (ha pins s σ H _ I h) λc s1 ⟨H1,I1,q1⟩=>?_)
 cases c with
 | true=>exact hb wh pins s1 σ H1 Q I1 q1
 | false=>exact⟨H1,I1,q1⟩
theorem jq (ha:PT X a tA) (hb:PW X (.BoolOp .Or (b::rest) pos) tB'):PW X (.BoolOp .Or (a::b::rest) pos) (tOr tA tB'):=by
 intro wh pins s σ H Q I h
 refine isTrue_or (thn (ha pins s σ H _ I h) λc s1 ⟨H1,I1,q1⟩=>?_)
 cases c with
 | true=>exact⟨H1,I1,q1⟩
 | false=>exact hb wh pins s1 σ H1 Q I1 q1
theorem Qm (ha:PT X a tA):PT X (.UnaryOp .Not a pos) (tNot tA):=by
 intro pins s σ H Q I h
 exact isTrue_not (ha pins s σ H (λc H1=>Q (!c) H1) I h)
def zf5 (ta tb:TE):TE:=λσ H Q=>ta σ H λx H1=>∃c,x = .bl c/\if c=true then tb σ H1 Q else Q (.bl false) H1
def tOrV (ta tb:TE):TE:=λσ H Q=>ta σ H λx H1=>∃c,x = .bl c/\if c=true then Q (.bl true) H1 else tb σ H1 Q
def zga (ta:TE):TE:=λσ H Q=>ta σ H λx H1=>∃c,x = .bl c/\Q (.bl (!c)) H1
theorem Qk {op}{t:TE}(h:PE X a t):PE X (.BoolOp op [a] pos) t:=λpins s σ H Q I hw=>BoolOp_one (h pins s σ H Q I hw)
theorem VH (ha:PE X a ta) (hb:PE X (.BoolOp .And (b::rest) pos) tb):PE X (.BoolOp .And (a::b::rest) pos) (zf5 ta tb):=by
 intro pins s σ H Q I h
 refine BoolOp_and (thn (ha pins s σ H _ I h) λv s1 ⟨x,H1,I1,r1,q1⟩=>?_)
 obtain⟨c,rfl,q1⟩:=q1
 cases r1
 refine wpAny_truthy_bool ?_
 cases c with
 | true=>exact hb pins s1 σ H1 Q I1 q1
 | false=>exact⟨.bl false,H1,I1,rfl,q1⟩
theorem zft (ha:PE X a ta) (hb:PE X (.BoolOp .Or (b::rest) pos) tb):PE X (.BoolOp .Or (a::b::rest) pos) (tOrV ta tb):=by
 intro pins s σ H Q I h
 refine BoolOp_or (thn (ha pins s σ H _ I h) λv s1 ⟨x,H1,I1,r1,q1⟩=>?_)
 obtain⟨c,rfl,q1⟩:=q1
 cases r1
 refine wpAny_truthy_bool ?_
 cases c with
 | false=>exact hb pins s1 σ H1 Q I1 q1
 | true=>exact⟨.bl true,H1,I1,rfl,q1⟩
theorem zee (ha:PE X a ta):PE X (.UnaryOp .Not a pos) (zga ta):=by
 intro pins s σ H Q I h
 refine UnaryOp_ (thn (ha pins s σ H _ I h) λv s1 ⟨x,H1,I1,r1,q1⟩=>?_)
 obtain⟨c,rfl,q1⟩:=q1
 cases r1
 exact not_of (wpAny_truthy_bool ⟨.bl (!c),H1,I1,rfl,q1⟩)
def tIf (t:TT) (ta tb:TE):TE:=λσ H Q=>t σ H λc H1=>if c=true then ta σ H1 Q else tb σ H1 Q
theorem zbh {c:Expr}(hc:PT X c tA) (ha:PE X a ta) (hb:PE X b tb):PE X (.IfExp c a b pos) (tIf tA ta tb):=by
 intro pins s σ H Q I h
 refine wpAny_IfExp (thn (hc pins s σ H _ I h) λd s1 ⟨H1,I1,q1⟩=>?_)
 cases d with
 | true=>exact ha pins s1 σ H1 Q I1 q1
 | false=>exact hb pins s1 σ H1 Q I1 q1
end
end L2
namespace L2
open PySem PySem.Spec PyProof.Rows
def SqL (K:PySem.W.Frag) (H:Hp) (a:Addr) (xs:List V):Prop :=
 Rd H a (.lst xs) ∨
  ∃(o:Obj) (its:Array Value) (n:Nat),K.lookup a=some o/\o.cls = .type "list"/\o.dict=none/\o.data = .seq its n/\its.size<=sizeLine/\zU xs its.toList
def SqT (K:PySem.W.Frag) (H:Hp) (a:Addr) (xs:List V):Prop :=
 Rd H a (.tup xs) ∨
  ∃(o:Obj) (its:Array Value) (n:Nat),K.lookup a=some o/\o.cls = .type "tuple"/\o.data = .seq its n/\its.size<=sizeLine/\zU xs its.toList
def absV:Value->Option V
 | .none=>some .non
 | .bool b=>some (.bl b)
 | .int i _=>some (.int i)
 | .str x _=>some (.str x)
 | .bytes b _=>some (.byt b)
 | .float b _=>some (.flt b)
 | .ref a=>some (.ref a)
 | .type n=>some (.ty n)
 | _=>none
theorem xj.abs {x:V}{u:Value}(r:xj x u):absV u=some x:=by
 cases x with
 | non=>cases r;rfl
 | bl _=>cases r;rfl
 | int _=>obtain⟨t,rfl⟩:=r;rfl
 | str _=>obtain⟨t,rfl⟩:=r;rfl
 | byt _=>obtain⟨t,rfl⟩:=r;rfl
 | flt _=>obtain⟨t,rfl⟩:=r;rfl
 | ref _=>cases r;rfl
 | ty _=>cases r;rfl
theorem xj.inj {x y:V}{u:Value}(r:xj x u) (q:xj y u):x=y:=Option.some.inj (r.abs.symm.trans q.abs)
theorem zU.inj:∀{xs ys:List V}{us:List Value},zU xs us->zU ys us->xs=ys
 | _,_,_,.nil,.nil=>rfl
 | _,_,_,.cons r t,.cons r' t'=>by rw[r.inj r',zU.inj t t']
section
variable {X:Cx}{pins:List (Addr×Obj)}{σ:St}{H:Hp}{s:Shared}{a:Addr}{xs ys:List V}
theorem SqL.of {K:PySem.W.Frag}(h:H a=some (.lst xs)):SqL K H a xs:=.inl (.inl h)
theorem SqT.of {K:PySem.W.Frag}(h:H a=some (.tup xs)):SqT K H a xs:=.inl (.inl h)
theorem Inv.list (I:Inv X pins σ H s) (h:SqL X.K H a xs):∃its:List Value,zU xs its/\PlainL s.heap a its.toArray/\xs.length<=sizeLine:=by
 rcases h with h | ⟨o,its,n,hk,hc,hd,hs,hz,r⟩
 ·obtain⟨z,its,n,r,e⟩:=h.ok I.hok
  exact⟨its,r,⟨_,n,e,rfl,rfl,rfl⟩,z⟩
 ·refine⟨its.toList,r,⟨o,n,I.kIn a o hk,hc,hd,by simpa using hs⟩,?_⟩
  have e:=r.length
  simp only[Array.length_toList]at e
  omega
theorem Inv.tuple (I:Inv X pins σ H s) (h:SqT X.K H a xs):∃its:List Value,zU xs its/\IsTup s.heap a its.toArray/\xs.length<=sizeLine:=by
 rcases h with h | ⟨o,its,n,hk,hc,hs,hz,r⟩
 ·obtain⟨z,its,r,p⟩:=h.ok I.hok
  exact⟨its,r,p,z⟩
 ·refine⟨its.toList,r,⟨o,I.kIn a o hk,hc,n,by simpa using hs⟩,?_⟩
  have e:=r.length
  simp only[Array.length_toList]at e
  omega
theorem Inv.list_inj (I:Inv X pins σ H s) (h:SqL X.K H a xs) (h':SqL X.K H a ys):xs=ys:=by
 obtain⟨its,r,⟨o,n,e,_,_,d⟩,_⟩:=I.list h
 obtain⟨its',r',⟨o',n',e',_,_,d'⟩,_⟩:=I.list h'
 rw[e]at e';cases e'
 rw[d]at d'
 injection d' with d1 _
 have:its=its':=by simpa using congrArg Array.toList d1
 subst this
 exact r.inj r'
theorem Inv.tuple_inj (I:Inv X pins σ H s) (h:SqT X.K H a xs) (h':SqT X.K H a ys):xs=ys:=by
 obtain⟨its,r,⟨o,e,_,n,d⟩,_⟩:=I.tuple h
 obtain⟨its',r',⟨o',e',_,n',d'⟩,_⟩:=I.tuple h'
 rw[e]at e';cases e'
 rw[d]at d'
 injection d' with d1 _
 have:its=its':=by simpa using congrArg Array.toList d1
 subst this
 exact r.inj r'
end
abbrev Cx.wish (X:Cx) (E:Value->Shared->Prop):Cx:={ X with xe:=E }
abbrev Cx.nox (X:Cx):Cx:=X.wish λ_ _=>False
theorem Cx.Ok.wish {X:Cx}(ok:X.Ok) (E:Value->Shared->Prop):(X.wish E).Ok :=
 ⟨ok.mod,ok.kind,ok.glob,ok.blt,ok.above,ok.inj,ok.has,ok.cab,ok.hd,ok.frames,ok.stk,ok.exf,ok.bs,ok.bsz,ok.noex,ok.exfs,ok.funs,ok.frf⟩
theorem Cx.Ok.unwish {X:Cx}{E:Value->Shared->Prop}(ok:(X.wish E).Ok):X.Ok :=
 ⟨ok.mod,ok.kind,ok.glob,ok.blt,ok.above,ok.inj,ok.has,ok.cab,ok.hd,ok.frames,ok.stk,ok.exf,ok.bs,ok.bsz,ok.noex,ok.exfs,ok.funs,ok.frf⟩
section
variable {X:Cx}{pins:List (Addr×Obj)}{σ:St}{H:Hp}{s:Shared}{E:Value->Shared->Prop}
theorem Inv.wish (I:Inv X pins σ H s) (E:Value->Shared->Prop):Inv (X.wish E) pins σ H s:=⟨I.ok.wish E,I.os,I.bare,I.base,I.loc,I.cell,I.free,I.freeC,I.pin,I.hok,I.len⟩
theorem Inv.unwish (I:Inv (X.wish E) pins σ H s):Inv X pins σ H s:=⟨I.ok.unwish,I.os,I.bare,I.base,I.loc,I.cell,I.free,I.freeC,I.pin,I.hok,I.len⟩
theorem SP.unwish {D:qQ}{f:Flow}{s':Shared}(h:SP (X.wish E) pins D f s'):SP X pins D f s':=by
 cases f with
 | next=>obtain⟨σ',H',I,q⟩:=h;exact⟨σ',H',I.unwish,q⟩
 | brk=>obtain⟨σ',H',I,q⟩:=h;exact⟨σ',H',I.unwish,q⟩
 | cont=>obtain⟨σ',H',I,q⟩:=h;exact⟨σ',H',I.unwish,q⟩
 | ret u=>obtain⟨v,σ',H',I,r,q⟩:=h;exact⟨v,σ',H',I.unwish,r,q⟩
theorem PSs.nox {st:List Stmt}{t:TS}(h:PSs X.nox st t):PSs X st t:=λpins s σ H D I hw =>
 wpAny_mono (h pins s σ H D (I.wish _) hw) (λ_ _ q=>q.unwish) λ_ _ z=>False.elim z
end
section
variable {X:Cx}{st:Stmt}{rest:List Stmt}{t u:TS}{e:Expr}{te:TE}{pos:Pos}
def zf9:TS:=λD σ H=>D.nx σ H
def Qw (t u:TS):TS:=λD σ H=>t { D with nx:=u D } σ H
theorem zS:PSs X [] zf9:=λ_ _ σ H _ I h=>wpAny_execs_nil ⟨σ,H,I,h⟩
theorem zj (h1:PS X st t) (h2:PSs X rest u):PSs X (st::rest) (Qw t u):=by
 intro pins s σ H D I h
 refine wpAny_execs_cons (thn (h1 pins s σ H { D with nx:=u D } I h) λf s1 q=>?_)
 cases f with
 | next =>
  obtain⟨σ',H',I',q⟩:=q
  exact h2 pins s1 σ' H' D I' q
 | ret v=>exact q
 | brk=>exact q
 | cont=>exact q
theorem zi (h1:PS X st t):PSs X [st] t:=by
 intro pins s σ H D I h
 refine wpAny_execs_cons (thn (h1 pins s σ H D I h) λf s1 q=>?_)
 cases f with
 | next=>exact wpAny_execs_nil q
 | ret v=>exact q
 | brk=>exact q
 | cont=>exact q
theorem Inv.quiet {pins:List (Addr×Obj)}{σ:St}{H:Hp}{s:Shared}(I:Inv X pins σ H s):interactive X.env=false:=by simp[interactive,I.ok.kind]
def zf6 (te:TE):TS:=λD σ H=>te σ H λ_ H1=>D.nx σ H1
theorem xU (he:PE X e te) (hs:swapsWith e none pos.line X.env=pure false:=by rfl):PS X (.Expr e pos) (zf6 te):=by
 intro pins s σ H D I h
 exact wpAny_Expr_any (thn (he pins s σ H _ I h) λv s1 ⟨x,H1,I1,r1,q1⟩=>⟨σ,H1,I1,q1⟩) I.quiet hs
def zbI (te:TE):TS:=λD σ H=>te σ H D.rt
theorem zM (he:PE X e te):PS X (.Return (some e) pos) (zbI te):=by
 intro pins s σ H D I h
 exact wpAny_Return_some (thn (he pins s σ H _ I h) λv s1 ⟨x,H1,I1,r1,q1⟩=>⟨x,σ,H1,I1,r1,q1⟩)
def zez (c:TT) (t u:TS):TS:=λD σ H=>c σ H λb H1=>if b=true then t D σ H1 else u D σ H1
theorem xk {c:Expr}{a b:List Stmt}{tc:TT}(hc:PT X c tc) (ha:PSs X a t) (hb:PSs X b u):PS X (.If c a b pos) (zez tc t u):=by
 intro pins s σ H D I h
 refine wpAny_If (thn (hc pins s σ H _ I h) λd s1 ⟨H1,I1,q1⟩=>?_)
 cases d with
 | true=>exact ha pins s1 σ H1 D I1 q1
 | false=>exact hb pins s1 σ H1 D I1 q1
def zeA:TS:=λ_ _ _=>False
theorem zag {sts:List Stmt}:PSs X sts zeA:=λ_ _ _ _ _ _ h=>h.elim
end
abbrev TG:=V->St->Hp->(St->Hp->Prop)->Prop
abbrev TGs:=List V->St->Hp->(St->Hp->Prop)->Prop
def PG (X:Cx) (target:Expr) (t:TG):Prop :=
 ∀(pins:List (Addr×Obj)) (s:Shared) (σ:St) (H:Hp) (v:V) (u:Value) (Q:St->Hp->Prop),Inv X pins σ H s->xj v u->t v σ H Q →
  wpAny (model X.prog X.w) X.A (assign target X.env u) (λ_ s'=>∃σ' H',Inv X pins σ' H' s'/\Q σ' H') X.xe s
def PGs (X:Cx) (ts:List Expr) (t:TGs):Prop :=
 ∀(pins:List (Addr×Obj)) (s:Shared) (σ:St) (H:Hp) (vs:List V) (us:List Value) (Q:St->Hp->Prop),Inv X pins σ H s->zU vs us->t vs σ H Q →
  wpAny (model X.prog X.w) X.A (assignInOrder ((assignEach ts X.env).map (·.2)) us) (λ_ s'=>∃σ' H',Inv X pins σ' H' s'/\Q σ' H') X.xe s
abbrev zdy:=V->V->V->Hp->(Hp->Prop)->Prop
def zeJ (X:Cx) (t:zdy):Prop :=
 ∀(pins:List (Addr×Obj)) (s:Shared) (σ:St) (H:Hp) (o i v:V) (ov iv u:Value) (Q:Hp->Prop),Inv X pins σ H s->xj o ov->xj i iv->xj v u->t o i v H Q →
  wpAny (model X.prog X.w) X.A (setItem ov iv u) (λ_ s'=>∃H',Inv X pins σ H' s'/\Q H') X.xe s
section
variable {X:Cx}{pos:Pos}
def zN (i:Nat):TG:=λv σ H Q=>Q (σ.set i (some v)) H
theorem zK {i:Nat}{x:Str}(hN:X.N.Nodup) (hi:X.N[i]? = some x) (hx:Loc X.env.scope x) (hf:X.fn x=true\/X.env.scope.names.lookup x=some .local := by first | exact .inl rfl | exact .inr rfl | assumption):PG X (.Name x pos) (zN i):=by
 intro pins s σ H v u Q I r h
 exact wpAny_assign_Name (jv I hN hi hx r (λs' I'=>⟨_,H,I',h⟩) hf)
def zaR:TGs:=λvs σ H Q=>vs=[]/\Q σ H
def jK (t:TG) (u:TGs):TGs:=λvs σ H Q=>∃v r,vs=v::r/\t v σ H λσ' H'=>u r σ' H' Q
theorem xJ:PGs X [] zaR:=by
 intro pins s σ H vs us Q I r h
 obtain⟨e,h⟩:=h
 subst e
 cases r
 exact assignInOrder_nil ⟨σ,H,I,h⟩
theorem zQ {e:Expr}{es:List Expr}{t:TG}{u:TGs}(h1:PG X e t) (h2:PGs X es u)
  (hs:(assignEach (e::es) X.env).map (·.2)=assign e X.env::(assignEach es X.env).map (·.2):=by rfl):PGs X (e::es) (jK t u):=by
 intro pins s σ H vs us Q I r h
 obtain⟨v,vr,e1,h⟩:=h
 subst e1
 cases r with
 | cons r rr =>
  rw[hs]
  refine assignInOrder_cons (thn (h1 pins s σ H _ _ _ I r h) λ_ s1 ⟨σ1,H1,I1,q1⟩=>?_)
  exact h2 pins s1 σ1 H1 _ _ Q I1 rr q1
def J4 (K:PySem.W.Frag) (n:Nat) (t:TGs):TG:=λv σ H Q=>∃a xs,v = .ref a/\SqT K H a xs/\xs.length=n/\t xs σ H Q
theorem vH {es:List Expr}{k:Nat}{t:TGs}{n:Nat}(hc:X.calm=true) (h:PGs X es t)
  (hn:(assignEach es X.env).length=n:=by rfl) (hst:(assignEach es X.env).findIdx? (·.1)=none:=by rfl):PG X (.Tuple es k pos) (J4 X.K n t):=by
 intro pins s σ H v u Q I r hw
 obtain⟨a,xs,e1,hq,hl,hw⟩:=hw
 subst e1
 cases r
 obtain⟨its,rv,ht,hz⟩:=I.tuple hq
 refine assign_Tuple_tuple (I.ok.hd hc) ht (by simp[hn,<-hl,rv.length]) hst λh' hx=>?_
 have I1:Inv X pins σ H { s with heap:=h' }:=I.kept (t':=s.toks) λb o e=>hx b o (Nat.ne_of_lt (Heap.lt_size e)) e
 exact h pins _ σ H xs _ Q I1 (by simpa using rv) hw
def gSub (to ti:TE) (t:zdy):TG:=λv σ H Q=>to σ H λo H1=>ti σ H1 λi H2=>t o i v H2 λH3=>Q σ H3
theorem Xh {o i:Expr}{to ti:TE}{t:zdy}(ho:PE X o to) (hi:PE X i ti) (hs:zeJ X t)
  (ha:∀v,assign (.Subscript o i pos) X.env v=(do
   let ov <-holding [v] (eval o X.env)
   let iv <-holding [v,ov] (eval i X.env)
   standAt pos
   holding [v,ov,iv] (setItem ov iv v)
   release [v,ov,iv] []):=by intro _;rfl):PG X (.Subscript o i pos) (gSub to ti t):=by
 intro pins s σ H v u Q I r h
 rw[ha]
 refine wpAny_bind (wpAny_holding (thn (ho pins s σ H _ I h) λov s1 ⟨x,H1,I1,r1,q1⟩=>?_))
 refine wpAny_bind (wpAny_holding (thn (hi pins s1 σ H1 _ I1 q1) λiv s2 ⟨y,H2,I2,r2,q2⟩=>?_))
 refine wpAny_bind (wpAny_standAt (wpAny_bind (wpAny_holding (thn (hs pins s2 σ H2 x y v ov iv u _ I2 r1 r2 r q2) λ_ s3 ⟨H3,I3,q3⟩=>?_))))
 exact wpAny_release ⟨σ,H3,I3,q3⟩
def zbH (te:TE) (g:TG):TS:=λD σ H=>te σ H λx H1=>g x σ H1 D.nx
theorem qJ {tg e:Expr}{te:TE}{g:TG}(he:PE X e te) (hg:PG X tg g) (hs:swapsWithSole [tg] e pos.line X.env=pure false:=by rfl) (hw:swappedStores [tg] e X.env=pure none:=by rfl)
  (h1:(assignEach [tg] X.env).map (·.2)=[assign tg X.env]:=by rfl):PS X (.Assign [tg] e pos) (zbH te g):=by
 intro pins s σ H D I h
 refine wpAny_Assign_stores (thn (he pins s σ H _ I h) λv s1 ⟨x,H1,I1,r1,q1⟩=>?_) hs hw
 rw[h1]
 exact thn (hg pins s1 σ H1 x v _ I1 r1 q1) λ_ s2 q=>q
theorem zL {i:Nat}{x:Str}{e:Expr}{te:TE}{pos':Pos}(hN:X.N.Nodup) (hi:X.N[i]? = some x) (hx:Loc X.env.scope x) (he:PE X e te) (hs:swapsWith e (some (.Name x pos')) pos.line X.env=pure false:=by rfl) (hf:X.fn x=true\/X.env.scope.names.lookup x=some .local := by first | exact .inl rfl | exact .inr rfl | assumption) :
  PS X (.Assign [.Name x pos'] e pos) (zbH te (zN i)):=by
 intro pins s σ H D I h
 refine wpAny_Assign_Name (thn (he pins s σ H _ I h) λv s1 ⟨y,H1,I1,r1,q1⟩=>?_) hs
 exact jv I1 hN hi hx r1 (λs2 I2=>⟨_,H1,I2,q1⟩) hf
def tPar (i j:Nat) (ta:TA):TS:=λD σ H=>ta σ H λvs H1=>∃v w,vs=[v,w]/\D.nx ((σ.set i (some v)).set j (some w)) H1
theorem VJ {i j:Nat}{x y:Str}{a b:Expr}{ta:TA}{px py pt:Pos} {kt k2 pt2} (hc:X.calm=true) (hN:X.N.Nodup) (hi:X.N[i]? = some x) (hj:X.N[j]? = some y) (hij:i≠j)
  (hx:X.env.scope.names.lookup x=some .local) (hy:X.env.scope.names.lookup y=some .local) (ha:PA X [a,b] ta)
  (hw:swappedStores [.Tuple [.Name x px,.Name y py] kt pt] (.Tuple [a,b] k2 pt2) X.env=pure (some [x,y]))
  (hs:swapsWithSole [.Tuple [.Name x px,.Name y py] kt pt] (.Tuple [a,b] k2 pt2) pos.line X.env=pure false:=by rfl) :
  PS X (.Assign [.Tuple [.Name x px,.Name y py] kt pt] (.Tuple [a,b] k2 pt2) pos) (tPar i j ta):=by
 intro pins s σ H D I h
 rw[exec_Assign_arm]
 refine wpAny_bind (wpAny_standAt ?_)
 rw[hs]
 refine wpAny_bind (wpAny_pure ?_)
 rw[if_neg (by decide)]
 refine wpAny_bind (Tuple_ (thn (ha _ pins s σ H _ I h) λus s1 ⟨vs,H1,I1,r1,q1⟩=>?_))
 obtain⟨v,w,e1,q1⟩:=q1
 subst e1
 obtain⟨u1,u2,rfl,rv,rw'⟩:∃u1 u2,us=[u1,u2]/\xj v u1/\xj w u2:=by
  cases r1 with
  | cons p q =>
   cases q with
   | cons p' q' =>
    cases q'
    exact⟨_,_,rfl,p,p'⟩
 refine wpAny_newObj_type ?_ (by show 2<=sizeLine;decide)
 have I2:Inv X pins σ H1 { s1 with heap:=s1.heap.push { cls:=.type "tuple",data:=.seq [u1,u2].toArray } }:=I1.kept (t':=s1.toks) λb o e=>Heap.get?_push_of_some _ e
 rw[hw]
 refine wpAny_bind (wpAny_pure ?_)
 show wpAny (model X.prog X.w) X.A (do rule "assign.swapped-stores";let items <-unpackItems (.ref s1.heap.objs.size) 2 none;assignInOrder [λv=>bindName X.env y v,λv=>bindName X.env x v] items.reverse;pure Flow.next) _ _ _
 refine wpAny_bind (wpAny_rule (wpAny_bind (unpackItems_tuple (items:=#[u1,u2]) (I.ok.hd hc) (IsTup.new s1.heap _) λh' hx'=>?_)))
 have I3:=I2.kept (h':=h') (t':=s1.toks) λb o e=>hx' b o (Nat.ne_of_lt (Heap.lt_size e)) e
 show wpAny _ _ (assignInOrder [λv=>bindName X.env y v,λv=>bindName X.env x v] [u2,u1] >>= λ_=>pure Flow.next) _ _ _
 refine wpAny_bind (assignInOrder_cons (wpAny_bindName (jv I3 hN hj (.inl hy) rw' (λs2 I4=>?_) (.inr hy))))
 refine assignInOrder_cons (wpAny_bindName (jv I4 hN hi (.inl hx) rv (λs3 I5=>assignInOrder_nil (wpAny_pure ?_)) (.inr hx)))
 rw[List.set_comm _ _ (Ne.symm hij)]at I5
 exact⟨_,H1,I5,q1⟩
end
section
variable {X:Cx}{pos:Pos}
def Qx (c:TT) (tb:TS):TS:=λD σ H=>∃W:Nat->St->Hp->Prop,(∃m,W m σ H)/\∀m σ H,W m σ H →
 c σ H λb H1=>if b=true then ∃N:St->Hp->Prop,(∀σ' H',N σ' H'->∃m',m'<m/\W m' σ' H')/\tb { D with nx:=N,ct:=N,bk:=D.nx } σ H1 else D.nx σ H1
theorem jT {c:Expr}{body:List Stmt}{tc:TT}{tb:TS}(hp:PassesOwn (model X.prog X.w) X.A X.env X.xe) (hc:PT X c tc) (hb:PSs X body tb):PS X (.While c body [] pos) (Qx tc tb):=by
 intro pins s σ H D I h
 obtain⟨W,⟨m0,w0⟩,turn⟩:=h
 refine wpAny_While (codeAny_whileLoop (λn s'=>∃σ' H',Inv X pins σ' H' s'/\W n σ' H') ?_ m0 ⟨σ,H,I,w0⟩)
 rintro n s1 ⟨σ1,H1,I1,w1⟩
 refine wpAny_passesOwn hp (thn (hc pins s1 σ1 H1 _ I1 (turn n σ1 H1 w1)) λb s2 ⟨H2,I2,q2⟩=>?_)
 cases b with
 | true =>
  obtain⟨N,hN,q2⟩:=q2
  rw[if_pos rfl]
  refine wpAny_passesOwn hp (thn (hb pins s2 σ1 H2 _ I2 q2) λf s3 q3=>?_)
  cases f with
  | next =>
   obtain⟨σ3,H3,I3,n3⟩:=q3
   obtain⟨m',hm,w3⟩:=hN σ3 H3 n3
   exact⟨m',hm,σ3,H3,I3,w3⟩
  | cont =>
   obtain⟨σ3,H3,I3,n3⟩:=q3
   obtain⟨m',hm,w3⟩:=hN σ3 H3 n3
   exact⟨m',hm,σ3,H3,I3,w3⟩
  | brk=>exact q3
  | ret v=>exact q3
 | false =>
  rw[if_neg Bool.false_ne_true]
  exact wpAny_execs_nil ⟨σ1,H2,I2,q2⟩
end
structure It where
 go:Nat->Hp->Prop
 yld:Nat->Hp->V->Hp->Prop
 stop:Nat->Hp->Prop
def ZQ (X:Cx) (pins:List (Addr×Obj)) (H:Hp) (b:Addr):Prop :=
 H b=none/\b≠X.env.locals/\b∉X.fs/\(b∈X.ex\/X.s₀.heap.objs.size<=b)/\(∀x c,X.env.cells.lookup x=some c->c≠b)/\∀p∈X.pn++pins,p.1≠b
theorem Inv.fpOk {X:Cx}{pins:List (Addr×Obj)}{σ:St}{H H':Hp}{s:Shared}{b:Addr}(I:Inv X pins σ H s) (hb:s.heap.objs.size<=b) (hn:H' b=none):ZQ X pins H' b:=by
 refine⟨hn,Nat.ne_of_gt (Nat.lt_of_lt_of_le I.lt hb),I.nofs hb,.inr (Nat.le_trans I.sz hb),λx c e z=>?_,λp hp z=>?_⟩
 ·obtain⟨v,q⟩:=I.cell x c e
  exact absurd (Nat.lt_of_lt_of_le q.lt (by rw[z];exact hb)) (Nat.lt_irrefl _)
 ·exact absurd (Nat.lt_of_lt_of_le (Heap.lt_size (I.pin p hp).1) (by rw[z];exact hb)) (Nat.lt_irrefl _)
structure Vk (P:Program) (w:World) (K:PySem.W.Frag) (tg:Expr) (J:It) (fp:List Addr) (it:Addr) (tn:Nat->Heap->Prop):Prop where
 mem:it∈fp
 obj:∀i h,tn i h->∀b∈fp,∃o,h.get? b=some o/\∀v,o.data≠.cell v
 keep:∀i h h',tn i h->(∀b∈fp,∀o,h.get? b=some o->h'.get? b=some o)->tn i h'
 item:∀(X:Cx),X.prog=P->X.w=w->X.K=K->X.calm=true->∀(i:Nat) (pins:List (Addr×Obj)) (s:Shared) (σ:St) (H:Hp) (E:Value->Shared->Prop),Inv X pins σ H s->(∀b∈fp,ZQ X pins H b)->tn i s.heap->J.go i H →
  wpAny (model P w) X.A (pyNext (.ref it)) (λr s1=>∃u,r=some u ∧
   wpAny (model P w) X.A (letOwnedTupleGo tg (.ref it) u) (λ_ s2=>∃x H',Inv X pins σ H' s2/\xj x u/\J.yld i H x H'/\tn (i+1) s2.heap/\∀b∈fp,H' b=none) E s1) E s
 done:∀(X:Cx),X.prog=P->X.w=w->X.K=K->X.calm=true->∀(i:Nat) (pins:List (Addr×Obj)) (s:Shared) (σ:St) (H:Hp) (E:Value->Shared->Prop),Inv X pins σ H s->(∀b∈fp,ZQ X pins H b)->tn i s.heap->J.stop i H →
  wpAny (model P w) X.A (pyNext (.ref it)) (λr s1=>r=none/\Inv X pins σ H s1) E s
 self:∀(A:Around) (i:Nat) (s:Shared) (Q:Value->Shared->Prop) (E:Value->Shared->Prop),tn i s.heap->Q (.ref it) s->wpAny (model P w) A (pyIter (.ref it)) Q E s
abbrev TI:=St->Hp->(It->Hp->Prop)->Prop
def PIE (X:Cx) (pins:List (Addr×Obj)) (σ:St) (tg:Expr) (R:It->Hp->Prop) (itv:Value) (s2:Shared):Prop :=
 ∃(it:Addr) (fp:List Addr) (tn:Nat->Heap->Prop) (J:It) (H':Hp),itv = .ref it/\Inv X pins σ H' s2/\Vk X.prog X.w X.K tg J fp it tn/\tn 0 s2.heap/\(∀b∈fp,ZQ X pins H' b)/\R J H'
def PI (X:Cx) (tg iter:Expr) (wi:TI):Prop :=
 ∀(pins:List (Addr×Obj)) (s:Shared) (σ:St) (H:Hp) (R:It->Hp->Prop),Inv X pins σ H s->wi σ H R →
  wpAny (model X.prog X.w) X.A (eval iter X.env) (λv s1=>wpAny (model X.prog X.w) X.A (pyIter v) (PIE X pins σ tg R) X.xe s1) X.xe s
theorem zaS {M:Model}{A:Around}{E:Value->Shared->Prop}{s:Shared}{tg:Expr}{it:Addr}{u:Value}{o:Obj}{n:String}{vs:Array Value}{Q:Unit->Shared->Prop}(ho:s.heap.get? it=some o) (hc:o.cls = .type n) (hd:o.data = .fields vs)
  (hn:["enumerate","zip","dict_itemiterator","dict_reverseitemiterator","odict_iterator","itertools.zip_longest","itertools.pairwise"].contains n=false) (hQ:Q () s):wpAny M A (letOwnedTupleGo tg (.ref it) u) Q E s:=by
 unfold letOwnedTupleGo
 cases tg <;> first
  | exact wpAny_pure hQ
  | (cases u <;> first
    | exact wpAny_pure hQ
    | (refine wpAny_bind (wpAny_load ho ?_)
       rw[hc,hd]
       show wpAny M A (if(["enumerate","zip","dict_itemiterator","dict_reverseitemiterator","odict_iterator","itertools.zip_longest","itertools.pairwise"].contains n&&vs[0]? == some (rawInt _))=true then _ else _) Q E s
       rw[if_neg (by intro h;rw[hn,Bool.false_and]at h;cases h)]
       exact wpAny_pure hQ))
def Itl (K:PySem.W.Frag) (a:Addr):It :=
 ⟨λi H=>∃xs x,SqL K H a xs/\xs[i]? = some x,λi H x H'=>H'=H/\∀xs,SqL K H a xs->xs[i]? = some x,λi H=>∃xs,SqL K H a xs/\xs.length<=i⟩
def Itt (K:PySem.W.Frag) (a:Addr):It :=
 ⟨λi H=>∃xs x,SqT K H a xs/\xs[i]? = some x,λi H x H'=>H'=H/\∀xs,SqT K H a xs->xs[i]? = some x,λi H=>∃xs,SqT K H a xs/\xs.length<=i⟩
def Itr (lo:Int) (n:Nat):It:=⟨λi _=>i<n,λi H x H'=>H'=H/\x = .int (lo+i),λi _=>n<=i⟩
theorem zar {P:Program}{w:World}{K:PySem.W.Frag}{tg:Expr}(a it:Addr):Vk P w K tg (Itl K a) [it] it (λi h=>h.IsListIter it a i) where
 mem:=by simp
 obj:=λi h st b hb=>by
  have e:b=it:=by simpa using hb
  subst e
  obtain⟨o,e,c,d⟩:=st
  exact⟨o,e,λv z=>by rw[d]at z;cases z⟩
 keep:=λi h h' st k=>st.at λo e=>k it (by simp) o e
 item:=by
  intro X hP hw hK hc i pins s σ H E I hf st hg
  subst hP hw hK
  obtain⟨xs,x,hq,hx⟩:=hg
  obtain⟨its,rv,p,hz⟩:=I.list hq
  obtain⟨u,hu,ru⟩:=rv.get hx
  obtain⟨f0,f1,f2,f3,f4,f5⟩:=hf it (by simp)
  refine wpAny_pyNext_list_item st p.isList (x:=u) (by simpa using hu) λh' st' sb=>?_
  have I1:Inv X pins σ H { s with heap:=h' }:=I.turned (t':=s.toks) (λb o hb e=>(sb.2 b hb).trans e) f0 f1 f3 f4 f5
  obtain⟨o,e,c,d⟩:=id st'
  exact⟨u,rfl,zaS (s:={ s with heap:=h' }) e c d (by decide) ⟨x,H,I1,ru,⟨rfl,λys hy=>by rw[I.list_inj hy hq];exact hx⟩,st',λb hb=>(hf b hb).1⟩⟩
 done:=by
  intro X hP hw hK hc i pins s σ H E I hf st hg
  subst hP hw hK
  obtain⟨xs,hq,hx⟩:=hg
  obtain⟨its,rv,p,hz⟩:=I.list hq
  obtain⟨f0,f1,f2,f3,f4,f5⟩:=hf it (by simp)
  have hl:=rv.length
  exact wpAny_pyNext_list_end (I.ok.hd hc) st p.isList (by simp;omega) λh' eb=>⟨rfl,I.turned (t':=s.toks) (λb o hb e=>eb b o hb e) f0 f1 f3 f4 f5⟩
 self:=λ_ _ _ _ _ st h=>wpAny_pyIter_listiter st h
theorem VS {P:Program}{w:World}{K:PySem.W.Frag}{tg:Expr}(a it:Addr):Vk P w K tg (Itt K a) [it] it (λi h=>h.IsTupleIter it a i) where
 mem:=by simp
 obj:=λi h st b hb=>by
  have e:b=it:=by simpa using hb
  subst e
  obtain⟨o,e,c,d⟩:=st
  exact⟨o,e,λv z=>by rw[d]at z;cases z⟩
 keep:=λi h h' st k=>st.at λo e=>k it (by simp) o e
 item:=by
  intro X hP hw hK hc i pins s σ H E I hf st hg
  subst hP hw hK
  obtain⟨xs,x,hq,hx⟩:=hg
  obtain⟨its,rv,p,hz⟩:=I.tuple hq
  obtain⟨u,hu,ru⟩:=rv.get hx
  obtain⟨f0,f1,f2,f3,f4,f5⟩:=hf it (by simp)
  refine wpAny_pyNext_tuple_item st (show s.heap.IsTuple a its.toArray from p) (x:=u) (by simpa using hu) λh' st' sb=>?_
  have I1:Inv X pins σ H { s with heap:=h' }:=I.turned (t':=s.toks) (λb o hb e=>(sb.2 b hb).trans e) f0 f1 f3 f4 f5
  obtain⟨o,e,c,d⟩:=id st'
  exact⟨u,rfl,zaS (s:={ s with heap:=h' }) e c d (by decide) ⟨x,H,I1,ru,⟨rfl,λys hy=>by rw[I.tuple_inj hy hq];exact hx⟩,st',λb hb=>(hf b hb).1⟩⟩
 done:=by
  intro X hP hw hK hc i pins s σ H E I hf st hg
  subst hP hw hK
  obtain⟨xs,hq,hx⟩:=hg
  obtain⟨its,rv,p,hz⟩:=I.tuple hq
  obtain⟨f0,f1,f2,f3,f4,f5⟩:=hf it (by simp)
  have hl:=rv.length
  exact wpAny_pyNext_tuple_end (I.ok.hd hc) st (show s.heap.IsTuple a its.toArray from p) (by simp;omega) λh' eb=>⟨rfl,I.turned (t':=s.toks) (λb o hb e=>eb b o hb e) f0 f1 f3 f4 f5⟩
 self:=λ_ _ _ _ _ st h=>wpAny_pyIter_tupleiter st h
theorem VR {P:Program}{w:World}{K:PySem.W.Frag}{tg:Expr}(it:Addr) (lo:Int) (n:Nat):Vk P w K tg (Itr lo n) [it] it (λi h=>IsRangeIter h it (lo+(i:Nat)*1) ((n:Int) - (i:Nat)) 1) where
 mem:=by simp
 obj:=λi h st b hb=>by
  have e:b=it:=by simpa using hb
  subst e
  exact⟨_,st,λv z=>by
   have z':Data.fields _=Data.cell v:=z
   cases z'⟩
 keep:=λi h h' st k=>k it (by simp) _ st
 item:=by
  intro X hP hw hK hc i pins s σ H E I hf st hg
  subst hP hw hK
  obtain⟨f0,f1,f2,f3,f4,f5⟩:=hf it (by simp)
  have W:=Walks.range (prog:=X.prog) (w:=X.w) (I.ok.hd hc) it lo 1 n
  refine W.item i s _ _ hg st λv h' tk hv st' kk=>?_
  obtain⟨t,rfl⟩:=hv
  have I1:Inv X pins σ H { s with heap:=h',toks:=tk }:=I.turned (λb o hb e=>kk b o (by simpa using hb) e) f0 f1 f3 f4 f5
  refine⟨_,rfl,zaS (s:={ s with heap:=h',toks:=tk }) (n:="range_iterator") st' rfl rfl (by decide) ⟨.int (lo+i),H,I1,⟨t,?_⟩,⟨rfl,rfl⟩,st',λb hb=>(hf b hb).1⟩⟩
  rw[Int.mul_one]
 done:=by
  intro X hP hw hK hc i pins s σ H E I hf st hg
  subst hP hw hK
  obtain⟨f0,f1,f2,f3,f4,f5⟩:=hf it (by simp)
  exact wpAny_pyNext_range_end (I.ok.hd hc) st (by have:n<=i:=hg;omega) λh' eb=>⟨rfl,I.turned (t':=s.toks) (λb o hb e=>eb b o hb e) f0 f1 f3 f4 f5⟩
 self:=λ_ _ _ _ _ st h=>wpAny_pyIter_rangeiter st h
end L2
namespace L2
open PySem PySem.Spec PyProof.Rows
section
variable {X:Cx}{tg:Expr}
def zdd (K:PySem.W.Frag) (tl:TE):TI:=λσ H R=>tl σ H λx H1=>∃a,x = .ref a/\(∃xs,SqL K H1 a xs)/\R (Itl K a) H1
def iTup (K:PySem.W.Frag) (tl:TE):TI:=λσ H R=>tl σ H λx H1=>∃a,x = .ref a/\(∃xs,SqT K H1 a xs)/\R (Itt K a) H1
theorem xS {l:Expr}{tl:TE}(hl:PE X l tl):PI X tg l (zdd X.K tl):=by
 intro pins s σ H R I h
 refine thn (hl pins s σ H _ I h) λv s1 ⟨x,H1,I1,r1,q1⟩=>?_
 obtain⟨a,e,⟨xs,hq⟩,q⟩:=q1
 subst e
 cases r1
 obtain⟨its,rv,p,hz⟩:=I1.list hq
 refine wpAny_pyIter_list p.isList ?_
 refine⟨s1.heap.objs.size,[s1.heap.objs.size],_,_,H1,rfl,I1.kept (t':=s1.toks) λb o e=>Heap.get?_push_of_some _ e,zar a _,⟨_,Heap.get?_push_size _ rfl,rfl,rfl⟩,λb hb=>?_,q⟩
 have e:b=s1.heap.objs.size:=by simpa using hb
 subst e
 exact I1.fpOk (Nat.le_refl _) (I1.hok.fresh (Nat.le_refl _))
theorem Xi {l:Expr}{tl:TE}(hl:PE X l tl):PI X tg l (iTup X.K tl):=by
 intro pins s σ H R I h
 refine thn (hl pins s σ H _ I h) λv s1 ⟨x,H1,I1,r1,q1⟩=>?_
 obtain⟨a,e,⟨xs,hq⟩,q⟩:=q1
 subst e
 cases r1
 obtain⟨its,rv,p,hz⟩:=I1.tuple hq
 refine wpAny_pyIter_tuple (show s1.heap.IsTuple a its.toArray from p) ?_
 refine⟨s1.heap.objs.size,[s1.heap.objs.size],_,_,H1,rfl,I1.kept (t':=s1.toks) λb o e=>Heap.get?_push_of_some _ e,VS a _,⟨_,Heap.get?_push_size _ rfl,rfl,rfl⟩,λb hb=>?_,q⟩
 have e:b=s1.heap.objs.size:=by simpa using hb
 subst e
 exact I1.fpOk (Nat.le_refl _) (I1.hok.fresh (Nat.le_refl _))
theorem zbl {pins:List (Addr×Obj)}{σ:St}{H:Hp}{s:Shared}{R:It->Hp->Prop}{E:Value->Shared->Prop}{lo hi:Int}{t u v:Tok}{tk:Nat}(I:Inv X pins σ H s) (h1 : -(2^62)<=lo) (h2:lo<2^62) (h3 : -(2^62)<=hi) (h4:hi<2^62)
  (q:R (Itr lo (hi - lo).toNat) H):wpAny (model X.prog X.w) X.A (pyIter (.ref s.heap.objs.size)) (PIE X pins σ tg R) E { s with heap:=s.heap.push { cls:=.type "range",data:=.fields #[.int lo t,.int hi u,.int 1 v] },toks:=tk }:=by
 refine wpAny_pyIter_range (IsRange.new ..) (small_one h1 h2 h3 h4) ?_
 have I1:Inv X pins σ H { s with heap:=s.heap.push { cls:=.type "range",data:=.fields #[.int lo t,.int hi u,.int 1 v] },toks:=tk }:=I.kept λb o e=>Heap.get?_push_of_some _ e
 refine⟨(s.heap.push { cls:=.type "range",data:=.fields #[.int lo t,.int hi u,.int 1 v] }).objs.size,[(s.heap.push { cls:=.type "range",data:=.fields #[.int lo t,.int hi u,.int 1 v] }).objs.size],_,_,H,rfl,
  I1.kept (t':=tk) λb o e=>Heap.get?_push_of_some _ e,VR _ lo (hi - lo).toNat,?_,λb hb=>?_,q⟩
 ·have e1:lo+((0:Nat):Int)*1=lo:=by simp
  have e2:(((hi - lo).toNat:Nat):Int) - ((0:Nat):Int)=Builtin.Range.rangeSize lo hi 1:=by rw[rangeSize_one];split <;> omega
  show IsRangeIter _ _ (lo+((0:Nat):Int)*1) ((((hi - lo).toNat:Nat):Int) - ((0:Nat):Int)) 1
  rw[e1,e2]
  exact Heap.get?_push_size _ rfl
 ·have e:b=(s.heap.push { cls:=.type "range",data:=.fields #[.int lo t,.int hi u,.int 1 v] }).objs.size:=by simpa using hb
  subst e
  exact I1.fpOk (Nat.le_refl _) (I1.hok.fresh (Nat.le_refl _))
def zeQ (ta:TA):TI:=λσ H R=>ta σ H λvs H1=>∃j:Int,vs=[.int j] ∧ -(2^62)<=j/\j<2^62/\R (Itr 0 j.toNat) H1
theorem Zc {a:Expr}{ta:TA}{p pos:Pos}(hg:Gl X "range") (hm:X.mg "range" = none) (ha:PA X [a] ta) (hs:starEach [a] X.env=[(false,eval a X.env)]:=by rfl):PI X tg (.Call (.Name "range" p) [a] [] pos) (zeQ ta):=by
 intro pins s σ H R I h
 refine Call_ (jm I hg hm boot_range (PyProof.Rows.callWith_type1 (thn (ha pos pins s σ H _ I h) λus s1 ⟨vs,H1,I1,r1,q1⟩=>?_) hs rfl))
 obtain⟨j,e,q1,q2,q⟩:=q1
 subst e
 cases r1 with
 | cons r rr =>
  cases rr
  obtain⟨t,rfl⟩:=r
  exact call_range_1 (zbl I1 (by omega) (by omega) q1 q2 (by simpa using q))
def zcV (wi:TI) (g:TG) (tb:TS):TS:=λD σ H=>wi σ H λJ H1=>∃W:Nat->Nat->St->Hp->Prop,(∃m,W 0 m σ H1)/\∀i m σ H,W i m σ H →
 (J.stop i H/\D.nx σ H)\/(J.go i H/\∃N:St->Hp->Prop,(∀σ' H',N σ' H'->∃m',m'<m/\W (i+1) m' σ' H')/\∀x H',J.yld i H x H'->g x σ H' λσ2 H2=>tb { D with nx:=N,ct:=N,bk:=D.nx } σ2 H2)
def Zd (fp:List Addr) (h:Heap):List (Addr×Obj):=fp.filterMap λb=>(h.get? b).map λo=>(b,o)
theorem qU {fp:List Addr}{h:Heap}{b:Addr}{o:Obj}(hb:b∈fp) (e:h.get? b=some o):(b,o)∈Zd fp h:=List.mem_filterMap.mpr ⟨b,hb,by rw[e];rfl⟩
theorem zae {fp:List Addr}{h:Heap}{p:Addr×Obj}(hp:p∈Zd fp h):p.1∈fp/\h.get? p.1=some p.2:=by
 obtain⟨b,hb,e⟩:=List.mem_filterMap.mp hp
 cases q:h.get? b with
 | none=>rw[q]at e;cases e
 | some o =>
  rw[q]at e
  have e':(b,o)=p:=Option.some.inj e
  subst e'
  exact⟨hb,q⟩
theorem Inv.pinned {pins:List (Addr×Obj)}{σ:St}{H:Hp}{s:Shared}{fp:List Addr}(I:Inv X pins σ H s) (hf:∀b∈fp,ZQ X pins H b) (ho:∀b∈fp,∃o,s.heap.get? b=some o/\∀v,o.data≠.cell v):Inv X (pins++Zd fp s.heap) σ H s :=
 I.pins_of λp hp=>(List.mem_append.mp hp).elim (λz=>I.pin p (List.mem_append_right _ z)) λz=>by
  obtain⟨hb,e⟩:=zae z
  obtain⟨f0,f1,f2,_⟩:=hf p.1 hb
  obtain⟨o,e',d⟩:=ho p.1 hb
  rw[e]at e';cases e'
  exact⟨e,f0,f1,f2,d⟩
theorem Inv.unpinned {pins pl:List (Addr×Obj)}{σ:St}{H:Hp}{s:Shared}(I:Inv X (pins++pl) σ H s):Inv X pins σ H s:=I.pins_of λp hp=>I.pin p (List.mem_append_right _ (List.mem_append_left _ hp))
theorem vI {iter:Expr}{body:List Stmt}{wi:TI}{g:TG}{tb:TS}{pos:Pos}(hp:PassesOwn (model X.prog X.w) X.A X.env X.xe) (hc:X.calm=true) (hi:PI X tg iter wi) (hg:PG X tg g) (hb:PSs X body tb)
  (hs:∀x,foldedSetIterable iter X.env x=pure x:=by intro _;rfl):PS X (.For tg iter body [] pos) (zcV wi g tb):=by
 intro pins s σ H D I h
 refine wpAny_For (thn (hi pins s σ H _ I h) λv s1 h1=>thn h1 λitv s2 h2=>?_) hs
 obtain⟨it,fp,tn,J,H2,e,I2,T,st2,f2,W,⟨m0,w0⟩,turn⟩:=h2
 subst e
 have stat:∀{H':Hp},(∀b∈fp,H' b=none)->∀b∈fp,ZQ X pins H' b:=λhn b hb=>⟨hn b hb,(f2 b hb).2⟩
 refine codeAny_forLoop_any (λn s'=>∃i σ' H',Inv X pins σ' H' s'/\tn i s'.heap/\(∀b∈fp,H' b=none)/\W i n σ' H') ?_ m0 ⟨0,σ,H2,I2,st2,λb hb=>(f2 b hb).1,w0⟩
 rintro n s3 ⟨i,σ3,H3,I3,st3,fr3,w3⟩
 rcases turn i n σ3 H3 w3 with⟨stop,qn⟩ | ⟨go,N,hN,step⟩
 ·refine wpAny_passesOwn hp (thn (T.done X rfl rfl rfl hc i pins s3 σ3 H3 X.xe I3 (stat fr3) st3 stop) λr s4 ⟨hr,I4⟩=>?_)
  subst hr
  exact wpAny_execs_nil ⟨σ3,H3,I4,qn⟩
 ·refine wpAny_passesOwn hp (thn (T.item X rfl rfl rfl hc i pins s3 σ3 H3 X.xe I3 (stat fr3) st3 go) λr s4 ⟨u,hr,h4⟩=>?_)
  subst hr
  refine wpAny_passesOwn hp (thn h4 λ_ s5 ⟨x,H5,I5,r5,y5,st5,fr5⟩=>?_)
  have I5':=I5.pinned (stat fr5) (T.obj _ _ st5)
  refine wpAny_passesOwn hp (thn (hg _ s5 σ3 H5 x u _ I5' r5 (step x H5 y5)) λ_ s6 ⟨σ6,H6,I6,q6⟩=>?_)
  refine wpAny_passesOwn hp (thn (hb _ s6 σ6 H6 _ I6 q6) λf s7 q7=>?_)
  have again:∀{σ7:St}{H7:Hp},Inv X (pins++Zd fp s5.heap) σ7 H7 s7->N σ7 H7->∃m,m<n/\∃i σ' H',Inv X pins σ' H' s7/\tn i s7.heap/\(∀b∈fp,H' b=none)/\W i m σ' H':=λ{σ7 H7} I7 n7=>by
   obtain⟨m',hm,w7⟩:=hN σ7 H7 n7
   refine⟨m',hm,i+1,σ7,H7,I7.unpinned,T.keep _ _ _ st5 λb hb o e=>(I7.pin (b,o) (List.mem_append_right _ (List.mem_append_right _ (qU hb e)))).1,λb hb=>?_,w7⟩
   obtain⟨o,e,d⟩:=T.obj _ _ st5 b hb
   exact(I7.pin (b,o) (List.mem_append_right _ (List.mem_append_right _ (qU hb e)))).2.1
  cases f with
  | next=>obtain⟨σ7,H7,I7,n7⟩:=q7;exact again I7 n7
  | cont=>obtain⟨σ7,H7,I7,n7⟩:=q7;exact again I7 n7
  | brk=>obtain⟨σ7,H7,I7,q7⟩:=q7;exact⟨σ7,H7,I7.unpinned,q7⟩
  | ret v=>obtain⟨x7,σ7,H7,I7,r7,q7⟩:=q7;exact⟨x7,σ7,H7,I7.unpinned,r7,q7⟩
end
theorem jJ {K:PySem.W.Frag}{a:Addr}{xs:List V}{g:TG}{tb:TS}{D:qQ}{σ:St}{H:Hp}(Pv:Nat->St->Hp->Prop) (h0:Pv 0 σ H) (hl:∀i σ H,i<=xs.length->Pv i σ H->SqL K H a xs)
  (hs:∀i x σ H,xs[i]? = some x->Pv i σ H->g x σ H λσ2 H2=>tb { D with nx:=Pv (i+1),ct:=Pv (i+1),bk:=D.nx } σ2 H2) (hd:∀σ H,Pv xs.length σ H->D.nx σ H) :
  ∃W:Nat->Nat->St->Hp->Prop,(∃m,W 0 m σ H)/\∀i m σ H,W i m σ H →
   ((Itl K a).stop i H/\D.nx σ H)\/((Itl K a).go i H/\∃N:St->Hp->Prop,(∀σ' H',N σ' H'->∃m',m'<m/\W (i+1) m' σ' H')/\∀x H',(Itl K a).yld i H x H'->g x σ H' λσ2 H2=>tb { D with nx:=N,ct:=N,bk:=D.nx } σ2 H2):=by
 refine⟨λi m σ H=>m=xs.length - i/\i<=xs.length/\Pv i σ H,⟨xs.length,by simp,Nat.zero_le _,h0⟩,?_⟩
 rintro i m σ H ⟨rfl,hi,p⟩
 have q:=hl i σ H hi p
 by_cases hlt:i<xs.length
 ·refine .inr ⟨⟨xs,xs[i],q,by simp[hlt]⟩,Pv (i+1),λσ' H' p'=>⟨xs.length - (i+1),by omega,rfl,hlt,p'⟩,λx H' y=>?_⟩
  obtain⟨e,y⟩:=y
  subst e
  exact hs i x σ _ (y xs q) p
 ·have e:i=xs.length:=by omega
  subst e
  exact .inl ⟨⟨xs,q,Nat.le_refl _⟩,hd σ H p⟩
theorem zb4 {K:PySem.W.Frag}{a:Addr}{xs:List V}{g:TG}{tb:TS}{D:qQ}{σ:St}{H:Hp}(Pv:Nat->St->Hp->Prop) (h0:Pv 0 σ H) (hl:∀i σ H,i<=xs.length->Pv i σ H->SqT K H a xs)
  (hs:∀i x σ H,xs[i]? = some x->Pv i σ H->g x σ H λσ2 H2=>tb { D with nx:=Pv (i+1),ct:=Pv (i+1),bk:=D.nx } σ2 H2) (hd:∀σ H,Pv xs.length σ H->D.nx σ H) :
  ∃W:Nat->Nat->St->Hp->Prop,(∃m,W 0 m σ H)/\∀i m σ H,W i m σ H →
   ((Itt K a).stop i H/\D.nx σ H)\/((Itt K a).go i H/\∃N:St->Hp->Prop,(∀σ' H',N σ' H'->∃m',m'<m/\W (i+1) m' σ' H')/\∀x H',(Itt K a).yld i H x H'->g x σ H' λσ2 H2=>tb { D with nx:=N,ct:=N,bk:=D.nx } σ2 H2):=by
 refine⟨λi m σ H=>m=xs.length - i/\i<=xs.length/\Pv i σ H,⟨xs.length,by simp,Nat.zero_le _,h0⟩,?_⟩
 rintro i m σ H ⟨rfl,hi,p⟩
 have q:=hl i σ H hi p
 by_cases hlt:i<xs.length
 ·refine .inr ⟨⟨xs,xs[i],q,by simp[hlt]⟩,Pv (i+1),λσ' H' p'=>⟨xs.length - (i+1),by omega,rfl,hlt,p'⟩,λx H' y=>?_⟩
  obtain⟨e,y⟩:=y
  subst e
  exact hs i x σ _ (y xs q) p
 ·have e:i=xs.length:=by omega
  subst e
  exact .inl ⟨⟨xs,q,Nat.le_refl _⟩,hd σ H p⟩
theorem j9 {lo:Int}{n:Nat}{g:TG}{tb:TS}{D:qQ}{σ:St}{H:Hp}(Pv:Nat->St->Hp->Prop) (h0:Pv 0 σ H)
  (hs:∀i σ H,i<n->Pv i σ H->g (.int (lo+i)) σ H λσ2 H2=>tb { D with nx:=Pv (i+1),ct:=Pv (i+1),bk:=D.nx } σ2 H2) (hd:∀σ H,Pv n σ H->D.nx σ H) :
  ∃W:Nat->Nat->St->Hp->Prop,(∃m,W 0 m σ H)/\∀i m σ H,W i m σ H →
   ((Itr lo n).stop i H/\D.nx σ H)\/((Itr lo n).go i H/\∃N:St->Hp->Prop,(∀σ' H',N σ' H'->∃m',m'<m/\W (i+1) m' σ' H')/\∀x H',(Itr lo n).yld i H x H'->g x σ H' λσ2 H2=>tb { D with nx:=N,ct:=N,bk:=D.nx } σ2 H2):=by
 refine⟨λi m σ H=>m=n - i/\i<=n/\Pv i σ H,⟨n,by simp,Nat.zero_le _,h0⟩,?_⟩
 rintro i m σ H ⟨rfl,hi,p⟩
 by_cases hlt:i<n
 ·refine .inr ⟨hlt,Pv (i+1),λσ' H' p'=>⟨n - (i+1),by omega,rfl,hlt,p'⟩,λx H' y=>?_⟩
  obtain⟨e,y⟩:=y
  subst e y
  exact hs i σ _ hlt p
 ·have e:i=n:=by omega
  subst e
  exact .inl ⟨Nat.le_refl _,hd σ H p⟩
theorem Vh {c:TT}{tb:TS}{D:qQ}{σ:St}{H:Hp}(Pv:St->Hp->Prop) (μ:St->Hp->Nat) (h0:Pv σ H)
  (hs:∀σ H,Pv σ H->c σ H λb H1=>if b=true then tb { D with nx:=λσ' H'=>Pv σ' H'/\μ σ' H'<μ σ H,ct:=λσ' H'=>Pv σ' H'/\μ σ' H'<μ σ H,bk:=D.nx } σ H1 else D.nx σ H1)
  (mono:∀σ H Q Q',(∀b H1,Q b H1->Q' b H1)->c σ H Q->c σ H Q'):Qx c tb D σ H:=by
 refine⟨λm σ H=>m=μ σ H/\Pv σ H,⟨_,rfl,h0⟩,?_⟩
 rintro m σ H ⟨rfl,p⟩
 refine mono σ H _ _ (λb H1 q=>?_) (hs σ H p)
 cases b with
 | true=>exact⟨_,λσ' H' ⟨p',l⟩=>⟨_,l,rfl,p'⟩,q⟩
 | false=>exact q
end L2
namespace L2
open PySem PySem.Spec PyProof.Rows
abbrev R2:=V->V->Hp->VK->Prop
def OpR (X:Cx) (f:Value->Value->Sem Value) (r:R2):Prop :=
 ∀(pins:List (Addr×Obj)) (s:Shared) (σ:St) (H:Hp) (x y:V) (v u:Value) (Q:VK),Inv X pins σ H s->xj x v->xj y u->r x y H Q →
  wpAny (model X.prog X.w) X.A (f v u) (EP X pins σ Q) X.xe s
def UnR (X:Cx) (f:Value->Sem Value) (r:V->Hp->VK->Prop):Prop :=
 ∀(pins:List (Addr×Obj)) (s:Shared) (σ:St) (H:Hp) (x:V) (v:Value) (Q:VK),Inv X pins σ H s->xj x v->r x H Q →
  wpAny (model X.prog X.w) X.A (f v) (EP X pins σ Q) X.xe s
def vN (X:Cx) (f:Value) (r:List V->Hp->VK->Prop):Prop :=
 ∀(pins:List (Addr×Obj)) (s:Shared) (σ:St) (H:Hp) (xs:List V) (us:List Value) (Q:VK),Inv X pins σ H s->zU xs us->r xs H Q →
  wpAny (model X.prog X.w) X.A (call f us) (EP X pins σ Q) X.xe s
def TruR (X:Cx) (r:V->Hp->(Bool->Hp->Prop)->Prop):Prop :=
 ∀(pins:List (Addr×Obj)) (s:Shared) (σ:St) (H:Hp) (x:V) (v:Value) (Q:Bool->Hp->Prop),Inv X pins σ H s->xj x v->r x H Q →
  wpAny (model X.prog X.w) X.A (truthy v) (TP X pins σ Q) X.xe s
def tOp (r:R2) (ta tb:TE):TE:=λσ H Q=>ta σ H λx H1=>tb σ H1 λy H2=>r x y H2 Q
def tUn (r:V->Hp->VK->Prop) (ta:TE):TE:=λσ H Q=>ta σ H λx H1=>r x H1 Q
def rI (C:Int->Int->Prop) (g:Int->Int->V):R2:=λx y H Q=>∃i j,x = .int i/\y = .int j/\C i j/\Q (g i j) H
def rI0 (g:Int->Int->V):R2:=λx y H Q=>∃i j,x = .int i/\y = .int j/\Q (g i j) H
def rU (g:Int->V):V->Hp->VK->Prop:=λx H Q=>∃i,x = .int i/\Q (g i) H
section
variable {X:Cx}{a b c:Expr}{ta tb tc:TE}{pos:Pos}
theorem zdA (ha:PE X a ta) (hb:PE X b tb){pins:List (Addr×Obj)}{s:Shared}{σ:St}{H:Hp}{R:V->V->Hp->Prop}(I:Inv X pins σ H s)
  (h:ta σ H λx H1=>tb σ H1 λy H2=>R x y H2){Q:Value->Shared->Prop}{f:Value->Value->Sem Value}
  (hf:∀v u s2 x y H2,Inv X pins σ H2 s2->xj x v->xj y u->R x y H2->wpAny (model X.prog X.w) X.A (f v u) Q X.xe s2) :
  wpAny (model X.prog X.w) X.A (eval a X.env) (λv s₁=>wpAny (model X.prog X.w) X.A (eval b X.env) (λu s₂=>wpAny (model X.prog X.w) X.A (f v u) Q X.xe s₂) X.xe s₁) X.xe s:=by
 refine thn (ha pins s σ H _ I h) λv s1 ⟨x,H1,I1,r1,q1⟩=>?_
 refine thn (hb pins s1 σ H1 _ I1 q1) λu s2 ⟨y,H2,I2,r2,q2⟩=>?_
 exact hf v u s2 x y H2 I2 r1 r2 q2
theorem zA {op:Operator}{r:R2}(ho:OpR X (binaryOp op) r) (ha:PE X a ta) (hb:PE X b tb):PE X (.BinOp a op b pos) (tOp r ta tb):=by
 intro pins s σ H Q I h
 exact wpAny_BinOp (zdA ha hb I h λv u s2 x y H2 I2 rx ry q=>ho pins s2 σ H2 x y v u Q I2 rx ry q)
theorem zdi {op:UnaryOp}{r:V->Hp->VK->Prop}(ho:UnR X (unaryOp op) r) (ha:PE X a ta):PE X (.UnaryOp op a pos) (tUn r ta):=by
 intro pins s σ H Q I h
 exact UnaryOp_ (thn (ha pins s σ H _ I h) λv s1 ⟨x,H1,I1,r1,q1⟩=>ho pins s1 σ H1 x v Q I1 r1 q1)
theorem opI {f:Value->Value->Sem Value}{C:Int->Int->Prop}{g:Int->Int->Int}
  (rule:∀(i j:Int) (t u:Tok) (s:Shared) (Q:Value->Shared->Prop) (E:Value->Shared->Prop),C i j->Q (.int (g i j) s.toks) { s with toks:=s.toks+1 }->wpAny (model X.prog X.w) X.A (f (.int i t) (.int j u)) Q E s) :
  OpR X f (rI C λi j=>.int (g i j)):=by
 intro pins s σ H x y v u Q I rx ry h
 obtain⟨i,j,rfl,rfl,hc,q⟩:=h
 obtain⟨t,rfl⟩:=rx
 obtain⟨t',rfl⟩:=ry
 exact rule i j t t' s _ _ hc ⟨.int (g i j),H,I.tok _,⟨_,rfl⟩,q⟩
theorem zfs {f:Value->Value->Sem Value}{g:Int->Int->Int}
  (rule:∀(i j:Int) (t u:Tok) (s:Shared) (Q:Value->Shared->Prop) (E:Value->Shared->Prop),Q (.int (g i j) s.toks) { s with toks:=s.toks+1 }->wpAny (model X.prog X.w) X.A (f (.int i t) (.int j u)) Q E s) :
  OpR X f (rI0 λi j=>.int (g i j)):=by
 intro pins s σ H x y v u Q I rx ry h
 obtain⟨i,j,rfl,rfl,q⟩:=h
 obtain⟨t,rfl⟩:=rx
 obtain⟨t',rfl⟩:=ry
 exact rule i j t t' s _ _ ⟨.int (g i j),H,I.tok _,⟨_,rfl⟩,q⟩
theorem zfr {f:Value->Value->Sem Value}{g:Int->Int->Bool}
  (rule:∀(i j:Int) (t u:Tok) (s:Shared) (Q:Value->Shared->Prop) (E:Value->Shared->Prop),Q (.bool (g i j)) s->wpAny (model X.prog X.w) X.A (f (.int i t) (.int j u)) Q E s) :
  OpR X f (rI0 λi j=>.bl (g i j)):=by
 intro pins s σ H x y v u Q I rx ry h
 obtain⟨i,j,rfl,rfl,q⟩:=h
 obtain⟨t,rfl⟩:=rx
 obtain⟨t',rfl⟩:=ry
 exact rule i j t t' s _ _ ⟨.bl (g i j),H,I,rfl,q⟩
def CDiv (i j:Int):Prop:=0<j/\j<1073741824
def CPow (i j:Int):Prop:=0<=j/\j<=1000000/\i.natAbs<2^64
def zdw (i j:Int):Prop:=(-(2^64)<i/\i<2^64)\/(-(2^64)<j/\j<2^64)
theorem zdw.ok {i j:Int}(h:zdw i j):IntMulOk i j:=by
 rcases h with⟨h1,h2⟩ | ⟨h1,h2⟩
 ·exact .of_left (intBits_le_64 h1 h2)
 ·exact .of_right (intBits_le_64 h1 h2)
theorem xa:OpR X (binaryOp .Add) (rI0 λi j=>.int (i+j)):=zfs λ_ _ _ _ _ _ _ q=>add_int q
theorem qj:OpR X (binaryOp .Sub) (rI0 λi j=>.int (i - j)):=zfs λ_ _ _ _ _ _ _ q=>sub_int q
theorem VF:OpR X (binaryOp .Mult) (rI zdw λi j=>.int (i*j)):=opI λ_ _ _ _ _ _ _ hc q=>mul_int q hc.ok
theorem Jm:OpR X (binaryOp .FloorDiv) (rI CDiv λi j=>.int (i/j)):=opI λi j _ _ _ _ _ hc q=>by
 have h1:(0:Int)<j:=hc.1
 have h2:j<1073741824:=hc.2
 exact floordiv_int (by omega) (by rw[Int.fdiv_eq_ediv_of_nonneg i (by omega)];exact q) (.inl (PyProof.noPylong_small (by omega)))
theorem jc:OpR X (binaryOp .Mod) (rI (λ_ j=>0<j) λi j=>.int (i % j)):=opI λi j _ _ _ _ _ hc q=>by
 have h1:(0:Int)<j:=hc
 exact mod_int' (by omega) (by rw[Int.fmod_eq_emod_of_nonneg i (by omega)];exact q)
theorem jp:OpR X (binaryOp .Pow) (rI CPow λi j=>.int (i^j.toNat)):=opI λ_ _ _ _ _ _ _ hc q=>pow_int_small hc.1 hc.2.1 hc.2.2 q
theorem unI {f:Value->Sem Value}{g:Int->Int}
  (rule:∀(i:Int) (t:Tok) (s:Shared) (Q:Value->Shared->Prop) (E:Value->Shared->Prop),Q (.int (g i) s.toks) { s with toks:=s.toks+1 }->wpAny (model X.prog X.w) X.A (f (.int i t)) Q E s) :
  UnR X f (rU λi=>.int (g i)):=by
 intro pins s σ H x v Q I rx h
 obtain⟨i,rfl,q⟩:=h
 obtain⟨t,rfl⟩:=rx
 exact rule i t s _ _ ⟨.int (g i),H,I.tok _,⟨_,rfl⟩,q⟩
theorem zbL:UnR X (unaryOp .USub) (rU λi=>.int (-i)):=unI λ_ _ _ _ _ q=>neg_int q
end
def zfJ:V->V->Bool
 | .non,.non=>true | .non,.int _=>true | .int _,.non=>true | .non,.bl _=>true | .bl _,.non=>true | .non,.str _=>true | .str _,.non=>true
 | .int _,.int _=>true | .bl _,.bl _=>true | .str _,.str _=>true | .byt _,.byt _=>true
 | .int _,.str _=>true | .str _,.int _=>true | .bl _,.str _=>true | .str _,.bl _=>true
 | _,_=>false
def rEq:R2:=λx y H Q=>zfJ x y=true/\Q (.bl (decide (x=y))) H
def rNe:R2:=λx y H Q=>zfJ x y=true/\Q (.bl (!decide (x=y))) H
theorem V5 {i j:Int}:decide (V.int i=V.int j)=(i == j):=by
 rw[Bool.eq_iff_iff]
 simp
theorem zaL {i j:Bool}:decide (V.bl i=V.bl j)=(i == j):=by
 rw[Bool.eq_iff_iff]
 simp
theorem V6 {i j:Str}:decide (V.str i=V.str j)=(i == j):=by
 rw[Bool.eq_iff_iff]
 simp
theorem V4 {i j:Array UInt8}:decide (V.byt i=V.byt j)=(i.toList == j.toList):=by
 rw[Bool.eq_iff_iff]
 cases i
 cases j
 simp
section
variable {X:Cx}{a b c:Expr}{ta tb tc:TE}{pos:Pos}
theorem xf {pins:List (Addr×Obj)}{σ:St}{H:Hp}{s:Shared}{Q:VK}{k k':Bool}(I:Inv X pins σ H s) (q:Q (.bl k) H) (e:k=k'):EP X pins σ Q (.bool k') s:=by
 subst e
 exact⟨.bl k,H,I,rfl,q⟩
theorem vp:OpR X (compareOp .Eq) rEq:=by
 intro pins s σ H x y v u Q I rx ry h
 obtain⟨hs,q⟩:=h
 cases x with
 | non =>
  cases rx
  cases y with
  | non=>cases ry;exact PySem.EqNone.eq_none_none (xf I q (by simp))
  | bl j=>cases ry;exact PySem.EqNone.eq_none_bool (xf I q (by simp))
  | int j=>obtain⟨t',rfl⟩:=ry;exact PySem.EqNone.eq_none_int (xf I q (by simp))
  | str j=>obtain⟨t',rfl⟩:=ry;exact PySem.EqNone.eq_none_str (xf I q (by simp))
  | _=>exact absurd (show false=true from hs) Bool.false_ne_true
 | bl i =>
  cases rx
  cases y with
  | non=>cases ry;exact PySem.EqNone.eq_bool_none (xf I q (by simp))
  | bl j=>cases ry;exact eq_bool (xf I q zaL)
  | str j=>obtain⟨t',rfl⟩:=ry;exact PySem.EqMixed.eq_bool_str (xf I q (by simp))
  | _=>exact absurd (show false=true from hs) Bool.false_ne_true
 | int i =>
  obtain⟨t,rfl⟩:=rx
  cases y with
  | non=>cases ry;exact PySem.EqNone.eq_int_none (xf I q (by simp))
  | int j=>obtain⟨t',rfl⟩:=ry;exact eq_int (xf I q V5)
  | str j=>obtain⟨t',rfl⟩:=ry;exact PySem.EqMixed.eq_int_str (xf I q (by simp))
  | _=>exact absurd (show false=true from hs) Bool.false_ne_true
 | str i =>
  obtain⟨t,rfl⟩:=rx
  cases y with
  | non=>cases ry;exact PySem.EqNone.eq_str_none (xf I q (by simp))
  | bl j=>cases ry;exact PySem.EqMixed.eq_str_bool (xf I q (by simp))
  | int j=>obtain⟨t',rfl⟩:=ry;exact PySem.EqMixed.eq_str_int (xf I q (by simp))
  | str j=>obtain⟨t',rfl⟩:=ry;exact eq_str (xf I q V6)
  | _=>exact absurd (show false=true from hs) Bool.false_ne_true
 | byt i =>
  obtain⟨t,rfl⟩:=rx
  cases y with
  | byt j=>obtain⟨t',rfl⟩:=ry;exact PySem.W.eq_bytes (xf I q V4)
  | _=>exact absurd (show false=true from hs) Bool.false_ne_true
 | _=>cases y <;> exact absurd (show false=true from hs) Bool.false_ne_true
theorem Jo:OpR X (compareOp .NotEq) rNe:=by
 intro pins s σ H x y v u Q I rx ry h
 obtain⟨hs,q⟩:=h
 cases x with
 | non =>
  cases rx
  cases y with
  | non=>cases ry;exact PySem.EqNone.ne_none_none (xf I q (by simp))
  | bl j=>cases ry;exact PySem.EqNone.ne_none_bool (xf I q (by simp))
  | int j=>obtain⟨t',rfl⟩:=ry;exact PySem.EqNone.ne_none_int (xf I q (by simp))
  | str j=>obtain⟨t',rfl⟩:=ry;exact PySem.EqNone.ne_none_str (xf I q (by simp))
  | _=>exact absurd (show false=true from hs) Bool.false_ne_true
 | bl i =>
  cases rx
  cases y with
  | non=>cases ry;exact PySem.EqNone.ne_bool_none (xf I q (by simp))
  | bl j=>cases ry;exact ne_bool (xf I q (congrArg not zaL))
  | str j=>obtain⟨t',rfl⟩:=ry;exact PySem.EqMixed.ne_bool_str (xf I q (by simp))
  | _=>exact absurd (show false=true from hs) Bool.false_ne_true
 | int i =>
  obtain⟨t,rfl⟩:=rx
  cases y with
  | non=>cases ry;exact PySem.EqNone.ne_int_none (xf I q (by simp))
  | int j=>obtain⟨t',rfl⟩:=ry;exact ne_int (xf I q (congrArg not V5))
  | str j=>obtain⟨t',rfl⟩:=ry;exact PySem.EqMixed.ne_int_str (xf I q (by simp))
  | _=>exact absurd (show false=true from hs) Bool.false_ne_true
 | str i =>
  obtain⟨t,rfl⟩:=rx
  cases y with
  | non=>cases ry;exact PySem.EqNone.ne_str_none (xf I q (by simp))
  | bl j=>cases ry;exact PySem.EqMixed.ne_str_bool (xf I q (by simp))
  | int j=>obtain⟨t',rfl⟩:=ry;exact PySem.EqMixed.ne_str_int (xf I q (by simp))
  | str j=>obtain⟨t',rfl⟩:=ry;exact ne_str (xf I q (congrArg not V6))
  | _=>exact absurd (show false=true from hs) Bool.false_ne_true
 | byt i =>
  obtain⟨t,rfl⟩:=rx
  cases y with
  | byt j=>obtain⟨t',rfl⟩:=ry;exact PySem.W.ne_bytes (xf I q (congrArg not V4))
  | _=>exact absurd (show false=true from hs) Bool.false_ne_true
 | _=>cases y <;> exact absurd (show false=true from hs) Bool.false_ne_true
theorem jP:OpR X (compareOp .Lt) (rI0 λi j=>.bl (decide (i<j))):=zfr λ_ _ _ _ _ _ _ q=>lt_int q
theorem Xf:OpR X (compareOp .Gt) (rI0 λi j=>.bl (decide (j<i))):=zfr λ_ _ _ _ _ _ _ q=>gt_int q
theorem vn:OpR X (compareOp .Is) (λx y H Q=>y = .non/\Q (.bl (decide (x = .non))) H):=by
 intro pins s σ H x y v u Q I rx ry h
 obtain⟨rfl,q⟩:=h
 cases ry
 refine is_none_gen (xf I q ?_)
 cases x <;> first
  | (cases rx;rfl)
  | (obtain⟨t,rfl⟩:=rx;rfl)
theorem qI:OpR X (compareOp .IsNot) (λx y H Q=>y = .non/\Q (.bl (!decide (x = .non))) H):=by
 intro pins s σ H x y v u Q I rx ry h
 obtain⟨rfl,q⟩:=h
 cases ry
 refine isnot_none_gen (xf I q ?_)
 cases x <;> first
  | (cases rx;rfl)
  | (obtain⟨t,rfl⟩:=rx;rfl)
theorem zJ (b:Expr){op:CmpOp}(h:op≠.In:=by decide) (h2:op≠.NotIn:=by decide):behindInMarks op b=false:=by
 have e1:(op == CmpOp.In)=false:=by cases op <;> first | rfl | exact absurd rfl h
 have e2:(op == CmpOp.NotIn)=false:=by cases op <;> first | rfl | exact absurd rfl h2
 cases b <;> simp[behindInMarks,e1,e2]
theorem vQ {op:CmpOp}{r:R2}(ho:OpR X (compareOp op) r) (ha:PE X a ta) (hb:PE X b tb) (hm:behindInMarks op b=false):PE X (.Compare a [op] [b] pos) (tOp r ta tb):=by
 intro pins s σ H Q I h
 exact wpAny_Compare1 (zdA ha hb I h λv u s2 x y H2 I2 rx ry q=>ho pins s2 σ H2 x y v u Q I2 rx ry q) hm
def zgd (t:TE):TT:=λσ H Q=>t σ H λx H'=>∃k,x = .bl k/\Q k H'
theorem zI {op:CmpOp}{r:R2}(ho:OpR X (compareOp op) r) (ha:PE X a ta) (hb:PE X b tb) (hm:behindInMarks op b=false):PT X (.Compare a [op] [b] pos) (zgd (tOp r ta tb)):=by
 intro pins s σ H Q I h
 refine wpAny_isTrue_Compare1 (thn (ha pins s σ H _ I h) λv s1 ⟨x,H1,I1,r1,q1⟩=>thn (hb pins s1 σ H1 _ I1 q1) λu s2 ⟨y,H2,I2,r2,q2⟩ =>
  thn (ho pins s2 σ H2 x y v u _ I2 r1 r2 q2) λc s3 ⟨z,H3,I3,r3,k,e,q3⟩=>?_) hm
 subst e
 cases r3
 exact wpAny_truthy_bool ⟨H3,I3,q3⟩
def zeK (K:PySem.W.Frag) (x:V) (H:Hp) (k:Bool):Prop :=
 match x with
 | .non=>k=false
 | .bl b=>k=b
 | .int i=>k=(i != 0)
 | .str y=>y.length<=sizeLine/\k=((y.length:Int) != 0)
 | .byt y=>y.size<=sizeLine/\k=((y.size:Int) != 0)
 | .ref p=>(∃xs,SqL K H p xs/\k = !xs.isEmpty)\/(∃xs,SqT K H p xs/\k = !xs.isEmpty)\/∃kvs,H p=some (.dK kvs)/\k = !kvs.isEmpty
 | _=>False
theorem Vu {κ:Type}{kvs:List (κ×V)}{vs:List (κ×Value)} (r:KV kvs vs):(!vs.isEmpty) = !kvs.isEmpty:=by
 cases r <;> rfl
theorem Z5 {xs:List V}{its:List Value}(r:zU xs its):(!its.toArray.isEmpty) = !xs.isEmpty:=by
 cases r <;> simp
theorem Xa:(sizeLine:Nat)<2^63:=by rw[sizeLine_eq];decide
theorem zeC:TruR X (λx H Q=>∃k,zeK X.K x H k/\Q k H):=by
 intro pins s σ H x v Q I rx h
 obtain⟨k,e,q⟩:=h
 have hl:=Xa
 have hs:sizeLine=16777216:=sizeLine_eq
 cases x with
 | non =>
  cases rx
  have e':k=false:=e
  subst e'
  exact truthy_none ⟨H,I,q⟩
 | bl b =>
  cases rx
  have e':k=b:=e
  subst e'
  exact wpAny_truthy_bool ⟨H,I,q⟩
 | int i =>
  obtain⟨t,rfl⟩:=rx
  have e':k=(i != 0):=e
  subst e'
  exact PySem.P.truthy_int ⟨H,I,q⟩
 | str y =>
  obtain⟨t,rfl⟩:=rx
  obtain⟨hy,e'⟩:y.length<=sizeLine/\k=((y.length:Int) != 0):=e
  subst e'
  exact PySem.P.truthy_str (by omega) ⟨H,I.tok _,q⟩
 | byt y =>
  obtain⟨t,rfl⟩:=rx
  obtain⟨hy,e'⟩:y.size<=sizeLine/\k=((y.size:Int) != 0):=e
  subst e'
  exact PySem.W.truthy_bytes (by omega) ⟨H,I.tok _,q⟩
 | ref p =>
  cases rx
  have e':(∃xs,SqL X.K H p xs/\k = !xs.isEmpty)\/(∃xs,SqT X.K H p xs/\k = !xs.isEmpty)\/∃kvs,H p=some (.dK kvs)/\k = !kvs.isEmpty:=e
  rcases e' with⟨xs,hx,e'⟩ | ⟨xs,hx,e'⟩ | ⟨kvs,hx,e'⟩
  ·subst e'
   obtain⟨its,r,pl,hz⟩:=I.list hx
   have hlen:=r.length
   exact wpAny_truthy_list pl.isList (by simp only[List.size_toArray];omega) ⟨H,I.tok _,by rw[Z5 r];exact q⟩
  ·subst e'
   obtain⟨its,r,pl,hz⟩:=I.tuple hx
   have hlen:=r.length
   exact truthy_tuple pl (by simp only[List.size_toArray];omega) ⟨H,I.tok _,by rw[Z5 r];exact q⟩
  ·subst e'
   obtain⟨hz,hS,vs,r,m⟩:kvs.length<=sizeLine/\(p == sysModules)=false/\∃vs,KV kvs vs/\s.heap.DictOf (Qh X.prog X.w) p vs:=I.hok p _ hx
   have hlen:kvs.length=vs.length:=Paired.length r
   exact wpAny_truthy_dict hS m (by omega) ⟨H,I.tok _,by rw[Vu r];exact q⟩
 | _=>exact(show False from e).elim
theorem qK (ha:PE X a ta) (he:∀whole,isTrue a X.env whole=(do let v <-whole;standAt a.pos;holding [v] (truthy v))) :
  PT X a (λσ H Q=>ta σ H λx H'=>∃k,zeK X.K x H' k/\Q k H'):=by
 intro pins s σ H Q I h
 exact isTrue_plain (thn (ha pins s σ H _ I h) λv s1 ⟨x,H1,I1,r1,q1⟩=>zeC pins s1 σ H1 x v Q I1 r1 q1) (he _)
theorem jY {x:V}{us:List Value}(r:zU [x] us):∃u,us=[u]/\xj x u:=by
 cases r with
 | cons r1 r2=>cases r2;exact⟨_,rfl,r1⟩
theorem ZE {x y:V}{us:List Value}(r:zU [x,y] us):∃u w',us=[u,w']/\xj x u/\xj y w':=by
 cases r with
 | cons r1 r2 =>
  cases r2 with
  | cons r3 r4=>cases r4;exact⟨_,_,rfl,r1,r3⟩
theorem jE:vN X (.builtin "abs") (λxs H Q=>∃i,xs=[.int i]/\Q (.int (if i<0 then -i else i)) H):=by
 intro pins s σ H xs us Q I r h
 obtain⟨i,rfl,q⟩:=h
 obtain⟨u,rfl,t,rfl⟩:=jY r
 exact call_abs_int λu tk=>⟨.int (if i<0 then -i else i),H,I.tok _,⟨_,rfl⟩,q⟩
theorem JW (hc:X.calm=true):vN X (.builtin "max") (λxs H Q=>∃i j,xs=[.int i,.int j]/\Q (.int (if j>i then j else i)) H):=by
 intro pins s σ H xs us Q I r h
 obtain⟨i,j,rfl,q⟩:=h
 obtain⟨u,w',rfl,⟨t,rfl⟩,⟨t',rfl⟩⟩:=ZE r
 refine max_two_ints (I.ok.hd hc) λh' tk k=>⟨_,H,I.kept k,?_,q⟩
 by_cases hj:j>i
 ·rw[if_pos hj,if_pos hj];exact⟨_,rfl⟩
 ·rw[if_neg hj,if_neg hj];exact⟨_,rfl⟩
theorem JX (hc:X.calm=true):vN X (.builtin "min") (λxs H Q=>∃i j,xs=[.int i,.int j]/\Q (.int (if j<i then j else i)) H):=by
 intro pins s σ H xs us Q I r h
 obtain⟨i,j,rfl,q⟩:=h
 obtain⟨u,w',rfl,⟨t,rfl⟩,⟨t',rfl⟩⟩:=ZE r
 refine min_two_ints (I.ok.hd hc) λh' tk k=>⟨_,H,I.kept k,?_,q⟩
 by_cases hj:j<i
 ·rw[if_pos hj,if_pos hj];exact⟨_,rfl⟩
 ·rw[if_neg hj,if_neg hj];exact⟨_,rfl⟩
theorem XC:vN X (.type "int") (λxs H Q=>(∃i,xs=[.int i]/\Q (.int i) H)\/∃k,xs=[.bl k]/\Q (.int (if k then 1 else 0)) H):=by
 intro pins s σ H xs us Q I r h
 rcases h with⟨i,rfl,q⟩ | ⟨k,rfl,q⟩
 ·obtain⟨u,rfl,t,rfl⟩:=jY r
  exact call_int_int ⟨.int i,H,I,⟨_,rfl⟩,q⟩
 ·obtain⟨u,rfl,r1⟩:=jY r
  cases r1
  exact call_int_bool ⟨.int (if k then 1 else 0),H,I.tok _,⟨_,rfl⟩,q⟩
end
end L2
namespace L2
open PySem PySem.Spec PyProof.Rows
structure JS (h:Heap) (x dx C:Addr) (mA:Str->Option Value):Prop where
 obj:h.get? x=some (PySem.W.instObj C dx)
 ns:h.Ns1 dx mA
 ne:dx≠x
theorem XN {h:Heap}{dx:Addr}{mA:Str->Option Value}(n:h.Ns1 dx mA):∃od,h.get? dx=some od/\∀name,PySem.W.lookIn name od=some (mA name):=by
 obtain⟨o,es,ep,ho,hd,hk,_,hm⟩:=n
 refine⟨o,ho,λname=>?_⟩
 have e:=hm name
 unfold nsFind findBy at e
 rw[<-Array.find?_toList]at e
 unfold PySem.W.lookIn
 rw[hd]
 dsimp only
 split
 ·rename_i y q
  rw[q]at e
  exact congrArg some e
 ·rename_i q
  rw[q]at e
  have a:es.toList.any (·.refKey)=false:=by
   rw[List.any_eq_false]
   intro y hy
   obtain⟨z,t,hkey⟩:=hk y (Array.mem_toList_iff.mp hy)
   simp[DictEntry.refKey,hkey]
  have a':¬es.toList.any (·.refKey)=true:=by rw[a];exact Bool.false_ne_true
  rw[if_neg a']
  exact congrArg some e
theorem JS.look {h:Heap}{x dx C:Addr}{mA:Str->Option Value}(I:JS h x dx C mA):∃od,PySem.W.InstAt h x (PySem.W.instObj C dx) C (some od)/\∀name,PySem.W.lookIn name od=some (mA name) :=
 let ⟨od,ho,hl⟩:=XN I.ns
 ⟨od,⟨I.obj,rfl,rfl,ho⟩,hl⟩
section
variable {prog:Program}{w:World}{A:Around}{E:Value->Shared->Prop}{s:Shared}{K:PySem.W.Frag}{x dx C f:Addr}{mA:Str->Option Value}{name:Str}{v:Value}
theorem zb7 {expr:Bool}{Q:Value->Shared->Prop}(X:K.In s.heap) (I:JS s.heap x dx C mA) (hg:PySem.W.plainGet K C name=true) (hh:PySem.W.hasDictIn K C=true)
  (ha:PySem.W.findIn K (.ref C) name=some none) (hv:mA name=some v) (hv':PySem.W.handedIn v=true) (h:Q v { s with toks:=s.toks+1 }) :
  wpAny (model prog w) A (getAttr (.ref x) name expr) Q E s:=by
 obtain⟨od,J,hl⟩:=I.look
 exact PySem.W.get_value X J (PySem.W.plainGet_of hg).1 (PySem.W.findObj_own hh ha rfl (by rw[hl,hv])) hv' h
theorem zcO {ns:List Str}{Q:Unit->Shared->Prop}(X:K.In s.heap) (I:JS s.heap x dx C mA)
  (hs:PySem.W.findIn K (.ref C) "__setattr__" = some (some (.builtin "object.__setattr__"))) (hp:PySem.W.plainOver K C=true) (ht:PySem.W.takerIn K C name=some none) (hh:PySem.W.hasDictIn K C=true)
  (hw:PySem.Within mA ns) (hsz:ns.length<=sizeLine)
  (h:∀h',JS h' x dx C (λy=>if y=name then some v else mA y)->Heap.SameBut dx s.heap h'->Q () { s with heap:=h',toks:=s.toks+2 }) :
  wpAny (model prog w) A (setAttr (.ref x) name v) Q E s:=by
 obtain⟨od,J,hl⟩:=I.look
 refine PySem.W.set_plain X J hs (PySem.W.osa_open (s:={ s with toks:=s.toks+1 }) (r:=none) X J hp ht λb=>?_)
 obtain⟨cd,hc,hd'⟩:=PySem.W.any_some hh
 have hx:s.heap.get? x=some ⟨.ref C,some dx,.plain,#[]⟩:=I.obj
 refine wpAny_bind (wpAny_pure (wpAny_bind (wpAny_bind (wpAny_loadPart hx (wpAny_bind (PySem.W.Looks.here (s:={ s with toks:=s.toks+1 }) (PySem.W.looks_clsIn X hc) ?_))))))
 rw[hd']
 refine wpAny_pure (a:=some dx) (wpAny_bind (wpAny_pure (wpAny_bind ?_)))
 refine wpAny_nsSet1 (s:={ s with toks:=s.toks+1 }) I.ns λh' hn2 hs2=>?_
 obtain⟨oD,esD,epD,hoD,hdD,hcD⟩:=hn2.count (PySem.Within.cons name v hw)
 refine wpAny_bind (wpAny_lookBehind hoD (by rw[hdD];exact pastItsLine_dict (Nat.le_trans hcD (by rw[List.length_cons];omega))) ?_)
 exact wpAny_pure (h _ ⟨(hs2.2 _ (Ne.symm I.ne)).trans I.obj,hn2,I.ne⟩ hs2)
theorem za6 {R:Result->Shared->Prop}{vs:List Value}{kw:List (Str×Value)} (X:K.In s.heap) (hm:PySem.W.makesIn K C=true)
  (hi:PySem.W.findIn K (.ref C) "__init__" = some (some (.ref f))) (hf:PySem.W.typeIn K (.ref f)=some (.type "function"))
  (h:codeAny (model prog w) (A.under (.builtin "type.__call__" ⟨.ref C::vs,kw⟩)) (.call (.ref f) ⟨.ref (s.heap.objs.size+1)::vs,kw⟩) (PySem.W.InitBack (s.heap.objs.size+1) R)
   { s with heap:=(s.heap.push PySem.W.emptyDict).push (PySem.W.instObj C s.heap.objs.size) }) :
  codeAny (model prog w) A (.call (.ref C) ⟨vs,kw⟩) R s:=by
 obtain⟨hh,g,d,t,os⟩:=s
 exact PySem.W.make_core (PySem.W.makes_of X hm) (PySem.W.looks_findIn X hi) (λself=>PySem.W.bind_fn X self hf) (.inl rfl) h
end
def xI (f:Str) (v:V):List (Str×V)->List (Str×V)
 | []=>[(f,v)]
 | (g,x)::r=>if g=f then(g,v)::r else(g,x)::xI f v r
theorem xm (f g:Str) (v:V):∀fs:List (Str×V),(xI f v fs).lookup g=if g=f then some v else fs.lookup g
 | []=>by
  show List.lookup g [(f,v)]=_
  by_cases h:g=f
  ·have hb:(g == f)=true:=beq_iff_eq.mpr h
   simp only[List.lookup,hb,if_pos h]
  ·have hb:(g == f)=false:=beq_eq_false_iff_ne.mpr h
   simp only[List.lookup,hb,if_neg h]
 | (k,x)::r=>by
  have ih:=xm f g v r
  rw[show xI f v ((k,x)::r)=(if k=f then(k,v)::r else(k,x)::xI f v r)from rfl]
  by_cases hk:k=f
  ·rw[if_pos hk]
   by_cases h:g=k
   ·have hb:(g == k)=true:=beq_iff_eq.mpr h
    simp only[List.lookup,hb,if_pos (h.trans hk)]
   ·have hb:(g == k)=false:=beq_eq_false_iff_ne.mpr h
    simp only[List.lookup,hb,if_neg (λe:g=f=>h (e.trans hk.symm))]
  ·rw[if_neg hk]
   by_cases h:g=k
   ·have hb:(g == k)=true:=beq_iff_eq.mpr h
    simp only[List.lookup,hb,if_neg (λe:g=f=>hk (h.symm.trans e))]
   ·have hb:(g == k)=false:=beq_eq_false_iff_ne.mpr h
    simp only[List.lookup,hb]
    exact ih
theorem Za (f:Str) (v:V):∀fs:List (Str×V),f∈(xI f v fs).map (·.1)/\∀g,g∈fs.map (·.1)->g∈(xI f v fs).map (·.1)
 | []=>⟨by simp[xI],λg h=>by simp at h⟩
 | (k,x)::r=>by
  obtain⟨i1,i2⟩:=Za f v r
  rw[show xI f v ((k,x)::r)=(if k=f then(k,v)::r else(k,x)::xI f v r)from rfl]
  by_cases hk:k=f
  ·rw[if_pos hk]
   subst hk
   exact⟨by simp,λg h=>by simpa using h⟩
  ·rw[if_neg hk]
   refine⟨?_,λg h=>?_⟩
   ·rw[List.map_cons]
    exact List.mem_cons_of_mem _ i1
   ·rw[List.map_cons]at h ⊢
    rcases List.mem_cons.mp h with e | e
    ·exact List.mem_cons.mpr (.inl e)
    ·exact List.mem_cons_of_mem _ (i2 g e)
theorem Zw (f:Str) (v:V):∀fs:List (Str×V),(xI f v fs).length<=fs.length+1
 | []=>by simp[xI]
 | (k,x)::r=>by
  have ih:=Zw f v r
  rw[show xI f v ((k,x)::r)=(if k=f then(k,v)::r else(k,x)::xI f v r)from rfl]
  by_cases hk:k=f
  ·rw[if_pos hk,List.length_cons,List.length_cons];omega
  ·rw[if_neg hk,List.length_cons,List.length_cons];omega
theorem Xr.some_of {v:V}{o:Option Value}(r:Xr (some v) o):∃u,o=some u/\xj v u:=by
 cases o with
 | none=>exact(show False from r).elim
 | some u=>exact⟨u,rfl,r⟩
theorem XI {v:V}{u:Value}(r:xj v u):PySem.W.handedIn u=true:=by
 cases v with
 | non=>cases(show u=Value.none from r);rfl
 | bl b=>cases(show u=Value.bool b from r);rfl
 | int i=>obtain⟨t,e⟩:=(show ∃t,u=Value.int i t from r);cases e;rfl
 | str x=>obtain⟨t,e⟩:=(show ∃t,u=Value.str x t from r);cases e;rfl
 | byt b=>obtain⟨t,e⟩:=(show ∃t,u=Value.bytes b t from r);cases e;rfl
 | flt b=>obtain⟨t,e⟩:=(show ∃t,u=Value.float b t from r);cases e;rfl
 | ref a=>cases(show u=Value.ref a from r);rfl
 | ty n=>cases(show u=Value.type n from r);rfl
section
variable {P:Program}{w:World}{H H':Hp}{h h':Heap}{a C dx:Addr}{fs fs':List (Str×V)}
theorem Qf (hok:HOk P w H h) (e:H a=some (.ins C dx fs)):∃mA,JS h a dx C mA/\(∀f,Xr (fs.lookup f) (mA f))/\PySem.Within mA (fs.map (·.1))/\fs.length<=1000/\H dx=some (.own a):=by
 obtain⟨d,z,ne,ob,mA,n,r,q⟩:=(show xo P w H h a (.ins C dx fs)from hok a _ e)
 exact⟨mA,⟨ob,n,ne⟩,r,q,z,d⟩
end
structure Cls (K:PySem.W.Frag) (C:Addr):Prop where
 pg:PySem.W.plainGet K C Str.empty=true
 hd:PySem.W.hasDictIn K C=true
 po:PySem.W.plainOver K C=true
 sa:PySem.W.findIn K (.ref C) "__setattr__" = some (some (.builtin "object.__setattr__"))
theorem Cls.get {K:PySem.W.Frag}{C:Addr}(c:Cls K C) (f:Str):PySem.W.plainGet K C f=true:=c.pg
def xz (K:PySem.W.Frag) (C:Addr) (f:Str):Prop:=PySem.W.findIn K (.ref C) f=some none
theorem xz.taker {K:PySem.W.Frag}{C:Addr}{f:Str}(n:xz K C f):PySem.W.takerIn K C f=some none:=by
 unfold PySem.W.takerIn
 rw[show PySem.W.findIn K (.ref C) f=some none from n]
 rfl
section
variable {X:Cx}{pins:List (Addr×Obj)}{σ:St}{H:Hp}{s:Shared}{a C dx:Addr}{fs:List (Str×V)}{f:Str}{v:V}{A:Around}{E:Value->Shared->Prop}
theorem Z4 {b:Bool}{Q:Value->Shared->Prop}(I:Inv X pins σ H s) (e:H a=some (.ins C dx fs)) (c:Cls X.K C) (n:xz X.K C f) (l:fs.lookup f=some v)
  (h:∀u s',Inv X pins σ H s'->xj v u->Q u s'):wpAny (model X.prog X.w) A (getAttr (.ref a) f b) Q E s:=by
 obtain⟨mA,O,r,_,_,_⟩:=Qf I.hok e
 obtain⟨u,hu,ru⟩:=Xr.some_of (v:=v) (o:=mA f) (by rw[<-l];exact r f)
 exact zb7 I.kIn O (c.get f) c.hd n hu (XI ru) (h u _ (I.tok _) ru)
theorem Xn {y:V}{u:Value}{Q:Unit->Shared->Prop}(I:Inv X pins σ H s) (e:H a=some (.ins C dx fs)) (c:Cls X.K C) (n:xz X.K C f) (hl:fs.length<1000) (ry:xj y u)
  (h:∀s',Inv X pins σ (upd H a (.ins C dx (xI f y fs))) s'->Q () s'):wpAny (model X.prog X.w) A (setAttr (.ref a) f u) Q E s:=by
 obtain⟨mA,O,r,wi,_,ho⟩:=Qf I.hok e
 have hz:(fs.map (·.1)).length<=sizeLine:=by rw[List.length_map,sizeLine_eq];omega
 refine zcO I.kIn O c.sa c.po n.taker c.hd wi hz λh' O' sb=>h _ ?_
 have hd:∃o,h'.get? dx=some o:=let ⟨o,_,_,e',_⟩:=O'.ns;⟨o,e'⟩
 refine I.write (x:=a) (e:=dx) (by rw[e];exact True.intro) (.inr ho) (λb q hb z=>(sb.2 b hb).trans z) hd ?_
 refine⟨by rw[zB O.ne];exact ho,?_,O.ne,O'.obj,_,O'.ns,λg=>?_,λg hg=>?_⟩
 ·have:=Zw f y fs;omega
 ·show Xr ((xI f y fs).lookup g) (if g=f then some u else mA g)
  rw[xm]
  by_cases q:g=f
  ·rw[if_pos q,if_pos q];exact ry
  ·rw[if_neg q,if_neg q];exact r g
 ·by_cases q:g=f
  ·rw[q];exact(Za f y fs).1
  ·refine(Za f y fs).2 g (wi g λz=>hg ?_)
   show (if g=f then some u else mA g)=none
   rw[if_neg q];exact z
theorem Inv.made (I:Inv X pins σ H s):Inv X pins σ (upd (upd H s.heap.objs.size (.own (s.heap.objs.size+1))) (s.heap.objs.size+1) (.ins C s.heap.objs.size []))
  { s with heap:=(s.heap.push PySem.W.emptyDict).push (PySem.W.instObj C s.heap.objs.size) }:=by
 have e1:(s.heap.push PySem.W.emptyDict).get? s.heap.objs.size=some PySem.W.emptyDict:=Heap.get?_push_size s.heap rfl
 have e2:((s.heap.push PySem.W.emptyDict).push (PySem.W.instObj C s.heap.objs.size)).get? (s.heap.objs.size+1)=some (PySem.W.instObj C s.heap.objs.size):=by
  have:=Heap.get?_push_size (s.heap.push PySem.W.emptyDict) (o:=PySem.W.instObj C s.heap.objs.size) rfl
  rwa [Heap.size_push]at this
 have e3:(s.heap.push PySem.W.emptyDict).Ns s.heap.objs.size (λ_=>none):=⟨PySem.W.emptyDict,#[],_,e1,rfl,(λe he=>absurd he (by simp)),λ_=>rfl⟩
 have I1:=I.laid (a:=s.heap.objs.size) (o:=.own (s.heap.objs.size+1)) (h':=s.heap.push PySem.W.emptyDict) (t':=s.toks) (λb u q=>Heap.get?_push_of_some _ q) (Nat.le_refl _) ⟨_,e1⟩
 refine I1.laid (a:=s.heap.objs.size+1) (o:=.ins C s.heap.objs.size []) (t':=s.toks) (λb u q=>Heap.get?_push_of_some _ q) (Nat.le_of_eq (Heap.size_push _ _)) ?_
 have ne:s.heap.objs.size≠s.heap.objs.size+1:=Nat.ne_of_lt (Nat.lt_succ_self _)
 refine⟨by rw[zB ne,zf],Nat.zero_le _,ne,e2,λ_=>none,(Heap.Ns1.of_empty e3).at λo q=>Heap.get?_push_of_some _ q,λ_=>True.intro,λy hy=>absurd rfl hy⟩
theorem VY {prog:Program}{w:World}{env:Env}{e:Expr}{f:Str}{pos:Pos}{s:Shared}{Q:Value->Shared->Prop}(hb:attributeBase e f env (eval e env)=eval e env)
  (h:wpAny (model prog w) A (eval e env) (λo s₁=>wpAny (model prog w) A (getAttr o f true) Q E s₁) E s):wpAny (model prog w) A (eval (.Attribute e f pos) env) Q E s :=
 Attribute_any_ h (by rw[arm_eval_Attribute,hb])
end
def tFld (K:PySem.W.Frag) (ta:TE) (f:Str):TE:=λσ H Q=>ta σ H λx H1=>∃a C dx fs v,x = .ref a/\H1 a=some (.ins C dx fs)/\Cls K C/\xz K C f/\fs.lookup f=some v/\Q v H1
def zeh (K:PySem.W.Frag) (ta tv:TE) (f:Str):TS:=λD σ H=>tv σ H λy H1=>ta σ H1 λx H2=>∃a C dx fs,x = .ref a/\H2 a=some (.ins C dx fs)/\Cls K C/\xz K C f/\fs.length<1000 ∧
 D.nx σ (upd H2 a (.ins C dx (xI f y fs)))
def zeI (X:Cx) (op:Operator) (rd:V->V->Hp->VK->Prop):Prop :=
 ∀(pins:List (Addr×Obj)) (s:Shared) (σ:St) (H:Hp) (x y:V) (u v:Value) (Q:VK),Inv X pins σ H s->xj x u->xj y v->rd x y H Q->wpAny (model X.prog X.w) X.A (inplaceOp op u v) (EP X pins σ Q) X.xe s
def zcE (K:PySem.W.Frag) (ta tv:TE) (rd:V->V->Hp->VK->Prop) (f:Str):TS:=λD σ H=>ta σ H λx H1=>∃a C dx fs v,x = .ref a/\H1 a=some (.ins C dx fs)/\Cls K C/\xz K C f/\fs.lookup f=some v ∧
 tv σ H1 λy H2=>rd v y H2 λz H3=>∃dx' fs',H3 a=some (.ins C dx' fs')/\fs'.length<1000/\D.nx σ (upd H3 a (.ins C dx' (xI f z fs')))
section
variable {X:Cx}{o e value:Expr}{f:Str}{pos pos' tpos:Pos}{ta tv:TE}
theorem xb (he:PE X e ta) (hb:attributeBase e f X.env (eval e X.env)=eval e X.env):PE X (.Attribute e f pos) (tFld X.K ta f):=by
 intro pins s σ H Q I h
 refine VY hb (thn (he pins s σ H _ I h) λu s1 ⟨x,H1,I1,rx,a,C,dx,fs,v,ex,ea,c,n,l,q⟩=>?_)
 subst ex
 obtain rfl:u=Value.ref a:=rx
 exact Z4 I1 ea c n l λu' s2 I2 ru=>⟨v,H1,I2,ru,q⟩
theorem vW (ha:PE X o ta) (hv:PE X value tv) (hs:swapsWith value (some (.Attribute o f pos')) pos.line X.env=pure false):PS X (.Assign [.Attribute o f pos'] value pos) (zeh X.K ta tv f):=by
 intro pins s σ H D I h
 refine plainObj_wpAny_Assign_Attribute (thn (hv pins s σ H _ I h) λu s1 ⟨y,H1,I1,ry,q⟩=>thn (ha pins s1 σ H1 _ I1 q) λov s2 ⟨x,H2,I2,rx,a,C,dx,fs,ex,ea,c,n,l,q2⟩=>?_) hs
 subst ex
 obtain rfl:ov=Value.ref a:=rx
 exact Xn I2 ea c n l ry λs3 I3=>⟨σ,_,I3,q2⟩
theorem XS {op:Operator}{rd:V->V->Hp->VK->Prop}(ha:PE X o ta) (hv:PE X value tv) (hop:zeI X op rd):PS X (.AugAssign (.Attribute o f tpos) op value pos) (zcE X.K ta tv rd f):=by
 intro pins s σ H D I h
 refine wpAny_AugAssign_AttributeAny (thn (ha pins s σ H _ I h) λov s1 ⟨x,H1,I1,rx,a,C,dx,fs,v,ex,ea,c,n,l,q⟩=>?_)
 subst ex
 obtain rfl:ov=Value.ref a:=rx
 refine Z4 I1 ea c n l λu s2 I2 ru=>thn (hv pins s2 σ H1 _ I2 q) λw3 s3 ⟨y,H2,I3,ry,q3⟩=>thn (hop pins s3 σ H2 v y u w3 _ I3 ru ry q3) λw4 s4 ⟨z,H3,I4,rz,dx',fs',ea',l',q4⟩=>?_
 exact Xn I4 ea' c n l' rz λs5 I5=>⟨σ,_,I5,q4⟩
end
section
variable {X:Cx}{pins:List (Addr×Obj)}{σ:St}{H:Hp}{s:Shared}{A:Around}{E:Value->Shared->Prop}{Q:Value->Shared->Prop}{c:Value}{b:Bool}
inductive j3 (K:PySem.W.Frag) (H:Hp):V->Value->Prop where
 | non:j3 K H .non (.type "NoneType")
 | bl (x:Bool):j3 K H (.bl x) (.type "bool")
 | int (i:Int):j3 K H (.int i) (.type "int")
 | str (x:Str):j3 K H (.str x) (.type "str")
 | flt (x:UInt64):j3 K H (.flt x) (.type "float")
 | lst {a:Addr}{xs:List V}(e:H a=some (.lst xs)):j3 K H (.ref a) (.type "list")
 | frz {a:Addr}{o:Obj}{xs:List V}(e:H a=some (.frz o (.lst xs))):j3 K H (.ref a) (.type "list")
 | tup {a:Addr}{xs:List V}(e:H a=some (.tup xs)):j3 K H (.ref a) (.type "tuple")
 | dK {a:Addr}{kvs:List (Key×V)} (e:H a=some (.dK kvs)):j3 K H (.ref a) (.type "dict")
 | dT {a:Addr}{kvs:List (List Key×V)} (e:H a=some (.dT kvs)):j3 K H (.ref a) (.type "dict")
 | ins {a C dx:Addr}{fs:List (Str×V)} (e:H a=some (.ins C dx fs)) (cl:Cls K C) (ha:PySem.W.findIn K (.ref C) "__class__" = some (some (.builtin "object.__class__")))
   (hn:PySem.W.specialIn K (.builtin "object.__class__") "__get__" = some (some (.builtin "getset_descriptor.__get__"))) (htk:PySem.W.takesIn K (.builtin "object.__class__")=some true)
   (hm:PySem.W.mroIn K C (.type "object")=some true):j3 K H (.ref a) (.ref C)
theorem J8 {x:V}{u t:Value}(I:Inv X pins σ H s) (rx:xj x u) (ty:j3 X.K H x t) (e:PySem.W.kitOne X.K t c=some b) (h:∀tk,Q (.bool b) { s with toks:=tk }) :
  wpAny (model X.prog X.w) A (call (.builtin "isinstance") [u,c]) Q E s:=by
 cases ty with
 | non=>cases(show u=Value.none from rx);exact PySem.W.kia_one PySem.W.kitx_none I.kIn True.intro e (λz=>nomatch z) h
 | bl y=>cases(show u=Value.bool y from rx);exact PySem.W.kia_one PySem.W.kitx_bool I.kIn True.intro e (λz=>nomatch z) h
 | int i=>obtain⟨t,q⟩:=(show ∃t,u=Value.int i t from rx);cases q;exact PySem.W.kia_one PySem.W.kitx_int I.kIn True.intro e (λz=>nomatch z) h
 | str y=>obtain⟨t,q⟩:=(show ∃t,u=Value.str y t from rx);cases q;exact PySem.W.kia_one PySem.W.kitx_str I.kIn True.intro e (λz=>nomatch z) h
 | flt y=>obtain⟨t,q⟩:=(show ∃t,u=Value.float y t from rx);cases q;exact PySem.W.kia_one PySem.W.kitx_float I.kIn True.intro e (λz=>nomatch z) h
 | @lst a xs ea =>
  cases(show u=Value.ref a from rx)
  obtain⟨_,_,n,_,h1⟩:=(show xo X.prog X.w H s.heap a (.lst xs)from I.hok a _ ea)
  exact PySem.W.kia_one PySem.W.kitx_list I.kIn ⟨_,h1,rfl⟩ e (λz=>nomatch z) h
 | @frz a ob xs ea =>
  cases(show u=Value.ref a from rx)
  obtain⟨_,_,_,n,_,h1⟩:=(show xo X.prog X.w H s.heap a (.frz ob (.lst xs))from I.hok a _ ea)
  exact PySem.W.kia_one PySem.W.kitx_list I.kIn ⟨_,h1,rfl⟩ e (λz=>nomatch z) h
 | @tup a xs ea =>
  cases(show u=Value.ref a from rx)
  obtain⟨_,_,_,p⟩:=(show xo X.prog X.w H s.heap a (.tup xs)from I.hok a _ ea)
  obtain⟨o,h1,h2,_⟩:=p
  exact PySem.W.kia_one PySem.W.kitx_tuple I.kIn ⟨o,h1,h2⟩ e (λz=>nomatch z) h
 | @dK a kvs ea =>
  cases(show u=Value.ref a from rx)
  obtain⟨_,_,vs,_,p⟩:=(show xo X.prog X.w H s.heap a (.dK kvs)from I.hok a _ ea)
  obtain⟨o,es,ep,h1,h2,_⟩:=p
  exact PySem.W.kia_one PySem.W.kitx_dict I.kIn ⟨o,h1,h2.1⟩ e (λz=>nomatch z) h
 | @dT a kvs ea =>
  cases(show u=Value.ref a from rx)
  obtain⟨_,_,xs,_,o,es,ep,h1,h2,_⟩:=(show xo X.prog X.w H s.heap a (.dT kvs)from I.hok a _ ea)
  exact PySem.W.kia_one PySem.W.kitx_dict I.kIn ⟨o,h1,h2.1⟩ e (λz=>nomatch z) h
 | @ins a C dx fs ea cl ha hn htk hm =>
  cases(show u=Value.ref a from rx)
  obtain⟨mA,O,_⟩:=Qf I.hok ea
  obtain⟨od,J,_⟩:=O.look
  exact PySem.W.kia_one (PySem.W.kitx_own (cl.get _) cl.hd ha hn htk hm) I.kIn J e (λz=>nomatch z) h
end
end L2
namespace L2
open PySem PySem.Spec PyProof.Rows
structure xi (k:Nat) (A:Around):Prop where
 hd:A.handled=none
 dp:A.depth+3*k+5<recursionLimit
 un:A.units+16*k+200<cLine
theorem xi.mono {j k:Nat}{A:Around}(r:xi k A) (h:j<=k):xi j A:=⟨r.hd,by have:=r.dp;omega,by have:=r.un;omega⟩
theorem xi.deeper {k:Nat}{A:Around}(r:xi (k+1) A) (env:Env):xi k (A.deeper env) :=
 ⟨r.hd,by have:=r.dp;show A.depth+1+3*k+5<_;omega,by have:=r.un;show A.units+3+16*k+200<_;omega⟩
theorem xi.in1 {k:Nat}{A:Around}(r:xi (k+1) A):xi k A.in1 :=
 ⟨r.hd,by have:=r.dp;show A.depth+3*k+5<_;omega,by have:=r.un;show A.units+1+16*k+200<_;omega⟩
theorem Vy {A:Around}{C:Addr}{us:List Value}{kw:List (Str×Value)}:(A.under (.builtin "type.__call__" ⟨.ref C::us,kw⟩)).depth=A.depth+1:=by
 first | rfl | simp[Around.under,Code.weight,Code.isCreation,Code.isGuard,Code.isCaller,Code.frames,Code.isFrame,guardIds]
theorem Vz {A:Around}{C:Addr}{us:List Value}{kw:List (Str×Value)}:(A.under (.builtin "type.__call__" ⟨.ref C::us,kw⟩)).units=A.units+1:=by
 first | rfl | simp[Around.under,Code.cUnits,Code.frames,Code.isFrame]
theorem xi.make {k:Nat}{A:Around}(r:xi (k+1) A) (C:Addr) (us:List Value) (kw:List (Str×Value)):xi k (A.under (.builtin "type.__call__" ⟨.ref C::us,kw⟩)) :=
 ⟨r.hd,by have:=r.dp;rw[Vy];omega,by have:=r.un;rw[Vz];omega⟩
theorem xi.depth {k:Nat}{A:Around}(r:xi k A):A.depth<recursionLimit:=by have:=r.dp;omega
theorem xi.units {k:Nat}{A:Around}(r:xi k A):A.units+64<cLine:=by have:=r.un;omega
def Zn:TA:=λ_ H Q=>Q [] H
def qp (ta:TE) (tr:TA):TA:=λσ H Q=>ta σ H λx H1=>tr σ H1 λxs H2=>Q (x::xs) H2
section
variable {X:Cx}{e:Expr}{es:List Expr}{te:TE}{t:TA}{pos:Pos}
theorem ze:PA X [] Zn:=λ_ _ _ _ H Q I h=>Calls.spliced_nil ⟨[],H,I,.nil,h⟩
theorem za (ha:PE X e te) (hr:PA X es t) (hs:starEach (e::es) X.env=(false,eval e X.env)::starEach es X.env:=by rfl):PA X (e::es) (qp te t):=by
 intro pos pins s σ H Q I h
 rw[hs]
 show wpAny _ _ (spliced ((false,eval e X.env)::backTo pos (starEach es X.env))) _ _ s
 refine Calls.spliced_cons (thn (ha pins s σ H _ I h) λu s1 ⟨x,H1,I1,r1,q1⟩=>?_)
 exact thn (hr pos pins s1 σ H1 _ I1 q1) λus s2 ⟨xs,H2,I2,r2,q2⟩=>⟨x::xs,H2,I2,.cons r1 r2,q2⟩
def zbJ (t:TA):TE:=λσ H Q=>t σ H λxs H1=>xs.length<=sizeLine/\∀p,H1 p=none->Q (.ref p) (upd H1 p (.tup xs))
def zf7 (t:TA):TE:=λσ H Q=>t σ H λxs H1=>xs.length<=sizeLine/\∀p,H1 p=none->Q (.ref p) (upd H1 p (.lst xs))
theorem xv {x1} (h:PA X es t):PE X (.Tuple es x1 pos) (zbJ t):=by
 intro pins s σ H Q I hq
 refine wpAny_Tuple_spliced (thn (h pos pins s σ H _ I hq) λus s1 ⟨xs,H1,I1,r,z,q⟩=>⟨by rw[<-r.length];exact z,?_⟩)
 have hf:H1 s1.heap.objs.size=none:=I1.hok.fresh (Nat.le_refl _)
 refine⟨.ref s1.heap.objs.size,upd H1 s1.heap.objs.size (.tup xs),I1.laid (t':=s1.toks) (λb u e=>Heap.get?_push_of_some _ e) (Nat.le_refl _) ?_,rfl,q _ hf⟩
 exact⟨z,us,r,⟨_,Heap.get?_push_size _ rfl,rfl,_,rfl⟩⟩
theorem xB (h:PA X es t):PE X (.List es pos) (zf7 t):=by
 intro pins s σ H Q I hq
 refine wpAny_List_spliced (thn (h pos pins s σ H _ I hq) λus s1 ⟨xs,H1,I1,r,z,q⟩=>⟨by rw[<-r.length];exact z,?_⟩)
 have hf:H1 s1.heap.objs.size=none:=I1.hok.fresh (Nat.le_refl _)
 refine⟨.ref s1.heap.objs.size,upd H1 s1.heap.objs.size (.lst xs),I1.laid (t':=s1.toks) (λb u e=>Heap.get?_push_of_some _ e) (Nat.le_refl _) ?_,rfl,q _ hf⟩
 exact⟨z,us,0,r,Heap.get?_push_size _ rfl⟩
end
abbrev Sp:=List V->Hp->VK->XK->Prop
abbrev CXT:=List Env->Hp->Shared->XK->Value->Shared->Prop
structure ZP (P:Program) (w:World) (K:PySem.W.Frag) (mg:Str->Option Value) (base:Heap) (A:Around) (outer:List Env) (s:Shared) (H:Hp):Prop where
 frames:A.frames=some outer
 mod:Mod K mg base
 bs:∀b o,base.get? b=some o->s.heap.get? b=some o/\H b=none
 bsz:base.objs.size<=s.heap.objs.size
 funs:s.heap.FunFrames base outer
 frf:∀b∈frs outer,H b=none
 hok:HOk P w H s.heap
 bare:AllBare s.gens
def CE (outer:List Env) (P:Program) (w:World) (H:Hp) (s:Shared) (Q:VK) (u:Value) (s':Shared):Prop :=
 ∃v H',s'.os=s.os/\AllBare s'.gens/\Un (frs outer) [] H H' s.heap s'.heap/\HOk P w H' s'.heap/\xj v u/\Q v H'
def CR (CX:CXT) (outer:List Env) (P:Program) (w:World) (H:Hp) (s:Shared) (Q:VK) (E:XK) (r:Result) (s':Shared):Prop :=
 match r with
 | .ok (.ret u)=>CE outer P w H s Q u s'
 | .ok _=>False
 | .error e=>CX outer H s E e s'
structure vL (P:Program) (w:World) (K:PySem.W.Frag) (mg:Str->Option Value) (base:Heap) (CX:CXT) (k:Nat) (f:Addr) (fd:FuncData) (ps:List Str) (sp:Sp):Prop where
 len:∀vs H Q E,sp vs H Q E->vs.length=ps.length
 run:∀(A:Around) (outer:List Env) (s:Shared) (H:Hp) (args:Args) (us:List Value) (vs:List V) (Q:VK) (E:XK),xi k A->ZP P w K mg base A outer s H->BindsTo s fd args (ps.zip us)->zU vs us->sp vs H Q E →
  codeAny (model P w) A (.call (.ref f) args) (CR CX outer P w H s Q E) s
theorem ZP.make {P:Program}{w:World}{K:PySem.W.Frag}{mg:Str->Option Value}{base:Heap}{A:Around}{outer:List Env}{s:Shared}{H:Hp}(e:ZP P w K mg base A outer s H) (C:Addr) (us:List Value) (kw:List (Str×Value)) :
  ZP P w K mg base (A.under (.builtin "type.__call__" ⟨.ref C::us,kw⟩)) outer s H:=⟨by first | exact e.frames | (simpa [Around.under,Code.envs,Code.isFrame,pushEnvs]using e.frames),e.mod,e.bs,e.bsz,e.funs,e.frf,e.hok,e.bare⟩
theorem ZP.in1 {P:Program}{w:World}{K:PySem.W.Frag}{mg:Str->Option Value}{base:Heap}{A:Around}{outer:List Env}{s:Shared}{H:Hp}(e:ZP P w K mg base A outer s H) :
  ZP P w K mg base A.in1 outer s H:=⟨e.frames,e.mod,e.bs,e.bsz,e.funs,e.frf,e.hok,e.bare⟩
section
variable {X:Cx}{pins:List (Addr×Obj)}{σ:St}{H:Hp}{s s':Shared}
theorem Inv.env0 (I:Inv X pins σ H s):ZP X.prog X.w X.K X.mg X.base X.A X.stack s H :=
 ⟨I.ok.frames,I.ok.mod,I.bs,Nat.le_trans I.ok.bsz I.sz,I.stack,I.stkFree,I.hok,I.bare⟩
theorem Inv.after {Q:VK}{u:Value}(I:Inv X pins σ H s) (h:CE X.stack X.prog X.w H s Q u s'):EP X pins σ Q u s':=by
 obtain⟨v,H',os,bare,un,hok,r,q⟩:=h
 obtain⟨hh,g,d,t,os'⟩:=s'
 obtain rfl:os'=s.os:=os
 exact⟨v,H',I.call (h':=hh) (g':=g) (d':=d) (t':=t) (ch:=[]) un hok bare (λb z=>absurd z (by simp)),r,q⟩
end
def ZD (sp:Sp) (dvs:List V) (E:XK) (t:TA):TE:=λσ H Q=>t σ H λvs H1=>sp (vs++dvs) H1 Q E
def zf8 (C:Addr) (sp:Sp) (dvs:List V) (E:XK) (t:TA):TE:=λσ H Q=>t σ H λvs H1=>∀x dx,H1 x=none->H1 dx=none->dx≠x →
 sp (.ref x::(vs++dvs)) (upd (upd H1 dx (.own x)) x (.ins C dx [])) (λv H2=>v = .non/\Q (.ref x) H2) E
def vh (K:PySem.W.Frag) (fd:FuncData) (ps:List Str) (ds:List Value):Prop :=
 ∀(s:Shared) (us:List Value),K.In s.heap->(us++ds).length=ps.length->BindsTo s fd ⟨us,[]⟩ (ps.zip (us++ds))
theorem vh.all {K:PySem.W.Frag}{fd:FuncData}{ps:List Str}(h:∀us:List Value,us.length=ps.length->bindArgs fd ⟨us,[]⟩=pure (ps.zip us)):vh K fd ps []:=λs us _ hl=>by
 rw[List.append_nil]at hl ⊢
 exact .of_eq (h us hl)
def ZU (CX:CXT) (X:Cx) (E:XK):Prop:=∀(pins:List (Addr×Obj)) (σ:St) (H:Hp) (s:Shared) (e:Value) (s':Shared),Inv X pins σ H s->CX X.stack H s E e s'->X.xe e s'
section
variable {X:Cx}{CX:CXT}{k:Nat}{f C:Addr}{fd:FuncData}{ps:List Str}{sp:Sp}{dvs:List V}{ds:List Value}{E:XK}{x m:Str}{p pos apos:Pos}{e o:Expr}{es:List Expr}{ta:TE}{t:TA}
theorem zeg {pins:List (Addr×Obj)}{σ:St}{H:Hp}{s:Shared}{Q:VK}{us:List Value}{vs:List V}(F:vL X.prog X.w X.K X.mg X.base CX k f fd ps sp) (hr:xi k X.A) (hb:vh X.K fd ps ds) (hd:zU dvs ds) (hx:ZU CX X E)
  (I:Inv X pins σ H s) (r:zU vs us) (h:sp (vs++dvs) H Q E):wpAny (model X.prog X.w) X.A (call (.ref f) us) (EP X pins σ Q) X.xe s:=by
 have r2:zU (vs++dvs) (us++ds):=r.append hd
 have hl:(us++ds).length=ps.length:=by rw[<-r2.length];exact F.len _ _ _ _ h
 refine wpAny_call (codeAny_mono (F.run X.A X.stack s H ⟨us,[]⟩ (us++ds) (vs++dvs) Q E hr I.env0 (hb s us I.kIn hl) r2 h) λr s' hq=>?_)
 cases r with
 | error e=>exact hx pins σ H s e s' I hq
 | ok fl =>
  cases fl with
  | ret u=>exact I.after hq
  | next=>exact False.elim hq
  | brk=>exact False.elim hq
  | cont=>exact False.elim hq
theorem zcv (F:vL X.prog X.w X.K X.mg X.base CX k f fd ps sp) (hr:xi k X.A) (hg:Gl X x) (hm:X.mg x=some (.ref f)) (hk:PySem.W.keepIn X.K (.ref f)=true) (hb:vh X.K fd ps ds) (hd:zU dvs ds) (hx:ZU CX X E)
  (ha:PA X (e::es) t) (hdb:(x == ("__debug__":Str))=false:=by decide) (he:starEach (e::es) X.env=(false,eval e X.env)::starEach es X.env:=by rfl) (hpl:(backTo pos (starEach es X.env)).any (·.1)=false:=by rfl) :
  PE X (.Call (.Name x p) (e::es) [] pos) (ZD sp dvs E t):=by
 intro pins s σ H Q I h
 refine wpAny_Call_Name_kw (jb I hg hm ?_ hdb)
 refine PySem.W.callWith_K (h₀:=X.base) I.ok.mod.kin hk (thn (ha pos pins s σ H _ I h) λus s1 ⟨vs,H1,I1,r,q⟩=>⟨I1.kIn,?_⟩) he hpl
 exact zeg F hr hb hd hx I1 r q
structure Mk (K:PySem.W.Frag) (C f:Addr):Prop where
 makes:PySem.W.makesIn K C=true
 init:PySem.W.findIn K (.ref C) "__init__" = some (some (.ref f))
 fn:PySem.W.isFn K (.ref f)=true
 kp:PySem.W.keepIn K (.ref C)=true
theorem zbo {pins:List (Addr×Obj)}{σ:St}{H:Hp}{s:Shared}{Q:VK}{us:List Value}{vs:List V}(M:Mk X.K C f) (F:vL X.prog X.w X.K X.mg X.base CX k f fd ps sp) (hr:xi (k+1) X.A) (hb:vh X.K fd ps ds) (hd:zU dvs ds)
  (hx:ZU CX X E) (I:Inv X pins σ H s) (r:zU vs us)
  (h:∀x dx,H x=none->H dx=none->dx≠x->sp (.ref x::(vs++dvs)) (upd (upd H dx (.own x)) x (.ins C dx [])) (λv H2=>v = .non/\Q (.ref x) H2) E) :
  wpAny (model X.prog X.w) X.A (call (.ref C) us) (EP X pins σ Q) X.xe s:=by
 have hq:=h (s.heap.objs.size+1) s.heap.objs.size (I.hok.fresh (Nat.le_succ _)) (I.hok.fresh (Nat.le_refl _)) (Nat.ne_of_lt (Nat.lt_succ_self _))
 have I2:=Inv.made (C:=C) I
 have r2:zU (V.ref (s.heap.objs.size+1)::(vs++dvs)) (Value.ref (s.heap.objs.size+1)::(us++ds)):=.cons rfl (r.append hd)
 have hl:(Value.ref (s.heap.objs.size+1)::us++ds).length=ps.length:=by
  have e:=r2.length
  rw[F.len _ _ _ _ hq]at e
  exact e.symm
 refine wpAny_call (za6 (f:=f) I.kIn M.makes M.init (beq_iff_eq.mp M.fn) (codeAny_mono (F.run _ X.stack _ _ ⟨Value.ref (s.heap.objs.size+1)::us,[]⟩ (Value.ref (s.heap.objs.size+1)::(us++ds)) _ _ E (hr.make C us [])
  (I2.env0.make C us []) (hb _ (Value.ref (s.heap.objs.size+1)::us) I2.kIn hl) r2 hq) λr s' hq'=>?_))
 cases r with
 | error e=>exact hx pins σ _ _ e s' I2 hq'
 | ok fl =>
  cases fl with
  | ret u =>
   obtain⟨v,H',I3,rv,ev,q3⟩:=I2.after hq'
   subst ev
   exact⟨rv,⟨V.ref (s.heap.objs.size+1),H',I3,rfl,q3⟩⟩
  | next=>exact False.elim hq'
  | brk=>exact False.elim hq'
  | cont=>exact False.elim hq'
theorem Jq (M:Mk X.K C f) (F:vL X.prog X.w X.K X.mg X.base CX k f fd ps sp) (hr:xi (k+1) X.A) (hg:Gl X x) (hm:X.mg x=some (.ref C)) (hb:vh X.K fd ps ds) (hd:zU dvs ds) (hx:ZU CX X E)
  (ha:PA X (e::es) t) (hdb:(x == ("__debug__":Str))=false:=by decide) (he:starEach (e::es) X.env=(false,eval e X.env)::starEach es X.env:=by rfl) (hpl:(backTo pos (starEach es X.env)).any (·.1)=false:=by rfl) :
  PE X (.Call (.Name x p) (e::es) [] pos) (zf8 C sp dvs E t):=by
 intro pins s σ H Q I h
 refine wpAny_Call_Name_kw (jb I hg hm ?_ hdb)
 refine PySem.W.callWith_K (h₀:=X.base) I.ok.mod.kin M.kp (thn (ha pos pins s σ H _ I h) λus s1 ⟨vs,H1,I1,r,q⟩=>⟨I1.kIn,?_⟩) he hpl
 exact zbo M F hr hb hd hx I1 r q
end
structure zG (N P:List Str) (sc:Scope):Prop where
 kind:sc.kind = .function
 co:sc.isCoroutine=false
 gen:sc.isGenerator=false
 nd:N.Nodup
 pre:N.take P.length=P
 par:∀x∈P,sc.names.lookup x=some .local ∨ sc.names.lookup x=some .cell
 nofree:∀y∈sc.names,y.2≠.free
theorem XA {kindOf:Str->Option NameKind}{x:Str}:∀{binds:List (Str×Value)}{m:Str->Option Value},(∀v,(x,v)∉binds)->bindL kindOf binds m x=m x
 | [],_,_=>rfl
 | (n,v)::r,m,h=>by
  unfold bindL
  rw[XA λw hw=>h w (List.mem_cons_of_mem _ hw)]
  split
  ·have:x≠n:=by rintro rfl;exact h v List.mem_cons_self
   simp[this]
  ·rfl
theorem Xy {kindOf:Str->Option NameKind}{x:Str}:∀{binds:List (Str×Value)}{m:Str->Option Value},(∀v,(x,v)∉binds)->bindC kindOf binds m x=m x
 | [],_,_=>rfl
 | (n,v)::r,m,h=>by
  unfold bindC
  rw[Xy λw hw=>h w (List.mem_cons_of_mem _ hw)]
  split
  ·rfl
  ·have:x≠n:=by rintro rfl;exact h v List.mem_cons_self
   simp[this]
theorem Xz {kindOf:Str->Option NameKind}{x:Str}{v:Value}:∀{P:List Str}{vs:List Value}{i:Nat}{m:Str->Option Value},P.Nodup->P[i]? = some x->vs[i]? = some v->kindOf x=some .local →
  bindL kindOf (P.zip vs) m x=some v
 | [],_,_,_,_,h,_,_=>by simp at h
 | _::_,[],_,_,_,_,h,_=>by simp at h
 | p::P,w::vs,0,m,nd,h1,h2,hk=>by
  simp at h1 h2;subst h1;subst h2
  show bindL kindOf ((p,w)::P.zip vs) m p=_
  unfold bindL
  rw[XA λv hv=>(List.nodup_cons.mp nd).1 (List.of_mem_zip hv).1,if_pos hk]
  simp
 | p::P,w::vs,i+1,m,nd,h1,h2,hk=>by
  show bindL kindOf ((p,w)::P.zip vs) m x=_
  unfold bindL
  exact Xz (i:=i) (List.nodup_cons.mp nd).2 (by simpa using h1) (by simpa using h2) hk
theorem Xx {kindOf:Str->Option NameKind}{x:Str}{v:Value}:∀{P:List Str}{vs:List Value}{i:Nat}{m:Str->Option Value},P.Nodup->P[i]? = some x->vs[i]? = some v->kindOf x≠some .local →
  bindC kindOf (P.zip vs) m x=some v
 | [],_,_,_,_,h,_,_=>by simp at h
 | _::_,[],_,_,_,_,h,_=>by simp at h
 | p::P,w::vs,0,m,nd,h1,h2,hk=>by
  simp at h1 h2;subst h1;subst h2
  show bindC kindOf ((p,w)::P.zip vs) m p=_
  unfold bindC
  rw[Xy λv hv=>(List.nodup_cons.mp nd).1 (List.of_mem_zip hv).1,if_neg hk]
  simp
 | p::P,w::vs,i+1,m,nd,h1,h2,hk=>by
  show bindC kindOf ((p,w)::P.zip vs) m x=_
  unfold bindC
  exact Xx (i:=i) (List.nodup_cons.mp nd).2 (by simpa using h1) (by simpa using h2) hk
def vk (N:List Str) (vs:List V):St:=vs.map some++List.replicate (N.length - vs.length) none
def ja (CX:CXT) (P:Program) (w:World) (K:PySem.W.Frag) (mg:Str->Option Value) (base:Heap) (N:List Str) (qual:Str) (scope:Scope) (f:Addr) (cd:Value) (A:Around) (outer:List Env) (s:Shared) (H:Hp) (E:XK):Cx where
 prog:=P
 w:=w
 K:=K
 mg:=mg
 base:=base
 A:=A.deeper (envOfC qual scope s.heap.objs.size f cd)
 N:=N
 s₀:=s
 H₀:=H
 env:=envOfC qual scope s.heap.objs.size f cd
 outer:=outer
 stack:=envOfC qual scope s.heap.objs.size f cd::outer
 ex:=[]
 calm:=true
 fn:=λ_=>true
 pn:=[]
 xe:=λe s'=>wpAny (model P w) (A.deeper (envOfC qual scope s.heap.objs.size f cd)) (leaving (envOfC qual scope s.heap.objs.size f cd) e) (λ_ s''=>CX outer H s E e s'') (λe' s''=>CX outer H s E e' s'') s'
theorem QJ {sc:Scope}{n:Nat}{x:Str}(h:sc.names.lookup x=some .cell):∃c,(cellsFrom n sc.names []).lookup x=some c:=by
 have q:=PySem.W.cellsFrom_some sc.names n [] (.inl h)
 exact Option.isSome_iff_exists.mp q
theorem XL {CX:CXT}{P:Program}{w:World}{K:PySem.W.Frag}{mg:Str->Option Value}{base:Heap}{N ps:List Str}{qual:Str}{scope:Scope}{f:Addr}{cd:Value}{A:Around}{outer:List Env}{s s1:Shared}{H:Hp}{E:XK}{us:List Value}{vs:List V}
  (S:zG N ps scope) (hd:A.handled=none) (e0:ZP P w K mg base A outer s H) (hl:vs.length=ps.length) (r:zU vs us)
  (x:InCallC s s.heap.objs.size (bindL (envOfC qual scope s.heap.objs.size f cd).kindOf (ps.zip us) λ_=>none) (cellsFrom (s.heap.objs.size+1) scope.names []) (bindC (envOfC qual scope s.heap.objs.size f cd).kindOf (ps.zip us) λ_=>none) s1) :
  Inv (ja CX P w K mg base N qual scope f cd A outer s H E) [] (vk N vs) H s1:=by
 have hpl:ps.length<=N.length:=by have:=congrArg List.length S.pre;rw[List.length_take]at this;omega
 obtain⟨h1,tk,rfl,hk⟩:=x.done
 have noA:∀b:Addr,b∉(ja CX P w K mg base N qual scope f cd A outer s H E).ex:=λb z=>absurd (show b∈([]:List Addr)from z) (by simp)
 refine⟨⟨e0.mod,S.kind,rfl,rfl,Nat.le_refl _,λy z c h1 h2=>?_,λy hy=>?_,λy c _ h=>?_,λ_=>hd,Around.frames_deeper e0.frames,.inr ⟨rfl,rfl⟩,λb z=>absurd z (noA b),e0.bs,e0.bsz,λb _ _=>noA b,λb z=>absurd z (noA b),e0.funs,e0.frf⟩,
  rfl,e0.bare,Un.kept hk,⟨_,x.toInCall.ns,λi y v h1 h2 h3=>?_⟩,λy c h=>⟨_,x.cell y c h⟩,e0.hok.fresh (Nat.le_refl _),λy c h=>?_,λp hp=>absurd (show p∈([]:List (Addr×Obj))from hp) (by simp),e0.hok.kept hk,?_⟩
 ·exact name_of_addr x.apart (PySem.mem_of_lookup h1) (PySem.mem_of_lookup h2)
 ·have hy:scope.names.lookup y=some .cell\/scope.names.lookup y=some .free:=hy
  rcases hy with hy | hy
  ·exact QJ hy
  ·exact absurd rfl (S.nofree _ (PySem.mem_of_lookup hy))
 ·exact Nat.le_of_lt (x.above y c (PySem.mem_of_lookup h))
 ·have hi:i<vs.length:=by
   unfold vk at h2
   by_cases hi:i<vs.length
   ·exact hi
   ·rw[List.getElem?_append_right (by simpa using hi)]at h2
    rw[List.getElem?_replicate]at h2
    split at h2 <;> cases h2
  have ha:vs[i]? = some v:=by
   unfold vk at h2
   rw[List.getElem?_append_left (by simpa using hi),List.getElem?_map]at h2
   cases e:vs[i]? with
   | none=>rw[e]at h2;cases h2
   | some a=>rw[e]at h2;cases h2;rfl
  obtain⟨u,hu,rv⟩:=r.get ha
  have hp:ps[i]? = some y:=by
   rw[<-S.pre,List.getElem?_take_of_lt (by omega)];exact h1
  have ndP:ps.Nodup:=by rw[<-S.pre];exact S.nd.sublist (List.take_sublist _ _)
  refine⟨u,rv,?_⟩
  rcases S.par y (List.mem_of_getElem? hp)with k | k
  ·exact .inl ⟨k,Xz ndP hp hu k⟩
  ·obtain⟨c,e⟩:=QJ (n:=s.heap.objs.size+1) k
   refine .inr ⟨.inl k,c,e,?_⟩
   have q:=x.cell y c e
   rw[Xx ndP hp hu (by show scope.names.lookup y≠_;rw[k];decide)]at q
   exact q
 ·exact e0.hok.fresh (Nat.le_of_lt (x.above y c (PySem.mem_of_lookup h)))
 ·unfold vk
  show _=N.length
  rw[List.length_append,List.length_map,List.length_replicate]
  omega
theorem Ja {CX:CXT}{P:Program}{w:World}{K:PySem.W.Frag}{mg:Str->Option Value}{base:Heap}{k:Nat}{f:Addr}{name qual:Str}{params:Arguments}{body:List Stmt}{scope:Scope}{dV kV doc pm cdv ct oc:Value}{an od:Option Addr}
  {osl:Array (Option Value)}{N ps:List Str}{sp:Sp}(lk:K.lookup f=some ⟨oc,od,.func (PySem.W.fnOf name qual params body scope dV kV doc pm an cdv ct),osl⟩) (hcd:PySem.W.codeIn K cdv qual=true) (S:zG N ps scope)
  (len:∀vs H Q E,sp vs H Q E->vs.length=ps.length)
  (hbody:∀(A:Around) (outer:List Env) (s:Shared) (H:Hp) (vs:List V) (Q:VK) (E:XK),xi k (A.deeper (envOfC qual scope s.heap.objs.size f cdv))->sp vs H Q E →
   ∃t,PSs (ja CX P w K mg base N qual scope f cdv A outer s H E) body t/\t { nx:=λ_ H'=>Q .non H',rt:=Q } (vk N vs) H) :
  vL P w K mg base CX (k+1) f (PySem.W.fnOf name qual params body scope dV kV doc pm an cdv ct) ps sp:=by
 refine⟨len,λA outer s H args us vs Q E hr e0 hb r hsp=>?_⟩
 have hl:=len _ _ _ _ hsp
 have KX:K.In s.heap:=e0.mod.kin.keeps λb o e=>(e0.bs b o e).1
 have lim:s.heap.NoLimit:=e0.mod.nolimit.keeps λb o e=>(e0.bs b o e).1
 have hkind:∀y∈ps.zip us,scope.names.lookup y.1=some .local ∨ (scope.names.lookup y.1=some .cell/\((cellsFrom (s.heap.objs.size+1) scope.names []).lookup y.1).isSome=true):=λ⟨n,v⟩ hy=>by
  rcases S.par n (List.of_mem_zip hy).1 with q | q
  ·exact .inl q
  ·exact .inr ⟨q,PySem.W.cellsFrom_some _ _ _ (.inl q)⟩
 refine codeAny_call_function hr.depth (KX _ _ lk) rfl S.co S.gen rfl (PySem.W.codeRec_of KX hcd) (hb _ _ _ _ ?_)
 refine wpAny_newFunctionEnv_cells S.kind hkind λenv he s1 x=>?_
 subst he
 refine⟨lim.keeps x.toInCall.keep,codeAny_func ?_⟩
 obtain⟨t,ht,hq⟩:=hbody A outer s H vs Q E (hr.deeper _) hsp
 have I:Inv (ja CX P w K mg base N qual scope f cdv A outer s H E) [] (vk N vs) H s1:=XL S hr.hd e0 hl r x
 refine wpAny_mono (ht [] s1 (vk N vs) H _ I hq) (λfl s' hs=>?_) λe s' hs=>hs
 have fin:∀{σ':St}{H':Hp}{v:V}{u:Value},Inv (ja CX P w K mg base N qual scope f cdv A outer s H E) [] σ' H' s'->xj v u->Q v H'->CE outer P w H s Q u s' :=
  λ{σ' H' v u} J rv q=>⟨v,H',J.os,J.bare,J.base,J.hok,rv,q⟩
 cases fl with
 | ret u =>
  obtain⟨v,σ',H',J,rv,q⟩:=hs
  exact fin J rv q
 | next =>
  obtain⟨σ',H',J,q⟩:=hs
  exact fin (v:=V.non) (u:=Value.none) J rfl q
 | brk =>
  obtain⟨_,_,_,q⟩:=hs
  exact False.elim q
 | cont =>
  obtain⟨_,_,_,q⟩:=hs
  exact False.elim q
end L2
namespace L2
open PySem PySem.Spec PyProof.Rows
section
variable {X:Cx}{x:Str}{p pos:Pos}{e:Expr}{es:List Expr}{t:TA}{id T:String}{r:List V->Hp->VK->Prop}
def tCB (r:List V->Hp->VK->Prop) (t:TA):TE:=λσ H Q=>t σ H λvs H1=>r vs H1 Q
theorem zZ (hc:vN X (.builtin id) r) (hg:Gl X x) (hm:X.mg x=none) (hv:bootBuiltins x=some (.builtin id)) (ha:PA X (e::es) t) (hn:x≠"__name__":=by decide) (hdb:(x == ("__debug__":Str))=false:=by decide)
  (he:starEach (e::es) X.env=(false,eval e X.env)::starEach es X.env:=by rfl) (hpl:(backTo pos (starEach es X.env)).any (·.1)=false:=by rfl):PE X (.Call (.Name x p) (e::es) [] pos) (tCB r t):=by
 intro pins s σ H Q I h
 refine wpAny_Call_Name_kw (jm I hg hm hv ?_ hn hdb)
 exact PyProof.Rows.callWith_builtin1 (thn (ha pos pins s σ H _ I h) λus s1 ⟨vs,H1,I1,r1,q1⟩=>hc pins s1 σ H1 vs us Q I1 r1 q1) he hpl
theorem qx (hc:vN X (.type T) r) (hg:Gl X x) (hm:X.mg x=none) (hv:bootBuiltins x=some (.type T)) (ha:PA X (e::es) t) (hn:x≠"__name__":=by decide) (hdb:(x == ("__debug__":Str))=false:=by decide)
  (he:starEach (e::es) X.env=(false,eval e X.env)::starEach es X.env:=by rfl) (hpl:(backTo pos (starEach es X.env)).any (·.1)=false:=by rfl):PE X (.Call (.Name x p) (e::es) [] pos) (tCB r t):=by
 intro pins s σ H Q I h
 refine wpAny_Call_Name_kw (jm I hg hm hv ?_ hn hdb)
 exact PyProof.Rows.callWith_type1 (thn (ha pos pins s σ H _ I h) λus s1 ⟨vs,H1,I1,r1,q1⟩=>hc pins s1 σ H1 vs us Q I1 r1 q1) he hpl
end
end L2
namespace HT
open PySem PyProof.Rows
section
variable {prog:Program}{w:World}{A:Around}{E:Value->Shared->Prop}{s:Shared}
theorem cat_tup {t b:Addr}{vs ws:List Value}{Q:Value->Shared->Prop}(ht:IsTup s.heap t vs.toArray) (hb:IsTup s.heap b ws.toArray) (hv:vs≠[])
  (h1:ws=[]->Q (.ref t) s) (h2:ws≠[]->Q (.ref s.heap.objs.size) { s with heap:=s.heap.push { cls:=.type "tuple",data:=.seq (vs++ws).toArray } })
  (hsz:vs.length+ws.length<=sizeLine):wpAny (model prog w) A (binaryOp .Add (.ref t) (.ref b)) Q E s:=by
 obtain⟨⟨cls,dd,data,sl⟩,ho,hc,n,hd⟩:=id ht
 obtain⟨⟨cls2,dd2,data2,sl2⟩,ho2,hc2,n2,hd2⟩:=id hb
 simp only at hc hd hc2 hd2
 subst hc hd hc2 hd2
 have e:vs.toArray++ws.toArray=(vs++ws).toArray:=by simp
 by_cases hw:ws=[]
 ·exact concat_meets ⟨_,ho,rfl⟩ ⟨_,ho2,rfl⟩ noFill_tuple_add seq_tuple_add PySem.F.slot_tuple_add PySem.F.entry_tuple_add (PySem.F.args_tuple_add_2 _ _)
   (tuple_addW1 t b vs.toArray ws.toArray n n2 dd dd2 sl sl2 (by simpa using hv) (by simp[hw])) ⟨ho,ho2,h1 hw⟩
 ·refine concat_meets ⟨_,ho,rfl⟩ ⟨_,ho2,rfl⟩ noFill_tuple_add seq_tuple_add PySem.F.slot_tuple_add PySem.F.entry_tuple_add (PySem.F.args_tuple_add_2 _ _)
   (tuple_addW2 t b vs.toArray ws.toArray n n2 dd dd2 sl sl2 (by simpa using hv) (by simpa using hw) (by rw[List.size_toArray,List.size_toArray];exact hsz)) ⟨ho,ho2,?_⟩
  rw[e]
  exact h2 hw
def sIx (n d:Nat):Option Int->Nat
 | none=>d
 | some v=>if v<0 then(v+(n:Int)).toNat else min v.toNat n
theorem sIx_none (n d:Nat):sIx n d none=d:=rfl
theorem sIx_nat (n d k:Nat):sIx n d (some (k:Int))=min k n:=by
 show (if(k:Int)<0 then((k:Int)+(n:Int)).toNat else min (k:Int).toNat n)=min k n
 rw[if_neg (by omega),Int.toNat_natCast]
theorem zei (n d:Nat) (hd:d<=n) (o:Option Int):sIx n d o<=n:=by
 cases o with
 | none=>exact hd
 | some v =>
  show (if v<0 then(v+(n:Int)).toNat else min v.toNat n)<=n
  by_cases hv:v<0
  ·rw[if_pos hv];omega
  ·rw[if_neg hv];exact Nat.min_le_right _ _
theorem V1 (v:Int) (n d:Nat):(if v<0 then max (v+(n:Int)) 0 else min v (n:Int))=((sIx n d (some v):Nat):Int):=by
 show (if v<0 then max (v+(n:Int)) 0 else min v (n:Int))=(((if v<0 then(v+(n:Int)).toNat else min v.toNat n):Nat):Int)
 by_cases hv:v<0
 ·simp only[if_pos hv];omega
 ·simp only[if_neg hv];omega
theorem Vl (lo hi:Option Int) (n:Nat):Builtin.Slice.sliceAdjust lo hi 1 (n:Int)=(((sIx n 0 lo:Nat):Int),((sIx n n hi:Nat):Int)):=by
 have h1:¬((1:Int)<0):=by omega
 unfold Builtin.Slice.sliceAdjust
 simp only[h1,if_false]
 refine Prod.ext ?_ ?_
 ·cases lo with
  | none=>rfl
  | some v=>exact V1 v n 0
 ·cases hi with
  | none=>rfl
  | some v=>exact V1 v n n
theorem VI (i j:Nat):Builtin.Slice.slicePlaces (i:Int) (j:Int) 1=j - i:=by
 unfold Builtin.Slice.slicePlaces
 have h1:(1:Int)>0:=by omega
 simp only[h1,if_true,Int.ediv_one]
 split <;> omega
theorem Xo {v:Value}{o:Option Int}{Q:Option Int->Shared->Prop}(p:IsPart v o) (h:Q o s):wpAny (model prog w) A (Builtin.Slice.slicePartIndex v) Q E s:=by
 cases p with
 | none=>exact slicePart_none h
 | int i t=>exact slicePart_int h
theorem Zj {sl:Addr}{vl vu:Value}{lo hi:Option Int}{n:Nat}{Q:Int×Int×Nat->Shared->Prop}(hs:s.heap.IsSliceOf sl vl vu .none) (pl:IsPart vl lo) (pu:IsPart vu hi)
  (h:Q (((sIx n 0 lo:Nat):Int),1,sIx n n hi - sIx n 0 lo) s):wpAny (model prog w) A (Builtin.Slice.sliceApplied (.ref sl) (pure (n:Int))) Q E s:=by
 obtain⟨os,hos,hcs,hds⟩:=id hs
 unfold Builtin.Slice.sliceApplied Builtin.Slice.sliceFields
 refine wpAny_bind (wpAny_bind (wpAny_field hos hds (x:=vl) rfl (wpAny_bind (wpAny_field hos hds (x:=vu) rfl (wpAny_bind (wpAny_field hos hds (x:=.none) rfl (wpAny_pure ?_)))))))
 refine wpAny_bind (slicePart_none ?_)
 show wpAny _ _ (if((1:Int) == 0)=true then _ else _) _ _ s
 rw[if_neg (by decide)]
 refine wpAny_bind (Xo pl (wpAny_bind (Xo pu (wpAny_bind (wpAny_pure ?_)))))
 show wpAny _ _ (match Builtin.Slice.sliceAdjust lo hi 1 (n:Int)with | (lo,hi)=>pure (lo,(1:Int),Builtin.Slice.slicePlaces lo hi 1)) _ _ s
 rw[Vl lo hi n]
 show wpAny _ _ (pure (((sIx n 0 lo:Nat):Int),(1:Int),Builtin.Slice.slicePlaces ((sIx n 0 lo:Nat):Int) ((sIx n n hi:Nat):Int) 1)) _ _ s
 rw[VI]
 exact wpAny_pure h
theorem zbk (xs:Array Value) (i k:Nat):((List.range k).filterMap λ(m:Nat)=>xs[((i:Int)+(m:Int)*1).toNat]?).toArray=((xs.toList.drop i).take k).toArray:=by
 have e:(λ(m:Nat)=>xs[((i:Int)+(m:Int)*1).toNat]?)=λm=>xs[i+m]?:=by
  funext m
  have:((i:Int)+(m:Int)*1).toNat=i+m:=by omega
  rw[this]
 rw[e]
 have:=pick_run xs i k
 rw[List.filterMap_map]at this
 have e2:((λx=>xs[x]?) ∘ λx=>i+x)=λm=>xs[i+m]?:=rfl
 rw[e2]at this
 rw[this]
theorem getItem_tuple_cut {t sl:Addr}{items:Array Value}{vl vu:Value}{lo hi:Option Int}{Q:Value->Shared->Prop}(ht:IsTup s.heap t items) (hs:s.heap.IsSliceOf sl vl vu .none) (pl:IsPart vl lo) (pu:IsPart vu hi)
  (hw:¬(sIx items.size 0 lo=0/\sIx items.size items.size hi=items.size))
  (h:Q (.ref s.heap.objs.size) { s with heap:=s.heap.push { cls:=.type "tuple",data:=.seq ((items.toList.drop (sIx items.size 0 lo)).take (sIx items.size items.size hi - sIx items.size 0 lo)).toArray } })
  (hsz:items.size<=sizeLine):wpAny (model prog w) A (getItem (.ref t) (.ref sl)) Q E s:=by
 have htake:sizeOk (.seq ((items.toList.drop (sIx items.size 0 lo)).take (sIx items.size items.size hi - sIx items.size 0 lo)).toArray):=by
  show ((items.toList.drop (sIx items.size 0 lo)).take (sIx items.size items.size hi - sIx items.size 0 lo)).toArray.size<=sizeLine
  rw[List.size_toArray,List.length_take,List.length_drop,Array.length_toList]
  omega
 have hj:sIx items.size items.size hi<=items.size:=zei _ _ (Nat.le_refl _) hi
 obtain⟨os,hos,hcs,hds⟩:=id hs
 have hTs:s.TypeIs (.ref sl) "slice":=⟨os,hos,hcs⟩
 unfold getItem
 try with_reducible refine wpAny_holding ?_
 first | refine wpAny_bind (wpAny_pure ?_) | skip
 refine wpAny_bind (wpAny_sequenceKey ht.typeIs (by decide) ?_)
 refine wpAny_bind (wpAny_callSpecial?_slot (name:=Str.ofString "__getitem__") ht.typeIs PyProof.Rows.slot_tuple_getitem
  (wpAny_call_entry PyProof.Rows.slot_tuple_getitem ht.typeIs entry_tuple_getitem ?_ (args_tuple_getitem _ _)))
 show wpAny _ _ (Builtin.Tuple.tupleItemsOf (.ref t) >>= _) _ _ s
 refine wpAny_bind (tupleItemsOf_ ht ?_)
 refine wpAny_bind (wpAny_typeOf hTs ?_)
 rw[if_pos (by decide)]
 refine wpAny_bind (Zj hs pl pu ?_)
 have hno:¬((((sIx items.size 0 lo:Nat):Int) == 0&&(1:Int) == 1&&(sIx items.size items.size hi - sIx items.size 0 lo) == items.size)=true):=by
  intro q
  rw[Bool.and_eq_true,Bool.and_eq_true]at q
  have q1:((sIx items.size 0 lo:Nat):Int)=0:=eq_of_beq q.1.1
  have q2:sIx items.size items.size hi - sIx items.size 0 lo=items.size:=eq_of_beq q.2
  exact hw ⟨by omega,by omega⟩
 show wpAny _ _ (if(((sIx items.size 0 lo:Nat):Int) == 0&&(1:Int) == 1&&(sIx items.size items.size hi - sIx items.size 0 lo) == items.size)=true then _ else _) _ _ s
 rw[if_neg hno,zbk]
 first
  | exact wpAny_bind (m:=Builtin.Tuple.tupleExact _) (wpAny_newObj_type (wpAny_pure ⟨_,rfl,wpAny_pure h⟩) htake)
  | exact wpAny_bind (m:=Builtin.Tuple.tupleExact _) (wpAny_newObj_type (wpAny_bind (wpAny_pure (wpAny_pure ⟨_,rfl,wpAny_pure h⟩))) htake)
  | exact wpAny_bind (wpAny_bind (m:=Builtin.Tuple.tupleExact _) (wpAny_newObj_type (wpAny_pure (wpAny_pure ⟨_,rfl,wpAny_pure h⟩)) htake))
  | exact wpAny_bind (wpAny_bind (m:=Builtin.Tuple.tupleExact _) (wpAny_newObj_type (wpAny_pure ⟨_,rfl,wpAny_pure h⟩) htake))
end
end HT
namespace L2
open PySem PySem.Spec PyProof.Rows
abbrev TO:=St->Hp->(Option Int->Hp->Prop)->Prop
def PO (X:Cx) (e:Option Expr) (t:TO):Prop :=
 ∀(pins:List (Addr×Obj)) (s:Shared) (σ:St) (H:Hp) (Q:Option Int->Hp->Prop),Inv X pins σ H s->t σ H Q →
  wpAny (model X.prog X.w) X.A (evalPart e X.env) (λu s'=>∃o H',Inv X pins σ H' s'/\IsPart u o/\Q o H') X.xe s
def zcW:TO:=λ_ H Q=>Q none H
def zgb (t:TE):TO:=λσ H Q=>t σ H λx H1=>∃i,x = .int i/\Q (some i) H1
section
variable {X:Cx}{e:Expr}{te:TE}{lo hi:Option Expr}{tl th:TO}{pos p2:Pos}
theorem Ql:PO X none zcW:=by
 intro pins s σ H Q I h
 rw[evalPart_none]
 exact wpAny_pure ⟨none,H,I,.none,h⟩
theorem xT (h:PE X e te):PO X (some e) (zgb te):=by
 intro pins s σ H Q I hw
 rw[evalPart_some]
 refine thn (h pins s σ H _ I hw) λu s1 ⟨x,H1,I1,r1,q1⟩=>?_
 obtain⟨i,rfl,q⟩:=q1
 obtain⟨t,rfl⟩:=r1
 exact⟨some i,H1,I1,.int i t,q⟩
def SlR (X:Cx) (r:V->Option Int->Option Int->Hp->VK->Prop):Prop :=
 ∀(pins:List (Addr×Obj)) (s:Shared) (σ:St) (H:Hp) (x:V) (v vl vu:Value) (lo hi:Option Int) (sl:Addr) (Q:VK),Inv X pins σ H s->xj x v->s.heap.IsSliceOf sl vl vu .none->IsPart vl lo->IsPart vu hi->r x lo hi H Q →
  ∃T id,typeLookup (.type T) "__getitem__" = pure (some (.builtin id))/\s.TypeIs v T/\wpAny (model X.prog X.w) X.A (getItem v (.ref sl)) (EP X pins σ Q) X.xe s
def tSl (r:V->Option Int->Option Int->Hp->VK->Prop) (te:TE) (tl th:TO):TE:=λσ H Q=>te σ H λx H1=>tl σ H1 λl H2=>th σ H2 λu H3=>r x l u H3 Q
theorem vi {r:V->Option Int->Option Int->Hp->VK->Prop}(hr:SlR X r) (he:PE X e te) (hl:PO X lo tl) (hu:PO X hi th):PE X (.Subscript e (.Slice lo hi none p2) pos) (tSl r te tl th):=by
 intro pins s σ H Q I h
 refine Subscript_ (thn (he pins s σ H _ I h) λv s1 ⟨x,H1,I1,r1,q1⟩=>?_)
 refine wpAny_Slice (thn (hl pins s1 σ H1 _ I1 q1) λvl s2 ⟨l,H2,I2,pl,q2⟩=>thn (hu pins s2 σ H2 _ I2 q2) λvu s3 ⟨u,H3,I3,pu,q3⟩=>?_)
 rw[evalPart_none]
 refine wpAny_pure ?_
 have I4:Inv X pins σ H3 { s3 with heap:=s3.heap.push { cls:=.type "slice",data:=.fields #[vl,vu,.none] } }:=I3.kept (t':=s3.toks) λb ob q=>Heap.get?_push_of_some _ q
 obtain⟨T,id,hT,ht,hg⟩:=hr pins { s3 with heap:=s3.heap.push { cls:=.type "slice",data:=.fields #[vl,vu,.none] } } σ H3 x v vl vu l u s3.heap.objs.size Q I4 r1 (Heap.IsSliceOf.new ..) pl pu q3
 show wpAny (model X.prog X.w) X.A (subscriptTail e (.Slice lo hi none p2) v (.ref s3.heap.objs.size)) (EP X pins σ Q) X.xe { s3 with heap:=s3.heap.push { cls:=.type "slice",data:=.fields #[vl,vu,.none] } }
 exact tail_any (ops:=[.ref s3.heap.objs.size,v]) ht hT hg (by with_unfolding_all rfl)
def qq (xs:List V) (lo hi:Option Int):List V:=(xs.drop (HT.sIx xs.length 0 lo)).take (HT.sIx xs.length xs.length hi - HT.sIx xs.length 0 lo)
theorem vO (xs:List V) (lo hi:Option Int):(qq xs lo hi).length<=xs.length:=by
 unfold qq
 rw[List.length_take,List.length_drop]
 omega
def rSlT (K:PySem.W.Frag):V->Option Int->Option Int->Hp->VK->Prop:=λx lo hi H Q=>∃a xs,x = .ref a/\SqT K H a xs ∧
 ¬(HT.sIx xs.length 0 lo=0/\HT.sIx xs.length xs.length hi=xs.length)/\∀p,H p=none->Q (.ref p) (upd H p (.tup (qq xs lo hi)))
theorem zeo:SlR X (rSlT X.K):=by
 intro pins s σ H x v vl vu lo hi sl Q I rx hs pl pu h
 obtain⟨a,xs,rfl,hx,hw,q⟩:=h
 cases rx
 obtain⟨its,r,ht,hz⟩:=I.tuple hx
 have hlen:its.toArray.size=xs.length:=by rw[List.size_toArray];exact r.length.symm
 refine⟨"tuple",_,PyProof.Rows.slot_tuple_getitem.lookup,ht.typeIs,?_⟩
 refine HT.getItem_tuple_cut ht hs pl pu (by rw[hlen];exact hw) ?_ (by rw[hlen];exact hz)
 rw[hlen]
 refine⟨.ref s.heap.objs.size,_,I.laid (t':=s.toks) (o:=.tup (qq xs lo hi)) (λb ob q=>Heap.get?_push_of_some _ q) (Nat.le_refl _) ?_,rfl,q _ (I.hok.fresh (Nat.le_refl _))⟩
 exact⟨Nat.le_trans (vO xs lo hi) hz,_,(r.drop (HT.sIx xs.length 0 lo)).take (HT.sIx xs.length xs.length hi - HT.sIx xs.length 0 lo),IsTup.new _ _⟩
def zfx (K:PySem.W.Frag):R2:=λx y H Q=>∃a b xs ys,x = .ref a/\y = .ref b/\SqT K H a xs/\SqT K H b ys/\xs≠[]/\xs.length+ys.length<=sizeLine ∧
 (ys=[]->Q (.ref a) H)/\(ys≠[]->∀p,H p=none->Q (.ref p) (upd H p (.tup (xs++ys))))
theorem zU.nil_iff {xs:List V}{us:List Value}(r:zU xs us):us=[]↔xs=[]:=by
 cases r with
 | nil=>simp
 | cons _ _=>simp
theorem zct:OpR X (binaryOp .Add) (zfx X.K):=by
 intro pins s σ H x y v u Q I rx ry h
 obtain⟨a,b,xs,ys,rfl,rfl,ha,hb,hx,hz,q1,q2⟩:=h
 cases rx
 cases ry
 obtain⟨its,r1,p1,_⟩:=I.tuple ha
 obtain⟨its2,r2,p2,_⟩:=I.tuple hb
 refine HT.cat_tup p1 p2 (λz=>hx (r1.nil_iff.mp z)) (λz=>⟨.ref a,H,I,rfl,q1 (r2.nil_iff.mp z)⟩) (λz=>?_) (by rw[<-r1.length,<-r2.length];exact hz)
 refine⟨.ref s.heap.objs.size,_,I.laid (t':=s.toks) (o:=.tup (xs++ys)) (λb ob q=>Heap.get?_push_of_some _ q) (Nat.le_refl _) ?_,rfl,q2 (λw=>z (r2.nil_iff.mpr w)) _ (I.hok.fresh (Nat.le_refl _))⟩
 exact⟨by rw[List.length_append];exact hz,_,r1.append r2,IsTup.new _ _⟩
end
end L2
namespace L2
open PySem PySem.Spec PyProof.Rows
def ixN (n:Nat) (i:Int):Option Nat:=if 0<=i then(if i<n then some i.toNat else none)else if -(n:Int)<=i then some (i+n).toNat else none
def atI {α:Type}(xs:List α) (i:Int):Option α:=(ixN xs.length i).bind λj=>xs[j]?
theorem Jc {n:Nat}{i:Int}{j:Nat}(h:ixN n i=some j):seqIndex? i n=some j/\j<n ∧ -(n:Int)<=i/\i<n:=by
 unfold ixN at h
 by_cases h0:0<=i
 ·rw[if_pos h0]at h
  by_cases h1:i<n
  ·rw[if_pos h1]at h
   have e:i.toNat=j:=Option.some.inj h
   exact⟨by rw[seqIndex_of h0 h1,e],by omega,by omega,h1⟩
  ·rw[if_neg h1]at h;cases h
 ·rw[if_neg h0]at h
  by_cases h1 : -(n:Int)<=i
  ·rw[if_pos h1]at h
   have e:(i+n).toNat=j:=Option.some.inj h
   exact⟨by rw[seqIndex_neg (by omega) h1,e],by omega,h1,by omega⟩
  ·rw[if_neg h1]at h;cases h
theorem VX {α:Type}{xs:List α}{i:Int}{v:α}(h:atI xs i=some v):∃j,seqIndex? i xs.length=some j/\xs[j]? = some v/\j<xs.length ∧ -(xs.length:Int)<=i/\i<xs.length:=by
 unfold atI at h
 cases e:ixN xs.length i with
 | none=>rw[e]at h;cases h
 | some j =>
  rw[e]at h
  obtain⟨h1,h2,h3,h4⟩:=Jc e
  exact⟨j,h1,h,h2,h3,h4⟩
theorem qf {α:Type}{xs:List α}{j:Nat}{v:α}(h:xs[j]? = some v):atI xs (j:Int)=some v:=by
 have hj:j<xs.length:=(List.getElem?_eq_some_iff.mp h).1
 have e:ixN xs.length (j:Int)=some j:=by
  unfold ixN
  rw[if_pos (by omega),if_pos (by omega)];simp
 unfold atI;rw[e];exact h
def VW (b:Expr):Prop:=∀o i,subscripted b false o i=operate [o,i] (getItem o i)
def IxR (X:Cx) (r:R2):Prop :=
 ∀(value slice:Expr) (pins:List (Addr×Obj)) (s:Shared) (σ:St) (H:Hp) (x y:V) (v u:Value) (Q:VK),Inv X pins σ H s->xj x v->xj y u->r x y H Q →
  subscripted slice false v u=operate [v,u] (getItem v u)->wpAny (model X.prog X.w) X.A (subscriptTail value slice v u) (EP X pins σ Q) X.xe s
def MtR (X:Cx) (id:String) (r:V->List V->Hp->VK->Prop):Prop :=
 ∀(pins:List (Addr×Obj)) (s:Shared) (σ:St) (H:Hp) (x:V) (xs:List V) (v:Value) (us:List Value) (Q:VK),Inv X pins σ H s->xj x v->zU xs us->r x xs H Q →
  wpAny (model X.prog X.w) X.A (call (.builtin id) (v::us)) (EP X pins σ Q) X.xe s
section
variable {X:Cx}{a b:Expr}{ta tb:TE}{pos:Pos}
theorem zr {r:R2}(hr:IxR X r) (ha:PE X a ta) (hb:PE X b tb) (hs:VW b):PE X (.Subscript a b pos) (tOp r ta tb):=by
 intro pins s σ H Q I h
 exact Subscript_ (zdA ha hb I h λv u s2 x y H2 I2 rx ry q=>hr a b pins s2 σ H2 x y v u Q I2 rx ry q (hs _ _))
def zfy (K:PySem.W.Frag):R2:=λx y H Q=>∃p xs i v,x = .ref p/\y = .int i/\SqL K H p xs/\atI xs i=some v/\Q v H
def jA (K:PySem.W.Frag):R2:=λx y H Q=>∃p xs i v,x = .ref p/\y = .int i/\SqT K H p xs/\atI xs i=some v/\Q v H
theorem xw:IxR X (zfy X.K):=by
 intro value slice pins s σ H x y v u Q I rx ry h hs
 obtain⟨p,xs,i,z,rfl,rfl,hq,he,q⟩:=h
 cases rx
 obtain⟨t,rfl⟩:=ry
 obtain⟨its,r,pl,hz⟩:=I.list hq
 obtain⟨j,h1,h2,h3,h4,h5⟩:=VX he
 obtain⟨w,ew,rw'⟩:=r.get h2
 have hl:=r.length
 have hn:=Xa
 have fin:EP X pins σ Q w s:=⟨z,H,I,rw',q⟩
 by_cases h0:0<=i
 ·have hj:i.toNat=j:=by
   rw[seqIndex_of h0 h5]at h1
   exact Option.some.inj h1
  exact item_listR pl.isList h0 (by omega) (by rw[hj];simpa using ew) fin hs
 ·have hj:(i+(its.toArray.size:Int)).toNat=j:=by
   rw[seqIndex_neg (by omega) h4]at h1
   rw[List.size_toArray,<-hl]
   exact Option.some.inj h1
  exact subscriptTail_builtinR (x:=w) pl.isList.typeIs slot_list_getitem.lookup
   (wpAny_getItem_list_neg (Q:=λr s'=>r=w/\EP X pins σ Q r s') pl.isList (by omega) (by rw[List.size_toArray] <;> omega) (by omega) (by rw[hj];simpa using ew) ⟨rfl,fin⟩) hs
theorem zk:IxR X (jA X.K):=by
 intro value slice pins s σ H x y v u Q I rx ry h hs
 obtain⟨p,xs,i,z,rfl,rfl,hq,he,q⟩:=h
 cases rx
 obtain⟨t,rfl⟩:=ry
 obtain⟨its,r,pl,hz⟩:=I.tuple hq
 obtain⟨j,h1,h2,h3,h4,h5⟩:=VX he
 obtain⟨w,ew,rw'⟩:=r.get h2
 have hl:=r.length
 have hn:=Xa
 have fin:EP X pins σ Q w s:=⟨z,H,I,rw',q⟩
 exact subscriptTail_builtinR (x:=w) pl.typeIs slot_tuple_getitem.lookup
  (getItem_tuple (j:=j) (Q:=λr s'=>r=w/\EP X pins σ Q r s') pl (by omega) (by omega) (by rw[List.size_toArray,<-hl];exact h1) (by simpa using ew) ⟨rfl,fin⟩) hs
theorem VA (its:List Value) (n j:Nat) (u:Value):Obj.mapSeq (·.setIfInBounds j u) { cls:=.type "list",data:=.seq its.toArray n } = { cls:=.type "list",data:=.seq (its.set j u).toArray n }:=by
 simp[Obj.mapSeq]
theorem Inv.lst {pins:List (Addr×Obj)}{σ:St}{H:Hp}{s:Shared}{p:Addr}{xs:List V}(I:Inv X pins σ H s) (h:H p=some (.lst xs)) :
  ∃(its:List Value) (n:Nat),zU xs its/\s.heap.get? p=some { cls:=.type "list",data:=.seq its.toArray n }/\xs.length<=sizeLine:=by
 obtain⟨z,its,n,r,e⟩:=I.hok p _ h
 exact⟨its,n,r,e,z⟩
theorem Inv.lstUpd {pins:List (Addr×Obj)}{σ:St}{H:Hp}{s:Shared}{p:Addr}{xs ys:List V}{its its':List Value}{n n':Nat}{f:Obj->Obj}(I:Inv X pins σ H s) (h:H p=some (.lst xs))
  (ho:s.heap.get? p=some { cls:=.type "list",data:=.seq its.toArray n }) (hf:f { cls:=.type "list",data:=.seq its.toArray n } = { cls:=.type "list",data:=.seq its'.toArray n' }) (r:zU ys its') (hz:ys.length<=sizeLine) (t:Nat) :
  Inv X pins σ (upd H p (.lst ys)) { s with heap:=s.heap.update p f,toks:=t }:=by
 have e:(s.heap.update p f).get? p=some { cls:=.type "list",data:=.seq its'.toArray n' }:=by
  rw[Heap.get?_update_self f ho (by rw[hf] <;> rfl),hf]
 refine I.write (x:=p) (e:=p) (by rw[h];trivial) (.inl rfl) (λb u hb q=>(Heap.get?_update_other _ _ (Ne.symm hb)).trans q) ⟨_,e⟩ ?_
 exact⟨hz,its',n',r,e⟩
def zfz:V->V->V->Hp->(Hp->Prop)->Prop:=λo i v H Q=>∃p xs k j,o = .ref p/\i = .int k/\H p=some (.lst xs)/\ixN xs.length k=some j/\Q (upd H p (.lst (xs.set j v)))
theorem jt:zeJ X zfz:=by
 intro pins s σ H o i v ov iv u Q I ro ri rv h
 obtain⟨p,xs,k,j,rfl,rfl,hp,hj,q⟩:=h
 cases ro
 obtain⟨t,rfl⟩:=ri
 obtain⟨its,n,r,ho,hz⟩:=I.lst hp
 obtain⟨h1,h2,h3,h4⟩:=Jc hj
 have hl:=r.length
 have hn:=Xa
 have I':Inv X pins σ (upd H p (.lst (xs.set j v))) { s with heap:=s.heap.update p (Obj.mapSeq (·.setIfInBounds j u)) } :=
  I.lstUpd hp ho (VA its n j u) (r.set rv j) (by rw[List.length_set];exact hz) s.toks
 by_cases h0:0<=k
 ·have hk:k.toNat=j:=by
   rw[seqIndex_of h0 h4]at h1
   exact Option.some.inj h1
  exact PySem.W.ki_setAt ho h0 (by omega) (by rw[List.size_toArray,<-hl];exact h4) (by rw[hk];exact⟨_,I',q⟩)
 ·have hk:(k+(its.toArray.size:Int)).toNat=j:=by
   rw[seqIndex_neg (by omega) h3]at h1
   rw[List.size_toArray,<-hl]
   exact Option.some.inj h1
  exact PySem.W.ki_setBack ho (by omega) (by rw[List.size_toArray,<-hl];exact h3) (by omega) (by rw[hk];exact⟨_,I',q⟩)
theorem Qt (lo hi:Option Int) (n:Nat):(sliceBounds lo hi none n).1=((HT.sIx n 0 lo:Nat):Int)/\(sliceBounds lo hi none n).2.1=((HT.sIx n n hi:Nat):Int)/\(sliceBounds lo hi none n).2.2=1:=by
 refine⟨?_,?_,rfl⟩
 ·cases lo with
  | none=>simp[sliceBounds,HT.sIx]
  | some i =>
   simp only[sliceBounds,HT.sIx,Option.getD_none,show (1:Int)>0 by decide,if_true]
   by_cases h:i<0
   ·simp only[h,if_true] <;> omega
   ·simp only[h,if_false] <;> omega
 ·cases hi with
  | none=>simp[sliceBounds,HT.sIx]
  | some i =>
   simp only[sliceBounds,HT.sIx,Option.getD_none,show (1:Int)>0 by decide,if_true]
   by_cases h:i<0
   ·simp only[h,if_true] <;> omega
   ·simp only[h,if_false] <;> omega
theorem Xu (its:List Value) (lo hi:Option Int):slicePick its.toArray lo hi none=((its.drop (HT.sIx its.length 0 lo)).take (HT.sIx its.length its.length hi - HT.sIx its.length 0 lo)).toArray:=by
 obtain⟨h1,h2,h3⟩:=Qt lo hi its.toArray.size
 unfold slicePick
 rw[h1,h2,h3]
 simp only[sliceRange_one,pick_run,List.size_toArray] <;> rfl
def rSlL (K:PySem.W.Frag):V->Option Int->Option Int->Hp->VK->Prop:=λx lo hi H Q=>∃a xs,x = .ref a/\SqL K H a xs/\∀p,H p=none->Q (.ref p) (upd H p (.lst (qq xs lo hi)))
theorem jg:SlR X (rSlL X.K):=by
 intro pins s σ H x v vl vu lo hi sl Q I rx hs pl pu h
 obtain⟨a,xs,rfl,hx,q⟩:=h
 cases rx
 obtain⟨its,r,ht,hz⟩:=I.list hx
 have hlen:=r.length
 refine⟨"list",_,slot_list_getitem.lookup,ht.isList.typeIs,?_⟩
 refine wpAny_getItem_list_slice ht.isList hs pl pu .none (by simp) ?_ (by rw[List.size_toArray] <;> omega)
 rw[Xu,<-hlen]
 refine⟨.ref s.heap.objs.size,_,I.laid (t':=s.toks) (o:=.lst (qq xs lo hi)) (λb ob q=>Heap.get?_push_of_some _ q) (Nat.le_refl _) ?_,rfl,q _ (I.hok.fresh (Nat.le_refl _))⟩
 exact⟨Nat.le_trans (vO xs lo hi) hz,_,0,(r.drop (HT.sIx xs.length 0 lo)).take (HT.sIx xs.length xs.length hi - HT.sIx xs.length 0 lo),Heap.get?_push_size _ rfl⟩
theorem xl:vN X (.builtin "len") (λxs H Q=>∃p ys,xs=[.ref p]/\(SqL X.K H p ys\/SqT X.K H p ys)/\Q (.int ys.length) H):=by
 intro pins s σ H xs us Q I r h
 obtain⟨p,ys,rfl,hq,q⟩:=h
 obtain⟨u,rfl,rx⟩:=jY r
 cases rx
 have hn:=Xa
 rcases hq with hq | hq
 ·obtain⟨its,r',pl,hz⟩:=I.list hq
  have hlen:=r'.length
  exact Calls.call_len_list pl.isList (by simp only[List.size_toArray] <;> omega) ⟨.int ys.length,H,I.tok _,⟨s.toks+1,by rw[List.size_toArray,hlen]⟩,q⟩
 ·obtain⟨its,r',pl,hz⟩:=I.tuple hq
  have hlen:=r'.length
  exact len_tuple pl (by simp only[List.size_toArray] <;> omega) ⟨.int ys.length,H,I.tok _,⟨s.toks+1,by rw[List.size_toArray,hlen]⟩,q⟩
theorem jF:vN X (.type "list") (λxs H Q=>∃p ys,xs=[.ref p]/\(SqL X.K H p ys\/SqT X.K H p ys)/\∀l,H l=none->Q (.ref l) (upd H l (.lst ys))):=by
 intro pins s σ H xs us Q I r h
 obtain⟨p,ys,rfl,hq,q⟩:=h
 obtain⟨u,rfl,rx⟩:=jY r
 cases rx
 have fin:∀(its:List Value),zU ys its->ys.length<=sizeLine->∀(h':Heap) (c':Nat),(∀b o',s.heap.get? b=some o'->h'.get? b=some o') →
   h'.get? s.heap.objs.size=some { cls:=.type "list",dict:=none,data:=.seq its.toArray c',slots:=#[] }->EP X pins σ Q (.ref s.heap.objs.size) { s with heap:=h' }:=λits r' hz h' c' kp e =>
  ⟨.ref s.heap.objs.size,_,I.laid (t':=s.toks) kp (Nat.le_refl _) (show xo X.prog X.w _ h' _ (.lst ys)from⟨hz,its,c',r',e⟩),rfl,q _ (I.hok.fresh (Nat.le_refl _))⟩
 rcases hq with hq | hq
 ·obtain⟨its,r',pl,hz⟩:=I.list hq
  have hlen:=r'.length
  obtain⟨o,ho,hc,n,hd⟩:=pl.isList
  exact call_list_seq p (.inl rfl) ho hc hd (λh' c' kp e=>fin its r' hz h' c' kp e) (by simp only[List.size_toArray] <;> omega)
 ·obtain⟨its,r',pl,hz⟩:=I.tuple hq
  have hlen:=r'.length
  obtain⟨o,ho,hc,n,hd⟩:=pl
  exact call_list_seq p (.inr rfl) ho hc hd (λh' c' kp e=>fin its r' hz h' c' kp e) (by simp only[List.size_toArray] <;> omega)
theorem vc:vN X (.type "tuple") (λxs H Q=>∃p ys,xs=[.ref p]/\((SqL X.K H p ys/\∀l,H l=none->Q (.ref l) (upd H l (.tup ys)))\/(SqT X.K H p ys/\Q (.ref p) H))):=by
 intro pins s σ H xs us Q I r h
 obtain⟨p,ys,rfl,h⟩:=h
 obtain⟨u,rfl,rx⟩:=jY r
 cases rx
 rcases h with⟨hq,q⟩ | ⟨hq,q⟩
 ·obtain⟨its,r',pl,hz⟩:=I.list hq
  have hlen:=r'.length
  refine call_tuple_list pl.isList (λh' kp=>?_) (by simp only[List.size_toArray] <;> omega)
  have I1:Inv X pins σ H { s with heap:=h' }:=I.kept (t':=s.toks) kp
  have I2:Inv X pins σ (upd H h'.objs.size (.tup ys)) { s with heap:=h'.push { cls:=.type "tuple",data:=.seq its.toArray } } :=
   I1.laid (t':=s.toks) (λb o e=>Heap.get?_push_of_some _ e) (Nat.le_refl _) (show xo X.prog X.w _ _ _ (.tup ys)from⟨hz,its,r',IsTup.new _ _⟩)
  exact⟨.ref h'.objs.size,_,I2,rfl,q _ (I1.hok.fresh (Nat.le_refl _))⟩
 ·obtain⟨its,r',pl,hz⟩:=I.tuple hq
  exact call_tuple_same pl ⟨.ref p,H,I,rfl,q⟩
def tyV (K:PySem.W.Frag) (T:String) (x:V) (H:Hp):Prop:=match x with
 | .str _=>T = "str"
 | .int _=>T = "int"
 | .ref p=>(T = "list"/\∃xs,SqL K H p xs)\/(T = "tuple"/\∃o,K.lookup p=some o/\o.cls = .type "tuple"/\o.dict=none) ∨
   (T = "dict"/\((∃kvs,H p=some (.dK kvs))\/∃kvs,H p=some (.dT kvs)))\/(T = "set"/\∃S n,H p=some (.set S n))
 | _=>False
theorem zeD {pins:List (Addr×Obj)}{σ:St}{H:Hp}{s:Shared}{T:String}{x:V}{v:Value}(I:Inv X pins σ H s) (r:xj x v) (ty:tyV X.K T x H) :
  s.TypeIs v T/\∀a,v = .ref a->∃ob,s.heap.get? a=some ob/\ob.dict=none:=by
 cases x with
 | str z =>
  obtain⟨t,rfl⟩:=r
  cases(show T = "str" from ty)
  exact⟨typeIs_str s z t,λ_ e=>nomatch e⟩
 | int i =>
  obtain⟨t,rfl⟩:=r
  cases(show T = "int" from ty)
  exact⟨typeIs_int s i t,λ_ e=>nomatch e⟩
 | ref p =>
  cases r
  rcases ty with⟨rfl,xs,hq⟩ | ⟨rfl,o,hk,hc,hd⟩ | ⟨rfl,hk⟩ | ⟨rfl,S,n,hk⟩
  ·obtain⟨its,_,pl,_⟩:=I.list hq
   refine⟨pl.isList.typeIs,λa e=>?_⟩
   cases e
   obtain⟨o,n,e,c,hd,_⟩:=pl
   exact⟨o,e,hd⟩
  ·refine⟨⟨o,I.kIn p o hk,hc⟩,λa e=>?_⟩
   cases e
   exact⟨o,I.kIn _ o hk,hd⟩
  ·have z:∃o,s.heap.get? p=some o/\o.ExactDict:=by
    rcases hk with⟨kvs,hk⟩ | ⟨kvs,hk⟩
    ·obtain⟨_,_,_,_,o,_,_,e,ex,_⟩:=I.hok p _ hk
     exact⟨o,e,ex⟩
    ·obtain⟨_,_,_,_,o,_,_,e,ex,_⟩:=I.hok p _ hk
     exact⟨o,e,ex⟩
   obtain⟨o,e,ex⟩:=z
   refine⟨⟨o,e,ex.1⟩,λa e2=>?_⟩
   cases e2
   exact⟨o,e,ex.2.1⟩
  ·obtain⟨o,_,_,_,e,ex,_⟩:=I.hok p _ hk
   refine⟨⟨o,e,ex.1⟩,λa e2=>?_⟩
   cases e2
   exact⟨o,e,ex.2.1⟩
 | _=>exact False.elim ty
def tBM (K:PySem.W.Frag) (T:String) (r:V->List V->Hp->VK->Prop) (to:TE) (t:TA):TE:=λσ H Q=>to σ H λx H1=>tyV K T x H1/\t σ H1 λxs H2=>r x xs H2 Q
variable {o e:Expr}{es:List Expr}{to:TE}{t:TA}{name:Str}{apos cpos:Pos}{T id:String}{r:V->List V->Hp->VK->Prop}
theorem ZA (pa:PlainAttrs T) (slot:Slot T name id) (hty:typeOf (.builtin id)=pure (.type "method_descriptor")) (hm:MtR X id r) (ho:PE X o to) (ha:PA X (e::es) t)
  (hbase:attributeBase o name X.env (eval o X.env)=eval o X.env:=by rfl)
  (hfew:((backTo cpos (starEach (e::es) X.env)).all (λx=>!x.1)&&(backToKw cpos (keywordEach [] X.env)).all (λx=>x.1.isSome)
   && decide ((e::es).length+([]:List Keyword).length+(if([]:List Keyword).isEmpty then 0 else 1)<30))=true:=by rfl)
  (hline:(apos.endLine == cpos.line)=true:=by rfl) (hs:starEach (e::es) X.env=(false,eval e X.env)::starEach es X.env:=by rfl) (hplain:(backTo cpos (starEach es X.env)).any (·.1)=false:=by rfl) :
  PE X (.Call (.Attribute o name apos) (e::es) [] cpos) (tBM X.K T r to t):=by
 intro pins s σ H Q I h
 refine wpAny_Call_method_late hbase hfew hline rfl (thn (ho pins s σ H _ I h) λv s1 ⟨x,H1,I1,r1,ty,q1⟩=>?_)
 obtain⟨h1,h2⟩:=zeD I1 r1 ty
 refine⟨T,id,pa,slot,hty,h1,h2,?_⟩
 have hA:=ha cpos pins s1 σ H1 _ I1 q1
 rw[hs]at hA ⊢
 refine Calls.callWith_builtin (by show (false || (backTo cpos (starEach es X.env)).any (·.1))=false;rw[hplain] <;> rfl) (Calls.evalArgs_plain ?_)
 exact thn hA λus s2 ⟨vs,H2,I2,r2,q2⟩=>hm pins s2 σ H2 x vs v us Q I2 r1 r2 q2
end
end L2
namespace L2
open PySem PySem.Spec PyProof.Rows
def MtM (X:Cx) (id:String) (r:V->List V->Hp->VK->Prop):Prop :=
 ∀(pins:List (Addr×Obj)) (s:Shared) (σ:St) (H:Hp) (x:V) (xs:List V) (v:Value) (us:List Value) (Q:VK),Inv X pins σ H s->xj x v->zU xs us->r x xs H Q →
  wpAny (model X.prog X.w) X.A (call (.builtin id) (v::us)) (EP X pins σ Q) X.xe s
theorem zU.one:∀{x:V}{us:List Value},zU [x] us->∃u,us=[u]/\xj x u
 | _,_,.cons r .nil=>⟨_,rfl,r⟩
theorem zU.two:∀{x y:V}{us:List Value},zU [x,y] us->∃u v,us=[u,v]/\xj x u/\xj y v
 | _,_,_,.cons r (.cons q .nil)=>⟨_,_,rfl,r,q⟩
theorem zU.rep {xs:List V}{us:List Value}(h:zU xs us):∀k:Nat,zU (List.replicate k xs).flatten (List.replicate k us).flatten
 | 0=>.nil
 | k+1=>by
  rw[List.replicate_succ,List.replicate_succ,List.flatten_cons,List.flatten_cons]
  exact zU.append h (zU.rep h k)
theorem XH (its:List Value):∀(k:Nat) (acc:List Value),
  List.foldl (λx1 x2=>x1++x2) acc.toArray (List.replicate k its.toArray)=(acc++(List.replicate k its).flatten).toArray
 | 0,acc=>by simp
 | k+1,acc=>by
  have e:acc.toArray++its.toArray=(acc++its).toArray:=by simp
  have e2:(acc++its)++(List.replicate k its).flatten=acc++(List.replicate (k+1) its).flatten:=by
   rw[List.replicate_succ,List.flatten_cons,List.append_assoc]
  rw[<-e2,<-XH its k (acc++its),<-e,List.replicate_succ,List.foldl_cons]
section
variable {X:Cx}{pins:List (Addr×Obj)}{σ:St}{H:Hp}{s:Shared}{l b:Addr}{xs ys zs:List V}
theorem Inv.lset {its its':List Value}{n:Nat}{f:Array Value->Array Value}{t':Nat}(I:Inv X pins σ H s) (hH:H l=some (.lst xs))
  (e:s.heap.get? l=some { cls:=.type "list",data:=.seq its.toArray n }) (hf:f its.toArray=its'.toArray) (hv:zU ys its') (hz:ys.length<=sizeLine) :
  Inv X pins σ (upd H l (.lst ys)) { s with heap:=s.heap.update l (Obj.mapSeq f),toks:=t' }:=by
 have q:=PySem.IsL.update e f
 rw[hf]at q
 refine I.write (x:=l) (e:=l) (by rw[hH];exact trivial) (.inl rfl) (λb' u hb hu=>(Heap.get?_update_other s.heap (Obj.mapSeq f) (Ne.symm hb)).trans hu) ⟨_,q⟩ ?_
 exact⟨hz,its',_,hv,q⟩
theorem Inv.lnew {its:List Value}{t':Nat}(I:Inv X pins σ H s) (hv:zU ys its) (hz:ys.length<=sizeLine) :
  Inv X pins σ (upd H s.heap.objs.size (.lst ys)) { s with heap:=s.heap.push { cls:=.type "list",data:=.seq its.toArray },toks:=t' } :=
 I.laid (λ_ _ q=>Heap.get?_push_of_some _ q) (Nat.le_refl _) ⟨hz,its,0,hv,Heap.get?_push_size _ rfl⟩
theorem Inv.fresh (I:Inv X pins σ H s):H s.heap.objs.size=none:=I.hok.fresh (Nat.le_refl _)
theorem Inv.lstM (I:Inv X pins σ H s) (hH:H l=some (.lst xs)):xs.length<=sizeLine/\∃(its:List Value) (n:Nat),zU xs its/\xs.length=its.length/\s.heap.get? l=some { cls:=.type "list",data:=.seq its.toArray n }:=by
 obtain⟨z,its,n,r,e⟩:=I.hok l _ hH
 exact⟨z,its,n,r,r.length,e⟩
theorem Xd {n:Nat}(h:n<=sizeLine):Builtin.List.listTooLong n=false:=by
 unfold Builtin.List.listTooLong
 exact decide_eq_false (by omega)
end
section
variable {X:Cx}
def Jv:V->List V->Hp->VK->Prop:=λx vs H Q=>∃l xs y,x = .ref l/\vs=[y]/\H l=some (.lst xs)/\xs.length<sizeLine/\Q .non (upd H l (.lst (xs++[y])))
theorem qv:MtM X "list.append" Jv:=by
 intro pins s σ H x vs v us Q I rx rv h
 obtain⟨l,xs,y,rfl,rfl,hH,hz,q⟩:=h
 cases rx
 obtain⟨u,rfl,ru⟩:=rv.one
 obtain⟨z,its,n,r,hl,e⟩:=I.lstM hH
 refine call_meets F.slot_list_append ⟨_,e,rfl⟩ F.entry_list_append (F.args_list_append_2 _ _) (PySem.list_append l its.toArray n u (by rw[List.size_toArray];omega)) ⟨e,?_⟩
 refine⟨.non,_,I.lset (its':=its++[u]) hH e (by simp) (r.append (.cons ru .nil)) ?_,rfl,q⟩
 rw[List.length_append,List.length_singleton]
 omega
def rCat:R2:=λx y H Q=>∃l b xs zs,x = .ref l/\y = .ref b/\H l=some (.lst xs)/\H b=some (.lst zs)/\xs.length+zs.length<=sizeLine/\∀p,H p=none->Q (.ref p) (upd H p (.lst (xs++zs)))
theorem Xe:OpR X (binaryOp .Add) rCat:=by
 intro pins s σ H x y v u Q I rx ry h
 obtain⟨l,b,xs,zs,rfl,rfl,hH,hB,hz,q⟩:=h
 cases rx
 cases ry
 obtain⟨z,its,n,r,hl,e⟩:=I.lstM hH
 obtain⟨z2,its2,n2,r2,hl2,e2⟩:=I.lstM hB
 refine PySem.P.add_list e e2 ?_ (by rw[List.size_toArray,List.size_toArray];omega)
 have ea:its.toArray++its2.toArray=(its++its2).toArray:=by simp
 rw[ea]
 exact⟨.ref _,_,I.lnew (t':=s.toks) (r.append r2) (by rw[List.length_append];omega),rfl,q _ I.fresh⟩
def rRep:R2:=λx y H Q=>∃l k xs,x = .ref l/\y = .int k/\H l=some (.lst xs) ∧ -(2^63)<=k/\k<2^63/\xs.length*k.toNat<=sizeLine ∧
 ∀p,H p=none->Q (.ref p) (upd H p (.lst (List.replicate k.toNat xs).flatten))
theorem zcb {α:Type}(xs:List α) (k:Nat):(List.replicate k xs).flatten.length=k*xs.length:=by
 induction k with
 | zero=>simp
 | succ k ih=>rw[List.replicate_succ,List.flatten_cons,List.length_append,ih,Nat.succ_mul,Nat.add_comm]
theorem zbd:OpR X (binaryOp .Mult) rRep:=by
 intro pins s σ H x y v u Q I rx ry h
 obtain⟨l,k,xs,rfl,rfl,hH,h1,h2,hz,q⟩:=h
 cases rx
 obtain⟨t,rfl⟩:=ry
 obtain⟨z,its,n,r,hl,e⟩:=I.lstM hH
 have hlen:its.toArray.size*k.toNat<=sizeLine:=by rw[List.size_toArray,<-hl];exact hz
 have hcap:¬its.toArray.size*k.toNat>(2^63 - 1)/8:=by
  have:(sizeLine:Nat)<=(2^63 - 1)/8:=by decide
  omega
 have hfit:¬(!Builtin.List.listFitsIndex k)=true:=by
  rw[fitsIndex_both h1 h2]
  exact Bool.false_ne_true
 have hlong:¬Builtin.List.listTooLong (its.toArray.size*k.toNat)=true:=by
  rw[Xd hlen]
  exact Bool.false_ne_true
 have hnew:List.foldl (λx1 x2=>x1++x2) #[] (List.replicate (if its.toArray.isEmpty=true then 0 else k.toNat) its.toArray)=(List.replicate k.toNat its).flatten.toArray:=by
  have f0:∀m:Nat,List.foldl (λx1 x2=>x1++x2) #[] (List.replicate m its.toArray)=(List.replicate m its).flatten.toArray:=λm=>by
   have:=XH its m []
   rw[List.nil_append]at this
   exact this
  rw[f0]
  cases its with
  | nil=>simp
  | cons a r'=>rw[if_neg (by simp)]
 refine wpAny_binaryOp_repeat_ref (T:="list") (U:="int") (by decide) ⟨_,e,rfl⟩ (λs'=>typeIs_int s' k t) noFill_list_mul F.fills_int_mul F.slot_int_rmul repeat_list F.slot_int_index.lookup
  (call_meets F.slot_int_rmul (typeIs_int s k t) F.entry_int_rmul (F.args_int_rmul_2 _ _) (int___rmul___int_list k t l its.toArray n)
   ⟨e,rfl,⟨_,e,rfl⟩,call_meets F.slot_list_mul ⟨_,e,rfl⟩ F.entry_list_mul (F.args_list_mul_2 _ _) (AutoListH.list___mul___list_int_3 l its.toArray n k t hfit hcap hlong) ⟨e,?_⟩⟩)
 rw[hnew]
 exact⟨.ref _,_,I.lnew (t':=s.toks) (r.rep k.toNat) (by rw[zcb,Nat.mul_comm];exact hz),rfl,q _ I.fresh⟩
end
section
variable {prog:Program}{w:World}{A:Around}{E:Value->Shared->Prop}{s:Shared}
theorem zan (its its2:List Value) (a c:Nat):its.toArray.extract 0 a++its2.toArray++its.toArray.extract c its.toArray.size=(its.take a++its2++its.drop c).toArray:=by
 apply Array.toList_inj.mp
 first
  | (simp
     exact List.take_of_length_le (by simp))
  | simp[List.take_of_length_le]
  | simp
theorem Vn {a c n:Nat}(hac:a<=c) (hc:c<=n):sliceBounds (some (a:Int)) (some (c:Int)) none n=((a:Int),(c:Int),1):=by
 simp only[sliceBounds,Option.getD_none]
 have h1:¬((a:Int)<0):=by omega
 have h2:¬((c:Int)<0):=by omega
 simp only[h1,h2,if_false,show (1:Int)>0 by decide,if_true]
 congr 1
 ·omega
 ·congr 1;omega
set_option maxRecDepth 100000 in
theorem Xt {l b sl:Addr}{items new:Array Value}{n n2:Nat}{vl vu:Value}{a c:Nat}{Q:Unit->Shared->Prop}
  (e:s.heap.get? l=some { cls:=.type "list",data:=.seq items n }) (e2:s.heap.get? b=some { cls:=.type "list",data:=.seq new n2 }) (hne:l≠b)
  (hs:s.heap.IsSliceOf sl vl vu .none) (pl:IsPart vl (some (a:Int))) (pu:IsPart vu (some (c:Int))) (hac:a<=c) (hc:c<=items.size)
  (hsz:items.size+new.size<=sizeLine) (h:Q () { s with heap:=s.heap.update l (Obj.mapSeq λxs=>xs.extract 0 a++new++xs.extract c xs.size) }) :
  wpAny (model prog w) A (setItem (.ref l) (.ref sl) (.ref b)) Q E s:=by
 have hl:s.heap.IsList l items:=PySem.IsL.isList e
 have hb:s.heap.IsList b new:=PySem.IsL.isList e2
 obtain⟨os,hos,hcs,hds⟩:=id hs
 have hTs:s.TypeIs (.ref sl) "slice":=⟨os,hos,hcs⟩
 have hstep:¬((rawPart none == rawInt 0)=true):=Bool.false_ne_true
 have hsame:Builtin.List.listSameRef (.ref l) (.ref b)=false:=by
  unfold Builtin.List.listSameRef
  exact beq_eq_false_iff_ne.mpr hne
 have hmax:(max (a:Int) (c:Int)).toNat=c:=by omega
 have hz':((λxs:Array Value=>xs.extract 0 a++new++xs.extract c xs.size) items).size<=sizeLine+1:=by
  simp only[Array.size_append,Array.size_extract]
  omega
 unfold setItem
 try with_reducible refine wpAny_holding ?_
 first | refine wpAny_bind (wpAny_pure ?_) | skip
 refine wpAny_bind (wpAny_sequenceKey hl.typeIs (by decide) ?_)
 refine wpAny_bind (wpAny_callSpecial?_slot (name:=Str.ofString "__setitem__") hl.typeIs slot_list_setitem
  (wpAny_call_entry slot_list_setitem hl.typeIs entry_list_setitem ?_ (args_list_setitem _ _ _)))
 show wpAny _ _ (Builtin.List.listSubscript? (.ref sl) >>= _) _ _ s
 refine wpAny_bind ?_
 unfold Builtin.List.listSubscript?
 refine wpAny_bind (wpAny_specialOf hTs slice_no_index ?_)
 simp only[Option.isNone_none,if_true]
 refine wpAny_pure ?_
 show wpAny _ _ (typeOf (.ref sl) >>= _) _ _ s
 refine wpAny_bind (wpAny_typeOf hTs ?_)
 first
  | rw[if_neg (by decide)]
  | refine PySem.W.KFB.if_not (by decide) ?_
 rw[listSliceParts_eq]
 refine wpAny_bind (wpAny_bind (wpAny_field hos hds (x:=.none) rfl (wpAny_bind (wpAny_listPart .none ?_))))
 rw[if_neg hstep]
 refine wpAny_bind (wpAny_field hos hds (x:=vl) rfl (wpAny_bind (wpAny_listPart pl ?_)))
 refine wpAny_bind (wpAny_field hos hds (x:=vu) rfl (wpAny_bind (wpAny_listPart pu (wpAny_pure ?_))))
 first
  | simp only[hsame,Bool.false_eq_true,if_false]
  | refine PySem.W.KFB.if_not hsame ?_
  | (dsimp only
     rw[if_neg (by rw[hsame];exact Bool.false_ne_true)])
 refine wpAny_bind (m:=Builtin.List.listAllItems (.ref b) "must assign iterable to extended slice") ?_
 unfold Builtin.List.listAllItems
 refine wpAny_bind (wpAny_typeOf hb.typeIs ?_)
 first
  | refine PySem.W.KFB.if_so (by decide) ?_
  | rw[if_pos (by decide)]
  | simp only[beq_self_eq_true,Bool.true_or,if_true]
 unfold Builtin.List.listItems
 refine wpAny_bind (wpAny_seqItems e2 rfl (wpAny_pure ?_))
 refine wpAny_bind (wpAny_bind (wpAny_seqItems e rfl (wpAny_pure ?_)))
 refine wpAny_bind (wpAny_of_eq ((sliceIndices_raw (some (a:Int)) (some (c:Int)) none items.size (by simp)).trans (congrArg (pure:Int×Int×Int->Sem (Int×Int×Int)) (Vn hac hc))) ?_)
 show wpAny _ _ (if((1:Int) == 1)=true then _ else _) _ _ s
 rw[if_pos (by decide)]
 refine wpAny_bind (wpAny_rule ?_)
 first
  | simp only[Xd hsz,Bool.false_eq_true,if_false]
  | refine PySem.W.KFB.if_not (Xd hsz) ?_
 first | refine wpAny_bind (wpAny_pure ?_) | skip
 show wpAny _ _ (updateSeq l (λxs=>xs.extract 0 ((a:Int)).toNat++new++xs.extract (max (a:Int) (c:Int)).toNat xs.size) >>= _) _ _ s
 rw[hmax,Int.toNat_natCast]
 refine wpAny_bind (wpAny_updateSeq (hz:=Nat.le_trans (Nat.le_add_right _ _) hsz) (_hz':=hz') e rfl ?_)
 refine wpAny_bind (wpAny_letGo ?_)
 first
  | exact wpAny_bind (wpAny_pure (wpAny_pure ⟨.none,rfl,wpAny_pure h⟩))
  | exact wpAny_pure ⟨.none,rfl,wpAny_pure h⟩
end
section
variable {X:Cx}
theorem zak {pins:List (Addr×Obj)}{s:Shared}{σ:St}{H:Hp}{l b sl:Addr}{xs ys:List V}{a c:Int}{vl vu:Value}{Q:Unit->Shared->Prop}(I:Inv X pins σ H s)
  (hH:H l=some (.lst xs)) (hB:H b=some (.lst ys)) (hne:l≠b) (hs:s.heap.IsSliceOf sl vl vu .none) (ra:xj (.int a) vl) (rc:xj (.int c) vu) (h0:0<=a) (hac:a<=c) (hc:c<=xs.length)
  (hz:xs.length+ys.length<=sizeLine) (h:∀s',Inv X pins σ (upd H l (.lst (xs.take a.toNat++ys++xs.drop c.toNat))) s'->Q () s') :
  wpAny (model X.prog X.w) X.A (setItem (.ref l) (.ref sl) (.ref b)) Q X.xe s:=by
 obtain⟨ta,rfl⟩:=ra
 obtain⟨tc,rfl⟩:=rc
 obtain⟨z,its,n,r,hl,e⟩:=I.lstM hH
 obtain⟨z2,its2,n2,r2,hl2,e2⟩:=I.lstM hB
 obtain⟨a',rfl⟩:=Int.eq_ofNat_of_zero_le h0
 obtain⟨c',rfl⟩:=Int.eq_ofNat_of_zero_le (Int.le_trans h0 hac)
 simp only[Int.toNat_natCast]at h
 refine Xt (a:=a') (c:=c') e e2 hne hs (.int _ _) (.int _ _) (by omega) (by rw[List.size_toArray];omega) (by rw[List.size_toArray,List.size_toArray];omega) (h _ ?_)
 refine I.lset (its':=its.take a'++its2++its.drop c') (t':=s.toks) hH e ?_ (zU.append (zU.append (r.take _) r2) (r.drop _)) ?_
 ·exact zan its its2 a' c'
 ·rw[List.length_append,List.length_append,List.length_take,List.length_drop]
  omega
end
end L2
namespace Att
open PySem PySem.W PySem.Calls PyProof.Rows
theorem ZF {P:Params}{h:Heap}:∀(ns:List Int) (vs:List Value),WellAll P h vs (ns.map WData.int)->IntsAre vs ns:=by
 intro ns
 induction ns with
 | nil =>
  intro vs w
  rw[List.map_nil]at w
  cases w
  exact .nil
 | cons n ns ih =>
  intro vs w
  rw[List.map_cons]at w
  cases w with
  | cons a b =>
   cases a
   exact .cons _ _ (ih _ b)
theorem zaj {l:OpenLaw}{n:Nat}(hn:l.most=some n){P:Params}{h:Heap}{args:List WData}{vals:List Value}
  (hpre:l.row.toRowW.claim.pre args=true) (hwl:WellAll P h vals args) :
  ∃a vs ns,vals=[Value.ref a]/\args=[WData.list (ns.map WData.int)]/\h.get? a=some { cls:=.type "list",data:=.seq vs.toArray }/\IntsAre vs ns/\ns.length<=n:=by
 have hsh:WShape.hasAll [] args [.list .int]=true:=(pre_splitW hpre).1
 have hc:l.pre.holds [] { args:=args } = true:=(pre_splitW hpre).2
 obtain⟨d,r,rfl,h1,h2⟩:=hasAllW_cons hsh
 obtain rfl:=hasAllW_nil h2
 obtain⟨xs,rfl,h3⟩:=hasW_list h1
 obtain⟨ns,rfl⟩:=items_int h3
 have hlen:ns.length<=n:=by
  unfold OpenLaw.pre at hc
  have h4:(WTm.not (.lt (.lit (.int (n:Int))) (.len (.arg 0)))).holds [] { args:=[.list (ns.map .int)] } = true:=by
   have h4:=(holds_andW hc).1
   rw[hn]at h4
   exact h4
  have h5:=condW_of h4 (w_not (w_lt w_lit (w_len_list (w_arg rfl))))
  rw[List.length_map]at h5
  refine Nat.le_of_not_lt λq=>?_
  have q':(n:Int)<((ns.length:Nat):Int):=by omega
  first
   | (rw[decide_eq_true q']at h5;exact absurd h5 (by decide))
   | (simp at h5;omega)
 cases hwl with
 | cons w1 w2 =>
  cases w2
  cases w1 with
  | list ho hall=>exact⟨_,_,ns,rfl,rfl,ho,ZF ns _ hall,hlen⟩
theorem zaf (l:OpenLaw) (args:List WData):l.row.toRowW.claim.post args (.bool true) args=true :=
 postW_of (r:=l.row.toRowW) (X:=(true == true))
  (show WShape.has [] (.bool true) .bool=true by first | rfl | decide | simp[WShape.has,WShape.arms,WShape.armsAll])
  (show (WTm.eq .res (.lit (.bool true))).value [] { args:=args,res:=some (.bool true),after:=args } = some (.bool (true == true))from w_eq_bool (w_res rfl) w_lit) rfl
theorem attach_call {l:OpenLaw}{n:Nat}{q:Program}{loose:List Str}{XP:(Str->Option Value)->Heap->Prop}{YP:World->Heap->Prop}{d:DefRec}
  (hn:l.most=some n) (hdf:d.params.defaults=[])
  (call:∀(w:World) (s₀ s₁:Shared) (mg mb:Str->Option Value) (fa:Addr) (o:Obj) (pm cd doc:Value) (a:Addr) (vs:List Value) (ns:List Int),
   Ground q loose [] XP w s₀ mg mb s₁.heap->YP w s₁.heap →
   s₁.heap.get? fa=some o->o.data = .func (docDef d.name d.params d.body d.scope pm cd doc)->s₁.heap.CodeRec cd d.name->mg d.name=some (.ref fa) →
   s₁.heap.get? a=some { cls:=.type "list",data:=.seq vs.toArray }->IntsAre vs ns->ns.length<=n->s₁.gens = #[] →
   codeAny (model l.prog w) callerA (.call (.ref fa) ⟨[.ref a],[]⟩) (λr s'=>r = .ok (.ret (.bool true))/\OldK s₁.heap s'.heap/\s'.os=s₁.os/\AllBare s'.gens) s₁) :
  WalkO q loose XP YP l.row.toRowW d [] (λf vs=>PySem.call f vs):=by
 intro w s₀ s₁ mg mb G Y fa o pm cd doc dV kV ho hd hcd hD hmg hg args vals as hpre hlay hrd hwl hlo
 obtain rfl:dV = .none:=Dflts.none hD hdf
 obtain rfl:kV = .none:=Dflts.noKw hD
 obtain⟨a,vs,ns,rfl,rfl,hobj,hints,hlen⟩:=zaj hn hpre hwl
 refine enter_call (codeAny_mono (call w s₀ s₁ mg mb fa o pm cd doc a vs ns G Y ho (fd_plain hd) hcd hmg hobj hints hlen hg) λr s' hq=>?_)
 obtain⟨rfl,h2,h3,h4⟩:=hq
 exact⟨.inl ⟨.bool true,.bool true,[],rfl,λ_=>rfl,.bool true,zaf l _,λ_=>⟨List.Pairwise.nil,λ_ hm=>(nomatch hm)⟩⟩,h2,h3,h4⟩
end Att
namespace L2
open PySem PySem.Spec PyProof.Rows
theorem XY:∀{vs:List Value}{ns:List Int},IntsAre vs ns->zU (ns.map V.int) vs
 | _,_,.nil=>.nil
 | _,_,.cons n t h=>.cons ⟨t,rfl⟩ (XY h)
end L2
namespace L2
open PySem PySem.Spec PyProof.Rows
end L2
namespace L2
open PySem PySem.Spec PyProof.Rows
def Qe (s:Stmt) (j:Nat):Stmt:=match s with
 | .ClassDef _ _ _ body _ _ _ _ _ _ _=>body.getD j (.Pass ⟨0,0,0,0⟩)
 | _=>.Pass ⟨0,0,0,0⟩
def zH (s:Stmt):Arguments:=match s with
 | .FunctionDef _ a _ _ _ _ _ _ _ _=>a
 | _=>{ posonlyargs:=[],args:=[],vararg:=none,kwonlyargs:=[],kw_defaults:=[],kwarg:=none,defaults:=[] }
def zE (s:Stmt):List Stmt:=match s with
 | .FunctionDef _ _ b _ _ _ _ _ _ _=>b
 | _=>[]
def zg (s:Stmt):Scope:=match s with
 | .FunctionDef _ _ _ _ _ _ sc _ _ _=>sc
 | _=>{ kind:=.function,names:=[],isGenerator:=false,isCoroutine:=false }
abbrev CX0:CXT:=λ_ _ _ _ _ _=>False
abbrev E0:XK:=λ_ _ _=>False
theorem zbg {X:Cx}:ZU CX0 X E0:=λ_ _ _ _ _ _ _ h=>h.elim
structure Fun (K:PySem.W.Frag) (x qual:Str) (st:Stmt) (f:Addr) (fd:FuncData):Prop where
 ex:∃(oc:Value) (od:Option Addr) (kV doc pm:Value) (an:Option Addr) (cdv ct:Value) (osl:Array (Option Value)),
  fd=PySem.W.fnOf x qual (zH st) (zE st) (zg st) .none kV doc pm an cdv ct/\K.lookup f=some ⟨oc,od,.func fd,osl⟩/\PySem.W.codeIn K cdv qual=true
 kp:PySem.W.keepIn K (.ref f)=true
section
variable {P:Program}{w:World}{K:PySem.W.Frag}{mg:Str->Option Value}{base:Heap}
theorem Fun.ok {x qual:Str}{st:Stmt}{f:Addr}{fd:FuncData}{N ps:List Str}{k:Nat}{sp:Sp}(F:Fun K x qual st f fd) (S:zG N ps (zg st)) (len:∀vs H Q E,sp vs H Q E->vs.length=ps.length)
  (hbody:∀(cdv:Value) (A:Around) (outer:List Env) (s:Shared) (H:Hp) (vs:List V) (Q:VK) (E:XK),xi k (A.deeper (envOfC qual (zg st) s.heap.objs.size f cdv))->sp vs H Q E →
   ∃t,PSs (ja CX0 P w K mg base N qual (zg st) f cdv A outer s H E).nox (zE st) t/\t { nx:=λ_ H'=>Q .non H',rt:=Q } (vk N vs) H):vL P w K mg base CX0 (k+1) f fd ps sp:=by
 obtain⟨oc,od,kV,doc,pm,an,cdv,ct,osl,rfl,lk,hcd⟩:=F.ex
 refine Ja lk hcd S len λA outer s H vs Q E hr hsp=>?_
 obtain⟨t,h,q⟩:=hbody cdv A outer s H vs Q E hr hsp
 exact⟨t,h.nox,q⟩
theorem Fun.binds {x qual:Str}{st:Stmt}{f:Addr}{fd:FuncData}{ps:List Str}(F:Fun K x qual st f fd)
  (h:∀(kV doc pm:Value) (an:Option Addr) (cdv ct:Value) (us:List Value),us.length=ps.length->bindArgs (PySem.W.fnOf x qual (zH st) (zE st) (zg st) .none kV doc pm an cdv ct) ⟨us,[]⟩=pure (ps.zip us)):vh K fd ps []:=by
 obtain⟨oc,od,kV,doc,pm,an,cdv,ct,osl,rfl,lk,hcd⟩:=F.ex
 exact .all (h kV doc pm an cdv ct)
theorem Qc {x qual:Str}{st:Stmt}{f:Addr}{oc:Value}{od an:Option Addr}{osl:Array (Option Value)}{kV doc pm cdv ct:Value}(l:K.lookup f=some ⟨oc,od,.func (PySem.W.fnOf x qual (zH st) (zE st) (zg st) .none kV doc pm an cdv ct),osl⟩)
  (c:PySem.W.codeIn K cdv qual=true) (k:PySem.W.keepIn K (.ref f)=true):Fun K x qual st f (PySem.W.fnOf x qual (zH st) (zE st) (zg st) .none kV doc pm an cdv ct):=⟨⟨oc,od,kV,doc,pm,an,cdv,ct,osl,rfl,l,c⟩,k⟩
end
theorem xt {n:Nat}(h:n<=1000):n<sizeLine:=Nat.lt_of_le_of_lt h (by decide)
section
variable {X:Cx}
theorem pv (i:Nat){x:Str}{pos:Pos}(hN:X.N[i]? = some x:=by rfl) (hv:Vis X.env.scope x:=by first | exact Or.inl rfl | exact Or.inr (Or.inl rfl) | exact Or.inr (Or.inr rfl)) (hd:(x == ("__debug__":Str))=false:=by decide)
  (hcd:(x == ("__classdict__":Str))=false:=by decide):PE X (.Name x pos) (xQ i):=zef hN hv hd hcd
end
theorem xA {A B:Prop}(h:B):if false=true then A else B:=by
 rw[if_neg Bool.false_ne_true]
 exact h
theorem qd {A B:Prop}(h:A):if true=true then A else B:=by
 rw[if_pos rfl]
 exact h
theorem qH {c A B:Prop} [Decidable c] (h1:c->A) (h2:¬c->B):if c then A else B:=by
 by_cases h:c
 ·rw[if_pos h]
  exact h1 h
 ·rw[if_neg h]
  exact h2 h
def zh (H H':Hp):Prop:=∀b o,H b=some o->H' b=some o
theorem zh.refl (H:Hp):zh H H:=λ_ _ h=>h
theorem zh.trans {H H1 H2:Hp}(a:zh H H1) (b:zh H1 H2):zh H H2:=λc o h=>b c o (a c o h)
theorem zh.free {H H':Hp}(e:zh H H'){l:Addr}(h:H' l=Option.none):H l=Option.none:=by
 cases q:H l with
 | none=>rfl
 | some o =>
  rw[e l o q]at h
  cases h
theorem zh.seq {K:PySem.W.Frag}{H H':Hp}{a:Addr}{xs:List V}(e:zh H H') (h:SqL K H a xs):SqL K H' a xs:=by
 rcases h with(h | ⟨o,h⟩) | h
 ·exact .inl (.inl (e _ _ h))
 ·exact .inl (.inr ⟨o,e _ _ h⟩)
 ·exact .inr h
end L2
set_option Elab.async false
set_option linter.all false
set_option maxRecDepth 100000
namespace L2
open PySem PySem.Spec PyProof.Rows
section
variable {prog:Program}{w:World}{A:Around}{R:Result->Shared->Prop}{s:Shared}
theorem jH {elt target iter:Expr}{ifs:List Expr}{scope:Scope}{pos:Pos}{it acc:Value}{env:Env}(I:Nat->Shared->Prop)
  (turn:∀n s,I n s->wpAny (model prog w) A (pyNext it) (λr s₁=>match r with
   | none=>R (.ok .next) s₁
   | some v=>wpAny (model prog w) A (letOwnedTupleGo target it v) (λ_ s₀=>wpAny (model prog w) A (assign target env v) (λ_ s₂ =>
     wpAny (model prog w) A (forIn ifs true λc r=>if r=true then do let ok <-isTrue c env (eval c env);pure (ForInStep.yield ok)else pure (ForInStep.yield r)) (λok s₃ =>
      if ok=true then wpAny (model prog w) A (eval elt env) (λx s₄ =>
       wpAny (model prog w) A (call (.builtin "list.append") [acc,x]) (λ_ s₅=>∃m,m<n/\I m s₅) (λ_ _=>False) s₄) (λ_ _=>False) s₃
      else ∃m,m<n/\I m s₃) (λ_ _=>False) s₂) (λ_ _=>False) s₀) (λ_ _=>False) s₁) (λ_ _=>False) s)
  (n:Nat) (h:I n s) :
  codeAny (model prog w) A (.compLoop (.ListComp elt [⟨target,iter,ifs,0⟩] scope pos) 0 it acc env) R s:=by
 refine codeAny_loop rfl I (λn s hI=>?_) n h
 show wpAny _ A ((compTurn (.ListComp elt [⟨target,iter,ifs,0⟩] scope pos) 0 it acc env).onRaise (λx=>do noteFrame x env;theTreesLotGoes x)) _ _ s
 refine wpAny_noted ?_
 rw[compTurn_list]
 have no:∀{X:Prop},∀(e:Value) (s':Shared),(λ_ _=>False:Value->Shared->Prop) e s'->X:=λ_ _ z=>False.elim z
 refine wpAny_bind (wpAny_standAt (wpAny_bind (wpAny_mono (turn n s hI) (λr s₁ h₁=>?_) λe s'=>no e s')))
 cases r with
 | none=>exact wpAny_pure h₁
 | some v =>
  refine wpAny_bind (wpAny_mono h₁ (λ_ s₀ h₀=>?_) λe s'=>no e s')
  refine wpAny_bind (wpAny_mono h₀ (λ_ s₂ h₂=>wpAny_bind (wpAny_mono h₂ (λok s₃ h₃=>?_) λe s'=>no e s')) λe s'=>no e s')
  cases ok with
  | false=>exact wpAny_pure ⟨rfl,h₃⟩
  | true =>
   exact wpAny_bind (wpAny_bind (wpAny_mono h₃ (λx s₄ h₄=>wpAny_bind (wpAny_mono h₄ (λ_ s₅ h₅=>wpAny_pure (wpAny_pure ⟨rfl,h₅⟩)) λe s'=>no e s')) λe s'=>no e s'))
end
def qS (X:Cx) (NB:List Str) (scope:Scope) (s3:Shared) (H3:Hp) (fp:List Addr):Cx :=
 { X with N:=NB,s₀:=s3,H₀:=H3,env:=compEnv scope s3.heap.objs.size X.env,outer:=X.stack,stack:=X.stack,ex:=fp,fn:=λ_=>true,pn:=[],xe:=λ_ _=>False }
def PTs (X:Cx) (ifs:List Expr) (t:TT):Prop :=
 ∀(pins:List (Addr×Obj)) (s:Shared) (σ:St) (H:Hp) (Q:Bool->Hp->Prop),Inv X pins σ H s->t σ H Q →
  wpAny (model X.prog X.w) X.A (forIn ifs true λc r=>if r=true then do let ok <-isTrue c X.env (eval c X.env);pure (ForInStep.yield ok)else pure (ForInStep.yield r)) (TP X pins σ Q) X.xe s
theorem qg {X:Cx}:PTs X [] (λ_ H Q=>Q true H):=λ_ _ _ H _ I h=>wpAny_tests_nil ⟨H,I,h⟩
theorem Qn {X:Cx}{c:Expr}{t:TT}(h:PT X c t):PTs X [c] t:=λpins s σ H Q I q=>wpAny_tests_one (h pins s σ H Q I q)
def zdt (n:Nat) (wi:TI) (g:TG) (tt:TT) (te:TE):TE:=λσ H Q=>wi σ H λJ H1=>∀D,H1 D=none->∃W:Nat->Nat->Hp->List V->Prop,(∃m,W 0 m (upd H1 D (.lst [])) []) ∧
 ∀i m H2 ys,W i m H2 ys->H2 D=some (.lst ys)->(J.stop i H2/\Q (.ref D) H2) ∨
  (J.go i H2/\∀σB x H3,σB.length=n->J.yld i H2 x H3->g x σB H3 λσ4 H4=>tt σ4 H4 λb H5=>if b=true then te σ4 H5 (λv H6=>H6 D=some (.lst ys)/\ys.length<sizeLine/\∃m',m'<m/\W (i+1) m' (upd H6 D (.lst (ys++[v]))) (ys++[v]))
   else H5 D=some (.lst ys)/\∃m',m'<m/\W (i+1) m' H5 ys)
theorem jQ {X:Cx}{elt tg iter:Expr}{ifs:List Expr}{scope:Scope}{pos:Pos}{NB:List Str}{wi:TI}{g:TG}{tt:TT}{te:TE}
  (hc:X.calm=true) (hfree:∀x∈scope.names,x.2≠.free) (hcell:∀x∈scope.names,x.2≠.cell) (hkind:scope.kind = .function) (hnames:∀x∈scope.names,x.2 = .local → scope.names.lookup x.1=some .local)
  (hi:PI X tg iter wi) (hb:∀s3 H3 fp,PG (qS X NB scope s3 H3 fp) tg g/\PTs (qS X NB scope s3 H3 fp) ifs tt/\PE (qS X NB scope s3 H3 fp) elt te)
  (hs:∀x,foldedSetIterable iter X.env x=pure x:=by intro _;rfl) :
  PE X (.ListComp elt [⟨tg,iter,ifs,0⟩] scope pos) (zdt NB.length wi g tt te):=by
 intro pins s σ H Q I h
 refine wpAny_ListComp hfree hkind hnames (thn (hi pins s σ H _ I h) λv s1 h1=>thn h1 λitv s2 h2=>?_) hs
 obtain⟨it,fp,tn,J,H2,e,I2,T,st2,f2,q2⟩:=h2
 subst e
 have hf2:H2 s2.heap.objs.size=none:=I2.hok.fresh (Nat.le_refl _)
 obtain⟨W,⟨m0,w0⟩,turn⟩:=q2 _ hf2
 refine wpAny_newObj_type (hd:=by size_fits) ?_
 have I3:Inv X pins σ (upd H2 s2.heap.objs.size (.lst [])) { s2 with heap:=s2.heap.push { cls:=.type "list",dict:=none,data:=.seq ([]:List Value).toArray } } :=
  I2.laid (t':=s2.toks) (λb u e=>Heap.get?_push_of_some _ e) (Nat.le_refl _) ⟨by decide,[],0,.nil,Heap.get?_push_size _ rfl⟩
 generalize hD:s2.heap.objs.size=D at *
 generalize hs3:({ s2 with heap:=s2.heap.push { cls:=.type "list",dict:=none,data:=.seq ([]:List Value).toArray } }:Shared)=s3 at *
 generalize hH3:upd H2 D (.lst [])=H3 at *
 have h3D:H3 D=some (.lst []):=by rw[<-hH3];exact zf
 have fpD:∀b∈fp,b≠D:=λb hb=>by
  obtain⟨o,e,_⟩:=T.obj _ _ st2 b hb
  rw[<-hD];exact Nat.ne_of_lt (Heap.lt_size e)
 have k23:∀b u,s2.heap.get? b=some u->s3.heap.get? b=some u:=λb u e=>by rw[<-hs3];exact Heap.get?_push_of_some _ e
 have st3:tn 0 s3.heap:=T.keep _ _ _ st2 λb _ o e=>k23 b o e
 have f3:∀b∈fp,ZQ X pins H3 b:=λb hb=>⟨by rw[<-hH3,zB (fpD b hb)];exact(f2 b hb).1,(f2 b hb).2⟩
 refine wpAny_newFunctionEnv hcell (by intro y hy;simp at hy) (λh4 hns4 hsb4=>?_) hkind
 have k34:∀b u,s3.heap.get? b=some u->h4.get? b=some u:=λb u e=>hsb4.extBut b u (Nat.ne_of_lt (Heap.lt_size e)) (Heap.get?_push_of_some _ e)
 have okB:(qS X NB scope s3 H3 fp).Ok:=by
  refine⟨I3.ok.mod,hkind,I3.ok.glob,I3.ok.blt,Nat.le_refl _,λx y c e _=>?_,λx e=>?_,λx c _ e=>?_,I3.ok.hd,I3.ok.frames,.inl rfl,λb hb=>⟨?_,λx c e=>?_⟩,I3.bs,Nat.le_trans I3.ok.bsz I3.sz,λb o e hb=>?_,λb hb z=>?_,I3.stack,I3.stkFree⟩
  ·exact absurd (show ([]:List (Str×Addr)).lookup x=some c from e) (by simp)
  ·have e':scope.names.lookup x=some .cell\/scope.names.lookup x=some .free:=e
   rcases e' with e' | e'
   ·exact absurd rfl (hcell _ (PySem.mem_of_lookup e'))
   ·exact absurd rfl (hfree _ (PySem.mem_of_lookup e'))
  ·exact absurd (show ([]:List (Str×Addr)).lookup x=some c from e) (by simp)
  ·obtain⟨o,e,_⟩:=T.obj _ _ st3 b hb
   exact Nat.ne_of_lt (Heap.lt_size e)
  ·exact absurd (show ([]:List (Str×Addr)).lookup x=some c from e) (by simp)
  ·obtain⟨_,_,_,z,_⟩:=f3 b hb
   rcases z with z | z
   ·exact I3.ok.noex b o e z
   ·exact absurd (Nat.lt_of_lt_of_le (Heap.lt_size e) (Nat.le_trans I3.ok.bsz z)) (Nat.lt_irrefl _)
  ·obtain⟨_,z1,z2,_⟩:=f3 b hb
   rcases List.mem_cons.mp (I3.stkSub b z)with e | e
   ·exact z1 e
   ·exact z2 e
 have IB:Inv (qS X NB scope s3 H3 fp) [] (List.replicate NB.length none) H3 { s3 with heap:=h4,toks:=s3.toks+([]:List (Str×Value)).length }:=by
  refine⟨okB,rfl,I3.bare,Un.kept k34,⟨_,hns4,λi x v _ e _=>?_⟩,λx c e=>?_,I3.hok.fresh (Nat.le_refl _),λx c e=>?_,λp hp=>?_,I3.hok.kept k34,by simp[qS]⟩
  ·rw[List.getElem?_replicate]at e
   split at e <;> cases e
  ·exact absurd (show ([]:List (Str×Addr)).lookup x=some c from e) (by simp)
  ·exact absurd (show ([]:List (Str×Addr)).lookup x=some c from e) (by simp)
  ·exact absurd (show p∈([]:List (Addr×Obj))from hp) (by simp)
 have st4:tn 0 h4:=T.keep _ _ _ st3 λb _ o e=>k34 b o e
 have C_ne:∀b∈fp,b≠s3.heap.objs.size:=λb hb=>(okB.exf b hb).1
 have stat:∀{H':Hp},(∀b∈fp,H' b=none)->∀b∈fp,ZQ (qS X NB scope s3 H3 fp) [] H' b:=λhn b hb =>
  ⟨hn b hb,C_ne b hb,okB.exfs b hb,.inl hb,λx c e=>absurd (show ([]:List (Str×Addr)).lookup x=some c from e) (by simp),λp hp=>absurd (show p∈([]:List (Addr×Obj))from hp) (by simp)⟩
 obtain⟨hg,ht,he⟩:=hb s3 H3 fp
 have fin:∀{σ':St}{H':Hp}{s':Shared},Inv (qS X NB scope s3 H3 fp) [] σ' H' s'->Q (.ref D) H' →
   ∃m,s'.heap.Ns s3.heap.objs.size m/\∀h',Heap.SameBut s3.heap.objs.size s'.heap h'->EP X pins σ Q (.ref D) { s' with heap:=h' }:=λ{σ' H' s'} J q=>by
  obtain⟨m,hm,_⟩:=J.loc
  refine⟨m,hm,λh' sb=>⟨.ref D,H',?_,rfl,q⟩⟩
  have neC:∀b o,s3.heap.get? b=some o->b≠s3.heap.objs.size:=λb o e=>Nat.ne_of_lt (Heap.lt_size e)
  have hfr:H' s3.heap.objs.size=none:=J.free
  have up:∀b o,b≠s3.heap.objs.size->s'.heap.get? b=some o->h'.get? b=some o:=λb o hb e=>(sb.2 b hb).trans e
  have hok':HOk X.prog X.w H' h':=λb ob e=>(J.hok b ob e).stay (λc w' hc q=>up c w' (by
   rintro rfl
   rcases hc with rfl | hc
   ·rw[hfr]at e;cases e
   ·rw[hfr]at hc;cases hc) q) (λ_ q=>q) λ_ _ q=>q
  have u:Un (frs X.stack) fp H3 H' s3.heap h' :=
   ⟨λb o e n hb hx=>up b o (neC b o e) (J.base.keep b o e n hb hx),λb o e n hb hx=>by
    obtain⟨sl,e'⟩:=J.base.slot b o e n hb hx
    exact⟨sl,up b _ (neC b o e) e'⟩,J.base.free,λb o e hx=>by
    obtain⟨o',e'⟩:=J.base.there b o e hx
    exact⟨o',up b _ (neC b o e) e'⟩,J.base.tups,J.base.frzs,J.base.tbls⟩
  refine I3.call' (s':={ s' with heap:=h' }) (ch:=fp) J.os u hok' J.bare λb hb=>?_
  obtain⟨z0,z1,z2,z3,z4,z5⟩:=f3 b hb
  exact⟨z3,z1,z4,z5⟩
 have loop:∀s5:Shared,s5 = { s3 with heap:=h4,toks:=s3.toks+([]:List (Str×Value)).length } →
   codeAny (model X.prog X.w) X.A (.compLoop (.ListComp elt [⟨tg,iter,ifs,0⟩] scope pos) 0 (.ref it) (.ref D) (compEnv scope s3.heap.objs.size X.env))
    (λr s'=>∃m,s'.heap.Ns s3.heap.objs.size m/\∀h',Heap.SameBut s3.heap.objs.size s'.heap h' →
     match r with | .ok _=>EP X pins σ Q (.ref D) { s' with heap:=h' } | .error x=>wpAny (model X.prog X.w) X.A (passOn "comprehension.variables-let-go" x (compEnv scope s3.heap.objs.size X.env)) (EP X pins σ Q) X.xe { s' with heap:=h' }) s5:=by
  rintro s5 rfl
  refine jH (λn s'=>∃i σ' H' ys,Inv (qS X NB scope s3 H3 fp) [] σ' H' s'/\tn i s'.heap/\(∀b∈fp,H' b=none)/\H' D=some (.lst ys)/\W i n H' ys) ?_ m0
   ⟨0,_,H3,[],IB,st4,λb hb=>(f3 b hb).1,h3D,by rw[<-hH3]at *;exact w0⟩
  rintro n s6 ⟨i,σ6,H6,ys,I6,st6,fr6,hD6,w6⟩
  rcases turn i n H6 ys w6 hD6 with⟨stop,qn⟩ | ⟨go,step⟩
  ·refine thn (T.done (qS X NB scope s3 H3 fp) rfl rfl rfl hc i [] s6 σ6 H6 _ I6 (stat fr6) st6 stop) λr s7 ⟨hr,I7⟩=>?_
   subst hr
   exact fin I7 qn
  ·refine thn (T.item (qS X NB scope s3 H3 fp) rfl rfl rfl hc i [] s6 σ6 H6 _ I6 (stat fr6) st6 go) λr s7 ⟨u,hr,h7⟩=>?_
   subst hr
   refine thn h7 λ_ s8 ⟨x,H8,I8,r8,y8,st8,fr8⟩=>?_
   have I8':=I8.pinned (stat fr8) (T.obj _ _ st8)
   have again:∀{σ9:St}{H9:Hp}{s9:Shared}{zs:List V}{m':Nat},Inv (qS X NB scope s3 H3 fp) ([]++Zd fp s8.heap) σ9 H9 s9->H9 D=some (.lst zs)->m'<n->W (i+1) m' H9 zs →
     ∃m,m<n/\∃i σ' H' ys,Inv (qS X NB scope s3 H3 fp) [] σ' H' s9/\tn i s9.heap/\(∀b∈fp,H' b=none)/\H' D=some (.lst ys)/\W i m H' ys:=λ{σ9 H9 s9 zs m'} I9 hz hm w9=>by
    refine⟨m',hm,i+1,σ9,H9,zs,I9.unpinned,T.keep _ _ _ st8 λb hb o e=>(I9.pin (b,o) (List.mem_append_right _ (List.mem_append_right _ (qU hb e)))).1,λb hb=>?_,hz,w9⟩
    obtain⟨o,e,d⟩:=T.obj _ _ st8 b hb
    exact(I9.pin (b,o) (List.mem_append_right _ (List.mem_append_right _ (qU hb e)))).2.1
   refine thn (hg _ s8 σ6 H8 x u _ I8' r8 (step σ6 x H8 I6.len y8)) λ_ s9 ⟨σ9,H9,I9,q9⟩=>?_
   refine thn (ht _ s9 σ9 H9 _ I9 q9) λok s10 ⟨H10,I10,q10⟩=>?_
   cases ok with
   | false =>
    rw[if_neg (by decide)]at q10 ⊢
    obtain⟨hz,m',hm,w'⟩:=q10
    exact again I10 hz hm w'
   | true =>
    rw[if_pos rfl]at q10 ⊢
    refine thn (he _ s10 σ9 H10 _ I10 q10) λy s11 ⟨v,H11,I11,r11,hz,hlen,m',hm,w'⟩=>?_
    refine thn (qv _ s11 σ9 H11 (.ref D) [v] (.ref D) [y] (λ_ H12=>H12=upd H11 D (.lst (ys++[v]))) I11 rfl (.cons r11 .nil) ⟨D,ys,v,rfl,rfl,hz,hlen,rfl⟩) λ_ s12 ⟨_,H12,I12,_,e12⟩=>?_
    subst e12
    exact again I12 zf hm w'
 exact codeAny_compStart_list (loop _ rfl) (T.self X.A 0 _ _ _ st4 (loop _ rfl))
end L2
set_option Elab.async false
set_option linter.all false
set_option maxRecDepth 100000
namespace L2
open PySem PySem.Spec PyProof.Rows
mutual
inductive RdD (H:Hp):V->PyData->Prop
 | non:RdD H .non .none
 | bl (b:Bool):RdD H (.bl b) (.bool b)
 | int (i:Int):RdD H (.int i) (.int i)
 | str (x:Str):RdD H (.str x) (.str x)
 | tup {a:Addr}{xs:List V}{ds:List PyData}:H a=some (.tup xs)->vq H xs ds->RdD H (.ref a) (.tuple ds)
 | lst {a:Addr}{xs:List V}{ds:List PyData}:H a=some (.lst xs)->vq H xs ds->RdD H (.ref a) (.list ds)
inductive vq (H:Hp):List V->List PyData->Prop
 | nil:vq H [] []
 | cons {x:V}{d:PyData}{xs:List V}{ds:List PyData}:RdD H x d->vq H xs ds->vq H (x::xs) (d::ds)
end
section
variable {X:Cx}{pins:List (Addr×Obj)}{σ:St}{H:Hp}{s:Shared}
mutual
theorem RdD.reads (I:Inv X pins σ H s):∀{x:V}{d:PyData},RdD H x d->∀{u:Value},xj x u->∃as,Reads s.heap u d as
 | _,_,.non,u,r=>by cases(show u=Value.none from r);exact⟨_,.none⟩
 | _,_,.bl b,u,r=>by cases(show u=Value.bool b from r);exact⟨_,.bool b⟩
 | _,_,.int i,u,r=>by obtain⟨t,e⟩:=(show ∃t,u=Value.int i t from r);subst e;exact⟨_,.int i t⟩
 | _,_,.str x,u,r=>by obtain⟨t,e⟩:=(show ∃t,u=Value.str x t from r);subst e;exact⟨_,.str x t⟩
 | _,_,@RdD.tup _ a xs ds e h,u,r=>by
  cases(show u=Value.ref a from r)
  obtain⟨_,its,rv,o,h1,h2,n,h3⟩:=(show xo X.prog X.w H s.heap a (.tup xs)from I.hok a _ e)
  obtain⟨as,ra⟩:=vq.reads I h rv
  exact⟨_,.tuple h1 h2 h3 (by simpa using ra)⟩
 | _,_,@RdD.lst _ a xs ds e h,u,r=>by
  cases(show u=Value.ref a from r)
  obtain⟨_,its,n,rv,h1⟩:=(show xo X.prog X.w H s.heap a (.lst xs)from I.hok a _ e)
  obtain⟨as,ra⟩:=vq.reads I h rv
  exact⟨_,.list h1 rfl rfl (by simpa using ra)⟩
theorem vq.reads (I:Inv X pins σ H s):∀{xs:List V}{ds:List PyData},vq H xs ds->∀{us:List Value},zU xs us->∃as,ReadsAll s.heap us ds as
 | _,_,.nil,us,r=>by cases r;exact⟨_,.nil⟩
 | _,_,.cons h t,us,r=>by
  cases r with
  | cons r1 r2 =>
   obtain⟨a1,q1⟩:=RdD.reads I h r1
   obtain⟨a2,q2⟩:=vq.reads I t r2
   exact⟨_,.cons q1 q2⟩
end
end
def rEqD:R2:=λx y H Q=>∃d e,RdD H x d/\RdD H y e/\SeqAt.shaped d=true/\SeqAt.shaped e=true/\Q (.bl (PyData.eqv d e)) H
def rNeD:R2:=λx y H Q=>∃d e,RdD H x d/\RdD H y e/\SeqAt.shaped d=true/\SeqAt.shaped e=true/\Q (.bl (!PyData.eqv d e)) H
section
variable {X:Cx}
theorem Zb (hu:X.A.units+64<cLine):OpR X (compareOp .Eq) rEqD:=by
 intro pins s σ H x y v u Q I rx ry h
 obtain⟨d,e,hd,he,s1,s2,q⟩:=h
 obtain⟨as,r1⟩:=hd.reads I rx
 obtain⟨bs,r2⟩:=he.reads I ry
 exact eq_dataH r1 r2 s1 s2 hu ⟨.bl _,H,I,rfl,q⟩
theorem VG (hu:X.A.units+64<cLine):OpR X (compareOp .NotEq) rNeD:=by
 intro pins s σ H x y v u Q I rx ry h
 obtain⟨d,e,hd,he,s1,s2,q⟩:=h
 obtain⟨as,r1⟩:=hd.reads I rx
 obtain⟨bs,r2⟩:=he.reads I ry
 exact ne_dataH r1 r2 s1 s2 hu ⟨.bl _,H,I,rfl,q⟩
def Bd (n:Nat) (i:Int):Prop:=i.natAbs<2^n
theorem Bd.mono {m n:Nat}{i:Int}(h:Bd m i) (l:m<=n):Bd n i:=Nat.lt_of_lt_of_le h (Nat.pow_le_pow_right (by decide) l)
theorem Bd.bits {n:Nat}{i:Int}(h:Bd n i):Builtin.Int.intBits i<=n:=intBits_le_iff.mpr h
theorem Bd.of_bits {n:Nat}{i:Int}(h:Builtin.Int.intBits i<=n):Bd n i:=intBits_le_iff.mp h
theorem Bd.mul {m n:Nat}{i j:Int}(h:Bd m i) (k:Bd n j):Bd (m+n) (i*j):=.of_bits (intBits_mul_le h.bits k.bits)
theorem Bd.add {m n:Nat}{i j:Int}(h:Bd m i) (k:Bd n j):Bd (max m n+1) (i+j):=.of_bits (intBits_add_le h.bits k.bits)
theorem Bd.neg {n:Nat}{i:Int}(h:Bd n i):Bd n (-i):=by unfold Bd;rw[Int.natAbs_neg];exact h
theorem Bd.sub {m n:Nat}{i j:Int}(h:Bd m i) (k:Bd n j):Bd (max m n+1) (i - j):=by rw[Int.sub_eq_add_neg];exact h.add k.neg
def ZO (i j:Int):Prop:=Bd 1000000 i/\Bd 1000000 j
theorem zO:OpR X (binaryOp .Mult) (rI ZO λi j=>.int (i*j)):=opI λ_ _ _ _ _ _ _ hc q=>mul_int q (IntMulOk.of_le hc.1.bits hc.2.bits (by decide))
def QA (i j:Int):Prop:=j≠0/\Bd 8900 j
theorem qi:OpR X (binaryOp .FloorDiv) (rI QA λi j=>.int (i.fdiv j)):=opI λ_ j _ _ _ _ _ hc q=>floordiv_int hc.1 q (.inl (PyProof.noPylong_of_log2 (by
 have h1:j.natAbs≠0:=λz=>hc.1 (Int.natAbs_eq_zero.mp z)
 have h2:j.natAbs<2^9000:=Nat.lt_of_lt_of_le hc.2 (Nat.pow_le_pow_right (by decide) (by decide))
 exact(Nat.log2_lt h1).mpr h2)))
theorem Zt:vN X (.builtin "isinstance") (λxs H Q=>∃x t n b,xs=[x,.ty n]/\j3 X.K H x t/\PySem.W.kitOne X.K t (.type n)=some b/\Q (.bl b) H):=by
 intro pins s σ H xs us Q I r h
 obtain⟨x,t,n,b,rfl,ty,e,q⟩:=h
 obtain⟨u,w',rfl,r1,r2⟩:=ZE r
 cases(show w'=Value.type n from r2)
 exact J8 I r1 ty e λtk=>⟨.bl b,H,I.tok tk,rfl,q⟩
end
end L2
set_option Elab.async false
set_option linter.all false
set_option maxRecDepth 100000
namespace HT
open PySem PySem.Spec PyProof.Rows L2
end HT
namespace L2
open PySem PySem.Spec PyProof.Rows
section
variable {X:Cx}{e st:Expr}{te:TE}{pos p2:Pos}
theorem zU.rev:∀{xs:List V}{us:List Value},zU xs us->zU xs.reverse us.reverse
 | _,_,.nil=>.nil
 | _,_,.cons r t=>by rw[List.reverse_cons,List.reverse_cons];exact(zU.rev t).append (.cons r .nil)
end
end L2
namespace KM
theorem QM {a b:Int}(ha:0<=a) (hb:0<b):Int.gcd b (a % b)=Int.gcd a b:=by
 obtain⟨m,rfl⟩:=Int.eq_ofNat_of_zero_le ha
 obtain⟨n,rfl⟩:=Int.eq_ofNat_of_zero_le (Int.le_of_lt hb)
 rw[<-Int.natCast_emod,Int.gcd_comm (m:Int)]
 show Nat.gcd n (m % n)=Nat.gcd n m
 rw[Nat.gcd_comm n (m % n)]
 exact(Nat.gcd_rec n m).symm
theorem xH (q:Rat):(q.den:Int)≠0:=by have:=q.den_nz;omega
theorem den_pos (q:Rat):(0:Int)<q.den:=by have:=q.den_nz;omega
def dv (t b:Int):Int:=if b<0 then -(Int.gcd t b:Int)else(Int.gcd t b:Int)
theorem zb6 {t b:Int}(hb:b≠0):0<Int.gcd t b:=Int.gcd_pos_of_ne_zero_right _ hb
theorem zda {t b:Int}(hb:b≠0):dv t b≠0:=by
 have:=zb6 (t:=t) hb
 unfold dv;split <;> omega
theorem zdI {t b:Int}:(dv t b).natAbs=Int.gcd t b:=by
 unfold dv;split <;> omega
theorem V7 {t b:Int}(hb:b≠0):(dv t b).natAbs<=b.natAbs:=by
 rw[zdI];exact Nat.le_of_dvd (by omega) (Int.gcd_dvd_natAbs_right t b)
theorem Vq {t b:Int}(hb:b≠0):t.fdiv (dv t b)=(Rat.divInt t b).num:=by
 rw[Rat.num_divInt,Int.gcd_comm b t]
 have h1:((Int.gcd t b:Nat):Int) ∣ t:=Int.gcd_dvd_left ..
 unfold dv
 split
 ·rename_i h
  rw[Int.fdiv_eq_ediv_of_dvd (Int.neg_dvd.mpr h1),Int.ediv_neg,Int.sign_eq_neg_one_of_neg h]
  rw[show (-1*t) = -t by omega,Int.neg_ediv_of_dvd h1]
 ·rename_i h
  rw[Int.fdiv_eq_ediv_of_dvd h1,Int.sign_eq_one_of_pos (by omega),Int.one_mul]
theorem zaM {t b:Int}(hb:b≠0):b.fdiv (dv t b)=((Rat.divInt t b).den:Int):=by
 rw[Rat.den_divInt,if_neg hb,Int.gcd_comm b t]
 have h1:((Int.gcd t b:Nat):Int) ∣ b:=Int.gcd_dvd_right ..
 have h2:Int.gcd t b ∣ b.natAbs:=Int.gcd_dvd_natAbs_right t b
 unfold dv
 split
 ·rename_i h
  rw[Int.fdiv_eq_ediv_of_dvd (Int.neg_dvd.mpr h1),Int.ediv_neg]
  rw[Int.natCast_ediv,show ((b.natAbs:Nat):Int) = -b by omega,Int.neg_ediv_of_dvd h1]
 ·rename_i h
  rw[Int.fdiv_eq_ediv_of_dvd h1,Int.natCast_ediv,show ((b.natAbs:Nat):Int)=b by omega]
theorem zd4 {t b:Int}(hb:b≠0):(Rat.divInt t b).num.natAbs<=t.natAbs:=by
 rw[<-Vq hb]
 have:t.fdiv (dv t b) ∣ t:=by
  have h1:dv t b ∣ t:=by
   unfold dv;split
   ·exact Int.neg_dvd.mpr (Int.gcd_dvd_left ..)
   ·exact Int.gcd_dvd_left ..
  obtain⟨c,hc⟩:=h1
  rw[Int.fdiv_eq_ediv_of_dvd ⟨c,hc⟩]
  refine⟨dv t b,?_⟩
  exact(Int.ediv_mul_cancel ⟨c,hc⟩).symm
 by_cases h0:t=0
 ·subst h0;simp
 ·exact Nat.le_of_dvd (by omega) (Int.natAbs_dvd_natAbs.mpr this)
theorem zdH {t b:Int}(hb:b≠0):(Rat.divInt t b).den<=b.natAbs:=by
 rw[Rat.den_divInt,if_neg hb];exact Nat.div_le_self _ _
theorem Ju (a b:Rat):Rat.divInt (a.num*b.den+b.num*a.den) (a.den*b.den)=a+b:=by
 rw[Rat.add_def',<-Rat.divInt_ofNat];simp
theorem Vd (a b:Rat):Rat.divInt (a.num*b.num) (a.den*b.den)=a*b:=by
 rw[Rat.mul_def',<-Rat.divInt_ofNat];simp
theorem Qi (a b:Rat):Rat.divInt (a.num*b.den) (a.den*b.num)=a/b:=by
 rw[Rat.div_def,Rat.inv_def,<-Rat.divInt_mul_divInt,Rat.num_divInt_den]
theorem jM (a b:Rat):a.num*b.den<b.num*a.den↔a<b:=(Rat.lt_iff a b).symm
structure zV where
 pl:Rat
 sp:Rat
 wt:Int
end KM
set_option Elab.async false
set_option linter.all false
set_option maxRecDepth 100000
namespace L2
open PySem PySem.Spec PyProof.Rows
structure Cal (P:Program) (w:World) (K:PySem.W.Frag) (mg:Str->Option Value) (base:Heap) (x:Str) (k:Nat) (ps:List Str) (dvs:List V) (sp:Sp):Prop where
 ex:∃f fd ds,vL P w K mg base CX0 k f fd ps sp/\mg x=some (.ref f)/\PySem.W.keepIn K (.ref f)=true/\vh K fd ps ds/\zU dvs ds
theorem zP {X:Cx}{x:Str}{k:Nat}{ps:List Str}{dvs:List V}{sp:Sp}{p pos:Pos}{e:Expr}{es:List Expr}{t:TA}
  (c:Cal X.prog X.w X.K X.mg X.base x k ps dvs sp) (hr:xi k X.A) (ha:PA X (e::es) t) (hg:Gl X x:=by rfl) (hdb:(x == ("__debug__":Str))=false:=by decide)
  (he:starEach (e::es) X.env=(false,eval e X.env)::starEach es X.env:=by rfl) (hpl:(backTo pos (starEach es X.env)).any (·.1)=false:=by rfl) :
  PE X (.Call (.Name x p) (e::es) [] pos) (ZD sp dvs E0 t):=by
 obtain⟨f,fd,ds,F,hm,hk,hb,hd⟩:=c.ex
 exact zcv F hr hg hm hk hb hd zbg ha hdb he hpl
structure Df (K:PySem.W.Frag) (mg:Str->Option Value) (x:Str) (st:Stmt) (ps:List Str) (dvs:List V):Prop where
 ex:∃(f:Addr) (oc:Value) (od:Option Addr) (dV kV doc pm:Value) (an:Option Addr) (cdv ct:Value) (osl:Array (Option Value)) (ds:List Value),
  K.lookup f=some ⟨oc,od,.func (PySem.W.fnOf x x (zH st) (zE st) (zg st) dV kV doc pm an cdv ct),osl⟩/\PySem.W.codeIn K cdv x=true/\PySem.W.keepIn K (.ref f)=true/\mg x=some (.ref f) ∧
  zU dvs ds/\vh K (PySem.W.fnOf x x (zH st) (zE st) (zg st) dV kV doc pm an cdv ct) ps ds
section
variable {P:Program}{w:World}{K:PySem.W.Frag}{mg:Str->Option Value}{base:Heap}
theorem Df.cal {x:Str}{st:Stmt}{N ps:List Str}{dvs:List V}{k:Nat}{sp:Sp}(D:Df K mg x st ps dvs) (S:zG N ps (zg st)) (len:∀vs H Q E,sp vs H Q E->vs.length=ps.length)
  (hbody:∀(f:Addr) (cdv:Value) (A:Around) (outer:List Env) (s:Shared) (H:Hp) (vs:List V) (Q:VK) (E:XK),xi k (A.deeper (envOfC x (zg st) s.heap.objs.size f cdv))->sp vs H Q E →
   ∃t,PSs (ja CX0 P w K mg base N x (zg st) f cdv A outer s H E).nox (zE st) t/\t { nx:=λ_ H'=>Q .non H',rt:=Q } (vk N vs) H):Cal P w K mg base x (k+1) ps dvs sp:=by
 obtain⟨f,oc,od,dV,kV,doc,pm,an,cdv,ct,osl,ds,lk,hcd,hk,hm,hv,hb⟩:=D.ex
 refine⟨⟨f,_,ds,Ja lk hcd S len λA outer s H vs Q E hr hsp=>?_,hm,hk,hb,hv⟩⟩
 obtain⟨t,h,q⟩:=hbody f cdv A outer s H vs Q E hr hsp
 exact⟨t,h.nox,q⟩
theorem xc {x:Str}{st:Stmt}{ps:List Str}{f:Addr}{oc:Value}{od an:Option Addr}{osl:Array (Option Value)}{dV kV doc pm cdv ct:Value}
  (l:K.lookup f=some ⟨oc,od,.func (PySem.W.fnOf x x (zH st) (zE st) (zg st) dV kV doc pm an cdv ct),osl⟩) (c:PySem.W.codeIn K cdv x=true) (k:PySem.W.keepIn K (.ref f)=true) (m:mg x=some (.ref f))
  (hb:∀us:List Value,us.length=ps.length->bindArgs (PySem.W.fnOf x x (zH st) (zE st) (zg st) dV kV doc pm an cdv ct) ⟨us,[]⟩=pure (ps.zip us)):Df K mg x st ps [] :=
 ⟨⟨f,oc,od,dV,kV,doc,pm,an,cdv,ct,osl,[],l,c,k,m,.nil,.all hb⟩⟩
end
def rp (q:Rat):List V:=[.int q.num,.int (q.den:Int)]
def zF (H:Hp) (p:Addr) (q:Rat):Prop:=H p=some (.tup (rp q))
theorem zF.same {H H':Hp}{p:Addr}{q:Rat}(h:zF H p q) (e:zh H H'):zF H' p q:=e _ _ h
def Sz (n:Nat) (q:Rat):Prop:=Bd n q.num/\Bd n (q.den:Int)
theorem Sz.mono {m n:Nat}{q:Rat}(h:Sz m q) (l:m<=n):Sz n q:=⟨h.1.mono l,h.2.mono l⟩
theorem Bd.of_le {n:Nat}{i j:Int}(h:i.natAbs<=j.natAbs) (b:Bd n j):Bd n i:=Nat.lt_of_le_of_lt h b
theorem Sz.divInt {n:Nat}{t b:Int}(hb:b≠0) (h1:Bd n t) (h2:Bd n b):Sz n (Rat.divInt t b) :=
 ⟨h1.of_le (KM.zd4 hb),h2.of_le (by have:=KM.zdH (t:=t) hb;omega)⟩
theorem Sz.add {m n:Nat}{x y:Rat}(h:Sz m x) (k:Sz n y):Sz (m+n+1) (x+y):=by
 rw[<-KM.Ju]
 refine .divInt (Int.mul_ne_zero (KM.xH x) (KM.xH y)) ?_ ((h.2.mul k.2).mono (by omega))
 exact((h.1.mul k.2).add (k.1.mul h.2)).mono (by omega)
theorem Sz.mul {m n:Nat}{x y:Rat}(h:Sz m x) (k:Sz n y):Sz (m+n) (x*y):=by
 rw[<-KM.Vd]
 exact .divInt (Int.mul_ne_zero (KM.xH x) (KM.xH y)) (h.1.mul k.1) (h.2.mul k.2)
theorem qa (q:Rat):SeqAt.shaped (.tuple [.int q.num,.int (q.den:Int)])=true:=rfl
theorem zF.rd {H:Hp}{p:Addr}{q:Rat}(h:zF H p q):RdD H (.ref p) (.tuple [.int q.num,.int (q.den:Int)]):=.tup h (.cons (.int _) (.cons (.int _) .nil))
theorem zaO (x y:Rat):PyData.eqv (.tuple [.int x.num,.int (x.den:Int)]) (.tuple [.int y.num,.int (y.den:Int)])=decide (x=y):=by
 simp only[PyData.eqv,PyData.eqvAll,Bool.and_true]
 rw[Bool.eq_iff_iff]
 simp only[Bool.and_eq_true,beq_iff_eq,decide_eq_true_eq]
 constructor
 ·rintro ⟨h1,h2⟩;exact Rat.ext h1 (by omega)
 ·rintro rfl;exact⟨rfl,rfl⟩
def vj:Sp:=λvs H Q _=>∃t b,vs=[.int t,.int b]/\b≠0/\Bd 8900 b/\∀p H',zh H H'->zF H' p (Rat.divInt t b)->Q (.ref p) H'
def vK (C:Rat->Rat->Prop) (f:Rat->Rat->Rat):Sp:=λvs H Q _=>∃p q x y,vs=[.ref p,.ref q]/\zF H p x/\zF H q y/\C x y/\∀r H',zh H H'->zF H' r (f x y)->Q (.ref r) H'
def Sz2 (x y:Rat):Prop:=Sz 4000 x/\Sz 4000 y
theorem at0 {α:Type}(a b:α):atI [a,b] 0=some a:=rfl
theorem at1 {α:Type}(a b:α):atI [a,b] 1=some b:=rfl
theorem zh.upd {H:Hp}{p:Addr}{o:HO}(h:H p=none):zh H (upd H p o):=λb u e=>by rw[zB (zC e h)];exact e
end L2
set_option Elab.async false
set_option linter.all false
set_option maxRecDepth 100000
namespace L2
open PySem PySem.Spec PyProof.Rows
def TrX (h B:Heap) (e:Addr) (cls a0:Value) (dct:Option Addr) (fl:Value):Prop :=
 ∃oe vs T oT ts,h.get? e=some oe/\oe.cls=cls/\oe.dict=dct/\oe.data = .fields vs/\vs[0]? = some a0/\vs[1]? = some (.ref T)/\B.get? T=none/\T≠e/\h.get? T=some oT/\oT.data = .fields ts/\ts[3]? = some fl
theorem zab (o:Obj) (f:Array Value->Array Value):(Obj.mapFields f o).dict=o.dict:=by
 unfold Obj.mapFields;split <;> rfl
section
variable {M:Model}{A:Around}{E:Value->Shared->Prop}{s:Shared}{B:Heap}{env:Env}{outer l:List Env}{L e:Addr}{oe:Obj}{vs:Array Value}{a0 cls fl:Value}{dct:Option Addr}{Q:Unit->Shared->Prop}
theorem V8 {head:Value}{hadNext:Bool}(hfr:A.frames=some (env::outer)) (hl:s.heap.FunFrames B (env::outer)) (hf:env.frame=some L) (he:s.heap.get? e=some oe) (hB:B.StaysIn s.heap) (hn:B.get? e=none) (hd:oe.data = .fields vs) (hz:1<vs.size) (h0:vs[0]? = some a0)
  (q:∀h',B.StaysIn h'->h'.FunFrames B (env::outer)->TrX h' B e oe.cls a0 oe.dict (rawInt L)->s.heap.UpToSlots h'->Q () { s with heap:=h' }) :
  wpAny M A (do let a <-frameOf env;let pl <-entryPlaceOf L hadNext;let b <-EntryCells.newEntry head a .none (rawInt L) .none pl;setField (.ref e) 1 b) Q E s:=by
 have nf:e∉(env::outer).filterMap (·.frame):=λm=>by
  obtain⟨_,o,ho,hnf⟩:=hl.mem m
  rw[he]at ho;cases ho;exact hnf vs hd
 refine wpAny_bind (wpAny_frameOf_fun hfr hl hf λg1 k1=>wpAny_bind (wpAny_entryPlaceOf λpl hpl=>?_))
 unfold EntryCells.newEntry newFields
 have e1:g1.get? e=some oe:=(k1.2.1 e nf).trans he
 have B1:B.StaysIn g1:=λb o z=>(k1.2.1 b λm=>by rw[(hl.mem m).1]at z;cases z).trans (hB b o z)
 have fr:g1.objs.size≠e:=Nat.ne_of_gt (Heap.lt_size e1)
 have d3:=Obj.data_mapFields hd (·.setIfInBounds 1 (Value.ref g1.objs.size))
 refine wpAny_bind (wpAny_newObj_type (wpAny_setField (Heap.get?_push_of_some _ e1) hd hz (q _ (λb o z=>?_) (hl.of_keeps λb o hb nn=>?_) ?_ λb o hb nn=>?_)) (hpl.sizeOk5 _ _ _ _ _))
 ·have ne:e≠b:=λr=>by rw[<-r,hn]at z;cases z
  rw[Heap.get?_update_other _ _ ne]
  exact Heap.get?_push_of_some _ (B1 b o z)
 ·obtain⟨sl,z⟩:=k1.2.2 b o hb
  have ne:e≠b:=λr=>by rw[<-r,he]at hb;cases hb;exact nn vs hd
  exact⟨{ o with slots:=sl },by rw[Heap.get?_update_other _ _ ne];exact Heap.get?_push_of_some _ z,rfl⟩
 ·refine⟨_,_,g1.objs.size,_,_,Heap.get?_update_self _ (Heap.get?_push_of_some _ e1) (Obj.isFreed_of_fields d3),Obj.cls_mapFields _ _,zab _ _,d3,?_,by simp[hz],B1.fresh,fr,(Heap.get?_update_other _ _ (Ne.symm fr)).trans (Heap.get?_push_size g1 rfl),rfl,?_⟩
  ·rw[Array.getElem?_setIfInBounds_ne (by decide)];exact h0
  ·first | (simp;done) | (rcases hpl with rfl | ⟨_,_,_,_,_,_,_,rfl⟩ <;> simp)
 ·obtain⟨sl,z⟩:=k1.2.2 b o hb
  have ne:e≠b:=λr=>by rw[<-r,he]at hb;cases hb;exact nn vs hd
  exact⟨sl,by rw[Heap.get?_update_other _ _ ne];exact Heap.get?_push_of_some _ z⟩
theorem VC (hfr:A.frames=some (env::outer)) (hl:s.heap.FunFrames B (env::outer)) (hf:env.frame=some L) (he:s.heap.get? e=some oe) (hB:B.StaysIn s.heap) (hn:B.get? e=none) (hd:oe.data = .fields vs) (h1:vs[1]? = some .none) (h0:vs[0]? = some a0)
  (q:∀h',B.StaysIn h'->h'.FunFrames B (env::outer)->TrX h' B e oe.cls a0 oe.dict (rawInt L)->s.heap.UpToSlots h'->Q () { s with heap:=h' }):wpAny M A (noteFrame (.ref e) env) Q E s:=by
 unfold noteFrame
 simp only[hf]
 refine wpAny_bind (wpAny_field he hd h1 ?_)
 rw[if_neg (by decide)]
 exact V8 hfr hl hf he hB hn hd (Array.getElem?_eq_some_iff.mp h1).1 h0 q
theorem zad (hfr:A.frames=some (env::outer)) (hl:s.heap.FunFrames B (env::outer)) (hf:env.frame=some L) (ht:TrX s.heap B e cls a0 dct .none) (hB:B.StaysIn s.heap) (hn:B.get? e=none)
  (q:∀h',B.StaysIn h'->h'.FunFrames B (env::outer)->TrX h' B e cls a0 dct (rawInt L)->s.heap.UpToSlots h'->Q () { s with heap:=h' }):wpAny M A (noteFrame (.ref e) env) Q E s:=by
 obtain⟨oe,vs,T,oT,ts,he,rfl,rfl,hd,h0,h1,nT,Te,hT,dT,h3⟩:=ht
 unfold noteFrame
 simp only[hf]
 refine wpAny_bind (wpAny_field he hd h1 ?_)
 rw[if_pos (show (Value.ref T != Value.none)=true from by simp)]
 refine wpAny_bind (wpAny_field hT dT h3 ?_)
 rw[if_neg (show ¬((Value.none == rawInt L)=true)from by simp[rawInt])]
 have oth:∀b,b≠T->(s.heap.update T (Obj.mapFields (·.setIfInBounds 3 Value.none))).get? b=s.heap.get? b:=λb hb=>Heap.get?_update_other _ _ (Ne.symm hb)
 have nr:∀b o,s.heap.get? b=some o->(∀vs,o.data≠.fields vs)->b≠T:=λb o hb nn r=>by rw[r,hT]at hb;cases hb;exact nn ts dT
 refine wpAny_bind (wpAny_setField hT dT (Array.getElem?_eq_some_iff.mp h3).1 (V8 hfr (hl.of_keeps λb o hb nn=>⟨o,(oth b (nr b o hb nn)).trans hb,rfl⟩) hf ((oth e (Ne.symm Te)).trans he) (λb o z=>(oth b λr=>by rw[r,nT]at z;cases z).trans (hB b o z)) hn hd (Array.getElem?_eq_some_iff.mp h1).1 h0 λh' x1 x2 x3 x4=>q h' x1 x2 x3 λb o hb nn=>x4 b o ((oth b (nr b o hb nn)).trans hb) nn))
theorem zaP (hB:B.StaysIn s.heap) (hl:s.heap.FunFrames B l) (ht:TrX s.heap B e cls a0 dct fl)
  (q:∀h',B.StaysIn h'->h'.FunFrames B l->TrX h' B e cls a0 dct .none->s.heap.UpToSlots h'->Q () { s with heap:=h' }):wpAny M A (setFlight (.ref e) none) Q E s:=by
 obtain⟨oe,vs,T,oT,ts,he,hc,hdc,hd,h0,h1,nT,Te,hT,dT,h3⟩:=ht
 have z3:3<ts.size:=(Array.getElem?_eq_some_iff.mp h3).1
 have oth:∀b,b≠T->(s.heap.update T (Obj.mapFields (·.setIfInBounds 3 ((none:Option Addr).elim Value.none λf=>rawInt f)))).get? b=s.heap.get? b:=λb hb=>Heap.get?_update_other _ _ (Ne.symm hb)
 have nr:∀b o,s.heap.get? b=some o->(∀vs,o.data≠.fields vs)->b≠T:=λb o hb nn r=>by rw[r,hT]at hb;cases hb;exact nn ts dT
 unfold setFlight
 refine wpAny_bind (wpAny_field he hd h1 ?_)
 rw[if_pos (show (Value.ref T != Value.none)=true from by simp)]
 exact wpAny_setField hT dT z3 (q _ (λb o z=>(oth b λr=>by rw[r,nT]at z;cases z).trans (hB b o z)) (hl.of_keeps λb o hb nn=>⟨o,(oth b (nr b o hb nn)).trans hb,rfl⟩)
  ⟨oe,vs,T,_,_,(oth e (Ne.symm Te)).trans he,hc,hdc,hd,h0,h1,nT,Te,Heap.get?_update_self _ hT (Obj.isFreed_of_fields (Obj.data_mapFields dT _)),Obj.data_mapFields dT _,by simp[z3]⟩ λb o hb nn=>⟨o.slots,(oth b (nr b o hb nn)).trans hb⟩)
end
def FlX (B:Heap) (l:List Env) (e:Addr) (cls a0:Value) (dct:Option Addr) (h:Heap):Prop:=B.StaysIn h/\B.get? e=none/\h.FunFrames B l/\TrX h B e cls a0 dct .none
def HeX (B:Heap) (l:List Env) (e:Addr) (cls a0:Value) (dct:Option Addr) (h:Heap):Prop:=B.StaysIn h/\B.get? e=none/\h.FunFrames B l/\∃fl,TrX h B e cls a0 dct fl
section
variable {M:Model}{A:Around}{E:Value->Shared->Prop}{s:Shared}{B h:Heap}{env:Env}{outer l:List Env}{L e:Addr}{a0 cls:Value}{dct:Option Addr}{Q:Unit->Shared->Prop}
theorem FlX.held (x:FlX B l e cls a0 dct h):HeX B l e cls a0 dct h:=⟨x.1,x.2.1,x.2.2.1,_,x.2.2.2⟩
theorem FlX.there (x:FlX B l e cls a0 dct h):∃ob,h.get? e=some ob/\ob.cls=cls:=by
 obtain⟨_,_,_,oe,_,_,_,_,he,hc,_⟩:=x
 exact⟨oe,he,hc⟩
theorem FlX.first (x:FlX B l e cls a0 dct h):∃oe vs,h.get? e=some oe/\oe.cls=cls/\oe.dict=dct/\oe.data = .fields vs:=by
 obtain⟨_,_,_,oe,vs,_,_,_,he,hc,hdc,hd,_⟩:=x
 exact⟨oe,vs,he,hc,hdc,hd⟩
theorem Jg (hfr:A.frames=some (env::outer)) (hf:env.frame=some L) (x:FlX B (env::outer) e cls a0 dct s.heap) (q:∀h',HeX B (env::outer) e cls a0 dct h'->s.heap.UpToSlots h'->Q () { s with heap:=h' }):wpAny M A (noteFrame (.ref e) env) Q E s :=
 zad hfr x.2.2.1 hf x.2.2.2 x.1 x.2.1 λh' x1 x2 x3 x4=>q h' ⟨x1,x.2.1,x2,_,x3⟩ x4
theorem ZK (x:HeX B l e cls a0 dct s.heap) (q:∀h',FlX B l e cls a0 dct h'->s.heap.UpToSlots h'->Q () { s with heap:=h' }):wpAny M A (setFlight (.ref e) none) Q E s:=by
 obtain⟨x1,x2,x3,fl,x4⟩:=x
 exact zaP x1 x3 x4 λh' y1 y2 y3 y4=>q h' ⟨y1,x2,y2,y3⟩ y4
theorem za5 (hfr:A.frames=some (env::outer)) (hf:env.frame=some L) (x:FlX B (env::outer) e cls a0 dct s.heap) (q:∀h',FlX B outer e cls a0 dct h'->s.heap.UpToSlots h'->Q () { s with heap:=h' }):wpAny M A (leaving env (.ref e)) Q E s:=by
 unfold leaving
 refine wpAny_bind (Jg hfr hf x λh' y up=>ZK (s:={ s with heap:=h' }) y λh2 z up2=>?_)
 obtain⟨z1,z2,⟨_,_,z3⟩,z4⟩:=z
 exact q h2 ⟨z1,z2,z3,z4⟩ (up.trans up2)
end
end L2
set_option Elab.async false
set_option linter.all false
set_option maxRecDepth 100000
namespace L2
open PySem PySem.Spec PyProof.Rows
structure Fly (P:Program) (w:World) (l:List Env) (H:Hp) (s:Shared) (C:Addr) (H':Hp) (a:Addr) (s':Shared) (B:Heap) (a0:Value) (dct:Option Addr):Prop where
 os:s'.os=s.os
 bare:AllBare s'.gens
 un:Un (frs l) [] H H' s.heap s'.heap
 hok:HOk P w H' s'.heap
 fly:FlX B l a (.ref C) a0 dct s'.heap
 kb:∀b o,s.heap.get? b=some o->b∉frs l->(∃o',B.get? b=some o')/\(H b=none->B.get? b=some o)
 kt:∀b u,H' b=some u->∃o,B.get? b=some o
abbrev CX1 (P:Program) (w:World):CXT:=λouter H s E e s'=>∃a C H' B a0 dct,e = .ref a/\Fly P w outer H s C H' a s' B a0 dct/\E (.ref C) dct H'
section
variable {P:Program}{w:World}{H H':Hp}{h h' B:Heap}{a:Addr}{o:HO}
theorem xo.obj (x:xo P w H h a o):∃u,h.get? a=some u:=by
 cases o with
 | lst xs=>obtain⟨_,_,_,_,e⟩:=x;exact⟨_,e⟩
 | tup xs=>obtain⟨_,_,_,ob,e,_⟩:=x;exact⟨_,e⟩
 | dK kvs=>obtain⟨_,_,_,_,o,_,_,e,_⟩:=x;exact⟨_,e⟩
 | dT kvs=>obtain⟨_,_,_,_,o,_,_,e,_⟩:=x;exact⟨_,e⟩
 | set S n=>obtain⟨o,_,_,_,e,_⟩:=x;exact⟨_,e⟩
 | ins C dx fs=>obtain⟨_,_,_,e,_⟩:=x;exact⟨_,e⟩
 | own y=>obtain⟨_,e⟩:=x;exact⟨_,e⟩
 | xd fs=>obtain⟨_,⟨_,_,_,e,_⟩,_⟩:=x;exact⟨_,e⟩
 | rng lo hi=>obtain⟨_,_,_,e⟩:=x;exact⟨_,e⟩
 | frz ob u=>obtain⟨e,_⟩:=x;exact⟨_,e⟩
 | tbl ps=>exact⟨_,(show h.get? a=some _ from x)⟩
 | met f y=>exact⟨_,(show h.get? a=some _ from x)⟩
 | ext φ=>obtain⟨_,⟨_,e⟩,_⟩:=x;exact⟨_,e⟩
theorem zaU (x:HOk P w H h) (k1:B.StaysIn h) (k2:B.StaysIn h') (kt:∀b u,H b=some u->∃o,B.get? b=some o):HOk P w H h':=λa o e =>
 (x a o e).stay (λb u hb q=>by
  have ht:∃v,H b=some v:=by
   rcases hb with rfl | hb
   ·exact⟨_,e⟩
   ·exact⟨_,hb⟩
  obtain⟨v,hv⟩:=ht
  obtain⟨ob,hob⟩:=kt b v hv
  rw[k1 b ob hob]at q;cases q;exact k2 b _ hob) (λ_ q=>q) λ_ _ q=>q
end
section
variable {P:Program}{w:World}{l:List Env}{H H':Hp}{s s':Shared}{C a:Addr}{B h':Heap}{a0:Value}{dct:Option Addr}
theorem Fly.move (F:Fly P w l H s C H' a s' B a0 dct) (fl:FlX B l a (.ref C) a0 dct h') (up:s'.heap.UpToSlots h'):Fly P w l H s C H' a { s' with heap:=h' } B a0 dct where
 os:=F.os
 bare:=F.bare
 un:={
  keep:=λb o q n hb _=>fl.1 b o ((F.kb b o q hb).2 n)
  slot:=λb o q n hb hx=>by
   obtain⟨sl,e⟩:=F.un.slot b o q n hb hx
   obtain⟨_,o',ho',hd⟩:=F.fly.2.2.1.mem hb
   have z:some o'=some { o with slots:=sl }:=ho'.symm.trans e
   cases z
   obtain⟨sl',e'⟩:=up b _ e hd
   exact⟨sl',e'⟩
  free:=F.un.free
  there:=λb o q _=>by
   by_cases hb:b∈frs l
   ·obtain⟨_,o',ho',_⟩:=fl.2.2.1.mem hb
    exact⟨o',ho'⟩
   ·obtain⟨o',ho'⟩:=(F.kb b o q hb).1
    exact⟨o',fl.1 b o' ho'⟩
  tups:=F.un.tups
  frzs:=F.un.frzs
  tbls:=F.un.tbls }
 hok:=zaU F.hok F.fly.1 fl.1 F.kt
 fly:=fl
 kb:=F.kb
 kt:=F.kt
theorem Fly.untracked (F:Fly P w l H s C H' a s' B a0 dct):H' a=none:=by
 cases q:H' a with
 | none=>rfl
 | some u =>
  obtain⟨o,e⟩:=F.kt a u q
  rw[F.fly.2.1]at e;cases e
end
section
variable {X:Cx}{pins:List (Addr×Obj)}{σ:St}{H H':Hp}{s:Shared}
theorem Inv.notfr (I:Inv X pins σ H s){b:Addr}{o:Obj}(e:X.s₀.heap.get? b=some o) (hb:b∉X.fs):b∉frs X.stack:=λz=>by
 rcases List.mem_cons.mp (I.stkSub b z)with r | r
 ·exact absurd (Nat.lt_of_lt_of_le (Heap.lt_size e) I.ok.above) (by rw[r];exact Nat.lt_irrefl _)
 ·exact hb r
theorem zaQ {g:Array GenState}{d:Drawn}{t:Nat}{C a:Addr}{B h1 h':Heap}{a0:Value}{dct:Option Addr}(I:Inv X pins σ H s) (hex:X.ex=[]) (hfr:∀b∈X.fs,b∈frs X.stack) (u:Un (frs X.stack) [] H H' s.heap h1)
  (kb:∀b o,s.heap.get? b=some o->b∉frs X.stack->(∃o',B.get? b=some o')/\(H b=none->B.get? b=some o)) (kt:∀b u,H' b=some u->∃o,B.get? b=some o)
  (hok:HOk X.prog X.w H' h1) (k1:B.StaysIn h1) (hfun:h1.FunFrames B X.stack) (up:h1.UpToSlots h') (fl:FlX B X.outer a (.ref C) a0 dct h') (hg:AllBare g) :
  Fly X.prog X.w X.outer X.H₀ X.s₀ C H' a { s with heap:=h',gens:=g,drawn:=d,toks:=t } B a0 dct where
 os:=I.os
 bare:=hg
 un:={
  keep:=λb o q n hb hx=>by
   have hx':b∉X.ex:=by rw[hex];exact hx
   exact fl.1 b o ((kb b o (I.base.keep b o q n hb hx') (I.notfr q hb)).2 (I.base.free b o q n hx'))
  slot:=λb o q n hb hx=>by
   have hx':b∉X.ex:=by rw[hex];exact hx
   obtain⟨sl,e⟩:=I.base.slot b o q n hb hx'
   obtain⟨sl1,e1⟩:=u.slot b _ e (I.base.free b o q n hx') (hfr b hb) hx
   obtain⟨_,o',ho',hd⟩:=hfun.mem (hfr b hb)
   have z:=ho'.symm.trans e1
   cases z
   obtain⟨sl2,e2⟩:=up b _ e1 hd
   exact⟨sl2,e2⟩
  free:=λb o q n hx=>by
   have hx':b∉X.ex:=by rw[hex];exact hx
   obtain⟨o',e⟩:=I.base.there b o q hx'
   exact u.free b o' e (I.base.free b o q n hx') hx
  there:=λb o q hx=>by
   have hx':b∉X.ex:=by rw[hex];exact hx
   by_cases hb:b∈X.fs
   ·obtain⟨_,o',ho',_⟩:=fl.2.2.1.mem hb
    exact⟨o',ho'⟩
   ·obtain⟨o',e⟩:=I.base.there b o q hx'
    obtain⟨o2,e2⟩:=(kb b o' e (I.notfr q hb)).1
    exact⟨o2,fl.1 b o2 e2⟩
  tups:=λb xs q=>u.tups b xs (I.base.tups b xs q)
  frzs:=λb o xs q=>u.frzs b o xs (I.base.frzs b o xs q)
  tbls:=λb ps q=>by
   obtain⟨m1,e1⟩:=I.base.tbls b ps q
   obtain⟨m2,e2⟩:=u.tbls b _ e1
   exact⟨m1++m2,by rw[e2,Array.append_assoc]⟩ }
 hok:=zaU hok k1 fl.1 kt
 fly:=fl
 kb:=λb o q hb=>by
  have hx':b∉X.ex:=by rw[hex];exact List.not_mem_nil
  obtain⟨o',e⟩:=I.base.there b o q hx'
  have z:=kb b o' e (I.notfr q hb)
  exact⟨z.1,λn=>(kb b o (I.base.keep b o q n hb hx') (I.notfr q hb)).2 (I.base.free b o q n hx')⟩
 kt:=kt
end
abbrev XJ:=Addr->Option Addr->St->Hp->Prop
def VV (X:Cx) (J:XJ):Prop:=∀(pins:List (Addr×Obj)) (σ:St) (H:Hp) (s:Shared) (a C:Addr) (H':Hp) (s':Shared) (B:Heap) (a0:Value) (dct:Option Addr),
 Inv X pins σ H s->Fly X.prog X.w X.stack H s C H' a s' B a0 dct->J C dct σ H'->X.xe (.ref a) s'
def EJ (E:XK):XJ:=λC d _ H'=>E (.ref C) d H'
section
variable {P:Program}{w:World}{K:PySem.W.Frag}{mg:Str->Option Value}{base:Heap}{N:List Str}{qual:Str}{scope:Scope}{f:Addr}{cd:Value}{A:Around}{outer:List Env}{s:Shared}{H:Hp}{E:XK}
theorem j4:VV (ja (CX1 P w) P w K mg base N qual scope f cd A outer s H E) (EJ E):=by
 intro pins σ H1 s1 a C H' s' B a0 dct I F q
 obtain⟨hh,g,d,t,os'⟩:=s'
 have e:os'=s1.os:=F.os
 subst e
 refine za5 (L:=s.heap.objs.size) I.ok.frames rfl F.fly λh' fl up=>?_
 refine⟨a,C,H',B,a0,dct,rfl,?_,q⟩
 have z:=zaQ (g:=g) (d:=d) (t:=t) I rfl (λb hb=>List.mem_cons_of_mem _ hb) F.un F.kb F.kt F.hok F.fly.1 F.fly.2.2.1 up fl F.bare
 exact z
end
def zey (sp:Sp) (dvs:List V) (J:XJ) (t:TA):TE:=λσ H Q=>t σ H λvs H1=>sp (vs++dvs) H1 Q λc d H'=>∃C,c = .ref C/\J C d σ H'
structure jZ (P:Program) (w:World) (K:PySem.W.Frag) (mg:Str->Option Value) (base:Heap) (x:Str) (k:Nat) (ps:List Str) (dvs:List V) (sp:Sp):Prop where
 ex:∃f fd ds,vL P w K mg base (CX1 P w) k f fd ps sp/\mg x=some (.ref f)/\PySem.W.keepIn K (.ref f)=true/\vh K fd ps ds/\zU dvs ds
section
variable {X:Cx}{k:Nat}{f:Addr}{fd:FuncData}{ps:List Str}{sp:Sp}{dvs:List V}{ds:List Value}{J:XJ}{x:Str}{p pos:Pos}{e:Expr}{es:List Expr}{t:TA}
theorem zcC {pins:List (Addr×Obj)}{σ:St}{H:Hp}{s:Shared}{Q:VK}{us:List Value}{vs:List V}(F:vL X.prog X.w X.K X.mg X.base (CX1 X.prog X.w) k f fd ps sp) (hr:xi k X.A) (hb:vh X.K fd ps ds) (hd:zU dvs ds) (hx:VV X J)
  (I:Inv X pins σ H s) (r:zU vs us) (h:sp (vs++dvs) H Q λc d H'=>∃C,c = .ref C/\J C d σ H'):wpAny (model X.prog X.w) X.A (call (.ref f) us) (EP X pins σ Q) X.xe s:=by
 have r2:zU (vs++dvs) (us++ds):=r.append hd
 have hl:(us++ds).length=ps.length:=by rw[<-r2.length];exact F.len _ _ _ _ h
 refine wpAny_call (codeAny_mono (F.run X.A X.stack s H ⟨us,[]⟩ (us++ds) (vs++dvs) Q _ hr I.env0 (hb s us I.kIn hl) r2 h) λr s' hq=>?_)
 cases r with
 | error e =>
  obtain⟨a,C,H',B,a0,dct,rfl,F,C',hC,q⟩:=hq
  cases hC
  exact hx pins σ H s a C H' s' B a0 dct I F q
 | ok fl =>
  cases fl with
  | ret u=>exact I.after hq
  | next=>exact False.elim hq
  | brk=>exact False.elim hq
  | cont=>exact False.elim hq
theorem Jp (c:jZ X.prog X.w X.K X.mg X.base x k ps dvs sp) (hr:xi k X.A) (hx:VV X J) (ha:PA X (e::es) t) (hg:Gl X x:=by rfl) (hdb:(x == ("__debug__":Str))=false:=by decide)
  (he:starEach (e::es) X.env=(false,eval e X.env)::starEach es X.env:=by rfl) (hpl:(backTo pos (starEach es X.env)).any (·.1)=false:=by rfl) :
  PE X (.Call (.Name x p) (e::es) [] pos) (zey sp dvs J t):=by
 obtain⟨f,fd,ds,F,hm,hk,hb,hd⟩:=c.ex
 intro pins s σ H Q I h
 refine wpAny_Call_Name_kw (jb I hg hm ?_ hdb)
 refine PySem.W.callWith_K (h₀:=X.base) I.ok.mod.kin hk (thn (ha pos pins s σ H _ I h) λus s1 ⟨vs,H1,I1,r,q⟩=>⟨I1.kIn,?_⟩) he hpl
 exact zcC F hr hb hd hx I1 r q
end
section
variable {P:Program}{w:World}{K:PySem.W.Frag}{mg:Str->Option Value}{base:Heap}
theorem Df.cal1 {x:Str}{st:Stmt}{N ps:List Str}{dvs:List V}{k:Nat}{sp:Sp}(D:Df K mg x st ps dvs) (S:zG N ps (zg st)) (len:∀vs H Q E,sp vs H Q E->vs.length=ps.length)
  (hbody:∀(f:Addr) (cdv:Value) (A:Around) (outer:List Env) (s:Shared) (H:Hp) (vs:List V) (Q:VK) (E:XK),xi k (A.deeper (envOfC x (zg st) s.heap.objs.size f cdv))->sp vs H Q E →
   ∃t,PSs (ja (CX1 P w) P w K mg base N x (zg st) f cdv A outer s H E) (zE st) t/\t { nx:=λ_ H'=>Q .non H',rt:=Q } (vk N vs) H):jZ P w K mg base x (k+1) ps dvs sp:=by
 obtain⟨f,oc,od,dV,kV,doc,pm,an,cdv,ct,osl,ds,lk,hcd,hk,hm,hv,hb⟩:=D.ex
 exact⟨⟨f,_,ds,Ja lk hcd S len λA outer s H vs Q E hr hsp=>hbody f cdv A outer s H vs Q E hr hsp,hm,hk,hb,hv⟩⟩
end
end L2
set_option Elab.async false
set_option linter.all false
set_option maxRecDepth 100000
namespace L2
open PySem PySem.Spec PyProof.Rows
section
variable {X:Cx}{pins:List (Addr×Obj)}{σ:St}{H:Hp}{s:Shared}
theorem ZI {M:Model}{A:Around}{E:Value->Shared->Prop}{i:Nat}{n:Str}{pos:Pos}{Q:Unit->Shared->Prop}(I:Inv X pins σ H s) (hN:X.N.Nodup) (hi:X.N[i]? = some n) (hk:X.env.kindOf n=some .local)
  (h:∀s',Inv X pins (σ.set i none) H s'->Q () s'):wpAny M A (do bindName X.env n .none;unbindBehindTheSuite X.env n pos) Q E s:=by
 obtain⟨m,hn,hl⟩:=id I.loc
 have hcls:(X.env.scope.kind == .class || (X.env.scope.kind == .module&&X.env.locals != X.env.globals))=false:=by rw[I.ok.kind];rfl
 have hiσ:i<σ.length:=by rw[I.len];exact(List.getElem?_eq_some_iff.mp hi).1
 have neL:∀b o,X.s₀.heap.get? b=some o->b≠X.env.locals:=λb o e=>Nat.ne_of_lt (Nat.lt_of_lt_of_le (Heap.lt_size e) I.ok.above)
 refine wpAny_nameGoes_keeps hk hn hcls λh' v hn' hs=>h _ ⟨I.ok,I.os,I.bare,⟨λb o e n hb hx=>(hs.2 b (neL b o e)).trans (I.base.keep b o e n hb hx),λb o e n hb hx=>?_,I.base.free,λb o e hx=>?_,I.base.tups,I.base.frzs,I.base.tbls⟩,
  ⟨_,hn',λj y v' e1 e2 e3=>?_⟩,λy c e=>?_,I.free,I.freeC,λp hp=>?_,λb ob e=>?_,by simpa using I.len⟩
 ·obtain⟨sl,e1⟩:=I.base.slot b o e n hb hx
  exact⟨sl,(hs.2 b (neL b o e)).trans e1⟩
 ·obtain⟨o',e1⟩:=I.base.there b o e hx
  exact⟨o',(hs.2 b (neL b o e)).trans e1⟩
 ·by_cases hj:j=i
  ·subst hj
   rw[List.getElem?_set_self hiσ]at e2
   cases e2
  ·rw[List.getElem?_set_ne (Ne.symm hj)]at e2
   obtain⟨u',r',q⟩:=hl j y v' e1 e2 e3
   refine⟨u',r',?_⟩
   rcases q with⟨k,e⟩ | ⟨k,c,e,z⟩
   ·refine .inl ⟨k,?_⟩
    have:y≠n:=λe=>hj (Xc hN e1 (e ▸ hi))
    simp[this,e]
   ·exact .inr ⟨k,c,e,z.sameBut hs (I.cne y c e)⟩
 ·obtain⟨w',z⟩:=I.cell y c e
  exact⟨w',z.sameBut hs (I.cne y c e)⟩
 ·obtain⟨e,n,ne,nf,d⟩:=I.pin p hp
  exact⟨(hs.2 p.1 ne).trans e,n,ne,nf,d⟩
 ·refine(I.hok b ob e).stay (λc w' hc q=>(hs.2 c λz=>?_).trans q) (λ_ q=>q) λ_ _ q=>q
  subst z
  rcases hc with rfl | hc
  ·rw[I.free]at e;cases e
  ·rw[I.free]at hc;cases hc
end
abbrev Cx.tried (X:Cx) (pins:List (Addr×Obj)) (W:Value->Shared->Prop):Cx:={ X with pn:=X.pn++pins,xe:=W }
abbrev Cx.suite (X:Cx) (pins:List (Addr×Obj)) (a:Addr) (oe:Obj):Cx:={ X with A:=X.A.mark (some (.ref a)),calm:=false,pn:=X.pn++(pins++[(a,oe)]),xe:=λ_ _=>False }
abbrev Cx.testing (X:Cx) (a:Addr):Cx:={ X with A:=X.A.mark (some (.ref a)),calm:=false }
section
variable {X:Cx}{pins:List (Addr×Obj)}{σ:St}{H:Hp}{s:Shared}
theorem Inv.tried (I:Inv X pins σ H s) (W:Value->Shared->Prop):Inv (X.tried pins W) [] σ H s :=
 ⟨⟨I.ok.mod,I.ok.kind,I.ok.glob,I.ok.blt,I.ok.above,I.ok.inj,I.ok.has,I.ok.cab,I.ok.hd,I.ok.frames,I.ok.stk,I.ok.exf,I.ok.bs,I.ok.bsz,I.ok.noex,I.ok.exfs,I.ok.funs,I.ok.frf⟩,
  I.os,I.bare,I.base,I.loc,I.cell,I.free,I.freeC,λp hp=>I.pin p (by rw[List.append_nil]at hp;exact hp),I.hok,I.len⟩
theorem Inv.untried {pins':List (Addr×Obj)}{W:Value->Shared->Prop}(ok:X.Ok) (I:Inv (X.tried pins W) pins' σ H s):Inv X pins σ H s :=
 ⟨ok,I.os,I.bare,I.base,I.loc,I.cell,I.free,I.freeC,λp hp=>I.pin p (List.mem_append_left _ hp),I.hok,I.len⟩
theorem Inv.test (I:Inv X pins σ H s) (a:Addr):Inv (X.testing a) pins σ H s :=
 ⟨⟨I.ok.mod,I.ok.kind,I.ok.glob,I.ok.blt,I.ok.above,I.ok.inj,I.ok.has,I.ok.cab,(λh=>nomatch h),I.ok.frames,I.ok.stk,I.ok.exf,I.ok.bs,I.ok.bsz,I.ok.noex,I.ok.exfs,I.ok.funs,I.ok.frf⟩,
  I.os,I.bare,I.base,I.loc,I.cell,I.free,I.freeC,I.pin,I.hok,I.len⟩
theorem Inv.suite {a:Addr}{oe:Obj}{vs:Array Value}(I:Inv X pins σ H s) (e:s.heap.get? a=some oe) (hd:oe.data = .fields vs) (hn:H a=none):Inv (X.suite pins a oe) [] σ H s :=
 ⟨⟨I.ok.mod,I.ok.kind,I.ok.glob,I.ok.blt,I.ok.above,I.ok.inj,I.ok.has,I.ok.cab,(λh=>nomatch h),I.ok.frames,I.ok.stk,I.ok.exf,I.ok.bs,I.ok.bsz,I.ok.noex,I.ok.exfs,I.ok.funs,I.ok.frf⟩,
  I.os,I.bare,I.base,I.loc,I.cell,I.free,I.freeC,(λp hp=>by
   rw[List.append_nil]at hp
   have hp':p∈X.pn++pins\/p∈[(a,oe)]:=by
    rcases List.mem_append.mp hp with z | z
    ·exact .inl (List.mem_append_left _ z)
    ·rcases List.mem_append.mp z with z | z
     ·exact .inl (List.mem_append_right _ z)
     ·exact .inr z
   rcases hp' with z | z
   ·exact I.pin p z
   ·obtain rfl:p=(a,oe):=by simpa using z
    refine⟨e,hn,λq=>?_,λq=>?_,λv q=>?_⟩
    ·obtain⟨m,⟨o,es,ep,ho,hd',_⟩,_⟩:=I.loc
     rw[<-show a=X.env.locals from q,e]at ho
     cases ho
     rw[hd]at hd';cases hd'
    ·obtain⟨_,o,ho,hnf⟩:=I.funs.mem q
     rw[show s.heap.get? a=some oe from e]at ho
     cases ho
     exact hnf vs hd
    ·have q':oe.data = .cell v:=q
     rw[hd]at q';cases q'),I.hok,I.len⟩
theorem Inv.unsuite {a:Addr}{oe:Obj}(ok:X.Ok) (I:Inv (X.suite pins a oe) [] σ H s):Inv X pins σ H s :=
 ⟨ok,I.os,I.bare,I.base,I.loc,I.cell,I.free,I.freeC,λp hp=>I.pin p (by
  rw[List.append_nil]
  rcases List.mem_append.mp hp with z | z
  ·exact List.mem_append_left _ z
  ·exact List.mem_append_right _ (List.mem_append_left _ z)),I.hok,I.len⟩
end
def qQ.gone (i:Nat) (D:qQ):qQ:={ nx:=λσ H=>D.nx (σ.set i none) H,rt:=D.rt,bk:=λσ H=>D.bk (σ.set i none) H,ct:=λσ H=>D.ct (σ.set i none) H }
def tTry (i:Nat) (C:Addr) (tb:XJ->TS) (ts:Addr->Option Addr->TS):TS:=λD σ H =>
 tb (λC' d σ' H'=>C'=C/\∀a,H' a=none->ts a d (D.gone i) (σ'.set i (some (.ref a))) H') D σ H
end L2
set_option Elab.async false
set_option linter.all false
set_option maxRecDepth 100000
namespace L2
open PySem PySem.Spec PyProof.Rows PySem.W
section
variable {prog:Program}{w:World}{A:Around}{E:Value->Shared->Prop}{s:Shared}{K:PySem.W.Frag}{x D:Addr}{ox:Obj}{od:Option Obj}
theorem ZW {M:Model}{nameV:Value}{Q:Unit->Shared->Prop}(X:K.In s.heap) (I:InstAt s.heap x ox D od) (hb:subIn K (.ref D) (.type "BaseException")=some true) (q:Q () s):wpAny M A (checkBuiltinCall "BaseException.__getattribute__" ⟨[.ref x,nameV],[]⟩) Q E s:=by
 have k1:builtinKind "BaseException.__getattribute__" = some .slot:=by decide +kernel
 have k2:splitId "BaseException.__getattribute__" = some ("BaseException","__getattribute__"):=by decide +kernel
 have k3:=F.args_bexc_ga (.ref x) nameV
 have L:Looks M s.heap (isInstance (.ref x) (.type "BaseException")) true:=(I.type (M:=M)).andThen (looks_subIn X hb)
 obtain⟨hh,g,d,t,os⟩:=s
 simp only[checkBuiltinCall,k1,k2]
 refine wpAny_bind (L.at ?_)
 repeat (any_goals (first | assumption | wp_step))
theorem zbX {Q:Option Value->Shared->Prop}(X:K.In s.heap) (I:InstAt s.heap x ox D od) (hga:findIn K (.ref D) "__getattribute__" = some (some (.builtin "BaseException.__getattribute__"))) (hno:findIn K (.ref D) "__getattr__" = some none)
  (hb:subIn K (.ref D) (.type "BaseException")=some true) (hf:findObj K D od "__class__" = some (.bind (.builtin "getset_descriptor.__get__") (.builtin "object.__class__"))) (hm:mroIn K D (.type "object")=some true)
  (h:Q (some (.ref D)) { s with toks:=s.toks+1 }):wpAny (model prog w) A (getAttr? (.ref x) "__class__") Q E s:=by
 have L0:=I.type (M:=model prog w)
 have L1:=looks_findIn (M:=model prog w) X hga
 have L2:=looks_findIn (M:=model prog w) X hno
 have L3:=looks_find (M:=model prog w) X I hf
 have GA:=F.attr_ValueError.ga
 obtain⟨hh,g,d,t,os⟩:=s
 unfold getAttr? getAttrBy? getAttrBy
 refine wpAny_bind (wpAny_mkText (wpAny_bind (wpAny_attempt (wpAny_holding (wpAny_bind (L0.at (wpAny_bind (L1.at ?_))))))))
 dsimp only
 rw[if_neg (show ¬((onTheHeap (.ref D)&&Value.builtin "BaseException.__getattribute__" == Value.builtin "object.__getattribute__")=true) by
  rw[show (Value.builtin "BaseException.__getattribute__" == Value.builtin "object.__getattribute__")=false by decide +kernel];simp)]
 unfold getAttrByItsOwn
 refine wpAny_bind (?_:wpAny _ _ (typeLookup (.ref D) "__getattr__") _ _ _)
 refine L2.at ?_
 refine wpAny_bind (wpAny_attempt (wpAny_holding (?_:wpAny _ _ (boundAndCalled (.builtin "BaseException.__getattribute__") (.ref x) _) _ _ _)))
 unfold boundAndCalled
 refine wpAny_bind (wpAny_of_eq (GA.bind _) ?_)
 refine wpAny_call (codeAny_call_builtin GA.plain F.entry_bexc_ga (ZW X I hb ?_))
 unfold Builtin.«object.__getattribute__»
 refine wpAny_bind (wpAny_pure (wpAny_bind (wpAny_pure (wpAny_bind (L0.at (wpAny_bind (L3.at ?_)))))))
 show wpAny _ _ (holding [Value.builtin "object.__class__"] (call (.builtin "getset_descriptor.__get__") [.builtin "object.__class__",.ref x,.ref D]) >>= ret) _ _ _
 refine wpAny_bind (wpAny_holding (wpAny_call (class_get (s:=⟨hh,g,d,t+1,os⟩) (ox:=ox) (od:=od) X I hm ?_)))
 refine wpAny_pure ?_
 exact wpAny_pure (wpAny_pure h)
theorem J3 {name:Str}{a g:Value}(hc:(clsIn K D).isSome=true) (ha:findIn K (.ref D) name=some (some a)) (hg:specialIn K a "__get__" = some (some g)) (ht:takesIn K a=some true):findObj K D od name=some (.bind g a):=by
 obtain⟨cd,e⟩:=Option.isSome_iff_exists.mp hc
 unfold findObj;rw[e,Option.bind_some,ha,Option.bind_some]
 simp[hg,ht]
structure QB (K:PySem.W.Frag) (D:Addr):Prop where
 ga:findIn K (.ref D) "__getattribute__" = some (some (.builtin "BaseException.__getattribute__"))
 no:findIn K (.ref D) "__getattr__" = some none
 bx:subIn K (.ref D) (.type "BaseException")=some true
 ob:mroIn K D (.type "object")=some true
 ds:hasDictIn K D=true
 ca:findIn K (.ref D) "__class__" = some (some (.builtin "object.__class__"))
 sp:specialIn K (.builtin "object.__class__") "__get__" = some (some (.builtin "getset_descriptor.__get__"))
 tk:takesIn K (.builtin "object.__class__")=some true
theorem QP (Z:QB K D):KitX K (.ref x) (.ref D) (λh=>∃ox od,InstAt h x ox D od) where
 ty:=λ_ _ _ ⟨_,_,I⟩=>I.type
 it:=λ_ _ X _=>by
  obtain⟨cdD,hcD,_⟩:=any_some Z.ds
  unfold clsIn at hcD
  split at hcD
  case h_1 c' d' cd' sl' ho =>
   intro A' Q' E' s' k q
   unfold isType loadHead
   exact wpAny_bind (wpAny_loadPart (k _ _ (X _ _ ho)) (wpAny_pure q))
  case h_2=>cases hcD
 ne:=λh tp dd its n sl X htp=>by
  obtain⟨cdD,hcD,_⟩:=any_some Z.ds
  refine Bool.eq_false_iff.mpr λq=>?_
  have e:D=tp:=Value.ref.inj (beq_iff_eq.mp q)
  subst e
  unfold clsIn at hcD
  split at hcD
  case h_1 c' d' cd' sl' ho=>exact nomatch (X _ _ ho).symm.trans htp
  case h_2=>cases hcD
 ca:=λX ⟨_,od,I⟩ k=>zbX X I Z.ga Z.no Z.bx (J3 (by obtain⟨cd,hc,_⟩:=any_some Z.ds;rw[hc];rfl) Z.ca Z.sp Z.tk) Z.ob k
end
end L2
set_option Elab.async false
set_option linter.all false
set_option maxRecDepth 100000
namespace L2
open PySem PySem.Spec PyProof.Rows
def qO (σ:St) (js:List Nat):St:=js.map λj=>(σ[j]?).getD none
inductive jD (X:Cx) (scope:Scope) (cl:List (Str×Addr)):List Str->List Nat->Prop
 | nil:jD X scope cl [] []
 | cons {x:Str}{j:Nat}{r:List Str}{js:List Nat}:X.N[j]? = some x->X.env.kindOf x=some .cell->(relabel scope X.env).names.lookup x=some .cell->(∃c,cl.lookup x=some c)->jD X scope cl r js->jD X scope cl (x::r) (j::js)
section
variable {X:Cx}{scope:Scope}{cl:List (Str×Addr)}
theorem jD.length:∀{r:List Str}{js:List Nat},jD X scope cl r js->r.length=js.length
 | _,_,.nil=>rfl
 | _,_,.cons _ _ _ _ t=>by rw[List.length_cons,List.length_cons,jD.length t]
theorem jD.get:∀{r:List Str}{js:List Nat}{k:Nat}{x:Str},jD X scope cl r js->r[k]? = some x->∃j,js[k]? = some j/\X.N[j]? = some x/\X.env.kindOf x=some .cell/\(relabel scope X.env).names.lookup x=some .cell/\∃c,cl.lookup x=some c
 | _,_,_,_,.nil,e=>by simp at e
 | _,_,0,_,.cons h1 h2 h3 h4 _,e=>by
  simp at e;subst e
  exact⟨_,rfl,h1,h2,h3,h4⟩
 | _,_,k+1,x,.cons _ _ _ _ t,e=>by
  obtain⟨j,r⟩:=jD.get (k:=k) t (by simpa using e)
  exact⟨j,by simpa using r⟩
theorem jD.has {r:List Str}{js:List Nat}(h:jD X scope cl r js){x:Str}(hx:x∈r):∃c,cl.lookup x=some c:=by
 obtain⟨k,hk⟩:=List.getElem?_of_mem hx
 obtain⟨_,_,_,_,_,z⟩:=h.get hk
 exact z
end
def xC (X:Cx) (NB FR:List Str) (scope:Scope) (cl:List (Str×Addr)) (s3:Shared) (H3:Hp) (fp:List Addr):Cx :=
 { X with N:=NB++FR,s₀:=s3,H₀:=H3,env:=compEnvC scope cl s3.heap.objs.size X.env,outer:=X.stack,stack:=X.stack,ex:=fp,fn:=λ_=>false,pn:=[],xe:=λ_ _=>False }
def VP (n:Nat) (js:List Nat) (wi:TI) (g:TG) (tt:TT) (te:TE):TE:=λσ H Q=>wi σ H λJ H1=>∀D,H1 D=none->∃W:Nat->Nat->Hp->List V->Prop,(∃m,W 0 m (upd H1 D (.lst [])) []) ∧
 ∀i m H2 ys,W i m H2 ys->H2 D=some (.lst ys)->(J.stop i H2/\Q (.ref D) H2) ∨
  (J.go i H2/\∀zs x H3,zs.length=n->J.yld i H2 x H3->g x (zs++qO σ js) H3 λσ4 H4=>σ4.drop n=qO σ js/\tt σ4 H4 λb H5 =>
   if b=true then te σ4 H5 (λv H6=>H6 D=some (.lst ys)/\ys.length<sizeLine/\∃m',m'<m/\W (i+1) m' (upd H6 D (.lst (ys++[v]))) (ys++[v]))
   else H5 D=some (.lst ys)/\∃m',m'<m/\W (i+1) m' H5 ys)
theorem QW {scope:Scope}{env:Env}{FR:List Str}{x:Str}(h:(relabel scope env).names.all (λy=>!(y.2 == .cell || y.2 == .free) || FR.contains y.1)=true)
  (e:(relabel scope env).names.lookup x=some .cell\/(relabel scope env).names.lookup x=some .free):x∈FR:=by
 have key:∀k:NameKind,(k == .cell || k == .free)=true->(x,k)∈(relabel scope env).names->x∈FR:=λk hk hm=>by
  have z:=List.all_eq_true.mp h _ hm
  simp only[hk,Bool.not_true,Bool.false_or,List.contains_iff_mem]at z
  exact z
 rcases e with e | e
 ·exact key .cell rfl (PySem.mem_of_lookup e)
 ·exact key .free rfl (PySem.mem_of_lookup e)
theorem XF {X:Cx}{elt tg iter:Expr}{ifs:List Expr}{scope:Scope}{cl:List (Str×Addr)}{pos:Pos}{NB FR:List Str}{js:List Nat}{wi:TI}{g:TG}{tt:TT}{te:TE}{Q:VK}{RR:Value->Addr->Result->Shared->Prop}
  {pins:List (Addr×Obj)}{s:Shared}{σ:St}{H:Hp}(hc:X.calm=true) (hcl:∀x c,cl.lookup x=some c->X.env.cells.lookup x=some c) (hcap:jD X scope cl FR js)
  (hnm:(relabel scope X.env).names.all (λy=>!(y.2 == .cell || y.2 == .free) || FR.contains y.1)=true) (hcell:∀x∈scope.names,x.2≠.cell) (hkind:scope.kind = .function)
  (hi:PI X tg iter wi) (hb:∀s3 H3 fp,PG (xC X NB FR scope cl s3 H3 fp) tg g/\PTs (xC X NB FR scope cl s3 H3 fp) ifs tt/\PE (xC X NB FR scope cl s3 H3 fp) elt te)
  (I:Inv X pins σ H s) (h:VP NB.length js wi g tt te σ H Q)
  (hRR:∀D C H' s',Inv X pins σ H' s'->ZQ X pins H' C->(∃m,s'.heap.Ns C m)->Q (.ref D) H'->RR (.ref D) C (.ok .next) s') :
  wpAny (model X.prog X.w) X.A (eval iter X.env) (λv s1=>wpAny (model X.prog X.w) X.A (pyIter v) (λit s2=>wpAny (model X.prog X.w) X.A (newList []) (λacc s3 =>
   wpAny (model X.prog X.w) X.A (newFunctionEnv scope X.env.globals cl [] X.env.qual none .none (some X.env)) (λcenv s4 =>
    codeAny (model X.prog X.w) X.A (.compStart (.ListComp elt [⟨tg,iter,ifs,0⟩] scope pos) 0 it acc { cenv with scope:=relabel scope X.env }) (RR acc cenv.locals) s4) X.xe s3) X.xe s2) X.xe s1) X.xe s:=by
 refine thn (hi pins s σ H _ I h) λv s1 h1=>thn h1 λitv s2 h2=>?_
 obtain⟨it,fp,tn,J,H2,e,I2,T,st2,f2,q2⟩:=h2
 subst e
 have hf2:H2 s2.heap.objs.size=none:=I2.hok.fresh (Nat.le_refl _)
 obtain⟨W,⟨m0,w0⟩,turn⟩:=q2 _ hf2
 refine wpAny_newObj_type (hd:=by size_fits) ?_
 have I3:Inv X pins σ (upd H2 s2.heap.objs.size (.lst [])) { s2 with heap:=s2.heap.push { cls:=.type "list",dict:=none,data:=.seq ([]:List Value).toArray } } :=
  I2.laid (t':=s2.toks) (λb u e=>Heap.get?_push_of_some _ e) (Nat.le_refl _) ⟨by decide,[],0,.nil,Heap.get?_push_size _ rfl⟩
 generalize hD:s2.heap.objs.size=D at *
 generalize hs3:({ s2 with heap:=s2.heap.push { cls:=.type "list",dict:=none,data:=.seq ([]:List Value).toArray } }:Shared)=s3 at *
 generalize hH3:upd H2 D (.lst [])=H3 at *
 have h3D:H3 D=some (.lst []):=by rw[<-hH3];exact zf
 have fpD:∀b∈fp,b≠D:=λb hb=>by
  obtain⟨o,e,_⟩:=T.obj _ _ st2 b hb
  rw[<-hD];exact Nat.ne_of_lt (Heap.lt_size e)
 have k23:∀b u,s2.heap.get? b=some u->s3.heap.get? b=some u:=λb u e=>by rw[<-hs3];exact Heap.get?_push_of_some _ e
 have st3:tn 0 s3.heap:=T.keep _ _ _ st2 λb _ o e=>k23 b o e
 have f3:∀b∈fp,ZQ X pins H3 b:=λb hb=>⟨by rw[<-hH3,zB (fpD b hb)];exact(f2 b hb).1,(f2 b hb).2⟩
 refine wpAny_newFunctionEnv hcell (by intro y hy;simp at hy) (λh4 hns4 hsb4=>?_) hkind
 have k34:∀b u,s3.heap.get? b=some u->h4.get? b=some u:=λb u e=>hsb4.extBut b u (Nat.ne_of_lt (Heap.lt_size e)) (Heap.get?_push_of_some _ e)
 have okB:(xC X NB FR scope cl s3 H3 fp).Ok:=by
  refine⟨I3.ok.mod,hkind,I3.ok.glob,I3.ok.blt,Nat.le_refl _,λx y c e1 e2=>I3.ok.inj x y c (hcl _ _ e1) (hcl _ _ e2),λx e=>hcap.has (QW hnm e),(λx c e=>nomatch e),I3.ok.hd,I3.ok.frames,.inl rfl,λb hb=>⟨?_,λx c e=>?_⟩,I3.bs,Nat.le_trans I3.ok.bsz I3.sz,λb o e hb=>?_,λb hb z=>?_,I3.stack,I3.stkFree⟩
  ·obtain⟨o,e,_⟩:=T.obj _ _ st3 b hb
   exact Nat.ne_of_lt (Heap.lt_size e)
  ·exact(f3 b hb).2.2.2.2.1 x c (hcl _ _ e)
  ·obtain⟨_,_,_,z,_⟩:=f3 b hb
   rcases z with z | z
   ·exact I3.ok.noex b o e z
   ·exact absurd (Nat.lt_of_lt_of_le (Heap.lt_size e) (Nat.le_trans I3.ok.bsz z)) (Nat.lt_irrefl _)
  ·obtain⟨_,z1,z2,_⟩:=f3 b hb
   rcases List.mem_cons.mp (I3.stkSub b z)with e | e
   ·exact z1 e
   ·exact z2 e
 have IB:Inv (xC X NB FR scope cl s3 H3 fp) [] (List.replicate NB.length none++qO σ js) H3 { s3 with heap:=h4,toks:=s3.toks+([]:List (Str×Value)).length }:=by
  refine⟨okB,rfl,I3.bare,Un.kept k34,⟨_,hns4,λi x v e1 e2 e3=>?_⟩,λx c e=>?_,I3.hok.fresh (Nat.le_refl _),λx c e=>I3.freeC x c (hcl _ _ e),λp hp=>?_,I3.hok.kept k34,?_⟩
  ·by_cases hi:i<NB.length
   ·rw[List.getElem?_append_left (by simpa using hi),List.getElem?_replicate,if_pos hi]at e2
    cases e2
   ·have e1':FR[i - NB.length]? = some x:=by
     have z:(NB++FR)[i]? = some x:=e1
     rw[List.getElem?_append_right (by omega)]at z;exact z
    rw[List.getElem?_append_right (by simp;omega),List.length_replicate]at e2
    obtain⟨j,hj,hN,hk,hb',c,hc'⟩:=hcap.get e1'
    have e2':σ[j]? = some (some v):=by
     unfold qO at e2
     rw[List.getElem?_map,hj]at e2
     simp only[Option.map_some,Option.some.injEq]at e2
     cases hσ:σ[j]? with
     | none=>rw[hσ]at e2;cases e2
     | some o=>rw[hσ]at e2;simp only[Option.getD_some]at e2;rw[e2]
    obtain⟨m,hn,hl⟩:=I3.loc
    obtain⟨u,ru,lu⟩:=hl j x v hN e2' (.inr (.inl hk))
    refine⟨u,ru,.inr ⟨.inl hb',c,hc',?_⟩⟩
    rcases lu with⟨z,_⟩ | ⟨_,c',z,q⟩
    ·rw[hk]at z;cases z
    ·rw[hcl _ _ hc']at z;cases z
     obtain⟨o,ho,hd⟩:=q
     exact⟨o,k34 _ _ ho,hd⟩
  ·obtain⟨v,o,ho,hd⟩:=I3.cell x c (hcl _ _ e)
   exact⟨v,o,k34 _ _ ho,hd⟩
  ·exact absurd (show p∈([]:List (Addr×Obj))from hp) (by simp)
  ·show _=(NB++FR).length
   rw[List.length_append,List.length_append,List.length_replicate,hcap.length]
   unfold qO;rw[List.length_map]
 have st4:tn 0 h4:=T.keep _ _ _ st3 λb _ o e=>k34 b o e
 have stat:∀{H':Hp},(∀b∈fp,H' b=none)->∀b∈fp,ZQ (xC X NB FR scope cl s3 H3 fp) [] H' b:=λhn b hb =>
  ⟨hn b hb,(okB.exf b hb).1,okB.exfs b hb,.inl hb,λx c e=>(f3 b hb).2.2.2.2.1 x c (hcl _ _ e),λp hp=>absurd (show p∈([]:List (Addr×Obj))from hp) (by simp)⟩
 obtain⟨hg,ht,he⟩:=hb s3 H3 fp
 have fin:∀{σ':St}{H':Hp}{s':Shared},Inv (xC X NB FR scope cl s3 H3 fp) [] σ' H' s'->Q (.ref D) H'->RR (.ref D) s3.heap.objs.size (.ok .next) s':=λ{σ' H' s'} J q=>by
  have hm:∃m,s'.heap.Ns s3.heap.objs.size m:=by
   obtain⟨m,hm,_⟩:=J.loc
   exact⟨m,hm⟩
  refine hRR D _ H' s' (I3.call' (ch:=fp) J.os J.base J.hok J.bare λb hb=>?_) (I3.fpOk (Nat.le_refl _) J.free) hm q
  obtain⟨_,z1,z2,z3,z4,z5⟩:=f3 b hb
  exact⟨z3,z1,z4,z5⟩
 have loop:∀s5:Shared,s5 = { s3 with heap:=h4,toks:=s3.toks+([]:List (Str×Value)).length } →
   codeAny (model X.prog X.w) X.A (.compLoop (.ListComp elt [⟨tg,iter,ifs,0⟩] scope pos) 0 (.ref it) (.ref D) (compEnvC scope cl s3.heap.objs.size X.env)) (RR (.ref D) s3.heap.objs.size) s5:=by
  rintro s5 rfl
  refine jH (λn s'=>∃i zs H' ys,zs.length=NB.length/\Inv (xC X NB FR scope cl s3 H3 fp) [] (zs++qO σ js) H' s'/\tn i s'.heap/\(∀b∈fp,H' b=none)/\H' D=some (.lst ys)/\W i n H' ys) ?_ m0
   ⟨0,_,H3,[],List.length_replicate,IB,st4,λb hb=>(f3 b hb).1,h3D,by rw[<-hH3]at *;exact w0⟩
  rintro n s6 ⟨i,zs,H6,ys,hzs,I6,st6,fr6,hD6,w6⟩
  rcases turn i n H6 ys w6 hD6 with⟨stop,qn⟩ | ⟨go,step⟩
  ·refine thn (T.done (xC X NB FR scope cl s3 H3 fp) rfl rfl rfl hc i [] s6 _ H6 _ I6 (stat fr6) st6 stop) λr s7 ⟨hr,I7⟩=>?_
   subst hr
   exact fin I7 qn
  ·refine thn (T.item (xC X NB FR scope cl s3 H3 fp) rfl rfl rfl hc i [] s6 _ H6 _ I6 (stat fr6) st6 go) λr s7 ⟨u,hr,h7⟩=>?_
   subst hr
   refine thn h7 λ_ s8 ⟨x,H8,I8,r8,y8,st8,fr8⟩=>?_
   have I8':=I8.pinned (stat fr8) (T.obj _ _ st8)
   have again:∀{σ9:St}{H9:Hp}{s9:Shared}{ws:List V}{m':Nat},σ9.drop NB.length=qO σ js->Inv (xC X NB FR scope cl s3 H3 fp) ([]++Zd fp s8.heap) σ9 H9 s9->H9 D=some (.lst ws)->m'<n->W (i+1) m' H9 ws →
     ∃m,m<n/\∃i zs H' ys,zs.length=NB.length/\Inv (xC X NB FR scope cl s3 H3 fp) [] (zs++qO σ js) H' s9/\tn i s9.heap/\(∀b∈fp,H' b=none)/\H' D=some (.lst ys)/\W i m H' ys:=λ{σ9 H9 s9 ws m'} hdr I9 hz hm w9=>by
    have hl:σ9.length=(NB++FR).length:=I9.len
    rw[List.length_append]at hl
    refine⟨m',hm,i+1,σ9.take NB.length,H9,ws,by rw[List.length_take];omega,?_,T.keep _ _ _ st8 λb hb o e=>(I9.pin (b,o) (List.mem_append_right _ (List.mem_append_right _ (qU hb e)))).1,λb hb=>?_,hz,w9⟩
    ·rw[<-hdr,List.take_append_drop];exact I9.unpinned
    ·obtain⟨o,e,d⟩:=T.obj _ _ st8 b hb
     exact(I9.pin (b,o) (List.mem_append_right _ (List.mem_append_right _ (qU hb e)))).2.1
   refine thn (hg _ s8 _ H8 x u _ I8' r8 (step zs x H8 hzs y8)) λ_ s9 ⟨σ9,H9,I9,hdr,q9⟩=>?_
   refine thn (ht _ s9 σ9 H9 _ I9 q9) λok s10 ⟨H10,I10,q10⟩=>?_
   cases ok with
   | false =>
    rw[if_neg (by decide)]at q10 ⊢
    obtain⟨hz,m',hm,w'⟩:=q10
    exact again hdr I10 hz hm w'
   | true =>
    rw[if_pos rfl]at q10 ⊢
    refine thn (he _ s10 σ9 H10 _ I10 q10) λy s11 ⟨v,H11,I11,r11,hz,hlen,m',hm,w'⟩=>?_
    refine thn (qv _ s11 σ9 H11 (.ref D) [v] (.ref D) [y] (λ_ H12=>H12=upd H11 D (.lst (ys++[v]))) I11 rfl (.cons r11 .nil) ⟨D,ys,v,rfl,rfl,hz,hlen,rfl⟩) λ_ s12 ⟨_,H12,I12,_,e12⟩=>?_
    subst e12
    exact again hdr I12 zf hm w'
 exact codeAny_compStart_list (loop _ rfl) (T.self X.A 0 _ _ _ st4 (loop _ rfl))
section
variable {X:Cx}{elt tg iter:Expr}{ifs:List Expr}{scope:Scope}{cl:List (Str×Addr)}{pos spos py:Pos}{NB FR:List Str}{js:List Nat}{wi:TI}{g:TG}{tt:TT}{te:TE}
theorem jR (hc:X.calm=true) (hclos:closureFor scope X.env=pure cl) (hcl:∀x c,cl.lookup x=some c->X.env.cells.lookup x=some c) (hcap:jD X scope cl FR js)
  (hnm:(relabel scope X.env).names.all (λy=>!(y.2 == .cell || y.2 == .free) || FR.contains y.1)=true) (hcell:∀x∈scope.names,x.2≠.cell) (hkind:scope.kind = .function) (hnames:∀x∈scope.names,x.2 = .local → scope.names.lookup x.1=some .local)
  (hi:PI X tg iter wi) (hb:∀s3 H3 fp,PG (xC X NB FR scope cl s3 H3 fp) tg g/\PTs (xC X NB FR scope cl s3 H3 fp) ifs tt/\PE (xC X NB FR scope cl s3 H3 fp) elt te)
  (hs:∀x,foldedSetIterable iter X.env x=pure x:=by intro _;rfl) :
  PE X (.ListComp elt [⟨tg,iter,ifs,0⟩] scope pos) (VP NB.length js wi g tt te):=by
 intro pins s σ H Q I h
 rw[eval_ListComp]
 refine wpAny_comprehension_free (use:=none) rfl hs hclos hkind hnames (XF (RR:=λacc C=>compPost (model X.prog X.w) X.A X.xe none (EP X pins σ Q) acc C) hc hcl hcap hnm hcell hkind hi hb I h ?_)
 intro D C H' s' I' ⟨f0,f1,f2,f3,f4,f5⟩ ⟨m,hm⟩ q
 exact⟨m,hm,λh' sb=>⟨.ref D,H',I'.turned (t':=s'.toks) (λb o hb e=>(sb.2 b hb).trans e) f0 f1 f3 f4 f5,rfl,q⟩⟩
theorem vR {i:Nat}{y:Str}(hc:X.calm=true) (hclos:closureFor scope X.env=pure cl) (hcl:∀x c,cl.lookup x=some c->X.env.cells.lookup x=some c) (hcap:jD X scope cl FR js)
  (hnm:(relabel scope X.env).names.all (λy=>!(y.2 == .cell || y.2 == .free) || FR.contains y.1)=true) (hcell:∀x∈scope.names,x.2≠.cell) (hkind:scope.kind = .function) (hnames:∀x∈scope.names,x.2 = .local → scope.names.lookup x.1=some .local)
  (hN:X.N.Nodup) (hiN:X.N[i]? = some y) (hy:X.env.kindOf y=some .local) (hsw:swapsWith (.ListComp elt [⟨tg,iter,ifs,0⟩] scope pos) (some (.Name y py)) spos.line X.env=pure true)
  (hi:PI X tg iter wi) (hb:∀s3 H3 fp,PG (xC X NB FR scope cl s3 H3 fp) tg g/\PTs (xC X NB FR scope cl s3 H3 fp) ifs tt/\PE (xC X NB FR scope cl s3 H3 fp) elt te)
  (hs:∀x,foldedSetIterable iter X.env x=pure x:=by intro _;rfl) :
  PS X (.Assign [.Name y py] (.ListComp elt [⟨tg,iter,ifs,0⟩] scope pos) spos) (zbH (VP NB.length js wi g tt te) (zN i)):=by
 intro pins s σ H D I h
 rw[exec_Assign_Name_used _ _ _ _ hsw]
 refine wpAny_bind (wpAny_standAt (wpAny_bind ?_))
 show wpAny _ _ (do let _ <-comprehension (.ListComp elt [⟨tg,iter,ifs,0⟩] scope pos) scope X.env _ (newList []) false (eval iter X.env) (some (assign (.Name y py) X.env))) _ _ s
 refine wpAny_bind (wpAny_mono (wpAny_comprehension_free (use:=some (assign (.Name y py) X.env)) (Q:=λ_ s'=>SP X pins D .next s') rfl hs hclos hkind hnames
  (XF (RR:=λacc C=>compPost (model X.prog X.w) X.A X.xe (some (assign (.Name y py) X.env)) (λ_ s'=>SP X pins D .next s') acc C) hc hcl hcap hnm hcell hkind hi hb I h ?_)) (λ_ s' hq=>wpAny_pure (wpAny_pure hq)) λ_ _ e=>e)
 intro DD C H' s' I' ⟨f0,f1,f2,f3,f4,f5⟩ ⟨m,hm⟩ q
 show wpAny _ _ (assign (.Name y py) X.env (.ref DD)) _ _ s'
 refine wpAny_assign_Name (XX (v:=.ref DD) I' hN hiN (.inl hy) rfl (λs'' I'' ⟨a,sa,ha⟩=>?_) (.inr hy))
 have hCa:C≠a:=by
  rcases ha with rfl | ha
  ·exact f1
  ·exact λz=>f4 y a ha z.symm
 exact⟨m,hm.sameBut sa hCa,λh' sb=>⟨_,H',I''.turned (t':=s''.toks) (λb o hb e=>(sb.2 b hb).trans e) f0 f1 f3 f4 f5,q⟩⟩
end
end L2
set_option Elab.async false
set_option linter.all false
set_option maxRecDepth 100000
namespace L2
open PySem PySem.Spec PyProof.Rows
section
variable {prog:Program}{w:World}{A:Around}{E:Value->Shared->Prop}{s:Shared}
theorem zcg {j t:Addr}{i:Nat}{vs:Array Value}{x:Value}{Q:Value->Shared->Prop}(kj:s.heap.IsTupleIter j t i) (kt:s.heap.IsTuple t vs) (kx:vs[i]? = some x)
  (q:∀h',h'.IsTupleIter j t (i+1)->Heap.SameBut j s.heap h'->Q x { s with heap:=h' }):wpAny (model prog w) A (Builtin.SmallTypes.nextOf (.ref j)) Q E s:=by
 obtain⟨oj,e1,e2,e3⟩:=id kj
 obtain⟨ot,f1,_,nt,f3⟩:=kt
 unfold Builtin.SmallTypes.nextOf
 refine wpAny_bind (wpAny_callSpecial?_slot (name:=Str.ofString "__next__") kj.typeIs F.slot_tuple_iterator_next (wpAny_call_entry F.slot_tuple_iterator_next kj.typeIs F.entry_tuple_iterator_next ?_ (F.args_tuple_iterator_next_1 _)))
 show wpAny _ _ (field (.ref j) 0 >>= _) _ _ s
 refine wpAny_bind (wpAny_field e1 e3 (x:=.ref t) rfl ?_)
 show wpAny _ _ (if(Value.ref t == .none)=true then _ else _) _ _ s
 rw[if_neg (show ¬((Value.ref t == .none)=true)from Bool.false_ne_true)]
 show wpAny _ _ (field (.ref j) 1 >>= _) _ _ s
 refine wpAny_bind (wpAny_field e1 e3 (x:=.int i 0) rfl (?_:wpAny _ _ (seqItems? (.ref t) >>= _) _ _ s))
 refine wpAny_bind (wpAny_seqItems f1 f3 ?_)
 simp only[Int.toNat_natCast,kx]
 refine wpAny_bind (wpAny_setField e1 e3 (by simp) (wpAny_pure ⟨x,rfl,wpAny_pure (q _ ⟨_,Heap.get?_update_self _ e1 (Obj.isFreed_of_fields (Obj.data_mapFields e3 _)),(Obj.cls_mapFields ..).trans e2,?_⟩ (Heap.SameBut.update ..))⟩))
 rw[Obj.data_mapFields e3];simp[rawInt]
theorem zd3 {j t:Addr}{i:Nat}{vs:Array Value}{Q:Value->Shared->Prop}(hh:A.handled=none) (kj:s.heap.IsTupleIter j t i) (kt:s.heap.IsTuple t vs) (kx:vs[i]? = none)
  (q:∀h' e,Heap.ExtBut j s.heap h'->(∃o,h'.get? e=some o/\o.cls = .type "StopIteration")->E (.ref e) { s with heap:=h' }):wpAny (model prog w) A (Builtin.SmallTypes.nextOf (.ref j)) Q E s:=by
 obtain⟨oj,e1,e2,e3⟩:=id kj
 obtain⟨ot,f1,_,nt,f3⟩:=kt
 unfold Builtin.SmallTypes.nextOf
 refine wpAny_bind (wpAny_callSpecial?_slot (name:=Str.ofString "__next__") kj.typeIs F.slot_tuple_iterator_next (wpAny_call_entry F.slot_tuple_iterator_next kj.typeIs F.entry_tuple_iterator_next ?_ (F.args_tuple_iterator_next_1 _)))
 show wpAny _ _ (field (.ref j) 0 >>= _) _ _ s
 refine wpAny_bind (wpAny_field e1 e3 (x:=.ref t) rfl ?_)
 show wpAny _ _ (if(Value.ref t == .none)=true then _ else _) _ _ s
 rw[if_neg (show ¬((Value.ref t == .none)=true)from Bool.false_ne_true)]
 show wpAny _ _ (field (.ref j) 1 >>= _) _ _ s
 refine wpAny_bind (wpAny_field e1 e3 (x:=.int i 0) rfl (?_:wpAny _ _ (seqItems? (.ref t) >>= _) _ _ s))
 refine wpAny_bind (wpAny_seqItems f1 f3 ?_)
 simp only[Int.toNat_natCast,kx]
 refine wpAny_bind (wpAny_rule (wpAny_bind (wpAny_setField e1 e3 (by simp) (?_:wpAny _ _ (newExc (.type "StopIteration") [] >>= _) _ _ _))))
 refine wpAny_bind ?_
 simp only[newExc,newTuple]
 refine wpAny_bind (wpAny_newObj_type (wpAny_bind (m:=firstArgMember _ _) (wpAny_of_eq (a:=Value.none) (by first | rfl | (simp only[firstArgMember];rfl)) (wpAny_newObj_type ?_ (by size_fits)))) (by size_fits))
 simp only[raiseNew]
 refine wpAny_bind (wpAny_handled (?_))
 first | rw[show A.in1.handled=none from hh] | rw[hh]
 exact wpAny_bind (wpAny_pure (wpAny_throw (q _ _ (((Heap.SameBut.update ..).extBut.push _).push _) ⟨_,Heap.get?_push_size _ rfl,rfl⟩)))
structure ZNe (z TI TO j1 j2:Addr):Prop where
 a:TI≠z
 b:TO≠z
 c:j1≠z
 d:j2≠z
 e:TI≠TO
 f:TI≠j1
 g:TI≠j2
 k:TO≠j1
 l:TO≠j2
 m:j1≠j2
section
variable {z TI TO j1 j2 t1 t2:Addr}{i:Nat}{xs ys:Array Value}
theorem zbK {h:Heap}{f0:Value}{vs:Array Value}{t:Addr}(ht:h.IsTuple t vs) (hz:IsZip h z TI TO f0):t≠z:=λe=>by
 obtain⟨o,e1,e2,_⟩:=ht
 rw[e,hz]at e1;cases e1;simp at e2
end
end
end L2
set_option Elab.async false
set_option linter.all false
set_option maxRecDepth 100000
namespace L2
open PySem PySem.Spec PyProof.Rows
section
variable {X:Cx}
theorem nne {a b:Nat}(h:a<b):a≠b:=Nat.ne_of_lt h
theorem V0:∀{bs:List Bool}{us:List Value}{i:Nat}{v:Value},zU (bs.map V.bl) us->us[i]? = some v->∃b,bs[i]? = some b/\v = .bool b
 | [],_,_,_,r,e=>by cases r;simp at e
 | b::bs,_,i,v,r,e=>by
  cases r with
  | cons h t =>
   cases i with
   | zero=>simp at e;subst e;exact⟨b,rfl,h⟩
   | succ i=>obtain⟨c,e1,e2⟩:=V0 (i:=i) t (by simpa using e);exact⟨c,by simpa using e1,e2⟩
theorem Xw:∀(bs:List Bool) (k:Nat),((List.range' k bs.length).all λi=>(bs[i - k]?).getD true)=bs.all id
 | [],k=>rfl
 | b::bs,k=>by
  rw[List.length_cons,List.range'_succ,List.all_cons,List.all_cons]
  simp only[Nat.sub_self,List.getElem?_cons_zero,Option.getD_some,id]
  congr 1
  rw[<-Xw bs (k+1)]
  apply Bool.eq_iff_iff.mpr
  simp only[List.all_eq_true,List.mem_range'_1]
  constructor
  ·intro h i hi
   have:=h i hi
   rw[show i - k=(i - (k+1))+1 by omega,List.getElem?_cons_succ]at this;exact this
  ·intro h i hi
   rw[show i - k=(i - (k+1))+1 by omega,List.getElem?_cons_succ];exact h i hi
theorem zaF (hc:X.calm=true):vN X (.builtin "all") (λxs H Q=>∃(p:Addr) (bs:List Bool),xs=[.ref p]/\SqL X.K H p (bs.map V.bl)/\Q (.bl (bs.all id)) H):=by
 intro pins s σ H xs us Q I r h
 obtain⟨p,bs,rfl,hq,q⟩:=h
 obtain⟨u,rfl,ru⟩:=jY r
 cases ru
 obtain⟨its,rv,pl,_⟩:=I.list hq
 have hlt:p<s.heap.objs.size:=by obtain⟨o,n,e,_⟩:=pl;exact Heap.lt_size e
 have hl:=rv.length
 rw[List.length_map]at hl
 refine call_all_walk (wpAny_pyIter_list pl.isList ⟨s.heap.objs.size,_,_,_,_,_,λi=>(bs[i]?).getD true,rfl,Walks.list (A:=X.A.in1) (show X.A.in1.handled=none from I.ok.hd hc) s.heap.objs.size p (Nat.ne_of_lt hlt) its.toArray,
  ⟨⟨_,Heap.get?_push_size _ rfl,rfl,rfl⟩,pl.isList.push _⟩,λi v s' Q' E' hv hQ'=>?_,λh' tk k=>⟨.bl (bs.all id),H,I.kept λb o e=>k b o (by simpa using Nat.ne_of_lt (Heap.lt_size e)) (Heap.get?_push_of_some _ e),?_,q⟩⟩)
 ·obtain⟨b,e1,rfl⟩:=V0 rv (by simpa using hv)
  simp only[e1,Option.getD_some]at hQ'
  exact wpAny_pure hQ'
 ·have:=Xw bs 0
  simp only[Nat.sub_zero]at this
  rw[show its.toArray.size=bs.length by simp[hl],List.range_eq_range',this];rfl
end
end L2
set_option Elab.async false
set_option linter.all false
set_option maxRecDepth 100000
namespace HT
open PySem PyProof.Rows
end HT
namespace L2
open PySem PySem.Spec PyProof.Rows
end L2
set_option Elab.async false
set_option linter.all false
set_option maxRecDepth 100000
namespace L2
open PySem PySem.Spec PyProof.Rows
section
variable {J:It}{D:Addr}{N n:Nat}{js:List Nat}{σ:St}{g:TG}{tt:TT}{te:TE}{Q:VK}{H:Hp}
theorem V2 (Pv:Nat->Hp->List V->Prop) (h0:Pv 0 (upd H D (.lst [])) []) (hgo:∀i H ys,i<N->Pv i H ys->J.go i H) (hst:∀H ys,Pv N H ys->J.stop N H)
  (hs:∀i x zs H2 H3 ys (Nx:Hp->List V->Prop),(∀H ys,Pv (i+1) H ys->Nx H ys)->i<N->zs.length=n->J.yld i H2 x H3->Pv i H2 ys->H2 D=some (.lst ys)->g x zs H3 λσ4 H4=>tt σ4 H4 λb H5 =>
   if b=true then te σ4 H5 (λv H6=>H6 D=some (.lst ys)/\ys.length<sizeLine/\Nx (upd H6 D (.lst (ys++[v]))) (ys++[v]))else H5 D=some (.lst ys)/\Nx H5 ys)
  (hd:∀H ys,Pv N H ys->H D=some (.lst ys)->Q (.ref D) H) :
  ∃W:Nat->Nat->Hp->List V->Prop,(∃m,W 0 m (upd H D (.lst [])) [])/\∀i m H2 ys,W i m H2 ys->H2 D=some (.lst ys)->(J.stop i H2/\Q (.ref D) H2) ∨
   (J.go i H2/\∀σB x H3,σB.length=n->J.yld i H2 x H3->g x σB H3 λσ4 H4=>tt σ4 H4 λb H5=>if b=true then te σ4 H5 (λv H6=>H6 D=some (.lst ys)/\ys.length<sizeLine/\∃m',m'<m/\W (i+1) m' (upd H6 D (.lst (ys++[v]))) (ys++[v]))
    else H5 D=some (.lst ys)/\∃m',m'<m/\W (i+1) m' H5 ys):=by
 refine⟨λi m H ys=>m=N - i/\i<=N/\Pv i H ys,⟨N,by simp,Nat.zero_le _,h0⟩,?_⟩
 rintro i m H2 ys ⟨rfl,hi,p⟩ hD
 by_cases hlt:i<N
 ·exact .inr ⟨hgo i H2 ys hlt p,λσB x H3 hB y=>hs i x σB H2 H3 ys (λH' ys'=>∃m',m'<N - i/\(m'=N - (i+1)/\i+1<=N/\Pv (i+1) H' ys')) (λH' ys' z=>⟨N - (i+1),by omega,rfl,hlt,z⟩) hlt hB y p hD⟩
 ·obtain rfl:i=N:=by omega
  exact .inl ⟨hst H2 ys p,hd H2 ys p hD⟩
theorem jG (Pv:Nat->Hp->List V->Prop) (h0:Pv 0 (upd H D (.lst [])) []) (hgo:∀i H ys,i<N->Pv i H ys->J.go i H) (hst:∀H ys,Pv N H ys->J.stop N H)
  (hs:∀i x zs H2 H3 ys (Nx:Hp->List V->Prop),(∀H ys,Pv (i+1) H ys->Nx H ys)->i<N->zs.length=n->J.yld i H2 x H3->Pv i H2 ys->H2 D=some (.lst ys)->g x (zs++qO σ js) H3 λσ4 H4=>σ4.drop n=qO σ js/\tt σ4 H4 λb H5 =>
   if b=true then te σ4 H5 (λv H6=>H6 D=some (.lst ys)/\ys.length<sizeLine/\Nx (upd H6 D (.lst (ys++[v]))) (ys++[v]))else H5 D=some (.lst ys)/\Nx H5 ys)
  (hd:∀H ys,Pv N H ys->H D=some (.lst ys)->Q (.ref D) H) :
  ∃W:Nat->Nat->Hp->List V->Prop,(∃m,W 0 m (upd H D (.lst [])) [])/\∀i m H2 ys,W i m H2 ys->H2 D=some (.lst ys)->(J.stop i H2/\Q (.ref D) H2) ∨
   (J.go i H2/\∀zs x H3,zs.length=n->J.yld i H2 x H3->g x (zs++qO σ js) H3 λσ4 H4=>σ4.drop n=qO σ js/\tt σ4 H4 λb H5=>if b=true then te σ4 H5 (λv H6=>H6 D=some (.lst ys)/\ys.length<sizeLine/\∃m',m'<m/\W (i+1) m' (upd H6 D (.lst (ys++[v]))) (ys++[v]))
    else H5 D=some (.lst ys)/\∃m',m'<m/\W (i+1) m' H5 ys):=by
 refine⟨λi m H ys=>m=N - i/\i<=N/\Pv i H ys,⟨N,by simp,Nat.zero_le _,h0⟩,?_⟩
 rintro i m H2 ys ⟨rfl,hi,p⟩ hD
 by_cases hlt:i<N
 ·exact .inr ⟨hgo i H2 ys hlt p,λσB x H3 hB y=>hs i x σB H2 H3 ys (λH' ys'=>∃m',m'<N - i/\(m'=N - (i+1)/\i+1<=N/\Pv (i+1) H' ys')) (λH' ys' z=>⟨N - (i+1),by omega,rfl,hlt,z⟩) hlt hB y p hD⟩
 ·obtain rfl:i=N:=by omega
  exact .inl ⟨hst H2 ys p,hd H2 ys p hD⟩
end
end L2
set_option Elab.async false
set_option linter.all false
set_option maxRecDepth 100000
namespace L2
open PySem PySem.Spec PyProof.Rows
section
variable {prog:Program}{w:World}{A:Around}{E:Value->Shared->Prop}{s:Shared}
theorem zaG {t b:Addr}{ws:List Value}{Q:Value->Shared->Prop}(ht:IsTup s.heap t ([]:List Value).toArray) (hb:IsTup s.heap b ws.toArray) (h0:Q (.ref b) s):wpAny (model prog w) A (binaryOp .Add (.ref t) (.ref b)) Q E s:=by
 obtain⟨⟨cls,dd,data,sl⟩,ho,hc,n,hd⟩:=id ht
 obtain⟨⟨cls2,dd2,data2,sl2⟩,ho2,hc2,n2,hd2⟩:=id hb
 simp only at hc hd hc2 hd2
 subst hc hd hc2 hd2
 exact concat_meets ⟨_,ho,rfl⟩ ⟨_,ho2,rfl⟩ noFill_tuple_add seq_tuple_add PySem.F.slot_tuple_add PySem.F.entry_tuple_add (PySem.F.args_tuple_add_2 _ _)
   (tuple_addW0 t b ([]:List Value).toArray ws.toArray n n2 dd dd2 sl sl2 (by simp)) ⟨ho,ho2,h0⟩
end
def zfv (K:PySem.W.Frag):R2:=λx y H Q=>∃a b xs ys,x = .ref a/\y = .ref b/\SqT K H a xs/\SqT K H b ys/\xs.length+ys.length<=sizeLine/\(xs=[]->Q (.ref b) H) ∧
 (xs≠[]->ys=[]->Q (.ref a) H)/\(xs≠[]->ys≠[]->∀p,H p=none->Q (.ref p) (upd H p (.tup (xs++ys))))
theorem zcr {X:Cx}:OpR X (binaryOp .Add) (zfv X.K):=by
 intro pins s σ H x y v u Q I rx ry h
 have h':=h
 obtain⟨a,b,xs,ys,rfl,rfl,ha,hb,hz,q0,q1,q2⟩:=h'
 by_cases hx:xs=[]
 ·cases rx
  cases ry
  obtain⟨its,r1,p1,_⟩:=I.tuple ha
  obtain⟨its2,r2,p2,_⟩:=I.tuple hb
  subst hx
  cases r1
  exact zaG p1 p2 ⟨.ref b,H,I,rfl,q0 rfl⟩
 ·exact zct pins s σ H _ _ v u Q I rx ry ⟨a,b,xs,ys,rfl,rfl,ha,hb,hx,hz,q1 hx,q2 hx⟩
end L2
set_option Elab.async false
set_option linter.all false
set_option maxRecDepth 100000
namespace L2
open PySem PySem.Spec PyProof.Rows
mutual
theorem RdD.same {H H':Hp}(e:zh H H'):∀{v:V}{d:PyData},RdD H v d->RdD H' v d
 | _,_,.non=>.non
 | _,_,.bl b=>.bl b
 | _,_,.int i=>.int i
 | _,_,.str x=>.str x
 | _,_,.tup h r=>.tup (e _ _ h) (vq.same e r)
 | _,_,.lst h r=>.lst (e _ _ h) (vq.same e r)
theorem vq.same {H H':Hp}(e:zh H H'):∀{vs:List V}{ds:List PyData},vq H vs ds->vq H' vs ds
 | _,_,.nil=>.nil
 | _,_,.cons h t=>.cons (RdD.same e h) (vq.same e t)
end
section
variable {N:List Addr}{σ:St}{H:Hp}{K:PySem.W.Frag}
def vU {α:Type}(xs:List α) (lo hi:Option Int):List α:=(xs.drop (HT.sIx xs.length 0 lo)).take (HT.sIx xs.length xs.length hi - HT.sIx xs.length 0 lo)
end
def rD (x:Rat):PyData:=.tuple [.int x.num,.int (x.den:Int)]
theorem Ze {H:Hp}{p:Addr}{x:Rat}(h:zF H p x):RdD H (.ref p) (rD x):=h.rd
end L2
set_option Elab.async false
set_option linter.all false
set_option maxRecDepth 100000
namespace L2
open PySem PySem.Spec PyProof.Rows
theorem szl {n:Nat}(h:n<=1000):n<=sizeLine:=Nat.le_of_lt (xt h)
theorem XG {α:Type}(xs:List α) (j:Nat):vU xs (some (j:Int)) none=xs.drop j:=by
 unfold vU
 rw[HT.sIx_none,HT.sIx_nat]
 rcases Nat.le_total j xs.length with h | h
 ·rw[Nat.min_eq_left h,List.take_of_length_le (by rw[List.length_drop];exact Nat.le_refl _)]
 ·rw[Nat.min_eq_right h,Nat.sub_self,List.take_zero,List.drop_of_length_le h]
theorem Zm {te:TE}{i:Nat}{u:TS}{D:qQ}{σ:St}{H:Hp}(h:te σ H λv H1=>u D (σ.set i (some v)) H1):Qw (zbH te (zN i)) u D σ H:=h
theorem zew {wi:TI}{g:TG}{tb:TS}{u:TS}{D:qQ}{σ:St}{H:Hp}(h:zcV wi g tb { D with nx:=u D } σ H):Qw (zcV wi g tb) u D σ H:=h
theorem zbF {c:TT}{tb:TS}{u:TS}{D:qQ}{σ:St}{H:Hp}(h:Qx c tb { D with nx:=u D } σ H):Qw (Qx c tb) u D σ H:=h
end L2
set_option Elab.async false
set_option linter.all false
set_option maxRecDepth 100000
namespace L2
open PySem PySem.Spec PyProof.Rows
inductive Bx (p:Prop):Prop
 | mk (h:p):Bx p
section
variable {X:Cx}
theorem j5:Bx (PA X [] Zn):=⟨ze⟩
theorem xh {e:Expr}{es:List Expr}{te:TE}{t:TA}(ha:Bx (PE X e te)) (hr:Bx (PA X es t)) (hs:starEach (e::es) X.env=(false,eval e X.env)::starEach es X.env:=by rfl):Bx (PA X (e::es) (qp te t)):=by
 obtain⟨ha⟩:=ha;obtain⟨hr⟩:=hr;exact⟨za ha hr hs⟩
theorem zaE {es:List Expr}{t:TA}{x1:Nat}{pos:Pos}(h:Bx (PA X es t)):Bx (PE X (.Tuple es x1 pos) (zbJ t)):=by
 obtain⟨h⟩:=h;exact⟨xv h⟩
theorem X9 {es:List Expr}{t:TA}{pos:Pos}(h:Bx (PA X es t)):Bx (PE X (.List es pos) (zf7 t)):=by
 obtain⟨h⟩:=h;exact⟨xB h⟩
theorem ZX {i:Nat}{x:Str}{e:Expr}{te:TE}{pos pos':Pos}(hN:X.N.Nodup) (hi:X.N[i]? = some x) (hx:Loc X.env.scope x) (he:Bx (PE X e te)) (hs:swapsWith e (some (.Name x pos')) pos.line X.env=pure false:=by rfl)
  (hf:X.fn x=true\/X.env.scope.names.lookup x=some .local := by first | exact .inl rfl | exact .inr rfl | assumption):Bx (PS X (.Assign [.Name x pos'] e pos) (zbH te (zN i))):=by
 obtain⟨he⟩:=he;exact⟨zL hN hi hx he hs hf⟩
theorem zD {st:Stmt}{rest:List Stmt}{t u:TS}(h1:Bx (PS X st t)) (h2:Bx (PSs X rest u)):Bx (PSs X (st::rest) (Qw t u)):=by
 obtain⟨h1⟩:=h1;obtain⟨h2⟩:=h2;exact⟨zj h1 h2⟩
end
section
variable {P:Program}{w:World}{K:PySem.W.Frag}{mg:Str->Option Value}{base:Heap}
theorem Df.calB {x:Str}{st:Stmt}{N ps:List Str}{dvs:List V}{k:Nat}{sp:Sp}(D:Df K mg x st ps dvs) (S:zG N ps (zg st)) (len:∀vs H Q E,sp vs H Q E->vs.length=ps.length)
  (hbody:∀(f:Addr) (cdv:Value) (A:Around) (outer:List Env) (s:Shared) (H:Hp) (vs:List V) (Q:VK) (E:XK),xi k (A.deeper (envOfC x (zg st) s.heap.objs.size f cdv))->sp vs H Q E →
   ∃t,Bx (PSs (ja CX0 P w K mg base N x (zg st) f cdv A outer s H E).nox (zE st) t)/\t { nx:=λ_ H'=>Q .non H',rt:=Q } (vk N vs) H):Cal P w K mg base x (k+1) ps dvs sp :=
 D.cal S len λf cdv A outer s H vs Q E hr h=>by
  obtain⟨t,⟨p⟩,q⟩:=hbody f cdv A outer s H vs Q E hr h
  exact⟨t,p,q⟩
end
end L2
set_option Elab.async false
set_option linter.all false
set_option maxRecDepth 100000
namespace L2
open PySem PySem.Spec PyProof.Rows
abbrev Vf:List Value:=[.type "ValueError",.type "Exception",.type "BaseException",.type "object"]
section
variable {prog:Program}{w:World}{A:Around}{E:Value->Shared->Prop}{h:Heap}{g:Array GenState}{d:Drawn}{t:Nat}{os:OsState}
variable {nm qn:Str}{C N:Addr}{bs bm:List Value}{hd:Bool}{sn:List Str}{sub:List Value}{ab:Bool}{col:Option Bool}{dd:Option Addr}{k0 k1 k2 k3 k5:Option Value}
theorem Vi (T:OwnTail h Vf bm){mN:Str->Option Value}{us:List Value}{fI:Addr}{oI:Obj}{Q:Fin->Shared->Prop}(hC:h.get? C=some (excClassObj nm qn C N bs bm hd sn sub ab col dd k0 k1 k2 k3 k5 "ValueError.__new__")) (hn:h.Ns N mN)
  (hi:mN "__init__" = some (.ref fI)) (hf:h.get? fI=some oI) (hfc:oI.cls = .type "function") (hz:us.length<=sizeLine)
  (hq:∀h2 e,Heap.MadeExcOf h h2 e (.ref C) us->wpAny (model prog w) A (call (.ref fI) (.ref e::us)) (λr s2=>r = .none/\Q (.done (.ret (.ref e))) s2) E ⟨h2,g,d,t,os⟩) :
  wpAny (model prog w) A (Builtin.«type.__call__» ⟨.ref C::us,[]⟩) Q E ⟨h,g,d,t,os⟩:=by
 have FV:=PySem.F.excBase_ValueError
 repeat (first | (with_reducible refine wpAny_loadPart_at hC ?_) | (with_reducible refine wpAny_madeBy_exc hC ?_) | wp_step)
 refine codeAny_call_builtin_code (Code.quiet_builtin _ FV.quiet) (wpAny_check_new_subU FV (by decide +kernel) T hC ?_)
 refine codeAny_exc_new_subU FV (by decide +kernel) FV T hC ?_ hz
 show wpAny _ _ _ _ _ _
 generalize ho:({ cls:=.ref C,data:=.fields #[.ref h.objs.size,.none,.none,.none,.bool false,.none] }:Obj)=oe
 generalize ht:({ cls:=.type "tuple",data:=.seq us.toArray }:Obj)=ot
 have kp:∀b o,h.get? b=some o->((h.push ot).push oe).get? b=some o:=λb o q=>Heap.get?_push_of_some oe (Heap.get?_push_of_some ot q)
 have hC2:=kp _ _ hC
 have hf2:=kp _ _ hf
 have hn2:((h.push ot).push oe).Ns N mN:=let ⟨o,es,ep,e,r⟩:=hn;⟨o,es,ep,kp _ _ e,r⟩
 have hg:((h.push ot).push oe).get? (h.objs.size+1)=some oe:=by
  have:=Heap.get?_push_size (h.push ot) (o:=oe) (by rw[<-ho];rfl)
  rwa [Heap.size_push]at this
 have hgt:((h.push ot).push oe).get? h.objs.size=some ot:=Heap.get?_push_of_some oe (Heap.get?_push_size h (by rw[<-ht];rfl))
 have hcls:oe.cls = .ref C:=by rw[<-ho]
 have hsub:(Value.ref C::bm).contains (.ref C)=true:=by simp
 unfold isInstance
 repeat (first | (with_reducible refine wpAny_loadPart_at hg ?_;rw[hcls]) | (with_reducible refine wpAny_isSubtype_exc hC2 ?_;rw[hsub]) | wp_step)
 show wpAny _ _ (typeLookup (.ref C) _) _ _ _
 refine wpAny_typeLookup_tail hC2 hn2 (T.keeps kp) FV.mroIs FV.init.lookup ?_
 rw[hi]
 refine wpAny_holding (wpAny_bind ?_)
 unfold bindSpecial
 refine wpAny_bind (wpAny_typeOf (T:="function") ⟨_,hf2,hfc⟩ ?_)
 rw[if_pos (by decide)]
 refine wpAny_pure (wpAny_bind (wpAny_mono (hq _ (h.objs.size+1) ⟨kp,Heap.get?_none_of_le (Nat.le_succ _),h.objs.size,by rw[hg,<-ho],Heap.get?_none_of_le (Nat.le_refl _),by rw[hgt,<-ht]⟩) (λr s2 hr=>?_) λ_ _ x=>x))
 obtain⟨rfl,hQ⟩:=hr
 wp_walk
 exact hQ
theorem VU (T:OwnTail h Vf bm){mN:Str->Option Value}{us:List Value}{fI:Addr}{oI:Obj}{Q:Value->Shared->Prop}(hC:h.get? C=some (excClassObj nm qn C N bs bm hd sn sub ab col dd k0 k1 k2 k3 k5 "ValueError.__new__")) (hn:h.Ns N mN)
  (hi:mN "__init__" = some (.ref fI)) (hf:h.get? fI=some oI) (hfc:oI.cls = .type "function") (hz:us.length<=sizeLine)
  (hq:∀h2 e,Heap.MadeExcOf h h2 e (.ref C) us->wpAny (model prog w) (A.under (.builtin "type.__call__" ⟨.ref C::us,[]⟩)) (call (.ref fI) (.ref e::us)) (λr s2=>r = .none/\Q (.ref e) s2) E ⟨h2,g,d,t,os⟩) :
  wpAny (model prog w) A (call (.ref C) us) Q E ⟨h,g,d,t,os⟩:=by
 have c1:=tc_lookup
 have c2:=tc_bind (.ref C)
 have hT:(⟨h,g,d,t,os⟩:Shared).TypeIs (.ref C) "type":=⟨_,hC,rfl⟩
 refine wpAny_call (codeAny_of_tree ?_)
 show wpAny _ _ (callAny (.ref C) _) _ _ _
 repeat (any_goals (first | assumption | (with_reducible refine wpAny_loadPart_at hC ?_) | wp_step))
 refine⟨rfl,?_⟩
 exact codeAny_call_builtin_at (Code.quiet_builtin _ (by decide +kernel)) entry_typeCall (wpAny_check_type_call_sub hC (Vi T hC hn hi hf hfc hz λh2 e hm=>hq h2 e hm))
end
end L2
set_option Elab.async false
set_option linter.all false
set_option maxRecDepth 100000
namespace L2
open PySem PySem.Spec PyProof.Rows PySem.W
def XO (a C:Addr) (dct:Option Addr):HO:=.ext λh=>∃ox vs,h.get? a=some ox/\ox.cls = .ref C/\ox.data = .fields vs/\ox.dict=dct/\(∃t0,vs[0]? = some (.ref t0))/\vs[1]? = some .none
theorem zbQ {P:Program}{w:World}{H:Hp}{h:Heap}{a C:Addr}{dct:Option Addr}{ox:Obj}{vs:Array Value}(e:h.get? a=some ox) (c:ox.cls = .ref C) (d:ox.data = .fields vs) (k:ox.dict=dct){t0:Addr}(h0:vs[0]? = some (.ref t0)) (hv:vs[1]? = some .none):xo P w H h a (XO a C dct) :=
 ⟨⟨ox,vs,e,c,d,k,⟨t0,h0⟩,hv⟩,⟨ox,e⟩,λh1 h2 ⟨o,us,e1,r⟩ q=>⟨o,us,q _ e1,r⟩⟩
theorem Qy {P:Program}{w:World}{H:Hp}{h:Heap}{a C:Addr}{dct:Option Addr}(x:HOk P w H h) (e:H a=some (XO a C dct)):∃ox vs,h.get? a=some ox/\ox.cls = .ref C/\ox.data = .fields vs/\ox.dict=dct/\(∃t0,vs[0]? = some (.ref t0))/\vs[1]? = some .none :=
 (show xo P w H h a (XO a C dct)from x a _ e).1
section
variable {P:Program}{w:World}{H:Hp}{h h2:Heap}{a:Addr}{o:HO}
theorem jl (x:HOk P w H h) (e:h.get? a=none):H a=none:=by
 cases q:H a with
 | none=>rfl
 | some u =>
  obtain⟨ob,z⟩:=xo.obj (x a u q)
  rw[e]at z;cases z
theorem J6 (x:HOk P w H h) (k:∀b u,h.get? b=some u->h2.get? b=some u) (e:h.get? a=none) (new:xo P w (upd H a o) h2 a o):HOk P w (upd H a o) h2:=λb u q=>by
 have hn:=jl x e
 by_cases hb:b=a
 ·subst hb;rw[zf]at q;cases q;exact new
 ·rw[zB hb]at q
  exact(x b u q).stay (λc v _ z=>k c v z) (λc z=>by rw[zB (zC z hn)];exact z) λc xs z=>by rw[zB (zC z hn)];exact z
theorem Ve {fs ex:List Addr}(k:∀b u,h.get? b=some u->h2.get? b=some u) (e:h.get? a=none) (hn:H a=none):Un fs ex H (upd H a o) h h2 where
 keep:=λb u q _ _ _=>k b u q
 slot:=λb u q _ _ _=>⟨u.slots,k b u q⟩
 free:=λb u q n _=>by rw[zB (λz=>by subst z;rw[e]at q;cases q)];exact n
 there:=λb u q _=>⟨u,k b u q⟩
 tups:=λb xs q=>by rw[zB (zC q hn)];exact q
 frzs:=λb u xs q=>by rw[zB (zC q hn)];exact q
 tbls:=λb ps q=>⟨#[],by rw[zB (zC q hn),q];simp⟩
end
section
variable {X:Cx}{pins:List (Addr×Obj)}{σ:St}{H:Hp}{s:Shared}{h2:Heap}
theorem J7 {a:Addr}{o:HO}{t2:Nat}(I:Inv X pins σ H s) (k:∀b u,s.heap.get? b=some u->h2.get? b=some u) (e:s.heap.get? a=none) (new:xo X.prog X.w (upd H a o) h2 a o) :
  Inv X pins σ (upd H a o) { s with heap:=h2,toks:=t2 }:=I.un (Ve k e (jl I.hok e)) (J6 I.hok k e new)
theorem zaV {C e:Addr}{us:List Value}{t2:Nat}(I:Inv X pins σ H s) (m:Heap.MadeExcOf s.heap h2 e (.ref C) us):Inv X pins σ (upd H e (XO e C none)) { s with heap:=h2,toks:=t2 }:=by
 obtain⟨tt,h1,_,_⟩:=m.there
 exact J7 I m.keeps m.new (zbQ h1 rfl rfl rfl (t0:=tt) rfl rfl)
end
end L2
set_option Elab.async false
set_option linter.all false
set_option maxRecDepth 100000
namespace L2
open PySem PySem.Spec PyProof.Rows PySem.W
section
variable {prog:Program}{w:World}{A:Around}{E:Value->Shared->Prop}{s:Shared}{K:PySem.W.Frag}{x D:Addr}{ox:Obj}{od:Option Obj}{name:Str}{v:Value}
theorem zbY {expr:Bool}{Q:Value->Shared->Prop}(X:K.In s.heap) (I:InstAt s.heap x ox D od) (Z:QB K D) (hf:findObj K D od name=some (.value v)) (hh:handedIn v=true)
  (h:Q v { s with toks:=s.toks+1 }):wpAny (model prog w) A (getAttr (.ref x) name expr) Q E s:=by
 have L0:=I.type (M:=model prog w)
 have L1:=looks_findIn (M:=model prog w) X Z.ga
 have L2:=looks_findIn (M:=model prog w) X Z.no
 have L3:=looks_find (M:=model prog w) X I hf
 have GA:=F.attr_ValueError.ga
 obtain⟨hp,g,d,t,os⟩:=s
 unfold getAttr getAttrBy
 refine wpAny_bind (wpAny_mkText (wpAny_holding (wpAny_bind (L0.at (wpAny_bind (L1.at ?_))))))
 dsimp only
 rw[if_neg (show ¬((onTheHeap (.ref D)&&Value.builtin "BaseException.__getattribute__" == Value.builtin "object.__getattribute__")=true) by
  rw[show (Value.builtin "BaseException.__getattribute__" == Value.builtin "object.__getattribute__")=false by decide +kernel];simp)]
 unfold getAttrByItsOwn
 refine wpAny_bind (?_:wpAny _ _ (typeLookup (.ref D) "__getattr__") _ _ _)
 refine L2.at ?_
 refine wpAny_bind (wpAny_attempt (wpAny_holding ?_))
 unfold callGetattribute
 rw[if_neg (show ¬((expr&&onTheHeap (.builtin "BaseException.__getattribute__"))=true) by rw[show onTheHeap (.builtin "BaseException.__getattribute__")=false from rfl,Bool.and_false];decide)]
 unfold boundAndCalled
 refine wpAny_bind (wpAny_of_eq (GA.bind _) ?_)
 refine wpAny_call (codeAny_call_builtin GA.plain F.entry_bexc_ga (ZW X I Z.bx ?_))
 unfold Builtin.«object.__getattribute__»
 refine wpAny_bind (wpAny_pure (wpAny_bind (wpAny_pure (wpAny_bind (L0.at (wpAny_bind (L3.at ?_)))))))
 refine wpAny_pure ?_
 show wpAny _ _ (handedOut v) _ _ _
 rw[handedOut_of hh]
 exact wpAny_pure h
end
end L2
set_option Elab.async false
set_option linter.all false
set_option maxRecDepth 100000
namespace L2
open PySem PySem.Spec PyProof.Rows PySem.W
def Zx:List Value->Bool
 | .ref _::r=>Zx r
 | l=>l == Vf
theorem jU (self:Value):∀{l:List Value},Zx l=true->refuseLoop self "__setattr__" l=pure ()
 | l,e=>by
  unfold Zx at e
  split at e
  ·rw[refuseLoop_ref];exact jU self e
  ·rw[show l=Vf from beq_iff_eq.mp e];exact PySem.F.store_ValueError.passes self
section
variable {prog:Program}{w:World}{A:Around}{s:Shared}{K:PySem.W.Frag}{x C:Addr}{ox:Obj}{od:Option Obj}{name:Str}{v:Value}
theorem zcu {tk:Tok}{cd:ClassData}{R:Result->Shared->Prop}(X:K.In s.heap) (I:InstAt s.heap x ox C od) (hc:clsIn K C=some cd) (ho:Zx cd.mro=true) (hob:mroIn K C (.type "object")=some true) (ha:findIn K (.ref C) name=some none)
  (h:wpAny (model prog w) A.in1 (Builtin.ObjectAttr.storeInOwnDict (.ref x) (.ref C) (.str name tk) name v false)
   (λfin s2=>match fin with | .done f=>R (.ok f) s2 | .again c2=>c2.quiet=true/\codeAny (model prog w) A c2 R s2) (λe s2=>R (.error e) s2) s) :
  codeAny (model prog w) A (.call (.builtin "object.__setattr__") ⟨[.ref x,.str name tk,v],[]⟩) R s:=by
 have SF:=PySem.F.store_object
 have sub:Looks (model prog w) s.heap (isInstance (.ref x) (.type "object")) true:=I.type.andThen (looks_mroIn X hob)
 refine codeAny_call_builtin SF.slot.plain SF.entry (@check_slot (model prog w) _ _ s "object.__setattr__" "object" "__setattr__" (.ref x) [.str name tk,v] [] _ SF.kind SF.split sub (SF.args (.ref x) (.str name tk) v) ?_)
 have hm:Looks (model prog w) s.heap (mroOf (.ref C)) cd.mro:=(looks_clsIn X hc).andThen .now
 have L3:Looks (model prog w) s.heap (Builtin.ObjectAttr.storeTaker? none) none:=.now
 rw[osa_eq,refuse_eq]
 refine wpAny_bind (wpAny_bind (I.type.here (wpAny_bind (hm.here ?_))))
 rw[jU _ ho]
 refine wpAny_pure (wpAny_bind (I.type.here (wpAny_bind ((looks_findIn X ha).here (wpAny_bind (L3.here ?_))))))
 exact h
theorem zcN {E:Value->Shared->Prop}{Q:Unit->Shared->Prop}{vs:Array Value}{cd:ClassData}(X:K.In s.heap) (hx:s.heap.get? x=some ox) (hcl:ox.cls = .ref C) (hdt:ox.data = .fields vs) (hdn:ox.dict=none) (hc:clsIn K C=some cd) (hh:cd.hasDict=true) (ho:Zx cd.mro=true)
  (hob:mroIn K C (.type "object")=some true) (hs:findIn K (.ref C) "__setattr__" = some (some (.builtin "object.__setattr__"))) (ha:findIn K (.ref C) name=some none)
  (h:∀h2,h2.get? x=some { ox with dict:=some s.heap.objs.size }->h2.Ns1 s.heap.objs.size (λy=>if y=name then some v else none)->(∀b o,b≠x->s.heap.get? b=some o->h2.get? b=some o)->Q () { s with heap:=h2,toks:=s.toks+2 }) :
  wpAny (model prog w) A (setAttr (.ref x) name v) Q E s:=by
 have I:InstAt s.heap x ox C none:=⟨hx,hcl,by unfold notCls;rw[hdt],by rw[hdn];trivial⟩
 refine set_plain X I hs (zcu (s:={ s with toks:=s.toks+1 }) X I hc ho hob ha ?_)
 obtain⟨hp,g,d,t,os⟩:=s
 obtain⟨oc,odi,oda,osl⟩:=ox
 dsimp only at hcl hdt hdn hx h
 subst hcl hdt hdn
 have hx1:(hp.push { cls:=.type "dict",data:=.dict #[] }).get? x=some ⟨.ref C,none,.fields vs,osl⟩:=Heap.get?_push_of_some _ hx
 have hxs:x≠hp.objs.size:=Nat.ne_of_lt (Heap.lt_size hx)
 refine wpAny_bind (wpAny_pure (wpAny_bind (wpAny_bind (wpAny_loadPart hx (wpAny_bind (PySem.W.Looks.here (s:=⟨hp,g,d,t+1,os⟩) (looks_clsIn X hc) ?_))))))
 rw[hh]
 rw[if_neg (by decide),if_neg (by simp[typeHasDict])]
 refine wpAny_bind (wpAny_alloc' ?_)
 refine wpAny_bind (wpAny_update' hx1 ?_)
 refine wpAny_pure ?_
 have u1:((hp.push { cls:=.type "dict",data:=.dict #[] }).update x λo=>{ cls:=o.cls,dict:=some hp.objs.size,data:=o.data,slots:=o.slots }).get? hp.objs.size=some { cls:=.type "dict",data:=.dict #[] }:=(Heap.get?_update_ne _ _ _ _ hxs.symm).trans (Heap.get?_push_at rfl rfl)
 have u2:((hp.push { cls:=.type "dict",data:=.dict #[] }).update x λo=>{ cls:=o.cls,dict:=some hp.objs.size,data:=o.data,slots:=o.slots }).get? x=some ⟨.ref C,some hp.objs.size,.fields vs,osl⟩:=Heap.get?_update_self _ hx1 rfl
 have u3:∀b o,b≠x->hp.get? b=some o->((hp.push { cls:=.type "dict",data:=.dict #[] }).update x λo=>{ cls:=o.cls,dict:=some hp.objs.size,data:=o.data,slots:=o.slots }).get? b=some o:=λb o hb q=>(Heap.get?_update_ne _ _ _ _ hb).trans (Heap.get?_push_of_some _ q)
 generalize ((hp.push { cls:=.type "dict",data:=.dict #[] }).update x λo=>{ cls:=o.cls,dict:=some hp.objs.size,data:=o.data,slots:=o.slots })=h1 at u1 u2 u3
 have u4:h1.Ns hp.objs.size (λ_=>none):=⟨_,#[],_,u1,rfl,λe he=>absurd he (by simp),λ_=>rfl⟩
 show wpAny _ _ (Builtin.ObjectAttr.storeInDict hp.objs.size (.str name t) name v) _ _ _
 unfold Builtin.ObjectAttr.storeInDict Builtin.ObjectAttr.newKeyGuard
 refine wpAny_bind (wpAny_pure (wpAny_bind (wpAny_nsSet1 (Heap.Ns1.of_empty u4) λh2 n2 s2=>?_)))
 obtain⟨oD,eD,pD,g1,g2,g3⟩:=n2.count (Within.cons name v Within.nil)
 refine wpAny_bind (wpAny_lookBehind g1 (by rw[g2];exact pastItsLine_dict (Nat.le_trans g3 (by rw[List.length_cons,List.length_nil,sizeLine_eq];omega))) ?_)
 exact wpAny_pure (h h2 ((s2.2 x hxs).trans u2) n2 λb o hb q=>(s2.2 b (Nat.ne_of_lt (Heap.lt_size q))).trans (u3 b o hb q))
end
end L2
set_option Elab.async false
set_option linter.all false
set_option maxRecDepth 100000
namespace L2
open PySem PySem.Spec PyProof.Rows PySem.W
structure zay (K:PySem.W.Frag) (C:Addr) (cd:ClassData):Prop where
 hc:clsIn K C=some cd
 hh:cd.hasDict=true
 ho:Zx cd.mro=true
 ob:mroIn K C (.type "object")=some true
 sa:findIn K (.ref C) "__setattr__" = some (some (.builtin "object.__setattr__"))
section
variable {X:Cx}{pins:List (Addr×Obj)}{σ:St}{H:Hp}{s:Shared}{h2:Heap}
theorem zaW {a C dx:Addr}{fs:List (Str×V)}{mA:Str->Option Value}{t2:Nat}{ox:Obj}{vs:Array Value}(I:Inv X pins σ H s) (ea:H a=some (XO a C none)) (hd:s.heap.objs.size<=dx) (e1:h2.get? a=some ox) (c1:ox.cls = .ref C) (d1:ox.data = .fields vs) (k1:ox.dict=some dx){t0:Addr}(h0:vs[0]? = some (.ref t0)) (hv:vs[1]? = some .none)
  (n1:h2.Ns1 dx mA) (r1:∀f,Xr (fs.lookup f) (mA f)) (k:∀b o,b≠a->s.heap.get? b=some o->h2.get? b=some o) :
  Inv X pins σ (upd (upd H dx (.xd fs)) a (XO a C (some dx))) { s with heap:=h2,toks:=t2 }:=by
 have hn:H dx=none:=I.hok.fresh hd
 have nda:dx≠a:=λz=>by subst z;rw[hn]at ea;cases ea
 have lt:∀b o,s.heap.get? b=some o->b≠dx:=λb o q=>Nat.ne_of_lt (Nat.lt_of_lt_of_le (Heap.lt_size q) hd)
 have na:∀b,H b=none->b≠a:=λb n z=>by subst z;rw[n]at ea;cases ea
 have two:∀b u,H b=some u->b≠a->upd (upd H dx (.xd fs)) a (XO a C (some dx)) b=some u:=λb u q z=>by rw[zB z,zB (zC q hn)];exact q
 refine I.un ⟨λb u q n _ _=>k b u (na b n) q,λb u q n _ _=>⟨u.slots,k b u (na b n) q⟩,λb u q n _=>by rw[zB (na b n),zB (lt b u q)];exact n,λb u q _=>?_,
  λb xs q=>two b _ q (λz=>by subst z;rw[ea]at q;cases q),λb u xs q=>two b _ q (λz=>by subst z;rw[ea]at q;cases q),λb ps q=>⟨#[],by rw[two b _ q (λz=>by subst z;rw[ea]at q;cases q)];simp⟩⟩ ?_
 ·by_cases hb:b=a
  ·subst hb;exact⟨_,e1⟩
  ·exact⟨u,k b u hb q⟩
 ·intro b u q
  by_cases hb:b=a
  ·subst hb;rw[zf]at q;cases q;exact zbQ e1 c1 d1 k1 h0 hv
  ·rw[zB hb]at q
   by_cases hbd:b=dx
   ·subst hbd;rw[zf]at q;cases q;exact⟨mA,n1,r1⟩
   ·rw[zB hbd]at q
    have hown:∀c y,H c=some (.own y)->c≠a:=λc y r z=>by subst z;rw[ea]at r;cases r
    refine(I.hok b u q).stay (λc v hc r=>k c v ?_ r) (λc r=>two c _ r (hown c b r)) λc xs r=>two c _ r (λz=>by subst z;rw[ea]at r;cases r)
    rcases hc with rfl | hc
    ·exact hb
    ·exact hown c b hc
theorem Vt {a C:Addr}{t2:Nat}{ox:Obj}{vs:Array Value}(I:Inv X pins σ H s) (ea:H a=some (XO a C none)) (e1:h2.get? a=some ox) (c1:ox.cls = .ref C) (d1:ox.data = .fields vs) (k1:ox.dict=none){t0:Addr}(h0:vs[0]? = some (.ref t0)) (hv:vs[1]? = some .none)
  (k:∀b o,b≠a->s.heap.get? b=some o->h2.get? b=some o):Inv X pins σ (upd H a (XO a C none)) { s with heap:=h2,toks:=t2 } :=
 I.write (x:=a) (e:=a) (by rw[ea];exact trivial) (.inl rfl) k ⟨_,e1⟩ (zbQ e1 c1 d1 k1 h0 hv)
end
def sXF (K:PySem.W.Frag) (ta tv:TE) (f:Str):TS:=λD σ H=>tv σ H λy H1=>ta σ H1 λx H2=>∃a C cd,x = .ref a/\H2 a=some (XO a C none)/\zay K C cd/\xz K C f ∧
 ∀dx,H2 dx=none->D.nx σ (upd (upd H2 dx (.xd [(f,y)])) a (XO a C (some dx)))
theorem zdk {X:Cx}{o value:Expr}{f:Str}{pos pos':Pos}{ta tv:TE}(ha:PE X o ta) (hv:PE X value tv) (hs:swapsWith value (some (.Attribute o f pos')) pos.line X.env=pure false):PS X (.Assign [.Attribute o f pos'] value pos) (sXF X.K ta tv f):=by
 intro pins s σ H D I h
 refine plainObj_wpAny_Assign_Attribute (thn (hv pins s σ H _ I h) λu s1 ⟨y,H1,I1,ry,q⟩=>thn (ha pins s1 σ H1 _ I1 q) λov s2 ⟨x,H2,I2,rx,a,C,cd,ex,ea,S,n,q2⟩=>?_) hs
 subst ex
 obtain rfl:ov=Value.ref a:=rx
 obtain⟨ox,vs,g1,g2,g3,g4,⟨t0,h0⟩,hv1⟩:=Qy I2.hok ea
 refine zcN I2.kIn g1 g2 g3 g4 S.hc S.hh S.ho S.ob S.sa n λh2 e1 n1 k1=>?_
 refine⟨σ,_,zaW (fs:=[(f,y)]) I2 ea (Nat.le_refl _) e1 g2 g3 rfl h0 hv1 n1 (λg=>?_) k1,q2 _ I2.fresh⟩
 show Xr (List.lookup g [(f,y)]) (if g=f then some u else none)
 by_cases z:g=f
 ·rw[if_pos z,show List.lookup g [(f,y)]=some y by simp[List.lookup,z]];exact ry
 ·rw[if_neg z,show List.lookup g [(f,y)]=none by simp[List.lookup,beq_eq_false_iff_ne.mpr z]];exact trivial
end L2
set_option Elab.async false
set_option linter.all false
set_option maxRecDepth 100000
namespace L2
open PySem PySem.Spec PyProof.Rows PySem.W
def XB (h:Heap) (C:Addr):Prop:=∃nm qn N bs bm hd sn sub ab col dd k0 k1 k2 k3 k5 ni,h.get? C=some (excClassObj nm qn C N bs bm hd sn sub ab col dd k0 k1 k2 k3 k5 ni)/\OwnTail h Vf bm
section
variable {prog:Program}{w:World}{A:Around}{E:Value->Shared->Prop}{s:Shared}
theorem JV {a C:Addr}{y:Value}{t0:Addr}{vs:Array Value}{osl:Array (Option Value)}{Q:Value->Shared->Prop}(hx:s.heap.get? a=some ⟨.ref C,none,.fields vs,osl⟩) (B:XB s.heap C) (h0:vs[0]? = some (.ref t0))
  (h:∀h2 us t1,h2.get? a=some ⟨.ref C,none,.fields us,osl⟩->us[0]? = some (.ref t1)->us[1]? = vs[1]?->(∀b o,b≠a->s.heap.get? b=some o->h2.get? b=some o)->Q .none { s with heap:=h2 }) :
  wpAny (model prog w) A (call (.builtin "ValueError.__init__") [.ref a,y]) Q E s:=by
 have FV:=PySem.F.excBase_ValueError
 obtain⟨nm,qn,N,bs,bm,hd,sn,sub,ab,col,dd,k0,k1,k2,k3,k5,ni,hC,T⟩:=B
 obtain⟨hp,g,d,t,os⟩:=s
 dsimp only at hx hC T h
 refine wpAny_call (codeAny_call_builtin FV.init.plain FV.initEntry (wpAny_check_init_subU FV T hC hx rfl ?_))
 wp_walk
 rw[h0]
 wp_walk
 rw[if_pos (by cases q:vs.size with | zero=>(rw[Array.getElem?_eq_none (by omega)]at h0;cases h0) | succ n=>omega)]
 have hx1:(hp.push { cls:=.type "tuple",data:=.seq #[y] }).get? a=some ⟨.ref C,none,.fields vs,osl⟩:=Heap.get?_push_of_some _ hx
 refine wpAny_update' hx1 ?_
 wp_walk
 have hz:0<vs.size:=by cases q:vs.size with | zero=>(rw[Array.getElem?_eq_none (by omega)]at h0;cases h0) | succ n=>omega
 exact h _ (vs.setIfInBounds 0 (.ref hp.objs.size)) hp.objs.size (Heap.get?_update_self _ hx1 rfl) (by rw[Array.getElem?_setIfInBounds_self_of_lt hz]) (by rw[Array.getElem?_setIfInBounds_ne (by decide)]) λb o hb q=>(Heap.get?_update_ne _ _ _ _ hb).trans (Heap.get?_push_of_some _ q)
end
end L2
set_option Elab.async false
set_option linter.all false
set_option maxRecDepth 100000
namespace L2
open PySem PySem.Spec PyProof.Rows PySem.W
theorem XB.keeps {h h2:Heap}{C:Addr}(B:XB h C) (k:∀b o,h.get? b=some o->h2.get? b=some o):XB h2 C:=by
 obtain⟨nm,qn,N,bs,bm,hd,sn,sub,ab,col,dd,k0,k1,k2,k3,k5,ni,hC,T⟩:=B
 exact⟨nm,qn,N,bs,bm,hd,sn,sub,ab,col,dd,k0,k1,k2,k3,k5,ni,k _ _ hC,T.keeps k⟩
structure XUp (K:PySem.W.Frag) (C0:Addr) (mc:Value):Prop where
 rd:readsIn K C0 mc=true
 ga:specialIn K (.ref C0) "__getattribute__" = some (some (.builtin "type.__getattribute__"))
 it:findCls K (.ref C0) mc "__init__" = some (.val (.builtin "ValueError.__init__"))
def tXI (B:Heap) (t:TA):TE:=λσ H Q=>t σ H λvs H1=>∃a C y,vs=[.ref a,y]/\H1 a=some (XO a C none)/\XB B C/\Q .non (upd H1 a (XO a C none))
section
variable {X:Cx}{x:Str}{C C0 f:Addr}{mc:Value}{p pos apos:Pos}{e:Expr}{es:List Expr}{t:TA}
theorem zdj {pl:Sem Bool}(U:XUp X.K C0 mc) (hm:X.mg x=some (.ref C0)) (ha:PA X (e::es) t) (hg:Gl X x:=by rfl) (hdb:(x == ("__debug__":Str))=false:=by decide)
  (hst:starEach (e::es) X.env=(false,eval e X.env)::starEach es X.env:=by rfl) (hpl:(backTo pos (starEach es X.env)).any (·.1)=false:=by rfl)
  (ht:eval (.Call (.Attribute (.Name x p) "__init__" apos) (e::es) [] pos) X.env=(do
   let ov <-eval (.Name x p) X.env
   standAt apos.atName
   let (f,first) <-holding [ov] (getMethod ov "__init__" pl)
   callWith pos f first (backTo pos (starEach (e::es) X.env)) (backToKw pos (keywordEach [] X.env))):=by rfl) :
  PE X (.Call (.Attribute (.Name x p) "__init__" apos) (e::es) [] pos) (tXI X.base t):=by
 intro pins s σ H Q I h
 refine methodCall_KW (pl:=pl) (jb I hg hm ?_ hdb) ht
 refine method_cls I.kIn U.ga (cls_value I.kIn U.rd U.it rfl ?_)
 refine callWith_builtin1 (thn (ha pos pins _ σ H _ (I.tok _) h) λus s1 ⟨vs,H1,I1,r,a,C,y,ev,ea,B,q⟩=>?_) hst hpl
 subst ev
 obtain⟨u,w,rfl,r1,r2⟩:=ZE r
 cases(show u=Value.ref a from r1)
 obtain⟨⟨oc,odi,oda,osl⟩,vs,g1,g2,g3,g4,⟨t0,h0⟩,hv1⟩:=Qy I1.hok ea
 dsimp only at g2 g3 g4
 subst g2 g3 g4
 refine JV g1 (B.keeps I1.bk) h0 λh2 us t1 e1 e2 e3 k1=>?_
 exact⟨.non,_,Vt (t2:=s1.toks) I1 ea e1 rfl rfl rfl e2 (e3.trans hv1) k1,rfl,q⟩
structure XMk (K:PySem.W.Frag) (B:Heap) (C f:Addr):Prop where
 obj:∃nm qn N bs bm hd sn sub ab col dd k0 k1 k2 k3 k5 mN,B.get? C=some (excClassObj nm qn C N bs bm hd sn sub ab col dd k0 k1 k2 k3 k5 "ValueError.__new__")/\B.Ns N mN/\mN "__init__" = some (.ref f)/\OwnTail B Vf bm
 fn:∃oI,B.get? f=some oI/\oI.cls = .type "function"
 kp:keepIn K (.ref C)=true
end
end L2
set_option Elab.async false
set_option linter.all false
set_option maxRecDepth 100000
namespace L2
open PySem PySem.Spec PyProof.Rows PySem.W
def ZY (a:Addr) (H:Hp):Hp:=λb=>if b=a then none else H b
theorem j7 {a:Addr}{H:Hp}:ZY a H a=none:=if_pos rfl
theorem qu {a b:Addr}{H:Hp}(h:b≠a):ZY a H b=H b:=if_neg h
section
variable {P:Program}{w:World}{H H1:Hp}{h h1:Heap}{a C:Addr}{dct:Option Addr}{fs:List Addr}
theorem zb8 (x:HOk P w H h) (ea:H a=some (XO a C dct)):HOk P w (ZY a H) h:=λb u q=>by
 by_cases hb:b=a
 ·subst hb;rw[j7]at q;cases q
 ·rw[qu hb]at q
  exact(x b u q).stay (λ_ _ _ r=>r) (λc r=>by rw[qu (λz=>by subst z;rw[ea]at r;cases r)];exact r) λc xs r=>by rw[qu (λz=>by subst z;rw[ea]at r;cases r)];exact r
theorem zeE (u:Un fs [] H H1 h h1) (n:H a=none):Un fs [] H (ZY a H1) h h1 where
 keep:=u.keep
 slot:=u.slot
 free:=λb o q n hx=>by
  by_cases hb:b=a
  ·subst hb;exact j7
  ·rw[qu hb];exact u.free b o q n hx
 there:=u.there
 tups:=λb xs q=>by rw[qu (zC q n)];exact u.tups b xs q
 frzs:=λb o xs q=>by rw[qu (zC q n)];exact u.frzs b o xs q
 tbls:=λb ps q=>by rw[qu (zC q n)];exact u.tbls b ps q
end
section
variable {M:Model}{A:Around}{E:Value->Shared->Prop}{s:Shared}{B:Heap}{env:Env}{outer:List Env}{L e:Addr}{a0:Value}{oe:Obj}{vs:Array Value}{Q:Unit->Shared->Prop}
theorem Vx (hfr:A.frames=some (env::outer)) (hf:env.frame=some L) (hB:B.StaysIn s.heap) (hl:s.heap.FunFrames B (env::outer)) (hn:B.get? e=none) (he:s.heap.get? e=some oe) (hd:oe.data = .fields vs) (h1:vs[1]? = some .none) (h0:vs[0]? = some a0)
  (q:∀h',FlX B outer e oe.cls a0 oe.dict h'->s.heap.UpToSlots h'->Q () { s with heap:=h' }):wpAny M A (leaving env (.ref e)) Q E s:=by
 unfold leaving
 refine wpAny_bind (VC (a0:=a0) hfr hl hf he hB hn hd h1 h0 λh' x1 x2 x3 x4=>?_)
 refine ZK (s:={ s with heap:=h' }) ⟨x1,hn,x2,_,x3⟩ λh2 z up2=>?_
 obtain⟨z1,z2,⟨_,_,z3⟩,z4⟩:=z
 exact q h2 ⟨z1,z2,z3,z4⟩ (x4.trans up2)
end
def Xv (X:Cx) (J:XJ):Prop:=∀(pins:List (Addr×Obj)) (σ:St) (H:Hp) (s:Shared) (a C:Addr) (H':Hp) (s':Shared) (dct:Option Addr),
 Inv X pins σ H s->s.heap.get? a=none->s'.os=s.os->AllBare s'.gens->Un (frs X.stack) [] H H' s.heap s'.heap->HOk X.prog X.w H' s'.heap->H' a=some (XO a C dct)->J C dct σ (ZY a H')->X.xe (.ref a) s'
section
variable {P:Program}{w:World}{K:PySem.W.Frag}{mg:Str->Option Value}{base:Heap}{N:List Str}{qual:Str}{scope:Scope}{f:Addr}{cd:Value}{A:Around}{outer:List Env}{s:Shared}{H:Hp}{E:XK}
theorem jB:Xv (ja (CX1 P w) P w K mg base N qual scope f cd A outer s H E) (EJ E):=by
 intro pins σ H1 s1 a C H' s' dct I new eos bare un hok ea q
 obtain⟨hh,g,d,t,os'⟩:=s'
 have e:os'=s1.os:=eos
 subst e
 have I':=I.call' (s':=⟨hh,g,d,t,s1.os⟩) rfl un hok bare (λb z=>absurd z (by simp))
 obtain⟨ox,vs,g1,g2,g3,g4,⟨t0,h0⟩,hv⟩:=Qy hok ea
 have hH1:H1 a=none:=jl I.hok new
 generalize hl:a::frs (ja (CX1 P w) P w K mg base N qual scope f cd A outer s H E).stack=l
 have hin:∀b o,hh.get? b=some o->b∉l->(PySem.W.hideAll hh l).get? b=some o:=λb o e n=>PySem.W.hideAll_get _ e n
 have hst:(PySem.W.hideAll hh l).StaysIn hh:=λb o q=>PySem.W.of_hideAll _ q
 have hff:hh.FunFrames (PySem.W.hideAll hh l) (ja (CX1 P w) P w K mg base N qual scope f cd A outer s H E).stack :=
  PySem.W.funFrames_hide I'.stack λenv he b hb=>by rw[<-hl];exact List.mem_cons_of_mem _ (List.mem_filterMap.mpr ⟨env,he,hb⟩)
 have hna:(PySem.W.hideAll hh l).get? a=none:=PySem.W.hideAll_none _ (by rw[<-hl];exact List.mem_cons_self)
 have nl:∀b,b≠a->b∉frs (ja (CX1 P w) P w K mg base N qual scope f cd A outer s H E).stack->b∉l:=λb x y z=>by
  rw[<-hl]at z
  rcases List.mem_cons.mp z with r | r
  ·exact x r
  ·exact y r
 refine Vx (L:=s.heap.objs.size) (B:=PySem.W.hideAll hh l) (s:=⟨hh,g,d,t,s1.os⟩) I.ok.frames rfl hst hff hna g1 g3 hv h0 λh' fl up=>?_
 rw[g2,g4]at fl
 have ud:=zeE (a:=a) un hH1
 have z:=zaQ (g:=g) (d:=d) (t:=t) (h1:=hh) (C:=C) I rfl (λb hb=>List.mem_cons_of_mem _ hb) ud (λb o e n=>by
   have hb:b≠a:=λz=>by subst z;rw[new]at e;cases e
   obtain⟨o',ho'⟩:=un.there b o e List.not_mem_nil
   exact⟨⟨o',hin b o' ho' (nl b hb n)⟩,λhn=>hin b o (un.keep b o e hn n List.not_mem_nil) (nl b hb n)⟩)
  (λb u e=>by
   by_cases hb:b=a
   ·subst hb;rw[j7]at e;cases e
   ·rw[qu hb]at e
    obtain⟨o,ho⟩:=(hok b u e).obj
    exact⟨o,hin b o ho (nl b hb λz=>by rw[I'.stkFree b z]at e;cases e)⟩) (zb8 hok ea) hst hff up fl bare
 exact⟨a,C,ZY a H',_,_,_,rfl,z,q⟩
end
section
variable {M:Model}{A:Around}{E:Value->Shared->Prop}{s:Shared}{env:Env}
theorem zah {x:Expr}{pos:Pos}{Q:Flow->Shared->Prop}(hh:A.handled=none)
  (h:wpAny M A (eval x env) (λv s₁=>∃e C ox,v = .ref e/\s₁.heap.get? e=some ox/\ox.cls = .ref C/\(∃vs,ox.data = .fields vs/\vs[1]? = some .none)/\XB s₁.heap C/\E (.ref e) s₁) E s) :
  wpAny M A (exec (.Raise (some x) none pos) env) Q E s:=by
 rw[arm_exec_Raise]
 simp only[evalOpt,Option.map]
 refine wpAny_bind (wpAny_standAt ?_)
 unfold raiseStmt
 refine wpAny_bind (wpAny_bind (wpAny_mono h (λv s₁ h₁=>wpAny_bind (wpAny_standAt (wpAny_pure ?_))) λ_ _ x=>x))
 obtain⟨e,C,ox,rfl,he,hc,⟨vs,hdt,hv⟩,⟨nm,qn,N,bs,bm,hd,sn,sub,ab,col,dd,k0,k1,k2,k3,k5,ni,hC,T⟩,hE⟩:=h₁
 have hcB:(Value.ref C::bm).contains (.type "BaseException")=true:=by rw[List.contains_cons,T.hasType (show Vf.contains (.type "BaseException")=true by decide +kernel),Bool.or_true]
 obtain⟨hp,g,d,tk,os⟩:=s₁
 obtain⟨oc,odi,oda,osl⟩:=ox
 dsimp only at hc hdt
 subst hc hdt
 repeat (first | (with_reducible refine wpAny_field he rfl hv ?_) | with_reducible refine wpAny_loadPart_at he ?_ | with_reducible refine wpAny_loadPart_at hC ?_ | (with_reducible refine wpAny_isSubtype_exc hC ?_;rw[hcB]) | wp_step)
 exact wpAny_raiseNew_none hh hE
end
def zcX (C:Addr) (sp:Sp) (J:XJ) (t:TA):TS:=λ_ σ H=>t σ H λvs H1=>vs.length<=sizeLine/\∀p,H1 p=none->sp (.ref p::vs) (upd H1 p (XO p C none)) (λv H2=>v = .non/\∃dct,H2 p=some (XO p C dct)/\J C dct σ (ZY p H2)) E0
section
variable {X:Cx}{J:XJ}{x:Str}{C f:Addr}{np cpos pos:Pos}{e:Expr}{es:List Expr}{t:TA}
theorem XT {k:Nat}{fd:FuncData}{ps:List Str}{sp:Sp}(M:XMk X.K X.base C f) (F:vL X.prog X.w X.K X.mg X.base CX0 k f fd ps sp) (hr:xi (k+1) X.A) (hm:X.mg x=some (.ref C)) (hb:vh X.K fd ps []) (hh:X.A.handled=none) (hJ:Xv X J) (ha:PA X (e::es) t)
  (hg:Gl X x:=by rfl) (hdb:(x == ("__debug__":Str))=false:=by decide) (he:starEach (e::es) X.env=(false,eval e X.env)::starEach es X.env:=by rfl) (hpl:(backTo cpos (starEach es X.env)).any (·.1)=false:=by rfl) :
  PS X (.Raise (some (.Call (.Name x np) (e::es) [] cpos)) none pos) (zcX C sp J t):=by
 intro pins s σ H D I h
 refine zah hh ?_
 refine wpAny_Call_Name_kw (jb I hg hm ?_ hdb)
 refine callWith_K (h₀:=X.base) I.ok.mod.kin M.kp (thn (ha cpos pins s σ H _ I h) λus s1 ⟨vs,H1,I1,r,z,q⟩=>⟨I1.kIn,?_⟩) he hpl
 obtain⟨nm,qn,N,bs,bm,hd,sn,sub,ab,col,dd,k0,k1,k2,k3,k5,mN,hC,hN,hi,T⟩:=M.obj
 obtain⟨oI,hf,hfc⟩:=M.fn
 have hC1:=I1.bk _ _ hC
 have hN1:=hN.keeps I1.bk
 have T1:=T.keeps I1.bk
 have hf1:=I1.bk _ _ hf
 obtain⟨hh,g,d,tk,os⟩:=s1
 refine VU T1 hC1 hN1 hi hf1 hfc (by show us.length<=sizeLine;rw[<-r.length];exact z) λh2 a hma=>?_
 have I2:=zaV (t2:=tk) I1 hma
 have hq:=q a (jl I1.hok hma.new)
 have r2:zU (V.ref a::vs) (Value.ref a::us):=.cons rfl r
 have hl:(Value.ref a::us++[]).length=ps.length:=by
  have e:=r2.length
  rw[F.len _ _ _ _ hq]at e
  rw[List.append_nil];exact e.symm
 refine wpAny_call (codeAny_mono (F.run _ X.stack _ _ ⟨Value.ref a::us,[]⟩ (Value.ref a::us) _ _ E0 (hr.make C us []) (I2.env0.make C us []) (by have:=hb _ (Value.ref a::us) I2.kIn hl;rwa [List.append_nil]at this) r2 hq) λr3 s3 hq3=>?_)
 cases r3 with
 | error e=>exact(show False from hq3).elim
 | ok fl =>
  cases fl with
  | ret u =>
   obtain⟨v,H3,os3,bare3,un3,hok3,rv,ev,dct,ea,q3⟩:=hq3
   subst ev
   have I3:=I2.call' os3 un3 hok3 bare3 (λb z=>absurd z (by simp))
   obtain⟨ox,vs',g1,g2,g3,_,_,hv⟩:=Qy hok3 ea
   have un1:Un (frs X.stack) [] H1 (upd H1 a (XO a C none)) hh h2:=Ve hma.keeps hma.new (jl I1.hok hma.new)
   refine⟨rv,a,C,ox,rfl,g1,g2,⟨vs',g3,hv⟩,⟨nm,qn,N,bs,bm,hd,sn,sub,ab,col,dd,k0,k1,k2,k3,k5,_,I3.bk _ _ hC,T.keeps I3.bk⟩,?_⟩
   exact hJ pins σ H1 _ a C H3 s3 dct I1 hma.new os3 bare3 (un1.trans un3) hok3 ea q3
  | next=>exact False.elim hq3
  | brk=>exact False.elim hq3
  | cont=>exact False.elim hq3
end
def tPF (a:Addr) (d:Option Addr) (ta:TE) (f:Str):TE:=λσ H Q=>ta σ H λx H1=>∃dx fs v,x = .ref a/\d=some dx/\H1 dx=some (.xd fs)/\fs.lookup f=some v/\Q v H1
section
variable {X:Cx}{e:Expr}{f:Str}{pos:Pos}{ta:TE}
theorem zfu {a:Addr}{oe:Obj}{C:Addr}{d:Option Addr}{vs:Array Value}(hp:(a,oe)∈X.pn) (hc:oe.cls = .ref C) (hdd:oe.dict=d) (hd:oe.data = .fields vs) (Z:QB X.K C) (n:xz X.K C f) (he:PE X e ta) (hb:attributeBase e f X.env (eval e X.env)=eval e X.env) :
  PE X (.Attribute e f pos) (tPF a d ta f):=by
 intro pins s σ H Q I h
 refine VY hb (thn (he pins s σ H _ I h) λu s1 ⟨x,H1,I1,rx,dx,fs,v,ex,ed,edx,l,q⟩=>?_)
 subst ex
 obtain rfl:u=Value.ref a:=rx
 obtain⟨mA,hn,hr⟩:=(show xo X.prog X.w H1 s1.heap dx (.xd fs)from I1.hok dx _ edx)
 obtain⟨od,hod,hl⟩:=XN hn
 obtain⟨u,hu,ru⟩:=Xr.some_of (v:=v) (o:=mA f) (by rw[<-l];exact hr f)
 have g1:=(I1.pin _ (List.mem_append_left _ hp)).1
 have hI:InstAt s1.heap a oe C (some od):=⟨g1,hc,by unfold notCls;rw[hd],by rw[hdd,ed];exact hod⟩
 exact zbY I1.kIn hI Z (findObj_own Z.ds n rfl (by rw[hl,hu])) (XI ru) ⟨v,H1,I1.tok _,ru,q⟩
theorem Qa {a:Addr}{oe:Obj}{C:Addr}{d:Option Addr}{vs:Array Value}(hp:(a,oe)∈X.pn) (hc:oe.cls = .ref C) (hdd:oe.dict=d) (hd:oe.data = .fields vs) (Z:QB X.K C) :
  vN X (.builtin "isinstance") (λxs H Q=>∃x c b,xs=[.ref a,x]/\(d=none\/∃dx fs,d=some dx/\H dx=some (.xd fs))/\xj x c/\(∀u,xj x u->u=c)/\PySem.W.kitOne X.K (.ref C) c=some b/\Q (.bl b) H):=by
 intro pins s σ H xs us Q I r h
 obtain⟨x,c,b,rfl,hx,rx,ux,e,q⟩:=h
 obtain⟨u,w',rfl,r1,r2⟩:=ZE r
 cases(show u=Value.ref a from r1)
 cases ux _ r2
 have g1:=(I.pin _ (List.mem_append_left _ hp)).1
 have hI:∃od,InstAt s.heap a oe C od:=by
  rcases hx with rfl | ⟨dx,fs,rfl,edx⟩
  ·exact⟨none,g1,hc,by unfold notCls;rw[hd],by rw[hdd];trivial⟩
  ·obtain⟨mA,⟨o,es,ep,ho,_⟩,_⟩:=(show xo X.prog X.w H s.heap dx (.xd fs)from I.hok dx _ edx)
   exact⟨some o,g1,hc,by unfold notCls;rw[hd],by rw[hdd];exact ho⟩
 obtain⟨od,hI⟩:=hI
 exact PySem.W.kia_one (QP Z) I.kIn ⟨oe,od,hI⟩ e (λz=>nomatch z) λtk=>⟨.bl b,H,I.tok tk,rfl,q⟩
end
end L2
set_option Elab.async false
set_option linter.all false
set_option maxRecDepth 100000
namespace L2
open PySem PySem.Spec PyProof.Rows
def zT (H H':Hp):Prop:=∀b xs,H b=some (.tup xs)->H' b=some (.tup xs)
theorem zT.of {H H':Hp}(h:zh H H'):zT H H':=λb xs e=>h b _ e
theorem zT.trans {H H1 H2:Hp}(a:zT H H1) (b:zT H1 H2):zT H H2:=λc xs e=>b c xs (a c xs e)
theorem zT.upd {H:Hp}{D:Addr}{ys:List V}{o:HO}(h:H D=some (.lst ys)):zT H (upd H D o):=λb xs e=>by rw[zB (λz=>by subst z;rw[h]at e;cases e)];exact e
structure JT (J:It) (H:Hp) (xs:List V):Prop where
 go:∀i H',i<xs.length->zh H H'->J.go i H'
 stop:∀H',zh H H'->J.stop xs.length H'
 yld:∀i x H2 H3,zh H H2->J.yld i H2 x H3->H3=H2/\xs[i]? = some x
theorem xW {K:PySem.W.Frag}{H:Hp}{a:Addr}{xs:List V}(h:H a=some (.lst xs)):JT (Itl K a) H xs :=
 ⟨λi H' hi s=>⟨xs,xs[i],.of (s _ _ h),by simp[hi]⟩,λH' s=>⟨xs,.of (s _ _ h),Nat.le_refl _⟩,λi x H2 H3 s y=>⟨y.1,y.2 xs (.of (s _ _ h))⟩⟩
theorem jV {K:PySem.W.Frag}{H:Hp}{a:Addr}{xs:List V}(h:H a=some (.tup xs)):JT (Itt K a) H xs :=
 ⟨λi H' hi s=>⟨xs,xs[i],.of (s _ _ h),by simp[hi]⟩,λH' s=>⟨xs,.of (s _ _ h),Nat.le_refl _⟩,λi x H2 H3 s y=>⟨y.1,y.2 xs (.of (s _ _ h))⟩⟩
section
variable {J:It}{D:Addr}{n:Nat}{js:List Nat}{σ:St}{g:TG}{te:TE}{Z:Hp->Prop}{H:Hp}{xs:List V}
theorem j6 (R:Nat->V->Hp->Prop) (hR:∀i v H H',zT H H'->R i v H->R i v H') (hD:H D=none) (hJ:JT J H xs) (hl:xs.length<sizeLine)
  (hs:∀i x zs H2 Q',xs[i]? = some x->zs.length=n->zh H H2->(∀v H6,zh H2 H6->R i v H6->Q' v H6)->g x zs H2 λσ4 H4=>te σ4 H4 Q')
  (k:∀ys H',zh H H'->H' D=some (.lst ys)->ys.length=xs.length->(∀i v,ys[i]? = some v->R i v H')->Z H') :
  ∃W:Nat->Nat->Hp->List V->Prop,(∃m,W 0 m (upd H D (.lst [])) [])/\∀i m H2 ys,W i m H2 ys->H2 D=some (.lst ys)->(J.stop i H2/\Z H2) ∨
   (J.go i H2/\∀σB x H3,σB.length=n->J.yld i H2 x H3->g x σB H3 λσ4 H4=>(λ_ H Q=>Q true H:TT) σ4 H4 λb H5=>if b=true then te σ4 H5 (λv H6=>H6 D=some (.lst ys)/\ys.length<sizeLine/\∃m',m'<m/\W (i+1) m' (upd H6 D (.lst (ys++[v]))) (ys++[v]))
    else H5 D=some (.lst ys)/\∃m',m'<m/\W (i+1) m' H5 ys):=by
 refine V2 (Q:=λ_ H=>Z H) (tt:=λ_ H Q=>Q true H) (N:=xs.length) (λi H2 ys=>zh H H2/\ys.length=i/\∀j v,ys[j]? = some v->R j v H2) ⟨zh.upd hD,rfl,λj v e=>by simp at e⟩ (λi H2 ys hi p=>hJ.go i H2 hi p.1) (λH2 ys p=>hJ.stop H2 p.1) ?_ (λH2 ys p e=>k ys H2 p.1 e p.2.1 p.2.2)
 rintro i x zs H2 H3 ys Nx hN hi hz hy ⟨s2,hyl,hyR⟩ hD2
 obtain⟨rfl,hx⟩:=hJ.yld i x H2 H3 s2 hy
 refine hs i x zs H3 _ hx hz s2 λv H6 s6 r6=>⟨s6 _ _ hD2,by omega,hN _ _ ⟨λc o e=>?_,by simp[hyl],λj u e=>?_⟩⟩
 ·rw[zB (zC e hD)];exact s6 _ _ (s2 _ _ e)
 ·have T6:zT H6 (upd H6 D (.lst (ys++[v]))):=.upd (s6 _ _ hD2)
  by_cases hj:j<ys.length
  ·rw[List.getElem?_append_left hj]at e
   exact hR _ _ _ _ ((zT.of s6).trans T6) (hyR j u e)
  ·rw[List.getElem?_append_right (by omega)]at e
   have:j - ys.length=0:=by
    rcases Nat.eq_zero_or_pos (j - ys.length)with z | z
    ·exact z
    ·rw[List.getElem?_eq_none (by simp;omega)]at e;cases e
   rw[this]at e
   simp at e
   subst e
   rw[show j=i by omega]
   exact hR _ _ _ _ T6 r6
theorem qh (R:Nat->V->Hp->Prop) (hR:∀i v H H',zT H H'->R i v H->R i v H') (hD:H D=none) (hJ:JT J H xs) (hl:xs.length<sizeLine)
  (hs:∀i x zs H2 Q',xs[i]? = some x->zs.length=n->zh H H2->(∀v H6,zh H2 H6->R i v H6->Q' v H6)->g x (zs++qO σ js) H2 λσ4 H4=>σ4.drop n=qO σ js/\te σ4 H4 Q')
  (k:∀ys H',zh H H'->H' D=some (.lst ys)->ys.length=xs.length->(∀i v,ys[i]? = some v->R i v H')->Z H') :
  ∃W:Nat->Nat->Hp->List V->Prop,(∃m,W 0 m (upd H D (.lst [])) [])/\∀i m H2 ys,W i m H2 ys->H2 D=some (.lst ys)->(J.stop i H2/\Z H2) ∨
   (J.go i H2/\∀zs x H3,zs.length=n->J.yld i H2 x H3->g x (zs++qO σ js) H3 λσ4 H4=>σ4.drop n=qO σ js/\(λ_ H Q=>Q true H:TT) σ4 H4 λb H5=>if b=true then te σ4 H5 (λv H6=>H6 D=some (.lst ys)/\ys.length<sizeLine/\∃m',m'<m/\W (i+1) m' (upd H6 D (.lst (ys++[v]))) (ys++[v]))
    else H5 D=some (.lst ys)/\∃m',m'<m/\W (i+1) m' H5 ys):=by
 refine jG (Q:=λ_ H=>Z H) (tt:=λ_ H Q=>Q true H) (N:=xs.length) (λi H2 ys=>zh H H2/\ys.length=i/\∀j v,ys[j]? = some v->R j v H2) ⟨zh.upd hD,rfl,λj v e=>by simp at e⟩ (λi H2 ys hi p=>hJ.go i H2 hi p.1) (λH2 ys p=>hJ.stop H2 p.1) ?_ (λH2 ys p e=>k ys H2 p.1 e p.2.1 p.2.2)
 rintro i x zs H2 H3 ys Nx hN hi hz hy ⟨s2,hyl,hyR⟩ hD2
 obtain⟨rfl,hx⟩:=hJ.yld i x H2 H3 s2 hy
 refine hs i x zs H3 _ hx hz s2 λv H6 s6 r6=>⟨s6 _ _ hD2,by omega,hN _ _ ⟨λc o e=>?_,by simp[hyl],λj u e=>?_⟩⟩
 ·rw[zB (zC e hD)];exact s6 _ _ (s2 _ _ e)
 ·have T6:zT H6 (upd H6 D (.lst (ys++[v]))):=.upd (s6 _ _ hD2)
  by_cases hj:j<ys.length
  ·rw[List.getElem?_append_left hj]at e
   exact hR _ _ _ _ ((zT.of s6).trans T6) (hyR j u e)
  ·rw[List.getElem?_append_right (by omega)]at e
   have:j - ys.length=0:=by
    rcases Nat.eq_zero_or_pos (j - ys.length)with z | z
    ·exact z
    ·rw[List.getElem?_eq_none (by simp;omega)]at e;cases e
   rw[this]at e
   simp at e
   subst e
   rw[show j=i by omega]
   exact hR _ _ _ _ T6 r6
end
end L2
namespace L2
open PySem PySem.Spec PyProof.Rows
section
variable {J:It}{D:Addr}{n:Nat}{σ:St}{g:TG}{tt:TT}{te:TE}{Z:Hp->Prop}{H:Hp}{xs:List V}
theorem zaI (p:V->Bool) (hD:H D=none) (hJ:JT J H xs) (hl:xs.length<sizeLine)
  (hs:∀(i:Nat) (x:V) (zs:St) (H2:Hp) (A:VK) (B:Hp->Prop),xs[i]? = some x->zs.length=n->zh H H2->(p x=true->A x H2)->(p x=false->B H2)->g x zs H2 λσ4 H4=>tt σ4 H4 λb H5=>if b=true then te σ4 H5 A else B H5)
  (k:∀H',zh H H'->H' D=some (.lst (xs.filter p))->Z H') :
  ∃W:Nat->Nat->Hp->List V->Prop,(∃m,W 0 m (upd H D (.lst [])) [])/\∀i m H2 ys,W i m H2 ys->H2 D=some (.lst ys)->(J.stop i H2/\Z H2) ∨
   (J.go i H2/\∀σB x H3,σB.length=n->J.yld i H2 x H3->g x σB H3 λσ4 H4=>tt σ4 H4 λb H5=>if b=true then te σ4 H5 (λv H6=>H6 D=some (.lst ys)/\ys.length<sizeLine/\∃m',m'<m/\W (i+1) m' (upd H6 D (.lst (ys++[v]))) (ys++[v]))
    else H5 D=some (.lst ys)/\∃m',m'<m/\W (i+1) m' H5 ys):=by
 refine V2 (Q:=λ_ H=>Z H) (tt:=tt) (N:=xs.length) (λi H2 ys=>zh H H2/\ys=(xs.take i).filter p) ⟨zh.upd hD,rfl⟩ (λi H2 ys hi p=>hJ.go i H2 hi p.1) (λH2 ys p=>hJ.stop H2 p.1) ?_ (λH2 ys q e=>k H2 q.1 (by rw[e,q.2,List.take_length]))
 rintro i x zs H2 H3 ys Nx hN hi hz hy ⟨s2,rfl⟩ hD2
 obtain⟨rfl,hx⟩:=hJ.yld i x H2 H3 s2 hy
 have et:xs.take (i+1)=xs.take i++[x]:=by rw[List.take_add_one,hx];rfl
 refine hs i x zs H3 _ _ hx hz s2 (λhp=>⟨hD2,?_,hN _ _ ⟨λc o e=>?_,?_⟩⟩) (λhp=>⟨hD2,hN _ _ ⟨s2,?_⟩⟩)
 ·have:=List.length_filter_le p (xs.take i)
  have:=List.length_take_le i xs
  omega
 ·rw[zB (zC e hD)];exact s2 _ _ e
 ·rw[et,List.filter_append];simp[hp]
 ·rw[et,List.filter_append];simp[hp]
end
end L2
set_option Elab.async false
set_option linter.all false
set_option maxRecDepth 100000
namespace L2
open PySem PySem.Spec PyProof.Rows
section
variable {prog:Program}{w:World}{A:Around}{E:Value->Shared->Prop}{s:Shared}
theorem ZL {j t:Addr}{i:Nat}{vs:Array Value}{x:Value}{Q:Value->Shared->Prop}(kj:s.heap.IsListIter j t i) (kt:s.heap.IsList t vs) (kx:vs[i]? = some x)
  (q:∀h',h'.IsListIter j t (i+1)->Heap.SameBut j s.heap h'->Q x { s with heap:=h' }):wpAny (model prog w) A (Builtin.SmallTypes.nextOf (.ref j)) Q E s:=by
 obtain⟨oj,e1,e2,e3⟩:=id kj
 obtain⟨ot,f1,_,nt,f3⟩:=kt
 unfold Builtin.SmallTypes.nextOf
 refine wpAny_bind (wpAny_callSpecial?_slot (name:=Str.ofString "__next__") kj.typeIs slot_listiter_next (wpAny_call_entry slot_listiter_next kj.typeIs entry_listiter_next ?_ (args_listiter_next _)))
 show wpAny _ _ (field (.ref j) 0 >>= _) _ _ s
 refine wpAny_bind (wpAny_field e1 e3 (x:=.ref t) rfl ?_)
 show wpAny _ _ (if(Value.ref t == .none)=true then _ else _) _ _ s
 rw[if_neg (show ¬((Value.ref t == .none)=true)from Bool.false_ne_true)]
 show wpAny _ _ (field (.ref j) 1 >>= _) _ _ s
 refine wpAny_bind (wpAny_field e1 e3 (x:=.int i 0) rfl (?_:wpAny _ _ (seqItems? (.ref t) >>= _) _ _ s))
 refine wpAny_bind (wpAny_seqItems f1 f3 ?_)
 simp only[Int.toNat_natCast,kx]
 refine wpAny_bind (wpAny_setField e1 e3 (by simp) (wpAny_pure ⟨x,rfl,wpAny_pure (q _ ⟨_,Heap.get?_update_self _ e1 (Obj.isFreed_of_fields (Obj.data_mapFields e3 _)),(Obj.cls_mapFields ..).trans e2,?_⟩ (Heap.SameBut.update ..))⟩))
 rw[Obj.data_mapFields e3];simp[rawInt]
theorem VB {j t:Addr}{i:Nat}{vs:Array Value}{Q:Value->Shared->Prop}(hh:A.handled=none) (kj:s.heap.IsListIter j t i) (kt:s.heap.IsList t vs) (kx:vs[i]? = none)
  (q:∀h' e,Heap.ExtBut j s.heap h'->(∃o,h'.get? e=some o/\o.cls = .type "StopIteration")->E (.ref e) { s with heap:=h' }):wpAny (model prog w) A (Builtin.SmallTypes.nextOf (.ref j)) Q E s:=by
 obtain⟨oj,e1,e2,e3⟩:=id kj
 obtain⟨ot,f1,_,nt,f3⟩:=kt
 unfold Builtin.SmallTypes.nextOf
 refine wpAny_bind (wpAny_callSpecial?_slot (name:=Str.ofString "__next__") kj.typeIs slot_listiter_next (wpAny_call_entry slot_listiter_next kj.typeIs entry_listiter_next ?_ (args_listiter_next _)))
 show wpAny _ _ (field (.ref j) 0 >>= _) _ _ s
 refine wpAny_bind (wpAny_field e1 e3 (x:=.ref t) rfl ?_)
 show wpAny _ _ (if(Value.ref t == .none)=true then _ else _) _ _ s
 rw[if_neg (show ¬((Value.ref t == .none)=true)from Bool.false_ne_true)]
 show wpAny _ _ (field (.ref j) 1 >>= _) _ _ s
 refine wpAny_bind (wpAny_field e1 e3 (x:=.int i 0) rfl (?_:wpAny _ _ (seqItems? (.ref t) >>= _) _ _ s))
 refine wpAny_bind (wpAny_seqItems f1 f3 ?_)
 simp only[Int.toNat_natCast,kx]
 refine wpAny_bind (wpAny_rule (wpAny_bind (wpAny_setField e1 e3 (by simp) (?_:wpAny _ _ (newExc (.type "StopIteration") [] >>= _) _ _ _))))
 refine wpAny_bind ?_
 simp only[newExc,newTuple]
 refine wpAny_bind (wpAny_newObj_type (wpAny_bind (m:=firstArgMember _ _) (wpAny_of_eq (a:=Value.none) (by first | rfl | (simp only[firstArgMember];rfl)) (wpAny_newObj_type ?_ (by size_fits)))) (by size_fits))
 simp only[raiseNew]
 refine wpAny_bind (wpAny_handled (?_))
 first | rw[show A.in1.handled=none from hh] | rw[hh]
 exact wpAny_bind (wpAny_pure (wpAny_throw (q _ _ (((Heap.SameBut.update ..).extBut.push _).push _) ⟨_,Heap.get?_push_size _ rfl,rfl⟩)))
structure ZTL (z TI TO j1 j2 t1 t2:Addr) (f0:Value) (i1 i2:Nat) (h:Heap):Prop where
 z:IsZip h z TI TO f0
 ti:IsPair h TI (.ref j1) (.ref j2)
 to:∃a b,IsPair h TO a b
 i1:h.IsListIter j1 t1 i1
 i2:h.IsListIter j2 t2 i2
section
variable {z TI TO j1 j2 t1 t2:Addr}{i:Nat}{xs ys:Array Value}
theorem vZ {h:Heap}{f0:Value}{vs:Array Value}{t:Addr}(ht:h.IsList t vs) (hz:IsZip h z TI TO f0):t≠z:=λe=>by
 obtain⟨o,e1,e2,_⟩:=ht
 rw[e,hz]at e1;cases e1;simp at e2
theorem QR {h:Heap}{vs:Array Value}{t j u:Addr}{n:Nat}(ht:h.IsList t vs) (hj:h.IsListIter j u n):t≠j:=λe=>by
 obtain⟨o,e1,e2,_⟩:=ht
 obtain⟨o',f1,f2,_⟩:=hj
 rw[e,f1]at e1;cases e1;rw[f2]at e2;simp at e2
theorem zc3 {x y:Value}{Q:Option Value->Shared->Prop}(D:ZNe z TI TO j1 j2) (Z:ZTL z TI TO j1 j2 t1 t2 .none i i s.heap) (k1:s.heap.IsList t1 xs) (k2:s.heap.IsList t2 ys) (n1:t1≠TO) (n2:t2≠TO) (ex:xs[i]? = some x) (ey:ys[i]? = some y)
  (q:∀h',ZTL z TI TO j1 j2 t1 t2 (rawInt s.heap.objs.size) (i+1) (i+1) h'->IsPair h' s.heap.objs.size x y->h'.objs.size=s.heap.objs.size+1 →
   (∀c o,c≠z->c≠TO->c≠j1->c≠j2->s.heap.get? c=some o->h'.get? c=some o)->Q (some (.ref s.heap.objs.size)) { s with heap:=h' }):wpAny (model prog w) A (pyNext (.ref z)) Q E s:=by
 obtain⟨Zz,Zi,⟨a,b,Zo⟩,Z1,Z2⟩:=Z
 have ty:s.TypeIs (.ref z) "zip":=⟨_,Zz,rfl⟩
 unfold pyNext
 refine wpAny_bind (wpAny_attempt (wpAny_callSpecial?_slot (name:=Str.ofString "__next__") ty F.slot_zip_next (wpAny_call_entry F.slot_zip_next ty F.entry_zip_next ?_ (F.args_zip_next_1 _))))
 show wpAny _ _ (field (.ref z) 2 >>= _) _ _ s
 refine wpAny_bind (wpAny_field Zz rfl (x:=.bool false) rfl (?_:wpAny _ _ (field (.ref z) 3 >>= _) _ _ s))
 refine wpAny_bind (wpAny_field Zz rfl (x:=.ref TI) rfl (wpAny_bind (wpAny_seqItems Zi rfl (?_:wpAny _ _ (Builtin.SmallTypes.ownedTupleIsFree (.ref z) >>= _) _ _ s))))
 refine wpAny_bind ?_;unfold Builtin.SmallTypes.ownedTupleIsFree
 refine wpAny_bind (wpAny_field Zz rfl (x:=.none) rfl (wpAny_pure ?_))
 simp only[if_true]
 refine wpAny_bind (wpAny_rule (wpAny_bind (wpAny_field Zz rfl (x:=.ref TO) rfl (wpAny_bind (wpAny_setField_rec Zz (by simp) λg1 Zz1 m1=>?_)))))
 replace Zz1:IsZip g1 z TI TO .ellipsis:=Zz1
 refine wpAny_bind ?_;simp only[List.zipIdx_cons,List.zipIdx_nil,List.forIn_cons,List.forIn_nil]
 refine wpAny_bind (wpAny_bind (wpAny_onRaise (?_:wpAny _ _ (Builtin.SmallTypes.nextOf (.ref j1) >>= _) _ _ _)))
 refine wpAny_bind (ZL (Z1.extBut m1.extBut D.c) (k1.extBut m1.extBut (vZ k1 Zz)) ex λg2 Z12 m2=>wpAny_pure ?_)
 have Zo2:IsPair g2 TO a b:=m2.extBut _ _ D.k (m1.extBut _ _ D.b Zo)
 refine wpAny_bind (wpAny_seqItems Zo2 rfl (wpAny_bind (wpAny_updateSeq_pair Zo2 λg3 Zo3 m3=>wpAny_bind (wpAny_letGo (wpAny_pure ?_)))))
 replace Zo3:IsPair g3 TO x b:=Zo3
 refine wpAny_bind (wpAny_bind (wpAny_onRaise (?_:wpAny _ _ (Builtin.SmallTypes.nextOf (.ref j2) >>= _) _ _ _)))
 refine wpAny_bind (ZL (((Z2.extBut m1.extBut D.d).extBut m2.extBut D.m.symm).extBut m3.extBut D.l.symm) (((k2.extBut m1.extBut (vZ k2 Zz)).extBut m2.extBut (QR k2 Z1)).extBut m3.extBut n2) ey λg4 Z24 m4=>wpAny_pure ?_)
 have Zo4:IsPair g4 TO x b:=m4.extBut _ _ D.l Zo3
 refine wpAny_bind (wpAny_seqItems Zo4 rfl (wpAny_bind (wpAny_updateSeq_pair Zo4 λg5 Zo5 m5=>wpAny_bind (wpAny_letGo (wpAny_pure (wpAny_pure ?_))))))
 replace Zo5:IsPair g5 TO x y:=Zo5
 refine wpAny_bind (wpAny_seqItems Zo5 rfl (wpAny_bind (wpAny_newTuple ?_)))
 have sz:g5.objs.size=s.heap.objs.size:=by rw[m5.1,m4.1,m3.1,m2.1,m1.1]
 have Zz5:IsZip g5 z TI TO .ellipsis:=m5.extBut _ _ D.b.symm (m4.extBut _ _ D.d.symm (m3.extBut _ _ D.b.symm (m2.extBut _ _ D.c.symm Zz1)))
 have kp:∀c o,c≠z->c≠TO->c≠j1->c≠j2->s.heap.get? c=some o->g5.get? c=some o:=λc o c1 c2 c3 c4 e=>m5.extBut _ _ c2 (m4.extBut _ _ c4 (m3.extBut _ _ c2 (m2.extBut _ _ c3 (m1.extBut _ _ c1 e))))
 have Z15:g5.IsListIter j1 t1 (i+1):=((Z12.extBut m3.extBut D.k.symm).extBut m4.extBut D.m).extBut m5.extBut D.k.symm
 have Z25:g5.IsListIter j2 t2 (i+1):=Z24.extBut m5.extBut D.l.symm
 have zlt:g5.objs.size≠z:=Nat.ne_of_gt (Heap.lt_size Zz5)
 show wpAny _ _ (Builtin.SmallTypes.ownedTupleHandOut (.ref z) (.ref g5.objs.size) >>= _) _ _ _
 refine wpAny_bind ?_;unfold Builtin.SmallTypes.ownedTupleHandOut
 refine wpAny_bind (wpAny_setField_rec (Heap.get?_push_of_some _ Zz5) (by simp) λg7 Zz7 m7=>?_)
 replace Zz7:IsZip g7 z TI TO (rawInt g5.objs.size):=Zz7
 refine wpAny_setField_rec Zz7 (by simp) λg8 Zz8 m8=>?_
 replace Zz8:IsZip g8 z TI TO (rawInt g5.objs.size):=Zz8
 have up:∀c o,c≠z->g5.get? c=some o->g8.get? c=some o:=λc o c1 e=>m8.extBut _ _ c1 (m7.extBut _ _ c1 (Heap.get?_push_of_some _ e))
 have T8:IsPair g8 g5.objs.size x y:=m8.extBut _ _ zlt (m7.extBut _ _ zlt (Heap.get?_push_size _ rfl))
 have s8:g8.objs.size=g5.objs.size+1:=by rw[m8.1,m7.1,Heap.size_push]
 refine wpAny_pure ⟨_,rfl,wpAny_pure ?_⟩
 rw[sz]at Zz8 T8 s8
 show Q (some (.ref g5.objs.size)) _
 rw[sz]
 exact q g8 ⟨Zz8,up _ _ D.a (kp _ _ D.a D.e D.f D.g Zi),⟨_,_,up _ _ D.b Zo5⟩,Z15.at λo e=>up _ o D.c e,Z25.at λo e=>up _ o D.d e⟩ T8 s8 λc o c1 c2 c3 c4 e=>up c o c1 (kp c o c1 c2 c3 c4 e)
theorem zeG {Q:Option Value->Shared->Prop}(hh:A.handled=none) (D:ZNe z TI TO j1 j2) (Z:ZTL z TI TO j1 j2 t1 t2 .none i i s.heap) (k1:s.heap.IsList t1 xs) (k2:s.heap.IsList t2 ys) (n2:t2≠TO) (en:xs[i]? = none\/ys[i]? = none)
  (q:∀h',(∀c o,c≠z->c≠TO->c≠j1->c≠j2->s.heap.get? c=some o->h'.get? c=some o)->Q none { s with heap:=h' }):wpAny (model prog w) A (pyNext (.ref z)) Q E s:=by
 obtain⟨Zz,Zi,⟨a,b,Zo⟩,Z1,Z2⟩:=Z
 have ty:s.TypeIs (.ref z) "zip":=⟨_,Zz,rfl⟩
 have fin:∀(g':Heap) (e:Addr),(∀c o,c≠z->c≠TO->c≠j1->c≠j2->s.heap.get? c=some o->g'.get? c=some o)->(∃o,g'.get? e=some o/\o.cls = .type "StopIteration") →
   wpAny (model prog w) A (do if <-isInstance (.ref e) (.type "StopIteration")then pure none else throw (.ref e):Sem (Option Value)) Q E { s with heap:=g' }:=λg' e kk ⟨o,ho,hc⟩ =>
  wpAny_bind (wpAny_isInstance (T:="StopIteration") (b:=true) ⟨o,ho,hc⟩ isSubtype_stop (wpAny_pure (q g' kk)))
 unfold pyNext
 refine wpAny_bind (wpAny_attempt (wpAny_callSpecial?_slot (name:=Str.ofString "__next__") ty F.slot_zip_next (wpAny_call_entry F.slot_zip_next ty F.entry_zip_next ?_ (F.args_zip_next_1 _))))
 show wpAny _ _ (field (.ref z) 2 >>= _) _ _ s
 refine wpAny_bind (wpAny_field Zz rfl (x:=.bool false) rfl (?_:wpAny _ _ (field (.ref z) 3 >>= _) _ _ s))
 refine wpAny_bind (wpAny_field Zz rfl (x:=.ref TI) rfl (wpAny_bind (wpAny_seqItems Zi rfl (?_:wpAny _ _ (Builtin.SmallTypes.ownedTupleIsFree (.ref z) >>= _) _ _ s))))
 refine wpAny_bind ?_;unfold Builtin.SmallTypes.ownedTupleIsFree
 refine wpAny_bind (wpAny_field Zz rfl (x:=.none) rfl (wpAny_pure ?_))
 simp only[if_true]
 refine wpAny_bind (wpAny_rule (wpAny_bind (wpAny_field Zz rfl (x:=.ref TO) rfl (wpAny_bind (wpAny_setField_rec Zz (by simp) λg1 Zz1 m1=>?_)))))
 replace Zz1:IsZip g1 z TI TO .ellipsis:=Zz1
 refine wpAny_bind ?_;simp only[List.zipIdx_cons,List.zipIdx_nil,List.forIn_cons,List.forIn_nil]
 refine wpAny_bind (wpAny_bind (wpAny_onRaise (?_:wpAny _ _ (Builtin.SmallTypes.nextOf (.ref j1) >>= _) _ _ _)))
 cases ex:xs[i]? with
 | none =>
  refine wpAny_bind (VB hh (Z1.extBut m1.extBut D.c) (k1.extBut m1.extBut (vZ k1 Zz)) ex λg2 e m2 ⟨oe,e1,e2⟩=>?_)
  have Zz2:IsZip g2 z TI TO .ellipsis:=m2 _ _ D.c.symm Zz1
  have ne:e≠z:=λr=>by subst r;rw[Zz2]at e1;cases e1;simp at e2
  exact wpAny_setField_rec Zz2 (by simp) λg3 _ m3=>fin g3 e (λc o c1 _ c3 _ r=>m3.extBut _ _ c1 (m2 _ _ c3 (m1.extBut _ _ c1 r))) ⟨oe,m3.extBut _ _ ne e1,e2⟩
 | some x =>
  have ey:ys[i]? = none:=by
   rcases en with r | r
   ·rw[ex]at r;cases r
   ·exact r
  refine wpAny_bind (ZL (Z1.extBut m1.extBut D.c) (k1.extBut m1.extBut (vZ k1 Zz)) ex λg2 Z12 m2=>wpAny_pure ?_)
  have Zo2:IsPair g2 TO a b:=m2.extBut _ _ D.k (m1.extBut _ _ D.b Zo)
  refine wpAny_bind (wpAny_seqItems Zo2 rfl (wpAny_bind (wpAny_updateSeq_pair Zo2 λg3 Zo3 m3=>wpAny_bind (wpAny_letGo (wpAny_pure ?_)))))
  refine wpAny_bind (wpAny_bind (wpAny_onRaise (?_:wpAny _ _ (Builtin.SmallTypes.nextOf (.ref j2) >>= _) _ _ _)))
  refine wpAny_bind (VB hh (((Z2.extBut m1.extBut D.d).extBut m2.extBut D.m.symm).extBut m3.extBut D.l.symm) (((k2.extBut m1.extBut (vZ k2 Zz)).extBut m2.extBut (QR k2 Z1)).extBut m3.extBut n2) ey λg4 e m4 ⟨oe,e1,e2⟩=>?_)
  have Zz4:IsZip g4 z TI TO .ellipsis:=m4 _ _ D.d.symm (m3.extBut _ _ D.b.symm (m2.extBut _ _ D.c.symm Zz1))
  have ne:e≠z:=λr=>by subst r;rw[Zz4]at e1;cases e1;simp at e2
  exact wpAny_setField_rec Zz4 (by simp) λg5 _ m5=>fin g5 e (λc o c1 c2 c3 c4 r=>m5.extBut _ _ c1 (m4 _ _ c4 (m3.extBut _ _ c2 (m2.extBut _ _ c3 (m1.extBut _ _ c1 r))))) ⟨oe,m5.extBut _ _ ne e1,e2⟩
end
end
def zav (K:PySem.W.Frag) (t1 t2:Addr):It :=
 ⟨λi H=>∃xs ys x y,SqL K H t1 xs/\SqL K H t2 ys/\xs[i]? = some x/\ys[i]? = some y,
  λi H v H'=>∃T x y,v = .ref T/\H T=none/\H'=upd H T (.tup [x,y])/\(∀xs,SqL K H t1 xs->xs[i]? = some x)/\∀ys,SqL K H t2 ys->ys[i]? = some y,
  λi H=>∃xs ys,SqL K H t1 xs/\SqL K H t2 ys/\(xs.length<=i\/ys.length<=i)⟩
theorem zas {P:Program}{w:World}{K:PySem.W.Frag}{elts:List Expr}{kc:Nat}{tp:Pos}(z TI TO j1 j2 t1 t2:Addr) (D:ZNe z TI TO j1 j2) (n1:t1≠TO) (n2:t2≠TO) :
  Vk P w K (.Tuple elts kc tp) (zav K t1 t2) [z,TI,TO,j1,j2] z (λi h=>ZTL z TI TO j1 j2 t1 t2 .none i i h) where
 mem:=by simp
 obj:=λi h st b hb=>by
  obtain⟨Zz,Zi,⟨u,v,Zo⟩,⟨o1,e1,_,d1⟩,⟨o2,e2,_,d2⟩⟩:=st
  simp only[List.mem_cons,List.not_mem_nil,or_false]at hb
  rcases hb with rfl | rfl | rfl | rfl | rfl
  ·exact⟨_,Zz,λ_ r=>by cases r⟩
  ·exact⟨_,Zi,λ_ r=>by cases r⟩
  ·exact⟨_,Zo,λ_ r=>by cases r⟩
  ·exact⟨_,e1,λ_ r=>by rw[d1]at r;cases r⟩
  ·exact⟨_,e2,λ_ r=>by rw[d2]at r;cases r⟩
 keep:=λi h h' st k=>by
  obtain⟨Zz,Zi,⟨u,v,Zo⟩,Z1,Z2⟩:=st
  exact⟨k z (by simp) _ Zz,k TI (by simp) _ Zi,⟨u,v,k TO (by simp) _ Zo⟩,Z1.at λo e=>k j1 (by simp) o e,Z2.at λo e=>k j2 (by simp) o e⟩
 item:=by
  intro X hP hw hK hc i pins s σ H E I hf st hg
  subst hP hw hK
  obtain⟨xs,ys,x,y,h1,h2,ex,ey⟩:=hg
  obtain⟨us,r1,p1',_⟩:=I.list h1
  have p1:=p1'.isList
  obtain⟨vs,r2,p2',_⟩:=I.list h2
  have p2:=p2'.isList
  obtain⟨ux,eu,rx⟩:=r1.get ex
  obtain⟨uy,ev,ry⟩:=r2.get ey
  refine zc3 D st (xs:=us.toArray) (ys:=vs.toArray) p1 p2 n1 n2 (x:=ux) (y:=uy) (by simpa using eu) (by simpa using ev) λh' st' pr sz kk=>⟨_,rfl,?_⟩
  obtain⟨Zz,Zi,⟨ua,ub,Zo⟩,Z1,Z2⟩:=st'
  refine wpAny_letOwnedTupleGo_zip Zz λh2' Zz' sb=>?_
  have hTz:s.heap.objs.size≠z:=Nat.ne_of_gt (Heap.lt_size st.z)
  have kk2:∀c o,c≠z->c≠TO->c≠j1->c≠j2->s.heap.get? c=some o->h2'.get? c=some o:=λc o c1 c2 c3 c4 e=>(sb.2 c c1).trans (kk c o c1 c2 c3 c4 e)
  have prT:h2'.get? s.heap.objs.size=some { cls:=.type "tuple",data:=.seq #[ux,uy] }:=(sb.2 _ hTz).trans pr
  have hT:H s.heap.objs.size=none:=I.hok.fresh (Nat.le_refl _)
  have neC:∀b,b∉[z,TO,j1,j2]->b≠z/\b≠TO/\b≠j1/\b≠j2:=λb hb=>by simpa using hb
  have trk:∀b u,H b=some u->b≠z/\b≠TO/\b≠j1/\b≠j2:=λb u e=>by
   refine⟨?_,?_,?_,?_⟩ <;> rintro rfl
   ·rw[(hf b (by simp)).1]at e;cases e
   ·rw[(hf b (by simp)).1]at e;cases e
   ·rw[(hf b (by simp)).1]at e;cases e
   ·rw[(hf b (by simp)).1]at e;cases e
  have ltT:∀b o,s.heap.get? b=some o->b≠s.heap.objs.size:=λb o e=>Nat.ne_of_lt (Heap.lt_size e)
  have u:Un (frs X.stack) [z,TO,j1,j2] H (upd H s.heap.objs.size (.tup [x,y])) s.heap h2' :=
   ⟨λb o e n _ hb=>by obtain⟨c1,c2,c3,c4⟩:=neC b hb;exact kk2 b o c1 c2 c3 c4 e,λb o e n _ hb=>by obtain⟨c1,c2,c3,c4⟩:=neC b hb;exact⟨o.slots,kk2 b o c1 c2 c3 c4 e⟩,
    λb o e n hb=>by rw[zB (ltT b o e)];exact n,λb o e hb=>by obtain⟨c1,c2,c3,c4⟩:=neC b hb;exact⟨o,kk2 b o c1 c2 c3 c4 e⟩,
    λb ws e=>by rw[zB (zC e hT)];exact e,λb o ws e=>by rw[zB (zC e hT)];exact e,λb ps e=>⟨#[],by rw[zB (zC e hT),e];simp⟩⟩
  have hok:HOk X.prog X.w (upd H s.heap.objs.size (.tup [x,y])) h2':=λb ob e=>by
   by_cases hb:b=s.heap.objs.size
   ·subst hb
    rw[zf]at e;cases e
    exact⟨by show 2<=sizeLine;decide,[ux,uy],.cons rx (.cons ry .nil),_,prT,rfl,0,rfl⟩
   ·rw[zB hb]at e
    refine(I.hok b ob e).stay (λc v hc' qc=>?_) (λc q=>by rw[zB (zC q hT)];exact q) λc ws q=>by rw[zB (zC q hT)];exact q
    have:∃o,H c=some o:=by
     rcases hc' with rfl | hc'
     ·exact⟨_,e⟩
     ·exact⟨_,hc'⟩
    obtain⟨o,ho⟩:=this
    obtain⟨c1,c2,c3,c4⟩:=trk c o ho
    exact kk2 c v c1 c2 c3 c4 qc
  refine⟨.ref s.heap.objs.size,upd H s.heap.objs.size (.tup [x,y]),?_,rfl,⟨_,x,y,rfl,hT,rfl,λxs' h=>by rw[I.list_inj h h1];exact ex,λys' h=>by rw[I.list_inj h h2];exact ey⟩,
   ⟨Zz',(sb.2 _ D.a).trans Zi,⟨_,_,(sb.2 _ D.b).trans Zo⟩,Z1.at λo e=>(sb.2 _ D.c).trans e,Z2.at λo e=>(sb.2 _ D.d).trans e⟩,λb hb=>?_⟩
  ·refine I.call' (s':={ s with heap:=h2' }) (ch:=[z,TO,j1,j2]) rfl u hok I.bare λb hb=>?_
   obtain⟨_,z1,z2,z3,z4,z5⟩:=hf b (by simp only[List.mem_cons,List.not_mem_nil,or_false]at hb ⊢;rcases hb with r | r | r | r <;> simp[r])
   exact⟨z3,z1,z4,z5⟩
  ·obtain⟨o,e,_⟩:∃o,s.heap.get? b=some o/\True:=by
    obtain⟨Zz,Zi,⟨u,v,Zo⟩,⟨o1,e1,_,d1⟩,⟨o2,e2,_,d2⟩⟩:=st
    simp only[List.mem_cons,List.not_mem_nil,or_false]at hb
    rcases hb with rfl | rfl | rfl | rfl | rfl
    ·exact⟨_,Zz,trivial⟩
    ·exact⟨_,Zi,trivial⟩
    ·exact⟨_,Zo,trivial⟩
    ·exact⟨_,e1,trivial⟩
    ·exact⟨_,e2,trivial⟩
   rw[zB (ltT b o e)];exact(hf b hb).1
 done:=by
  intro X hP hw hK hc i pins s σ H E I hf st hg
  subst hP hw hK
  obtain⟨xs,ys,h1,h2,en⟩:=hg
  obtain⟨us,r1,p1',_⟩:=I.list h1
  have p1:=p1'.isList
  obtain⟨vs,r2,p2',_⟩:=I.list h2
  have p2:=p2'.isList
  have l1:=r1.length
  have l2:=r2.length
  refine zeG (I.ok.hd hc) D st (xs:=us.toArray) (ys:=vs.toArray) p1 p2 n2 (by rcases en with r | r;exact .inl (by simp;omega);exact .inr (by simp;omega)) λh' kk=>⟨rfl,?_⟩
  have neC:∀b,b∉[z,TO,j1,j2]->b≠z/\b≠TO/\b≠j1/\b≠j2:=λb hb=>by simpa using hb
  have u:Un (frs X.stack) [z,TO,j1,j2] H H s.heap h' :=
   ⟨λb o e n _ hb=>by obtain⟨c1,c2,c3,c4⟩:=neC b hb;exact kk b o c1 c2 c3 c4 e,λb o e n _ hb=>by obtain⟨c1,c2,c3,c4⟩:=neC b hb;exact⟨o.slots,kk b o c1 c2 c3 c4 e⟩,
    λb o e n hb=>n,λb o e hb=>by obtain⟨c1,c2,c3,c4⟩:=neC b hb;exact⟨o,kk b o c1 c2 c3 c4 e⟩,λb ws e=>e,λb o ws e=>e,λb ps e=>⟨#[],by rw[e];simp⟩⟩
  have hok:HOk X.prog X.w H h':=λb ob e=>by
   refine(I.hok b ob e).stay (λc v hc' qc=>?_) (λc q=>q) λc ws q=>q
   have:∃o,H c=some o:=by
    rcases hc' with rfl | hc'
    ·exact⟨_,e⟩
    ·exact⟨_,hc'⟩
   obtain⟨o,ho⟩:=this
   have nn:∀d∈[z,TI,TO,j1,j2],c≠d:=λd hd r=>by subst r;rw[(hf c hd).1]at ho;cases ho
   exact kk c v (nn _ (by simp)) (nn _ (by simp)) (nn _ (by simp)) (nn _ (by simp)) qc
  refine I.call' (s':={ s with heap:=h' }) (ch:=[z,TO,j1,j2]) rfl u hok I.bare λb hb=>?_
  obtain⟨_,z1,z2,z3,z4,z5⟩:=hf b (by simp only[List.mem_cons,List.not_mem_nil,or_false]at hb ⊢;rcases hb with r | r | r | r <;> simp[r])
  exact⟨z3,z1,z4,z5⟩
 self:=λ_ _ _ _ _ st h=>wpAny_pyIter_zip st.z h
def zq1 (h:Heap) (t:Addr):Heap:=h.push { cls:=.type "list_iterator",data:=.fields #[.ref t,.int 0 0] }
theorem Vj (h:Heap) (t:Addr):(zq1 h t).objs.size=h.objs.size+1:=Heap.size_push ..
def zq5 (h:Heap) (t u:Addr):Heap:=(((zq1 (zq1 h t) u).push { cls:=.type "tuple",data:=.seq #[.ref h.objs.size,.ref (zq1 h t).objs.size] }).push { cls:=.type "tuple",data:=.seq #[.none,.none] }).push
 { cls:=.type "zip",data:=.fields #[.none,.bool false,.bool false,.ref (h.objs.size+2),.ref (h.objs.size+3)] }
theorem zbS (t u:Addr) (xs ys:Array Value):Meets (Builtin.«zip.__new__» ⟨[.type "zip",.ref t,.ref u],[]⟩) (λ_ R s=>s.heap.IsList t xs/\s.heap.IsList u ys/\R (.ok (.ret (.ref (s.heap.objs.size+4)))) { s with heap:=zq5 s.heap t u }) :=
 .of_wp λprog w A R s h=>by
  obtain⟨hp,g,d,tk,os⟩:=s;obtain⟨k1,k2,h⟩:=h
  have hs:=sub_zip
  have z1:(hp.push { cls:=.type "list_iterator",data:=.fields #[.ref t,.int 0 0] }).objs.size=hp.objs.size+1:=Heap.size_push ..
  have K1:Heap.IsList (Shared.heap ⟨hp,g,d,tk,os⟩) t xs:=k1
  have K2:Heap.IsList (Shared.heap ⟨hp.push { cls:=.type "list_iterator",data:=.fields #[.ref t,.int 0 0] },g,d,tk,os⟩) u ys:=k2.push _
  wp_walk using wpAny_pyIter_list K1,wpAny_pyIter_list K2
  refine⟨_,rfl,?_⟩
  unfold zq5 zq1 at h
  simp only[Heap.size_push]at h ⊢
  exact h
section
variable {X:Cx}
def zeS (K:PySem.W.Frag) (t:TA):TI:=λσ H R=>t σ H λvs H1=>∃t1 t2,vs=[.ref t1,.ref t2]/\(∃xs,SqL K H1 t1 xs)/\(∃ys,SqL K H1 t2 ys)/\R (zav K t1 t2) H1
theorem zc5 {h:Heap}{t u:Addr}:IsZip (zq5 h t u) (h.objs.size+4) (h.objs.size+2) (h.objs.size+3) .none/\IsPair (zq5 h t u) (h.objs.size+2) (.ref h.objs.size) (.ref (h.objs.size+1))/\IsPair (zq5 h t u) (h.objs.size+3) .none .none ∧
  (zq5 h t u).IsListIter h.objs.size t 0/\(zq5 h t u).IsListIter (h.objs.size+1) u 0/\∀c o,h.get? c=some o->(zq5 h t u).get? c=some o:=by
 have z1:=Vj h t
 have z2:(zq1 (zq1 h t) u).objs.size=h.objs.size+2:=by rw[Vj,z1]
 have z3:((zq1 (zq1 h t) u).push { cls:=.type "tuple",data:=.seq #[.ref h.objs.size,.ref (zq1 h t).objs.size] }).objs.size=h.objs.size+3:=by rw[Heap.size_push,z2]
 have z4:(((zq1 (zq1 h t) u).push { cls:=.type "tuple",data:=.seq #[.ref h.objs.size,.ref (zq1 h t).objs.size] }).push { cls:=.type "tuple",data:=.seq #[.none,.none] }).objs.size=h.objs.size+4:=by rw[Heap.size_push,z3]
 unfold zq5
 refine⟨?_,?_,?_,?_,?_,λc o e=>?_⟩
 ·rw[<-z4];exact Heap.get?_push_size _ rfl
 ·refine Heap.get?_push_of_some _ (Heap.get?_push_of_some _ ?_)
  rw[<-z2,<-z1];exact Heap.get?_push_size _ rfl
 ·refine Heap.get?_push_of_some _ ?_
  rw[<-z3];exact Heap.get?_push_size _ rfl
 ·exact⟨_,Heap.get?_push_of_some _ (Heap.get?_push_of_some _ (Heap.get?_push_of_some _ (Heap.get?_push_of_some _ (Heap.get?_push_size _ rfl)))),rfl,rfl⟩
 ·refine⟨{ cls:=.type "list_iterator",data:=.fields #[.ref u,.int 0 0] },Heap.get?_push_of_some _ (Heap.get?_push_of_some _ (Heap.get?_push_of_some _ ?_)),rfl,rfl⟩
  rw[<-z1];exact Heap.get?_push_size _ rfl
 ·exact Heap.get?_push_of_some _ (Heap.get?_push_of_some _ (Heap.get?_push_of_some _ (Heap.get?_push_of_some _ (Heap.get?_push_of_some _ e))))
theorem Jt {a b:Expr}{ta:TA}{p pos tp:Pos}{elts:List Expr}{kc:Nat}(hg:Gl X "zip") (hm:X.mg "zip" = none) (ha:PA X [a,b] ta) (hs:starEach [a,b] X.env=[(false,eval a X.env),(false,eval b X.env)]:=by rfl) (hs2:starEach [b] X.env=[(false,eval b X.env)]:=by rfl) :
  PI X (.Tuple elts kc tp) (.Call (.Name "zip" p) [a,b] [] pos) (zeS X.K ta):=by
 intro pins s σ H R I h
 refine Call_ (jm I hg hm (by decide +kernel:bootBuiltins "zip" = some (.type "zip")) (PyProof.Rows.callWith_type1 (thn (ha pos pins s σ H _ I h) λus s1 ⟨vs,H1,I1,r1,q1⟩=>?_) (by rw[hs,hs2]) (by rw[hs2];rfl)))
 obtain⟨t1,t2,e,⟨xs,k1⟩,⟨ys,k2⟩,q⟩:=q1
 subst e
 obtain⟨u1,u2,rfl,ru1,ru2⟩:=ZE r1
 cases(show u1=Value.ref t1 from ru1)
 cases(show u2=Value.ref t2 from ru2)
 obtain⟨as,ra,pa',_⟩:=I1.list k1
 have pa:=pa'.isList
 obtain⟨bs,rb,pb',_⟩:=I1.list k2
 have pb:=pb'.isList
 refine callType_new F.called_zip (by decide) (F.typeCall_zip_2 _ _) (F.newCall_zip_2 _ _) (λobj=>F.args_object_init_3 obj _ _) F.entry_zip_new (zbS t1 t2 as.toArray bs.toArray) ⟨pa,pb,?_⟩
 obtain⟨g1,g2,g3,g4,g5,g6⟩:=zc5 (h:=s1.heap) (t:=t1) (u:=t2)
 have l1:t1<s1.heap.objs.size:=by obtain⟨o,e,_⟩:=pa;exact Heap.lt_size e
 have l2:t2<s1.heap.objs.size:=by obtain⟨o,e,_⟩:=pb;exact Heap.lt_size e
 show _/\_
 refine⟨⟨_,g1,rfl⟩,wpAny_pyIter_zip g1 ⟨_,[s1.heap.objs.size+4,s1.heap.objs.size+2,s1.heap.objs.size+3,s1.heap.objs.size,s1.heap.objs.size+1],_,_,H1,rfl,I1.kept (t':=s1.toks) g6,
  zas (s1.heap.objs.size+4) (s1.heap.objs.size+2) (s1.heap.objs.size+3) s1.heap.objs.size (s1.heap.objs.size+1) t1 t2 ?_ ?_ ?_,⟨g1,g2,⟨_,_,g3⟩,g4,g5⟩,λb hb=>?_,q⟩⟩
 ·constructor <;> (intro z;simp only[Nat.add_right_inj,Nat.add_eq_left,Nat.left_eq_add]at z;try omega)
 ·exact nne (Nat.lt_of_lt_of_le l1 (Nat.le_add_right _ _))
 ·exact nne (Nat.lt_of_lt_of_le l2 (Nat.le_add_right _ _))
 ·have hb':s1.heap.objs.size<=b:=by
   simp only[List.mem_cons,List.not_mem_nil,or_false]at hb
   rcases hb with rfl | rfl | rfl | rfl | rfl
   ·exact Nat.le_add_right _ _
   ·exact Nat.le_add_right _ _
   ·exact Nat.le_add_right _ _
   ·exact Nat.le_refl _
   ·exact Nat.le_add_right _ _
  exact I1.fpOk hb' (I1.hok.fresh hb')
end
end L2
set_option Elab.async false
set_option linter.all false
set_option maxRecDepth 100000
namespace L2
open PySem PySem.Spec PyProof.Rows
def Ite (K:PySem.W.Frag) (l:Addr):It :=
 ⟨λi H=>∃xs x,SqL K H l xs/\xs[i]? = some x,
  λi H v H'=>∃T x,v = .ref T/\H T=none/\H'=upd H T (.tup [.int i,x])/\∀xs,SqL K H l xs->xs[i]? = some x,
  λi H=>∃xs,SqL K H l xs/\xs.length<=i⟩
theorem zaq {P:Program}{w:World}{K:PySem.W.Frag}{elts:List Expr}{kc:Nat}{tp:Pos}(e it l:Addr) (hne:e≠it) :
  Vk P w K (.Tuple elts kc tp) (Ite K l) [e,it] e (λi h=>(∃old,IsEnum h e it (i:Int) old)/\h.IsListIter it l i) where
 mem:=by simp
 obj:=λi h st b hb=>by
  obtain⟨⟨old,Z⟩,o1,e1,_,d1⟩:=st
  simp only[List.mem_cons,List.not_mem_nil,or_false]at hb
  rcases hb with rfl | rfl
  ·exact⟨_,Z,λ_ r=>by cases r⟩
  ·exact⟨_,e1,λ_ r=>by rw[d1]at r;cases r⟩
 keep:=λi h h' st k=>by
  obtain⟨⟨old,Z⟩,Z1⟩:=st
  exact⟨⟨old,k e (by simp) _ Z⟩,Z1.at λo q=>k it (by simp) o q⟩
 item:=by
  intro X hP hw hK hc i pins s σ H E I hf st hg
  subst hP hw hK
  obtain⟨xs,x,h1,ex⟩:=hg
  obtain⟨us,r1,p1,_⟩:=I.list h1
  obtain⟨ux,eu,rx⟩:=r1.get ex
  obtain⟨⟨old,Z⟩,Z1⟩:=st
  refine wpAny_pyNext_enum_item Z Z1 p1.isList (x:=ux) (by simpa using eu) hne λh' Zo Zi pr sz kk=>⟨_,rfl,?_⟩
  refine wpAny_letOwnedTupleGo_enum (s:={ s with heap:=h',toks:=s.toks+1 }) Zo λh2' Zz' sb=>?_
  replace sb:Heap.SameBut e h' h2':=sb
  have hTz:s.heap.objs.size≠e:=Nat.ne_of_gt (Heap.lt_size Z)
  have kk2:∀c o,c≠e->c≠it->s.heap.get? c=some o->h2'.get? c=some o:=λc o c1 c2 q=>(sb.2 c c1).trans (kk c o c1 c2 q)
  have prT:h2'.get? s.heap.objs.size=some { cls:=.type "tuple",data:=.seq #[.int i s.toks,ux] }:=(sb.2 _ hTz).trans pr
  have hT:H s.heap.objs.size=none:=I.hok.fresh (Nat.le_refl _)
  have neC:∀b,b∉[e,it]->b≠e/\b≠it:=λb hb=>by simpa using hb
  have trk:∀b u,H b=some u->b≠e/\b≠it:=λb u q=>by
   refine⟨?_,?_⟩ <;> rintro rfl
   ·rw[(hf b (by simp)).1]at q;cases q
   ·rw[(hf b (by simp)).1]at q;cases q
  have ltT:∀b o,s.heap.get? b=some o->b≠s.heap.objs.size:=λb o q=>Nat.ne_of_lt (Heap.lt_size q)
  have u:Un (frs X.stack) [e,it] H (upd H s.heap.objs.size (.tup [.int i,x])) s.heap h2' :=
   ⟨λb o q n _ hb=>by obtain⟨c1,c2⟩:=neC b hb;exact kk2 b o c1 c2 q,λb o q n _ hb=>by obtain⟨c1,c2⟩:=neC b hb;exact⟨o.slots,kk2 b o c1 c2 q⟩,
    λb o q n hb=>by rw[zB (ltT b o q)];exact n,λb o q hb=>by obtain⟨c1,c2⟩:=neC b hb;exact⟨o,kk2 b o c1 c2 q⟩,
    λb ws q=>by rw[zB (zC q hT)];exact q,λb o ws q=>by rw[zB (zC q hT)];exact q,λb ps q=>⟨#[],by rw[zB (zC q hT),q];simp⟩⟩
  have hok:HOk X.prog X.w (upd H s.heap.objs.size (.tup [.int i,x])) h2':=λb ob q=>by
   by_cases hb:b=s.heap.objs.size
   ·subst hb
    rw[zf]at q;cases q
    exact⟨by show 2<=sizeLine;decide,[.int i s.toks,ux],.cons ⟨_,rfl⟩ (.cons rx .nil),_,prT,rfl,0,rfl⟩
   ·rw[zB hb]at q
    refine(I.hok b ob q).stay (λc v hc' qc=>?_) (λc q=>by rw[zB (zC q hT)];exact q) λc ws q=>by rw[zB (zC q hT)];exact q
    have:∃o,H c=some o:=by
     rcases hc' with rfl | hc'
     ·exact⟨_,q⟩
     ·exact⟨_,hc'⟩
    obtain⟨o,ho⟩:=this
    obtain⟨c1,c2⟩:=trk c o ho
    exact kk2 c v c1 c2 qc
  refine⟨.ref s.heap.objs.size,upd H s.heap.objs.size (.tup [.int i,x]),?_,rfl,⟨_,x,rfl,hT,rfl,λxs' h=>by rw[I.list_inj h h1];exact ex⟩,
   ⟨⟨_,by rw[Int.natCast_add];exact Zz'⟩,Zi.at λo q=>(sb.2 _ hne.symm).trans q⟩,λb hb=>?_⟩
  ·refine I.call' (s':={ s with heap:=h2',toks:=s.toks+1 }) (ch:=[e,it]) rfl u hok I.bare λb hb=>?_
   obtain⟨_,z1,z2,z3,z4,z5⟩:=hf b hb
   exact⟨z3,z1,z4,z5⟩
  ·obtain⟨o,q⟩:∃o,s.heap.get? b=some o:=by
    obtain⟨o1,e1,_⟩:=Z1
    simp only[List.mem_cons,List.not_mem_nil,or_false]at hb
    rcases hb with rfl | rfl
    ·exact⟨_,Z⟩
    ·exact⟨_,e1⟩
   rw[zB (ltT b o q)];exact(hf b hb).1
 done:=by
  intro X hP hw hK hc i pins s σ H E I hf st hg
  subst hP hw hK
  obtain⟨xs,h1,en⟩:=hg
  obtain⟨us,r1,p1,_⟩:=I.list h1
  have l1:=r1.length
  obtain⟨⟨old,Z⟩,Z1⟩:=st
  obtain⟨f0,f1,f2,f3,f4,f5⟩:=hf it (by simp)
  exact wpAny_pyNext_enum_end (I.ok.hd hc) Z Z1 p1.isList (by simp;omega) λh' eb=>⟨rfl,I.turned (t':=s.toks) (λb o hb q=>eb b o hb q) f0 f1 f3 f4 f5⟩
 self:=λ_ _ _ _ _ st h=>by obtain⟨⟨old,Z⟩,_⟩:=st;exact wpAny_pyIter_enum Z h
def zeP (K:PySem.W.Frag) (t:TA):TI:=λσ H R=>t σ H λvs H1=>∃l xs,vs=[.ref l]/\H1 l=some (.lst xs)/\R (Ite K l) H1
theorem Js {X:Cx}{a:Expr}{ta:TA}{p pos tp:Pos}{elts:List Expr}{kc:Nat}(hg:Gl X "enumerate") (hm:X.mg "enumerate" = none) (ha:PA X [a] ta) (hs:starEach [a] X.env=[(false,eval a X.env)]:=by rfl) :
  PI X (.Tuple elts kc tp) (.Call (.Name "enumerate" p) [a] [] pos) (zeP X.K ta):=by
 intro pins s σ H R I h
 refine Call_ (jm I hg hm (by decide +kernel:bootBuiltins "enumerate" = some (.type "enumerate")) (PyProof.Rows.callWith_type1 (thn (ha pos pins s σ H _ I h) λus s1 ⟨vs,H1,I1,r1,q1⟩=>?_) (by rw[hs];rfl) (by rfl)))
 obtain⟨l,xs,e,hl,q⟩:=q1
 subst e
 obtain⟨u1,rfl,ru1⟩:=jY r1
 cases(show u1=Value.ref l from ru1)
 obtain⟨z,its,n,rv,hol⟩:=(show xo X.prog X.w H1 s1.heap l (.lst xs)from I1.hok l _ hl)
 refine callType_new F.called_enumerate (by decide) (F.typeCall_enumerate_1 _) (F.newCall_enumerate_1 _) (λobj=>F.args_object_init_2 obj _) F.entry_enumerate_new (meets_enumerate_new l its.toArray n) ⟨hol,?_⟩
 have z1:(s1.heap.push { cls:=.type "list_iterator",data:=.fields #[.ref l,.int 0 0] }).objs.size=s1.heap.objs.size+1:=Heap.size_push ..
 have g1:IsEnum ((s1.heap.push { cls:=.type "list_iterator",data:=.fields #[.ref l,.int 0 0] }).push { cls:=.type "enumerate",data:=.fields #[.none,.bool false,.ref s1.heap.objs.size,rawInt 0,.none,.none] }) (s1.heap.push { cls:=.type "list_iterator",data:=.fields #[.ref l,.int 0 0] }).objs.size s1.heap.objs.size 0 .none:=Heap.get?_push_size _ rfl
 have g2:((s1.heap.push { cls:=.type "list_iterator",data:=.fields #[.ref l,.int 0 0] }).push { cls:=.type "enumerate",data:=.fields #[.none,.bool false,.ref s1.heap.objs.size,rawInt 0,.none,.none] }).IsListIter s1.heap.objs.size l 0:=⟨_,Heap.get?_push_of_some _ (Heap.get?_push_size _ rfl),rfl,rfl⟩
 have g3:∀c o,s1.heap.get? c=some o->((s1.heap.push { cls:=.type "list_iterator",data:=.fields #[.ref l,.int 0 0] }).push { cls:=.type "enumerate",data:=.fields #[.none,.bool false,.ref s1.heap.objs.size,rawInt 0,.none,.none] }).get? c=some o:=λc o e=>Heap.get?_push_of_some _ (Heap.get?_push_of_some _ e)
 rw[z1]at g1 ⊢
 show _/\_
 refine⟨⟨_,g1,rfl⟩,wpAny_pyIter_enum g1 ⟨s1.heap.objs.size+1,[s1.heap.objs.size+1,s1.heap.objs.size],_,_,H1,rfl,I1.kept (t':=s1.toks) g3,zaq (s1.heap.objs.size+1) s1.heap.objs.size l (Nat.succ_ne_self _),⟨⟨_,g1⟩,g2⟩,λb hb=>?_,q⟩⟩
 have hb':s1.heap.objs.size<=b:=by
  simp only[List.mem_cons,List.not_mem_nil,or_false]at hb
  rcases hb with rfl | rfl
  ·exact Nat.le_add_right _ _
  ·exact Nat.le_refl _
 exact I1.fpOk hb' (I1.hok.fresh hb')
end L2
set_option Elab.async false
set_option linter.all false
set_option maxRecDepth 100000
namespace L2
open PySem PySem.Spec PyProof.Rows
end L2
set_option Elab.async false
set_option linter.all false
set_option maxRecDepth 100000
namespace L2
open PySem PySem.Spec PyProof.Rows
structure zc7 (J:It) (H:Hp) (N:Nat) (xs ys:List V):Prop where
 go:∀i H',i<N->zh H H'->J.go i H'
 stop:∀H',zh H H'->J.stop N H'
 yld:∀i v H2 H3,zh H H2->J.yld i H2 v H3->∃T x y,v = .ref T/\H2 T=none/\H3=upd H2 T (.tup [x,y])/\xs[i]? = some x/\ys[i]? = some y
def sel (p:Nat->Bool) (N:Nat):List Nat:=(List.range N).filter p
theorem jr (p:Nat->Bool) (N:Nat):sel p (N+1)=sel p N++(if p N=true then [N]else []):=by
 unfold sel
 rw[List.range_succ,List.filter_append]
 by_cases h:p N=true <;> simp[h]
section
variable {J:It}{D:Addr}{n N:Nat}{js:List Nat}{σ:St}{g:TG}{tt:TT}{te:TE}{Z:Hp->Prop}{H:Hp}{xs ys:List V}
theorem J0 (p:Nat->Bool) (R:Nat->V->Hp->Prop) (hR:∀i v H H',zT H H'->R i v H->R i v H') (hD:H D=none) (hJ:zc7 J H N xs ys) (hl:N<sizeLine)
  (hs:∀(i:Nat) (T:Addr) (x y:V) (zs:St) (H2:Hp) (A:VK) (B:Hp->Prop),xs[i]? = some x->ys[i]? = some y->zs.length=n->zh H H2->H2 T=some (.tup [x,y])->(p i=true->∀v H6,zh H2 H6->R i v H6->A v H6)->(p i=false->∀H6,zh H2 H6->B H6) →
   g (.ref T) (zs++qO σ js) H2 λσ4 H4=>σ4.drop n=qO σ js/\tt σ4 H4 λb H5=>if b=true then te σ4 H5 A else B H5)
  (k:∀us H',zh H H'->H' D=some (.lst us)->us.length=(sel p N).length->(∀(j i:Nat) (v:V),(sel p N)[j]? = some i->us[j]? = some v->R i v H')->Z H') :
  ∃W:Nat->Nat->Hp->List V->Prop,(∃m,W 0 m (upd H D (.lst [])) [])/\∀i m H2 ys,W i m H2 ys->H2 D=some (.lst ys)->(J.stop i H2/\Z H2) ∨
   (J.go i H2/\∀zs x H3,zs.length=n->J.yld i H2 x H3->g x (zs++qO σ js) H3 λσ4 H4=>σ4.drop n=qO σ js/\tt σ4 H4 λb H5=>if b=true then te σ4 H5 (λv H6=>H6 D=some (.lst ys)/\ys.length<sizeLine/\∃m',m'<m/\W (i+1) m' (upd H6 D (.lst (ys++[v]))) (ys++[v]))
    else H5 D=some (.lst ys)/\∃m',m'<m/\W (i+1) m' H5 ys):=by
 refine jG (Q:=λ_ H=>Z H) (N:=N) (λi H2 us=>zh H H2/\us.length=(sel p i).length/\∀(j q:Nat) (v:V),(sel p i)[j]? = some q->us[j]? = some v->R q v H2)
  ⟨zh.upd hD,rfl,λj q v e=>by simp[sel]at e⟩ (λi H2 us hi q=>hJ.go i H2 hi q.1) (λH2 us q=>hJ.stop H2 q.1) ?_ (λH2 us q e=>k us H2 q.1 e q.2.1 q.2.2)
 rintro i x zs H2 H3 us Nx hN hi hz hy ⟨s2,hul,huR⟩ hD2
 obtain⟨T,a,b,rfl,hT,rfl,e1,e2⟩:=hJ.yld i x H2 H3 s2 hy
 have hDT:D≠T:=λz=>by rw[z,hT]at hD2;cases hD2
 have s3:zh H2 (upd H2 T (.tup [a,b])):=zh.upd hT
 have hD3:upd H2 T (.tup [a,b]) D=some (.lst us):=s3 _ _ hD2
 have hsl:us.length<sizeLine:=by
  have h1:(sel p i).length<=i:=by
   have:=List.length_filter_le p (List.range i)
   rw[List.length_range]at this;exact this
  omega
 refine hs i T a b zs _ _ _ e1 e2 hz (s2.trans s3) zf (λhp v H6 s6 r6=>⟨s6 _ _ hD3,hsl,hN _ _ ⟨λc o e=>?_,?_,λj q u f1 f2=>?_⟩⟩) (λhp H6 s6=>⟨s6 _ _ hD3,hN _ _ ⟨λc o e=>s6 _ _ (s3 _ _ (s2 _ _ e)),?_,λj q u f1 f2=>?_⟩⟩)
 ·rw[zB (zC e hD)];exact s6 _ _ (s3 _ _ (s2 _ _ e))
 ·rw[jr,if_pos hp];simp[hul]
 ·rw[jr,if_pos hp]at f1
  have T6:zT H6 (upd H6 D (.lst (us++[v]))):=.upd (s6 _ _ hD3)
  by_cases hj:j<us.length
  ·rw[List.getElem?_append_left hj]at f2
   rw[List.getElem?_append_left (by omega)]at f1
   exact hR _ _ _ _ ((zT.of (s3.trans s6)).trans T6) (huR j q u f1 f2)
  ·rw[List.getElem?_append_right (by omega)]at f2
   rw[List.getElem?_append_right (by omega)]at f1
   have:j - us.length=0:=by
    rcases Nat.eq_zero_or_pos (j - us.length)with z | z
    ·exact z
    ·rw[List.getElem?_eq_none (by simp;omega)]at f2;cases f2
   rw[this]at f2
   rw[show j - (sel p i).length=0 by omega]at f1
   simp at f1 f2
   subst f1;subst f2
   exact hR _ _ _ _ T6 r6
 ·rw[jr,if_neg (by simp[hp])];simp[hul]
 ·rw[jr,if_neg (by simp[hp])]at f1
  rw[List.append_nil]at f1
  exact hR _ _ _ _ (zT.of (s3.trans s6)) (huR j q u f1 f2)
end
end L2
section
set_option maxHeartbeats 4000000
set_option Elab.async false
set_option linter.all false
set_option maxRecDepth 100000
namespace L2
open PySem PySem.Spec PyProof.Rows
def KIt (k:Bool) (h:Heap) (j t:Addr) (i:Nat):Prop:=match k with | true=>h.IsTupleIter j t i | false=>h.IsListIter j t i
def KSq (k:Bool) (h:Heap) (t:Addr) (xs:Array Value):Prop:=match k with | true=>h.IsTuple t xs | false=>h.IsList t xs
def SqK (k:Bool) (K:PySem.W.Frag) (H:Hp) (t:Addr) (xs:List V):Prop:=match k with | true=>SqT K H t xs | false=>SqL K H t xs
def ZG (k:Bool) (t:Addr):Obj:={ cls:=.type (match k with | true=>"tuple_iterator" | false=>"list_iterator"),data:=.fields #[.ref t,.int 0 0] }
theorem KIt.at {k:Bool}{h h':Heap}{j t:Addr}{i:Nat}(x:KIt k h j t i) (e:∀o,h.get? j=some o->h'.get? j=some o):KIt k h' j t i:=by
 cases k
 ·exact Heap.IsListIter.at x e
 ·exact Heap.IsTupleIter.at x e
theorem KIt.ob {k:Bool}{h:Heap}{j t:Addr}{i:Nat}(x:KIt k h j t i):∃o,h.get? j=some o/\∀v,o.data≠.cell v:=by
 cases k
 ·obtain⟨o,e,_,d⟩:=x;exact⟨o,e,λ_ r=>by rw[d]at r;cases r⟩
 ·obtain⟨o,e,_,d⟩:=x;exact⟨o,e,λ_ r=>by rw[d]at r;cases r⟩
theorem KSq.keep {k:Bool}{h h':Heap}{t:Addr}{xs:Array Value}(x:KSq k h t xs) (e:∀o,h.get? t=some o->h'.get? t=some o):KSq k h' t xs:=by
 cases k
 ·obtain⟨o,ho,r⟩:=x;exact⟨o,e _ ho,r⟩
 ·obtain⟨o,ho,r⟩:=x;exact⟨o,e _ ho,r⟩
theorem KSq.push {k:Bool}{h:Heap}{t:Addr}{xs:Array Value}{ob:Obj}(x:KSq k h t xs):KSq k (h.push ob) t xs:=x.keep λ_ e=>Heap.get?_push_of_some _ e
theorem KSq.lt {k:Bool}{h:Heap}{t:Addr}{xs:Array Value}(x:KSq k h t xs):t<h.objs.size:=by
 cases k
 ·obtain⟨o,ho,r⟩:=x;exact Heap.lt_size ho
 ·obtain⟨o,ho,r⟩:=x;exact Heap.lt_size ho
theorem KSq.ne_z {k:Bool}{h:Heap}{f0:Value}{vs:Array Value}{t z TI TO:Addr}(x:KSq k h t vs) (hz:IsZip h z TI TO f0):t≠z:=by
 cases k
 ·exact vZ x hz
 ·exact zbK x hz
theorem KSq.ne_j {k k':Bool}{h:Heap}{vs:Array Value}{t j u:Addr}{n:Nat}(x:KSq k h t vs) (hj:KIt k' h j u n):t≠j:=by
 rintro rfl
 cases k <;> cases k' <;> (obtain⟨o,e1,e2,_⟩:=x;obtain⟨o',f1,f2,_⟩:=hj;rw[f1]at e1;cases e1;rw[f2]at e2;simp at e2)
theorem Qo {h:Heap}{a:Addr}{o o':Obj}(e:a=h.objs.size) (q:o=o') (f:o.isFreed=false:=by rfl):(h.push o).get? a=some o':=by subst e;subst q;exact Heap.get?_push_size _ f
theorem Jd {k:Bool}{h:Heap}{j t:Addr}(e:h.get? j=some (ZG k t)):KIt k h j t 0:=by
 cases k
 ·exact⟨_,e,rfl,rfl⟩
 ·exact⟨_,e,rfl,rfl⟩
section
variable {prog:Program}{w:World}{A:Around}{E:Value->Shared->Prop}{s:Shared}
theorem Vv {k:Bool}{j t:Addr}{i:Nat}{vs:Array Value}{x:Value}{Q:Value->Shared->Prop}(kj:KIt k s.heap j t i) (kt:KSq k s.heap t vs) (kx:vs[i]? = some x)
  (q:∀h',KIt k h' j t (i+1)->Heap.SameBut j s.heap h'->Q x { s with heap:=h' }):wpAny (model prog w) A (Builtin.SmallTypes.nextOf (.ref j)) Q E s:=by
 cases k
 ·exact ZL kj kt kx q
 ·exact zcg kj kt kx q
theorem zdg {k:Bool}{j t:Addr}{i:Nat}{vs:Array Value}{Q:Value->Shared->Prop}(hh:A.handled=none) (kj:KIt k s.heap j t i) (kt:KSq k s.heap t vs) (kx:vs[i]? = none)
  (q:∀h' e,Heap.ExtBut j s.heap h'->(∃o,h'.get? e=some o/\o.cls = .type "StopIteration")->E (.ref e) { s with heap:=h' }):wpAny (model prog w) A (Builtin.SmallTypes.nextOf (.ref j)) Q E s:=by
 cases k
 ·exact VB hh kj kt kx q
 ·exact zd3 hh kj kt kx q
theorem zdf {k:Bool}{t:Addr}{vs:Array Value}{Q:Value->Shared->Prop}(kt:KSq k s.heap t vs) (q:Q (.ref s.heap.objs.size) { s with heap:=s.heap.push (ZG k t) }):wpAny (model prog w) A (pyIter (.ref t)) Q E s:=by
 cases k
 ·exact wpAny_pyIter_list kt q
 ·exact wpAny_pyIter_tuple kt q
end
theorem Zl {k:Bool}{X:Cx}{pins:List (Addr×Obj)}{σ:St}{H:Hp}{s:Shared}{a:Addr}{xs:List V}(I:Inv X pins σ H s) (h:SqK k X.K H a xs):∃its:List Value,zU xs its/\KSq k s.heap a its.toArray:=by
 cases k
 ·obtain⟨us,r,p,_⟩:=I.list h;exact⟨us,r,p.isList⟩
 ·obtain⟨us,r,p,_⟩:=I.tuple h;exact⟨us,r,p⟩
theorem JL {k:Bool}{X:Cx}{pins:List (Addr×Obj)}{σ:St}{H:Hp}{s:Shared}{a:Addr}{xs ys:List V}(I:Inv X pins σ H s) (h:SqK k X.K H a xs) (h':SqK k X.K H a ys):xs=ys:=by
 cases k
 ·exact I.list_inj h h'
 ·exact I.tuple_inj h h'
structure ZN2 (z TI TO j1 j2:Addr):Prop where
 z_TI:z≠TI
 z_TO:z≠TO
 z_j1:z≠j1
 z_j2:z≠j2
 TI_TO:TI≠TO
 TI_j1:TI≠j1
 TI_j2:TI≠j2
 TO_j1:TO≠j1
 TO_j2:TO≠j2
 j1_j2:j1≠j2
abbrev j0 (h:Heap) (T:Addr) (a1 a2:Value):Prop:=h.get? T=some { cls:=.type "tuple",data:=.seq #[a1,a2] }
section
variable {prog:Program}{w:World}{A:Around}{E:Value->Shared->Prop}{s:Shared}
theorem VT {T:Addr}{a1 a2 x:Value}{k:Nat}{Q:Unit->Shared->Prop}(hT:j0 s.heap T a1 a2)
  (h:∀h',h'.get? T=some { cls:=.type "tuple",data:=.seq ((#[a1,a2]:Array Value).setIfInBounds k x) }->Heap.SameBut T s.heap h'->Q () { s with heap:=h' }) :
  wpAny (model prog w) A (updateSeq T (·.setIfInBounds k x)) Q E s:=by
 refine wpAny_updateSeq hT rfl (h _ ?_ (Heap.SameBut.update ..))
 rw[Heap.get?_update_self _ hT rfl]
 simp[Obj.mapSeq]
structure ZS2 (z TI TO j1 j2 t1 t2:Addr) (k1 k2:Bool) (f0:Value) (i:Nat) (h:Heap):Prop where
 z:IsZip h z TI TO f0
 ti:j0 h TI (.ref j1) (.ref j2)
 to:∃a1 a2,j0 h TO a1 a2
 i1:KIt k1 h j1 t1 i
 i2:KIt k2 h j2 t2 i
variable {z TI TO j1 j2 t1 t2:Addr}{k1 k2:Bool}{i:Nat}{xs1 xs2:Array Value}
theorem zc2 {x1 x2:Value}{Q:Option Value->Shared->Prop}(D:ZN2 z TI TO j1 j2) (Z:ZS2 z TI TO j1 j2 t1 t2 k1 k2 .none i s.heap) (q1:KSq k1 s.heap t1 xs1) (q2:KSq k2 s.heap t2 xs2) (n1:t1≠TO) (n2:t2≠TO) (ex1:xs1[i]? = some x1) (ex2:xs2[i]? = some x2)
  (q:∀h',ZS2 z TI TO j1 j2 t1 t2 k1 k2 (rawInt s.heap.objs.size) (i+1) h'->j0 h' s.heap.objs.size x1 x2->h'.objs.size=s.heap.objs.size+1 →
   (∀c o,c≠z->c≠TO->c≠j1->c≠j2->s.heap.get? c=some o->h'.get? c=some o)->Q (some (.ref s.heap.objs.size)) { s with heap:=h' }):wpAny (model prog w) A (pyNext (.ref z)) Q E s:=by
 obtain⟨Zz,Zi,⟨a1,a2,Zo⟩,Z1,Z2⟩:=Z
 have ty:s.TypeIs (.ref z) "zip":=⟨_,Zz,rfl⟩
 unfold pyNext
 refine wpAny_bind (wpAny_attempt (wpAny_callSpecial?_slot (name:=Str.ofString "__next__") ty F.slot_zip_next (wpAny_call_entry F.slot_zip_next ty F.entry_zip_next ?_ (F.args_zip_next_1 _))))
 show wpAny _ _ (field (.ref z) 2 >>= _) _ _ s
 refine wpAny_bind (wpAny_field Zz rfl (x:=.bool false) rfl (?_:wpAny _ _ (field (.ref z) 3 >>= _) _ _ s))
 refine wpAny_bind (wpAny_field Zz rfl (x:=.ref TI) rfl (wpAny_bind (wpAny_seqItems Zi rfl (?_:wpAny _ _ (Builtin.SmallTypes.ownedTupleIsFree (.ref z) >>= _) _ _ s))))
 refine wpAny_bind ?_;unfold Builtin.SmallTypes.ownedTupleIsFree
 refine wpAny_bind (wpAny_field Zz rfl (x:=.none) rfl (wpAny_pure ?_))
 simp only[if_true]
 refine wpAny_bind (wpAny_rule (wpAny_bind (wpAny_field Zz rfl (x:=.ref TO) rfl (wpAny_bind (wpAny_setField_rec Zz (by simp) λg1 Zz1 m1=>?_)))))
 replace Zz1:IsZip g1 z TI TO .ellipsis:=Zz1
 refine wpAny_bind ?_;simp only[List.zipIdx_cons,List.zipIdx_nil,List.forIn_cons,List.forIn_nil]
 refine wpAny_bind (wpAny_bind (wpAny_onRaise (?_:wpAny _ _ (Builtin.SmallTypes.nextOf (.ref j1) >>= _) _ _ _)))
 refine wpAny_bind (Vv (Z1.at λo e=>(m1.extBut _ _ D.z_j1.symm e)) (q1.keep λo e=>(m1.extBut _ _ (q1.ne_z Zz) e)) ex1 λg2 Y1 m2=>wpAny_pure ?_)
 have Zo2:j0 g2 TO a1 a2:=m2.extBut _ _ D.TO_j1 (m1.extBut _ _ D.z_TO.symm Zo)
 refine wpAny_bind (wpAny_seqItems Zo2 rfl (wpAny_bind (VT Zo2 λg3 Zo3 m3=>wpAny_bind (wpAny_letGo (wpAny_pure ?_)))))
 replace Zo3:j0 g3 TO x1 a2:=Zo3
 refine wpAny_bind (wpAny_bind (wpAny_onRaise (?_:wpAny _ _ (Builtin.SmallTypes.nextOf (.ref j2) >>= _) _ _ _)))
 refine wpAny_bind (Vv (Z2.at λo e=>(m3.extBut _ _ D.TO_j2.symm (m2.extBut _ _ D.j1_j2.symm (m1.extBut _ _ D.z_j2.symm e)))) (q2.keep λo e=>(m3.extBut _ _ n2 (m2.extBut _ _ (q2.ne_j Z1) (m1.extBut _ _ (q2.ne_z Zz) e)))) ex2 λg4 Y2 m4=>wpAny_pure ?_)
 have Zo4:j0 g4 TO x1 a2:=m4.extBut _ _ D.TO_j2 Zo3
 refine wpAny_bind (wpAny_seqItems Zo4 rfl (wpAny_bind (VT Zo4 λg5 Zo5 m5=>wpAny_bind (wpAny_letGo (wpAny_pure (wpAny_pure ?_))))))
 replace Zo5:j0 g5 TO x1 x2:=Zo5
 refine wpAny_bind (wpAny_seqItems Zo5 rfl (wpAny_bind (wpAny_newTuple ?_)))
 have sz:g5.objs.size=s.heap.objs.size:=by rw[m5.1,m4.1,m3.1,m2.1,m1.1]
 have ZzL:IsZip g5 z TI TO .ellipsis:=(m5.extBut _ _ D.z_TO (m4.extBut _ _ D.z_j2 (m3.extBut _ _ D.z_TO (m2.extBut _ _ D.z_j1 Zz1))))
 have kp:∀c o,c≠z->c≠TO->c≠j1->c≠j2->s.heap.get? c=some o->g5.get? c=some o:=λc o c_z c_TO c_j1 c_j2 e=>(m5.extBut _ _ c_TO (m4.extBut _ _ c_j2 (m3.extBut _ _ c_TO (m2.extBut _ _ c_j1 (m1.extBut _ _ c_z e)))))
 have W1:KIt k1 g5 j1 t1 (i+1):=Y1.at λo e=>(m5.extBut _ _ D.TO_j1.symm (m4.extBut _ _ D.j1_j2 (m3.extBut _ _ D.TO_j1.symm e)))
 have W2:KIt k2 g5 j2 t2 (i+1):=Y2.at λo e=>(m5.extBut _ _ D.TO_j2.symm e)
 have zlt:g5.objs.size≠z:=Nat.ne_of_gt (Heap.lt_size ZzL)
 show wpAny _ _ (Builtin.SmallTypes.ownedTupleHandOut (.ref z) (.ref g5.objs.size) >>= _) _ _ _
 refine wpAny_bind ?_;unfold Builtin.SmallTypes.ownedTupleHandOut
 refine wpAny_bind (wpAny_setField_rec (Heap.get?_push_of_some _ ZzL) (by simp) λh7 Zz7 p7=>?_)
 replace Zz7:IsZip h7 z TI TO (rawInt g5.objs.size):=Zz7
 refine wpAny_setField_rec Zz7 (by simp) λh8 Zz8 p8=>?_
 replace Zz8:IsZip h8 z TI TO (rawInt g5.objs.size):=Zz8
 have up:∀c o,c≠z->g5.get? c=some o->h8.get? c=some o:=λc o c1 e=>p8.extBut _ _ c1 (p7.extBut _ _ c1 (Heap.get?_push_of_some _ e))
 have T8:j0 h8 g5.objs.size x1 x2:=p8.extBut _ _ zlt (p7.extBut _ _ zlt (Heap.get?_push_size _ rfl))
 have s8:h8.objs.size=g5.objs.size+1:=by rw[p8.1,p7.1,Heap.size_push]
 refine wpAny_pure ⟨_,rfl,wpAny_pure ?_⟩
 rw[sz]at Zz8 T8 s8
 show Q (some (.ref g5.objs.size)) _
 rw[sz]
 exact q h8 ⟨Zz8,up _ _ D.z_TI.symm (kp _ _ D.z_TI.symm D.TI_TO D.TI_j1 D.TI_j2 Zi),⟨_,_,up _ _ D.z_TO.symm Zo5⟩,W1.at λo e=>up _ o D.z_j1.symm e,W2.at λo e=>up _ o D.z_j2.symm e⟩ T8 s8 λc o c_z c_TO c_j1 c_j2 e=>up c o c_z (kp c o c_z c_TO c_j1 c_j2 e)
theorem zeF {Q:Option Value->Shared->Prop}(hh:A.handled=none) (D:ZN2 z TI TO j1 j2) (Z:ZS2 z TI TO j1 j2 t1 t2 k1 k2 .none i s.heap) (q1:KSq k1 s.heap t1 xs1) (q2:KSq k2 s.heap t2 xs2) (n1:t1≠TO) (n2:t2≠TO) (en:xs1[i]? = none\/xs2[i]? = none)
  (q:∀h',(∀c o,c≠z->c≠TO->c≠j1->c≠j2->s.heap.get? c=some o->h'.get? c=some o)->Q none { s with heap:=h' }):wpAny (model prog w) A (pyNext (.ref z)) Q E s:=by
 obtain⟨Zz,Zi,⟨a1,a2,Zo⟩,Z1,Z2⟩:=Z
 have ty:s.TypeIs (.ref z) "zip":=⟨_,Zz,rfl⟩
 have fin:∀(g':Heap) (e:Addr),(∀c o,c≠z->c≠TO->c≠j1->c≠j2->s.heap.get? c=some o->g'.get? c=some o)->(∃o,g'.get? e=some o/\o.cls = .type "StopIteration") →
   wpAny (model prog w) A (do if <-isInstance (.ref e) (.type "StopIteration")then pure none else throw (.ref e):Sem (Option Value)) Q E { s with heap:=g' }:=λg' e kk ⟨o,ho,hc⟩ =>
  wpAny_bind (wpAny_isInstance (T:="StopIteration") (b:=true) ⟨o,ho,hc⟩ isSubtype_stop (wpAny_pure (q g' kk)))
 unfold pyNext
 refine wpAny_bind (wpAny_attempt (wpAny_callSpecial?_slot (name:=Str.ofString "__next__") ty F.slot_zip_next (wpAny_call_entry F.slot_zip_next ty F.entry_zip_next ?_ (F.args_zip_next_1 _))))
 show wpAny _ _ (field (.ref z) 2 >>= _) _ _ s
 refine wpAny_bind (wpAny_field Zz rfl (x:=.bool false) rfl (?_:wpAny _ _ (field (.ref z) 3 >>= _) _ _ s))
 refine wpAny_bind (wpAny_field Zz rfl (x:=.ref TI) rfl (wpAny_bind (wpAny_seqItems Zi rfl (?_:wpAny _ _ (Builtin.SmallTypes.ownedTupleIsFree (.ref z) >>= _) _ _ s))))
 refine wpAny_bind ?_;unfold Builtin.SmallTypes.ownedTupleIsFree
 refine wpAny_bind (wpAny_field Zz rfl (x:=.none) rfl (wpAny_pure ?_))
 simp only[if_true]
 refine wpAny_bind (wpAny_rule (wpAny_bind (wpAny_field Zz rfl (x:=.ref TO) rfl (wpAny_bind (wpAny_setField_rec Zz (by simp) λg1 Zz1 m1=>?_)))))
 replace Zz1:IsZip g1 z TI TO .ellipsis:=Zz1
 refine wpAny_bind ?_;simp only[List.zipIdx_cons,List.zipIdx_nil,List.forIn_cons,List.forIn_nil]
 refine wpAny_bind (wpAny_bind (wpAny_onRaise (?_:wpAny _ _ (Builtin.SmallTypes.nextOf (.ref j1) >>= _) _ _ _)))
 cases ex1:xs1[i]? with
 | none =>
  refine wpAny_bind (zdg hh (Z1.at λo e=>(m1.extBut _ _ D.z_j1.symm e)) (q1.keep λo e=>(m1.extBut _ _ (q1.ne_z Zz) e)) ex1 λg2 e m2 ⟨oe,e1,e2⟩=>?_)
  have ZzE:IsZip g2 z TI TO .ellipsis:=m2 _ _ D.z_j1 Zz1
  have nz:e≠z:=λr=>by subst r;rw[ZzE]at e1;cases e1;simp at e2
  exact wpAny_setField_rec ZzE (by simp) λgE _ mE=>fin gE e (λc o c_z c_TO c_j1 c_j2 r=>mE.extBut _ _ c_z (m2 _ _ c_j1 (m1.extBut _ _ c_z r))) ⟨oe,mE.extBut _ _ nz e1,e2⟩
 | some x1 =>
  refine wpAny_bind (Vv (Z1.at λo e=>(m1.extBut _ _ D.z_j1.symm e)) (q1.keep λo e=>(m1.extBut _ _ (q1.ne_z Zz) e)) ex1 λg2 Y1 m2=>wpAny_pure ?_)
  have Zo2:j0 g2 TO a1 a2:=m2.extBut _ _ D.TO_j1 (m1.extBut _ _ D.z_TO.symm Zo)
  refine wpAny_bind (wpAny_seqItems Zo2 rfl (wpAny_bind (VT Zo2 λg3 Zo3 m3=>wpAny_bind (wpAny_letGo (wpAny_pure ?_)))))
  replace Zo3:j0 g3 TO x1 a2:=Zo3
  refine wpAny_bind (wpAny_bind (wpAny_onRaise (?_:wpAny _ _ (Builtin.SmallTypes.nextOf (.ref j2) >>= _) _ _ _)))
  have ex2:xs2[i]? = none:=by
   rcases en with r | r
   ·rw[ex1]at r;cases r
   ·exact r
  refine wpAny_bind (zdg hh (Z2.at λo e=>(m3.extBut _ _ D.TO_j2.symm (m2.extBut _ _ D.j1_j2.symm (m1.extBut _ _ D.z_j2.symm e)))) (q2.keep λo e=>(m3.extBut _ _ n2 (m2.extBut _ _ (q2.ne_j Z1) (m1.extBut _ _ (q2.ne_z Zz) e)))) ex2 λg4 e m4 ⟨oe,e1,e2⟩=>?_)
  have ZzE:IsZip g4 z TI TO .ellipsis:=m4 _ _ D.z_j2 (m3.extBut _ _ D.z_TO (m2.extBut _ _ D.z_j1 Zz1))
  have nz:e≠z:=λr=>by subst r;rw[ZzE]at e1;cases e1;simp at e2
  exact wpAny_setField_rec ZzE (by simp) λgE _ mE=>fin gE e (λc o c_z c_TO c_j1 c_j2 r=>mE.extBut _ _ c_z (m4 _ _ c_j2 (m3.extBut _ _ c_TO (m2.extBut _ _ c_j1 (m1.extBut _ _ c_z r))))) ⟨oe,mE.extBut _ _ nz e1,e2⟩
end
def zbV (k1 k2:Bool) (K:PySem.W.Frag) (t1 t2:Addr):It :=
 ⟨λi H=>∃(xs1:List V) (xs2:List V) (x1:V) (x2:V),SqK k1 K H t1 xs1/\SqK k2 K H t2 xs2/\xs1[i]? = some x1/\xs2[i]? = some x2,
  λi H v H'=>∃(T:Addr) (x1 x2:V),v = .ref T/\H T=none/\H'=upd H T (.tup [x1,x2])/\(∀xs,SqK k1 K H t1 xs->xs[i]? = some x1)/\(∀xs,SqK k2 K H t2 xs->xs[i]? = some x2),
  λi H=>∃(xs1:List V) (xs2:List V),SqK k1 K H t1 xs1/\SqK k2 K H t2 xs2/\(xs1.length<=i\/xs2.length<=i)⟩
theorem zc0 {P:Program}{w:World}{K:PySem.W.Frag}{elts:List Expr}{kc:Nat}{tp:Pos}(k1 k2:Bool) (z TI TO j1 j2 t1 t2:Addr) (D:ZN2 z TI TO j1 j2) (n1:t1≠TO) (n2:t2≠TO) :
  Vk P w K (.Tuple elts kc tp) (zbV k1 k2 K t1 t2) [z,TI,TO,j1,j2] z (λi h=>ZS2 z TI TO j1 j2 t1 t2 k1 k2 .none i h) where
 mem:=by simp
 obj:=λi h st b hb=>by
  obtain⟨Zz,Zi,⟨a1,a2,Zo⟩,Z1,Z2⟩:=st
  simp only[List.mem_cons,List.not_mem_nil,or_false]at hb
  rcases hb with rfl | rfl | rfl | rfl | rfl
  ·exact⟨_,Zz,λ_ r=>by cases r⟩
  ·exact⟨_,Zi,λ_ r=>by cases r⟩
  ·exact⟨_,Zo,λ_ r=>by cases r⟩
  ·exact Z1.ob
  ·exact Z2.ob
 keep:=λi h h' st k=>by
  obtain⟨Zz,Zi,⟨a1,a2,Zo⟩,Z1,Z2⟩:=st
  exact⟨k z (by simp) _ Zz,k TI (by simp) _ Zi,⟨a1,a2,k TO (by simp) _ Zo⟩,Z1.at λo e=>k j1 (by simp) o e,Z2.at λo e=>k j2 (by simp) o e⟩
 item:=by
  intro X hP hw hK hc i pins s σ H E I hf st hg
  subst hP hw hK
  obtain⟨xs1,xs2,x1,x2,h1,h2,ex1,ex2⟩:=hg
  obtain⟨us1,r1,p1⟩:=Zl I h1
  obtain⟨us2,r2,p2⟩:=Zl I h2
  obtain⟨u1,eu1,rx1⟩:=r1.get ex1
  obtain⟨u2,eu2,rx2⟩:=r2.get ex2
  refine zc2 D st (xs1:=us1.toArray) (xs2:=us2.toArray) p1 p2 n1 n2 (by simpa using eu1) (by simpa using eu2) λh' st' pr sz kk=>⟨_,rfl,?_⟩
  obtain⟨Zz,Zi,⟨a1,a2,Zo⟩,Z1,Z2⟩:=st'
  refine wpAny_letOwnedTupleGo_zip Zz λh2' Zz' sb=>?_
  have hTz:s.heap.objs.size≠z:=Nat.ne_of_gt (Heap.lt_size st.z)
  have kk2:∀c o,c≠z->c≠TO->c≠j1->c≠j2->s.heap.get? c=some o->h2'.get? c=some o:=λc o c_z c_TO c_j1 c_j2 e=>(sb.2 c c_z).trans (kk c o c_z c_TO c_j1 c_j2 e)
  have prT:h2'.get? s.heap.objs.size=some { cls:=.type "tuple",data:=.seq #[u1,u2] }:=(sb.2 _ hTz).trans pr
  have hT:H s.heap.objs.size=none:=I.hok.fresh (Nat.le_refl _)
  have neC:∀b,b∉[z,TO,j1,j2]->b≠z/\b≠TO/\b≠j1/\b≠j2:=λb hb=>by simpa using hb
  have trk:∀b u,H b=some u->b≠z/\b≠TO/\b≠j1/\b≠j2:=λb u e=>by
   refine⟨?_,?_,?_,?_⟩ <;> rintro rfl
   ·rw[(hf b (by simp)).1]at e;cases e
   ·rw[(hf b (by simp)).1]at e;cases e
   ·rw[(hf b (by simp)).1]at e;cases e
   ·rw[(hf b (by simp)).1]at e;cases e
  have ltT:∀b o,s.heap.get? b=some o->b≠s.heap.objs.size:=λb o e=>Nat.ne_of_lt (Heap.lt_size e)
  have u:Un (frs X.stack) [z,TO,j1,j2] H (upd H s.heap.objs.size (.tup [x1,x2])) s.heap h2' :=
   ⟨λb o e n _ hb=>by obtain⟨d0,d1,d2,d3⟩:=neC b hb;exact kk2 b o d0 d1 d2 d3 e,λb o e n _ hb=>by obtain⟨d0,d1,d2,d3⟩:=neC b hb;exact⟨o.slots,kk2 b o d0 d1 d2 d3 e⟩,
    λb o e n hb=>by rw[zB (ltT b o e)];exact n,λb o e hb=>by obtain⟨d0,d1,d2,d3⟩:=neC b hb;exact⟨o,kk2 b o d0 d1 d2 d3 e⟩,
    λb ws e=>by rw[zB (zC e hT)];exact e,λb o ws e=>by rw[zB (zC e hT)];exact e,λb ps e=>⟨#[],by rw[zB (zC e hT),e];simp⟩⟩
  have hok:HOk X.prog X.w (upd H s.heap.objs.size (.tup [x1,x2])) h2':=λb ob e=>by
   by_cases hb:b=s.heap.objs.size
   ·subst hb
    rw[zf]at e;cases e
    exact⟨by show 2<=sizeLine;decide,[u1,u2],(.cons rx1 (.cons rx2 .nil)),_,prT,rfl,0,rfl⟩
   ·rw[zB hb]at e
    refine(I.hok b ob e).stay (λc v hc' qc=>?_) (λc q=>by rw[zB (zC q hT)];exact q) λc ws q=>by rw[zB (zC q hT)];exact q
    have:∃o,H c=some o:=by
     rcases hc' with rfl | hc'
     ·exact⟨_,e⟩
     ·exact⟨_,hc'⟩
    obtain⟨o,ho⟩:=this
    obtain⟨d0,d1,d2,d3⟩:=trk c o ho
    exact kk2 c v d0 d1 d2 d3 qc
  refine⟨.ref s.heap.objs.size,upd H s.heap.objs.size (.tup [x1,x2]),?_,rfl,⟨_,x1,x2,rfl,hT,rfl,λxs' h=>by rw[JL I h h1];exact ex1,λxs' h=>by rw[JL I h h2];exact ex2⟩,
   ⟨Zz',(sb.2 _ D.z_TI.symm).trans Zi,⟨_,_,(sb.2 _ D.z_TO.symm).trans Zo⟩,Z1.at λo e=>(sb.2 _ D.z_j1.symm).trans e,Z2.at λo e=>(sb.2 _ D.z_j2.symm).trans e⟩,λb hb=>?_⟩
  ·refine I.call' (s':={ s with heap:=h2' }) (ch:=[z,TO,j1,j2]) rfl u hok I.bare λb hb=>?_
   obtain⟨_,y1,y2,y3,y4,y5⟩:=hf b (by simp only[List.mem_cons,List.not_mem_nil,or_false]at hb ⊢;rcases hb with r | r | r | r <;> simp[r])
   exact⟨y3,y1,y4,y5⟩
  ·obtain⟨o,e,_⟩:∃o,s.heap.get? b=some o/\True:=by
    obtain⟨Zz,Zi,⟨a1,a2,Zo⟩,Z1,Z2⟩:=st
    simp only[List.mem_cons,List.not_mem_nil,or_false]at hb
    rcases hb with rfl | rfl | rfl | rfl | rfl
    ·exact⟨_,Zz,trivial⟩
    ·exact⟨_,Zi,trivial⟩
    ·exact⟨_,Zo,trivial⟩
    ·obtain⟨o,e,_⟩:=Z1.ob;exact⟨o,e,trivial⟩
    ·obtain⟨o,e,_⟩:=Z2.ob;exact⟨o,e,trivial⟩
   rw[zB (ltT b o e)];exact(hf b hb).1
 done:=by
  intro X hP hw hK hc i pins s σ H E I hf st hg
  subst hP hw hK
  obtain⟨xs1,xs2,h1,h2,en⟩:=hg
  obtain⟨us1,r1,p1⟩:=Zl I h1
  have l1:=r1.length
  obtain⟨us2,r2,p2⟩:=Zl I h2
  have l2:=r2.length
  refine zeF (I.ok.hd hc) D st (xs1:=us1.toArray) (xs2:=us2.toArray) p1 p2 n1 n2 (by rcases en with r | r;exact .inl (by simp;omega);exact .inr ((by simp;omega))) λh' kk=>⟨rfl,?_⟩
  have neC:∀b,b∉[z,TO,j1,j2]->b≠z/\b≠TO/\b≠j1/\b≠j2:=λb hb=>by simpa using hb
  have u:Un (frs X.stack) [z,TO,j1,j2] H H s.heap h' :=
   ⟨λb o e n _ hb=>by obtain⟨d0,d1,d2,d3⟩:=neC b hb;exact kk b o d0 d1 d2 d3 e,λb o e n _ hb=>by obtain⟨d0,d1,d2,d3⟩:=neC b hb;exact⟨o.slots,kk b o d0 d1 d2 d3 e⟩,
    λb o e n hb=>n,λb o e hb=>by obtain⟨d0,d1,d2,d3⟩:=neC b hb;exact⟨o,kk b o d0 d1 d2 d3 e⟩,λb ws e=>e,λb o ws e=>e,λb ps e=>⟨#[],by rw[e];simp⟩⟩
  have hok:HOk X.prog X.w H h':=λb ob e=>by
   refine(I.hok b ob e).stay (λc v hc' qc=>?_) (λc q=>q) λc ws q=>q
   have:∃o,H c=some o:=by
    rcases hc' with rfl | hc'
    ·exact⟨_,e⟩
    ·exact⟨_,hc'⟩
   obtain⟨o,ho⟩:=this
   have nn:∀d∈[z,TI,TO,j1,j2],c≠d:=λd hd r=>by subst r;rw[(hf c hd).1]at ho;cases ho
   exact kk c v (nn _ (by simp)) (nn _ (by simp)) (nn _ (by simp)) (nn _ (by simp)) qc
  refine I.call' (s':={ s with heap:=h' }) (ch:=[z,TO,j1,j2]) rfl u hok I.bare λb hb=>?_
  obtain⟨_,y1,y2,y3,y4,y5⟩:=hf b (by simp only[List.mem_cons,List.not_mem_nil,or_false]at hb ⊢;rcases hb with r | r | r | r <;> simp[r])
  exact⟨y3,y1,y4,y5⟩
 self:=λ_ _ _ _ _ st h=>wpAny_pyIter_zip st.z h
def Qz (h:Heap) (k1 k2:Bool) (t1 t2:Addr):Heap:=((((h.push (ZG k1 t1)).push (ZG k2 t2)).push { cls:=.type "tuple",data:=.seq #[.ref h.objs.size,.ref (h.objs.size+1)] }).push { cls:=.type "tuple",data:=.seq #[.none,.none] }).push { cls:=.type "zip",data:=.fields #[.none,.bool false,.bool false,.ref (h.objs.size+2),.ref (h.objs.size+3)] }
theorem zbR (k1 k2:Bool) (t1 t2:Addr) (xs1 xs2:Array Value):Meets (Builtin.«zip.__new__» ⟨[.type "zip",.ref t1,.ref t2],[]⟩) (λ_ R s=>KSq k1 s.heap t1 xs1/\KSq k2 s.heap t2 xs2/\R (.ok (.ret (.ref (s.heap.objs.size+4)))) { s with heap:=Qz s.heap k1 k2 t1 t2 }) :=
 .of_wp λprog w A R s h=>by
  obtain⟨hp,g,d,tk,os⟩:=s;obtain⟨q1,q2,h⟩:=h
  have hs:=sub_zip
  have K1:KSq k1 (Shared.heap ⟨hp,g,d,tk,os⟩) t1 xs1:=q1
  have K2:KSq k2 (Shared.heap ⟨(hp.push (ZG k1 t1)),g,d,tk,os⟩) t2 xs2:=(KSq.push q2)
  wp_walk using zdf K1,zdf K2
  refine⟨_,rfl,?_⟩
  unfold Qz at h
  simp only[Heap.size_push]at h ⊢
  exact h
section
variable {X:Cx}
def zeR (K:PySem.W.Frag) (t:TA):TI:=λσ H R=>t σ H λvs H1=>∃(k1 k2:Bool) (t1 t2:Addr),vs=[.ref t1,.ref t2]/\(∃xs,SqK k1 K H1 t1 xs)/\(∃xs,SqK k2 K H1 t2 xs)/\R (zbV k1 k2 K t1 t2) H1
theorem zbU {h:Heap}{k1 k2:Bool}{t1 t2:Addr}:IsZip (Qz h k1 k2 t1 t2) (h.objs.size+4) (h.objs.size+2) (h.objs.size+3) .none/\j0 (Qz h k1 k2 t1 t2) (h.objs.size+2) (.ref h.objs.size) (.ref (h.objs.size+1))/\j0 (Qz h k1 k2 t1 t2) (h.objs.size+3) .none .none ∧
  KIt k1 (Qz h k1 k2 t1 t2) (h.objs.size) t1 0/\KIt k2 (Qz h k1 k2 t1 t2) (h.objs.size+1) t2 0/\∀c o,h.get? c=some o->(Qz h k1 k2 t1 t2).get? c=some o:=by
 have z1:(h.push (ZG k1 t1)).objs.size=h.objs.size+1:=by rw[Heap.size_push]
 have z2:((h.push (ZG k1 t1)).push (ZG k2 t2)).objs.size=h.objs.size+2:=by rw[Heap.size_push,z1]
 have z3:(((h.push (ZG k1 t1)).push (ZG k2 t2)).push { cls:=.type "tuple",data:=.seq #[.ref h.objs.size,.ref (h.objs.size+1)] }).objs.size=h.objs.size+3:=by rw[Heap.size_push,z2]
 have z4:((((h.push (ZG k1 t1)).push (ZG k2 t2)).push { cls:=.type "tuple",data:=.seq #[.ref h.objs.size,.ref (h.objs.size+1)] }).push { cls:=.type "tuple",data:=.seq #[.none,.none] }).objs.size=h.objs.size+4:=by rw[Heap.size_push,z3]
 unfold Qz
 refine⟨?_,?_,?_,?_,?_,λc o e=>?_⟩
 ·rw[<-z4];exact Heap.get?_push_size _ rfl
 ·refine Heap.get?_push_of_some _ (Heap.get?_push_of_some _ ?_)
  refine Qo z2.symm ?_
  rfl
 ·refine Heap.get?_push_of_some _ ?_
  refine Qo z3.symm ?_
  rfl
 ·refine Jd (Heap.get?_push_of_some _ (Heap.get?_push_of_some _ (Heap.get?_push_of_some _ (Heap.get?_push_of_some _ ?_))))
  exact Heap.get?_push_size _ rfl
 ·refine Jd (Heap.get?_push_of_some _ (Heap.get?_push_of_some _ (Heap.get?_push_of_some _ ?_)))
  exact Qo z1.symm rfl
 ·exact(Heap.get?_push_of_some _ (Heap.get?_push_of_some _ (Heap.get?_push_of_some _ (Heap.get?_push_of_some _ (Heap.get?_push_of_some _ e)))))
theorem zcx {a b:Expr}{ta:TA}{p pos tp:Pos}{elts:List Expr}{kc:Nat}(hg:Gl X "zip") (hm:X.mg "zip" = none) (ha:PA X [a,b] ta) (hs:starEach [a,b] X.env=[(false,eval a X.env),(false,eval b X.env)]:=by rfl) (hs1:starEach [b] X.env=[(false,eval b X.env)]:=by rfl) :
  PI X (.Tuple elts kc tp) (.Call (.Name "zip" p) [a,b] [] pos) (zeR X.K ta):=by
 intro pins s σ H R I h
 refine Call_ (jm I hg hm (by decide +kernel:bootBuiltins "zip" = some (.type "zip")) (PyProof.Rows.callWith_type1 (thn (ha pos pins s σ H _ I h) λus s1 ⟨vs,H1,I1,r1,q1⟩=>?_) (by rw[hs,hs1]) (by rw[hs1];rfl)))
 obtain⟨k1,k2,t1,t2,e,⟨xs1,k_1⟩,⟨xs2,k_2⟩,q⟩:=q1
 subst e
 obtain⟨u1,u2,rfl,ru1,ru2⟩:=ZE r1
 cases(show u1=Value.ref t1 from ru1)
 cases(show u2=Value.ref t2 from ru2)
 obtain⟨as1,ra1,pa1⟩:=Zl I1 k_1
 obtain⟨as2,ra2,pa2⟩:=Zl I1 k_2
 refine callType_new F.called_zip (by decide) (F.typeCall_zip_2 _ _) (F.newCall_zip_2 _ _) (λobj=>F.args_object_init_3 obj _ _) F.entry_zip_new (zbR k1 k2 t1 t2 as1.toArray as2.toArray) ⟨pa1,pa2,?_⟩
 obtain⟨g1,g2,g3,g4,g5,g6⟩:=zbU (h:=s1.heap) (k1:=k1) (k2:=k2) (t1:=t1) (t2:=t2)
 show _/\_
 refine⟨⟨_,g1,rfl⟩,wpAny_pyIter_zip g1 ⟨_,[s1.heap.objs.size+4,s1.heap.objs.size+2,s1.heap.objs.size+3,s1.heap.objs.size,s1.heap.objs.size+1],_,_,H1,rfl,I1.kept (t':=s1.toks) g6,
  zc0 k1 k2 (s1.heap.objs.size+4) (s1.heap.objs.size+2) (s1.heap.objs.size+3) s1.heap.objs.size (s1.heap.objs.size+1) t1 t2 ?_ (nne (Nat.lt_of_lt_of_le pa1.lt (Nat.le_add_right _ _))) (nne (Nat.lt_of_lt_of_le pa2.lt (Nat.le_add_right _ _))),⟨g1,g2,⟨_,_,g3⟩,g4,g5⟩,λb hb=>?_,q⟩⟩
 ·constructor <;> (intro z;simp only[Nat.add_right_inj,Nat.add_eq_left,Nat.left_eq_add]at z;try omega)
 ·have hb':s1.heap.objs.size<=b:=by
   simp only[List.mem_cons,List.not_mem_nil,or_false]at hb
   rcases hb with rfl | rfl | rfl | rfl | rfl
   ·exact Nat.le_add_right _ _
   ·exact Nat.le_add_right _ _
   ·exact Nat.le_add_right _ _
   ·exact Nat.le_refl _
   ·exact Nat.le_add_right _ _
  exact I1.fpOk hb' (I1.hok.fresh hb')
end
def HSq (k:Bool) (H:Hp) (a:Addr) (xs:List V):Prop:=match k with | true=>H a=some (.tup xs) | false=>H a=some (.lst xs)
theorem HSq.sq {k:Bool}{K:PySem.W.Frag}{H:Hp}{a:Addr}{xs:List V}(h:HSq k H a xs):SqK k K H a xs:=by
 cases k
 ·exact SqL.of h
 ·exact SqT.of h
theorem HSq.same {k:Bool}{H H':Hp}{a:Addr}{xs:List V}(h:HSq k H a xs) (e:zh H H'):HSq k H' a xs:=by
 cases k <;> exact e _ _ h
theorem zcD {k1 k2:Bool}{K:PySem.W.Frag}{H:Hp}{a b:Addr}{xs ys:List V}(ha:HSq k1 H a xs) (hb:HSq k2 H b ys) (e:xs.length<=ys.length):zc7 (zbV k1 k2 K a b) H xs.length xs ys :=
 ⟨λi H' hi s=>⟨xs,ys,xs[i],ys[i],(ha.same s).sq,(hb.same s).sq,by simp[hi],List.getElem?_eq_getElem _⟩,λH' s=>⟨xs,ys,(ha.same s).sq,(hb.same s).sq,.inl (Nat.le_refl _)⟩,
  λi v H2 H3 s ⟨T,x,y,z,h1,h2,h3,h4⟩=>⟨T,x,y,z,h1,h2,h3 xs (ha.same s).sq,h4 ys (hb.same s).sq⟩⟩
end L2
end
namespace KM
theorem Xb (a b:Rat):Rat.divInt (a.num*b.den - b.num*a.den) (a.den*b.den)=a - b:=by
 rw[Rat.sub_def',<-Rat.divInt_ofNat];simp
theorem j8 {a b d:Int}(hd:0<d):Rat.divInt a d<Rat.divInt b d↔a<b:=by
 rw[Rat.divInt_eq_div,Rat.divInt_eq_div]
 have h:(0:Rat)<d:=Rat.intCast_pos.mpr hd
 rw[Rat.div_lt_iff h,Rat.div_mul_cancel (by grind)];exact Rat.intCast_lt_intCast
end KM
section
set_option maxHeartbeats 4000000
set_option Elab.async false
set_option linter.all false
set_option maxRecDepth 100000
namespace KM
def mo (l r:Rat×Rat):Rat:=(r.1 - l.1)/(l.2 - r.2)
def qr (f:Option Rat) (p:(Rat×Rat)×(Rat×Rat)):Option Rat :=
 if p.2.2<p.1.2 then(match f with
  | none=>some (mo p.1 p.2)
  | some u=>if mo p.1 p.2<u then some (mo p.1 p.2)else some u)else f
def ju (ch:List (Rat×Rat)):Option Rat:=(ch.zip ch.tail).foldl qr none
theorem Jh (x:Rat):x*((x.den:Int):Rat)=((x.num:Int):Rat):=by
 have h:=Rat.num_divInt_den x
 rw[Rat.divInt_eq_div]at h
 have hd:((x.den:Int):Rat)≠0:=by
  intro z
  exact xH x (by exact_mod_cast z)
 have e:x*((x.den:Int):Rat)=((x.num:Int):Rat)/((x.den:Int):Rat)*((x.den:Int):Rat):=by rw[h]
 rw[e];grind
theorem byq {x:Rat}{b:Int}(h:(x.den:Int) ∣ b):((x.num*b.fdiv (x.den:Int):Int):Rat)=x*(b:Rat):=by
 obtain⟨k,rfl⟩:=h
 rw[Int.mul_fdiv_cancel_left _ (xH x)]
 have e:=Jh x
 rw[Rat.intCast_mul,Rat.intCast_mul,<-Rat.mul_assoc,e]
theorem zcf (tk:Rat){a b:Int}(hb:b≠0):Rat.divInt (a*tk.num) (b*(tk.den:Int))=(a:Rat)*tk/(b:Rat):=by
 have e:=Jh tk
 have hd:((tk.den:Int):Rat)≠0:=by
  intro z
  exact xH tk (by exact_mod_cast z)
 have hb':((b:Int):Rat)≠0:=by
  intro z
  exact hb (by exact_mod_cast z)
 rw[Rat.divInt_eq_div,Rat.intCast_mul,Rat.intCast_mul,<-e]
 grind
theorem za8 {l r:Rat×Rat}{p s:Rat}(hp:0<p) (hs:0<s) (h:r.2<l.2):(r.1*p - l.1*p)*(s/p)/(l.2*s - r.2*s)=mo l r:=by
 unfold mo
 have h1:l.2 - r.2≠0:=by grind
 have h2:l.2*s - r.2*s=(l.2 - r.2)*s:=by grind
 rw[h2]
 have h3:p≠0:=by grind
 have h4:s≠0:=by grind
 have h5:(l.2 - r.2)*s≠0:=by
  intro z
  rcases Rat.mul_eq_zero.mp z with y | y
  ·exact h1 y
  ·exact h4 y
 grind
theorem zb5 {a b c d t:Rat}(hb:0<b) (hd:0<d) (ht:0<t):a*t/b<c*t/d↔a*d<c*b:=by
 rw[Rat.div_lt_iff hb]
 have e:c*t/d*b=(c*b*t)/d:=by
  have:d≠0:=by grind
  grind
 rw[e,Rat.lt_div_iff hd]
 have e2:a*t*d=a*d*t:=by grind
 rw[e2,Rat.mul_lt_mul_right ht]
theorem za7 {α:Type}{L:List α}{p:α×α}(h:p∈L.zip L.tail):∃i,L[i]? = some p.1/\L[i+1]? = some p.2:=by
 obtain⟨i,hi⟩:=List.getElem?_of_mem h
 rw[List.getElem?_zip_eq_some]at hi
 refine⟨i,hi.1,?_⟩
 have:=hi.2
 rw[List.getElem?_tail]at this
 exact this
def xK (pl m:Rat) (ss:List Rat):List (Rat×Rat):=ss.map λs=>(pl - s*m,s)
theorem zce {pl m s s':Rat}(h:s'<s):mo (pl - s*m,s) (pl - s'*m,s')=m:=by
 unfold mo
 show (pl - s'*m - (pl - s*m))/(s - s')=m
 have h1:s - s'≠0:=by grind
 have e:pl - s'*m - (pl - s*m)=m*(s - s'):=by grind
 rw[e]
 grind
end KM
end
section
set_option maxHeartbeats 8000000
set_option Elab.async false
set_option linter.all false
set_option maxRecDepth 100000
namespace L2
open PySem PySem.Spec PyProof.Rows
structure Jn (n₀:Nat) (J:Shared->Prop):Prop where
 kept:∀(s:Shared) (h':Heap) (tk:Nat),J s->(∀b o,s.heap.get? b=some o->h'.get? b=some o)->J { s with heap:=h',toks:=tk }
 upd:∀(s:Shared) (h':Heap) (tk:Nat) (a:Addr),n₀<=a->J s->Heap.SameBut a s.heap h'->(∃o,s.heap.get? a=some o)->(∃o,h'.get? a=some o)->J { s with heap:=h',toks:=tk }
 size:∀s,J s->n₀<=s.heap.objs.size
section
variable {prog:Program}{w:World}{A:Around}{E:Value->Shared->Prop}{s:Shared}{n₀:Nat}{J:Shared->Prop}{a kS:Addr}{vs:List Value}{kz:List Int}{keys:Array Value}{e e1:Nat}{P:PySem.Fin->Shared->Prop}
theorem JD {st:SortSt}(U:Jn n₀ J) (j:J s) (nk:s.heap.get? kS=some (seqObj "list" keys e)) (na:s.heap.get? a=some (seqObj "list" #[] e1)) (hka:kS≠a) (gk:n₀<=kS) (ga:n₀<=a)
  (hk:IntsAre keys.toList kz) (hlen:kz.length=vs.length) (h64:vs.length<64) (hp:(arrOf st).Perm (keys.zip vs.toArray)) (hs:SortedTo (arrOf st) (arrOf st).size) (hfl:failedOf st=none)
  (h:∀s' out c,J s'->s'.heap.get? a=some (seqObj "list" out c)->KskOut false kz vs out.toList->P (.done (.ret .none)) s') :
  wpAny (model prog w) A (ksk_tail a false e1 (.ref kS) st) P E s:=by
 have hsz:keys.size=vs.length:=by
  have h1:=hk.length
  rw[Array.length_toList]at h1
  omega
 have hsz2:(arrOf st).size=vs.length:=by rw[hp.size_eq,Array.size_zip,hsz,List.size_toArray,Nat.min_self]
 have hout:((arrOf st).map (·.2)).size=vs.length:=by rw[Array.size_map];exact hsz2
 have s1:=Heap.SameBut.update s.heap kS (Obj.mapSeq λ_=>(#[]:Array Value))
 have na1:(s.heap.update kS (Obj.mapSeq λ_=>(#[]:Array Value))).get? a=some (seqObj "list" #[] e1):=(s1.2 a hka.symm).trans na
 have s2:=Heap.SameBut.update (s.heap.update kS (Obj.mapSeq λ_=>(#[]:Array Value))) a (Obj.mapSeq λ_=>(arrOf st).map (·.2))
 obtain⟨c2,hc2⟩:∃c2,((s.heap.update kS (Obj.mapSeq λ_=>(#[]:Array Value))).update a (Obj.mapSeq λ_=>(arrOf st).map (·.2))).get? a=some (seqObj "list" ((arrOf st).map (·.2)) c2) :=
  ⟨_,get?_update_seq na1 λ_=>(arrOf st).map (·.2)⟩
 obtain⟨c1,hc1⟩:∃c1,(s.heap.update kS (Obj.mapSeq λ_=>(#[]:Array Value))).get? kS=some (seqObj "list" #[] c1):=⟨_,get?_update_seq nk λ_=>#[]⟩
 have j1:=U.upd s _ s.toks kS gk j s1 ⟨_,nk⟩ ⟨_,hc1⟩
 have j2:=U.upd _ _ s.toks a ga j1 s2 ⟨_,na1⟩ ⟨_,hc2⟩
 unfold ksk_tail
 try dsimp only
 refine wpAny_bind (listUpdate_at nk rfl ?_ (by rw[hsz,sizeLine_eq];omega) (Nat.zero_le _))
 refine wpAny_bind (wpAny_letGo ?_)
 refine wpAny_bind (seqEpoch_at na1 rfl ?_)
 refine wpAny_bind (listUpdate_at na1 rfl ?_ (Nat.zero_le _) (Nat.le_trans (Nat.le_of_eq hout) (by rw[sizeLine_eq];omega)))
 rw[hfl]
 simp only[bne_self_eq_false,Bool.false_eq_true,if_false]
 refine wpAny_pure (h _ _ c2 j2 hc2 ?_)
 exact ksk_out (b:=false) hk hp hs
theorem zen (U:Jn n₀ J) (j:J s) (nk:s.heap.get? kS=some (seqObj "list" keys e)) (na:s.heap.get? a=some (seqObj "list" #[] e1)) (hka:kS≠a) (gk:n₀<=kS) (ga:n₀<=a)
  (hk:IntsAre keys.toList kz) (hlen:kz.length=vs.length) (h64:vs.length<64)
  (h:∀s' out c,J s'->s'.heap.get? a=some (seqObj "list" out c)->KskOut false kz vs out.toList->P (.done (.ret .none)) s') :
  wpAny (model prog w) A (ksk_end a false vs.toArray e1 (.ref kS) keys) P E s:=by
 have hsz:keys.size=vs.length:=by
  have h1:=hk.length
  rw[Array.length_toList]at h1
  omega
 have hzs:(keys.zip vs.toArray).size=vs.length:=by rw[Array.size_zip,hsz,List.size_toArray,Nat.min_self]
 unfold ksk_end
 simp only[Bool.false_eq_true,if_false]
 by_cases h2:vs.toArray.size<2
 ·rw[if_pos h2,if_pos h2]
  refine wpAny_bind (wpAny_pure ?_)
  rw[StateT.run_pure]
  refine wpAny_bind (wpAny_pure ?_)
  try dsimp only
  refine JD (st:=SortSt.mk' general' (keys.zip vs.toArray) #[] 7 none) U j nk na hka gk ga hk hlen h64 (Array.Perm.refl _) ?_ rfl h
  intro i i' hij hj
  have hj2:i'<(keys.zip vs.toArray).size:=hj
  rw[hzs]at hj2
  rw[List.size_toArray]at h2
  have:i=i':=by omega
  subst this
  exact Int.le_refl _
 ·rw[if_neg h2,if_neg h2]
  rw[List.size_toArray]at h2
  rw[ksk_kind hk (by rw[hsz];omega)]
  refine wpAny_bind (wpAny_pure ?_)
  refine wpAny_bind (wpAny_mono (wpS_sortRuns (a₀:=keys.zip vs.toArray) (st:=SortSt.mk' oneType' (keys.zip vs.toArray) #[] 7 none)
   (Q:=λ_ st'=>(arrOf st').Perm (keys.zip vs.toArray)/\failedOf st'=none/\SortedTo (arrOf st') (keys.zip vs.toArray).size)
   (ksk_intKeys hk) ⟨Array.Perm.refl _,rfl,rfl,rfl⟩ (by rw[hzs];omega) (by rw[hzs];exact h64) λst' a1 a2 a3=>⟨a1,a2,a3⟩) ?_ λ_ _ e=>e)
  rintro ⟨⟨⟩,st'⟩ s' ⟨rfl,hp,hf,hs⟩
  try dsimp only
  exact JD U j nk na hka gk ga hk hlen h64 hp (by rw[hp.size_eq];exact hs) hf h
theorem zcP {f:Value}(U:Jn n₀ J) (j:J s) (nk:s.heap.get? kS=some (seqObj "list" #[] 0)) (na:s.heap.get? a=some (seqObj "list" #[] e1)) (hka:kS≠a) (gk:n₀<=kS) (ga:n₀<=a)
  (hlen:kz.length=vs.length) (h64:vs.length<64)
  (turn:∀(i:Nat) (v:Value) (k:Int),vs[i]? = some v->kz[i]? = some k->∀s':Shared,J s' →
   wpAny (model prog w) A (call f [v]) (λu s''=>∃t',u = .int k t'/\J s''/\∀b o,n₀<=b->s'.heap.get? b=some o->s''.heap.get? b=some o) (λ_ _=>False) s')
  (h:∀s' out c,J s'->s'.heap.get? a=some (seqObj "list" out c)->KskOut false kz vs out.toList->P (.done (.ret .none)) s') :
  wpAny (model prog w) A (ksk_rest a f false vs.toArray e1 (.ref kS)) P E s:=by
 unfold ksk_rest
 refine wpAny_bind (wpAny_rule ?_)
 first
  | rw[List.forIn_toArray]
  | (rw[<-Array.forIn_toList];simp only[List.toList_toArray])
  | rw[<-Array.forIn_toList]
 refine wpAny_bind (ksk_fold (λi s'=>∃kA e,J s'/\s'.heap.get? kS=some (seqObj "list" kA e)/\s'.heap.get? a=some (seqObj "list" #[] e1)/\IntsAre kA.toList (kz.take i)) vs 0 s
  ⟨#[],0,j,nk,na,by simpa using IntsAre.nil⟩ ?step ?done)
 case step =>
  rintro i x s' hx ⟨kA,e,j',nk',na',hk⟩
  simp only[Nat.zero_add]at hk ⊢
  have hj:i<vs.length:=(List.getElem?_eq_some_iff.mp hx).1
  obtain⟨k,hkj⟩:∃k,kz[i]? = some k:=⟨_,List.getElem?_eq_getElem (by omega)⟩
  have hz:kA.size<=vs.length:=by
   have h1:=hk.length
   rw[Array.length_toList,List.length_take]at h1
   omega
  refine wpAny_bind (wpAny_attempt (wpAny_mono (turn i x k hx hkj s' j') (λv s'' he=>?_) λ_ _ hF=>hF.elim))
  obtain⟨t2,rfl,j2,kp⟩:=he
  try dsimp only
  have nk2:=kp _ _ gk nk'
  have na2:=kp _ _ ga na'
  have s1:=Heap.SameBut.update s''.heap kS (Obj.mapSeq (·.push (.int k t2)))
  obtain⟨c2,hc2⟩:∃c2,(s''.heap.update kS (Obj.mapSeq (·.push (.int k t2)))).get? kS=some (seqObj "list" (kA.push (.int k t2)) c2):=⟨_,get?_update_seq nk2 (·.push (.int k t2))⟩
  have ek:kz.take (i+1)=kz.take i++[k]:=by rw[List.take_add_one,hkj];simp
  have ea:(kA.push (Value.int k t2)).toList=kA.toList++[Value.int k t2]:=by simp
  refine wpAny_bind (listUpdate_at nk2 rfl ?_ (by rw[sizeLine_eq];omega) (Nat.le_trans (Nat.le_of_eq (Array.size_push ..)) (by rw[sizeLine_eq];omega)))
  exact wpAny_pure ⟨rfl,kA.push (.int k t2),c2,U.upd _ _ _ kS gk j2 s1 ⟨_,nk2⟩ ⟨_,hc2⟩,hc2,(s1.2 a hka.symm).trans na2,by rw[ea,ek];exact ksk_snoc hk⟩
 case done =>
  rintro s' ⟨kA,e,j',nk',na',hk⟩
  have hk':IntsAre kA.toList kz:=by
   have e3:kz.take (0+vs.length)=kz:=List.take_of_length_le (by omega)
   rw[e3]at hk
   exact hk
  try dsimp only
  refine wpAny_bind (listItems_at nk' rfl ?_)
  exact zen U j' nk' na' hka gk ga hk' hlen h64 h
theorem zcQ {f:Value}{n:Nat}(U:Jn n₀ J) (j:J s) (ho:s.heap.get? a=some (seqObj "list" vs.toArray n)) (ga:n₀<=a) (hlen:kz.length=vs.length) (h64:vs.length<64)
  (turn:∀(i:Nat) (v:Value) (k:Int),vs[i]? = some v->kz[i]? = some k->∀s':Shared,J s' →
   wpAny (model prog w) A (call f [v]) (λu s''=>∃t',u = .int k t'/\J s''/\∀b o,n₀<=b->s'.heap.get? b=some o->s''.heap.get? b=some o) (λ_ _=>False) s')
  (h:∀s' out c,J s'->s'.heap.get? a=some (seqObj "list" out c)->KskOut false kz vs out.toList->P (.done (.ret .none)) s') :
  wpAny (model prog w) A (ksk_tree a f false) P E s:=by
 have ha:a<s.heap.objs.size:=Heap.lt_size ho
 have s1:=Heap.SameBut.update s.heap a (Obj.mapSeq λ_=>(#[]:Array Value))
 obtain⟨e1,ho1⟩:∃e1,(s.heap.update a (Obj.mapSeq λ_=>(#[]:Array Value))).get? a=some (seqObj "list" #[] e1):=⟨_,get?_update_seq ho λ_=>#[]⟩
 have j1:=U.upd s _ s.toks a ga j s1 ⟨_,ho⟩ ⟨_,ho1⟩
 have hkS:((s.heap.update a (Obj.mapSeq λ_=>(#[]:Array Value))).push (seqObj "tuple" vs.toArray 0)).objs.size=s.heap.objs.size+1:=by rw[size_push',Heap.size_update]
 have j2:=U.kept _ (((s.heap.update a (Obj.mapSeq λ_=>(#[]:Array Value))).push (seqObj "tuple" vs.toArray 0)).push (seqObj "list" #[] 0)) s.toks j1 λb o q=>Heap.get?_push_of_some _ (Heap.get?_push_of_some _ q)
 unfold ksk_tree
 refine wpAny_bind (listItems_at ho rfl ?_)
 refine wpAny_bind (listUpdate_at ho rfl ?_ (by rw[List.size_toArray,sizeLine_eq];omega) (Nat.zero_le _))
 refine wpAny_bind (seqEpoch_at ho1 rfl ?_)
 refine wpAny_bind (wpAny_newTuple ?_ (by show vs.length<=_;rw[sizeLine_eq];omega))
 refine wpAny_bind (wpAny_newList ?_ (Nat.zero_le _))
 refine wpAny_holding ?_
 refine zcP (s:={ s with heap:=((s.heap.update a (Obj.mapSeq λ_=>(#[]:Array Value))).push (seqObj "tuple" vs.toArray 0)).push (seqObj "list" #[] 0) }) (kS:=((s.heap.update a (Obj.mapSeq λ_=>(#[]:Array Value))).push (seqObj "tuple" vs.toArray 0)).objs.size)
  U j2 (Heap.get?_push_size _ rfl) (Heap.get?_push_of_some _ (Heap.get?_push_of_some _ ho1)) (by rw[hkS];exact Nat.ne_of_gt (Nat.lt_succ_of_lt ha)) (by rw[hkS];have:=U.size s j;omega) ga hlen h64 turn h
theorem zal {Q:Value->Shared->Prop}{l q:Addr}(U:Jn n₀ J) (j:J s) (hl:s.heap.IsList l vs.toArray) (hlen:kz.length=vs.length) (h64:vs.length<64)
  (turn:∀(i:Nat) (v:Value) (k:Int),vs[i]? = some v->kz[i]? = some k->∀s':Shared,J s' →
   wpAny (model prog w) A.in1.in1 (call (.ref q) [v]) (λu s''=>∃t',u = .int k t'/\J s''/\∀b o,n₀<=b->s'.heap.get? b=some o->s''.heap.get? b=some o) (λ_ _=>False) s')
  (h:∀D s' out c,n₀<=D->J s'->s'.heap.get? D=some (seqObj "list" out c)->KskOut false kz vs out.toList->Q (.ref D) s') :
  wpAny (model prog w) A (call (.builtin "sorted") [.ref l] [(Str.ofString "key",.ref q)]) Q E s:=by
 refine call_function_entry_kw kind_sorted plain_sorted entry_sorted (ksk_s1 _ _) ?_
 unfold Builtin.«sorted»
 refine wpAny_bind (m:=checkCount "sorted" 1 1 _) (wpAny_pure ?_)
 refine wpAny_bind (collect_list hl ?_ (by rw[sizeLine_eq];omega))
 refine wpAny_bind (wpAny_newList ?_ (by rw[sizeLine_eq];omega))
 have hsz:((s.heap.push (seqObj "list" #[] 0)).update s.heap.objs.size (Obj.mapSeq (·++vs.toArray))).objs.size=s.heap.objs.size+1:=by
  rw[Heap.size_update,size_push']
 have hoL:(((s.heap.push (seqObj "list" #[] 0)).update s.heap.objs.size (Obj.mapSeq (·++vs.toArray))).push (seqObj "list" vs.toArray 0)).get? (s.heap.objs.size+1)=some (seqObj "list" vs.toArray 0):=by
  rw[<-hsz];exact Heap.get?_push_size _ rfl
 have keep:∀b o,s.heap.get? b=some o->(((s.heap.push (seqObj "list" #[] 0)).update s.heap.objs.size (Obj.mapSeq (·++vs.toArray))).push (seqObj "list" vs.toArray 0)).get? b=some o:=λb o q=>by
  have hlt:b<s.heap.objs.size:=Heap.lt_size q
  rw[Heap.get?_push_ne _ _ _ (by rw[hsz];exact Nat.ne_of_lt (Nat.lt_succ_of_lt hlt)),Heap.get?_update_ne _ _ _ _ (Nat.ne_of_lt hlt),Heap.get?_push_ne _ _ _ (Nat.ne_of_lt hlt)]
  exact q
 have ge:n₀<=s.heap.objs.size+1:=Nat.le_succ_of_le (U.size s j)
 show wpAny _ _ _ _ _ { s with heap:=((s.heap.push (seqObj "list" #[] 0)).update s.heap.objs.size (Obj.mapSeq (·++vs.toArray))).push (seqObj "list" vs.toArray 0) }
 rw[hsz]
 refine wpAny_bind (wpAny_holding (wpAny_call_entry_kw slot_list_sort ⟨_,hoL,rfl⟩ entry_list_sort ?body (ksk_l1 _ _)))
 case body =>
  have ht':=ksk_t1 q (s.heap.objs.size+1)
  show wpAny (model prog w) A.in1.in1 (Builtin.«list.sort» ⟨[.ref (s.heap.objs.size+1)],[(Str.ofString "key",.ref q)]⟩) _ _ _
  rw[ht']
  refine zcQ (s:={ s with heap:=((s.heap.push (seqObj "list" #[] 0)).update s.heap.objs.size (Obj.mapSeq (·++vs.toArray))).push (seqObj "list" vs.toArray 0) })
   U (U.kept s _ s.toks j keep) hoL ge hlen h64 turn λs' out c j' hD k'=>⟨_,rfl,?_⟩
  exact wpAny_pure ⟨_,rfl,h _ s' out c ge j' hD k'⟩
end
end L2
end
section
set_option maxHeartbeats 8000000
set_option Elab.async false
set_option linter.all false
set_option maxRecDepth 100000
namespace L2
open PySem PySem.Spec PyProof.Rows
theorem zb9 {P:Program}{w:World}{K:PySem.W.Frag}{mg:Str->Option Value}{base:Heap}{k:Nat}{f c':Addr}{name qual:Str}{params:Arguments}{body:Expr}{scope:Scope}{pm ctv:Value}{N ps:List Str}{A:Around}{outer:List Env}{s:Shared}{H:Hp}{args:Args}{us:List Value}{vs:List V}{Q:VK}{E:XK}
  (hr:xi (k+1) A) (e0:ZP P w K mg base A outer s H) (ho:s.heap.get? f=some (PySem.W.kla_obj name qual params body scope [] pm c' ctv)) (hcd:s.heap.CodeRec (.ref c') qual) (S:zG N ps scope)
  (hb:bindArgs (PySem.W.kla_fn name qual params body scope [] pm (.ref c') ctv) args=pure (ps.zip us)) (hl:vs.length=ps.length) (r:zU vs us){t:TE}
  (ht:PE (ja CX0 P w K mg base N qual scope f (.ref c') A outer s H E) body t) (hq:t (vk N vs) H Q) :
  codeAny (model P w) A (.call (.ref f) args) (CR CX0 outer P w H s Q E) s:=by
 have lim:s.heap.NoLimit:=e0.mod.nolimit.keeps λb o e=>(e0.bs b o e).1
 have hkind:∀y∈ps.zip us,scope.names.lookup y.1=some .local ∨ (scope.names.lookup y.1=some .cell/\((cellsFrom (s.heap.objs.size+1) scope.names []).lookup y.1).isSome=true):=λ⟨n,v⟩ hy=>by
  rcases S.par n (List.of_mem_zip hy).1 with q | q
  ·exact .inl q
  ·exact .inr ⟨q,PySem.W.cellsFrom_some _ _ _ (.inl q)⟩
 refine PySem.W.kla_callFunE hr.depth ho rfl S.co S.gen rfl hcd ?_
 rw[hb]
 refine wpAny_pure (wpAny_newFunctionEnv_cells S.kind hkind λenv he s1 x=>?_)
 subst he
 refine⟨lim.keeps x.toInCall.keep,PySem.W.kla_codeExpr ?_⟩
 have I:Inv (ja CX0 P w K mg base N qual scope f (.ref c') A outer s H E) [] (vk N vs) H s1:=XL S hr.hd e0 hl r x
 refine wpAny_mono (ht [] s1 (vk N vs) H _ I hq) (λu s' hs=>?_) λe s' hs=>hs
 obtain⟨v,H',J,rv,q⟩:=hs
 exact⟨v,H',J.os,J.bare,J.base,J.hok,rv,q⟩
theorem jo {a b n:Nat}(h:a<n) (g:n<=b):a≠b:=Nat.ne_of_lt (Nat.lt_of_lt_of_le h g)
section
variable {X:Cx}{pins:List (Addr×Obj)}{σ:St}{H:Hp}{s:Shared}
theorem Inv.jn {q:Addr}{oq:Obj}(I:Inv X pins σ H s) (hq:(q,oq)∈pins) (hs:q+1=s.heap.objs.size):Jn (q+1) (λs'=>Inv X pins σ H s'):=by
 refine⟨λs' h' tk J k=>J.kept k,λs' h' tk a ge J sb _ _=>?_,λs' J=>?_⟩
 ·rw[hs]at ge
  refine J.turned (it:=a) (λb o hb e=>(sb.2 b hb).trans e) (I.hok.fresh ge) ?_ (.inr (Nat.le_trans I.sz ge)) (λx c e=>?_) λp hp=>?_
  ·exact(jo I.lt ge).symm
  ·obtain⟨v,o,ho,_⟩:=I.cell x c e
   exact jo (Heap.lt_size ho) ge
  ·exact jo (Heap.lt_size (I.pin p hp).1) ge
 ·exact Heap.lt_size (J.pin (q,oq) (List.mem_append_right _ hq)).1
theorem Inv.track {D:Addr}{o:HO}(I:Inv X pins σ H s) (hD:X.s₀.heap.objs.size<=D) (hn:H D=none) (hL:D≠X.env.locals) (hC:∀x c,X.env.cells.lookup x=some c->c≠D) (hp:∀p∈X.pn++pins,p.1≠D) (new:xo X.prog X.w (upd H D o) s.heap D o):Inv X pins σ (upd H D o) s:=by
 have ne:∀b u,X.s₀.heap.get? b=some u->b≠D:=λb u e=>jo (Heap.lt_size e) hD
 have tr:∀b u,H b=some u->upd H D o b=some u:=λb u e=>by rw[zB (zC e hn)];exact e
 refine⟨I.ok,I.os,I.bare,⟨I.base.keep,I.base.slot,λb u e n hx=>by rw[zB (ne b u e)];exact I.base.free b u e n hx,I.base.there,λb xs e=>tr _ _ (I.base.tups b xs e),λb u v e=>tr _ _ (I.base.frzs b u v e),λb ps e=>let ⟨m,z⟩:=I.base.tbls b ps e;⟨m,tr _ _ z⟩⟩,
  I.loc,I.cell,by rw[zB (Ne.symm hL)];exact I.free,λx c e=>by rw[zB (hC x c e)];exact I.freeC x c e,λp m=>by obtain⟨g1,g2,g3⟩:=I.pin p m;exact⟨g1,by rw[zB (hp p m)];exact g2,g3⟩,λb u e=>?_,I.len⟩
 by_cases hb:b=D
 ·subst hb;rw[zf]at e;cases e;exact new
 ·rw[zB hb]at e
  exact(I.hok b u e).stay (λ_ _ _ z=>z) (λc z=>tr _ _ z) λc xs z=>tr _ _ z
end
inductive Zp:List (Int×V)->List (Int×Value)->Prop where
 | nil:Zp [] []
 | cons {k:Int}{v:V}{u:Value}{l:List (Int×V)}{m:List (Int×Value)} (r:xj v u) (t:Zp l m):Zp ((k,v)::l) ((k,u)::m)
theorem zbT:∀{kz:List Int}{xs:List V}{vs:List Value},zU xs vs->Zp (kz.zip xs) (kz.zip vs)
 | [],_,_,_=>by simp;exact .nil
 | _::_,_,_,.nil=>by simp;exact .nil
 | k::kz,_,_,.cons r t=>by rw[List.zip_cons_cons,List.zip_cons_cons];exact .cons r (zbT t)
theorem zc4 {l1 l2:List (Int×Value)} (p:l1.Perm l2):∀{m2:List (Int×V)},Zp m2 l2->∃m1,m1.Perm m2/\Zp m1 l1:=by
 induction p with
 | nil=>intro m2 h;cases h;exact⟨[],.refl _,.nil⟩
 | cons x p ih=>intro m2 h;cases h with | cons r t=>obtain⟨m1,a,b⟩:=ih t;exact⟨_,a.cons _,.cons r b⟩
 | swap x y l=>intro m2 h;cases h with | cons r t=>cases t with | cons r' t'=>exact⟨_,List.Perm.swap ..,.cons r' (.cons r t')⟩
 | trans p1 p2 ih1 ih2=>intro m2 h;obtain⟨m1,a,b⟩:=ih2 h;obtain⟨m0,c,d⟩:=ih1 b;exact⟨m0,c.trans a,d⟩
theorem zgh {m:List (Int×V)}{l:List (Int×Value)} (h:Zp m l) (p:l.Pairwise λa b=>a.1<=b.1):m.Pairwise λa b=>a.1<=b.1:=by
 have e:∀{m:List (Int×V)}{l:List (Int×Value)},Zp m l->m.map Prod.fst=l.map Prod.fst:=λh=>by
  induction h with
  | nil=>rfl
  | cons r t ih=>simp[ih]
 have p':(l.map Prod.fst).Pairwise (·<=·):=List.pairwise_map.mpr p
 rw[<-e h]at p'
 exact List.pairwise_map.mp p'
theorem zeH {m:List (Int×V)}{l:List (Int×Value)} (h:Zp m l):zU (m.map Prod.snd) (l.map Prod.snd):=by
 induction h with
 | nil=>exact .nil
 | cons r t ih=>exact .cons r ih
def zaw (kz:List Int) (xs ys:List V):Prop:=∃ps:List (Int×V),ps.Perm (kz.zip xs)/\ys=ps.map Prod.snd/\ps.Pairwise λa b=>a.1<=b.1
section
variable {X:Cx}{pins:List (Addr×Obj)}{σ:St}{H:Hp}{s:Shared}
theorem VO {l q c':Addr}{name qual x:Str}{params:Arguments}{body:Expr}{scope:Scope}{pm ctv:Value}{N:List Str}{xs:List V}{kz:List Int}{Qv:Value->Shared->Prop}{φ:Heap->Prop}(I:Inv X pins σ H s) (hq:(q,PySem.W.kla_obj name qual params body scope [] pm c' ctv)∈pins) (hs:q+1=s.heap.objs.size)
  (hc:H c'=some (.ext φ)) (hφ:∀h,φ h->h.CodeRec (.ref c') qual) (hr:xi 3 X.A) (S:zG N [x] scope) (hb:∀v,bindArgs (PySem.W.kla_fn name qual params body scope [] pm (.ref c') ctv) ⟨[v],[]⟩=pure [(x,v)])
  (hl:SqL X.K H l xs) (hlen:kz.length=xs.length) (h64:xs.length<64)
  (ht:∀(i:Nat) (v:V) (k:Int),xs[i]? = some v->kz[i]? = some k->∀s':Shared,∃t,PE (ja CX0 X.prog X.w X.K X.mg X.base N qual scope q (.ref c') X.A.in1.in1 X.stack s' H (λ_ _ _=>False)) body t/\t (vk N [v]) H (λu H'=>u = .int k/\H'=H))
  (h:∀D ys s',H D=none->zaw kz xs ys->Inv X pins σ (upd H D (.lst ys)) s'->Qv (.ref D) s') :
  wpAny (model X.prog X.w) X.A (call (.builtin "sorted") [.ref l] [(Str.ofString "key",.ref q)]) Qv X.xe s:=by
 obtain⟨its,rv,pl,hz⟩:=I.list hl
 have hlv:xs.length=its.length:=rv.length
 have hr1:xi 1 X.A.in1.in1:=(hr.in1).in1
 refine zal (U:=I.jn hq hs) I pl.isList (by rw[hlen,hlv]) (by omega) (λi v k ev ek s' J=>?_) λD s' out c ge J hD ko=>?_
 ·have hi:i<xs.length:=by have:=(List.getElem?_eq_some_iff.mp ek).1;omega
  obtain⟨u,eu⟩:∃u,xs[i]? = some u:=⟨_,List.getElem?_eq_getElem hi⟩
  obtain⟨t,hp,hq'⟩:=ht i u k eu ek s'
  have ru:xj u v:=by
   obtain⟨v',e',r'⟩:=zU.get rv eu
   rw[ev]at e';cases e';exact r'
  have e0:=(J.env0.in1).in1
  refine wpAny_call (codeAny_mono (zb9 (k:=0) (E:=λ_ _ _=>False) hr1 e0 (J.pin _ (List.mem_append_right _ hq)).1 (hφ _ (J.hok c' _ hc).1) (us:=[v]) S (hb v) rfl (.cons ru .nil) hp hq') λr s'' hr'=>?_)
  cases r with
  | error e=>exact False.elim hr'
  | ok fl =>
   cases fl with
   | next=>exact False.elim hr'
   | brk=>exact False.elim hr'
   | cont=>exact False.elim hr'
   | ret w' =>
    have hr2:CE X.stack X.prog X.w H s' (λu H'=>u = .int k/\H'=H) w' s'':=hr'
    obtain⟨v1,H1,J1,r1,e1,e2⟩:=J.after hr2
    subst e1;subst e2
    obtain⟨t',rfl⟩:=(show ∃t',w'=Value.int k t' from r1)
    refine⟨t',rfl,J1,λb o gb e=>?_⟩
    obtain⟨_,H2,_,_,un,_,_,_,rfl⟩:=hr2
    have gb':s.heap.objs.size<=b:=Nat.le_trans (Nat.le_of_eq hs.symm) gb
    have nb:H2 b=none:=I.hok.fresh gb'
    refine un.keep b o e nb (λz=>?_) (by simp)
    rcases List.mem_cons.mp (I.stkSub b z)with rfl | z
    ·exact(jo I.lt gb') rfl
    ·exact I.nofs gb' z
 ·rw[hs]at ge
  obtain⟨ps,hp,ho,hpw⟩:=ko
  obtain⟨ms,hm,hzp⟩:=zc4 hp (zbT rv)
  have hpw':ms.Pairwise λa b=>a.1<=b.1:=zgh hzp (by simpa using hpw)
  have hv:=zeH hzp
  rw[<-ho]at hv
  have hlm:(ms.map Prod.snd).length=xs.length:=by rw[List.length_map,hm.length_eq,List.length_zip,hlen,Nat.min_self]
  refine h D (ms.map Prod.snd) s' (I.hok.fresh ge) ⟨ms,hm,rfl,hpw'⟩ (J.track (Nat.le_trans I.sz ge) (I.hok.fresh ge) ?_ (λx c e=>?_) (λp hp=>?_) ?_)
  ·exact(jo I.lt ge).symm
  ·obtain⟨v,o,ho,_⟩:=I.cell x c e
   exact jo (Heap.lt_size ho) ge
  ·exact jo (Heap.lt_size (I.pin p hp).1) ge
  ·refine⟨by rw[hlm];exact hz,out.toList,c,hv,?_⟩
   rw[hD]
end
end L2
end
section
set_option maxHeartbeats 8000000
set_option Elab.async false
set_option linter.all false
set_option maxRecDepth 100000
namespace L2
open PySem PySem.Spec PyProof.Rows
theorem jw:∀{l:List Value},TriplesOk l->∀{m:List Value},TriplesOk m->TriplesOk (l++m)
 | [],_,_,h=>h
 | .int _ _::.int _ _::_::rest,h,m,k=>jw (l:=rest) h k
abbrev cdX (qual:Str) (c':Addr):HO:=.ext λh=>h.CodeRec (.ref c') qual
def qN (P:Addr) (qual:Str) (pos:Pos) (H:Hp):Prop:=∃ps:Array Value,H P=some (.tbl ps)/\TriplesOk ps.toList/\(codeAmong pos ps.toList=none\/∃c',codeAmong pos ps.toList=some (.ref c')/\H c'=some (cdX qual c'))
def StT (P:Addr) (H H':Hp):Prop:=∀b o,H b=some o->b≠P->H' b=some o
theorem StT.refl {P:Addr}{H:Hp}:StT P H H:=λ_ _ e _=>e
theorem StT.trans {P:Addr}{H H1 H2:Hp}(a:StT P H H1) (b:StT P H1 H2):StT P H H2:=λc o e n=>b c o (a c o e n) n
theorem qN.same {P:Addr}{qual:Str}{pos:Pos}{H H':Hp}(T:qN P qual pos H) (e:zh H H'):qN P qual pos H':=by
 obtain⟨ps,h1,h2,h3⟩:=T
 refine⟨ps,e _ _ h1,h2,?_⟩
 rcases h3 with h3 | ⟨c',h3,h4⟩
 ·exact .inl h3
 ·exact .inr ⟨c',h3,e _ _ h4⟩
theorem QK {qual:Str}{c':Addr}{h1 h2:Heap}(x:h1.CodeRec (.ref c') qual) (k:∀o,h1.get? c'=some o->h2.get? c'=some o):h2.CodeRec (.ref c') qual:=by
 obtain⟨c,o,vs,t,e,g,r⟩:=x
 cases e
 exact⟨c',o,vs,t,rfl,k _ g,r⟩
theorem Vo {P:Program}{w:World}{H:Hp}{h:Heap}{qual:Str}{c':Addr}(x:h.CodeRec (.ref c') qual):xo P w H h c' (cdX qual c'):=by
 refine⟨x,?_,λh1 h2 a b=>QK a b⟩
 obtain⟨c,o,vs,t,e,g,r⟩:=x
 cases e
 exact⟨o,g⟩
section
variable {X:Cx}{pins:List (Addr×Obj)}{σ:St}{H:Hp}{s:Shared}
theorem Inv.pin1 {q:Addr}{oq:Obj}(I:Inv X pins σ H s) (h1:s.heap.get? q=some oq) (h2:H q=none) (h3:q≠X.env.locals) (h4:q∉X.fs) (h5:∀v,oq.data≠.cell v):Inv X (pins++[(q,oq)]) σ H s :=
 I.pins_of λp hp=>by
  rcases List.mem_append.mp hp with hp | hp
  ·exact I.pin p (List.mem_append_right _ hp)
  ·rw[List.mem_singleton.mp hp];exact⟨h1,h2,h3,h4,h5⟩
theorem zaZ {P c:Addr}{qual:Str}{params:Arguments}{body:Expr}{scope:Scope}{pos:Pos}{Qv:Value->Shared->Prop}{E:Value->Shared->Prop}(I:Inv X pins σ H s) (hge:X.env.globals=mainGlobals) (hcode:X.env.code = .ref c) (hC:PySem.W.codeHdIn X.K c P=true)
  (hcl:closureFor scope X.env=pure []) (hdef:defaultsOf params X.env=([],[])) (hB:X.base.BuiltinsAt X.mg P) (hqu:X.env.qual++"<lambda>" = qual) (T:qN P qual pos H)
  (h:∀q c' ctv s' H',qN P qual pos H'->StT P H H'->H' c'=some (cdX qual c')->Inv X (pins++[(q,PySem.W.kla_obj "<lambda>" qual params body scope [] ((X.mg "__name__").getD .none) c' ctv)]) σ H' s'->q+1=s'.heap.objs.size->Qv (.ref q) s') :
  wpAny (model X.prog X.w) X.A (eval (.Lambda params body scope pos) X.env) Qv E s:=by
 obtain⟨ps,hT,tr,hcase⟩:=T
 have hP:s.heap.get? P=some (PySem.W.tabObj ps):=I.hok P _ hT
 have hG:s.heap.Ns mainGlobals X.mg:=I.mod.glob.keeps I.bk
 have CH:=PySem.W.codeHd_of_K I.kIn hC
 have hgP:mainGlobals≠P:=λz=>by
  obtain⟨o,es,ep,e,_⟩:=I.mod.glob
  have:=(I.bs _ _ e).2
  rw[z,hT]at this;cases this
 have hB':s.heap.BuiltinsAt X.mg P:=by
  obtain⟨bm,o,b1,b2,b3,b4,b5,b6⟩:=hB
  exact⟨bm,o,b1,b2,b3,b4,I.bk _ _ b5,b6⟩
 refine PySem.W.kla_eval hdef ?_
 rw[hqu]
 rcases hcase with hnf | ⟨c',hf,hc'⟩
 ·refine PySem.W.kla_makeFunction (mg:=X.mg) hcl hge hG hcode CH hP tr hnf hgP hB' λc' ctv h' tk hx hge' hlt hrec htb=>?_
  have hq0:s.heap.objs.size<=h'.objs.size:=Nat.le_trans hge' (Nat.le_of_lt hlt)
  have hfc:H c'=none:=I.hok.fresh hge'
  have hcP:c'≠P:=λz=>by rw[z,hT]at hfc;cases hfc
  have kf:∀b o,b≠P->s.heap.get? b=some o->(h'.push (PySem.W.kla_obj "<lambda>" qual params body scope [] ((X.mg "__name__").getD .none) c' ctv)).get? b=some o:=λb o n e=>Heap.get?_push_of_some _ (hx b o n e)
  have neP:∀b,H b=none->b≠P:=λb e z=>by rw[z,hT]at e;cases e
  have neC:∀b o,s.heap.get? b=some o->b≠c':=λb o e=>jo (Heap.lt_size e) hge'
  have tr':∀b o,H b=some o->b≠P->upd (upd H P (.tbl (ps++#[rawInt pos.line,rawInt pos.col,.ref c']))) c' (cdX qual c') b=some o:=λb o e n=>by
   rw[zB (zC e hfc),zB n];exact e
  have J:Inv X pins σ (upd (upd H P (.tbl (ps++#[rawInt pos.line,rawInt pos.col,.ref c']))) c' (cdX qual c')) { s with heap:=h'.push (PySem.W.kla_obj "<lambda>" qual params body scope [] ((X.mg "__name__").getD .none) c' ctv),toks:=tk }:=by
   refine I.step (g':=s.gens) (d':=s.drawn) (ch:=[]) (λ_ z=>nomatch z) (λb o _ _ _ e n=>kf b o (neP b n) e) (λb o _ _ _ e n=>⟨o.slots,kf b o (neP b n) e⟩) (λb o _ e n=>by rw[zB (neC b o e),zB (neP b n)];exact n) (λb o _ e=>?_) (λb xs e=>tr' _ _ e λz=>by rw[z,hT]at e;cases e) (λb o u e=>tr' _ _ e λz=>by rw[z,hT]at e;cases e) (λb qs e=>?_) (λm hm=>?_) (λb u e=>?_) I.bare
   ·by_cases z:b=P
    ·subst z;exact⟨_,Heap.get?_push_of_some _ htb⟩
    ·exact⟨o,kf b o z e⟩
   ·by_cases z:b=P
    ·subst z
     rw[hT]at e;cases e
     exact⟨#[rawInt pos.line,rawInt pos.col,.ref c'],by rw[zB hcP.symm,zf]⟩
    ·exact⟨#[],by rw[tr' _ _ e z];simp⟩
   ·obtain⟨o,es,ep,ho,r⟩:=hm
    exact⟨o,es,ep,kf _ o (neP _ I.free) ho,r⟩
   ·by_cases zc:b=c'
    ·subst zc
     rw[zf]at e;cases e
     exact Vo (hrec.push _)
    ·rw[zB zc]at e
     by_cases zp:b=P
     ·subst zp
      rw[zf]at e;cases e
      exact Heap.get?_push_of_some _ htb
     ·rw[zB zp]at e
      refine(I.hok b u e).stay (λd v hd ev=>kf d v ?_ ev) (λd ed=>tr' _ _ ed λz=>by rw[z,hT]at ed;cases ed) λd xs ed=>tr' _ _ ed λz=>by rw[z,hT]at ed;cases ed
      rcases hd with rfl | hd
      ·exact zp
      ·intro z;rw[z,hT]at hd;cases hd
  refine h h'.objs.size c' ctv _ _ ⟨_,by rw[zB hcP.symm,zf],?_,.inr ⟨c',?_,zf⟩⟩ (λb o e n=>tr' b o e n) zf (J.pin1 (Heap.get?_push_size _ rfl) ?_ (jo I.lt hq0).symm (I.nofs hq0) (λv=>by intro z;cases z)) (by rw[Heap.size_push])
  ·rw[Array.toList_append]
   exact jw tr (show TriplesOk [rawInt pos.line,rawInt pos.col,.ref c']from trivial)
  ·rw[Array.toList_append]
   exact codeAmong_snoc _ tr hnf
  ·rw[zB (Nat.ne_of_gt hlt),zB (neP _ (I.hok.fresh hq0))];exact I.hok.fresh hq0
 ·refine PySem.W.kla_makeFunctionHit (mg:=X.mg) hcl hge hG hcode CH hP tr hf hB' λctv h' tk hk hsz=>?_
  have J:Inv X pins σ H { s with heap:=h'.push (PySem.W.kla_obj "<lambda>" qual params body scope [] ((X.mg "__name__").getD .none) c' ctv),toks:=tk }:=I.kept λb o e=>Heap.get?_push_of_some _ (hk b o e)
  exact h h'.objs.size c' ctv _ _ ⟨ps,hT,tr,.inr ⟨c',hf,hc'⟩⟩ StT.refl hc' (J.pin1 (Heap.get?_push_size _ rfl) (I.hok.fresh hsz) (jo I.lt hsz).symm (I.nofs hsz) (λv=>by intro z;cases z)) (by rw[Heap.size_push])
end
end L2
end
section
set_option maxHeartbeats 8000000
set_option Elab.async false
set_option linter.all false
set_option maxRecDepth 100000
namespace L2
open PySem PySem.Spec PyProof.Rows
section
variable {X:Cx}{te to ta tc:TE}{p2 pos kpos p:Pos}
def zdL (to:TE) (tl th:TO):TG:=λv σ H Q=>to σ H λx H1=>tl σ H1 λi H2=>th σ H2 λj H3=>∃l b xs ys a c,x = .ref l/\v = .ref b/\i=some a/\j=some c/\H3 l=some (.lst xs)/\H3 b=some (.lst ys)/\l≠b/\0<=a/\a<=c/\c<=(xs.length:Int)/\xs.length+ys.length<=sizeLine ∧
 Q σ (upd H3 l (.lst (xs.take a.toNat++ys++xs.drop c.toNat)))
theorem zbj {o:Expr}{lo hi:Option Expr}{tl th:TO}(ho:PE X o to) (hl:PO X lo tl) (hh:PO X hi th)
  (ha:∀v,assign (.Subscript o (.Slice lo hi none p2) pos) X.env v=(do
   let ov <-holding [v] (eval o X.env)
   let iv <-holding [v,ov] (eval (.Slice lo hi none p2) X.env)
   standAt pos
   holding [v,ov,iv] (setItem ov iv v)
   release [iv,v,ov] []):=by intro _;rfl):PG X (.Subscript o (.Slice lo hi none p2) pos) (zdL to tl th):=by
 intro pins s σ H v u Q I r h
 rw[ha]
 refine wpAny_bind (wpAny_holding (thn (ho pins s σ H _ I h) λov s1 ⟨x,H1,I1,r1,q1⟩=>?_))
 refine wpAny_bind (wpAny_holding (wpAny_Slice (thn (hl pins s1 σ H1 _ I1 q1) λvl s2 ⟨l,H2,I2,pl,q2⟩=>thn (hh pins s2 σ H2 _ I2 q2) λvu s3 ⟨u',H3,I3,pu,q3⟩=>?_)))
 rw[evalPart_none]
 refine wpAny_pure ?_
 obtain⟨l',b,xs,ys,a,c,rfl,rfl,rfl,rfl,h1,h2,h3,h4,h5,h6,h7,q⟩:=q3
 cases r
 cases r1
 have I4:Inv X pins σ H3 { s3 with heap:=s3.heap.push { cls:=.type "slice",data:=.fields #[vl,vu,.none] } }:=I3.kept (t':=s3.toks) λb ob q=>Heap.get?_push_of_some _ q
 refine wpAny_bind (wpAny_standAt (wpAny_bind (wpAny_holding (zak I4 h1 h2 h3 (Heap.IsSliceOf.new ..) (by cases pl;exact⟨_,rfl⟩) (by cases pu;exact⟨_,rfl⟩) h4 h5 h6 h7 λs' I'=>?_))))
 exact wpAny_release ⟨σ,_,I',q⟩
def zeB (P:Addr) (qual:Str) (lpos:Pos) (N:List Str) (ta:TA) (tb:TE):TE:=λσ H Q=>ta σ H λvs H1=>∃l xs kz,vs=[.ref l]/\H1 l=some (.lst xs)/\qN P qual lpos H1/\kz.length=xs.length/\xs.length<64 ∧
 (∀(i:Nat) (v:V) (k:Int),xs[i]? = some v->kz[i]? = some k->∀H2,StT P H1 H2->tb (vk N [v]) H2 (λu H'=>u = .int k/\H'=H2)) ∧
 ∀D ys H2,StT P H1 H2->qN P qual lpos H2->H2 D=none->zaw kz xs ys->Q (.ref D) (upd H2 D (.lst ys))
theorem zbi {e body:Expr}{params:Arguments}{scope:Scope}{lpos:Pos}{P c:Addr}{x qual:Str}{N:List Str}{ta:TA}{tb:TE}(hge:X.env.globals=mainGlobals) (hcode:X.env.code = .ref c) (hC:PySem.W.codeHdIn X.K c P=true)
  (hcl:closureFor scope X.env=pure []) (hdef:defaultsOf params X.env=([],[])) (hB:X.base.BuiltinsAt X.mg P) (hqu:X.env.qual++"<lambda>" = qual) (hr:xi 3 X.A) (S:zG N [x] scope)
  (hb:∀(pm cd ctv v:Value),bindArgs (PySem.W.kla_fn "<lambda>" qual params body scope [] pm cd ctv) ⟨[v],[]⟩=pure [(x,v)])
  (hg:Gl X "sorted") (hm:X.mg "sorted" = none) (ha:PA X [e] ta)
  (hpe:∀(q c':Addr) (s':Shared) (H':Hp),PE (ja CX0 X.prog X.w X.K X.mg X.base N qual scope q (.ref c') X.A.in1.in1 X.stack s' H' (λ_ _ _=>False)) body tb)
  (hbt:backTo pos (starEach [e] X.env)=(false,eval e X.env)::backTo pos (starEach [] X.env):=by rfl) :
  PE X (.Call (.Name "sorted" p) [e] [⟨some "key",.Lambda params body scope lpos,kpos⟩] pos) (zeB P qual lpos N ta tb):=by
 intro pins s σ H Q I h
 refine wpAny_Call_Name_kw (jm I hg hm boot_sorted ?_ (by decide) (by decide))
 refine callWith_kw ?_ hbt (by rw[hbt];rfl) rfl rfl
 refine thn (ha pos pins s σ H _ I h) λus s1 ⟨vs,H1,I1,r1,q1⟩=>?_
 obtain⟨l,xs,kz,rfl,h1,h2,h3,h4,h5,h6⟩:=q1
 obtain⟨u,rfl,ru⟩:=jY r1
 cases ru
 have hlP:l≠P:=λz=>by
  obtain⟨ps,e,_⟩:=h2
  rw[<-z,h1]at e;cases e
 refine kws_cons (zaZ I1 hge hcode hC hcl hdef hB hqu h2 λq c' ctv s' H' T' st' hc' J hq=>kws_nil ?_)
 show wpAny (model X.prog X.w) X.A (call (.builtin "sorted") [.ref l] [(Str.ofString "key",.ref q)]) _ _ s'
 refine VO (φ:=λh=>h.CodeRec (.ref c') qual) J (List.mem_append_right _ (List.mem_singleton.mpr rfl)) hq hc' (λ_ z=>z) hr S (hb _ _ _) (SqL.of (st' l _ h1 hlP)) h3 h4 (λi v k ev ek s''=>⟨tb,hpe q c' s'' H',h5 i v k ev ek H' st'⟩) λD ys s'' hD hK J'=>?_
 exact⟨.ref D,_,J'.unpinned,rfl,h6 D ys H' st' T' hD hK⟩
end
end L2
end
section
set_option maxHeartbeats 8000000
set_option Elab.async false
set_option linter.all false
set_option maxRecDepth 100000
namespace L2
open PySem PySem.Spec PyProof.Rows
theorem J9 {P:Program}{w:World}{K:PySem.W.Frag}{mg mb:Str->Option Value}{CX:CXT}{k:Nat}{fa a Tb c:Addr}{fd:FuncData}{x:Str}{sp:Sp}{s₁:Shared}{vs:List Value}{ns:List Int}
  (KX:K.In s₁.heap) (hns:s₁.heap.Ns mainGlobals mg) (hb:s₁.heap.Ns builtinsNs mb) (hbb:∀x:Str,x≠"__name__"->mb x=bootBuiltins x) (hlim:s₁.heap.NoLimit) (hg:s₁.gens = #[])
  (hbm:∃bm ob,mg "__builtins__" = some (.ref bm)/\bm≠builtinsNs/\s₁.heap.get? bm=some ob/\ob.cls = .type "module"/\ob.dict=some builtinsNs/\ob.data = .plain)
  (hTb:s₁.heap.get? Tb=some (PySem.W.tabObj #[])) (hKT:K.lookup Tb=none) (hC:PySem.W.codeHdIn K c Tb=true)
  (ha:s₁.heap.get? a=some { cls:=.type "list",data:=.seq vs.toArray }) (hi:IntsAre vs ns) (hl:ns.length<=sizeLine) (hr:xi k callerA)
  (F:∀base:Heap,K.In base->base.Ns mainGlobals mg->base.BuiltinsAt mg Tb->vL P w K mg base CX k fa fd [x] sp) (hbind:∀(s:Shared) (u:Value),BindsTo s fd ⟨[u],[]⟩ [(x,u)])
  (hsp:∀H:Hp,H Tb=some (.tbl #[])->SqL K H a (ns.map V.int)->sp [.ref a] H (λv _=>v = .bl true) λ_ _ _=>False)
  (hCX:∀H e s',CX [] H s₁ (λ_ _ _=>False) e s'->False) :
  codeAny (model P w) callerA (.call (.ref fa) ⟨[.ref a],[]⟩) (λr s'=>r = .ok (.ret (.bool true))/\OldK s₁.heap s'.heap/\s'.os=s₁.os/\AllBare s'.gens) s₁:=by
 have rv:=XY hi
 have lenV:=hi.length
 have haT:a≠Tb:=λz=>by rw[z,hTb]at ha;cases ha
 have core:∀H:Hp,H Tb=some (.tbl #[])->SqL K H a (ns.map V.int)->HOk P w H s₁.heap->(∀b,b≠Tb->H b=none\/(b=a/\∃o xs,H b=some (.frz o (.lst xs))))->(H a≠none->K.lookup a=none) →
   codeAny (model P w) callerA (.call (.ref fa) ⟨[.ref a],[]⟩) (λr s'=>r = .ok (.ret (.bool true))/\OldK s₁.heap s'.heap/\s'.os=s₁.os/\AllBare s'.gens) s₁:=by
  intro H hT hS hok hO hK
  have base_of:∀{b:Addr}{o:Obj},s₁.heap.get? b=some o->H b=none->(Xs s₁.heap H).get? b=some o:=λe n=>zaT e n
  have noA:∀{b:Addr}{o:Obj},s₁.heap.get? b=some o->(∀xs n,o.data≠.seq xs n)->(∀xs,o.data≠.fields xs)->H b=none:=λ{b o} e d1 d2=>by
   by_cases hbT:b=Tb
   ·subst hbT;rw[hTb]at e;cases e;exact absurd rfl (d2 #[])
   ·rcases hO b hbT with z | ⟨rfl,_⟩
    ·exact z
    ·rw[ha]at e;cases e;exact absurd rfl (d1 _ _)
  have nsK:∀{b:Addr}{m:Str->Option Value},s₁.heap.Ns b m->(Xs s₁.heap H).Ns b m:=λ{b m} ⟨o,es,ep,e,d,r⟩=>⟨o,es,ep,base_of e (noA e (λ_ _ z=>by rw[d]at z;cases z) λ_ z=>by rw[d]at z;cases z),d,r⟩
  have hKb:K.In (Xs s₁.heap H):=λb o e=>base_of (KX b o e) (by
   by_cases hbT:b=Tb
   ·subst hbT;rw[hKT]at e;cases e
   ·rcases hO b hbT with z | ⟨rfl,o',xs,z⟩
    ·exact z
    ·rw[hK (by rw[z];simp)]at e;cases e)
  have hM:Mod K mg (Xs s₁.heap H):=⟨hKb,nsK hns,⟨mb,nsK hb,hbb⟩,let ⟨mc,h1,h2⟩:=hlim;⟨mc,nsK h1,h2⟩⟩
  have hBA:(Xs s₁.heap H).BuiltinsAt mg Tb:=by
   obtain⟨bm,ob,b1,b2,b3,b4,b5,b6⟩:=hbm
   refine⟨bm,ob,b1,b2,λz=>?_,λz=>?_,base_of b3 (noA b3 (λ_ _ z=>by rw[b6]at z;cases z) λ_ z=>by rw[b6]at z;cases z),b4,b5,b6⟩
   ·obtain⟨o,es,ep,e,d,_⟩:=hns
    rw[z,e]at b3;cases b3;rw[d]at b6;cases b6
   ·rw[z,hTb]at b3;cases b3;cases b4
  have e0:ZP P w K mg (Xs s₁.heap H) callerA [] s₁ H:=⟨rfl,hM,λb o e=>zch e,Nat.le_of_eq (J5 _ _),trivial,λb hb=>absurd (show b∈([]:List Addr)from hb) (by simp),hok,.of_eq hg⟩
  refine codeAny_mono ((F _ hKb (nsK hns) hBA).run callerA [] s₁ H ⟨[.ref a],[]⟩ [.ref a] [.ref a] _ _ hr e0 (hbind s₁ (.ref a)) (.cons rfl .nil) (hsp H hT hS)) λr s' h=>?_
  cases r with
  | error e=>exact(hCX H e s' h).elim
  | ok fl =>
   cases fl with
   | next=>exact False.elim h
   | brk=>exact False.elim h
   | cont=>exact False.elim h
   | ret u =>
    obtain⟨v,H',os,bare,un,hok',r',q⟩:=h
    have q':v = .bl true:=q
    subst q'
    obtain rfl:u=Value.bool true:=r'
    have old:∀b o,b≠Tb->s₁.heap.get? b=some o->s'.heap.get? b=some o:=λb o hbT e=>by
     rcases hO b hbT with z | ⟨_,ob,xs,z⟩
     ·exact un.keep b o e z (by intro z;exact absurd (show b∈([]:List Addr)from z) (by simp)) (by simp)
     ·have z2:=un.frzs b ob _ z
      obtain⟨e1,_⟩:=hok b _ z
      obtain⟨e2,_⟩:=hok' b _ z2
      rw[e]at e1;cases e1
      exact e2
    obtain⟨more,eT⟩:=un.tbls Tb #[] hT
    have gT:s'.heap.get? Tb=some (PySem.W.tabObj (#[]++more)):=hok' Tb _ eT
    refine⟨rfl,⟨λb o e=>?_,λb o e=>?_⟩,os,bare⟩
    ·by_cases hbT:b=Tb
     ·subst hbT
      rw[hTb]at e;cases e
      exact .inr (.inl ⟨((PySem.W.codeHd_of_K KX hC).tab hTb).isCodeTable,rfl,#[],more,rfl,gT⟩)
     ·exact .inl (old b o hbT e)
    ·by_cases hbT:b=Tb
     ·subst hbT;exact⟨_,gT⟩
     ·exact⟨o,old b o hbT e⟩
 cases hk:K.lookup a with
 | some o =>
  have e:=KX a o hk
  rw[ha]at e
  cases e
  refine core (λb=>if b=Tb then some (.tbl #[])else none) (if_pos rfl) (.inr ⟨_,vs.toArray,_,hk,rfl,rfl,rfl,by rw[List.size_toArray,lenV];exact hl,by simpa using rv⟩) (λb u z=>?_) (λb hb=>.inl (if_neg hb)) λz=>absurd (if_neg haT) z
  by_cases hb:b=Tb
  ·have z':=(if_pos hb).symm.trans z
   cases z'
   subst hb
   exact hTb
  ·have z':=(if_neg hb).symm.trans z
   cases z'
 | none =>
  refine core (λb=>if b=Tb then some (.tbl #[])else if b=a then some (.frz { cls:=.type "list",data:=.seq vs.toArray } (.lst (ns.map V.int)))else none) (if_pos rfl) (.inl (.inr ⟨{ cls:=.type "list",data:=.seq vs.toArray },by show (if a=Tb then _ else _)=_;rw[if_neg haT,if_pos rfl]⟩)) (λb u z=>?_) (λb hb=>?_) λ_=>hk
  ·by_cases hb:b=Tb
   ·have z':=(if_pos hb).symm.trans z
    cases z'
    subst hb
    exact hTb
   ·have z1:=(if_neg hb).symm.trans z
    by_cases hb2:b=a
    ·have z':=(if_pos hb2).symm.trans z1
     cases z'
     subst hb2
     exact⟨ha,by rw[List.length_map];exact hl,vs,_,rv,ha⟩
    ·have z':=(if_neg hb2).symm.trans z1
     cases z'
  ·by_cases hb2:b=a
   ·exact .inr ⟨hb2,_,_,by show (if b=Tb then _ else _)=_;rw[if_neg hb,if_pos hb2]⟩
   ·exact .inl (by show (if b=Tb then _ else _)=_;rw[if_neg hb,if_neg hb2])
theorem zbN {l:PySem.W.OpenLaw}{n k:Nat}{q:Program}{loose:List Str}{XP:(Str->Option Value)->Heap->Prop}{YP:World->Heap->Prop}{d:DefRec}{K:Params->PySem.W.Frag}{CX:World->CXT}{sp:World->Sp}{x:Str}{Tb c:Addr}
  (hn:l.most=some n) (hn2:n<=sizeLine) (hdf:d.params.defaults=[]) (hr:xi k callerA)
  (hY:∀(w:World) (h:Heap),YP w h->(K w.params).In h/\h.get? Tb=some (PySem.W.tabObj #[])) (hKT:∀w:World,(K w.params).lookup Tb=none) (hC:∀w:World,PySem.W.codeHdIn (K w.params) c Tb=true)
  (F:∀(w:World) (mg:Str->Option Value) (fa:Addr) (h:Heap),(K w.params).In h->h.Ns mainGlobals mg->mg d.name=some (.ref fa) →
   ∃fd:FuncData,(∀(s:Shared) (u:Value),BindsTo s fd ⟨[u],[]⟩ [(x,u)]) ∧
    ∀base:Heap,(K w.params).In base->base.Ns mainGlobals mg->base.BuiltinsAt mg Tb->vL l.prog w (K w.params) mg base (CX w) k fa fd [x] (sp w))
  (hsp:∀(w:World) (H:Hp) (a:Addr) (ns:List Int),ns.length<=n->H Tb=some (.tbl #[])->SqL (K w.params) H a (ns.map V.int)->sp w [.ref a] H (λv _=>v = .bl true) λ_ _ _=>False)
  (hCX:∀(w:World) (H:Hp) (s:Shared) (e:Value) (s':Shared),CX w [] H s (λ_ _ _=>False) e s'->False) :
  PySem.W.WalkO q loose XP YP l.row.toRowW d [] (λf vs=>PySem.call f vs):=by
 refine Att.attach_call hn hdf λw s₀ s₁ mg mb fa o pm cd doc a vs ns G Y ho hd hcd hmg hobj hints hlen hg=>?_
 obtain⟨KX,hT⟩:=hY w _ Y
 obtain⟨fd,hb,hF⟩:=F w mg fa _ KX G.T.g hmg
 exact J9 KX G.T.g G.T.b G.T.builtins G.T.nolimit hg G.T.bmain hT (hKT w) (hC w) hobj hints (Nat.le_trans hlen hn2) hr hF hb (λH hO hS=>hsp w H a ns hlen hO hS) λH e s'=>hCX w H s₁ e s'
end L2
end
section
set_option maxHeartbeats 8000000
set_option Elab.async false
set_option linter.all false
set_option maxRecDepth 100000
namespace L2
open PySem PySem.Spec PyProof.Rows
section
variable {prog:Program}{w:World}{A:Around}{E:Value->Shared->Prop}{s:Shared}
theorem QQ {h h':Heap}{l a:Addr}{items:Array Value}(hl:h.IsList l items) (he:Heap.ExtBut a h h') (n:l≠a):h'.IsList l items:=by
 obtain⟨o,ho,r⟩:=hl
 exact⟨o,he l o n ho,r⟩
theorem ZZ {it l:Addr}{items:Array Value}(hne:l≠it):∀(n i:Nat) (s:Shared) (Q:List Value->Shared->Prop),s.heap.IsListIter it l i->s.heap.IsList l items->i+n<=items.size →
  (∀h',h'.IsListIter it l (i+n)->Heap.SameBut it s.heap h'->Q ((items.toList.drop i).take n) { s with heap:=h' })->wpAny (model prog w) A (draw (.ref it) n) Q E s
 | 0,i,s,Q,hit,_,_,hQ=>by
  show wpAny _ _ (pure []) Q E s
  exact wpAny_pure (by simpa using hQ s.heap hit (Heap.SameBut.refl ..))
 | n+1,i,s,Q,hit,ht,hle,hQ=>by
  have hlt:i<items.size:=by omega
  show wpAny _ _ (pyNext (.ref it) >>= _) Q E s
  refine wpAny_bind (wpAny_pyNext_list_item hit ht (x:=items[i]) (by simp[hlt]) λh₁ hit₁ hs₁=>?_)
  refine wpAny_bind (wpAny_holding (ZZ hne n (i+1) _ _ hit₁ (QQ ht hs₁.extBut hne) (by omega) λh₂ hit₂ hs₂=>wpAny_pure ?_))
  have hd:items.toList.drop i=items[i]::items.toList.drop (i+1):=by simp[List.drop_eq_getElem_cons,hlt]
  have:=hQ h₂ (by rw[show i+(n+1)=i+1+n by omega];exact hit₂) (hs₁.trans hs₂)
  rw[hd,List.take_succ_cons]at this
  exact this
theorem jX {l:Addr}{items:Array Value}{Q:List Value->Shared->Prop}(hh:A.handled=none) (ht:s.heap.IsList l items)
  (hQ:∀h',Heap.ExtBut s.heap.objs.size s.heap h'->Q items.toList { s with heap:=h' }):wpAny (model prog w) A (unpackItems (.ref l) items.size none) Q E s:=by
 have hlt:l≠s.heap.objs.size:=by obtain⟨o,ho,_⟩:=ht;exact Nat.ne_of_lt (Heap.lt_size ho)
 have pu:(s.heap.push { cls:=.type "list_iterator",data:=.fields #[.ref l,.int 0 0] }).IsList l items:=by
  obtain⟨o,ho,r⟩:=ht;exact⟨o,Heap.get?_push_of_some _ ho,r⟩
 unfold unpackItems
 refine wpAny_bind ?_
 unfold notIterableAtAll
 refine wpAny_bind (wpAny_specialOf ht.typeIs slot_list_iter.lookup ?_)
 refine wpAny_pure ?_
 simp only[Bool.false_eq_true,if_false]
 refine wpAny_bind (wpAny_holding (wpAny_pyIter_list ht ?_))
 refine wpAny_bind (wpAny_holding (ZZ hlt items.size 0 _ _ ⟨_,Heap.get?_push_size _ rfl,rfl,rfl⟩ pu (by omega) λh₁ hit₁ hs₁=>?_))
 have hall:List.take items.size (List.drop 0 items.toList)=items.toList:=by
  rw[List.drop_zero];exact List.take_of_length_le (by simp)
 rw[hall]
 rw[if_neg (by simp)]
 have ht₁:h₁.IsList l items:=QQ pu hs₁.extBut hlt
 refine wpAny_bind (wpAny_holding (wpAny_pyNext_list_end hh hit₁ ht₁ (by simp) λh₂ he₂=>?_))
 simp only[Option.isSome_none,Bool.false_eq_true,if_false]
 refine wpAny_pure (hQ h₂ λb o hb e=>he₂ b o hb (hs₁.extBut b o hb (Heap.get?_push_of_some _ e)))
end
section
variable {X:Cx}{pos:Pos}
def zeO (K:PySem.W.Frag) (n:Nat) (t:TGs):TG:=λv σ H Q=>∃a xs,v = .ref a/\SqL K H a xs/\xs.length=n/\t xs σ H Q
theorem Jr {es:List Expr}{k:Nat}{t:TGs}{n:Nat}(hc:X.calm=true) (h:PGs X es t)
  (hn:(assignEach es X.env).length=n:=by rfl) (hst:(assignEach es X.env).findIdx? (·.1)=none:=by rfl):PG X (.Tuple es k pos) (zeO X.K n t):=by
 intro pins s σ H v u Q I r hw
 obtain⟨a,xs,e1,hq,hl,hw⟩:=hw
 subst e1
 cases r
 obtain⟨its,rv,ht,hz⟩:=I.list hq
 rw[assign_Tuple]
 refine wpAny_bind (wpAny_standAt ?_)
 unfold unpack
 have hsz:(assignEach es X.env).length=its.toArray.size:=by simp[hn,<-hl,rv.length]
 rw[hsz,hst]
 refine wpAny_bind (wpAny_holding (jX (I.ok.hd hc) ht.isList λh' hx=>?_))
 have I1:Inv X pins σ H { s with heap:=h' }:=I.kept (t':=s.toks) λb o e=>hx b o (Nat.ne_of_lt (Heap.lt_size e)) e
 exact h pins _ σ H xs _ Q I1 (by simpa using rv) hw
end
end L2
end
set_option Elab.async false
set_option linter.all false
set_option maxRecDepth 100000
namespace KK
open PySem L2
def top (i:Nat):Stmt:=PySem.Challenge.pw_clackrow_k13_together_refused.main.body.getD i (.Pass ⟨0,0,0,0⟩)
abbrev qV:Stmt:=top 9
abbrev xn:Stmt:=top 10
abbrev jf:Stmt:=top 11
abbrev jx:Stmt:=top 12
abbrev Zg:Stmt:=top 13
abbrev Zf:Stmt:=top 14
abbrev xy:Stmt:=top 17
abbrev xD:Stmt:=top 18
abbrev va:Stmt:=top 19
abbrev qD:Stmt:=top 20
abbrev x9:Stmt:=top 21
abbrev vC:Stmt:=top 22
abbrev vD:Stmt:=top 23
abbrev vB:Stmt:=top 24
abbrev qy:Stmt:=top 25
abbrev vE:Stmt:=top 26
abbrev xL:Stmt:=top 27
abbrev vz:Stmt:=top 28
abbrev je:Stmt:=top 29
abbrev Zh:Stmt:=top 30
abbrev v7:Stmt:=top 31
abbrev vA:Stmt:=top 32
abbrev xr:Stmt:=top 33
abbrev v6:Stmt:=top 34
abbrev xY:Stmt:=top 36
abbrev x8:Stmt:=top 37
abbrev v3:Stmt:=top 38
abbrev qW:Stmt:=top 40
abbrev qX:Stmt:=top 41
abbrev qY:Stmt:=top 42
abbrev q5:Stmt:=top 43
abbrev vv:Stmt:=top 44
abbrev vt:Stmt:=top 45
abbrev vw:Stmt:=top 46
abbrev v4:Stmt:=top 47
abbrev qZ:Stmt:=top 48
abbrev qA:Stmt:=top 49
abbrev qB:Stmt:=top 50
abbrev qC:Stmt:=top 51
abbrev ql:Stmt:=top 52
abbrev x5:Stmt:=top 53
abbrev v5:Stmt:=top 54
abbrev xZ:Stmt:=top 55
abbrev x6:Stmt:=top 56
abbrev qm:Stmt:=top 57
abbrev qz:Stmt:=top 58
abbrev s_law:Stmt:=top 59
abbrev xE:Stmt:=Qe (top 6) 0
abbrev qE:Stmt:=Qe (top 7) 0
abbrev xX:Stmt:=Qe (top 16) 0
end KK
set_option Elab.async false
set_option linter.all false
set_option maxRecDepth 100000
namespace KK
open PySem L2
structure TxB (K:PySem.W.Frag) (mg:Str->Option Value):Prop where
 ii:PySem.W.kitOne K (.type "int") (.type "int")=some true
 ib:PySem.W.kitOne K (.type "int") (.type "bool")=some false
 nIs:mg "isinstance" = none
 nInt:mg "int" = none
 nBool:mg "bool" = none
 nAbs:mg "abs" = none
 nLen:mg "len" = none
 nMax:mg "max" = none
 nMin:mg "min" = none
 nRange:mg "range" = none
 nTuple:mg "tuple" = none
 nSum:mg "sum" = none
section
variable {P:Program}{w:World}{K:PySem.W.Frag}{mg:Str->Option Value}{base:Heap}
def JJ:Sp:=λvs H Q _=>∃i,vs=[.int i]/\Q (.bl true) H
theorem zby:zG ["thing"] ["thing"] (zg qV):=⟨rfl,rfl,rfl,by decide +kernel,rfl,by decide +kernel,by decide +kernel⟩
theorem zbc (D:Df K mg "is_whole" qV ["thing"] []) (T:TxB K mg):Cal P w K mg base "is_whole" 1 ["thing"] [] JJ:=by
 refine D.cal (k:=0) zby (λvs H Q E h=>by obtain⟨i,rfl,_⟩:=h;rfl) (λf cdv A outer s H vs Q E hr h=>?_)
 obtain⟨i,rfl,k⟩:=h
 refine⟨_,zi (zM (VH
  (zZ Zt rfl T.nIs PyProof.Rows.boot_isinstance (za (pv 0) (za (Qj (v:=.ty "int") (u:=.type "int") rfl T.nInt PyProof.Rows.boot_int rfl) ze)))
  (Qk (zee (zZ Zt rfl T.nIs PyProof.Rows.boot_isinstance (za (pv 0) (za (Qj (v:=.ty "bool") (u:=.type "bool") rfl T.nBool (by decide +kernel) rfl) ze))))))),?_⟩
 refine⟨_,rfl,_,_,_,true,rfl,.int i,T.ii,true,rfl,qd ?_⟩
 exact⟨_,rfl,_,_,_,false,rfl,.int i,T.ib,false,rfl,k⟩
def JH:Sp:=λvs H Q _=>∃a b:Int,vs=[.int a,.int b]/\0<=a/\0<=b/\Q (.int (Int.gcd a b:Nat)) H
theorem zbs:zG ["one","other"] ["one","other"] (zg xn):=⟨rfl,rfl,rfl,by decide +kernel,rfl,by decide +kernel,by decide +kernel⟩
theorem zd6 (D:Df K mg "greatest_divisor" xn ["one","other"] []):Cal P w K mg base "greatest_divisor" 1 ["one","other"] [] JH:=by
 refine D.cal (k:=0) zbs (λvs H Q E h=>by obtain⟨a,b,rfl,_⟩:=h;rfl) (λf cdv A outer s H vs Q E hr h=>?_)
 obtain⟨a,b,rfl,ha,hb,k⟩:=h
 refine⟨_,zj (jT PassesOwn.never (zI Xf (pv 1) zd (zJ _))
   (zi (VJ (i:=0) (j:=1) rfl zbs.nd rfl rfl (by decide) rfl rfl (za (pv 1) (za (zA jc (pv 0) (pv 1)) ze)) (by rfl))))
  (zi (zM (pv 0))),?_⟩
 refine Vh (λσ H1=>H1=H/\∃x y:Int,σ=[some (.int x),some (.int y)]/\0<=x/\0<=y/\Int.gcd x y=Int.gcd a b)
  (λσ _=>match σ with | [_,some (.int y)]=>y.toNat | _=>0) ⟨rfl,a,b,rfl,ha,hb,rfl⟩ ?_ ?_
 ·rintro σ H1 ⟨rfl,x,y,rfl,hx,hy,e⟩
  refine⟨_,rfl,_,_,rfl,rfl,_,rfl,qH (λh=>?_) (λh=>?_)⟩
  ·have h':0<y:=of_decide_eq_true h
   refine⟨_,rfl,_,rfl,_,rfl,_,_,rfl,rfl,h',_,_,rfl,⟨rfl,_,_,rfl,hy,Int.emod_nonneg _ (by omega),?_⟩,?_⟩
   ·rw[KM.QM hx h'];exact e
   ·show (x % y).toNat<y.toNat
    have:=Int.emod_lt_of_pos x h'
    omega
  ·have h':¬ 0<y:=λz=>h (decide_eq_true z)
   have:y=0:=by omega
   subst this
   refine⟨_,rfl,?_⟩
   have e2:x=(Int.gcd a b:Nat):=by rw[<-e,Int.gcd_zero_right];omega
   rw[e2];exact k
 ·rintro σ H1 Q1 Q2 hq ⟨v,e,i,j,e1,e2,k1,e3,q⟩
  exact⟨v,e,i,j,e1,e2,k1,e3,hq _ _ q⟩
theorem Xk:zG ["top","bottom","divisor"] ["top","bottom"] (zg jf):=⟨rfl,rfl,rfl,by decide +kernel,rfl,by decide +kernel,by decide +kernel⟩
theorem jk (i:Int):(if i<0 then -i else i)=(i.natAbs:Int):=by split <;> omega
theorem zbb {dvs:List V}(D:Df K mg "ratio" jf ["top","bottom"] dvs) (T:TxB K mg) (cW:Cal P w K mg base "is_whole" 1 ["thing"] [] JJ) (cG:Cal P w K mg base "greatest_divisor" 1 ["one","other"] [] JH) :
  Cal P w K mg base "ratio" 2 ["top","bottom"] dvs vj:=by
 refine D.cal (k:=1) Xk (λvs H Q E h=>by obtain⟨a,b,rfl,_⟩:=h;rfl) (λf cdv A outer s H vs Q E hr h=>?_)
 obtain⟨t,b,rfl,hb,hz,k⟩:=h
 refine⟨_,zj (xk (jq (Qm (qK (zP cW hr (za (pv 0) ze)) λ_=>rfl)) (jq (Qm (qK (zP cW hr (za (pv 1) ze)) λ_=>rfl)) (jd (zI vp (pv 1) zd (zJ _))))).pt zag zS)
  (zj (zL (i:=2) Xk.nd rfl (Or.inl rfl) (zP cG hr (za (zZ jE rfl T.nAbs PyProof.Rows.boot_abs (za (pv 0) ze)) (za (zZ jE rfl T.nAbs PyProof.Rows.boot_abs (za (pv 1) ze)) ze))))
  (zj (xk (zI jP (pv 1) zd (zJ _)) (zi (zL (i:=2) Xk.nd rfl (Or.inl rfl) (zdi zbL (pv 2)))) zS)
  (zi (zM (xv (za (zA qi (pv 0) (pv 2)) (za (zA qi (pv 1) (pv 2)) ze))))))),?_⟩
 refine⟨_,rfl,t,rfl,true,rfl,xA ?_⟩
 refine⟨_,rfl,b,rfl,true,rfl,xA ?_⟩
 refine⟨_,rfl,rfl,_,rfl,qH (λh=>absurd (of_decide_eq_true h) (by intro z;injection z with z;exact hb z)) (λ_=>?_)⟩
 refine⟨_,rfl,t,rfl,⟨_,rfl,b,rfl,⟨_,_,rfl,(by rw[jk];omega),(by rw[jk];omega),?_⟩⟩⟩
 have hd:=KM.zda (t:=t) hb
 have hdz:Bd 8900 (KM.dv t b):=hz.of_le (KM.V7 hb)
 have fin:∀σ:St,σ=[some (.int t),some (.int b),some (.int (KM.dv t b))]->zbI (zbJ (qp (tOp (rI QA λi j=>V.int (i.fdiv j)) (xQ 0) (xQ 2)) (qp (tOp (rI QA λi j=>V.int (i.fdiv j)) (xQ 1) (xQ 2)) Zn))) { nx:=λ_ H'=>Q .non H',rt:=Q } σ H:=by
  rintro σ rfl
  refine⟨_,rfl,_,rfl,_,_,rfl,rfl,⟨hd,hdz⟩,_,rfl,_,rfl,_,_,rfl,rfl,⟨hd,hdz⟩,?_⟩
  refine⟨by show 2<=sizeLine;decide,λp hp=>k p _ (zh.upd hp) ?_⟩
  show upd H p _ p=_
  rw[zf]
  dsimp only
  rw[KM.Vq hb,KM.zaM hb];rfl
 have ge:(Int.gcd (if t<0 then -t else t) (if b<0 then -b else b):Nat)=Int.gcd t b:=by
  rw[jk,jk];simp[Int.gcd]
 refine⟨_,rfl,_,_,rfl,rfl,_,rfl,qH (λh=>?_) (λh=>?_)⟩
 ·have h':b<0:=of_decide_eq_true h
  refine⟨_,rfl,_,rfl,fin _ ?_⟩
  rw[ge];unfold KM.dv;rw[if_pos h'];rfl
 ·have h':¬b<0:=λz=>h (decide_eq_true z)
  refine fin _ ?_
  rw[ge];unfold KM.dv;rw[if_neg h'];rfl
end
end KK
set_option Elab.async false
set_option linter.all false
set_option maxRecDepth 100000
namespace KK
open PySem L2
section
variable {P:Program}{w:World}{K:PySem.W.Frag}{mg:Str->Option Value}{base:Heap}
theorem Bd4 {x:Rat}(h:Sz 4000 x):Bd 1000000 x.num/\Bd 1000000 (x.den:Int):=⟨h.1.mono (by decide),h.2.mono (by decide)⟩
section
variable {x y:Rat}{p q:Addr}{H:Hp}
theorem zcA {Q:VK}(hp:zF H p x) (hq:zF H q y) (hx:Sz 4000 x) (hy:Sz 4000 y) (k:∀r H',zh H H'->zF H' r (x+y)->Q (.ref r) H') :
  zbI (ZD vj [] E0 (qp (tOp (rI0 λi j=>.int (i+j)) (tOp (rI ZO λi j=>.int (i*j)) (tOp (jA K) (xQ 0) (tC (.int 0))) (tOp (jA K) (xQ 1) (tC (.int 1)))) (tOp (rI ZO λi j=>.int (i*j)) (tOp (jA K) (xQ 1) (tC (.int 0))) (tOp (jA K) (xQ 0) (tC (.int 1)))))
   (qp (tOp (rI ZO λi j=>.int (i*j)) (tOp (jA K) (xQ 0) (tC (.int 1))) (tOp (jA K) (xQ 1) (tC (.int 1)))) Zn))) { nx:=λ_ H'=>Q .non H',rt:=Q } [some (.ref p),some (.ref q)] H:=by
 have bx:=Bd4 hx
 have b_y:=Bd4 hy
 refine⟨_,rfl,p,_,_,_,rfl,rfl,.of hp,at0 ..,_,rfl,q,_,_,_,rfl,rfl,.of hq,at1 ..,_,_,rfl,rfl,⟨bx.1,b_y.2⟩,?_⟩
 refine⟨_,rfl,q,_,_,_,rfl,rfl,.of hq,at0 ..,_,rfl,p,_,_,_,rfl,rfl,.of hp,at1 ..,_,_,rfl,rfl,⟨b_y.1,bx.2⟩,_,_,rfl,rfl,?_⟩
 refine⟨_,rfl,p,_,_,_,rfl,rfl,.of hp,at1 ..,_,rfl,q,_,_,_,rfl,rfl,.of hq,at1 ..,_,_,rfl,rfl,⟨bx.2,b_y.2⟩,?_⟩
 refine⟨_,_,rfl,Int.mul_ne_zero (KM.xH x) (KM.xH y),(hx.2.mul hy.2).mono (by decide),λr H' e h=>k r H' e ?_⟩
 rw[<-KM.Ju];exact h
theorem zbm {Q:VK}(hp:zF H p x) (hq:zF H q y) (hx:Sz 4000 x) (hy:Sz 4000 y) (k:∀r H',zh H H'->zF H' r (x*y)->Q (.ref r) H') :
  zbI (ZD vj [] E0 (qp (tOp (rI ZO λi j=>.int (i*j)) (tOp (jA K) (xQ 0) (tC (.int 0))) (tOp (jA K) (xQ 1) (tC (.int 0))))
   (qp (tOp (rI ZO λi j=>.int (i*j)) (tOp (jA K) (xQ 0) (tC (.int 1))) (tOp (jA K) (xQ 1) (tC (.int 1)))) Zn))) { nx:=λ_ H'=>Q .non H',rt:=Q } [some (.ref p),some (.ref q)] H:=by
 have bx:=Bd4 hx
 have b_y:=Bd4 hy
 refine⟨_,rfl,p,_,_,_,rfl,rfl,.of hp,at0 ..,_,rfl,q,_,_,_,rfl,rfl,.of hq,at0 ..,_,_,rfl,rfl,⟨bx.1,b_y.1⟩,?_⟩
 refine⟨_,rfl,p,_,_,_,rfl,rfl,.of hp,at1 ..,_,rfl,q,_,_,_,rfl,rfl,.of hq,at1 ..,_,_,rfl,rfl,⟨bx.2,b_y.2⟩,?_⟩
 refine⟨_,_,rfl,Int.mul_ne_zero (KM.xH x) (KM.xH y),(hx.2.mul hy.2).mono (by decide),λr H' e h=>k r H' e ?_⟩
 rw[<-KM.Vd];exact h
end
theorem zcM:zG ["one","other"] ["one","other"] (zg Zg):=⟨rfl,rfl,rfl,by decide +kernel,rfl,by decide +kernel,by decide +kernel⟩
theorem zcq (D:Df K mg "over" Zg ["one","other"] []) (c:Cal P w K mg base "ratio" 2 ["top","bottom"] [] vj):Cal P w K mg base "over" 3 ["one","other"] [] (vK (λx y=>Sz2 x y/\y≠0) (· / ·)):=by
 refine D.cal (k:=2) zcM (λvs H Q E h=>by obtain⟨_,_,_,_,rfl,_⟩:=h;rfl) (λf cdv A outer s H vs Q E hr h=>?_)
 obtain⟨p,q,x,y,rfl,hp,hq,⟨⟨hx,hy⟩,hy0⟩,k⟩:=h
 have bx:=Bd4 hx
 have b_y:=Bd4 hy
 refine⟨_,zi (zM (zP c hr (za (zA zO (zr zk (pv 0) zd (λ_ _=>rfl)) (zr zk (pv 1) zd (λ_ _=>rfl)))
  (za (zA zO (zr zk (pv 0) zd (λ_ _=>rfl)) (zr zk (pv 1) zd (λ_ _=>rfl))) ze)))),?_⟩
 refine⟨_,rfl,p,_,_,_,rfl,rfl,.of hp,at0 ..,_,rfl,q,_,_,_,rfl,rfl,.of hq,at1 ..,_,_,rfl,rfl,⟨bx.1,b_y.2⟩,?_⟩
 refine⟨_,rfl,p,_,_,_,rfl,rfl,.of hp,at1 ..,_,rfl,q,_,_,_,rfl,rfl,.of hq,at0 ..,_,_,rfl,rfl,⟨bx.2,b_y.1⟩,?_⟩
 refine⟨_,_,rfl,Int.mul_ne_zero (KM.xH x) (λz=>hy0 (Rat.num_eq_zero.mp z)),(hx.2.mul hy.1).mono (by decide),λr H' e h=>k r H' e ?_⟩
 show zF H' r (x/y)
 rw[<-KM.Qi];exact h
end
end KK
section
set_option maxHeartbeats 4000000
set_option Elab.async false
set_option linter.all false
set_option maxRecDepth 100000
namespace KK
open PySem L2
def jz (H:Hp) (p:Addr):Prop:=∃a b c:Int,H p=some (.lst [.int a,.int b,.int c])
structure xu (p:Addr) (H H':Hp):Prop where
 pool:jz H' p
 keep:∀b o,H b=some o->b≠p->H' b=some o
theorem xu.trans {p:Addr}{H H1 H2:Hp}(a:xu p H H1) (b:xu p H1 H2):xu p H H2:=⟨b.pool,λc o e n=>b.keep c o (a.keep c o e n) n⟩
theorem xu.same {p:Addr}{H H1 H2:Hp}(a:xu p H H1) (b:zh H1 H2):xu p H H2:=⟨by obtain⟨x,y,z,e⟩:=a.pool;exact⟨x,y,z,b _ _ e⟩,λc o e n=>b c o (a.keep c o e n)⟩
theorem xu.pre {p:Addr}{H H1 H2:Hp}(b:xu p H1 H2) (a:zh H H1):xu p H H2:=⟨b.pool,λc o e n=>b.keep c o (a c o e) n⟩
theorem jz.new {H:Hp}{p l:Addr}{o:HO}(h:jz H p) (hl:H l=none):jz (upd H l o) p:=by obtain⟨a,b,c,e⟩:=h;exact⟨a,b,c,zh.upd hl _ _ e⟩
theorem jz.ne {H:Hp}{p l:Addr}(h:jz H p) (hl:H l=none):l≠p:=by obtain⟨a,b,c,e⟩:=h;exact(zC e hl).symm
theorem xu.refl {p:Addr}{H:Hp}(h:jz H p):xu p H H:=⟨h,λ_ _ e _=>e⟩
theorem xu.tup {p a:Addr}{H H':Hp}{xs:List V}(s:xu p H H') (hp:jz H p) (h:H a=some (.tup xs)):H' a=some (.tup xs):=by
 obtain⟨_,_,_,e⟩:=hp
 exact s.keep a _ h (zeV h e (by intro z;cases z))
section
variable {P:Program}{w:World}{K:PySem.W.Frag}{mg:Str->Option Value}{base:Heap}
def zdp:Sp:=λvs H Q _=>∃c:Int,vs=[.int c]/\∀p H',H p=none->zh H H'->jz H' p->Q (.ref p) H'
theorem zej:zG ["cell"] ["cell"] (zg qX):=⟨rfl,rfl,rfl,by decide +kernel,rfl,by decide +kernel,by decide +kernel⟩
theorem zd5 (D:Df K mg "_law_left" qX ["cell"] []) (T:TxB K mg):Cal P w K mg base "_law_left" 1 ["cell"] [] zdp:=by
 refine D.cal (k:=0) zej (λvs H Q E h=>by obtain⟨a,rfl,_⟩:=h;rfl) (λf cdv A outer s H vs Q E hr h=>?_)
 obtain⟨c,rfl,k⟩:=h
 refine⟨_,zi (zM (xB (za (zZ (JW rfl) (by rfl) T.nMax PyProof.Rows.boot_max (za zd (za (zA qj (pv 0) (zA jp zd zd)) ze))) (za (zA jc (pv 0) (zA jp zd zd)) (za zd ze))))),?_⟩
 refine⟨_,rfl,_,_,rfl,rfl,⟨by decide,by decide,by decide⟩,_,_,rfl,rfl,_,_,rfl,?_⟩
 refine⟨_,rfl,_,_,rfl,rfl,⟨by decide,by decide,by decide⟩,_,_,rfl,rfl,(by show (0:Int)<10^18;decide),(by show 3<=sizeLine;decide),λp hp=>?_⟩
 exact k p _ hp (zh.upd hp) ⟨_,_,_,zf⟩
def Zk:Sp:=λvs H Q _=>∃(p:Addr) (n:Int),vs=[.ref p,.int n]/\0<n/\n<1073741824/\jz H p/\∀(d:Int) H',0<=d->d<n->xu p H H'->Q (.int d) H'
theorem ZN:zG ["pool","base","digit","mixed","stir"] ["pool","base"] (zg qY):=⟨rfl,rfl,rfl,by decide +kernel,rfl,by decide +kernel,by decide +kernel⟩
theorem Vc {H:Hp}{p:Addr}{a b c:Int}:xu p H (upd H p (.lst [.int a,.int b,.int c])):=⟨⟨a,b,c,zf⟩,λd o e n=>by rw[zB n];exact e⟩
theorem zcp (D:Df K mg "_law_next" qY ["pool","base"] []):Cal P w K mg base "_law_next" 1 ["pool","base"] [] Zk:=by
 refine D.cal (k:=0) ZN (λvs H Q E h=>by obtain⟨a,b,rfl,_⟩:=h;rfl) (λf cdv A outer s H vs Q E hr h=>?_)
 obtain⟨p,n,rfl,n0,n1,⟨a,b,c,hp⟩,k⟩:=h
 refine⟨_,zj (xk (zI Xf (zr xw (pv 0) zd (λ_ _=>rfl)) zd (zJ _))
   (zj (zL (i:=2) ZN.nd rfl (Or.inl rfl) (zA jc (zr xw (pv 0) zd (λ_ _=>rfl)) (pv 1)))
   (zj (qJ (zA Jm (zr xw (pv 0) zd (λ_ _=>rfl)) (pv 1)) (Xh (pv 0) zd jt))
   (zi (zM (pv 2))))) zS)
  (zj (qJ (zA xa (zr xw (pv 0) zd (λ_ _=>rfl)) zd) (Xh (pv 0) zd jt))
  (zj (zL (i:=3) ZN.nd rfl (Or.inl rfl) (zA jc (zA xa (zr xw (pv 0) zd (λ_ _=>rfl)) (zA VF zd (zr xw (pv 0) zd (λ_ _=>rfl)))) zd))
  (zj (zL (i:=4) ZN.nd rfl (Or.inl rfl) (zA jc (zA VF (zA xa (pv 3) zd) (zA xa (pv 3) zd)) zd))
  (zi (zM (zA jc (zA Jm (zA jc (zA VF (pv 4) (pv 4)) zd) zd) (pv 1))))))),?_⟩
 refine⟨_,rfl,p,_,_,_,rfl,rfl,.of hp,rfl,_,_,rfl,rfl,_,rfl,qH (λh=>?_) (λh=>?_)⟩
 ·refine⟨_,rfl,p,_,_,_,rfl,rfl,.of hp,rfl,_,rfl,_,_,rfl,rfl,n0,?_⟩
  refine⟨_,rfl,p,_,_,_,rfl,rfl,.of hp,rfl,_,rfl,_,_,rfl,rfl,⟨n0,n1⟩,?_⟩
  refine⟨_,rfl,p,_,_,0,rfl,rfl,hp,rfl,?_⟩
  exact⟨_,rfl,k _ _ (Int.emod_nonneg _ (by omega)) (Int.emod_lt_of_pos _ n0) Vc⟩
 ·refine⟨_,rfl,p,_,_,_,rfl,rfl,.of hp,rfl,_,_,rfl,rfl,?_⟩
  refine⟨_,rfl,p,_,_,2,rfl,rfl,hp,rfl,?_⟩
  refine⟨_,rfl,p,_,_,_,rfl,rfl,.of zf,rfl,_,rfl,p,_,_,_,rfl,rfl,.of zf,rfl,_,_,rfl,rfl,.inl ⟨by decide,by decide⟩,_,_,rfl,rfl,_,_,rfl,rfl,(by show (0:Int)<1000000007;decide),?_⟩
  refine⟨_,rfl,_,_,rfl,rfl,_,rfl,_,_,rfl,rfl,_,_,rfl,rfl,.inl (by constructor <;> omega),_,_,rfl,rfl,(by show (0:Int)<998244353;decide),?_⟩
  refine⟨_,rfl,_,rfl,_,_,rfl,rfl,.inl (by constructor <;> omega),_,_,rfl,rfl,(by show (0:Int)<2147483647;decide),_,_,rfl,rfl,⟨by decide,by decide⟩,_,rfl,_,_,rfl,rfl,n0,?_⟩
  exact k _ _ (Int.emod_nonneg _ (by omega)) (Int.emod_lt_of_pos _ n0) Vc
end
end KK
end
section
set_option maxHeartbeats 4000000
set_option Elab.async false
set_option linter.all false
set_option maxRecDepth 100000
namespace KK
open PySem L2 KM
inductive zR (H:Hp):List V->List zV->Prop
 | nil:zR H [] []
 | cons {a p q:Addr}{b:zV}{vs:List V}{bs:List zV}:H a=some (.tup [.ref p,.ref q,.int b.wt])->zF H p b.pl->zF H q b.sp->zR H vs bs->zR H (.ref a::vs) (b::bs)
theorem zR.mono {H H':Hp}(m:∀b xs,H b=some (.tup xs)->H' b=some (.tup xs)):∀{vs:List V}{bs:List zV},zR H vs bs->zR H' vs bs
 | _,_,.nil=>.nil
 | _,_,.cons h1 h2 h3 t=>.cons (m _ _ h1) (m _ _ h2) (m _ _ h3) (zR.mono m t)
theorem zR.same {H H':Hp}{vs:List V}{bs:List zV}(h:zR H vs bs) (e:zh H H'):zR H' vs bs:=h.mono λb xs z=>e b _ z
theorem zR.length {H:Hp}:∀{vs:List V}{bs:List zV},zR H vs bs->vs.length=bs.length
 | _,_,.nil=>rfl
 | _,_,.cons _ _ _ t=>by rw[List.length_cons,List.length_cons,zR.length t]
theorem zR.append {H:Hp}{us:List V}{cs:List zV}(k:zR H us cs):∀{vs:List V}{bs:List zV},zR H vs bs->zR H (vs++us) (bs++cs)
 | _,_,.nil=>k
 | _,_,.cons h1 h2 h3 t=>.cons h1 h2 h3 (zR.append k t)
theorem zR.one {H:Hp}{a p q:Addr}{b:zV}(h1:H a=some (.tup [.ref p,.ref q,.int b.wt])) (h2:zF H p b.pl) (h3:zF H q b.sp):zR H [.ref a] [b]:=.cons h1 h2 h3 .nil
theorem zR.get {H:Hp}:∀{vs:List V}{bs:List zV}{i:Nat}{v:V},zR H vs bs->vs[i]? = some v->∃(a p q:Addr) (b:zV),bs[i]? = some b/\v = .ref a/\H a=some (.tup [.ref p,.ref q,.int b.wt])/\zF H p b.pl/\zF H q b.sp
 | _,_,_,_,.nil,e=>by simp at e
 | _,_,0,_,.cons h1 h2 h3 _,e=>by
  simp at e;subst e
  exact⟨_,_,_,_,rfl,rfl,h1,h2,h3⟩
 | _,_,i+1,v,.cons _ _ _ t,e=>by
  obtain⟨a,p,q,b,e1,r⟩:=zR.get (i:=i) t (by simpa using e)
  exact⟨a,p,q,b,by simpa using e1,r⟩
def lexR (b c:zV):Prop:=b.pl<c.pl\/(b.pl=c.pl/\b.sp<c.sp)
structure zdx (bs:List zV):Prop where
 wt:∀b∈bs,1<=b.wt/\b.wt<=1000
 sz:∀b∈bs,Sz 300 b.pl/\Sz 80 b.sp
 pw:bs.Pairwise lexR
end KK
end
section
set_option maxHeartbeats 4000000
set_option Elab.async false
set_option linter.all false
set_option maxRecDepth 100000
namespace L2
open PySem PySem.Spec PyProof.Rows
section
variable {X:Cx}
theorem zeL {op:Operator}{r:R2}{a b:Expr}{ta tb:TE}{pos:Pos}(ho:OpR X (binaryOp op) r) (ha:Bx (PE X a ta)) (hb:Bx (PE X b tb)):Bx (PE X (.BinOp a op b pos) (tOp r ta tb)):=by obtain⟨ha⟩:=ha;obtain⟨hb⟩:=hb;exact⟨zA ho ha hb⟩
theorem zaC {r:R2}{a b:Expr}{ta tb:TE}{pos:Pos}(hr:IxR X r) (ha:Bx (PE X a ta)) (hb:Bx (PE X b tb)) (hs:VW b):Bx (PE X (.Subscript a b pos) (tOp r ta tb)):=by obtain⟨ha⟩:=ha;obtain⟨hb⟩:=hb;exact⟨zr hr ha hb hs⟩
theorem zaD {p:Prop}(h:Bx p):p:=by obtain⟨h⟩:=h;exact h
end
end L2
namespace KK
open PySem L2 KM
theorem ve {X:Cx}{K:PySem.W.Frag}(hK:X.K=K):IxR X (jA K):=by subst hK;exact zk
theorem Z9 (x y:Rat):decide (x.num*(y.den:Int)<y.num*(x.den:Int))=decide (x<y):=by
 by_cases h:x<y
 ·rw[decide_eq_true h,decide_eq_true ((KM.jM x y).mpr h)]
 ·rw[decide_eq_false h,decide_eq_false λz=>h ((KM.jM x y).mp z)]
theorem bdn {n:Nat}{i:Int}(h0:0<=i) (h1:i<2^n):Bd n i:=by
 unfold Bd
 have:((2^n:Nat):Int)=(2:Int)^n:=by push_cast;rfl
 omega
theorem bdz {n:Nat}{i:Int}(h0 : -(2^n)<i) (h1:i<2^n):Bd n i:=by
 unfold Bd
 have:((2^n:Nat):Int)=(2:Int)^n:=by push_cast;rfl
 omega
section
variable {P:Program}{w:World}{K:PySem.W.Frag}{mg:Str->Option Value}{base:Heap}
theorem Qr:zG ["top","bottom","one","other"] ["top","bottom"] (zg vv):=⟨rfl,rfl,rfl,by decide +kernel,rfl,by decide +kernel,by decide +kernel⟩
theorem zea (D:Df K mg "_law_low" vv ["top","bottom"] []) (T:TxB K mg):Cal P w K mg base "_law_low" 1 ["top","bottom"] [] vj:=by
 refine D.cal (k:=0) Qr (λvs H Q E h=>by obtain⟨a,b,rfl,_⟩:=h;rfl) (λf cdv A outer s H vs Q E hr h=>?_)
 obtain⟨t,b,rfl,hb,hz,k⟩:=h
 refine⟨_,(zj (VJ (i:=2) (j:=3) rfl Qr.nd rfl rfl (by decide) rfl rfl (za (zZ jE (by rfl) T.nAbs PyProof.Rows.boot_abs (za (pv 0) ze)) (za (zZ jE (by rfl) T.nAbs PyProof.Rows.boot_abs (za (pv 1) ze)) ze)) (by rfl))
  (zj (jT PassesOwn.never (zI Jo (pv 3) zd (zJ _)) (zi (VJ (i:=2) (j:=3) rfl Qr.nd rfl rfl (by decide) rfl rfl (za (pv 3) (za (zA jc (pv 2) (pv 3)) ze)) (by rfl))))
  (zj (xk (zI jP (pv 1) zd (zJ _)) (zi (zL (i:=2) Qr.nd rfl (Or.inl rfl) (zA qj zd (pv 2)))) zS)
  (zi (zM (xv (za (zA qi (pv 0) (pv 2)) (za (zA qi (pv 1) (pv 2)) ze)))))))),?_⟩
 have hd:=KM.zda (t:=t) hb
 have hdz:Bd 8900 (KM.dv t b):=hz.of_le (KM.V7 hb)
 have ge:(Int.gcd (if t<0 then -t else t) (if b<0 then -b else b):Nat)=Int.gcd t b:=by
  rw[jk,jk];simp[Int.gcd]
 refine⟨_,rfl,t,rfl,⟨_,rfl,b,rfl,_,_,rfl,?_⟩⟩
 have fin:∀(σ:St) (z:Option V),σ=[some (.int t),some (.int b),some (.int (KM.dv t b)),z]->zbI (zbJ (qp (tOp (rI QA λi j=>V.int (i.fdiv j)) (xQ 0) (xQ 2)) (qp (tOp (rI QA λi j=>V.int (i.fdiv j)) (xQ 1) (xQ 2)) Zn))) { nx:=λ_ H'=>Q .non H',rt:=Q } σ H:=by
  rintro σ z rfl
  refine⟨_,rfl,_,rfl,_,_,rfl,rfl,⟨hd,hdz⟩,_,rfl,_,rfl,_,_,rfl,rfl,⟨hd,hdz⟩,?_⟩
  refine⟨by show 2<=sizeLine;decide,λp hp=>k p _ (zh.upd hp) ?_⟩
  show upd H p _ p=_
  rw[zf]
  dsimp only
  rw[KM.Vq hb,KM.zaM hb];rfl
 refine Vh (λσ H1=>H1=H/\∃x y:Int,σ=[some (.int t),some (.int b),some (.int x),some (.int y)]/\0<=x/\0<=y/\Int.gcd x y=Int.gcd t b)
  (λσ _=>match σ with | [_,_,_,some (.int y)]=>y.toNat | _=>0) ⟨rfl,_,_,rfl,(by rw[jk];omega),(by rw[jk];omega),ge⟩ ?_ ?_
 ·rintro σ H1 ⟨rfl,x,y,rfl,hx,hy,e⟩
  refine⟨_,rfl,rfl,_,rfl,qH (λh=>?_) (λh=>?_)⟩
  ·have h':0<y:=by
    have:y≠0:=λz=>by subst z;simp at h
    omega
   refine⟨_,rfl,_,rfl,_,rfl,_,_,rfl,rfl,h',_,_,rfl,⟨rfl,_,_,rfl,hy,Int.emod_nonneg _ (by omega),?_⟩,?_⟩
   ·rw[KM.QM hx h'];exact e
   ·show (x % y).toNat<y.toNat
    have:=Int.emod_lt_of_pos x h'
    omega
  ·have:y=0:=by simpa using h
   subst this
   have e2:x=(Int.gcd t b:Nat):=by rw[<-e,Int.gcd_zero_right];omega
   refine⟨_,rfl,_,_,rfl,rfl,_,rfl,qH (λh=>?_) (λh=>?_)⟩
   ·have h':b<0:=of_decide_eq_true h
    refine⟨_,rfl,0,_,rfl,rfl,fin _ (some (.int 0)) ?_⟩
    rw[e2];unfold KM.dv;rw[if_pos h',<-Int.zero_sub];rfl
   ·have h':¬b<0:=λz=>h (decide_eq_true z)
    refine fin _ (some (.int 0)) ?_
    rw[e2];unfold KM.dv;rw[if_neg h']
 ·rintro σ H1 Q1 Q2 hq ⟨v,e,e1,k1,e3,q⟩
  exact⟨v,e,e1,k1,e3,hq _ _ q⟩
theorem zcI:zG ["a","b"] ["a","b"] (zg vt):=⟨rfl,rfl,rfl,by decide +kernel,rfl,by decide +kernel,by decide +kernel⟩
theorem zcl (D:Df K mg "_law_add" vt ["a","b"] []) (cL:Cal P w K mg base "_law_low" 1 ["top","bottom"] [] vj):Cal P w K mg base "_law_add" 2 ["a","b"] [] (vK Sz2 (· + ·)):=by
 refine D.cal (k:=1) zcI (λvs H Q E h=>by obtain⟨_,_,_,_,rfl,_⟩:=h;rfl) (λf cdv A outer s H vs Q E hr h=>?_)
 obtain⟨p,q,x,y,rfl,hp,hq,⟨hx,hy⟩,k⟩:=h
 exact⟨_,(zi (zM (zP cL hr (za (zA xa (zA zO (zr zk (pv 0) zd (λ_ _=>rfl)) (zr zk (pv 1) zd (λ_ _=>rfl))) (zA zO (zr zk (pv 1) zd (λ_ _=>rfl)) (zr zk (pv 0) zd (λ_ _=>rfl)))) (za (zA zO (zr zk (pv 0) zd (λ_ _=>rfl)) (zr zk (pv 1) zd (λ_ _=>rfl))) ze))))),zcA hp hq hx hy k⟩
theorem zek:zG ["a","b"] ["a","b"] (zg v4):=⟨rfl,rfl,rfl,by decide +kernel,rfl,by decide +kernel,by decide +kernel⟩
theorem zd8 (D:Df K mg "_law_by" v4 ["a","b"] []) (cL:Cal P w K mg base "_law_low" 1 ["top","bottom"] [] vj):Cal P w K mg base "_law_by" 2 ["a","b"] [] (vK Sz2 (· * ·)):=by
 refine D.cal (k:=1) zek (λvs H Q E h=>by obtain⟨_,_,_,_,rfl,_⟩:=h;rfl) (λf cdv A outer s H vs Q E hr h=>?_)
 obtain⟨p,q,x,y,rfl,hp,hq,⟨hx,hy⟩,k⟩:=h
 exact⟨_,(zi (zM (zP cL hr (za (zA zO (zr zk (pv 0) zd (λ_ _=>rfl)) (zr zk (pv 1) zd (λ_ _=>rfl))) (za (zA zO (zr zk (pv 0) zd (λ_ _=>rfl)) (zr zk (pv 1) zd (λ_ _=>rfl))) ze))))),zbm hp hq hx hy k⟩
theorem zcL:zG ["a","b"] ["a","b"] (zg vw):=⟨rfl,rfl,rfl,by decide +kernel,rfl,by decide +kernel,by decide +kernel⟩
theorem zco (D:Df K mg "_law_off" vw ["a","b"] []) (cL:Cal P w K mg base "_law_low" 1 ["top","bottom"] [] vj):Cal P w K mg base "_law_off" 2 ["a","b"] [] (vK Sz2 (· - ·)):=by
 refine D.cal (k:=1) zcL (λvs H Q E h=>by obtain⟨_,_,_,_,rfl,_⟩:=h;rfl) (λf cdv A outer s H vs Q E hr h=>?_)
 obtain⟨p,q,x,y,rfl,hp,hq,⟨hx,hy⟩,k⟩:=h
 have bx:=Bd4 hx
 have b_y:=Bd4 hy
 refine⟨_,(zi (zM (zP cL hr (za (zA qj (zA zO (zr zk (pv 0) zd (λ_ _=>rfl)) (zr zk (pv 1) zd (λ_ _=>rfl))) (zA zO (zr zk (pv 1) zd (λ_ _=>rfl)) (zr zk (pv 0) zd (λ_ _=>rfl)))) (za (zA zO (zr zk (pv 0) zd (λ_ _=>rfl)) (zr zk (pv 1) zd (λ_ _=>rfl))) ze))))),?_⟩
 refine⟨_,rfl,p,_,_,_,rfl,rfl,.of hp,at0 ..,_,rfl,q,_,_,_,rfl,rfl,.of hq,at1 ..,_,_,rfl,rfl,⟨bx.1,b_y.2⟩,_,rfl,q,_,_,_,rfl,rfl,.of hq,at0 ..,_,rfl,p,_,_,_,rfl,rfl,.of hp,at1 ..,_,_,rfl,rfl,⟨b_y.1,bx.2⟩,_,_,rfl,rfl,?_⟩
 refine⟨_,rfl,p,_,_,_,rfl,rfl,.of hp,at1 ..,_,rfl,q,_,_,_,rfl,rfl,.of hq,at1 ..,_,_,rfl,rfl,⟨bx.2,b_y.2⟩,?_⟩
 refine⟨_,_,rfl,Int.mul_ne_zero (xH x) (xH y),(hx.2.mul hy.2).mono (by decide),λr H' e h=>k r H' e ?_⟩
 show zF H' r (x - y)
 rw[<-KM.Xb];exact h
def zcS:Sp:=λvs H Q _=>∃p q x y,vs=[.ref p,.ref q]/\zF H p x/\zF H q y/\Sz2 x y/\Q (.bl (decide (x<y))) H
theorem zcJ:zG ["a","b"] ["a","b"] (zg qA):=⟨rfl,rfl,rfl,by decide +kernel,rfl,by decide +kernel,by decide +kernel⟩
theorem zcm (D:Df K mg "_law_below" qA ["a","b"] []):Cal P w K mg base "_law_below" 1 ["a","b"] [] zcS:=by
 refine D.cal (k:=0) zcJ (λvs H Q E h=>by obtain⟨_,_,_,_,rfl,_⟩:=h;rfl) (λf cdv A outer s H vs Q E hr h=>?_)
 obtain⟨p,q,x,y,rfl,hp,hq,⟨hx,hy⟩,k⟩:=h
 have bx:=Bd4 hx
 have b_y:=Bd4 hy
 refine⟨_,(zi (zM (vQ jP (zA zO (zr zk (pv 0) zd (λ_ _=>rfl)) (zr zk (pv 1) zd (λ_ _=>rfl))) (zA zO (zr zk (pv 1) zd (λ_ _=>rfl)) (zr zk (pv 0) zd (λ_ _=>rfl))) (zJ _)))),?_⟩
 refine⟨_,rfl,p,_,_,_,rfl,rfl,.of hp,at0 ..,_,rfl,q,_,_,_,rfl,rfl,.of hq,at1 ..,_,_,rfl,rfl,⟨bx.1,b_y.2⟩,_,rfl,q,_,_,_,rfl,rfl,.of hq,at0 ..,_,rfl,p,_,_,_,rfl,rfl,.of hp,at1 ..,_,_,rfl,rfl,⟨b_y.1,bx.2⟩,_,_,rfl,rfl,?_⟩
 show Q (.bl (decide (x.num*(y.den:Int)<y.num*(x.den:Int)))) H
 rw[Z9];exact k
end
end KK
end
section
set_option maxHeartbeats 4000000
set_option Elab.async false
set_option linter.all false
set_option maxRecDepth 100000
namespace KK
open PySem L2 KM
section
variable {P:Program}{w:World}{K:PySem.W.Frag}{mg:Str->Option Value}{base:Heap}
def JG (K:PySem.W.Frag):Sp:=λvs H Q _=>∃(a:Addr) (ns:List Int) (k:Int),vs=[.ref a,.int k]/\SqL K H a (ns.map V.int)/\0<=k/\∀i,Q (.int i) H
theorem zcF:zG ["script","k"] ["script","k"] (zg qW):=⟨rfl,rfl,rfl,by decide +kernel,rfl,by decide +kernel,by decide +kernel⟩
theorem zci (D:Df K mg "_law_cell" qW ["script","k"] []) (T:TxB K mg):Cal P w K mg base "_law_cell" 1 ["script","k"] [] (JG K):=by
 refine D.cal (k:=0) zcF (λvs H Q E h=>by obtain⟨a,ns,i,rfl,_⟩:=h;rfl) (λf cdv A outer s H vs Q E hr h=>?_)
 obtain⟨a,ns,i,rfl,hS,h0,k⟩:=h
 refine⟨_,(zj (xk (zI jP (pv 1) (zZ xl (by rfl) T.nLen PySem.boot_len (za (pv 0) ze)) (zJ _)) (zi (zM (zr xw (pv 0) (pv 1) (λ_ _=>rfl)))) zS)
  (zi (zM zd))),?_⟩
 refine⟨_,rfl,_,rfl,a,_,rfl,.inl hS,_,_,rfl,rfl,_,rfl,qH (λh=>?_) (λh=>k _)⟩
 have h':i<((ns.map V.int).length:Int):=of_decide_eq_true h
 rw[List.length_map]at h'
 have hl:i.toNat<ns.length:=by omega
 have e:(ns.map V.int)[i.toNat]? = some (.int ns[i.toNat]):=by rw[List.getElem?_map,List.getElem?_eq_getElem hl];rfl
 have e2:=qf e
 rw[show ((i.toNat:Nat):Int)=i by omega]at e2
 exact⟨_,rfl,_,rfl,a,_,_,_,rfl,rfl,hS,e2,k _⟩
def zbE:Sp:=λvs H Q _=>∃(p:Addr) (n:Int),vs=[.ref p,.int n]/\100000000<=n/\jz H p/\∀(d:Int) H',0<=d->d<n->xu p H H'->Q (.int d) H'
theorem JB:zG ["pool","base","found","k"] ["pool","base"] (zg q5):=⟨rfl,rfl,rfl,by decide +kernel,rfl,by decide +kernel,by decide +kernel⟩
theorem zfp (D:Df K mg "_law_wide" q5 ["pool","base"] []) (T:TxB K mg) (cN:Cal P w K mg base "_law_next" 1 ["pool","base"] [] Zk):Cal P w K mg base "_law_wide" 2 ["pool","base"] [] zbE:=by
 refine D.cal (k:=1) JB (λvs H Q E h=>by obtain⟨_,_,rfl,_⟩:=h;rfl) (λf cdv A outer s H vs Q E hr h=>?_)
 obtain⟨p,n,rfl,hn,hP,k⟩:=h
 refine⟨_,(zj (xk (zI jP (pv 1) (zA jp zd zd) (zJ _)) (zi (zM (zP cN hr (za (pv 0) (za (pv 1) ze))))) zS)
  (zj (zL (i:=2) JB.nd rfl (Or.inl rfl) zd)
  (zj (vI PassesOwn.never rfl (Zc rfl T.nRange (za zd ze)) (zK (i:=3) JB.nd rfl (Or.inl rfl)) (zi (zL (i:=2) JB.nd rfl (Or.inl rfl) (zA xa (zA zO (pv 2) (zA jp zd zd)) (zP cN hr (za (pv 0) (za (zA jp zd zd) ze)))))))
  (zi (zM (zA jc (pv 2) (pv 1))))))),?_⟩
 refine⟨_,rfl,_,_,rfl,rfl,⟨by decide,by decide,by decide⟩,_,_,rfl,rfl,_,rfl,qH (λh=>?_) (λh=>?_)⟩
 ·exact absurd (of_decide_eq_true h) (by show ¬n<10^8;have:(10:Int)^8=100000000:=by decide
                                         omega)
 refine⟨_,rfl,by decide,by decide,?_⟩
 refine j9 (n:=(4:Int).toNat) (lo:=0) (λi σ G=>∃(z:Option V) (g:Int),σ=[some (.ref p),some (.int n),some (.int g),z]/\Bd (30+40*i) g/\xu p H G) ⟨none,0,rfl,Bd.mono (m:=1) (show (0:Int).natAbs<2^1 by decide) (by decide),xu.refl hP⟩ ?_ ?_
 ·rintro i σ G hi ⟨z,g,rfl,hg,tG⟩
  have hi4:i<4:=hi
  refine⟨_,rfl,_,_,rfl,rfl,⟨by decide,by decide,by decide⟩,_,_,rfl,rfl,⟨hg.mono (by omega),Bd.mono (m:=30) (bdn (by decide) (by decide)) (by decide)⟩,?_⟩
  refine⟨_,rfl,_,_,rfl,rfl,⟨by decide,by decide,by decide⟩,p,_,rfl,by decide,by decide,tG.pool,λd G2 d0 d1 t2=>⟨_,_,rfl,rfl,_,_,rfl,?_,tG.trans t2⟩⟩
  have e:((2:Int)^(28:Int).toNat)=268435456:=by decide
  have d1':d<268435456:=by rw[<-e];exact d1
  have b1:Bd 30 ((2:Int)^(28:Int).toNat):=bdn (by decide) (by decide)
  have b2:Bd 30 d:=bdn d0 (by omega)
  exact((hg.mul b1).add b2).mono (by omega)
 ·rintro σ G ⟨z,g,rfl,hg,tG⟩
  exact⟨_,rfl,_,rfl,_,_,rfl,rfl,by omega,k _ _ (Int.emod_nonneg _ (by omega)) (Int.emod_lt_of_pos _ (by omega)) tG⟩
def zfW:Sp:=λvs H Q _=>∃(p:Addr) (n:Int),vs=[.ref p,.int n]/\0<=n/\n<=1000000/\jz H p/\∀r x H',xu p H H'->zF H' r x->Sz 80 x->Q (.ref r) H'
theorem zd2 {d:Int}(h0:0<=d) (h1:d<8):∃v:Int,atI [V.int 1,.int 1,.int 1,.int 2,.int 3,.int 4,.int 6,.int ((10:Int)^(5:Int).toNat)] d=some (.int v)/\1<=v/\v<=100000:=by
 have:d=0\/d=1\/d=2\/d=3\/d=4\/d=5\/d=6\/d=7:=by omega
 rcases this with rfl | rfl | rfl | rfl | rfl | rfl | rfl | rfl
 all_goals exact⟨_,rfl,by decide,by decide⟩
theorem zdn:zG ["pool","size","bottom"] ["pool","size"] (zg qB):=⟨rfl,rfl,rfl,by decide +kernel,rfl,by decide +kernel,by decide +kernel⟩
theorem zff (D:Df K mg "_law_ratio" qB ["pool","size"] []) (cN:Cal P w K mg base "_law_next" 1 ["pool","base"] [] Zk) (cWi:Cal P w K mg base "_law_wide" 2 ["pool","base"] [] zbE) (cL:Cal P w K mg base "_law_low" 1 ["top","bottom"] [] vj):Cal P w K mg base "_law_ratio" 3 ["pool","size"] [] zfW:=by
 refine D.calB (k:=2) zdn (λvs H Q E h=>by obtain⟨_,_,rfl,_⟩:=h;rfl) (λf cdv A outer s H vs Q E hr h=>?_)
 obtain⟨p,n,rfl,n0,n1,hP,k⟩:=h
 have hr1:xi 1 _:=hr.mono (by decide)
 refine⟨_,(zD (ZX (i:=2) zdn.nd rfl (Or.inl rfl) (zaC xw (X9 (xh (Bx.mk zd) (xh (Bx.mk zd) (xh (Bx.mk zd) (xh (Bx.mk zd) (xh (Bx.mk zd) (xh (Bx.mk zd) (xh (Bx.mk zd) (xh (Bx.mk (zA jp zd zd)) j5))))))))) (Bx.mk (zP cN hr1 (za (pv 0) (za zd ze)))) (λ_ _=>rfl))) (Bx.mk (zj (xk (zI vp (zP cN hr1 (za (pv 0) (za zd ze))) zd (zJ _)) (zi (zM (zP cL hr1 (za (zA qj (zP cWi hr (za (pv 0) (za (zA xa (zA zO zd (zA jp zd zd)) zd) ze))) (zA jp zd zd)) (za (pv 2) ze))))) zS)
  (zi (zM (zP cL hr1 (za (zA qj (zP cN hr1 (za (pv 0) (za (zA xa (zA zO zd (pv 1)) zd) ze))) (pv 1)) (za (pv 2) ze)))))))),?_⟩
 refine⟨_,_,rfl,rfl,⟨by decide,by decide,by decide⟩,by show 8<=sizeLine;decide,λl1 hl1=>?_⟩
 refine⟨_,rfl,p,_,rfl,by decide,by decide,hP.new hl1,λd1 G1 a1 b1 t1=>?_⟩
 obtain⟨v,ev,v0,v1⟩:=zd2 a1 b1
 refine⟨l1,_,_,_,rfl,rfl,.of (t1.keep l1 _ zf (hP.ne hl1)),ev,?_⟩
 have T1:xu p H G1:=t1.pre (zh.upd hl1)
 have vb:Bd 8900 v:=Bd.mono (m:=20) (bdn (by omega) (by omega)) (by decide)
 refine⟨_,rfl,p,_,rfl,by decide,by decide,t1.pool,λd2 G2 a2 b2 t2=>⟨rfl,_,rfl,qH (λh=>?_) (λh=>?_)⟩⟩
 ·refine⟨_,rfl,_,_,rfl,rfl,⟨by decide,by decide,by decide⟩,_,_,rfl,rfl,⟨Bd.mono (m:=2) (bdn (by decide) (by decide)) (by decide),Bd.mono (m:=80) (bdn (by decide) (by decide)) (by decide)⟩,_,_,rfl,rfl,p,_,rfl,by decide,t2.pool,λd3 G3 a3 b3 t3=>?_⟩
  refine⟨_,_,rfl,rfl,⟨by decide,by decide,by decide⟩,_,_,rfl,rfl,_,rfl,_,_,rfl,by omega,vb,λr H' e h=>k r _ H' (((T1.trans t2).trans t3).same e) h (.divInt (by omega) ?_ (Bd.mono (m:=20) (bdn (by omega) (by omega)) (by decide)))⟩
  have e20:((10:Int)^(20:Int).toNat)=100000000000000000000:=by decide
  have b3':d3<2*((10:Int)^(20:Int).toNat)+1:=b3
  show Bd 80 (d3 - (10:Int)^(20:Int).toNat)
  rw[e20]at b3' ⊢
  exact Bd.mono (m:=68) (bdz (by omega) (by omega)) (by decide)
 ·refine⟨_,rfl,_,rfl,_,_,rfl,rfl,⟨Bd.mono (m:=2) (bdn (by decide) (by decide)) (by decide),Bd.mono (m:=30) (bdn (by omega) (by omega)) (by decide)⟩,_,_,rfl,rfl,p,_,rfl,by omega,by omega,t2.pool,λd3 G3 a3 b3 t3=>?_⟩
  refine⟨_,rfl,_,_,rfl,rfl,_,rfl,_,_,rfl,by omega,vb,λr H' e h=>k r _ H' (((T1.trans t2).trans t3).same e) h (.divInt (by omega) ?_ (Bd.mono (m:=20) (bdn (by omega) (by omega)) (by decide)))⟩
  exact Bd.mono (m:=30) (bdz (by omega) (by omega)) (by decide)
theorem zd0 {d:Int}(h0:0<=d) (h1:d<4):∃v:Int,atI [V.int 1,.int 1,.int 2,.int 3] d=some (.int v)/\1<=v/\v<=3:=by
 have:d=0\/d=1\/d=2\/d=3:=by omega
 rcases this with rfl | rfl | rfl | rfl
 all_goals exact⟨_,rfl,by decide,by decide⟩
theorem zbx:zG ["pool"] ["pool"] (zg qC):=⟨rfl,rfl,rfl,by decide +kernel,rfl,by decide +kernel,by decide +kernel⟩
end
end KK
end
section
set_option maxHeartbeats 8000000
set_option Elab.async false
set_option linter.all false
set_option maxRecDepth 100000
namespace L2
open PySem PySem.Spec PyProof.Rows
theorem JZ {J:It}{D:Addr}{N n:Nat}{js:List Nat}{σ:St}{g:TG}{tt:TT}{te:TE}{Z:Hp->Prop}{H:Hp}(Pv:Nat->Hp->List V->Prop) (h0:Pv 0 (upd H D (.lst [])) []) (hgo:∀i H ys,i<N->Pv i H ys->J.go i H) (hst:∀H ys,Pv N H ys->J.stop N H)
  (hs:∀i x zs H2 H3 ys (Nx:Hp->List V->Prop),(∀H ys,Pv (i+1) H ys->Nx H ys)->i<N->zs.length=n->J.yld i H2 x H3->Pv i H2 ys->H2 D=some (.lst ys)->g x (zs++qO σ js) H3 λσ4 H4=>σ4.drop n=qO σ js/\tt σ4 H4 λb H5 =>
   if b=true then te σ4 H5 (λv H6=>H6 D=some (.lst ys)/\ys.length<sizeLine/\Nx (upd H6 D (.lst (ys++[v]))) (ys++[v]))else H5 D=some (.lst ys)/\Nx H5 ys)
  (hd:∀H ys,Pv N H ys->H D=some (.lst ys)->Z H) :
  ∃W:Nat->Nat->Hp->List V->Prop,(∃m,W 0 m (upd H D (.lst [])) [])/\∀i m H2 ys,W i m H2 ys->H2 D=some (.lst ys)->(J.stop i H2/\Z H2) ∨
   (J.go i H2/\∀zs x H3,zs.length=n->J.yld i H2 x H3->g x (zs++qO σ js) H3 λσ4 H4=>σ4.drop n=qO σ js/\tt σ4 H4 λb H5=>if b=true then te σ4 H5 (λv H6=>H6 D=some (.lst ys)/\ys.length<sizeLine/\∃m',m'<m/\W (i+1) m' (upd H6 D (.lst (ys++[v]))) (ys++[v]))
    else H5 D=some (.lst ys)/\∃m',m'<m/\W (i+1) m' H5 ys):=jG (Q:=λ_ H=>Z H) Pv h0 hgo hst hs hd
end L2
namespace KK
open PySem L2 KM
theorem xx {t u:TS}{D:qQ}{σ:St}{H:Hp}(R:St->Hp->Prop) (h2:∀σ' H',R σ' H'->u D σ' H') (h1:∀nx:St->Hp->Prop,(∀σ' H',R σ' H'->nx σ' H')->t { D with nx:=nx } σ H):Qw t u D σ H:=h1 (u D) h2
theorem xN {p:Addr}{H H':Hp}(hp:jz H p) (s:xu p H H'):zT H H':=λb xs e=>s.tup hp e
theorem xu.free {p l:Addr}{H G:Hp}(s:xu p H G) (h:G l=none):H l=none:=by
 cases hh:H l with
 | none=>rfl
 | some o =>
  by_cases e:l=p
  ·subst e;obtain⟨_,_,_,z⟩:=s.pool;rw[z]at h;cases h
  ·rw[s.keep _ _ hh e]at h;cases h
theorem xu.put {p l:Addr}{H G:Hp}(s:xu p H G) (h:H l=none) (n:l≠p) (o:HO):xu p H (upd G l o) :=
 ⟨by obtain⟨q1,q2,q3,e⟩:=s.pool;exact⟨q1,q2,q3,by rw[zB (Ne.symm n)];exact e⟩,λb u e m=>by rw[zB (λz=>by rw[z,h]at e;cases e)];exact s.keep b u e m⟩
theorem jL {α:Type}{xs:List α}(h:xs.length=1):∃a,xs=[a]:=by
 match xs,h with
 | [a],_=>exact⟨a,rfl⟩
theorem Qp {α:Type}(v:α):∀n:Nat,(List.replicate n [v]).flatten=List.replicate n v
 | 0=>rfl
 | n+1=>by rw[List.replicate_succ,List.flatten_cons,Qp v n,List.replicate_succ];rfl
end KK
end
section
set_option maxHeartbeats 8000000
set_option Elab.async false
set_option linter.all false
set_option maxRecDepth 100000
namespace KK
open PySem L2 KM
end KK
end
section
set_option maxHeartbeats 8000000
set_option Elab.async false
set_option linter.all false
set_option maxRecDepth 100000
namespace KK
open PySem L2 KM
end KK
end
section
set_option maxHeartbeats 8000000
set_option Elab.async false
set_option linter.all false
set_option maxRecDepth 100000
namespace KK
open PySem L2 KM
abbrev Wl:=Option (Rat×Rat)
def xp (H:Hp) (v:V):Wl->Prop
 | none=>v = .non
 | some (x,y)=>∃a p q,v = .ref a/\H a=some (.tup [.ref p,.ref q])/\zF H p x/\zF H q y
theorem xp.tups {H H':Hp}{v:V}{l:Wl}(h:xp H v l) (e:zT H H'):xp H' v l:=by
 cases l with
 | none=>exact h
 | some z=>obtain⟨x,y⟩:=z;obtain⟨a,p,q,e1,e2,e3,e4⟩:=h;exact⟨a,p,q,e1,e _ _ e2,e _ _ e3,e _ _ e4⟩
structure Box (bs:List zV) (l1 l2:Wl):Prop where
 z1:∀x y,l1=some (x,y)->Sz 320 x/\Sz 80 y
 z2:∀x y,l2=some (x,y)->Sz 320 x/\Sz 80 y
 lo:∀x y b,l1=some (x,y)->bs[0]? = some b->x<=b.pl/\(x=b.pl->y<=b.sp)
 hi:∀x y cs b,l2=some (x,y)->bs=cs++[b]->b.pl<=x/\(x=b.pl->b.sp<=y)
 lt:∀x y x' y',l1=some (x,y)->l2=some (x',y')->x<x'
end KK
end
section
set_option maxHeartbeats 8000000
set_option Elab.async false
set_option linter.all false
set_option maxRecDepth 100000
namespace L2
open PySem PySem.Spec PyProof.Rows
section
variable {X:Cx}{e st:Expr}{te:TE}{pos p2:Pos}
def zgc (K:PySem.W.Frag) (te ts:TE):TE:=λσ H Q=>te σ H λx H1=>ts σ H1 λy H2=>∃a xs,x = .ref a/\y = .int (-1)/\SqL K H2 a xs/\∀p,H2 p=none->Q (.ref p) (upd H2 p (.lst xs.reverse))
theorem zcw {ts:TE}(he:PE X e te) (hs:PE X st ts):PE X (.Subscript e (.Slice none none (some st) p2) pos) (zgc X.K te ts):=by
 intro pins s σ H Q I h
 refine Subscript_ (thn (he pins s σ H _ I h) λv s1 ⟨x,H1,I1,r1,q1⟩=>?_)
 refine wpAny_Slice ?_
 rw[evalPart_none]
 refine wpAny_pure (wpAny_pure ?_)
 rw[evalPart_some]
 refine thn (hs pins s1 σ H1 _ I1 q1) λu s3 ⟨y,H3,I3,r3,q3⟩=>?_
 obtain⟨a,xs,rfl,rfl,hx,q⟩:=q3
 cases r1
 obtain⟨t,rfl⟩:=r3
 have I4:Inv X pins σ H3 { s3 with heap:=s3.heap.push { cls:=.type "slice",data:=.fields #[.none,.none,.int (-1) t] } }:=I3.kept (t':=s3.toks) λb ob q=>Heap.get?_push_of_some _ q
 obtain⟨its,r,ht,hz⟩:=I4.list hx
 have hlen:=r.length
 show wpAny (model X.prog X.w) X.A (subscriptTail e (.Slice none none (some st) p2) (.ref a) (.ref s3.heap.objs.size)) (EP X pins σ Q) X.xe { s3 with heap:=s3.heap.push { cls:=.type "slice",data:=.fields #[.none,.none,.int (-1) t] } }
 refine tail_any (ops:=[.ref a,.ref s3.heap.objs.size]) ht.isList.typeIs slot_list_getitem.lookup (wpAny_getItem_list_slice ht.isList (Heap.IsSliceOf.new ..) .none .none (.int (-1) t) (by simp) ?_ (by rw[List.size_toArray] <;> omega)) (by with_unfolding_all rfl)
 rw[PySem.W.krv_pick]
 refine⟨.ref _,_,I4.laid (t':=s3.toks) (o:=.lst xs.reverse) (λb ob q=>Heap.get?_push_of_some _ q) (Nat.le_refl _) ?_,rfl,q _ (I4.hok.fresh (Nat.le_refl _))⟩
 exact⟨by rw[List.length_reverse];exact hz,_,0,r.rev,Heap.get?_push_size _ rfl⟩
end
section
variable {X:Cx}
def zcz:V->List V->Hp->VK->Prop:=λx vs H Q=>∃(l:Addr) (xs:List V) (i:Int) (y:V),x = .ref l/\vs=[.int i,y]/\H l=some (.lst xs)/\0<=i/\i<=xs.length/\xs.length<=1000/\Q .non (upd H l (.lst (xs.take i.toNat++y::xs.drop i.toNat)))
theorem zdO (its:List Value) (i:Int) (u:Value) (h0:0<=i) (h1:i<=its.length) :
  ((its.toArray.extract 0 (if i<0 then(i+((its.toArray.size:Nat):Int)).toNat else min i.toNat its.toArray.size)).push u++its.toArray.extract (if i<0 then(i+((its.toArray.size:Nat):Int)).toNat else min i.toNat its.toArray.size))=(its.take i.toNat++u::its.drop i.toNat).toArray:=by
 rw[if_neg (by omega),List.size_toArray,show min i.toNat its.length=i.toNat by omega]
 apply Array.toList_inj.mp
 simp
 exact List.take_of_length_le (by simp)
theorem XQ:MtM X "list.insert" zcz:=by
 intro pins s σ H x vs v us Q I rx rv h
 obtain⟨l,xs,i,y,rfl,rfl,hH,h0,h1,hz,q⟩:=h
 cases rx
 obtain⟨u1,u2,rfl,⟨t,rfl⟩,ru⟩:=rv.two
 obtain⟨z,its,n,r,hl,e⟩:=I.lstM hH
 have hf:Builtin.List.listFitsIndex i=true:=fitsIndex_both (by omega) (by omega)
 have hz2:its.toArray.size<=sizeLine:=by rw[List.size_toArray,<-hl];exact z
 refine call_meets F.slot_list_insert ⟨_,e,rfl⟩ F.entry_list_insert (F.args_list_insert_3 _ _ _) (AutoSeq1.list_insert_list_int_val_1 l its.toArray n i t u2 (by simp[hf]) hz2) ⟨e,?_⟩
 refine⟨.non,_,I.lset (its':=its.take i.toNat++u2::its.drop i.toNat) hH e (zdO its i u2 h0 (by omega)) ((r.take i.toNat).append (.cons ru (r.drop i.toNat))) ?_,rfl,q⟩
 have:xs.length<sizeLine:=xt hz
 rw[List.length_append,List.length_cons,List.length_take,List.length_drop]
 omega
end
end L2
namespace KK
open PySem L2 KM
theorem Z0 {K:PySem.W.Frag}{a:Addr}{xs:List V}{g:TG}{tb:TS}{D:qQ}{σ:St}{H:Hp}(Pv:Nat->St->Hp->Prop) (h0:Pv 0 σ H) (hl:∀i σ H,Pv i σ H->SqL K H a xs)
  (hs:∀(i:Nat) (x:V) (σ:St) (H:Hp) (T:Addr),xs[i]? = some x->Pv i σ H->H T=none->g (.ref T) σ (upd H T (.tup [.int i,x])) λσ2 H2=>tb { D with nx:=Pv (i+1),ct:=Pv (i+1),bk:=D.nx } σ2 H2)
  (hd:∀σ H,Pv xs.length σ H->D.nx σ H) :
  ∃W:Nat->Nat->St->Hp->Prop,(∃m,W 0 m σ H)/\∀i m σ H,W i m σ H →
   ((Ite K a).stop i H/\D.nx σ H)\/((Ite K a).go i H/\∃N:St->Hp->Prop,(∀σ' H',N σ' H'->∃m',m'<m/\W (i+1) m' σ' H')/\∀x H',(Ite K a).yld i H x H'->g x σ H' λσ2 H2=>tb { D with nx:=N,ct:=N,bk:=D.nx } σ2 H2):=by
 refine⟨λi m σ H=>m=xs.length - i/\i<=xs.length/\Pv i σ H,⟨xs.length,by simp,Nat.zero_le _,h0⟩,?_⟩
 rintro i m σ H ⟨rfl,hi,p⟩
 have q1:=hl i σ H p
 by_cases hlt:i<xs.length
 ·refine .inr ⟨⟨xs,xs[i],q1,by simp⟩,Pv (i+1),λσ' H' p'=>⟨xs.length - (i+1),by omega,rfl,hlt,p'⟩,λx H' y=>?_⟩
  obtain⟨T,u,rfl,hT,rfl,e1⟩:=y
  exact hs i u σ H T (e1 xs q1) p hT
 ·have e:i=xs.length:=by omega
  subst e
  exact .inl ⟨⟨xs,q1,Nat.le_refl _⟩,hd σ H p⟩
theorem Sz.sub {m n:Nat}{x y:Rat}(h:Sz m x) (k:Sz n y):Sz (m+n+1) (x - y):=by
 rw[Rat.sub_eq_add_neg]
 exact h.add ⟨by rw[Rat.neg_num];exact k.1.neg,by rw[Rat.neg_den];exact k.2⟩
theorem zdE {a b:Str}{m n:Addr}(x:Str) (c:Addr) (e:List.lookup x [(a,m)]=some c):List.lookup x [(a,m),(b,n)]=some c:=by
 simp only[List.lookup]at e ⊢
 cases h1:(x == a)with
 | true=>rw[h1]at e;exact e
 | false=>rw[h1]at e;cases e
theorem zdF {a b:Str}{m n:Addr}(h:a≠b) (x:Str) (c:Addr) (e:List.lookup x [(b,n)]=some c):List.lookup x [(a,m),(b,n)]=some c:=by
 simp only[List.lookup]at e ⊢
 cases h1:(x == b)with
 | true =>
  cases h2:(x == a)with
  | true=>exact absurd ((eq_of_beq h2).symm.trans (eq_of_beq h1)) h
  | false=>rw[h1]at e;exact e
 | false=>rw[h1]at e;cases e
end KK
end
section
set_option maxHeartbeats 8000000
set_option Elab.async false
set_option linter.all false
set_option maxRecDepth 100000
namespace KK
open PySem L2 KM
structure NEn (mg:Str->Option Value):Prop where
 nEnum:mg "enumerate" = none
theorem zex {t b:Int}{n:Nat}(h0 : -(2^n)<t) (h1:t<2^n) (b0:0<b) (b1:b<2^n):Sz n (Rat.divInt t b):=.divInt (by omega) (bdz h0 h1) (bdn (by omega) b1)
theorem zd1 {d:Int}(h0:0<=d) (h1:d<8):∃v:Int,atI [V.int 2,.int 2,.int 3,.int 3,.int 4,.int 5,.int 6,.int 7] d=some (.int v)/\2<=v/\v<=7:=by
 have:d=0\/d=1\/d=2\/d=3\/d=4\/d=5\/d=6\/d=7:=by omega
 rcases this with rfl | rfl | rfl | rfl | rfl | rfl | rfl | rfl
 all_goals exact⟨_,rfl,by decide,by decide⟩
def ZB (bs:List zV):Prop:=∀b∈bs,Sz 300 b.pl/\Sz 80 b.sp/\1<=b.wt/\b.wt<=1000
structure ERQ (H:Hp) (n:Nat) (us:List V) (qs:List Rat):Prop where
 len:us.length=qs.length
 at':∀(i:Nat) (v:V),us[i]? = some v->∃r q,v = .ref r/\qs[i]? = some q/\zF H r q
 sz:∀q∈qs,Sz n q
theorem ERQ.tups {H H':Hp}{n:Nat}{us:List V}{qs:List Rat}(h:ERQ H n us qs) (e:zT H H'):ERQ H' n us qs:=⟨h.len,λi v f=>let ⟨r,q,a,b,c⟩:=h.at' i v f;⟨r,q,a,b,e _ _ c⟩,h.sz⟩
theorem ERQ.mono {H:Hp}{n n':Nat}{us:List V}{qs:List Rat}(h:ERQ H n us qs) (l:n<=n'):ERQ H n' us qs:=⟨h.len,h.at',λq m=>(h.sz q m).mono l⟩
theorem ERQ.nil {H:Hp}{n:Nat}:ERQ H n [] []:=⟨rfl,λi v e=>by simp at e,λq m=>by cases m⟩
theorem ERQ.cons {H:Hp}{n:Nat}{us:List V}{qs:List Rat}{r:Addr}{q:Rat}(h:ERQ H n us qs) (hr:zF H r q) (z:Sz n q):ERQ H n (.ref r::us) (q::qs):=by
 refine⟨by simp[h.len],λi v e=>?_,λx m=>?_⟩
 ·match i,e with
  | 0,e=>cases e;exact⟨r,q,rfl,rfl,hr⟩
  | i+1,e=>exact h.at' i v (by simpa using e)
 ·rcases List.mem_cons.mp m with rfl | m
  ·exact z
  ·exact h.sz x m
theorem ERQ.snoc {H:Hp}{n:Nat}{us:List V}{qs:List Rat}{r:Addr}{q:Rat}(h:ERQ H n us qs) (hr:zF H r q) (z:Sz n q):ERQ H n (us++[.ref r]) (qs++[q]):=by
 refine⟨by simp[h.len],λi v e=>?_,λx m=>?_⟩
 ·by_cases hi:i<us.length
  ·rw[List.getElem?_append_left hi]at e
   rw[List.getElem?_append_left (by rw[<-h.len];exact hi)]
   exact h.at' i v e
  ·rw[List.getElem?_append_right (by omega)]at e
   have hj:i - us.length=0:=by
    rcases Nat.eq_zero_or_pos (i - us.length)with z | z
    ·exact z
    ·rw[List.getElem?_eq_none (by simp;omega)]at e;cases e
   rw[hj]at e;cases e
   exact⟨r,q,rfl,by rw[List.getElem?_append_right (by rw[<-h.len];omega),<-h.len,hj];rfl,hr⟩
 ·rcases List.mem_append.mp m with y | y
  ·exact h.sz x y
  ·have:x=q:=by simpa using y
   rw[this];exact z
def bq (n:Nat):Rat:=((4*(n:Int):Int):Rat)
theorem X8 (n:Nat):bq (n+1)=bq n+4:=by
 unfold bq
 have:(4*((n+1:Nat):Int):Int)=4*(n:Int)+4:=by omega
 rw[this,Rat.intCast_add];rfl
theorem zc8 (n:Nat):0<=bq n:=by
 have:((0:Int):Rat)<=((4*(n:Int):Int):Rat):=Rat.intCast_le_intCast.mpr (by omega)
 exact this
def FQ (ow b:Rat) (qs:List Rat):Prop:=∀q∈qs,ow - b<=q/\q<=ow+b
def FA (ow:Rat) (qs:List Rat):Prop:=qs.Pairwise (· > ·)/\(∀q∈qs,ow<q)/\FQ ow (bq qs.length) qs
theorem FA.cons {ow q0 x:Rat}{qs:List Rat}(h:FA ow (q0::qs)) (lt:q0<x) (le:x<=q0+4):FA ow (x::q0::qs):=by
 refine⟨List.pairwise_cons.mpr ⟨λa m=>?_,h.1⟩,λq m=>?_,λq m=>?_⟩
 ·rcases List.mem_cons.mp m with rfl | m
  ·exact lt
  ·have:=(List.pairwise_cons.mp h.1).1 a m
   grind
 ·rcases List.mem_cons.mp m with rfl | m
  ·have:=h.2.1 q0 (List.mem_cons_self ..)
   grind
  ·exact h.2.1 q m
 ·have e:bq (x::q0::qs).length=bq (q0::qs).length+4:=X8 _
  rw[e]
  rcases List.mem_cons.mp m with rfl | m
  ·have:=h.2.2 q0 (List.mem_cons_self ..)
   grind
  ·have:=h.2.2 q m
   grind
def FB (wh:Int) (ow:Rat) (qs:List Rat):Prop:=qs.Pairwise (· > ·)/\(wh=1->∀q∈qs,q<ow)/\(wh≠1->∀q∈qs,ow<q)/\FQ ow (bq qs.length) qs
def Ex (wh:Int) (ow:Rat) (qs:List Rat):Prop:=(∃q∈qs,(wh=1->q<ow)/\(wh≠1->ow<q))/\(wh=0->2<=qs.length)
def FC (wh:Int) (ow:Rat) (qs:List Rat):Prop:=qs.Pairwise (· > ·)/\(wh=1->∀q∈qs,q<=ow)/\(wh≠1->∀q∈qs,ow<q)/\FQ ow (bq qs.length) qs/\Ex wh ow qs
def FD (wh:Int) (ow:Rat) (qs:List Rat):Prop:=qs.Pairwise (· > ·)/\(wh=1->∀q∈qs,q<=ow)/\(wh=2->∀q∈qs,ow<=q)/\FQ ow (bq qs.length) qs/\Ex wh ow qs
theorem FA.mirror {ow:Rat}{qs:List Rat}(h:FA ow qs):FB 1 ow (qs.reverse.map λq=>ow+ow - q):=by
 refine⟨?_,λ_ q m=>?_,λz=>absurd rfl z,λq m=>?_⟩
 ·rw[List.pairwise_map,List.pairwise_reverse]
  exact h.1.imp λ{a b} lt=>by show ow+ow - b>ow+ow - a;grind
 ·obtain⟨x,mx,rfl⟩:=List.mem_map.mp m
  have:=h.2.1 x (List.mem_reverse.mp mx)
  grind
 ·obtain⟨x,mx,rfl⟩:=List.mem_map.mp m
  have:=h.2.2 x (List.mem_reverse.mp mx)
  rw[List.length_map,List.length_reverse]
  grind
theorem FA.fb {wh:Int}{ow:Rat}{qs:List Rat}(h:FA ow qs) (w:wh≠1):FB wh ow qs:=⟨h.1,λz=>absurd z w,λ_=>h.2.1,h.2.2⟩
theorem FB.ex {wh:Int}{ow:Rat}{qs:List Rat}(h:FB wh ow qs) (n:1<=qs.length) (n2:wh=0->2<=qs.length):Ex wh ow qs:=by
 cases qs with
 | nil=>simp at n
 | cons q qs=>exact⟨⟨q,List.mem_cons_self ..,λz=>h.2.1 z q (List.mem_cons_self ..),λz=>h.2.2.1 z q (List.mem_cons_self ..)⟩,n2⟩
theorem FB.fc {wh:Int}{ow:Rat}{qs:List Rat}(h:FB wh ow qs) (n:1<=qs.length) (n2:wh=0->2<=qs.length):FC wh ow qs:=⟨h.1,λz q m=>by have:=h.2.1 z q m;grind,h.2.2.1,h.2.2.2,h.ex n n2⟩
theorem FB.rest {ow:Rat}{qs:List Rat}(h:FB 1 ow qs) (n:1<=qs.length):FC 1 ow (ow::qs):=by
 obtain⟨⟨q0,m0,e0⟩,_⟩:=h.ex n (λz=>absurd z (by decide))
 refine⟨List.pairwise_cons.mpr ⟨λa m=>h.2.1 rfl a m,h.1⟩,λ_ q m=>?_,λz=>absurd rfl z,λq m=>?_,⟨⟨q0,List.mem_cons_of_mem _ m0,e0⟩,λz=>absurd z (by decide)⟩⟩
 ·rcases List.mem_cons.mp m with rfl | m
  ·grind
  ·have:=h.2.1 rfl q m
   grind
 ·have e:bq (ow::qs).length=bq qs.length+4:=X8 _
  have n:=zc8 qs.length
  rw[e]
  rcases List.mem_cons.mp m with rfl | m
  ·grind
  ·have:=h.2.2.2 q m
   grind
theorem FC.fd {wh:Int}{ow:Rat}{qs:List Rat}(h:FC wh ow qs):FD wh ow qs:=⟨h.1,h.2.1,λz q m=>by have:=h.2.2.1 (by omega) q m;grind,h.2.2.2⟩
theorem FC.rest {ow:Rat}{qs:List Rat}(h:FC 2 ow qs):FD 2 ow (qs++[ow]):=by
 refine⟨List.pairwise_append.mpr ⟨h.1,by simp,λa m b mb=>?_⟩,λz=>absurd z (by decide),λ_ q m=>?_,λq m=>?_,⟨by obtain⟨q0,m0,e0⟩:=h.2.2.2.2.1;exact⟨q0,List.mem_append_left _ m0,e0⟩,λz=>absurd z (by decide)⟩⟩
 ·have e:b=ow:=by simpa using mb
  rw[e];exact h.2.2.1 (by decide) a m
 ·rcases List.mem_append.mp m with y | y
  ·have:=h.2.2.1 (by decide) q y
   grind
  ·have e:q=ow:=by simpa using y
   grind
 ·have e:bq (qs++[ow]).length=bq qs.length+4:=by rw[List.length_append];exact X8 _
  have n:=zc8 qs.length
  rw[e]
  rcases List.mem_append.mp m with y | y
  ·have:=h.2.2.2.1 q y
   grind
  ·have e:q=ow:=by simpa using y
   grind
theorem Vp {t b c:Int}(hb:0<b) (h0 : -c*b<=t) (h1:t<=c*b) : -(c:Rat)<=Rat.divInt t b/\Rat.divInt t b<=(c:Rat):=by
 have hb':(0:Rat)<(b:Rat):=by exact_mod_cast hb
 rw[Rat.divInt_eq_div]
 have g0:((-c*b:Int):Rat)<=(t:Rat):=Rat.intCast_le_intCast.mpr h0
 have g1:(t:Rat)<=((c*b:Int):Rat):=Rat.intCast_le_intCast.mpr h1
 rw[Rat.intCast_mul]at g0 g1
 rw[Rat.intCast_neg]at g0
 constructor
 ·rcases Classical.em ((t:Rat)/(b:Rat) < -(c:Rat))with z | z
  ·rw[Rat.div_lt_iff hb']at z;grind
  ·grind
 ·rcases Classical.em ((c:Rat)<(t:Rat)/(b:Rat))with z | z
  ·rw[Rat.lt_div_iff hb']at z;grind
  ·grind
section
variable {P:Program}{w:World}{K:PySem.W.Frag}{mg:Str->Option Value}{base:Heap}
def zdr:Sp:=λvs H Q _=>∃(p:Addr),vs=[.ref p]/\jz H p/\∀r x H',xu p H H'->zF H' r x->Sz 5 x → -6<=x->x<=6->Q (.ref r) H'
theorem zeb (D:Df K mg "_law_speed" qC ["pool"] []) (cN:Cal P w K mg base "_law_next" 1 ["pool","base"] [] Zk) (cL:Cal P w K mg base "_law_low" 1 ["top","bottom"] [] vj):Cal P w K mg base "_law_speed" 2 ["pool"] [] zdr:=by
 refine D.cal (k:=1) zbx (λvs H Q E h=>by obtain⟨_,rfl,_⟩:=h;rfl) (λf cdv A outer s H vs Q E hr h=>?_)
 obtain⟨p,rfl,hP,k⟩:=h
 refine⟨_,(zi (zM (zP cL hr (za (zA qj (zP cN hr (za (pv 0) (za zd ze))) zd) (za (zr xw (xB (za zd (za zd (za zd (za zd ze))))) (zP cN hr (za (pv 0) (za zd ze))) (λ_ _=>rfl)) ze))))),?_⟩
 refine⟨_,rfl,p,_,rfl,by decide,by decide,hP,λd1 G1 a1 b1 t1=>⟨_,_,rfl,rfl,by show 4<=sizeLine;decide,λl1 hl1=>?_⟩⟩
 refine⟨_,rfl,p,_,rfl,by decide,by decide,t1.pool.new hl1,λd2 G2 a2 b2 t2=>?_⟩
 obtain⟨v,ev,v0,v1⟩:=zd0 a2 b2
 refine⟨l1,_,_,_,rfl,rfl,.of (t2.keep l1 _ zf (t1.pool.ne hl1)),ev,?_⟩
 have hb:=Vp (t:=d1 - 6) (b:=v) (c:=6) (by omega) (by omega) (by omega)
 refine⟨_,_,rfl,by omega,Bd.mono (m:=5) (bdn (by omega) (by omega)) (by decide),λr H' e h=>k r _ H' ((t1.trans (t2.pre (zh.upd hl1))).same e) h (.divInt (by omega) (bdz (by omega) (by omega)) (bdn (by omega) (by omega))) hb.1 hb.2⟩
def zfK:Sp:=λvs H Q _=>∃(p pp pm:Addr) (wh:Int) (al:Bool) (x m:Rat),vs=[.ref p,.int wh,.ref pp,.ref pm,.bl al]/\0<=wh/\wh<=2/\zF H pp x/\Sz 80 x/\zF H pm m/\Sz 5 m/\jz H p ∧
 ∀t r wl us bs ra rb y z H',xu p H H'->H' t=some (.tup [.ref r,.ref wl])->H' r=some (.tup us)->zR H' us bs->ZB bs->1<=bs.length->bs.length<=8->H' wl=some (.tup [.ref ra,.ref rb])->zF H' ra y->zF H' rb z->Sz 300 y->Sz 80 z->(∃qs,bs.map (λb=>(b.pl,b.sp))=xK x m qs/\FD wh z qs/\y=x - z*m ∧ -6<=z/\z<=6)->Q (.ref t) H'
theorem jh:zG ["pool","where","place","moment","alike","rest","many","own","speeds","k","weights","row","speed"] ["pool","where","place","moment","alike"] (zg ql):=⟨rfl,rfl,rfl,by decide +kernel,rfl,by decide +kernel,by decide +kernel⟩
theorem zeY (D:Df K mg "_law_bundle" ql ["pool","where","place","moment","alike"] []) (T:TxB K mg) (TW:NEn mg) (cN:Cal P w K mg base "_law_next" 1 ["pool","base"] [] Zk) (cSp:Cal P w K mg base "_law_speed" 2 ["pool"] [] zdr)
  (cL:Cal P w K mg base "_law_low" 1 ["top","bottom"] [] vj) (cA:Cal P w K mg base "_law_add" 2 ["a","b"] [] (vK Sz2 (· + ·))) (cO:Cal P w K mg base "_law_off" 2 ["a","b"] [] (vK Sz2 (· - ·))) (cBy:Cal P w K mg base "_law_by" 2 ["a","b"] [] (vK Sz2 (· * ·))):Cal P w K mg base "_law_bundle" 3 ["pool","where","place","moment","alike"] [] zfK:=by
 refine D.calB (k:=2) jh (λvs H Q E h=>by obtain⟨_,_,_,_,_,_,_,rfl,_⟩:=h;rfl) (λf cdv A outer s H vs Q E hr h=>?_)
 obtain⟨p,pp,pm,wh,al,px,mm,rfl,w0,w2,hpp,zpp,hpm,zpm,hP,k⟩:=h
 have hr1:xi 1 _:=hr.mono (by decide)
 refine⟨_,(zD (Bx.mk (zL (i:=5) jh.nd rfl (Or.inl rfl) (qx XC (by rfl) T.nInt PyProof.Rows.boot_int (za (VH (vQ Xf (pv 1) zd (zJ _)) (Qk (vQ vp (zP cN hr1 (za (pv 0) (za zd ze))) zd (zJ _)))) ze))))
  (zD (ZX (i:=6) jh.nd rfl (Or.inl rfl) (zeL qj (zaC xw (X9 (xh (Bx.mk zd) (xh (Bx.mk zd) (xh (Bx.mk zd) (xh (Bx.mk zd) (xh (Bx.mk zd) (xh (Bx.mk zd) (xh (Bx.mk zd) (xh (Bx.mk zd) j5))))))))) (Bx.mk (zP cN hr1 (za (pv 0) (za zd ze)))) (λ_ _=>rfl)) (Bx.mk (pv 5))))
  (zD (ZX (i:=7) jh.nd rfl (Or.inr rfl) (zaC xw (X9 (xh (zaE (xh (Bx.mk zd) (xh (Bx.mk zd) j5))) (xh (zaE (xh (Bx.mk zd) (xh (Bx.mk zd) j5))) (xh (Bx.mk (zP cSp hr (za (pv 0) ze))) j5)))) (Bx.mk (zP cN hr1 (za (pv 0) (za zd ze)))) (λ_ _=>rfl)))
  (zD (Bx.mk (zL (i:=8) jh.nd rfl (Or.inl rfl) (xB (za (zP cA hr (za (pv 7) (za (zP cL hr1 (za (zA xa zd (zP cN hr1 (za (pv 0) (za zd ze)))) (za (zA xa zd (zP cN hr1 (za (pv 0) (za zd ze)))) ze))) ze))) ze))))
  (zD (Bx.mk (vI PassesOwn.never rfl (Zc rfl T.nRange (za (zA qj (pv 6) zd) ze)) (zK (i:=9) jh.nd rfl (Or.inl rfl)) (zi (xU (ZA PySem.F.plainAttrs_list PySem.F.slot_list_insert PySem.F.type_list_insert XQ (pv 8) (za zd (za (zP cA hr (za (zr xw (pv 8) zd (λ_ _=>rfl)) (za (zP cL hr1 (za (zA xa zd (zP cN hr1 (za (pv 0) (za zd ze)))) (za (zA xa zd (zP cN hr1 (za (pv 0) (za zd ze)))) ze))) ze))) ze)))))))
  (zD (Bx.mk (xk (zI vp (pv 1) zd (zJ _)) (zi (vR (i:=8) (NB:=["speed"]) (FR:=["own"]) (js:=[7]) rfl rfl zdE (.cons rfl rfl rfl ⟨_,rfl⟩ .nil) rfl (by decide +kernel) rfl (by decide +kernel) jh.nd rfl rfl (by rfl) (xS (zcw (pv 8) (zdi zbL zd))) (by intro _ _ _;refine⟨?_,?_,?_⟩;(exact(zK (i:=0) (show List.Nodup (["speed","own"]:List Str) by decide +kernel) rfl (Or.inl rfl)));(exact qg);(exact(zP cO hr (za (zP cA hr (za (pv 1) (za (pv 1) ze))) (za (pv 0) ze))))))) zS))
  (zD (Bx.mk (xk (vX (zI vp (pv 5) zd (zJ _)) (vf (zI vp (pv 1) zd (zJ _)))).pt (zi (xU (ZA PySem.F.plainAttrs_list PySem.F.slot_list_insert PySem.F.type_list_insert XQ (pv 8) (za zd (za (pv 7) ze))))) zS))
  (zD (Bx.mk (xk (vX (zI vp (pv 5) zd (zJ _)) (vf (zI vp (pv 1) zd (zJ _)))).pt (zi (xU (ZA PySem.F.plainAttrs_list PySem.F.slot_list_append PySem.F.type_list_append qv (pv 8) (za (pv 7) ze)))) zS))
  (zD (Bx.mk (vR (i:=10) (NB:=["speed"]) (FR:=["pool"]) (js:=[0]) rfl rfl (zdF (a:="own") (b:="pool") (by decide)) (.cons rfl rfl rfl ⟨_,rfl⟩ .nil) rfl (by decide +kernel) rfl (by decide +kernel) jh.nd rfl rfl (by rfl) (xS (pv 8)) (by intro _ _ _;refine⟨?_,?_,?_⟩;(exact(zK (i:=0) (show List.Nodup (["speed","pool"]:List Str) by decide +kernel) rfl (Or.inl rfl)));(exact qg);(exact(zA xa zd (zP cN hr1 (za (pv 1) (za zd ze))))))))
  (zD (Bx.mk (xk (qK (pv 4) λ_=>rfl) (zi (zL (i:=10) jh.nd rfl (Or.inl rfl) (zA zbd (xB (za (zr xw (pv 10) zd (λ_ _=>rfl)) ze)) (zZ xl (by rfl) T.nLen PySem.boot_len (za (pv 10) ze))))) zS))
  (zD (Bx.mk (zL (i:=11) jh.nd rfl (Or.inl rfl) (xB ze)))
  (zD (Bx.mk (vI PassesOwn.never rfl (Js (by rfl) TW.nEnum (za (pv 8) ze)) (vH rfl (zQ (zK (i:=9) jh.nd rfl (Or.inl rfl)) (zQ (zK (i:=12) jh.nd rfl (Or.inl rfl)) xJ))) (zi (xU (ZA PySem.F.plainAttrs_list PySem.F.slot_list_append PySem.F.type_list_append qv (pv 11) (za (xv (za (zP cO hr (za (pv 2) (za (zP cBy hr (za (pv 12) (za (pv 3) ze))) ze))) (za (pv 12) (za (zr xw (pv 10) (pv 9) (λ_ _=>rfl)) ze)))) ze))))))
  (Bx.mk (zi (zM (xv (za (qx vc (by rfl) T.nTuple PyProof.Rows.boot_tuple (za (pv 11) ze)) (za (xv (za (zP cO hr (za (pv 2) (za (zP cBy hr (za (pv 7) (za (pv 3) ze))) ze))) (za (pv 7) ze))) ze)))))))))))))))))),?_⟩
 refine xx (λσ' G=>∃rs:Int,(rs=0\/rs=1)/\(wh=0->rs=0)/\σ'=[some (.ref p),some (.int wh),some (.ref pp),some (.ref pm),some (.bl al),some (.int rs),none,none,none,none,none,none,none]/\xu p H G) ?_ ?_
 rotate_left
 ·intro nx hnx
  refine⟨_,rfl,_,_,rfl,rfl,_,rfl,qH (λh=>?_) (λh=>?_)⟩
  ·refine⟨_,rfl,p,_,rfl,by decide,by decide,hP,λd1 G1 a1 b1 t1=>⟨rfl,.inr ⟨_,rfl,?_⟩⟩⟩
   exact hnx _ _ ⟨_,by split <;> omega,λz=>absurd (of_decide_eq_true h:0<wh) (by omega),rfl,t1⟩
  ·exact .inr ⟨_,rfl,hnx _ _ ⟨0,.inl rfl,λ_=>rfl,rfl,xu.refl hP⟩⟩
 rintro σ' G1 ⟨rs,hrs,hrs0,rfl,T1⟩
 refine xx (λσ' G=>∃mn:Int,1<=mn/\mn+rs<=7/\2<=mn+rs/\σ'=[some (.ref p),some (.int wh),some (.ref pp),some (.ref pm),some (.bl al),some (.int rs),some (.int mn),none,none,none,none,none,none]/\xu p H G) ?_ ?_
 rotate_left
 ·intro nx hnx
  refine⟨by show 8<=sizeLine;decide,λl1 hl1=>?_⟩
  refine⟨_,rfl,p,_,rfl,by decide,by decide,T1.pool.new hl1,λd2 G2 a2 b2 t2=>?_⟩
  obtain⟨v,ev,v0,v1⟩:=zd1 a2 b2
  refine⟨l1,_,_,_,rfl,rfl,.of (t2.keep l1 _ zf (T1.pool.ne hl1)),ev,?_⟩
  exact⟨_,rfl,_,_,rfl,rfl,hnx _ _ ⟨v - rs,by omega,by omega,by omega,rfl,T1.trans (t2.pre (zh.upd hl1))⟩⟩
 rintro σ' G2 ⟨mn,m1,m7,m2,rfl,T2⟩
 refine xx (λσ' G=>∃ro ow,σ'=[some (.ref p),some (.int wh),some (.ref pp),some (.ref pm),some (.bl al),some (.int rs),some (.int mn),some (.ref ro),none,none,none,none,none]/\xu p H G/\zF G ro ow/\Sz 5 ow ∧ -6<=ow/\ow<=6) ?_ ?_
 rotate_left
 ·intro nx hnx
  refine⟨by show 2<=sizeLine;decide,λq1 h1=>?_⟩
  refine⟨by show 2<=sizeLine;decide,λq2 h2=>?_⟩
  have T2':=T2.same ((zh.upd (o:=.tup [.int 0,.int 1]) h1).trans (zh.upd (o:=.tup [.int 0,.int 1]) h2))
  refine⟨_,rfl,p,rfl,T2'.pool,λr3 x3 G3 t3 hr3 z3 y3a y3b=>?_⟩
  have g1:zF G3 q1 0:=xN T2'.pool t3 _ _ (zh.upd h2 _ _ zf)
  have g2:zF G3 q2 0:=xN T2'.pool t3 _ _ zf
  have T3:=T2'.trans t3
  refine⟨by show 3<=sizeLine;decide,λl3 hl3=>?_⟩
  refine⟨_,rfl,p,_,rfl,by decide,by decide,T3.pool.new hl3,λd4 G4 a4 b4 t4=>?_⟩
  have Tu4:zT G3 G4:=(zT.of (zh.upd hl3)).trans (xN (T3.pool.new hl3) t4)
  have T4:xu p H G4:=T3.trans (t4.pre (zh.upd hl3))
  obtain⟨ro,ow,ers,hro,zow,yowa,yowb⟩:∃rs sp,atI [V.ref q1,.ref q2,.ref r3] d4=some (.ref rs)/\zF G3 rs sp/\Sz 5 sp ∧ -6<=sp/\sp<=6:=by
   have zz:Sz 5 (0:Rat):=⟨show (0:Int).natAbs<2^5 by decide,show (1:Int).natAbs<2^5 by decide⟩
   have:d4=0\/d4=1\/d4=2:=by omega
   rcases this with rfl | rfl | rfl
   ·exact⟨q1,0,rfl,g1,zz,by decide,by decide⟩
   ·exact⟨q2,0,rfl,g2,zz,by decide,by decide⟩
   ·exact⟨r3,x3,rfl,hr3,z3,y3a,y3b⟩
  exact⟨l3,_,_,_,rfl,rfl,.of (t4.keep l3 _ zf (T3.pool.ne hl3)),ers,hnx _ _ ⟨ro,ow,rfl,T4,Tu4 _ _ hro,zow,yowa,yowb⟩⟩
 rintro σ' G3 ⟨ro,ow,rfl,T3,hro,zow,yowa,yowb⟩
 refine xx (λσ' G=>∃ls us qs,σ'=[some (.ref p),some (.int wh),some (.ref pp),some (.ref pm),some (.bl al),some (.int rs),some (.int mn),some (.ref ro),some (.ref ls),none,none,none,none]/\xu p H G/\zF G ro ow/\H ls=none/\ls≠p/\G ls=some (.lst us)/\us.length=1/\ERQ G 10 us qs/\FA ow qs) ?_ ?_
 rotate_left
 ·intro nx hnx
  refine⟨_,rfl,_,rfl,p,_,rfl,by decide,by decide,T3.pool,λd4 G4 a4 b4 t4=>⟨_,_,rfl,rfl,?_⟩⟩
  refine⟨_,rfl,p,_,rfl,by decide,by decide,t4.pool,λd5 G5 a5 b5 t5=>⟨_,_,rfl,rfl,?_⟩⟩
  have Tu5:zT G3 G5:=(xN T3.pool t4).trans (xN t4.pool t5)
  refine⟨_,_,rfl,by omega,Bd.mono (m:=5) (bdn (by omega) (by omega)) (by decide),λr6 G6 e6 hr6=>?_⟩
  have z6:Sz 3 (Rat.divInt (1+d4) (1+d5)):=zex (by omega) (by omega) (by omega) (by omega)
  refine⟨ro,r6,_,_,rfl,e6 _ _ (Tu5 _ _ hro),hr6,⟨zow.mono (by decide),z6.mono (by decide)⟩,λr7 G7 e7 hr7=>⟨by show 1<=sizeLine;decide,λls hls=>?_⟩⟩
  have T7:xu p H G7:=(((T3.trans t4).trans t5).same e6).same e7
  have p6:0<Rat.divInt (1+d4) (1+d5):=by
   rw[<-Rat.zero_divInt (1+d5)];exact(j8 (by omega)).mpr (by omega)
  refine hnx _ _ ⟨ls,_,_,rfl,T7.same (zh.upd hls),zh.upd hls _ _ (e7 _ _ (e6 _ _ (Tu5 _ _ hro))),T7.free hls,T7.pool.ne hls,zf,rfl,ERQ.nil.cons (zh.upd hls _ _ hr7) ((zow.add z6).mono (by decide)),by simp,λq m=>?_,λq m=>?_⟩
  ·have e:q=ow+Rat.divInt (1+d4) (1+d5):=by simpa using m
   grind
  ·have e:q=ow+Rat.divInt (1+d4) (1+d5):=by simpa using m
   have hb:=(Vp (t:=1+d4) (b:=1+d5) (c:=4) (by omega) (by omega) (by omega)).2
   have e1:bq [ow+Rat.divInt (1+d4) (1+d5)].length=4:=rfl
   have e2:((4:Int):Rat)=4:=rfl
   rw[e1]
   grind
 rintro σ' G4 ⟨ls,us,qs,rfl,T4,hro4,hlsH,hlsp,hls,hul,hus,hFA⟩
 refine xx (λσ' G=>∃us qs z9,σ'=[some (.ref p),some (.int wh),some (.ref pp),some (.ref pm),some (.bl al),some (.int rs),some (.int mn),some (.ref ro),some (.ref ls),z9,none,none,none]/\xu p H G/\zF G ro ow/\G ls=some (.lst us)/\(us.length:Int)=mn/\ERQ G 40 us qs/\FA ow qs) ?_ ?_
 rotate_left
 ·intro nx hnx
  refine⟨_,rfl,_,_,rfl,rfl,mn - 1,rfl,by omega,by omega,?_⟩
  refine j9 (n:=(mn - 1).toNat) (lo:=0) (λi σ G=>∃us qs z9,σ=[some (.ref p),some (.int wh),some (.ref pp),some (.ref pm),some (.bl al),some (.int rs),some (.int mn),some (.ref ro),some (.ref ls),z9,none,none,none]/\xu p H G/\zF G ro ow/\G ls=some (.lst us)/\us.length=i+1/\ERQ G (10+5*i) us qs/\FA ow qs)
   ⟨us,qs,_,rfl,T4,hro4,hls,hul,hus,hFA⟩ ?_ ?_
  ·rintro i σ G hi ⟨us,qs,z9,rfl,TG,hroG,hlsG,hulG,husG,hFA⟩
   have hi7:i<6:=by omega
   obtain⟨v0,us',rfl⟩:∃v0 us',us=v0::us':=by
    cases us with
    | nil=>simp at hulG
    | cons v0 us'=>exact⟨v0,us',rfl⟩
   obtain⟨r0,q0,rfl,eq0,hr0⟩:=husG.at' 0 v0 rfl
   have z0:=husG.sz q0 (List.mem_of_getElem? eq0)
   obtain⟨qs',rfl⟩:∃qs',qs=q0::qs':=by
    cases qs with
    | nil=>simp at eq0
    | cons a r=>simp at eq0;exact⟨r,by rw[eq0]⟩
   have e0:atI (V.ref r0::us') 0=some (.ref r0):=qf (j:=0) rfl
   refine⟨_,rfl,.inl ⟨rfl,_,SqL.of hlsG⟩,_,rfl,ls,_,_,_,rfl,rfl,.of hlsG,e0,?_⟩
   refine⟨_,rfl,p,_,rfl,by decide,by decide,TG.pool,λd4 G5 a4 b4 t5=>⟨_,_,rfl,rfl,?_⟩⟩
   refine⟨_,rfl,p,_,rfl,by decide,by decide,t5.pool,λd5 G6 a5 b5 t6=>⟨_,_,rfl,rfl,?_⟩⟩
   have Tu6:zT G G6:=(xN TG.pool t5).trans (xN t5.pool t6)
   refine⟨_,_,rfl,by omega,Bd.mono (m:=5) (bdn (by omega) (by omega)) (by decide),λr6 G7 e7 hr6=>?_⟩
   have z6:Sz 3 (Rat.divInt (1+d4) (1+d5)):=zex (by omega) (by omega) (by omega) (by omega)
   refine⟨r0,r6,_,_,rfl,e7 _ _ (Tu6 _ _ hr0),hr6,⟨z0.mono (by omega),z6.mono (by decide)⟩,λr7 G8 e8 hr7=>?_⟩
   have T8:xu p H G8:=(((TG.trans t5).trans t6).same e7).same e8
   have hls8:=e8 _ _ (e7 _ _ (t6.keep _ _ (t5.keep _ _ hlsG hlsp) hlsp))
   have Tu8:zT G G8:=(Tu6.trans (.of e7)).trans (.of e8)
   refine⟨ls,_,0,_,rfl,rfl,hls8,by decide,by omega,by simp at hulG ⊢;omega,?_⟩
   have TuL:zT G8 (upd G8 ls (.lst (.ref r7::.ref r0::us'))):=.upd hls8
   have p6:0<Rat.divInt (1+d4) (1+d5):=by
    rw[<-Rat.zero_divInt (1+d5)];exact(j8 (by omega)).mpr (by omega)
   exact⟨.ref r7::.ref r0::us',_,_,rfl,T8.put hlsH hlsp _,TuL _ _ (Tu8 _ _ hroG),zf,by simp at hulG ⊢;omega,(((husG.mono (by omega)).tups Tu8).tups TuL).cons (TuL _ _ hr7) ((z0.add z6).mono (by omega)),hFA.cons (by show q0<q0+Rat.divInt (1+d4) (1+d5);grind) (by
    have hb:=(Vp (t:=1+d4) (b:=1+d5) (c:=4) (by omega) (by omega) (by omega)).2
    have e2:((4:Int):Rat)=4:=rfl
    show q0+Rat.divInt (1+d4) (1+d5)<=q0+4;grind)⟩
  ·rintro σ G ⟨us,qs,z9,rfl,TG,hroG,hlsG,hulG,husG,hFA⟩
   exact hnx _ _ ⟨us,qs,z9,rfl,TG,hroG,hlsG,by omega,husG.mono (by omega),hFA⟩
 rintro σ' G5 ⟨us5,qs5,z9,rfl,T5,hro5,hls5,hul5,hus5,hFA5⟩
 refine xx (λσ' G=>∃ls us qs,σ'=[some (.ref p),some (.int wh),some (.ref pp),some (.ref pm),some (.bl al),some (.int rs),some (.int mn),some (.ref ro),some (.ref ls),z9,none,none,none]/\xu p H G/\zF G ro ow/\H ls=none/\ls≠p/\G ls=some (.lst us)/\(us.length:Int)=mn/\ERQ G 60 us qs/\FB wh ow qs) ?_ ?_
 rotate_left
 ·intro nx hnx
  refine⟨_,rfl,rfl,_,rfl,qH (λh=>?_) (λh=>?_)⟩
  ·refine⟨_,rfl,_,rfl,ls,us5,rfl,rfl,.of hls5,λlv hlv=>?_⟩
   refine⟨lv,rfl,⟨_,.of zf⟩,λDc hDc=>?_⟩
   have hlvD:lv≠Dc:=λz=>by rw[<-z,zf]at hDc;cases hDc
   have T6:=T5.same (zh.upd (o:=.lst us5.reverse) hlv)
   have hlv6:upd G5 lv (.lst us5.reverse) lv=some (.lst us5.reverse):=zf
   have hro6:zF (upd G5 lv (.lst us5.reverse)) ro ow:=zh.upd hlv _ _ hro5
   have hus6:=hus5.tups (.of (zh.upd (o:=.lst us5.reverse) hlv))
   generalize upd G5 lv (.lst us5.reverse)=G6 at *
   have hw1:wh=1:=by simpa using h
   have hl5:=hus5.len
   have rget:∀(i:Nat) (v:V),us5.reverse[i]? = some v->∃r q,v = .ref r/\qs5.reverse[i]? = some q/\zF G6 r q:=λi v e=>by
    have hi:i<us5.length:=by have:=(List.getElem?_eq_some_iff.mp e).1;rw[List.length_reverse]at this;exact this
    rw[List.getElem?_reverse hi]at e
    rw[List.getElem?_reverse (by omega),<-hl5]
    exact hus6.at' _ v e
   refine qh (js:=[7]) (J:=Itl K lv) (g:=zN 0) (te:=_) (n:=1) (xs:=us5.reverse) (λi v G=>∃r q,v = .ref r/\(qs5.reverse.map λq=>ow+ow - q)[i]? = some q/\zF G r q) (λi v G G' e ⟨r,q,a,b,c⟩=>⟨r,q,a,b,e _ _ c⟩) hDc (xW hlv6) (xt (by rw[List.length_reverse];omega)) ?_ ?_
   ·intro i x zs G7 Q' hx hz S7 hQ
    obtain⟨y1,rfl⟩:=jL hz
    obtain⟨r,q,rfl,eq,hrq⟩:=rget i x hx
    have zq:=hus5.sz q (List.mem_reverse.mp (List.mem_of_getElem? eq))
    refine⟨rfl,?_⟩
    refine⟨_,rfl,_,rfl,ro,ro,ow,ow,rfl,S7 _ _ hro6,S7 _ _ hro6,⟨zow.mono (by decide),zow.mono (by decide)⟩,λr8 G8 e8 hr8=>?_⟩
    refine⟨_,rfl,r8,r,_,_,rfl,hr8,e8 _ _ (S7 _ _ hrq),⟨(zow.add zow).mono (by decide),zq.mono (by decide)⟩,λr9 G9 e9 hr9=>hQ _ _ (e8.trans e9) ⟨r9,_,rfl,by rw[List.getElem?_map,eq];rfl,hr9⟩⟩
   ·intro ys G7 S7 hD7 hl7 hR7
    refine hnx _ _ ⟨Dc,ys,_,rfl,T6.same S7,S7 _ _ hro6,T6.free hDc,T6.pool.ne hDc,hD7,by rw[hl7,List.length_reverse];exact hul5,⟨by rw[hl7];simp[hl5],hR7,λq m=>?_⟩,by rw[hw1];exact hFA5.mirror⟩
    obtain⟨x,mx,rfl⟩:=List.mem_map.mp m
    exact(Sz.sub (zow.add zow) (hus5.sz x (List.mem_reverse.mp mx))).mono (by decide)
  ·have hw1:wh≠1:=λz=>h (by rw[z];decide)
   exact hnx _ _ ⟨ls,us5,qs5,rfl,T5,hro5,hlsH,hlsp,hls5,hul5,hus5.mono (by decide),hFA5.fb hw1⟩
 clear hls hus hul hlsH hlsp hls5 hFA
 clear qs us
 rintro σ' G6 ⟨ls,us,qs,rfl,T6,hro6,hlsH,hlsp,hls6,hul6,hus6,hFB6⟩
 refine xx (λσ' G=>∃us qs,σ'=[some (.ref p),some (.int wh),some (.ref pp),some (.ref pm),some (.bl al),some (.int rs),some (.int mn),some (.ref ro),some (.ref ls),z9,none,none,none]/\xu p H G/\zF G ro ow/\G ls=some (.lst us)/\1<=us.length/\us.length<=7/\(wh≠1->(us.length:Int)+rs<=7)/\ERQ G 60 us qs/\FC wh ow qs) ?_ ?_
 rotate_left
 ·intro nx hnx
  have no:nx [some (.ref p),some (.int wh),some (.ref pp),some (.ref pm),some (.bl al),some (.int rs),some (.int mn),some (.ref ro),some (.ref ls),z9,none,none,none] G6:=hnx _ _ ⟨us,qs,rfl,T6,hro6,hls6,by omega,by omega,λ_=>by omega,hus6,hFB6.fc (by have:=hus6.len;omega) (λz=>by have:=hus6.len;have:=hrs0 z;omega)⟩
  refine⟨_,rfl,rfl,_,rfl,qH (λh=>?_) (λh=>xA no)⟩
  refine⟨_,rfl,rfl,_,rfl,qH (λh2=>?_) (λh2=>no)⟩
  have TuL:zT G6 (upd G6 ls (.lst (.ref ro::us))):=.upd hls6
  have hw:wh=1:=by simpa using h2
  have hs:rs=1:=by simpa using h
  exact⟨_,rfl,.inl ⟨rfl,_,SqL.of hls6⟩,_,rfl,ls,_,0,_,rfl,rfl,hls6,by decide,by omega,by omega,hnx _ _ ⟨.ref ro::us,_,rfl,T6.put hlsH hlsp _,TuL _ _ hro6,zf,by simp,by simp only[List.length_cons];omega,λz=>absurd hw z,(hus6.tups TuL).cons (TuL _ _ hro6) (zow.mono (by decide)),by subst hw;exact hFB6.rest (by have:=hus6.len;omega)⟩⟩
 clear hls6 hus6 hul6 hro6 hFB6
 clear qs us
 rintro σ' G7 ⟨us,qs,rfl,T7,hro7,hls7,hu1,hu7,hur,hus7,hFC7⟩
 refine xx (λσ' G=>∃us qs,σ'=[some (.ref p),some (.int wh),some (.ref pp),some (.ref pm),some (.bl al),some (.int rs),some (.int mn),some (.ref ro),some (.ref ls),z9,none,none,none]/\xu p H G/\zF G ro ow/\G ls=some (.lst us)/\1<=us.length/\us.length<=7/\ERQ G 60 us qs/\FD wh ow qs) ?_ ?_
 rotate_left
 ·intro nx hnx
  have no:nx [some (.ref p),some (.int wh),some (.ref pp),some (.ref pm),some (.bl al),some (.int rs),some (.int mn),some (.ref ro),some (.ref ls),z9,none,none,none] G7:=hnx _ _ ⟨us,qs,rfl,T7,hro7,hls7,by omega,by omega,hus7,hFC7.fd⟩
  refine⟨_,rfl,rfl,_,rfl,qH (λh=>?_) (λh=>xA no)⟩
  refine⟨_,rfl,rfl,_,rfl,qH (λh2=>?_) (λh2=>no)⟩
  have TuL:zT G7 (upd G7 ls (.lst (us++[.ref ro]))):=.upd hls7
  have hw:wh=2:=by simpa using h2
  have hs:rs=1:=by simpa using h
  have:=hur (by omega)
  exact⟨_,rfl,.inl ⟨rfl,_,SqL.of hls7⟩,_,rfl,ls,_,_,rfl,rfl,hls7,xt (by omega),hnx _ _ ⟨us++[.ref ro],_,rfl,T7.put hlsH hlsp _,TuL _ _ hro7,zf,by simp,by simp only[List.length_append,List.length_singleton];omega,(hus7.tups TuL).snoc (TuL _ _ hro7) (zow.mono (by decide)),by subst hw;exact hFC7.rest⟩⟩
 clear hls7 hus7 hu1 hu7 hur hro7 hFC7
 clear qs us
 rintro σ' G8 ⟨us,qs,rfl,T8,hro8,hls8,hu1,hu7,hus8,hFD8⟩
 refine xx (λσ' G=>∃(lw:Addr) (ws:List Int),σ'=[some (.ref p),some (.int wh),some (.ref pp),some (.ref pm),some (.bl al),some (.int rs),some (.int mn),some (.ref ro),some (.ref ls),z9,some (.ref lw),none,none]/\xu p G8 G/\H lw=none/\lw≠p/\lw≠ls/\G lw=some (.lst (ws.map V.int))/\ws.length=us.length/\∀x∈ws,1<=x/\x<=1000) ?_ ?_
 rotate_left
 ·intro nx hnx
  refine⟨_,rfl,ls,rfl,⟨_,.of hls8⟩,λDc hDc=>?_⟩
  have hDp:Dc≠p:=T8.pool.ne hDc
  have hDl:Dc≠ls:=λz=>by rw[z,hls8]at hDc;cases hDc
  refine JZ (js:=[0]) (J:=Itl K ls) (g:=zN 0) (tt:=λ_ H Q=>Q true H) (te:=_) (N:=us.length) (n:=1) (λi G ys=>xu p G8 G/\∃ws:List Int,ys=ws.map V.int/\ws.length=i/\∀x∈ws,1<=x/\x<=1000)
   ⟨⟨T8.pool.new hDc,λb o e _=>zh.upd hDc _ _ e⟩,[],rfl,rfl,λv hv=>by cases hv⟩ (λi G ys hi z=>⟨us,us[i],.of (z.1.keep _ _ hls8 hlsp),List.getElem?_eq_getElem hi⟩) (λG ys z=>⟨us,.of (z.1.keep _ _ hls8 hlsp),Nat.le_refl _⟩) ?_ ?_
  ·rintro i x zs G_ G ys Nx hN hi hz1 ⟨rfl,_⟩ ⟨tG,ws,rfl,hwl,hwv⟩ hGD
   obtain⟨y1,rfl⟩:=jL hz1
   refine⟨rfl,qd ?_⟩
   refine⟨_,rfl,p,_,rfl,by decide,by decide,tG.pool,λd2 G3 a2 b2 t3=>⟨_,_,rfl,rfl,?_⟩⟩
   have h3:=t3.keep _ _ hGD hDp
   refine⟨h3,xt (by simp;omega),hN _ _ ⟨(tG.trans t3).put hDc hDp _,ws++[1+d2],by simp,by simp[hwl],λv hv=>?_⟩⟩
   rcases List.mem_append.mp hv with z | z
   ·exact hwv v z
   ·have:v=1+d2:=by simpa using z
    omega
  ·rintro G ys ⟨tG,ws,rfl,hwl,hwv⟩ hGD
   exact hnx _ _ ⟨Dc,ws,rfl,tG,T8.free hDc,hDp,hDl,hGD,hwl,hwv⟩
 rintro σ' G9 ⟨lw,ws,rfl,T9,hlwH,hlwp,hlwl,hlw9,hwl,hwv⟩
 have T9':=T8.trans T9
 refine xx (λσ' G=>∃(lw:Addr) (ws:List Int),σ'=[some (.ref p),some (.int wh),some (.ref pp),some (.ref pm),some (.bl al),some (.int rs),some (.int mn),some (.ref ro),some (.ref ls),z9,some (.ref lw),none,none]/\xu p G8 G/\H lw=none/\lw≠p/\lw≠ls/\G lw=some (.lst (ws.map V.int))/\ws.length=us.length/\∀x∈ws,1<=x/\x<=1000) ?_ ?_
 rotate_left
 ·intro nx hnx
  refine⟨_,rfl,_,rfl,qH (λh=>?_) (λh=>hnx _ _ ⟨lw,ws,rfl,T9,hlwH,hlwp,hlwl,hlw9,hwl,hwv⟩)⟩
  obtain⟨w0,ew0⟩:∃w0,ws[0]? = some w0:=⟨_,List.getElem?_eq_getElem (by omega)⟩
  have e0:atI (ws.map V.int) 0=some (.int w0):=qf (j:=0) (by rw[List.getElem?_map,ew0];rfl)
  refine⟨_,rfl,lw,_,_,_,rfl,rfl,.of hlw9,e0,by show 1<=sizeLine;decide,λl2 hl2=>?_⟩
  have hlw9':=zh.upd (o:=.lst [.int w0]) hl2 _ _ hlw9
  refine⟨_,rfl,lw,_,rfl,.inl (.of hlw9'),l2,_,_,rfl,rfl,zf,by (first | (simp;omega) | simp),by (first | (simp;omega) | simp),szl (by (first | (simp;omega) | simp)),λl3 hl3=>?_⟩
  have T10:=T9.same ((zh.upd (o:=.lst [.int w0]) hl2).trans (zh.upd (o:=.lst ((List.replicate ((ws.map V.int).length:Int).toNat [V.int w0]).flatten)) hl3))
  have T9a:=T9'.same (zh.upd (o:=.lst [.int w0]) hl2)
  have hls9:=T9.keep _ _ hls8 hlsp
  refine hnx _ _ ⟨l3,List.replicate ws.length w0,rfl,T10,T9a.free hl3,T9a.pool.ne hl3,λz=>?_,?_,by simp[hwl],λx m=>by have:=List.eq_of_mem_replicate m;subst this;exact hwv _ (List.mem_of_getElem? ew0)⟩
  ·have:=zh.upd (o:=.lst [.int w0]) hl2 _ _ hls9
   rw[<-z,hl3]at this;cases this
  ·rw[zf,Qp];simp
 clear hlw9 hwl hwv hlwH hlwp hlwl T9' T9
 rintro σ' G10 ⟨lw,ws,rfl,T10,hlwH,hlwp,hlwl,hlw10,hwl,hwv⟩
 have Tu10:=xN T8.pool T10
 have hls10:=T10.keep _ _ hls8 hlsp
 have hro10:zF G10 ro ow:=Tu10 _ _ hro8
 have hus10:=hus8.tups Tu10
 have T11:=T8.trans T10
 have TuH:zT H G10:=xN hP T11
 refine xx (λσ' G=>∃lr,σ'=[some (.ref p),some (.int wh),some (.ref pp),some (.ref pm),some (.bl al),some (.int rs),some (.int mn),some (.ref ro),some (.ref ls),z9,some (.ref lw),some (.ref lr),none]/\zh G10 G/\G10 lr=none/\G lr=some (.lst [])) ?_ ?_
 rotate_left
 ·intro nx hnx
  exact⟨by show 0<=sizeLine;exact Nat.zero_le _,λlr hlr=>hnx _ _ ⟨lr,rfl,zh.upd hlr,hlr,zf⟩⟩
 rintro σ' G12 ⟨lr,rfl,S12,hlr10,hlr12⟩
 have hlrp:lr≠p:=T11.pool.ne hlr10
 have hlrH:=T11.free hlr10
 have hlrl:ls≠lr:=λz=>by rw[<-z,hls10]at hlr10;cases hlr10
 have hlrw:lw≠lr:=λz=>by rw[<-z,hlw10]at hlr10;cases hlr10
 have T12:=T11.same S12
 refine xx (λσ' G=>∃z9 z12 vs bs,σ'=[some (.ref p),some (.int wh),some (.ref pp),some (.ref pm),some (.bl al),some (.int rs),some (.int mn),some (.ref ro),some (.ref ls),z9,some (.ref lw),some (.ref lr),z12]/\xu p H G/\zT G12 G/\G lr=some (.lst vs)/\zR G vs bs/\bs.length=us.length/\ZB bs/\bs.map (λb=>(b.pl,b.sp))=xK px mm qs) ?_ ?_
 rotate_left
 ·intro nx hnx
  refine⟨_,rfl,ls,us,rfl,S12 _ _ hls10,Z0 (xs:=us) (λi σ G=>∃z9 z12 vs bs,σ=[some (.ref p),some (.int wh),some (.ref pp),some (.ref pm),some (.bl al),some (.int rs),some (.int mn),some (.ref ro),some (.ref ls),z9,some (.ref lw),some (.ref lr),z12]/\xu p H G/\zT G12 G/\G ls=some (.lst us)/\G lw=some (.lst (ws.map V.int))/\G lr=some (.lst vs)/\zR G vs bs/\bs.length=i/\ZB bs/\bs.map (λb=>(b.pl,b.sp))=xK px mm (qs.take i))
   ⟨_,_,[],[],rfl,T12,λ_ _ e=>e,S12 _ _ hls10,S12 _ _ hlw10,hlr12,.nil,rfl,(λ_ m=>by cases m),rfl⟩ (λi σ G ⟨_,_,_,_,_,_,_,z,_⟩=>.of z) ?_ ?_⟩
  ·rintro i x σ G Tt hx ⟨z9,z12,vs,bs,rfl,TG,TuG,hlsG,hlwG,hlrG,hB,hbl,hZ,hLn⟩ hTt
   have sT:zh G (upd G Tt (.tup [.int i,x])):=zh.upd hTt
   have hTT:upd G Tt (.tup [.int i,x]) Tt=some (.tup [.int i,x]):=zf
   generalize upd G Tt (.tup [.int i,x])=G1 at sT hTT
   have hi7:i<us.length:=(List.getElem?_eq_some_iff.mp hx).1
   obtain⟨r,q,rfl,eq,hrq⟩:=hus10.at' i x hx
   have zq:=hus10.sz q (List.mem_of_getElem? eq)
   obtain⟨wt,ewt⟩:∃wt,ws[i]? = some wt:=⟨_,List.getElem?_eq_getElem (by omega)⟩
   have hwt:=hwv wt (List.mem_of_getElem? ewt)
   have eat:atI (ws.map V.int) (i:Int)=some (.int wt):=qf (by rw[List.getElem?_map,ewt];rfl)
   have hr1:zF G1 r q:=sT _ _ (TuG _ _ (S12 _ _ hrq))
   have hpm1:zF G1 pm mm:=sT _ _ (TuG _ _ (S12 _ _ (TuH _ _ hpm)))
   have hpp1:zF G1 pp px:=sT _ _ (TuG _ _ (S12 _ _ (TuH _ _ hpp)))
   refine⟨Tt,_,rfl,.of hTT,rfl,_,_,rfl,_,_,rfl,rfl,?_⟩
   refine⟨_,rfl,.inl ⟨rfl,_,SqL.of (sT _ _ hlrG)⟩,_,rfl,_,rfl,_,rfl,r,pm,q,mm,rfl,hr1,hpm1,⟨zq.mono (by decide),zpm.mono (by decide)⟩,λr2 G2 e2 h2=>?_⟩
   have zqm:=zq.mul zpm
   refine⟨pp,r2,px,_,rfl,e2 _ _ hpp1,h2,⟨zpp.mono (by decide),zqm.mono (by decide)⟩,λr3 G3 e3 h3=>?_⟩
   have S3:=sT.trans (e2.trans e3)
   have hlw3:=S3 _ _ hlwG
   refine⟨_,rfl,_,rfl,_,rfl,lw,_,_,_,rfl,rfl,.of hlw3,eat,by show 3<=sizeLine;decide,λt ht=>?_⟩
   have hlr4:=zh.upd (o:=.tup [.ref r3,.ref r,.int wt]) ht _ _ (S3 _ _ hlrG)
   refine⟨lr,vs,_,rfl,rfl,hlr4,xt (by rw[hB.length];omega),?_⟩
   have Tu:zT G3 (upd (upd G3 t (.tup [.ref r3,.ref r,.int wt])) lr (.lst (vs++[.ref t]))):=(zT.of (zh.upd ht)).trans (.upd hlr4)
   have TuA:zT G (upd (upd G3 t (.tup [.ref r3,.ref r,.int wt])) lr (.lst (vs++[.ref t]))):=(zT.of S3).trans Tu
   refine⟨_,_,vs++[.ref t],bs++[⟨px - q*mm,q,wt⟩],rfl,((TG.same S3).same (zh.upd ht)).put hlrH hlrp _,TuG.trans TuA,?_,?_,zf,?_,by simp[hbl],?_,?_⟩
   ·rw[zB hlrl];exact zh.upd ht _ _ (S3 _ _ hlsG)
   ·rw[zB hlrw];exact zh.upd ht _ _ hlw3
   ·exact zR.append (.one (b:=⟨px - q*mm,q,wt⟩) (zT.upd hlr4 _ _ zf) (Tu _ _ h3) (Tu _ _ ((e2.trans e3) _ _ hr1))) (hB.mono TuA)
   ·intro b mb
    rcases List.mem_append.mp mb with z | z
    ·exact hZ b z
    ·have:b = ⟨px - q*mm,q,wt⟩:=by simpa using z
     subst this
     exact⟨(Sz.sub zpp zqm).mono (by decide),zq.mono (by decide),hwt⟩
   ·rw[List.map_append,hLn,List.take_add_one,eq];simp[xK]
  ·rintro σ G ⟨z9,z12,vs,bs,rfl,TG,TuG,hlsG,hlwG,hlrG,hB,hbl,hZ,hLn⟩
   rw[List.take_of_length_le (by rw[<-hus10.len];omega)]at hLn
   exact hnx _ _ ⟨z9,z12,vs,bs,rfl,TG,TuG,hlrG,hB,hbl,hZ,hLn⟩
 rintro σ' G13 ⟨z9',z12,vs,bs,rfl,T13,Tu13,hlr13,hB,hbl,hZ,hLn⟩
 have hro13:zF G13 ro ow:=Tu13 _ _ (S12 _ _ hro10)
 have hpm13:zF G13 pm mm:=Tu13 _ _ (S12 _ _ (TuH _ _ hpm))
 have hpp13:zF G13 pp px:=Tu13 _ _ (S12 _ _ (TuH _ _ hpp))
 refine⟨_,rfl,lr,vs,rfl,.inl ⟨.of hlr13,λr hr'=>?_⟩⟩
 have S14:zh G13 (upd G13 r (.tup vs)):=zh.upd hr'
 have hr14:upd G13 r (.tup vs) r=some (.tup vs):=zf
 generalize upd G13 r (.tup vs)=G14 at S14 hr14
 refine⟨_,rfl,_,rfl,_,rfl,ro,pm,ow,mm,rfl,S14 _ _ hro13,S14 _ _ hpm13,⟨zow.mono (by decide),zpm.mono (by decide)⟩,λr2 G15 e15 h2=>?_⟩
 have zom:=zow.mul zpm
 refine⟨pp,r2,px,_,rfl,e15 _ _ (S14 _ _ hpp13),h2,⟨zpp.mono (by decide),zom.mono (by decide)⟩,λr3 G16 e16 h3=>?_⟩
 have S16:=e15.trans e16
 refine⟨_,rfl,by show 2<=sizeLine;decide,λwl hwl'=>⟨by show 2<=sizeLine;decide,λt ht=>?_⟩⟩
 have S17:=S16.trans ((zh.upd (o:=.tup [.ref r3,.ref ro]) hwl').trans (zh.upd (o:=.tup [.ref r,.ref wl]) ht))
 have S17':zh G16 _:=(zh.upd (o:=.tup [.ref r3,.ref ro]) hwl').trans (zh.upd (o:=.tup [.ref r,.ref wl]) ht)
 exact k t r wl vs bs r3 ro _ ow _ (T13.same (S14.trans S17)) zf (S17 _ _ hr14) (hB.same (S14.trans S17)) hZ (by omega) (by omega) (zh.upd ht _ _ zf) (S17' _ _ h3) (S17 _ _ (S14 _ _ hro13)) ((Sz.sub zpp zom).mono (by decide)) (zow.mono (by decide)) ⟨qs,hLn,hFD8,rfl,yowa,yowb⟩
end
end KK
end
section
set_option maxHeartbeats 8000000
set_option Elab.async false
set_option linter.all false
set_option maxRecDepth 100000
namespace KK
open PySem L2 KM
theorem zdZ {d:Int}(h0:0<=d) (h1:d<3):∃v:Int,atI [V.int 1,.int 2,.int 3] d=some (.int v)/\1<=v/\v<=3:=by
 have:d=0\/d=1\/d=2:=by omega
 rcases this with rfl | rfl | rfl
 all_goals exact⟨_,rfl,by decide,by decide⟩
theorem zaa {bs:List zV}{pl m:Rat}{qs:List Rat}(h:bs.map (λb=>(b.pl,b.sp))=xK pl m qs) (pw:qs.Pairwise (· > ·)) (hm:0<m) (z:ZB bs):zdx bs:=by
 refine⟨λb mb=>⟨(z b mb).2.2.1,(z b mb).2.2.2⟩,λb mb=>⟨(z b mb).1,(z b mb).2.1⟩,?_⟩
 have h1:(xK pl m qs).Pairwise (λa b=>a.1<b.1):=by
  unfold xK
  rw[List.pairwise_map]
  refine pw.imp λ{a b} lt=>?_
  have:=Rat.mul_lt_mul_of_pos_right (show b<a from lt) hm
  show pl - a*m<pl - b*m
  grind
 rw[<-h,List.pairwise_map]at h1
 exact h1.imp λ{a b} lt=>.inl lt
theorem jO {bs:List zV}{pl m:Rat}{qs:List Rat}(h:bs.map (λb=>(b.pl,b.sp))=xK pl m qs){b:zV}(mb:b∈bs):b.sp∈qs/\b.pl=pl - b.sp*m:=by
 have:(b.pl,b.sp)∈xK pl m qs:=by rw[<-h];exact List.mem_map.mpr ⟨b,mb,rfl⟩
 unfold xK at this
 obtain⟨q,mq,e⟩:=List.mem_map.mp this
 simp only[Prod.mk.injEq]at e
 obtain⟨e1,e2⟩:=e
 subst e2
 exact⟨mq,e1.symm⟩
theorem QS {a b m:Rat}(h:a<=b) (hm:0<m):a*m<=b*m:=Rat.mul_le_mul_of_nonneg_right h (Rat.le_of_lt hm)
theorem Ji {a b m:Rat}(h:a*m=b*m) (hm:0<m):a=b:=by
 have:m≠0:=by grind
 grind
theorem zdD {bs:List zV}:Box bs none none:=⟨λx y e=>by (cases e),λx y e=>by (cases e),λx y b e=>by (cases e),λx y cs b e=>by (cases e),λx y x' y' e=>by (cases e)⟩
theorem zdC {bs:List zV}{pl m ow:Rat}{qs:List Rat}(h:bs.map (λb=>(b.pl,b.sp))=xK pl m qs) (hm:0<m) (hq:∀q∈qs,q<=ow) (z1:Sz 300 (pl - ow*m)) (z2:Sz 80 ow):Box bs (some (pl - ow*m,ow)) none:=by
 refine⟨λx y e=>by cases e;exact⟨z1.mono (by decide),z2⟩,(λx y e=>by cases e),λx y b e eb=>?_,(λx y cs b e=>by cases e),(λx y x' y' _ e=>by cases e)⟩
 cases e
 obtain⟨m1,e1⟩:=jO h (List.mem_of_getElem? eb)
 have le:=QS (hq _ m1) hm
 refine⟨by rw[e1];grind,λe2=>?_⟩
 have:ow*m=b.sp*m:=by rw[e1]at e2;grind
 rw[Ji this hm];grind
theorem zdB {bs:List zV}{pl m ow:Rat}{qs:List Rat}(h:bs.map (λb=>(b.pl,b.sp))=xK pl m qs) (hm:0<m) (hq:∀q∈qs,ow<=q) (z1:Sz 300 (pl - ow*m)) (z2:Sz 80 ow):Box bs none (some (pl - ow*m,ow)):=by
 refine⟨(λx y e=>by cases e),λx y e=>by cases e;exact⟨z1.mono (by decide),z2⟩,(λx y b e=>by cases e),λx y cs b e eb=>?_,(λx y x' y' e=>by cases e)⟩
 cases e
 obtain⟨m1,e1⟩:=jO h (show b∈bs by rw[eb];simp)
 have le:=QS (hq _ m1) hm
 refine⟨by rw[e1];grind,λe2=>?_⟩
 have:ow*m=b.sp*m:=by rw[e1]at e2;grind
 rw[Ji this hm];grind
def FoR (bs:List zV) (l1 l2:Wl):Prop:=∃pl m z qs wh,bs.map (λb=>(b.pl,b.sp))=xK pl m qs/\0<m/\FD wh z qs/\((wh=0/\l1=none/\l2=none)\/(wh=1/\l1=some (pl - z*m,z)/\l2=none)\/(wh=2/\l1=none/\l2=some (pl - z*m,z)))
def StK (p:Addr) (H:Hp) (Q:VK):Prop:=∀t r ws us bs v1 v2 l1 l2 H',xu p H H'->H' t=some (.tup [.ref r,.ref ws])->H' r=some (.tup us)->zR H' us bs->zdx bs->1<=bs.length->bs.length<=8->H' ws=some (.tup [v1,v2])->xp H' v1 l1->xp H' v2 l2->Box bs l1 l2->FoR bs l1 l2->Q (.ref t) H'
section
variable {P:Program}{w:World}{K:PySem.W.Frag}{mg:Str->Option Value}{base:Heap}
def zfP:Sp:=λvs H Q _=>∃(p:Addr) (al:Bool),vs=[.ref p,.bl al]/\jz H p/\StK p H Q
theorem XV:zG ["pool","alike","moment","where","row","wall","walls"] ["pool","alike"] (zg x5):=⟨rfl,rfl,rfl,by decide +kernel,rfl,by decide +kernel,by decide +kernel⟩
theorem ze4 (D:Df K mg "_law_focused" x5 ["pool","alike"] []) (T:TxB K mg) (cN:Cal P w K mg base "_law_next" 1 ["pool","base"] [] Zk) (cRa:Cal P w K mg base "_law_ratio" 3 ["pool","size"] [] zfW)
  (cL:Cal P w K mg base "_law_low" 1 ["top","bottom"] [] vj) (cBu:Cal P w K mg base "_law_bundle" 3 ["pool","where","place","moment","alike"] [] zfK):Cal P w K mg base "_law_focused" 4 ["pool","alike"] [] zfP:=by
 refine D.calB (k:=3) XV (λvs H Q E h=>by obtain⟨_,_,rfl,_⟩:=h;rfl) (λf cdv A outer s H vs Q E hr h=>?_)
 obtain⟨p,al,rfl,hP,k⟩:=h
 have hr1:xi 1 _:=hr.mono (by decide)
 refine⟨_,(zD (ZX (i:=2) XV.nd rfl (Or.inl rfl) (Bx.mk (zP cL hr1 (za (zA xa zd (zP cN hr1 (za (pv 0) (za zd ze)))) (za (zr xw (xB (za zd (za zd (za zd ze)))) (zP cN hr1 (za (pv 0) (za zd ze))) (λ_ _=>rfl)) ze)))))
  (zD (Bx.mk (zL (i:=3) XV.nd rfl (Or.inl rfl) (zP cN hr1 (za (pv 0) (za zd ze)))))
  (zD (Bx.mk (qJ (zP cBu hr (za (pv 0) (za (pv 3) (za (zP cRa hr (za (pv 0) (za zd ze))) (za (pv 2) (za (pv 1) ze)))))) (vH rfl (zQ (zK (i:=4) XV.nd rfl (Or.inl rfl)) (zQ (zK (i:=5) XV.nd rfl (Or.inl rfl)) xJ)))))
  (zD (ZX (i:=6) XV.nd rfl (Or.inl rfl) (X9 (xh (Bx.mk zX) (xh (Bx.mk zX) j5))))
  (zD (Bx.mk (xk (zI Xf (pv 3) zd (zJ _)) (zi (qJ (pv 5) (Xh (pv 6) (zA qj (pv 3) zd) jt))) zS))
  (Bx.mk (zi (zM (xv (za (pv 4) (za (qx vc (by rfl) T.nTuple PyProof.Rows.boot_tuple (za (pv 6) ze)) ze))))))))))),?_⟩
 refine xx (λσ' G=>∃rm mm,σ'=[some (.ref p),some (.bl al),some (.ref rm),none,none,none,none]/\xu p H G/\zF G rm mm/\Sz 5 mm/\0<mm) ?_ ?_
 rotate_left
 ·intro nx hnx
  refine⟨_,rfl,p,_,rfl,by decide,by decide,hP,λd1 G1 a1 b1 t1=>⟨_,_,rfl,rfl,by show 3<=sizeLine;decide,λl1 hl1=>?_⟩⟩
  refine⟨_,rfl,p,_,rfl,by decide,by decide,t1.pool.new hl1,λd2 G2 a2 b2 t2=>?_⟩
  obtain⟨v,ev,v0,v1⟩:=zdZ a2 b2
  refine⟨l1,_,_,_,rfl,rfl,.of (t2.keep l1 _ zf (t1.pool.ne hl1)),ev,?_⟩
  exact⟨_,_,rfl,by omega,Bd.mono (m:=5) (bdn (by omega) (by omega)) (by decide),λr H' e h=>hnx _ _ ⟨r,_,rfl,(t1.trans (t2.pre (zh.upd hl1))).same e,h,zex (by omega) (by omega) (by omega) (by omega),by rw[<-Rat.zero_divInt v];exact(j8 (by omega)).mpr (by omega)⟩⟩
 rintro σ' G1 ⟨rm,mm,rfl,T1,hrm,zmm,pmm⟩
 refine⟨_,rfl,p,_,rfl,by decide,by decide,T1.pool,λwh G2 w0 w3 t2=>?_⟩
 have T2:=T1.trans t2
 refine⟨_,rfl,_,rfl,_,rfl,p,_,rfl,by decide,by decide,T2.pool,λrp px G3 t3 hrp zrp=>?_⟩
 have T3:=T2.trans t3
 have hrm3:zF G3 rm mm:=xN T2.pool t3 _ _ (xN T1.pool t2 _ _ hrm)
 refine⟨_,rfl,_,rfl,p,rp,rm,wh,al,px,mm,rfl,w0,by omega,hrp,zrp,hrm3,zmm,T3.pool,λt r wl us bs ra rb y z G4 t4 ht hrr hB hZ h1 h8 hwl hra hrb zy zz hln=>?_⟩
 obtain⟨qs,hL,hFD,rfl,_,_⟩:=hln
 have hG:=zaa hL hFD.1 pmm hZ
 have T4:=T3.trans t4
 refine⟨t,_,rfl,.of ht,rfl,_,_,rfl,_,_,rfl,rfl,?_⟩
 refine⟨by show 2<=sizeLine;decide,λlw hlw=>?_⟩
 have hlwH:=T4.free hlw
 have hlwp:=T4.pool.ne hlw
 have Tu5:zT G4 (upd G4 lw (.lst [.non,.non])):=.of (zh.upd hlw)
 have hlw5:upd G4 lw (.lst [.non,.non]) lw=some (.lst [.non,.non]):=zf
 have T5:=T4.same (zh.upd (o:=.lst [.non,.non]) hlw)
 generalize upd G4 lw (.lst [.non,.non])=G5 at *
 dsimp only[zN]
 refine xx (λσ' G=>∃v1 v2 l1 l2,σ'=[some (.ref p),some (.bl al),some (.ref rm),some (.int wh),some (.ref r),some (.ref wl),some (.ref lw)]/\xu p H G/\zT G4 G/\G lw=some (.lst [v1,v2])/\xp G v1 l1/\xp G v2 l2/\Box bs l1 l2/\FoR bs l1 l2) ?_ ?_
 rotate_left
 ·intro nx hnx
  refine⟨_,rfl,_,_,rfl,rfl,_,rfl,qH (λh=>?_) (λh=>hnx _ _ ⟨.non,.non,none,none,rfl,T5,Tu5,hlw5,rfl,rfl,zdD,px,mm,z,qs,wh,hL,pmm,hFD,.inl ⟨by have:¬ 0<wh:=λz=>h (decide_eq_true z);omega,rfl,rfl⟩⟩)⟩
  have hw:wh=1\/wh=2:=by have:0<wh:=of_decide_eq_true h
                         omega
  have wa:∀G,zT G4 G->xp G (.ref wl) (some (px - z*mm,z)):=λG e=>⟨wl,ra,rb,rfl,e _ _ hwl,e _ _ hra,e _ _ hrb⟩
  have TuL:∀xs,zT G5 (upd G5 lw (.lst xs)):=λxs=>.upd hlw5
  rcases hw with rfl | rfl
  ·exact⟨_,rfl,_,rfl,_,rfl,_,_,rfl,rfl,lw,_,_,0,rfl,rfl,hlw5,rfl,hnx _ _ ⟨.ref wl,.non,some (px - z*mm,z),none,rfl,T5.put hlwH hlwp _,Tu5.trans (TuL _),zf,wa _ (Tu5.trans (TuL _)),rfl,zdC hL pmm (hFD.2.1 rfl) zy zz,px,mm,z,qs,1,hL,pmm,hFD,.inr (.inl ⟨rfl,rfl,rfl⟩)⟩⟩
  ·exact⟨_,rfl,_,rfl,_,rfl,_,_,rfl,rfl,lw,_,_,1,rfl,rfl,hlw5,rfl,hnx _ _ ⟨.non,.ref wl,none,some (px - z*mm,z),rfl,T5.put hlwH hlwp _,Tu5.trans (TuL _),zf,rfl,wa _ (Tu5.trans (TuL _)),zdB hL pmm (hFD.2.2.1 rfl) zy zz,px,mm,z,qs,2,hL,pmm,hFD,.inr (.inr ⟨rfl,rfl,rfl⟩)⟩⟩
 rintro σ' G6 ⟨v1,v2,l1,l2,rfl,T6,Tu6,hlw6,hv1,hv2,hBx,hFo⟩
 refine⟨_,rfl,_,rfl,lw,_,rfl,.inl ⟨.of hlw6,λws hws=>⟨by show 2<=sizeLine;decide,λtt htt=>?_⟩⟩⟩
 have S:=(zh.upd (o:=.tup [v1,v2]) hws).trans (zh.upd (o:=.tup [.ref r,.ref ws]) htt)
 exact k tt r ws us bs v1 v2 l1 l2 _ (T6.same S) zf (S _ _ (Tu6 _ _ hrr)) ((hB.mono Tu6).same S) hG h1 h8 (zh.upd htt _ _ zf) (hv1.tups (.of S)) (hv2.tups (.of S)) hBx hFo
end
end KK
end
section
set_option maxHeartbeats 4000000
set_option Elab.async false
set_option linter.all false
set_option maxRecDepth 100000
namespace KQ
open PySem L2 KM KK
theorem ZM {X:Cx}{es:List Expr}{k:Nat}{pos:Pos}{t:TGs}{n:Nat}{K:PySem.W.Frag}(hK:X.K=K) (hc:X.calm=true) (h:PGs X es t)
  (hn:(assignEach es X.env).length=n:=by rfl) (hst:(assignEach es X.env).findIdx? (·.1)=none:=by rfl):PG X (.Tuple es k pos) (J4 K n t):=by subst hK;exact vH hc h hn hst
theorem ve {X:Cx}{K:PySem.W.Frag}(hK:X.K=K):IxR X (jA K):=by subst hK;exact zk
theorem zaY {X:Cx}{K:PySem.W.Frag}(hK:X.K=K):IxR X (zfy K):=by subst hK;exact xw
section
variable {P:Program}{w:World}{K:PySem.W.Frag}{mg:Str->Option Value}{base:Heap}
theorem zac (x y:Rat):Rat.divInt (x.num*y.den - y.num*x.den) (x.den*y.den)=x - y:=by
 exact KM.Xb x y
theorem zbu:zG ["one","other"] ["one","other"] (zg jx):=⟨rfl,rfl,rfl,by decide +kernel,rfl,by decide +kernel,by decide +kernel⟩
theorem zba (D:Df K mg "minus" jx ["one","other"] []) (c:Cal P w K mg base "ratio" 2 ["top","bottom"] [] vj):Cal P w K mg base "minus" 3 ["one","other"] [] (vK Sz2 (· - ·)):=by
 refine D.cal (k:=2) zbu (λvs H Q E h=>by obtain⟨_,_,_,_,rfl,_⟩:=h;rfl) (λf cdv A outer s H vs Q E hr h=>?_)
 obtain⟨p,q,x,y,rfl,hp,hq,⟨hx,hy⟩,k⟩:=h
 have bx:=Bd4 hx
 have b_y:=Bd4 hy
 refine⟨_,zi (zM (zP c hr (za (zA qj (zA zO (zr zk (pv 0) zd (λ_ _=>rfl)) (zr zk (pv 1) zd (λ_ _=>rfl))) (zA zO (zr zk (pv 1) zd (λ_ _=>rfl)) (zr zk (pv 0) zd (λ_ _=>rfl))))
  (za (zA zO (zr zk (pv 0) zd (λ_ _=>rfl)) (zr zk (pv 1) zd (λ_ _=>rfl))) ze)))),?_⟩
 refine⟨_,rfl,p,_,_,_,rfl,rfl,.of hp,at0 ..,_,rfl,q,_,_,_,rfl,rfl,.of hq,at1 ..,_,_,rfl,rfl,⟨bx.1,b_y.2⟩,_,rfl,q,_,_,_,rfl,rfl,.of hq,at0 ..,_,rfl,p,_,_,_,rfl,rfl,.of hp,at1 ..,_,_,rfl,rfl,⟨b_y.1,bx.2⟩,_,_,rfl,rfl,?_⟩
 refine⟨_,rfl,p,_,_,_,rfl,rfl,.of hp,at1 ..,_,rfl,q,_,_,_,rfl,rfl,.of hq,at1 ..,_,_,rfl,rfl,⟨bx.2,b_y.2⟩,?_⟩
 refine⟨_,_,rfl,Int.mul_ne_zero (xH x) (xH y),(hx.2.mul hy.2).mono (by decide),λr H' e h=>k r H' e ?_⟩
 show zF H' r (x - y)
 rw[<-zac];exact h
def zbB:Sp:=λvs H Q _=>∃p q a b c d,vs=[.ref p,.ref q]/\H p=some (.tup [.int a,.int b])/\H q=some (.tup [.int c,.int d])/\Bd 8900 a/\Bd 8900 b/\Bd 8900 c/\Bd 8900 d/\Q (.bl (decide (a*d<c*b))) H
theorem zcK:zG ["one","other"] ["one","other"] (zg Zf):=⟨rfl,rfl,rfl,by decide +kernel,rfl,by decide +kernel,by decide +kernel⟩
theorem Bd9 {i:Int}(h:Bd 8900 i):Bd 1000000 i:=h.mono (by decide)
theorem zcn (D:Df K mg "less" Zf ["one","other"] []):Cal P w K mg base "less" 1 ["one","other"] [] zbB:=by
 refine D.cal (k:=0) zcK (λvs H Q E h=>by obtain⟨_,_,_,_,_,_,rfl,_⟩:=h;rfl) (λf cdv A outer s H vs Q E hr h=>?_)
 obtain⟨p,q,a,b,c,d,rfl,hp,hq,ha,hb,hc,hd,k⟩:=h
 refine⟨_,zi (zM (vQ jP (zA zO (zr zk (pv 0) zd (λ_ _=>rfl)) (zr zk (pv 1) zd (λ_ _=>rfl))) (zA zO (zr zk (pv 1) zd (λ_ _=>rfl)) (zr zk (pv 0) zd (λ_ _=>rfl))) (zJ _))),?_⟩
 refine⟨_,rfl,p,_,_,_,rfl,rfl,.of hp,at0 ..,_,rfl,q,_,_,_,rfl,rfl,.of hq,at1 ..,_,_,rfl,rfl,⟨Bd9 ha,Bd9 hd⟩,?_⟩
 refine⟨_,rfl,q,_,_,_,rfl,rfl,.of hq,at0 ..,_,rfl,p,_,_,_,rfl,rfl,.of hp,at1 ..,_,_,rfl,rfl,⟨Bd9 hc,Bd9 hb⟩,_,_,rfl,rfl,?_⟩
 exact k
theorem Z9 (x y:Rat):decide (x.num*(y.den:Int)<y.num*(x.den:Int))=decide (x<y):=by
 by_cases h:x<y
 ·rw[decide_eq_true h,decide_eq_true ((KM.jM x y).mpr h)]
 ·rw[decide_eq_false h,decide_eq_false λz=>h ((KM.jM x y).mp z)]
def vY (ks:List Int):Int:=ks.foldl (λc n=>c/(Int.gcd c n:Int)*n) 1
theorem Z8 {c n:Int}(hc:0<c) (hn:0<n):0<c/(Int.gcd c n:Int)*n:=by
 refine Int.mul_pos ?_ hn
 have hg:0<(Int.gcd c n:Int):=by have:=Int.gcd_pos_of_ne_zero_left n (a:=c) (by omega);omega
 exact Int.ediv_pos_of_pos_of_dvd hc (by omega) (Int.gcd_dvd_left c n)
theorem zdX {c n:Int}(hc:0<c) (hn:0<n):c/(Int.gcd c n:Int)*n<=c*n:=by
 have hg:0<(Int.gcd c n:Int):=by have:=Int.gcd_pos_of_ne_zero_left n (a:=c) (by omega);omega
 exact Int.mul_le_mul_of_nonneg_right (Int.ediv_le_self _ (by omega)) (by omega)
theorem zaA {m n:Nat}{c k:Int}(hc:0<c) (hk:0<k) (h:Bd m c) (h':Bd n k):Bd (m+n) (c/(Int.gcd c k:Int)*k) :=
 (h.mul h').of_le (by have:=zdX hc hk;have:=Z8 hc hk;omega)
def Pos (n:Nat) (ks:List Int):Prop:=∀k∈ks,0<k/\Bd n k
def zdq:Sp:=λvs H Q _=>∃p ks,vs=[.ref p]/\H p=some (.lst (ks.map V.int))/\Pos 400 ks/\ks.length<=20/\Q (.int (vY ks)) H
theorem Qq:zG ["numbers","common","number"] ["numbers"] (zg xy):=⟨rfl,rfl,rfl,by decide +kernel,rfl,by decide +kernel,by decide +kernel⟩
theorem zd9 (D:Df K mg "least_multiple" xy ["numbers"] []) (cG:Cal P w K mg base "greatest_divisor" 1 ["one","other"] [] JH):Cal P w K mg base "least_multiple" 2 ["numbers"] [] zdq:=by
 refine D.cal (k:=1) Qq (λvs H Q E h=>by obtain⟨_,_,rfl,_⟩:=h;rfl) (λf cdv A outer s H vs Q E hr h=>?_)
 obtain⟨p,ks,rfl,hp,hk,hl,k⟩:=h
 refine⟨_,(zj (zL (i:=1) Qq.nd rfl (Or.inl rfl) zd)
  (zj (vI PassesOwn.never rfl (xS (pv 0)) (zK (i:=2) Qq.nd rfl (Or.inl rfl)) (zi (zL (i:=1) Qq.nd rfl (Or.inl rfl) (zA zO (zA qi (pv 1) (zP cG hr (za (pv 1) (za (pv 2) ze)))) (pv 2)))))
  (zi (zM (pv 1))))),?_⟩
 refine⟨_,rfl,p,rfl,⟨_,SqL.of hp⟩,jJ (xs:=ks.map V.int) (λi σ H1=>H1=H/\∃z,σ=[some (.ref p),some (.int (vY (ks.take i))),z]/\0<vY (ks.take i)/\Bd (1+400*i) (vY (ks.take i))) ⟨rfl,none,rfl,(by show (0:Int)<1;decide),(show (1:Int).natAbs<2^1 by decide)⟩ ?_ ?_ ?_⟩
 ·rintro i σ H1 _ ⟨rfl,_⟩;exact .of hp
 ·rintro i x σ H1 hx ⟨rfl,z,rfl,h1,h2⟩
  have hi:i<ks.length:=by
   have:=(List.getElem?_eq_some_iff.mp hx).1
   simpa using this
  obtain⟨n,hn,rfl⟩:∃n,ks[i]? = some n/\V.int n=x:=by simpa using hx
  have hn':=hk n (List.mem_of_getElem? hn)
  have et:vY (ks.take (i+1))=vY (ks.take i)/(Int.gcd (vY (ks.take i)) n:Int)*n:=by
   rw[List.take_add_one,hn];simp[vY,List.foldl_append]
  have hg:0<(Int.gcd (vY (ks.take i)) n:Int):=by have:=Int.gcd_pos_of_ne_zero_left n (a:=vY (ks.take i)) (by omega);omega
  have b1:Bd 8900 (vY (ks.take i)):=h2.mono (by omega)
  have hgb:Bd 8900 (Int.gcd (vY (ks.take i)) n:Int):=b1.of_le (by have:=Int.le_of_dvd h1 (Int.gcd_dvd_left (vY (ks.take i)) n);omega)
  have hq:Bd 8900 ((vY (ks.take i)).fdiv (Int.gcd (vY (ks.take i)) n:Int)):=by
   rw[Int.fdiv_eq_ediv_of_nonneg _ (by omega)]
   exact b1.of_le (by have:=Int.ediv_le_self (Int.gcd (vY (ks.take i)) n:Int) (a:=vY (ks.take i)) (by omega);have:=Int.ediv_nonneg (a:=vY (ks.take i)) (b:=(Int.gcd (vY (ks.take i)) n:Int)) (by omega) (by omega);omega)
  refine⟨_,rfl,_,rfl,_,rfl,⟨_,_,rfl,by omega,by omega,?_⟩⟩
  refine⟨_,_,rfl,rfl,⟨by omega,hgb⟩,_,rfl,_,_,rfl,rfl,⟨Bd9 hq,hn'.2.mono (by decide)⟩,?_⟩
  refine⟨rfl,some (.int n),?_,?_,?_⟩
  ·rw[et,<-Int.fdiv_eq_ediv_of_nonneg _ (by omega)];rfl
  ·rw[et];exact Z8 h1 hn'.1
  ·rw[et];exact(zaA h1 hn'.1 h2 hn'.2).mono (by omega)
 ·rintro σ H1 ⟨rfl,z,rfl,_⟩
  refine⟨_,rfl,?_⟩
  rw[List.length_map,List.take_length];exact k
end
end KQ
end
section
set_option maxHeartbeats 4000000
set_option Elab.async false
set_option linter.all false
set_option maxRecDepth 100000
namespace KQ
open PySem L2 KM KK
def zc6 (H:Hp) (us:List V) (qs:List Rat):Prop:=us.length=qs.length/\∀(i:Nat) (v:V),us[i]? = some v->∃a q,v=V.ref a/\qs[i]? = some q/\zF H a q
theorem zaN {α:Type}{f:α->V}{ys:List V}{qs:List α}(h:ys.length=qs.length) (k:∀(i:Nat) (v:V),ys[i]? = some v->∃q,qs[i]? = some q/\v=f q):ys=qs.map f:=by
 refine List.ext_getElem? λi=>?_
 by_cases hi:i<ys.length
 ·obtain⟨q,e1,e2⟩:=k i ys[i] (by simp[hi])
  rw[List.getElem?_map,e1,List.getElem?_eq_getElem hi,e2];rfl
 ·rw[List.getElem?_eq_none (by omega),List.getElem?_eq_none (by rw[List.length_map];omega)]
theorem zeT {σ:St}(h:σ.length=2):∃a b,σ=[a,b]:=by
 match σ,h with
 | [a,b],_=>exact⟨a,b,rfl⟩
theorem jL {σ:St}(h:σ.length=1):∃a,σ=[a]:=by
 match σ,h with
 | [a],_=>exact⟨a,rfl⟩
theorem vg {n:Nat}(h:n<=20):n<sizeLine:=Nat.lt_of_le_of_lt h (by decide)
section
variable {P:Program}{w:World}{K:PySem.W.Frag}{mg:Str->Option Value}{base:Heap}
def Qg (qs:List Rat):Int:=vY (qs.map λq=>(q.den:Int))
def zfL:Sp:=λvs H Q _=>∃p us qs,vs=[.ref p]/\H p=some (.lst us)/\zc6 H us qs/\(∀q∈qs,Bd 400 (q.den:Int))/\qs.length<=20/\∀H',zh H H'->Q (.int (Qg qs)) H'
theorem zfB:zG ["ratios"] ["ratios"] (zg xD):=⟨rfl,rfl,rfl,by decide +kernel,rfl,by decide +kernel,by decide +kernel⟩
theorem zeZ (D:Df K mg "common_bottom" xD ["ratios"] []) (cL:Cal P w K mg base "least_multiple" 2 ["numbers"] [] zdq):Cal P w K mg base "common_bottom" 3 ["ratios"] [] zfL:=by
 refine D.cal (k:=2) zfB (λvs H Q E h=>by obtain⟨_,_,_,rfl,_⟩:=h;rfl) (λf cdv A outer s H vs Q E hr h=>?_)
 obtain⟨p,us,qs,rfl,hp,hR,hb,hl,k⟩:=h
 refine⟨_,(zi (zM (zP cL hr (za (jQ (NB:=["top","bottom"]) rfl (by decide +kernel) (by decide +kernel) rfl (by decide +kernel) (xS (pv 0)) (by intro _ _ _;refine⟨?_,?_,?_⟩;(exact(ZM (K:=K) (n:=2) rfl rfl (zQ (zK (i:=0) (show List.Nodup (["top","bottom"]:List Str) by decide +kernel) rfl (Or.inl rfl)) (zQ (zK (i:=1) (show List.Nodup (["top","bottom"]:List Str) by decide +kernel) rfl (Or.inl rfl)) xJ))));(exact qg);(exact(pv 1)))) ze)))),?_⟩
 refine⟨_,rfl,p,rfl,⟨_,SqL.of hp⟩,λDa hD=>?_⟩
 refine j6 (J:=Itl K p) (n:=2) (g:=J4 K 2 (jK (zN 0) (jK (zN 1) zaR))) (te:=xQ 1) (xs:=us) (λi v _=>∃q:Rat,qs[i]? = some q/\v = .int (q.den:Int)) (λ_ _ _ _ _ z=>z) hD (xW hp) (vg (by rw[hR.1];exact hl)) ?_ ?_
 ·intro i x zs H2 Q' hx hz s2 hk
  obtain⟨a,q,rfl,hq,ha⟩:=hR.2 i x hx
  obtain⟨z1,z2,rfl⟩:=zeT hz
  exact⟨a,_,rfl,SqT.of (s2 _ _ ha),rfl,_,_,rfl,_,_,rfl,rfl,_,rfl,hk _ _ (zh.refl _) ⟨q,hq,rfl⟩⟩
 ·intro ys H' s' hy hyl hyR
  have e:=zaN (f:=λq:Rat=>V.int (q.den:Int)) (hyl.trans hR.1) hyR
  refine⟨Da,qs.map λq:Rat=>(q.den:Int),rfl,?_,λn hn=>?_,by simpa using hl,k H' s'⟩
  ·rw[hy,e,List.map_map];rfl
  ·obtain⟨q,hq,rfl⟩:=List.mem_map.mp hn
   exact⟨by have:=q.den_pos;omega,hb q hq⟩
theorem zaz {a:V}{r:List V}:atI (a::r) 0=some a:=by
 unfold atI ixN;rw[if_pos (by decide),if_pos (by simp only[List.length_cons];omega)];rfl
theorem Vm {a b:V}{r:List V}:atI (a::b::r) 1=some b:=by
 unfold atI ixN;rw[if_pos (by decide),if_pos (by simp only[List.length_cons];omega)];rfl
structure TCo (K:PySem.W.Frag) (C:Addr):Prop where
 cls:Cls K C
 pb:xz K C "place_bottom"
 sb:xz K C "speed_bottom"
 tick:xz K C "tick"
 weights:xz K C "weights"
 tracks:xz K C "tracks"
 low:xz K C "low"
 high:xz K C "high"
def vT (H:Hp) (a:Addr) (x y:Rat):Prop:=∃p q r,H a=some (.tup (.ref p::.ref q::r))/\zF H p x/\zF H q y
theorem vT.keeps {H H':Hp}{a:Addr}{x y:Rat}(h:vT H a x y) (t:zT H H'):vT H' a x y:=by
 obtain⟨p,q,r,h1,h2,h3⟩:=h
 exact⟨p,q,r,t _ _ h1,t _ _ h2,t _ _ h3⟩
def byB (x:Rat) (b:Int):Int:=x.num*b.fdiv (x.den:Int)
def zcU (C:Addr):Sp:=λvs H Q _=>∃(c dx:Addr) (fs:List (Str×V)) (pb sb:Int),H c=some (.ins C dx fs)/\fs.lookup ("place_bottom":Str)=some (V.int pb)/\fs.lookup ("speed_bottom":Str)=some (V.int sb) ∧
 ((vs=[.ref c,.non]/\Q .non H)\/∃a x y,vs=[.ref c,.ref a]/\vT H a x y/\Sz 400 x/\Sz 400 y/\0<pb/\0<sb/\Bd 8900 pb/\Bd 8900 sb/\∀r H',zh H H'->H' r=some (.tup [.int (byB x pb),.int (byB y sb)])->Q (.ref r) H')
theorem zdo:zG ["course","thing","start"] ["course","thing"] (zg va):=⟨rfl,rfl,rfl,by decide +kernel,rfl,by decide +kernel,by decide +kernel⟩
theorem VZ {b d:Int}(hb:0<b) (hd:0<d) (h:Bd 8900 b):Bd 8900 (b.fdiv d):=by
 rw[Int.fdiv_eq_ediv_of_nonneg _ (by omega)]
 exact h.of_le (by have:=Int.ediv_le_self d (a:=b) (by omega);have:=Int.ediv_nonneg (a:=b) (b:=d) (by omega) (by omega);omega)
theorem zfo {C:Addr}(D:Df K mg "track_of" va ["course","thing"] []) (TC:TCo K C):Cal P w K mg base "track_of" 1 ["course","thing"] [] (zcU C):=by
 refine D.cal (k:=0) zdo (λvs H Q E h=>by obtain⟨_,_,_,_,_,_,_,_,⟨rfl,_⟩ | ⟨_,_,_,rfl,_⟩⟩:=h <;> rfl) (λf cdv A outer s H vs Q E hr h=>?_)
 obtain⟨c,dx,fs,pb,sb,hc,e1,e2,h⟩:=h
 refine⟨_,(zj (xk (zI vn (pv 1) zX (zJ _)) (zi (zM zX)) zS)
  (zj (zL (i:=2) zdo.nd rfl (Or.inl rfl) (zA zO (zr zk (zr zk (pv 1) zd (λ_ _=>rfl)) zd (λ_ _=>rfl)) (zA qi (xb (pv 0) rfl) (zr zk (zr zk (pv 1) zd (λ_ _=>rfl)) zd (λ_ _=>rfl)))))
  (zi (zM (xv (za (pv 2) (za (zA zO (zr zk (zr zk (pv 1) zd (λ_ _=>rfl)) zd (λ_ _=>rfl)) (zA qi (xb (pv 0) rfl) (zr zk (zr zk (pv 1) zd (λ_ _=>rfl)) zd (λ_ _=>rfl)))) ze))))))),?_⟩
 rcases h with⟨rfl,k⟩ | ⟨a,x,y,rfl,⟨p,q,r,ha,hp,hq⟩,hx,hy,p1,p2,b1,b2,k⟩
 ·refine⟨_,rfl,rfl,_,rfl,qd k⟩
 ·refine⟨_,rfl,rfl,_,rfl,xA ?_⟩
  have d1:0<(x.den:Int):=by have:=x.den_pos;omega
  have d2:0<(y.den:Int):=by have:=y.den_pos;omega
  have z1:=VZ p1 d1 b1
  have z2:=VZ p2 d2 b2
  refine⟨_,rfl,a,_,_,_,rfl,rfl,.of ha,zaz,p,_,_,_,rfl,rfl,.of hp,at0 ..,_,rfl,c,C,dx,fs,_,rfl,hc,TC.cls,TC.pb,e1,_,rfl,a,_,_,_,rfl,rfl,.of ha,zaz,p,_,_,_,rfl,rfl,.of hp,at1 ..,_,_,rfl,rfl,⟨by omega,hx.2.mono (by decide)⟩,_,_,rfl,rfl,⟨hx.1.mono (by decide),Bd9 z1⟩,?_⟩
  refine⟨_,rfl,_,rfl,a,_,_,_,rfl,rfl,.of ha,Vm,q,_,_,_,rfl,rfl,.of hq,at0 ..,_,rfl,c,C,dx,fs,_,rfl,hc,TC.cls,TC.sb,e2,_,rfl,a,_,_,_,rfl,rfl,.of ha,Vm,q,_,_,_,rfl,rfl,.of hq,at1 ..,_,_,rfl,rfl,⟨by omega,hy.2.mono (by decide)⟩,_,_,rfl,rfl,⟨hy.1.mono (by decide),Bd9 z2⟩,?_⟩
  exact⟨by show 2<=sizeLine;decide,λr hr=>k r _ (zh.upd hr) (by rw[zf];rfl)⟩
end
end KQ
end
section
set_option maxHeartbeats 4000000
set_option Elab.async false
set_option linter.all false
set_option maxRecDepth 100000
namespace KQ
open PySem L2 KM KK
theorem zca {c n:Int}(hc:0<c) (hn:0<n):c ∣ c/(Int.gcd c n:Int)*n/\n ∣ c/(Int.gcd c n:Int)*n:=by
 refine⟨?_,Int.dvd_mul_left ..⟩
 obtain⟨m,hm⟩:=Int.gcd_dvd_right c n
 have hg:0<(Int.gcd c n:Int):=by have:=Int.gcd_pos_of_ne_zero_left n (a:=c) (by omega);omega
 refine⟨m,?_⟩
 have e1:c/(Int.gcd c n:Int)*(Int.gcd c n:Int)=c:=Int.ediv_mul_cancel (Int.gcd_dvd_left c n)
 calc c/(Int.gcd c n:Int)*n=c/(Int.gcd c n:Int)*((Int.gcd c n:Int)*m):=by rw[<-hm]
  _=c/(Int.gcd c n:Int)*(Int.gcd c n:Int)*m:=by rw[Int.mul_assoc]
  _=c*m:=by rw[e1]
theorem Z7 {n:Nat}:∀{ks:List Int}{c:Int}{m:Nat},0<c->Bd m c->Pos n ks →
  0<ks.foldl (λc n=>c/(Int.gcd c n:Int)*n) c/\Bd (m+n*ks.length) (ks.foldl (λc n=>c/(Int.gcd c n:Int)*n) c)/\c ∣ ks.foldl (λc n=>c/(Int.gcd c n:Int)*n) c/\∀k∈ks,k ∣ ks.foldl (λc n=>c/(Int.gcd c n:Int)*n) c
 | [],c,m,hc,hm,_=>⟨hc,hm,Int.dvd_refl c,λk hk=>by cases hk⟩
 | k::r,c,m,hc,hm,hp=>by
  have hk:=hp k List.mem_cons_self
  have d:=zca hc hk.1
  obtain⟨a1,a2,a3,a4⟩:=Z7 (ks:=r) (Z8 hc hk.1) (zaA hc hk.1 hm hk.2) λx hx=>hp x (List.mem_cons_of_mem _ hx)
  refine⟨a1,a2.mono (by rw[List.length_cons,Nat.mul_add];omega),Int.dvd_trans d.1 a3,λx hx=>?_⟩
  rcases List.mem_cons.mp hx with rfl | hx
  ·exact Int.dvd_trans d.2 a3
  ·exact a4 x hx
theorem Je {qs:List Rat}(h:∀q∈qs,Bd 400 (q.den:Int)) (hl:qs.length<=20):0<Qg qs/\Bd 8900 (Qg qs)/\∀q∈qs,(q.den:Int) ∣ Qg qs:=by
 obtain⟨a1,a2,_,a4⟩:=Z7 (n:=400) (ks:=qs.map λq=>(q.den:Int)) (c:=1) (m:=1) (by decide) (show (1:Int).natAbs<2^1 by decide) (λk hk=>by
  obtain⟨q,hq,rfl⟩:=List.mem_map.mp hk
  exact⟨by have:=q.den_pos;omega,h q hq⟩)
 exact⟨a1,a2.mono (by rw[List.length_map];omega),λq hq=>a4 _ (List.mem_map.mpr ⟨q,hq,rfl⟩)⟩
structure Bl where
 pl:Rat
 sp:Rat
 wt:Int
def zau (H:Hp) (v:V) (b:Bl):Prop:=∃a p q,v=V.ref a/\H a=some (.tup [.ref p,.ref q,.int b.wt])/\zF H p b.pl/\zF H q b.sp
def ZV (H:Hp) (us:List V) (bs:List Bl):Prop:=us.length=bs.length/\∀(i:Nat) (v:V),us[i]? = some v->∃b,bs[i]? = some b/\zau H v b
def qR (H:Hp) (v:V):Option (Rat×Rat)->Prop
 | none=>v = .non
 | some w=>∃a,v=V.ref a/\vT H a w.1 w.2
theorem zau.keeps {H H':Hp}{v:V}{b:Bl}(h:zau H v b) (t:zT H H'):zau H' v b:=by
 obtain⟨a,p,q,e,h1,h2,h3⟩:=h
 exact⟨a,p,q,e,t _ _ h1,t _ _ h2,t _ _ h3⟩
theorem ZV.keeps {H H':Hp}{us:List V}{bs:List Bl}(h:ZV H us bs) (t:zT H H'):ZV H' us bs :=
 ⟨h.1,λi v e=>by obtain⟨b,e1,e2⟩:=h.2 i v e;exact⟨b,e1,e2.keeps t⟩⟩
theorem qR.keeps {H H':Hp}{v:V}{w:Option (Rat×Rat)} (h:qR H v w) (t:zT H H'):qR H' v w:=by
 cases w with
 | none=>exact h
 | some w=>obtain⟨a,e,h⟩:=h;exact⟨a,e,h.keeps t⟩
def TsI (H:Hp) (vs:List V) (ts:List (Rat×Rat)):Prop:=vs.length=ts.length/\∀(i:Nat) (v:V),vs[i]? = some v->∃t a,ts[i]? = some t/\v=V.ref a/\vT H a t.1 t.2
theorem TsI.keeps {H H':Hp}{vs:List V}{ts:List (Rat×Rat)} (h:TsI H vs ts) (t:zT H H'):TsI H' vs ts :=
 ⟨h.1,λi v e=>by obtain⟨x,a,e1,e2,e3⟩:=h.2 i v e;exact⟨x,a,e1,e2,e3.keeps t⟩⟩
theorem TsI.nil {H:Hp}:TsI H [] []:=⟨rfl,λi v e=>by simp at e⟩
theorem TsI.cons {H:Hp}{a:Addr}{t:Rat×Rat}{vs:List V}{ts:List (Rat×Rat)} (h:vT H a t.1 t.2) (r:TsI H vs ts):TsI H (.ref a::vs) (t::ts):=by
 refine⟨by simp[r.1],λi v e=>?_⟩
 cases i with
 | zero=>simp at e;subst e;exact⟨t,a,rfl,rfl,h⟩
 | succ i=>obtain⟨x,b,e1,e2⟩:=r.2 i v (by simpa using e);exact⟨x,b,by simpa using e1,e2⟩
theorem TsI.append {H:Hp}{vs vs':List V}{ts ts':List (Rat×Rat)} (h:TsI H vs ts) (h':TsI H vs' ts'):TsI H (vs++vs') (ts++ts'):=by
 refine⟨by simp[h.1,h'.1],λi v e=>?_⟩
 by_cases hi:i<vs.length
 ·rw[List.getElem?_append_left hi]at e
  rw[List.getElem?_append_left (by rw[<-h.1];exact hi)]
  exact h.2 i v e
 ·rw[List.getElem?_append_right (by omega)]at e
  rw[List.getElem?_append_right (by rw[<-h.1];omega),<-h.1]
  exact h'.2 _ v e
theorem ZV.ts {H:Hp}{us:List V}{bs:List Bl}(h:ZV H us bs):TsI H us (bs.map λb=>(b.pl,b.sp)):=by
 refine⟨by simp[h.1],λi v e=>?_⟩
 obtain⟨b,e1,a,p,q,rfl,h1,h2,h3⟩:=h.2 i v e
 exact⟨(b.pl,b.sp),a,by rw[List.getElem?_map,e1];rfl,rfl,p,q,_,h1,h2,h3⟩
def xP:Option (Rat×Rat)->List (Rat×Rat)
 | none=>[]
 | some w=>[w]
theorem zbO {H:Hp}{v1 v2:V}{lo hi:Option (Rat×Rat)} (h1:qR H v1 lo) (h2:qR H v2 hi):TsI H ([v1,v2].filter λv=>!decide (v = .non)) (xP lo++xP hi):=by
 have one:∀{v:V}{w:Option (Rat×Rat)},qR H v w->TsI H ([v].filter λv=>!decide (v = .non)) (xP w):=λ{v w} h=>by
  cases w with
  | none =>
   have e:v = .non:=h
   subst e;exact .nil
  | some w =>
   obtain⟨a,e,h⟩:=h
   subst e
   rw[List.filter_cons_of_pos (by simp)]
   exact .cons h .nil
 have e:([v1,v2].filter λv=>!decide (v = .non))=([v1].filter λv=>!decide (v = .non))++([v2].filter λv=>!decide (v = .non)):=by
  rw[<-List.filter_append];rfl
 rw[e];exact(one h1).append (one h2)
def zW (c:Addr) (H H':Hp):Prop:=∀b o,b≠c->H b=some o->H' b=some o
theorem zW.of {c:Addr}{H H':Hp}(h:zh H H'):zW c H H':=λb o _ e=>h b o e
theorem zW.trans {c:Addr}{H H1 H2:Hp}(a:zW c H H1) (b:zW c H1 H2):zW c H H2:=λx o n e=>b x o n (a x o n e)
theorem zW.upd {c:Addr}{H:Hp}{o:HO}:zW c H (upd H c o):=λb u n e=>by rw[zB n];exact e
theorem zW.tup {c C dx:Addr}{fs:List (Str×V)}{H H':Hp}(h:zW c H H') (e:H c=some (.ins C dx fs)):zT H H':=λb xs q=>h b _ (λz=>by subst z;rw[e]at q;cases q) q
end KQ
end
section
set_option maxHeartbeats 4000000
set_option Elab.async false
set_option linter.all false
set_option maxRecDepth 100000
namespace KQ
open PySem L2 KM KK
structure TxQ (K:PySem.W.Frag) (mg:Str->Option Value):Prop extends TxB K mg where
 nList:mg "list" = none
 nZip:mg "zip" = none
def vM (H:Hp) (v:V):Option (Int×Int)->Prop
 | none=>v = .non
 | some t=>∃a,v=V.ref a/\H a=some (.tup [.int t.1,.int t.2])
def xR (H:Hp) (vs:List V) (ts:List (Int×Int)):Prop:=vs.length=ts.length/\∀(i:Nat) (v:V),vs[i]? = some v->∃t,ts[i]? = some t/\vM H v (some t)
theorem vM.keeps {H H':Hp}{v:V}{w:Option (Int×Int)} (h:vM H v w) (t:zT H H'):vM H' v w:=by
 cases w with
 | none=>exact h
 | some w=>obtain⟨a,e,h⟩:=h;exact⟨a,e,t _ _ h⟩
theorem xR.keeps {H H':Hp}{vs:List V}{ts:List (Int×Int)} (h:xR H vs ts) (t:zT H H'):xR H' vs ts :=
 ⟨h.1,λi v e=>by obtain⟨x,e1,e2⟩:=h.2 i v e;exact⟨x,e1,e2.keeps t⟩⟩
structure CoF (H:Hp) (fs:List (Str×V)) (pb sb:Int) (tk:Rat) (ws:List Int) (trs:List (Int×Int)) (lo hi:Option (Int×Int)):Prop where
 pb:fs.lookup ("place_bottom":Str)=some (V.int pb)
 sb:fs.lookup ("speed_bottom":Str)=some (V.int sb)
 tick:∃tp,fs.lookup ("tick":Str)=some (V.ref tp)/\zF H tp tk
 weights:∃wl,fs.lookup ("weights":Str)=some (V.ref wl)/\H wl=some (.lst (ws.map V.int))
 tracks:∃tl tv,fs.lookup ("tracks":Str)=some (V.ref tl)/\H tl=some (.lst tv)/\xR H tv trs
 low:∃v,fs.lookup ("low":Str)=some v/\vM H v lo
 high:∃v,fs.lookup ("high":Str)=some v/\vM H v hi
 len:fs.length<=20
def Xq (H:Hp) (C c:Addr) (pb sb:Int) (tk:Rat) (ws:List Int) (trs:List (Int×Int)) (lo hi:Option (Int×Int)):Prop:=∃dx fs,H c=some (.ins C dx fs)/\CoF H fs pb sb tk ws trs lo hi
def CoN (H0 H:Hp) (C c:Addr) (pb sb:Int) (tk:Rat) (ws:List Int) (trs:List (Int×Int)) (lo hi:Option (Int×Int)):Prop:=∃dx fs tl,H c=some (.ins C dx fs)/\CoF H fs pb sb tk ws trs lo hi/\fs.lookup ("tracks":Str)=some (V.ref tl)/\H0 tl=none
theorem CoN.co {H0 H:Hp}{C c:Addr}{pb sb:Int}{tk:Rat}{ws:List Int}{trs:List (Int×Int)}{lo hi:Option (Int×Int)} (h:CoN H0 H C c pb sb tk ws trs lo hi):Xq H C c pb sb tk ws trs lo hi:=by
 obtain⟨dx,fs,tl,h1,h2,_⟩:=h;exact⟨dx,fs,h1,h2⟩
def ths (bs:List Bl) (lo hi:Option (Rat×Rat)):List (Rat×Rat):=bs.map (λb=>(b.pl,b.sp))++(xP lo++xP hi)
def pbO (bs:List Bl) (lo hi:Option (Rat×Rat)):Int:=Qg ((ths bs lo hi).map (·.1))
def sbO (bs:List Bl) (lo hi:Option (Rat×Rat)):Int:=Qg ((ths bs lo hi).map (·.2))
def trB (pb sb:Int) (t:Rat×Rat):Int×Int:=(byB t.1 pb,byB t.2 sb)
section
variable {P:Program}{w:World}{K:PySem.W.Frag}{mg:Str->Option Value}{base:Heap}
def zer (C:Addr):Sp:=λvs H Q _=>∃c dx r wa us bs v1 v2 lo hi,vs=[V.ref c,.ref r,.ref wa]/\H c=some (.ins C dx [])/\H r=some (.tup us)/\ZV H us bs/\H wa=some (.tup [v1,v2])/\qR H v1 lo/\qR H v2 hi/\bs.length<=8 ∧
 (∀t∈ths bs lo hi,Sz 400 t.1/\Sz 400 t.2)/\∀H',zW c H H'->CoN H H' C c (pbO bs lo hi) (sbO bs lo hi) (Rat.divInt (sbO bs lo hi) (pbO bs lo hi)) (bs.map Bl.wt) (bs.map λb=>trB (pbO bs lo hi) (sbO bs lo hi) (b.pl,b.sp)) (lo.map (trB (pbO bs lo hi) (sbO bs lo hi))) (hi.map (trB (pbO bs lo hi) (sbO bs lo hi)))->Q .non H'
theorem zdl:zG ["self","row","walls","things"] ["self","row","walls"] (zg xX):=⟨rfl,rfl,rfl,by decide +kernel,rfl,by decide +kernel,by decide +kernel⟩
theorem jy {bs:List Bl}{lo hi:Option (Rat×Rat)} (h:bs.length<=8):(ths bs lo hi).length<=20:=by
 unfold ths
 have e:∀w:Option (Rat×Rat),(xP w).length<=1:=λw=>by cases w <;> simp[xP]
 have:=e lo
 have:=e hi
 simp only[List.length_append,List.length_map];omega
theorem V3 {σ:St}{H:Hp}{Q:VK}{L:Addr}{vs:List V}{ts:List (Rat×Rat)}{j:Nat}{i:Int}(f:Rat×Rat->Rat) (hσ:σ[j]? = some (some (.ref L))) (hL:H L=some (.lst vs)) (hT:TsI H vs ts) (hl:ts.length<=20)
  (hf:∀H2 a t,vT H2 a t.1 t.2->∃xs p,H2 a=some (.tup xs)/\atI xs i=some (.ref p)/\zF H2 p (f t))
  (k:∀D ys H',zh H H'->H' D=some (.lst ys)->zc6 H' ys (ts.map f)->Q (.ref D) H') :
  zdt 1 (zdd K (xQ j)) (zN 0) (λ_ H Q=>Q true H) (tOp (jA K) (xQ 0) (tC (.int i))) σ H Q:=by
 refine⟨_,hσ,L,rfl,⟨_,SqL.of hL⟩,λD hD=>?_⟩
 refine j6 (J:=Itl K L) (n:=1) (g:=zN 0) (te:=tOp (jA K) (xQ 0) (tC (.int i))) (xs:=vs) (λm v H=>∃t p,ts[m]? = some t/\v = .ref p/\zF H p (f t)) (λ_ _ _ _ t ⟨x,p,e1,e2,e3⟩=>⟨x,p,e1,e2,t _ _ e3⟩) hD (xW hL) (vg (by rw[hT.1];exact hl)) ?_ ?_
 ·intro m x zs H2 Q' hx hz s2 hk
  obtain⟨t,a,e,rfl,ha⟩:=hT.2 m x hx
  obtain⟨z1,rfl⟩:=jL hz
  obtain⟨xs,p,h1,h2,h3⟩:=hf H2 a t (ha.keeps (.of s2))
  dsimp only[zN]
  try rw[if_pos rfl]
  exact⟨_,rfl,a,_,_,_,rfl,rfl,.of h1,h2,hk _ _ (zh.refl _) ⟨t,p,e,rfl,h3⟩⟩
 ·intro ys H' s' hy hyl hyR
  refine k D ys H' s' hy ⟨by simp[hyl,hT.1],λm v e=>?_⟩
  obtain⟨t,p,e1,e2,e3⟩:=hyR m v e
  exact⟨p,f t,e2,by rw[List.getElem?_map,e1];rfl,e3⟩
end
end KQ
end
section
set_option maxHeartbeats 4000000
set_option Elab.async false
set_option linter.all false
set_option maxRecDepth 100000
namespace KQ
open PySem L2 KM KK
section
variable {P:Program}{w:World}{K:PySem.W.Frag}{mg:Str->Option Value}{base:Heap}
theorem th0:∀(H2:Hp) (a:Addr) (t:Rat×Rat),vT H2 a t.1 t.2->∃xs p,H2 a=some (.tup xs)/\atI xs 0=some (.ref p)/\zF H2 p t.1:=λH2 a t ⟨p,q,r,h1,h2,h3⟩=>⟨_,p,h1,zaz,h2⟩
theorem th1:∀(H2:Hp) (a:Addr) (t:Rat×Rat),vT H2 a t.1 t.2->∃xs p,H2 a=some (.tup xs)/\atI xs 1=some (.ref p)/\zF H2 p t.2:=λH2 a t ⟨p,q,r,h1,h2,h3⟩=>⟨_,q,h1,Vm,h3⟩
theorem vS {tv:TE}{rest:TS}{f:Str}{D:qQ}{σ:St}{H:Hp}(h:tv σ H λy H1=>xQ 0 σ H1 λx H2=>∃a C dx fs,x = .ref a/\H2 a=some (.ins C dx fs)/\Cls K C/\xz K C f/\fs.length<1000/\rest D σ (upd H2 a (.ins C dx (xI f y fs)))):Qw (zeh K (xQ 0) tv f) rest D σ H:=h
theorem Jk {tv:TE}{f:Str}{D:qQ}{σ:St}{H:Hp}(h:tv σ H λy H1=>xQ 0 σ H1 λx H2=>∃a C dx fs,x = .ref a/\H2 a=some (.ins C dx fs)/\Cls K C/\xz K C f/\fs.length<1000/\D.nx σ (upd H2 a (.ins C dx (xI f y fs)))):zeh K (xQ 0) tv f D σ H:=h
theorem zc9 {te:TE}{sp:Sp}{σ:St}{H:Hp}{Q:VK}(h:te σ H λx H1=>sp [x] H1 Q E0):ZD sp [] E0 (qp te Zn) σ H Q:=h
theorem QH {ta tb:TE}{sp:Sp}{σ:St}{H:Hp}{Q:VK}(h:ta σ H λx H1=>tb σ H1 λy H2=>sp [x,y] H2 Q E0):ZD sp [] E0 (qp ta (qp tb Zn)) σ H Q:=h
theorem qt {c C dx:Addr}{fs:List (Str×V)}{f:Str}{y:V}{rest:TS}{D:qQ}{σ:St}{H3:Hp}(hσ:σ[0]? = some (some (.ref c))) (hc:H3 c=some (.ins C dx fs)) (cl:Cls K C) (na:xz K C f) (hl:fs.length<1000)
  (k:∀G,zW c H3 G->G c=some (.ins C dx (xI f y fs))->rest D σ G):xQ 0 σ H3 λx H2=>∃a C dx fs,x = .ref a/\H2 a=some (.ins C dx fs)/\Cls K C/\xz K C f/\fs.length<1000/\rest D σ (upd H2 a (.ins C dx (xI f y fs))) :=
 ⟨_,hσ,c,C,dx,fs,rfl,hc,cl,na,hl,k _ .upd zf⟩
theorem JP {C c dx:Addr}{fs:List (Str×V)}{pb sb:Int}{G:Hp}{v:V}{w:Option (Rat×Rat)}{Q:VK}{E:XK}(hc:G c=some (.ins C dx fs)) (e1:fs.lookup ("place_bottom":Str)=some (V.int pb)) (e2:fs.lookup ("speed_bottom":Str)=some (V.int sb)) (hw:qR G v w)
  (hz:∀t,w=some t->Sz 400 t.1/\Sz 400 t.2) (p1:0<pb/\Bd 8900 pb) (p2:0<sb/\Bd 8900 sb) (k:∀v' H',zh G H'->vM H' v' (w.map (trB pb sb))->Q v' H'):zcU C [.ref c,v] G Q E:=by
 refine⟨c,dx,fs,pb,sb,hc,e1,e2,?_⟩
 cases w with
 | none =>
  have e:v = .non:=hw
  subst e
  exact .inl ⟨rfl,k _ _ (zh.refl _) rfl⟩
 | some t =>
  obtain⟨a,rfl,ha⟩:=hw
  have z:=hz t rfl
  exact .inr ⟨a,t.1,t.2,rfl,ha,z.1,z.2,p1.1,p2.1,p1.2,p2.2,λr H' s h=>k _ _ s ⟨r,rfl,h⟩⟩
theorem ze0 {C f:Addr}{fd:FuncData}(F:Fun K "__init__" "Course.__init__" xX f fd) (T:TxQ K mg) (TC:TCo K C) (cB:Cal P w K mg base "common_bottom" 3 ["ratios"] [] zfL) (cR:Cal P w K mg base "ratio" 2 ["top","bottom"] [] vj)
  (cT:Cal P w K mg base "track_of" 1 ["course","thing"] [] (zcU C)):vL P w K mg base CX0 4 f fd ["self","row","walls"] (zer C):=by
 refine F.ok (k:=3) zdl (λvs H Q E h=>by obtain⟨_,_,_,_,_,_,_,_,_,_,rfl,_⟩:=h;rfl) (λcdv A outer s H vs Q E hr h=>?_)
 obtain⟨c,dx,r,wa,us,bs,v1,v2,lo,hi,rfl,hc,hrr,hB,hw,h1,h2,hl,hz,k⟩:=h
 have hr2:xi 2 _:=hr.mono (by decide)
 have hr1:xi 1 _:=hr.mono (by decide)
 refine⟨_,(zj (zL (i:=3) zdl.nd rfl (Or.inl rfl) (zA Xe (qx jF (by rfl) T.nList PyProof.Rows.boot_list (za (pv 1) ze)) (jQ (NB:=["wall"]) rfl (by decide +kernel) (by decide +kernel) rfl (by decide +kernel) (Xi (pv 2)) (by intro _ _ _;refine⟨?_,?_,?_⟩;(exact(zK (i:=0) (show List.Nodup (["wall"]:List Str) by decide +kernel) rfl (Or.inl rfl)));(exact(Qn (zI qI (pv 0) zX (zJ _))));(exact(pv 0))))))
  (zj (vW (pv 0) (zP cB hr (za (jQ (NB:=["thing"]) rfl (by decide +kernel) (by decide +kernel) rfl (by decide +kernel) (xS (pv 3)) (by intro _ _ _;refine⟨?_,?_,?_⟩;(exact(zK (i:=0) (show List.Nodup (["thing"]:List Str) by decide +kernel) rfl (Or.inl rfl)));(exact qg);(exact(zr (ve (K:=K) rfl) (pv 0) zd (λ_ _=>rfl))))) ze)) rfl)
  (zj (vW (pv 0) (zP cB hr (za (jQ (NB:=["thing"]) rfl (by decide +kernel) (by decide +kernel) rfl (by decide +kernel) (xS (pv 3)) (by intro _ _ _;refine⟨?_,?_,?_⟩;(exact(zK (i:=0) (show List.Nodup (["thing"]:List Str) by decide +kernel) rfl (Or.inl rfl)));(exact qg);(exact(zr (ve (K:=K) rfl) (pv 0) zd (λ_ _=>rfl))))) ze)) rfl)
  (zj (vW (pv 0) (zP cR hr2 (za (xb (pv 0) rfl) (za (xb (pv 0) rfl) ze))) rfl)
  (zj (vW (pv 0) (jQ (NB:=["ball"]) rfl (by decide +kernel) (by decide +kernel) rfl (by decide +kernel) (Xi (pv 1)) (by intro _ _ _;refine⟨?_,?_,?_⟩;(exact(zK (i:=0) (show List.Nodup (["ball"]:List Str) by decide +kernel) rfl (Or.inl rfl)));(exact qg);(exact(zr (ve (K:=K) rfl) (pv 0) zd (λ_ _=>rfl))))) rfl)
  (zj (vW (pv 0) (jR (NB:=["ball"]) (FR:=["self"]) (js:=[0]) rfl rfl (λ_ _ h=>h) (.cons rfl rfl rfl ⟨_,rfl⟩ .nil) rfl (by decide +kernel) rfl (by decide +kernel) (Xi (pv 1)) (by intro _ _ _;refine⟨?_,?_,?_⟩;(exact(zK (i:=0) (show List.Nodup (["ball","self"]:List Str) by decide +kernel) rfl (Or.inl rfl)));(exact qg);(exact(zP cT hr1 (za (pv 1) (za (pv 0) ze)))))) rfl)
  (zj (vW (pv 0) (zP cT hr1 (za (pv 0) (za (zr zk (pv 2) zd (λ_ _=>rfl)) ze))) rfl)
  (zi (vW (pv 0) (zP cT hr1 (za (pv 0) (za (zr zk (pv 2) zd (λ_ _=>rfl)) ze))) rfl))))))))),?_⟩
 refine⟨_,rfl,r,us,rfl,.inr (.of hrr),λl hll=>?_⟩
 refine⟨_,rfl,wa,rfl,⟨_,SqT.of (zh.upd hll _ _ hw)⟩,λDa hD=>?_⟩
 refine zaI (J:=Itt K wa) (n:=1) (g:=zN 0) (te:=xQ 0) (xs:=[v1,v2]) (λv=>!decide (v = .non)) hD (jV (zh.upd hll _ _ hw)) (vg (by show 2<=20;decide)) ?_ ?_
 ·intro m x zs H2 A2 B2 hx hz2 s2 ka kb
  obtain⟨z1,rfl⟩:=jL hz2
  dsimp only[zN]
  refine⟨_,rfl,rfl,_,rfl,?_⟩
  cases e:decide (x=V.non)with
  | true=>exact kb (by simp[e])
  | false=>exact⟨_,rfl,ka (by simp[e])⟩
 intro H1 s1 hy
 have hl1:H1 l=some (.lst us):=s1 _ _ zf
 refine⟨l,Da,us,_,rfl,rfl,hl1,hy,?_,λL hL=>?_⟩
 ·have z1:=List.length_filter_le (λv=>!decide (v=V.non)) [v1,v2]
  have z2:=hB.1
  have z3:20<sizeLine:=vg (Nat.le_refl _)
  simp only[List.length_cons,List.length_nil]at z1
  omega
 have S1:zh H H1:=(zh.upd hll).trans s1
 have S2:zh H (upd H1 L (.lst (us++[v1,v2].filter λv=>!decide (v = .non)))):=S1.trans (zh.upd hL)
 have hT:TsI H (us++[v1,v2].filter λv=>!decide (v = .non)) (ths bs lo hi):=hB.ts.append (zbO h1 h2)
 have hLL:upd H1 L (.lst (us++[v1,v2].filter λv=>!decide (v = .non))) L=some (.lst (us++[v1,v2].filter λv=>!decide (v = .non))):=zf
 generalize upd H1 L (.lst (us++[v1,v2].filter λv=>!decide (v = .non)))=G0 at S2 hLL
 generalize (us++[v1,v2].filter λv=>!decide (v = .non))=tv at hT hLL
 have hw0:=S2 _ _ hw
 have hr0:=S2 _ _ hrr
 have hc0:=S2 _ _ hc
 have cL:L≠c:=λz=>by subst z;rw[hLL]at hc0;cases hc0
 dsimp only[zN]
 refine vS (K:=K) ?_
 refine zc9 ?_
 refine V3 (λt=>t.1) (by rfl) hLL (hT.keeps (.of S2)) (jy hl) th0 λD1 y1 H2 s2 hy1 hR1=>?_
 refine⟨D1,y1,_,rfl,hy1,hR1,λq hq=>?_,by rw[List.length_map];exact jy hl,λH3 s3=>?_⟩
 ·obtain⟨t,ht,rfl⟩:=List.mem_map.mp hq
  exact(hz t ht).1.2
 have p1:=Je (qs:=(ths bs lo hi).map (·.1)) (λq hq=>by obtain⟨t,ht,rfl⟩:=List.mem_map.mp hq;exact(hz t ht).1.2) (by rw[List.length_map];exact jy hl)
 have p2:=Je (qs:=(ths bs lo hi).map (·.2)) (λq hq=>by obtain⟨t,ht,rfl⟩:=List.mem_map.mp hq;exact(hz t ht).2.2) (by rw[List.length_map];exact jy hl)
 refine qt (by rfl) (s3 _ _ (s2 _ _ hc0)) TC.cls TC.pb (by decide) λG1 X1 c1=>?_
 replace X1:zW c G0 G1:=(zW.of (s2.trans s3)).trans X1
 have t1:zT H G1:=(zT.of S2).trans (X1.tup hc0)
 refine vS (K:=K) ?_
 refine zc9 ?_
 refine V3 (λt=>t.2) (by rfl) (X1 _ _ cL hLL) (hT.keeps t1) (jy hl) th1 λD2 y2 H4 s4 hy2 hR2=>?_
 refine⟨D2,y2,_,rfl,hy2,hR2,λq hq=>?_,by rw[List.length_map];exact jy hl,λH5 s5=>?_⟩
 ·obtain⟨t,ht,rfl⟩:=List.mem_map.mp hq
  exact(hz t ht).2.2
 refine qt (by rfl) (s5 _ _ (s4 _ _ c1)) TC.cls TC.sb (by show 1<1000;decide) λG2 X2 c2=>?_
 replace X2:zW c G0 G2:=X1.trans ((zW.of (s4.trans s5)).trans X2)
 refine vS (K:=K) ?_
 refine⟨_,rfl,c,C,dx,_,_,rfl,c2,TC.cls,TC.sb,rfl,_,rfl,c,C,dx,_,_,rfl,c2,TC.cls,TC.pb,rfl,_,_,rfl,by have:=p1.1;omega,p1.2.1,λtp H6 s6 htp=>?_⟩
 refine qt (by rfl) (s6 _ _ c2) TC.cls TC.tick (by show 2<1000;decide) λG3 X3' c3=>?_
 have X3:zW c G0 G3:=X2.trans ((zW.of s6).trans X3')
 have htp3:zF G3 tp _:=X3' _ _ (λz=>by subst z;have:=s6 _ _ c2;rw[htp]at this;cases this) htp
 have t3:zT H G3:=(zT.of S2).trans (X3.tup hc0)
 refine vS (K:=K) ?_
 have l20:us.length<sizeLine:=vg (by rw[hB.1];omega)
 refine⟨_,rfl,r,rfl,⟨_,SqT.of (t3 _ _ hrr)⟩,λD4 hD4=>?_⟩
 refine j6 (J:=Itt K r) (n:=1) (g:=zN 0) (te:=tOp (jA K) (xQ 0) (tC (.int 2))) (xs:=us) (λm v _=>∃b:Bl,bs[m]? = some b/\v = .int b.wt) (λ_ _ _ _ _ z=>z) hD4 (jV (t3 _ _ hrr)) l20 ?_ ?_
 ·intro m x zs H7 Q' hx hz7 s7 hk
  obtain⟨b,e,a,p,q,rfl,ha,_⟩:=(hB.keeps (t3.trans (.of s7))).2 m x hx
  obtain⟨z1,rfl⟩:=jL hz7
  dsimp only[zN]
  exact⟨_,rfl,a,_,_,_,rfl,rfl,.of ha,rfl,hk _ _ (zh.refl _) ⟨b,e,rfl⟩⟩
 intro y4 H7 s7 hy4 hyl4 hyR4
 have e4:y4=(bs.map Bl.wt).map V.int:=by
  rw[List.map_map]
  exact zaN (hyl4.trans hB.1) hyR4
 refine qt (by rfl) (s7 _ _ c3) TC.cls TC.weights (by show 3<1000;decide) λG4 X4' c4=>?_
 have X4:zW c G0 G4:=X3.trans ((zW.of s7).trans X4')
 have nc:∀{G:Hp}{fs:List (Str×V)}{b:Addr}{o:HO},G c=some (.ins C dx fs)->G b=some o->(∀fs,o≠.ins C dx fs)->b≠c:=λh1 h2 h3 z=>by subst z;rw[h1]at h2;cases h2;exact h3 _ rfl
 have wl4:G4 D4=some (.lst ((bs.map Bl.wt).map V.int)):=by
  rw[<-e4];exact X4' _ _ (nc (s7 _ _ c3) hy4 (λ_ z=>by cases z)) hy4
 have htp4:zF G4 tp _:=X4' _ _ (nc (s7 _ _ c3) (s7 _ _ htp3) (λ_ z=>by cases z)) (s7 _ _ htp3)
 have t4:zT H G4:=(zT.of S2).trans (X4.tup hc0)
 refine vS (K:=K) ?_
 refine⟨_,rfl,r,rfl,⟨_,SqT.of (t4 _ _ hrr)⟩,λD5 hD5=>?_⟩
 refine qh (J:=Itt K r) (n:=1) (js:=[0]) (g:=zN 0) (te:=ZD (zcU C) [] E0 (qp (xQ 1) (qp (xQ 0) Zn))) (xs:=us) (λm v H=>∃t,(bs.map λb=>trB (pbO bs lo hi) (sbO bs lo hi) (b.pl,b.sp))[m]? = some t/\vM H v (some t)) (λ_ _ _ _ t ⟨x,e1,e2⟩=>⟨x,e1,e2.keeps t⟩) hD5 (jV (t4 _ _ hrr)) l20 ?_ ?_
 ·intro m x zs H8 Q' hx hz8 s8 hk
  obtain⟨b,e,a,p,q,rfl,ha,hp,hq⟩:=(hB.keeps (t4.trans (.of s8))).2 m x hx
  obtain⟨z1,rfl⟩:=jL hz8
  dsimp only[zN]
  have zb:=hz (b.pl,b.sp) (List.mem_append_left _ (List.mem_map.mpr ⟨b,List.mem_of_getElem? e,rfl⟩))
  refine⟨rfl,_,rfl,_,rfl,c,dx,_,_,_,s8 _ _ c4,rfl,rfl,.inr ⟨a,b.pl,b.sp,rfl,⟨p,q,_,ha,hp,hq⟩,zb.1,zb.2,p1.1,p2.1,p1.2.1,p2.2.1,λr' H9 s9 h9=>hk _ _ s9 ⟨_,by rw[List.getElem?_map,e];rfl,r',rfl,h9⟩⟩⟩
 intro y5 H8 s8 hy5 hyl5 hyR5
 refine qt (by rfl) (s8 _ _ c4) TC.cls TC.tracks (by show 4<1000;decide) λG5 X5' c5=>?_
 have X5:zW c G0 G5:=X4.trans ((zW.of s8).trans X5')
 have tl5:G5 D5=some (.lst y5):=X5' _ _ (nc (s8 _ _ c4) hy5 (λ_ z=>by cases z)) hy5
 have tr5:xR G5 y5 (bs.map λb=>trB (pbO bs lo hi) (sbO bs lo hi) (b.pl,b.sp)):=⟨by rw[hyl5,List.length_map,hB.1],λm v e=>by
  obtain⟨t,e1,e2⟩:=hyR5 m v e
  exact⟨t,e1,e2.keeps (X5'.tup (s8 _ _ c4))⟩⟩
 have wl5:=X5' _ _ (nc (s8 _ _ c4) (s8 _ _ wl4) (λ_ z=>by cases z)) (s8 _ _ wl4)
 have htp5:zF G5 tp _:=X5' _ _ (nc (s8 _ _ c4) (s8 _ _ htp4) (λ_ z=>by cases z)) (s8 _ _ htp4)
 have t5:zT H G5:=(zT.of S2).trans (X5.tup hc0)
 have zlo:∀t,lo=some t->Sz 400 t.1/\Sz 400 t.2:=λt e=>hz t (by unfold ths;rw[e];simp[xP])
 have zhi:∀t,hi=some t->Sz 400 t.1/\Sz 400 t.2:=λt e=>hz t (by unfold ths;rw[e];simp[xP])
 refine vS (K:=K) ?_
 refine QH ⟨_,rfl,_,rfl,wa,_,_,_,rfl,rfl,.of (t5 _ _ hw),at0 ..,?_⟩
 refine JP c5 rfl rfl (h1.keeps t5) zlo ⟨p1.1,p1.2.1⟩ ⟨p2.1,p2.2.1⟩ λlv H9 s9 hlv=>?_
 refine qt (by rfl) (s9 _ _ c5) TC.cls TC.low (by show 5<1000;decide) λG6 X6' c6=>?_
 have X6:zW c G0 G6:=X5.trans ((zW.of s9).trans X6')
 have t6:zT H G6:=(zT.of S2).trans (X6.tup hc0)
 have X56:zW c G5 G6:=(zW.of s9).trans X6'
 refine Jk (K:=K) ?_
 refine QH ⟨_,rfl,_,rfl,wa,_,_,_,rfl,rfl,.of (t6 _ _ hw),at1 ..,?_⟩
 refine JP c6 rfl rfl (h2.keeps t6) zhi ⟨p1.1,p1.2.1⟩ ⟨p2.1,p2.2.1⟩ λhv H10 s10 hhv=>?_
 refine qt (rest:=qQ.nx) (by rfl) (s10 _ _ c6) TC.cls TC.high (by show 6<1000;decide) λG7 X7' c7=>?_
 have X67:zW c G6 G7:=(zW.of s10).trans X7'
 have X57:zW c G5 G7:=X56.trans X67
 have X7:zW c G0 G7:=X6.trans X67
 have hD5H:H D5=none:=by
  cases e:H D5 with
  | none=>rfl
  | some o =>
   by_cases z:D5=c
   ·rw[z,c4]at hD5;cases hD5
   ·rw[X4 _ _ z (S2 _ _ e)]at hD5;cases hD5
 refine k G7 ((zW.of S2).trans X7) ⟨dx,_,D5,c7,⟨rfl,rfl,⟨tp,rfl,X57 _ _ (nc c5 htp5 (λ_ z=>by cases z)) htp5⟩,⟨D4,rfl,X57 _ _ (nc c5 wl5 (λ_ z=>by cases z)) wl5⟩,
  ⟨D5,y5,rfl,X57 _ _ (nc c5 tl5 (λ_ z=>by cases z)) tl5,tr5.keeps (X57.tup c5)⟩,⟨lv,rfl,(hlv.keeps (X6'.tup (s9 _ _ c5))).keeps (X67.tup c6)⟩,⟨hv,rfl,hhv.keeps (X7'.tup (s10 _ _ c6))⟩,by show 7<=20;decide⟩,rfl,hD5H⟩
end
end KQ
end
section
set_option maxHeartbeats 4000000
set_option Elab.async false
set_option linter.all false
set_option maxRecDepth 100000
namespace KQ
open PySem L2 KM KK
theorem zax {m n:Nat}{x y:Rat}(h:Sz m x) (k:Sz n y):Sz (m+n+1) (x - y):=by
 rw[<-KM.Xb]
 refine .divInt (Int.mul_ne_zero (KM.xH x) (KM.xH y)) ?_ ((h.2.mul k.2).mono (by omega))
 rw[Int.sub_eq_add_neg]
 have h2:Bd (n+m) (-(y.num*(x.den:Int))):=by
  have:=k.1.mul h.2
  unfold Bd at *
  rw[Int.natAbs_neg];exact this
 exact Bd.mono (Bd.add (h.1.mul k.2) h2) (by omega)
section
variable {P:Program}{w:World}{K:PySem.W.Frag}{mg:Str->Option Value}{base:Heap}
def zbC (C:Addr):Sp:=λvs H Q _=>∃c t dx fs tp tk a b,vs=[V.ref c,.ref t]/\H c=some (.ins C dx fs)/\fs.lookup ("tick":Str)=some (V.ref tp)/\zF H tp tk/\H t=some (.tup [.int a,.int b])/\b≠0/\Bd 4400 a/\Bd 4400 b/\Sz 4400 tk ∧
 ∀r H',zh H H'->zF H' r (Rat.divInt (a*tk.num) (b*(tk.den:Int)))->Q (.ref r) H'
theorem zfE:zG ["course","ticks"] ["course","ticks"] (zg qD):=⟨rfl,rfl,rfl,by decide +kernel,rfl,by decide +kernel,by decide +kernel⟩
theorem ze8 {C:Addr}(D:Df K mg "moment_of" qD ["course","ticks"] []) (TC:TCo K C) (cR:Cal P w K mg base "ratio" 2 ["top","bottom"] [] vj):Cal P w K mg base "moment_of" 3 ["course","ticks"] [] (zbC C):=by
 refine D.cal (k:=2) zfE (λvs H Q E h=>by obtain⟨_,_,_,_,_,_,_,_,rfl,_⟩:=h;rfl) (λf cdv A outer s H vs Q E hr h=>?_)
 obtain⟨c,t,dx,fs,tp,tk,a,b,rfl,hc,e,htp,ht,hb,ba,bb,hz,k⟩:=h
 refine⟨_,(zi (zM (zP cR hr (za (zA zO (zr zk (pv 1) zd (λ_ _=>rfl)) (zr zk (xb (pv 0) rfl) zd (λ_ _=>rfl))) (za (zA zO (zr zk (pv 1) zd (λ_ _=>rfl)) (zr zk (xb (pv 0) rfl) zd (λ_ _=>rfl))) ze))))),?_⟩
 refine QH (Q:=Q) ?_
 refine⟨_,rfl,t,_,_,_,rfl,rfl,.of ht,at0 ..,_,rfl,c,C,dx,fs,_,rfl,hc,TC.cls,TC.tick,e,tp,_,_,_,rfl,rfl,.of htp,at0 ..,_,_,rfl,rfl,⟨ba.mono (by decide),hz.1.mono (by decide)⟩,?_⟩
 refine⟨_,rfl,t,_,_,_,rfl,rfl,.of ht,at1 ..,_,rfl,c,C,dx,fs,_,rfl,hc,TC.cls,TC.tick,e,tp,_,_,_,rfl,rfl,.of htp,at1 ..,_,_,rfl,rfl,⟨bb.mono (by decide),hz.2.mono (by decide)⟩,?_⟩
 exact⟨_,_,rfl,Int.mul_ne_zero hb (KM.xH tk),(bb.mul hz.2).mono (by decide),k⟩
def qo:Option (Rat×Rat)->Option (Rat×Rat)->Option Rat
 | some l,some h=>if h.2<l.2 then some ((h.1 - l.1)/(l.2 - h.2))else none
 | _,_=>none
def v8 (H:Hp) (v:V):Option Rat->Prop
 | none=>v = .non
 | some q=>∃a,v=V.ref a/\zF H a q
def zf0:Sp:=λvs H Q _=>∃wa v1 v2 lo hi,vs=[V.ref wa]/\H wa=some (.tup [v1,v2])/\qR H v1 lo/\qR H v2 hi/\(∀t,lo=some t->Sz 400 t.1/\Sz 400 t.2)/\(∀t,hi=some t->Sz 400 t.1/\Sz 400 t.2) ∧
 ∀v H',zh H H'->v8 H' v (qo lo hi)->Q v H'
theorem zbw:zG ["walls","low","high"] ["walls"] (zg x9):=⟨rfl,rfl,rfl,by decide +kernel,rfl,by decide +kernel,by decide +kernel⟩
theorem zfj (D:Df K mg "shut_moment" x9 ["walls"] []) (cLs:Cal P w K mg base "less" 1 ["one","other"] [] zbB) (cM:Cal P w K mg base "minus" 3 ["one","other"] [] (vK Sz2 (· - ·)))
  (cO:Cal P w K mg base "over" 3 ["one","other"] [] (vK (λx y=>Sz2 x y/\y≠0) (· / ·))):Cal P w K mg base "shut_moment" 4 ["walls"] [] zf0:=by
 refine D.cal (k:=3) zbw (λvs H Q E h=>by obtain⟨_,_,_,_,_,rfl,_⟩:=h;rfl) (λf cdv A outer s H vs Q E hr h=>?_)
 obtain⟨wa,v1,v2,lo,hi,rfl,hw,h1,h2,z1,z2,k⟩:=h
 have hr1:xi 1 _:=hr.mono (by decide)
 refine⟨_,(zj (qJ (pv 0) (vH rfl (zQ (zK (i:=1) zbw.nd rfl (Or.inl rfl)) (zQ (zK (i:=2) zbw.nd rfl (Or.inl rfl)) xJ))))
  (zj (xk ((jq (zI vn (pv 1) zX (zJ _)) (jq (zI vn (pv 2) zX (zJ _)) (jd (Qm (qK (zP cLs hr1 (za (zr zk (pv 2) zd (λ_ _=>rfl)) (za (zr zk (pv 1) zd (λ_ _=>rfl)) ze))) λ_=>rfl)))))).pt (zi (zM zX)) zS)
  (zi (zM (zP cO hr (za (zP cM hr (za (zr zk (pv 2) zd (λ_ _=>rfl)) (za (zr zk (pv 1) zd (λ_ _=>rfl)) ze))) (za (zP cM hr (za (zr zk (pv 1) zd (λ_ _=>rfl)) (za (zr zk (pv 2) zd (λ_ _=>rfl)) ze))) ze))))))),?_⟩
 refine⟨_,rfl,wa,_,rfl,.of hw,rfl,_,_,rfl,_,_,rfl,rfl,?_⟩
 refine⟨_,rfl,rfl,_,rfl,?_⟩
 cases lo with
 | none =>
  have e:v1 = .non:=h1
  subst e
  exact qd (k _ _ (zh.refl _) rfl)
 | some l =>
  obtain⟨a1,rfl,p1,q1,r1,ha1,hp1,hq1⟩:=h1
  refine xA ?_
  refine⟨_,rfl,rfl,_,rfl,?_⟩
  cases hi with
  | none =>
   have e:v2 = .non:=h2
   subst e
   exact qd (k _ _ (zh.refl _) rfl)
  | some h =>
   obtain⟨a2,rfl,p2,q2,r2,ha2,hp2,hq2⟩:=h2
   have y1:=z1 l rfl
   have y2:=z2 h rfl
   refine xA ?_
   refine⟨_,rfl,a2,_,_,_,rfl,rfl,.of ha2,Vm,_,rfl,a1,_,_,_,rfl,rfl,.of ha1,Vm,q2,q1,_,_,_,_,rfl,hq2,hq1,y2.2.1.mono (by decide),y2.2.2.mono (by decide),y1.2.1.mono (by decide),y1.2.2.mono (by decide),?_⟩
   refine⟨_,rfl,?_⟩
   have el:=Z9 h.2 l.2
   by_cases hlt:h.2<l.2
   ·rw[decide_eq_true hlt]at el
    rw[el]
    refine xA ?_
    have sM:qo (some l) (some h)=some ((h.1 - l.1)/(l.2 - h.2)):=if_pos hlt
    rw[sM]at k
    refine⟨_,rfl,a2,_,_,_,rfl,rfl,.of ha2,zaz,_,rfl,a1,_,_,_,rfl,rfl,.of ha1,zaz,p2,p1,_,_,rfl,hp2,hp1,⟨y2.1.mono (by decide),y1.1.mono (by decide)⟩,λm1 H1 s1 hm1=>?_⟩
    refine⟨_,rfl,a1,_,_,_,rfl,rfl,.of (s1 _ _ ha1),Vm,_,rfl,a2,_,_,_,rfl,rfl,.of (s1 _ _ ha2),Vm,q1,q2,_,_,rfl,hq1.same s1,hq2.same s1,⟨y1.2.mono (by decide),y2.2.mono (by decide)⟩,λm2 H2 s2 hm2=>?_⟩
    refine⟨m1,m2,_,_,rfl,hm1.same s2,hm2,⟨⟨(zax y2.1 y1.1).mono (by decide),(zax y1.2 y2.2).mono (by decide)⟩,?_⟩,λr H3 s3 h3=>k _ _ (s1.trans (s2.trans s3)) ⟨r,rfl,h3⟩⟩
    intro z
    have z':l.2 - h.2=0:=z
    grind
   ·rw[decide_eq_false hlt]at el
    rw[el]
    have sM:qo (some l) (some h)=none:=if_neg hlt
    rw[sM]at k
    exact qd (k _ _ (zh.refl _) rfl)
end
end KQ
end
section
set_option maxHeartbeats 4000000
set_option Elab.async false
set_option linter.all false
set_option maxRecDepth 100000
namespace L2
open PySem PySem.Spec PyProof.Rows
section
variable {J:It}{D:Addr}{n:Nat}{js:List Nat}{σ:St}{g:TG}{tt:TT}{te:TE}{Z:Hp->Prop}{H:Hp}{xs:List V}
theorem XE (p:V->Bool) (hD:H D=none) (hJ:JT J H xs) (hl:xs.length<sizeLine)
  (hs:∀(i:Nat) (x:V) (zs:St) (H2:Hp) (A:VK) (B:Hp->Prop),xs[i]? = some x->zs.length=n->zh H H2->(p x=true->A x H2)->(p x=false->B H2)->g x (zs++qO σ js) H2 λσ4 H4=>σ4.drop n=qO σ js/\tt σ4 H4 λb H5=>if b=true then te σ4 H5 A else B H5)
  (k:∀H',zh H H'->H' D=some (.lst (xs.filter p))->Z H') :
  ∃W:Nat->Nat->Hp->List V->Prop,(∃m,W 0 m (upd H D (.lst [])) [])/\∀i m H2 ys,W i m H2 ys->H2 D=some (.lst ys)->(J.stop i H2/\Z H2) ∨
   (J.go i H2/\∀zs x H3,zs.length=n->J.yld i H2 x H3->g x (zs++qO σ js) H3 λσ4 H4=>σ4.drop n=qO σ js/\tt σ4 H4 λb H5=>if b=true then te σ4 H5 (λv H6=>H6 D=some (.lst ys)/\ys.length<sizeLine/\∃m',m'<m/\W (i+1) m' (upd H6 D (.lst (ys++[v]))) (ys++[v]))
    else H5 D=some (.lst ys)/\∃m',m'<m/\W (i+1) m' H5 ys):=by
 refine jG (Q:=λ_ H=>Z H) (tt:=tt) (N:=xs.length) (λi H2 ys=>zh H H2/\ys=(xs.take i).filter p) ⟨zh.upd hD,rfl⟩ (λi H2 ys hi p=>hJ.go i H2 hi p.1) (λH2 ys p=>hJ.stop H2 p.1) ?_ (λH2 ys q e=>k H2 q.1 (by rw[e,q.2,List.take_length]))
 rintro i x zs H2 H3 ys Nx hN hi hz hy ⟨s2,rfl⟩ hD2
 obtain⟨rfl,hx⟩:=hJ.yld i x H2 H3 s2 hy
 have et:xs.take (i+1)=xs.take i++[x]:=by rw[List.take_add_one,hx];rfl
 refine hs i x zs H3 _ _ hx hz s2 (λhp=>⟨hD2,?_,hN _ _ ⟨λc o e=>?_,?_⟩⟩) (λhp=>⟨hD2,hN _ _ ⟨s2,?_⟩⟩)
 ·have:=List.length_filter_le p (xs.take i)
  have:=List.length_take_le i xs
  omega
 ·rw[zB (zC e hD)];exact s2 _ _ e
 ·rw[et,List.filter_append];simp[hp]
 ·rw[et,List.filter_append];simp[hp]
end
end L2
namespace KQ
open PySem L2 KM KK
theorem qF {K:PySem.W.Frag}{a b:Addr}{xs ys:List V}{g:TG}{tb:TS}{D:qQ}{σ:St}{H:Hp}(Pv:Nat->St->Hp->Prop) (h0:Pv 0 σ H) (hl:∀i σ H,Pv i σ H->SqL K H a xs/\SqL K H b ys)
  (hs:∀(i:Nat) (x y:V) (σ:St) (H:Hp) (T:Addr),xs[i]? = some x->ys[i]? = some y->Pv i σ H->H T=none->g (.ref T) σ (upd H T (.tup [x,y])) λσ2 H2=>tb { D with nx:=Pv (i+1),ct:=Pv (i+1),bk:=D.nx } σ2 H2)
  (hd:∀σ H,Pv (min xs.length ys.length) σ H->D.nx σ H) :
  ∃W:Nat->Nat->St->Hp->Prop,(∃m,W 0 m σ H)/\∀i m σ H,W i m σ H →
   ((zav K a b).stop i H/\D.nx σ H)\/((zav K a b).go i H/\∃N:St->Hp->Prop,(∀σ' H',N σ' H'->∃m',m'<m/\W (i+1) m' σ' H')/\∀x H',(zav K a b).yld i H x H'->g x σ H' λσ2 H2=>tb { D with nx:=N,ct:=N,bk:=D.nx } σ2 H2):=by
 refine⟨λi m σ H=>m=min xs.length ys.length - i/\i<=min xs.length ys.length/\Pv i σ H,⟨min xs.length ys.length,by simp,Nat.zero_le _,h0⟩,?_⟩
 rintro i m σ H ⟨rfl,hi,p⟩
 obtain⟨q1,q2⟩:=hl i σ H p
 by_cases hlt:i<min xs.length ys.length
 ·refine .inr ⟨⟨xs,ys,xs[i]'(by omega),ys[i]'(by omega),q1,q2,by simp,by simp⟩,Pv (i+1),λσ' H' p'=>⟨min xs.length ys.length - (i+1),by omega,rfl,hlt,p'⟩,λx H' y=>?_⟩
  obtain⟨T,u,v,rfl,hT,rfl,e1,e2⟩:=y
  exact hs i u v σ H T (e1 xs q1) (e2 ys q2) p hT
 ·have e:i=min xs.length ys.length:=by omega
  subst e
  exact .inl ⟨⟨xs,ys,q1,q2,by omega⟩,hd σ H p⟩
theorem zeM {us:List V}:qq us (some 1) none=us.drop 1:=by
 cases us with
 | nil=>rfl
 | cons a r =>
  unfold qq HT.sIx
  simp
theorem X0 {n:Nat}{a b:Int}(h:Bd n a) (k:Bd n b):Bd (n+1) (a - b):=by
 unfold Bd at *
 have:=Int.natAbs_sub_le a b
 rw[Nat.pow_succ];omega
def QT:Option (Int×Int)->List (Int×Int)
 | none=>[]
 | some w=>[w]
def chn (trs:List (Int×Int)) (lo hi:Option (Int×Int)):List (Int×Int):=QT lo++trs++QT hi
def qk (f:Option (Int×Int)) (p:(Int×Int)×(Int×Int)):Option (Int×Int) :=
 if p.2.2<p.1.2 then(match f with
  | none=>some (p.2.1 - p.1.1,p.1.2 - p.2.2)
  | some u=>if(p.2.1 - p.1.1)*u.2<u.1*(p.1.2 - p.2.2)then some (p.2.1 - p.1.1,p.1.2 - p.2.2)else some u)else f
theorem JN {l r:Int×Int}(h:r.2<l.2):qk none (l,r)=some (r.1 - l.1,l.2 - r.2):=if_pos h
theorem JO {l r u:Int×Int}(h:r.2<l.2):qk (some u) (l,r)=if(r.1 - l.1)*u.2<u.1*(l.2 - r.2)then some (r.1 - l.1,l.2 - r.2)else some u:=if_pos h
def soon (ch:List (Int×Int)):Option (Int×Int):=(ch.zip ch.tail).foldl qk none
theorem zcZ {H:Hp}:xR H [] []:=⟨rfl,λi v e=>by simp at e⟩
theorem JQ {H:Hp}{v:V}{w:Option (Int×Int)} (h:vM H v w):xR H ([v].filter λv=>!decide (v = .non)) (QT w):=by
 cases w with
 | none =>
  have e:v = .non:=h
  subst e;exact zcZ
 | some w =>
  obtain⟨a,e,h⟩:=h
  subst e
  rw[List.filter_cons_of_pos (by simp)]
  refine⟨rfl,λi v e=>?_⟩
  cases i with
  | zero=>simp at e;subst e;exact⟨w,rfl,a,rfl,h⟩
  | succ i=>simp at e
theorem zcY {H:Hp}{vs:List V}{ts:List (Int×Int)} (h:xR H vs ts):(vs.filter λv=>!decide (v = .non))=vs:=by
 refine List.filter_eq_self.mpr λv hv=>?_
 obtain⟨i,hi⟩:=List.getElem?_of_mem hv
 obtain⟨t,_,a,rfl,_⟩:=h.2 i v hi
 simp
theorem Xp {H:Hp}{vs vs':List V}{ts ts':List (Int×Int)} (h:xR H vs ts) (h':xR H vs' ts'):xR H (vs++vs') (ts++ts'):=by
 refine⟨by simp[h.1,h'.1],λi v e=>?_⟩
 by_cases hi:i<vs.length
 ·rw[List.getElem?_append_left hi]at e
  rw[List.getElem?_append_left (by rw[<-h.1];exact hi)]
  exact h.2 i v e
 ·rw[List.getElem?_append_right (by omega)]at e
  rw[List.getElem?_append_right (by rw[<-h.1];omega),<-h.1]
  exact h'.2 _ v e
section
variable {P:Program}{w:World}{K:PySem.W.Frag}{mg:Str->Option Value}{base:Heap}
def zf3 (C:Addr):Sp:=λvs H Q _=>∃c pb sb tk ws trs lo hi,vs=[V.ref c]/\Xq H C c pb sb tk ws trs lo hi/\trs.length<=8/\(∀t∈chn trs lo hi,Bd 4000 t.1/\Bd 4000 t.2)/\∀v H',zh H H'->vM H' v (soon (chn trs lo hi))->Q v H'
theorem Xm:zG ["course","chain","found","left","right","ticks"] ["course"] (zg vC):=⟨rfl,rfl,rfl,by decide +kernel,rfl,by decide +kernel,by decide +kernel⟩
theorem zfm {C:Addr}(D:Df K mg "soonest" vC ["course"] []) (T:TxQ K mg) (TC:TCo K C) (cLs:Cal P w K mg base "less" 1 ["one","other"] [] zbB):Cal P w K mg base "soonest" 2 ["course"] [] (zf3 C):=by
 refine D.cal (k:=1) Xm (λvs H Q E h=>by obtain⟨_,_,_,_,_,_,_,_,rfl,_⟩:=h;rfl) (λf cdv A outer s H vs Q E hr h=>?_)
 obtain⟨c,pb,sb,tk,ws,trs,lo,hi,rfl,⟨dx,fs,hc,F⟩,hl,hz,k⟩:=h
 obtain⟨tl,tv,e1,htl,htr⟩:=F.tracks
 obtain⟨lv,e2,hlv⟩:=F.low
 obtain⟨hv,e3,hhv⟩:=F.high
 have z20:20<sizeLine:=vg (Nat.le_refl _)
 have lt:=htr.1
 refine⟨_,(zj (vR (i:=1) (NB:=["track"]) (FR:=[]) (js:=[]) rfl rfl (λ_ _ h=>by cases h) .nil rfl (by decide +kernel) rfl (by decide +kernel) Xm.nd rfl rfl (by rfl) (xS (zA Xe (zA Xe (xB (za (xb (pv 0) rfl) ze)) (xb (pv 0) rfl)) (xB (za (xb (pv 0) rfl) ze)))) (by intro _ _ _;refine⟨?_,?_,?_⟩;(exact(zK (i:=0) (show List.Nodup (["track"]:List Str) by decide +kernel) rfl (Or.inl rfl)));(exact(Qn (zI qI (pv 0) zX (zJ _))));(exact(pv 0))))
  (zj (zL (i:=2) Xm.nd rfl (Or.inl rfl) zX)
  (zj (vI PassesOwn.never rfl (Jt (by rfl) T.nZip (za (pv 1) (za (vi jg (pv 1) (xT zd) Ql) ze))) (vH rfl (zQ (zK (i:=3) Xm.nd rfl (Or.inl rfl)) (zQ (zK (i:=4) Xm.nd rfl (Or.inl rfl)) xJ))) (zi (xk (zI Xf (zr zk (pv 3) zd (λ_ _=>rfl)) (zr zk (pv 4) zd (λ_ _=>rfl)) (zJ _)) (zj (zL (i:=5) Xm.nd rfl (Or.inl rfl) (xv (za (zA qj (zr zk (pv 4) zd (λ_ _=>rfl)) (zr zk (pv 3) zd (λ_ _=>rfl))) (za (zA qj (zr zk (pv 3) zd (λ_ _=>rfl)) (zr zk (pv 4) zd (λ_ _=>rfl))) ze))))
  (zi (xk ((jq (zI vn (pv 2) zX (zJ _)) (jd (qK (zP cLs hr (za (pv 5) (za (pv 2) ze))) λ_=>rfl)))).pt (zi (zL (i:=2) Xm.nd rfl (Or.inl rfl) (pv 5))) zS))) zS)))
  (zi (zM (pv 2)))))),?_⟩
 refine⟨_,rfl,c,C,dx,fs,lv,rfl,hc,TC.cls,TC.low,e2,by show 1<=sizeLine;decide,λp1 hp1=>?_⟩
 have S1:zh H (upd H p1 (.lst [lv])):=zh.upd hp1
 refine⟨_,rfl,c,C,dx,fs,_,rfl,S1 _ _ hc,TC.cls,TC.tracks,e1,p1,tl,_,_,rfl,rfl,zf,S1 _ _ htl,by rw[List.length_cons,List.length_nil];omega,λp2 hp2=>?_⟩
 have S2:=S1.trans (zh.upd (o:=.lst ([lv]++tv)) hp2)
 refine⟨_,rfl,c,C,dx,fs,hv,rfl,S2 _ _ hc,TC.cls,TC.high,e3,by show 1<=sizeLine;decide,λp3 hp3=>?_⟩
 have S3:=S2.trans (zh.upd (o:=.lst [hv]) hp3)
 refine⟨p2,p3,_,_,rfl,rfl,zh.upd hp3 _ _ zf,zf,by simp only[List.length_append,List.length_cons,List.length_nil];omega,λp4 hp4=>?_⟩
 have S4:=S3.trans (zh.upd (o:=.lst ([lv]++tv++[hv])) hp4)
 refine⟨p4,rfl,⟨_,SqL.of zf⟩,λDa hD=>?_⟩
 refine XE (J:=Itl K p4) (n:=1) (js:=[]) (g:=zN 0) (te:=xQ 0) (xs:=[lv]++tv++[hv]) (λv=>!decide (v = .non)) hD (xW zf) (vg (by simp only[List.length_append,List.length_cons,List.length_nil];omega)) ?_ ?_
 ·intro m x zs H2 A2 B2 hx hz2 s2 ka kb
  obtain⟨z1,rfl⟩:=jL hz2
  dsimp only[zN]
  refine⟨rfl,_,rfl,rfl,_,rfl,?_⟩
  cases e:decide (x=V.non)with
  | true=>exact kb (by simp[e])
  | false=>exact⟨_,rfl,ka (by simp[e])⟩
 intro H5 s5 hy
 have S5:zh H H5:=S4.trans s5
 have hT:xR H5 (([lv]++tv++[hv]).filter λv=>!decide (v = .non)) (chn trs lo hi):=by
  rw[List.filter_append,List.filter_append,zcY htr]
  exact(Xp (Xp (JQ hlv) htr) (JQ hhv)).keeps (.of S5)
 generalize (([lv]++tv++[hv]).filter λv=>!decide (v = .non))=ys at hT hy
 dsimp only[zN]
 refine⟨_,rfl,_,rfl,1,rfl,Da,ys,rfl,.of hy,λp5 hp5=>?_⟩
 rw[zeM]
 have S6:zh H5 (upd H5 p5 (.lst (ys.drop 1))):=zh.upd hp5
 have hy6:=S6 _ _ hy
 have hp6:upd H5 p5 (.lst (ys.drop 1)) p5=some (.lst (ys.drop 1)):=zf
 replace hT:=hT.keeps (.of S6)
 have S7:zh H (upd H5 p5 (.lst (ys.drop 1))):=S5.trans S6
 generalize upd H5 p5 (.lst (ys.drop 1))=G at S6 hy6 hp6 hT S7
 generalize chn trs lo hi=ch at hT hz k
 refine⟨Da,p5,rfl,⟨_,.of hy6⟩,⟨_,.of hp6⟩,qF (xs:=ys) (ys:=ys.drop 1) (λi σ H'=>zh G H'/\∃fv z3 z4 z5,σ=[some (.ref c),some (.ref Da),some fv,z3,z4,z5]/\vM H' fv (((ch.zip ch.tail).take i).foldl qk none)/\∀u,((ch.zip ch.tail).take i).foldl qk none=some u->Bd 4001 u.1/\Bd 4001 u.2)
  ⟨zh.refl _,.non,_,_,_,rfl,rfl,λu e=>by cases e⟩ (λi σ H' ⟨s',_⟩=>⟨.of (s' _ _ hy6),.of (s' _ _ hp6)⟩) ?_ ?_⟩
 ·rintro i x y σ H' T' hx hy' ⟨s',fv,z3,z4,z5,rfl,hfv,hsz⟩ hT'
  obtain⟨t1,et1,a1,rfl,ha1⟩:=hT.2 i x hx
  rw[List.getElem?_drop]at hy'
  obtain⟨t2,et2,a2,rfl,ha2⟩:=hT.2 _ y hy'
  have S8:zh G (upd H' T' (.tup [.ref a1,.ref a2])):=s'.trans (zh.upd hT')
  have hfv':=hfv.keeps (.of (zh.upd (o:=.tup [.ref a1,.ref a2]) hT'))
  have hTT:upd H' T' (.tup [.ref a1,.ref a2]) T'=some (.tup [.ref a1,.ref a2]):=zf
  generalize upd H' T' (.tup [.ref a1,.ref a2])=G2 at S8 hfv' hTT
  have b1:=hz t1 (List.mem_of_getElem? et1)
  have b2:=hz t2 (List.mem_of_getElem? et2)
  have ez:(ch.zip ch.tail)[i]? = some (t1,t2):=by
   rw[List.getElem?_zip_eq_some]
   refine⟨et1,?_⟩
   rw[<-List.drop_one,List.getElem?_drop];exact et2
  have ef:((ch.zip ch.tail).take (i+1)).foldl qk none=qk (((ch.zip ch.tail).take i).foldl qk none) (t1,t2):=by
   rw[List.take_add_one,ez];simp[List.foldl_append]
  rw[ef]
  generalize ((ch.zip ch.tail).take i).foldl qk none=fo at hfv hfv' hsz
  refine⟨T',_,rfl,.of hTT,rfl,_,_,rfl,_,_,rfl,rfl,?_⟩
  have ga1:=S8 _ _ ha1
  have ga2:=S8 _ _ ha2
  refine⟨_,rfl,a1,_,_,_,rfl,rfl,.of ga1,at1 ..,_,rfl,a2,_,_,_,rfl,rfl,.of ga2,at1 ..,_,_,rfl,rfl,_,rfl,qH (λh=>?_) (λh=>?_)⟩
  ·have h':t2.2<t1.2:=of_decide_eq_true h
   refine⟨_,rfl,a2,_,_,_,rfl,rfl,.of ga2,at0 ..,_,rfl,a1,_,_,_,rfl,rfl,.of ga1,at0 ..,_,_,rfl,rfl,_,rfl,a1,_,_,_,rfl,rfl,.of ga1,at1 ..,_,rfl,a2,_,_,_,rfl,rfl,.of ga2,at1 ..,_,_,rfl,rfl,by show 2<=sizeLine;decide,λtp htp=>?_⟩
   have d1:=X0 b2.1 b1.1
   have d2:=X0 b1.2 b2.2
   refine⟨_,rfl,rfl,_,rfl,?_⟩
   cases fo with
   | none =>
    have e:fv = .non:=hfv
    subst e
    refine qd ⟨_,rfl,⟨S8.trans (zh.upd htp),.ref tp,_,_,_,rfl,?_,?_⟩⟩
    ·rw[JN h'];exact⟨tp,rfl,zf⟩
    ·rw[JN h'];intro u eu;cases eu;exact⟨d1,d2⟩
   | some u =>
    obtain⟨af,rfl,haf⟩:=hfv'
    have bu:=hsz u rfl
    refine xA ?_
    refine⟨_,rfl,_,rfl,tp,af,_,_,_,_,rfl,zf,zh.upd htp _ _ haf,d1.mono (by decide),d2.mono (by decide),bu.1.mono (by decide),bu.2.mono (by decide),_,rfl,qH (λhh=>?_) (λhh=>?_)⟩
    ·have es':qk (some u) (t1,t2)=some (t2.1 - t1.1,t1.2 - t2.2):=(JO h').trans (if_pos (of_decide_eq_true hh))
     refine⟨_,rfl,⟨S8.trans (zh.upd htp),.ref tp,_,_,_,rfl,?_,?_⟩⟩
     ·rw[es'];exact⟨tp,rfl,zf⟩
     ·rw[es'];intro u eu;cases eu;exact⟨d1,d2⟩
    ·have es':qk (some u) (t1,t2)=some u:=(JO h').trans (if_neg λz=>hh (decide_eq_true z))
     refine⟨S8.trans (zh.upd htp),.ref af,_,_,_,rfl,?_,?_⟩
     ·rw[es'];exact⟨af,rfl,zh.upd htp _ _ haf⟩
     ·rw[es'];exact hsz
  ·have es:qk fo (t1,t2)=fo:=if_neg λz=>h (decide_eq_true z)
   refine⟨S8,fv,_,_,_,rfl,?_,?_⟩
   ·rw[es];exact hfv'
   ·rw[es];exact hsz
 ·rintro σ H' ⟨s',fv,z3,z4,z5,rfl,hfv,hsz⟩
  refine⟨_,rfl,k _ _ (S7.trans s') ?_⟩
  have e:(ch.zip ch.tail).take (min ys.length (ys.drop 1).length)=ch.zip ch.tail:=List.take_of_length_le (by rw[List.length_zip,List.length_drop,List.length_tail,hT.1];omega)
  rw[e]at hfv
  exact hfv
end
end KQ
end
section
set_option maxHeartbeats 4000000
set_option Elab.async false
set_option linter.all false
set_option maxRecDepth 100000
namespace KQ
open PySem L2 KM KK
theorem zbM {H:Hp}{a:Addr}{o:HO}(h:H a=some o):upd H a o=H:=by
 funext b
 by_cases e:b=a
 ·subst e;rw[zf];exact h.symm
 ·rw[zB e]
section
variable {P:Program}{w:World}{K:PySem.W.Frag}{mg:Str->Option Value}{base:Heap}{C0:Addr}
def zcR (C:Addr):Sp:=λvs H Q _=>∃a y,vs=[.ref a,y]/\H a=some (XO a C none)/\∀dx,H dx=none->Q .non (upd (upd H dx (.xd [("moment",y)])) a (XO a C (some dx)))
theorem zcG:zG ["self","moment"] ["self","moment"] (zg qE):=⟨rfl,rfl,rfl,by decide +kernel,rfl,by decide +kernel,by decide +kernel⟩
theorem zcj {C f:Addr}{fd:FuncData}{mc:Value}{cd:ClassData}(F:Fun K "__init__" "Shut.__init__" qE f fd) (U:XUp K C0 mc) (hm:mg "ClackError" = some (.ref C0)) (B:XB base C) (S:zay K C cd) (n:xz K C "moment"):vL P w K mg base CX0 1 f fd ["self","moment"] (zcR C):=by
 refine F.ok (k:=0) zcG (λvs H Q E h=>by obtain⟨_,_,rfl,_⟩:=h;rfl) (λcdv A outer s H vs Q E hr h=>?_)
 obtain⟨a,y,rfl,ea,k⟩:=h
 refine⟨_,zj (xU (zdj U hm (za (pv 0) (za vV ze)))) (zi (zdk (pv 0) (pv 1) rfl)),?_⟩
 refine⟨_,rfl,a,C,_,rfl,ea,B,?_⟩
 rw[zbM ea]
 exact⟨_,rfl,_,rfl,a,C,cd,rfl,ea,S,n,k⟩
def qP (tk:Rat) (t:Int×Int):Rat:=Rat.divInt (t.1*tk.num) (t.2*(tk.den:Int))
def zes (C CS:Addr):Sp:=λvs H Q E=>∃c pb sb tk ws trs lo hi wa v1 v2 wlo whi,vs=[V.ref c,.ref wa]/\Xq H C c pb sb tk ws trs lo hi/\trs.length<=8/\(∀t∈chn trs lo hi,Bd 4000 t.1/\Bd 4000 t.2)/\Sz 4400 tk ∧
 H wa=some (.tup [v1,v2])/\qR H v1 wlo/\qR H v2 whi/\(∀t,wlo=some t->Sz 400 t.1/\Sz 400 t.2)/\(∀t,whi=some t->Sz 400 t.1/\Sz 400 t.2) ∧
 (∀H',zh H H'->soon (chn trs lo hi)=none->Q .non H') ∧
 (∀v t H',zh H H'->soon (chn trs lo hi)=some t->qo wlo whi≠some (qP tk t)->vM H' v (some t)->Q v H') ∧
 (∀t p dx H',zh H H'->soon (chn trs lo hi)=some t->qo wlo whi=some (qP tk t)->H' dx=some (.xd [("moment",.ref p)])->zF H' p (qP tk t)->E (.ref CS) (some dx) H')
theorem zbr:zG ["course","walls","ticks","shut"] ["course","walls"] (zg xY):=⟨rfl,rfl,rfl,by decide +kernel,rfl,by decide +kernel,by decide +kernel⟩
theorem Q0:∀{l:List ((Int×Int)×(Int×Int))}{f:Option (Int×Int)},(∀u,f=some u->0<u.2)->(∀u,l.foldl qk f=some u->0<u.2)
 | [],_,h=>h
 | p::l,f,h=>by
  refine Q0 (l:=l) (f:=qk f p) λu hu=>?_
  unfold qk at hu
  split at hu
  ·split at hu
   ·cases hu;show 0<_;omega
   ·split at hu
    ·cases hu;show 0<_;omega
    ·exact h u hu
  ·exact h u hu
theorem JE:∀{l:List ((Int×Int)×(Int×Int))}{f:Option (Int×Int)},(∀p∈l,(Bd 4000 p.1.1/\Bd 4000 p.1.2)/\Bd 4000 p.2.1/\Bd 4000 p.2.2)->(∀u,f=some u->Bd 4001 u.1/\Bd 4001 u.2)->(∀u,l.foldl qk f=some u->Bd 4001 u.1/\Bd 4001 u.2)
 | [],_,_,h=>h
 | p::l,f,hp,h=>by
  have z:=hp p List.mem_cons_self
  refine JE (l:=l) (f:=qk f p) (λx hx=>hp x (List.mem_cons_of_mem _ hx)) λu hu=>?_
  have d:Bd 4001 (p.2.1 - p.1.1)/\Bd 4001 (p.1.2 - p.2.2):=⟨X0 z.2.1 z.1.1,X0 z.1.2 z.2.2⟩
  unfold qk at hu
  split at hu
  ·split at hu
   ·cases hu;exact d
   ·split at hu
    ·cases hu;exact d
    ·exact h u hu
  ·exact h u hu
theorem Qu {ch:List (Int×Int)} (hz:∀t∈ch,Bd 4000 t.1/\Bd 4000 t.2){t:Int×Int}(h:soon ch=some t):0<t.2/\Bd 4001 t.1/\Bd 4001 t.2:=by
 refine⟨Q0 (λu e=>by cases e) t h,JE (λp hp=>?_) (λu e=>by cases e) t h⟩
 have z:=List.of_mem_zip hp
 exact⟨hz _ z.1,hz _ (List.mem_of_mem_tail z.2)⟩
theorem ze5 {C CS f11:Addr}{fd11:FuncData}(D:Df K mg "first_ticks" xY ["course","walls"] []) (TC:TCo K C) (cSo:Cal P w K mg base "soonest" 2 ["course"] [] (zf3 C)) (cSh:Cal P w K mg base "shut_moment" 4 ["walls"] [] zf0)
  (cMo:Cal P w K mg base "moment_of" 3 ["course","ticks"] [] (zbC C)) (XM:XMk K base CS f11) (F11:vL P w K mg base CX0 1 f11 fd11 ["self","moment"] (zcR CS)) (hmS:mg "Shut" = some (.ref CS)) (B11:vh K fd11 ["self","moment"] []) :
  jZ P w K mg base "first_ticks" 5 ["course","walls"] [] (zes C CS):=by
 refine D.cal1 (k:=4) zbr (λvs H Q E h=>by obtain⟨_,_,_,_,_,_,_,_,_,_,_,_,_,rfl,_⟩:=h;rfl) (λf cdv A outer s H vs Q E hr h=>?_)
 obtain⟨c,pb,sb,tk,ws,trs,lo,hi,wa,v1,v2,wlo,whi,rfl,hco,hl,hz,htk,hw,h1,h2,z1,z2,k1,k2,k3⟩:=h
 have hr2:xi 2 _:=hr.mono (by decide)
 have hr3:xi 3 _:=hr.mono (by decide)
 have hu:=hr.units
 refine⟨_,(zj (zL (i:=2) zbr.nd rfl (Or.inl rfl) (zP cSo hr2 (za (pv 0) ze)))
  (zj (xk (zI vn (pv 2) zX (zJ _)) (zi (zM zX)) zS)
  (zj (zL (i:=3) zbr.nd rfl (Or.inl rfl) (zP cSh hr (za (pv 1) ze)))
  (zj (xk ((vX (zI qI (pv 3) zX (zJ _)) (vf (zI (Zb hu) (pv 3) (zP cMo hr3 (za (pv 0) (za (pv 2) ze))) (zJ _))))).pt (zi (XT XM F11 hr2 hmS B11 hr.hd jB (za (pv 3) ze))) zS)
  (zi (zM (pv 2))))))),?_⟩
 refine⟨_,rfl,c,pb,sb,tk,ws,trs,lo,hi,rfl,hco,hl,hz,λtv H1 s1 htv=>?_⟩
 dsimp only[zN]
 refine⟨_,rfl,rfl,_,rfl,?_⟩
 cases es:soon (chn trs lo hi)with
 | none =>
  rw[es]at htv
  have e:tv = .non:=htv
  subst e
  exact qd (k1 H1 s1 es)
 | some t =>
  rw[es]at htv
  obtain⟨ta,rfl,hta⟩:=htv
  refine xA ?_
  refine⟨_,rfl,wa,v1,v2,wlo,whi,rfl,s1 _ _ hw,h1.keeps (.of s1),h2.keeps (.of s1),z1,z2,λsv H2 s2 hsv=>?_⟩
  have so:=Qu hz es
  obtain⟨dx,fs,hc,Fc⟩:=hco
  obtain⟨tp,etp,htp⟩:=Fc.tick
  dsimp only[zN]
  refine⟨_,rfl,rfl,_,rfl,?_⟩
  cases em:qo wlo whi with
  | none =>
   rw[em]at hsv
   have e:sv = .non:=hsv
   subst e
   refine xA ⟨_,rfl,k2 _ t H2 (s1.trans s2) es (by rw[em];intro z;cases z) ⟨ta,rfl,s2 _ _ hta⟩⟩
  | some q =>
   rw[em]at hsv
   obtain⟨sa,rfl,hsa⟩:=hsv
   refine qd ?_
   refine⟨_,rfl,_,rfl,_,rfl,c,ta,dx,fs,tp,tk,t.1,t.2,rfl,s2 _ _ (s1 _ _ hc),etp,s2 _ _ (s1 _ _ htp),s2 _ _ hta,by omega,so.2.1.mono (by decide),so.2.2.mono (by decide),htk,λmr H3 s3 hmr=>?_⟩
   refine⟨_,_,(hsa.same s3).rd,hmr.rd,qa _,qa _,_,rfl,?_⟩
   rw[zaO]
   by_cases e:q=qP tk t
   ·rw[decide_eq_true (show q=Rat.divInt (t.1*tk.num) (t.2*(tk.den:Int))from e)]
    refine qd ?_
    refine⟨_,rfl,by show 1<=sizeLine;decide,λp hp=>⟨p,_,rfl,zf,λd hd=>⟨rfl,some d,zf,?_⟩⟩⟩
    have hdp:d≠p:=λz=>by subst z;rw[zf]at hd;cases hd
    have hd3:H3 d=none:=by rw[zB hdp]at hd;exact hd
    have eG:∀b,b≠p->b≠d->ZY p (upd (upd (upd H3 p (XO p CS none)) d (.xd [("moment",.ref sa)])) p (XO p CS (some d))) b=H3 b:=λb hb hb2=>by
     rw[qu hb,zB hb,zB hb2,zB hb]
    have SG:zh H3 (ZY p (upd (upd (upd H3 p (XO p CS none)) d (.xd [("moment",.ref sa)])) p (XO p CS (some d)))):=λb o eb=>by
     rw[eG b (zC eb hp) (zC eb hd3)];exact eb
    refine k3 t sa d _ (s1.trans (s2.trans (s3.trans SG))) es (by rw[em,e]) ?_ ?_
    ·rw[qu hdp,zB hdp,zf]
    ·rw[<-e];exact SG _ _ (s3 _ _ hsa)
   ·rw[decide_eq_false (show ¬q=Rat.divInt (t.1*tk.num) (t.2*(tk.den:Int))from e)]
    refine xA ⟨_,rfl,k2 _ t H3 (s1.trans (s2.trans s3)) es (by rw[em];intro z;cases z;exact e rfl) ⟨ta,rfl,s3 _ _ (s2 _ _ hta)⟩⟩
end
end KQ
end
section
set_option maxHeartbeats 4000000
set_option Elab.async false
set_option linter.all false
set_option maxRecDepth 100000
namespace KQ
open PySem L2 KM KK
def tkO (bs:List Bl) (lo hi:Option (Rat×Rat)):Rat:=Rat.divInt (sbO bs lo hi) (pbO bs lo hi)
def trO (bs:List Bl) (lo hi:Option (Rat×Rat)):List (Int×Int):=bs.map λb=>trB (pbO bs lo hi) (sbO bs lo hi) (b.pl,b.sp)
def chO (bs:List Bl) (lo hi:Option (Rat×Rat)):List (Int×Int):=chn (trO bs lo hi) (lo.map (trB (pbO bs lo hi) (sbO bs lo hi))) (hi.map (trB (pbO bs lo hi) (sbO bs lo hi)))
structure In (H:Hp) (r wa:Addr) (bs:List Bl) (lo hi:Option (Rat×Rat)):Prop where
 row:∃us,H r=some (.tup us)/\ZV H us bs
 walls:∃v1 v2,H wa=some (.tup [v1,v2])/\qR H v1 lo/\qR H v2 hi
 len:bs.length<=8
 sz:∀t∈ths bs lo hi,Sz 400 t.1/\Sz 400 t.2
 bd:∀t∈chO bs lo hi,Bd 4000 t.1/\Bd 4000 t.2
 tk:Sz 4400 (tkO bs lo hi)
theorem In.lo {H:Hp}{r wa:Addr}{bs:List Bl}{lo hi:Option (Rat×Rat)} (I:In H r wa bs lo hi):∀t,lo=some t->Sz 400 t.1/\Sz 400 t.2:=λt e=>I.sz t (by unfold ths;rw[e];simp[xP])
theorem In.hi {H:Hp}{r wa:Addr}{bs:List Bl}{lo hi:Option (Rat×Rat)} (I:In H r wa bs lo hi):∀t,hi=some t->Sz 400 t.1/\Sz 400 t.2:=λt e=>I.sz t (by unfold ths;rw[e];simp[xP])
end KQ
end
section
set_option maxHeartbeats 4000000
set_option Elab.async false
set_option linter.all false
set_option maxRecDepth 100000
namespace KQ
open PySem L2 KM KK
section
variable {P:Program}{w:World}{K:PySem.W.Frag}{mg:Str->Option Value}{base:Heap}
def xG (l t:Int×Int):Int:=l.1*t.2+l.2*t.1
def BdP (n:Nat) (t:Int×Int):Prop:=Bd n t.1/\Bd n t.2
def zbD:Sp:=λvs H Q _=>∃a b l t,vs=[V.ref a,.ref b]/\H a=some (.tup [.int l.1,.int l.2])/\H b=some (.tup [.int t.1,.int t.2])/\BdP 4400 l/\BdP 4400 t/\Q (.int (xG l t)) H
theorem zbx:zG ["track","ticks"] ["track","ticks"] (zg vD):=⟨rfl,rfl,rfl,by decide +kernel,rfl,by decide +kernel,by decide +kernel⟩
theorem zfn (D:Df K mg "spot_at" vD ["track","ticks"] []):Cal P w K mg base "spot_at" 1 ["track","ticks"] [] zbD:=by
 refine D.cal (k:=0) zbx (λvs H Q E h=>by obtain⟨_,_,_,_,rfl,_⟩:=h;rfl) (λf cdv A outer s H vs Q E hr h=>?_)
 obtain⟨a,b,l,t,rfl,ha,hb,zl,zt,k⟩:=h
 refine⟨_,(zi (zM (zA xa (zA zO (zr zk (pv 0) zd (λ_ _=>rfl)) (zr zk (pv 1) zd (λ_ _=>rfl))) (zA zO (zr zk (pv 0) zd (λ_ _=>rfl)) (zr zk (pv 1) zd (λ_ _=>rfl)))))),?_⟩
 exact⟨_,rfl,a,_,_,_,rfl,rfl,.of ha,at0 ..,_,rfl,b,_,_,_,rfl,rfl,.of hb,at1 ..,_,_,rfl,rfl,⟨zl.1.mono (by decide),zt.2.mono (by decide)⟩,_,rfl,a,_,_,_,rfl,rfl,.of ha,at1 ..,_,rfl,b,_,_,_,rfl,rfl,.of hb,at0 ..,_,_,rfl,rfl,⟨zl.2.mono (by decide),zt.1.mono (by decide)⟩,_,_,rfl,rfl,k⟩
def atS (w:Option (Int×Int)) (t:Int×Int) (s:Int):Bool:=match w with
 | none=>false
 | some l=>decide (s=xG l t)
def xM (lo hi:Option (Int×Int)) (t:Int×Int) (s:Int):Str:=if atS lo t s then "low" else if atS hi t s then "high" else ""
def zf1 (C:Addr):Sp:=λvs H Q _=>∃c b pb sb tk ws trs lo hi s t,vs=[V.ref c,.int s,.ref b]/\Xq H C c pb sb tk ws trs lo hi/\H b=some (.tup [.int t.1,.int t.2])/\BdP 4400 t/\(∀l,lo=some l->BdP 4400 l)/\(∀l,hi=some l->BdP 4400 l)/\Q (.str (xM lo hi t s)) H
theorem zfH:zG ["course","spot","ticks"] ["course","spot","ticks"] (zg vB):=⟨rfl,rfl,rfl,by decide +kernel,rfl,by decide +kernel,by decide +kernel⟩
theorem zfk {C:Addr}(D:Df K mg "side_at" vB ["course","spot","ticks"] []) (TC:TCo K C) (cSp:Cal P w K mg base "spot_at" 1 ["track","ticks"] [] zbD):Cal P w K mg base "side_at" 2 ["course","spot","ticks"] [] (zf1 C):=by
 refine D.cal (k:=1) zfH (λvs H Q E h=>by obtain⟨_,_,_,_,_,_,_,_,_,_,_,rfl,_⟩:=h;rfl) (λf cdv A outer s H vs Q E hr h=>?_)
 obtain⟨c,b,pb,sb,tk,ws,trs,lo,hi,sp,t,rfl,⟨dx,fs,hc,F⟩,hb,zt,zlo,zhi,k⟩:=h
 obtain⟨lv,e2,hlv⟩:=F.low
 obtain⟨hv,e3,hhv⟩:=F.high
 refine⟨_,(zj (xk ((vX (zI qI (xb (pv 0) rfl) zX (zJ _)) (vf (zI vp (pv 1) (zP cSp hr (za (xb (pv 0) rfl) (za (pv 2) ze))) (zJ _))))).pt (zi (zM vV)) zS)
  (zj (xk ((vX (zI qI (xb (pv 0) rfl) zX (zJ _)) (vf (zI vp (pv 1) (zP cSp hr (za (xb (pv 0) rfl) (za (pv 2) ze))) (zJ _))))).pt (zi (zM vV)) zS)
  (zi (zM vV)))),?_⟩
 refine⟨_,rfl,c,C,dx,fs,lv,rfl,hc,TC.cls,TC.low,e2,rfl,_,rfl,?_⟩
 cases elo:lo with
 | none =>
  subst elo
  have e:lv = .non:=hlv
  subst e
  have e0:atS none t sp=false:=rfl
  generalize hlo:(none:Option (Int×Int))=lo at e0 k
  refine xA ?_
  refine⟨_,rfl,c,C,dx,fs,hv,rfl,hc,TC.cls,TC.high,e3,rfl,_,rfl,?_⟩
  cases hi with
  | none =>
   have e:hv = .non:=hhv
   subst e
   refine xA ?_
   have es:xM lo none t sp = "":=by unfold xM;rw[if_neg (by rw[e0];simp)];rfl
   rw[es]at k;exact k
  | some h =>
   obtain⟨ah,rfl,hah⟩:=hhv
   refine qd ?_
   refine⟨_,rfl,_,rfl,c,C,dx,fs,_,rfl,hc,TC.cls,TC.high,e3,_,rfl,ah,b,h,t,rfl,hah,hb,zhi h rfl,zt,rfl,_,rfl,qH (λhh=>?_) (λhh=>?_)⟩
   ·have e':sp=xG h t:=by have:=of_decide_eq_true hh;injection this
    have es:xM lo (some h) t sp = "high":=by unfold xM;rw[if_neg (by rw[e0];simp),if_pos (show atS (some h) t sp=true from decide_eq_true e')]
    rw[es]at k;exact k
   ·have e':¬sp=xG h t:=λz=>hh (decide_eq_true (by rw[z]))
    have es:xM lo (some h) t sp = "":=by unfold xM;rw[if_neg (by rw[e0];simp),if_neg (show ¬atS (some h) t sp=true from λz=>e' (of_decide_eq_true z))]
    rw[es]at k;exact k
 | some l =>
  subst elo
  obtain⟨al,rfl,hal⟩:=hlv
  refine qd ?_
  refine⟨_,rfl,_,rfl,c,C,dx,fs,_,rfl,hc,TC.cls,TC.low,e2,_,rfl,al,b,l,t,rfl,hal,hb,zlo l rfl,zt,rfl,_,rfl,qH (λhh=>?_) (λhh=>?_)⟩
  ·have e':sp=xG l t:=by have:=of_decide_eq_true hh;injection this
   have es:xM (some l) hi t sp = "low":=by unfold xM;rw[if_pos (show atS (some l) t sp=true from decide_eq_true e')]
   rw[es]at k;exact k
  ·have e':¬sp=xG l t:=λz=>hh (decide_eq_true (by rw[z]))
   have e0:atS (some l) t sp=false:=decide_eq_false e'
   generalize hlo:some l=lo at e0 k
   refine⟨_,rfl,c,C,dx,fs,hv,rfl,hc,TC.cls,TC.high,e3,rfl,_,rfl,?_⟩
   cases hi with
   | none =>
    have e:hv = .non:=hhv
    subst e
    refine xA ?_
    have es:xM lo none t sp = "":=by unfold xM;rw[if_neg (by rw[e0];simp)];rfl
    rw[es]at k;exact k
   | some h =>
    obtain⟨ah,rfl,hah⟩:=hhv
    refine qd ?_
    refine⟨_,rfl,_,rfl,c,C,dx,fs,_,rfl,hc,TC.cls,TC.high,e3,_,rfl,ah,b,h,t,rfl,hah,hb,zhi h rfl,zt,rfl,_,rfl,qH (λhh=>?_) (λhh=>?_)⟩
    ·have e':sp=xG h t:=by have:=of_decide_eq_true hh;injection this
     have es:xM lo (some h) t sp = "high":=by unfold xM;rw[if_neg (by rw[e0];simp),if_pos (show atS (some h) t sp=true from decide_eq_true e')]
     rw[es]at k;exact k
    ·have e':¬sp=xG h t:=λz=>hh (decide_eq_true (by rw[z]))
     have es:xM lo (some h) t sp = "":=by unfold xM;rw[if_neg (by rw[e0];simp),if_neg (show ¬atS (some h) t sp=true from λz=>e' (of_decide_eq_true z))]
     rw[es]at k;exact k
end
end KQ
end
section
set_option maxHeartbeats 4000000
set_option Elab.async false
set_option linter.all false
set_option maxRecDepth 100000
namespace L2
open PySem PySem.Spec PyProof.Rows
theorem ZJ {tc:TT}{ta tb:TS}{D:qQ}{σ:St}{H:Hp}(R:Hp->Prop) (c:Bool) (h1:∀(Q':Bool->Hp->Prop),(∀H',R H'->Q' c H')->tc σ H Q') (ha:c=true->∀H',R H'->ta D σ H') (hb:c=false->∀H',R H'->tb D σ H'):zez tc ta tb D σ H:=h1 _ λH' r=>by
 cases c with
 | true=>exact qd (ha rfl H' r)
 | false=>exact xA (hb rfl H' r)
theorem QO {tc:TT}{ta tb u:TS}{D:qQ}{σ:St}{H:Hp}(R:Hp->Prop) (c:Bool) (h1:∀(Q':Bool->Hp->Prop),(∀H',R H'->Q' c H')->tc σ H Q') (ha:c=true->∀H',R H'->ta { D with nx:=u D } σ H') (hb:c=false->∀H',R H'->tb { D with nx:=u D } σ H'):Qw (zez tc ta tb) u D σ H:=ZJ (D:={ D with nx:=u D }) R c h1 ha hb
end L2
namespace KQ
open PySem L2 KM KK
section
variable {P:Program}{w:World}{K:PySem.W.Frag}{mg:Str->Option Value}{base:Heap}
def xq (wh:Str) (lo hi:Option (Int×Int)):Option (Int×Int):=if wh = "" then none else if wh = "low" then lo else hi
def zeu (C:Addr):Sp:=λvs H Q _=>∃c pb sb tk ws trs lo hi wh,vs=[V.ref c,.str wh]/\Xq H C c pb sb tk ws trs lo hi/\∀v,vM H v (xq wh lo hi)->Q v H
theorem zfI:zG ["course","where"] ["course","where"] (zg vE):=⟨rfl,rfl,rfl,by decide +kernel,rfl,by decide +kernel,by decide +kernel⟩
theorem zfq {C:Addr}(D:Df K mg "wall_of" vE ["course","where"] []) (TC:TCo K C):Cal P w K mg base "wall_of" 1 ["course","where"] [] (zeu C):=by
 refine D.cal (k:=0) zfI (λvs H Q E h=>by obtain⟨_,_,_,_,_,_,_,_,_,rfl,_⟩:=h;rfl) (λf cdv A outer s H vs Q E hr h=>?_)
 obtain⟨c,pb,sb,tk,ws,trs,lo,hi,wh,rfl,⟨dx,fs,hc,F⟩,k⟩:=h
 obtain⟨lv,e2,hlv⟩:=F.low
 obtain⟨hv,e3,hhv⟩:=F.high
 refine⟨_,(zj (xk (zI vp (pv 1) vV (zJ _)) (zi (zM zX)) zS)
  (zi (zM (zbh (zI vp (pv 1) vV (zJ _)) (xb (pv 0) rfl) (xb (pv 0) rfl))))),?_⟩
 refine⟨_,rfl,rfl,_,rfl,qH (λh=>?_) (λh=>?_)⟩
 ·have e:wh = "":=by have:=of_decide_eq_true h;injection this
  exact k _ (by unfold xq;rw[if_pos e];exact rfl)
 ·have n:¬wh = "":=λz=>h (decide_eq_true (by rw[z]))
  refine⟨_,rfl,rfl,_,rfl,qH (λh=>?_) (λh=>?_)⟩
  ·have e:wh = "low":=by have:=of_decide_eq_true h;injection this
   exact⟨_,rfl,c,C,dx,fs,lv,rfl,hc,TC.cls,TC.low,e2,k _ (by unfold xq;rw[if_neg n,if_pos e];exact hlv)⟩
  ·have n2:¬wh = "low":=λz=>h (decide_eq_true (by rw[z]))
   exact⟨_,rfl,c,C,dx,fs,hv,rfl,hc,TC.cls,TC.high,e3,k _ (by unfold xq;rw[if_neg n,if_neg n2];exact hhv)⟩
def cwN (trs:List (Int×Int)) (w:Option (Int×Int)) (a b:Nat):Nat:=match w with
 | none=>0
 | some u=>(((trs.drop a).take (b+1 - a)).filter λt=>decide (t.2≠u.2)).length
def zfN (C:Addr):Sp:=λvs H Q _=>∃(c g:Addr) (pb sb:Int) (tk:Rat) (ws:List Int) (trs:List (Int×Int)) (lo hi:Option (Int×Int)) (a b:Nat) (wh:Str),vs=[V.ref c,.ref g]/\Xq H C c pb sb tk ws trs lo hi/\trs.length<=8/\a<=b/\b<trs.length/\H g=some (.tup [.int (a:Int),.int (b:Int),.str wh])/\∀H',zh H H'->Q (.int (cwN trs (xq wh lo hi) a b:Nat)) H'
theorem QY:zG ["course","group","first","last","where","wall"] ["course","group"] (zg xL):=⟨rfl,rfl,rfl,by decide +kernel,rfl,by decide +kernel,by decide +kernel⟩
theorem zcd {xs:List V}{lo hi:Option Int}{v:V}(h:v∈qq xs lo hi):v∈xs:=List.mem_of_mem_drop (List.mem_of_mem_take h)
def VE (H:Hp) (s:Int) (v:V):Bool:=match v with
 | .ref a=>(match H a with | some (.tup [_,.int y])=>decide (y≠s) | _=>false)
 | _=>false
theorem Jj {H:Hp}{s:Int}:∀{vs:List V}{ts:List (Int×Int)},vs.length=ts.length->(∀(i:Nat) (v:V),vs[i]? = some v->∃t,ts[i]? = some t/\vM H v (some t))->(vs.filter (VE H s)).length=(ts.filter λt=>decide (t.2≠s)).length
 | [],[],_,_=>rfl
 | [],_::_,h,_=>by simp at h
 | _::_,[],h,_=>by simp at h
 | v::vs,t::ts,h,k=>by
  obtain⟨t',e,a,rfl,ha⟩:=k 0 v rfl
  cases e
  have ih:=Jj (H:=H) (s:=s) (vs:=vs) (ts:=ts) (by simpa using h) λi v e=>k (i+1) v (by simpa using e)
  have e1:VE H s (.ref a)=decide (t.2≠s):=by unfold VE;dsimp only;rw[ha]
  rw[List.filter_cons,List.filter_cons,e1]
  by_cases c:t.2≠s
  ·rw[if_pos (decide_eq_true c),if_pos (decide_eq_true c),List.length_cons,List.length_cons,ih]
  ·rw[decide_eq_false c,if_neg (by simp),if_neg (by simp),ih]
theorem zdG {α:Type}{xs:List α}{a b:Nat}(hb:b<xs.length):vU xs (some (a:Int)) (some ((b:Int)+1))=(xs.drop a).take (b+1 - a):=by
 unfold vU
 rw[show ((b:Int)+1)=((b+1:Nat):Int)from rfl,HT.sIx_nat,HT.sIx_nat]
 rw[Nat.min_eq_left (by omega:b+1<=xs.length)]
 rcases Nat.le_total a xs.length with h | h
 ·rw[Nat.min_eq_left h]
 ·rw[Nat.min_eq_right h,List.drop_of_length_le h,List.drop_of_length_le (Nat.le_refl _)];simp
theorem ze2 {C:Addr}(D:Df K mg "came_to_wall" xL ["course","group"] []) (T:TxQ K mg) (TC:TCo K C) (cW:Cal P w K mg base "wall_of" 1 ["course","where"] [] (zeu C)):Cal P w K mg base "came_to_wall" 2 ["course","group"] [] (zfN C):=by
 refine D.cal (k:=1) QY (λvs H Q E h=>by obtain⟨_,_,_,_,_,_,_,_,_,_,_,_,rfl,_⟩:=h;rfl) (λf cdv A outer s H vs Q E hr h=>?_)
 obtain⟨c,g,pb,sb,tk,ws,trs,lo,hi,a,b,wh,rfl,hco,hl,hab,hbl,hg,k⟩:=h
 refine⟨_,(zj (qJ (pv 1) (vH rfl (zQ (zK (i:=2) QY.nd rfl (Or.inl rfl)) (zQ (zK (i:=3) QY.nd rfl (Or.inl rfl)) (zQ (zK (i:=4) QY.nd rfl (Or.inl rfl)) xJ)))))
  (zj (zL (i:=5) QY.nd rfl (Or.inr rfl) (zP cW hr (za (pv 0) (za (pv 4) ze))))
  (zj (xk (zI vn (pv 5) zX (zJ _)) (zi (zM zd)) zS)
  (zi (zM (zZ xl (by rfl) T.nLen PySem.boot_len (za (jR (NB:=["track"]) (FR:=["wall"]) (js:=[5]) rfl rfl (λ_ _ h=>h) (.cons rfl rfl rfl ⟨_,rfl⟩ .nil) rfl (by decide +kernel) rfl (by decide +kernel) (xS (vi jg (xb (pv 0) rfl) (xT (pv 2)) (xT (zA xa (pv 3) zd)))) (by intro _ _ _;refine⟨?_,?_,?_⟩;(exact(zK (i:=0) (show List.Nodup (["track","wall"]:List Str) by decide +kernel) rfl (Or.inl rfl)));(exact(Qn (zI Jo (zr (ve (K:=K) rfl) (pv 0) zd (λ_ _=>rfl)) (zr (ve (K:=K) rfl) (pv 1) zd (λ_ _=>rfl)) (zJ _))));(exact(pv 0)))) ze))))))),?_⟩
 refine⟨_,rfl,g,_,rfl,.of hg,rfl,_,_,rfl,_,_,rfl,_,_,rfl,rfl,?_⟩
 refine⟨_,rfl,_,rfl,c,pb,sb,tk,ws,trs,lo,hi,wh,rfl,hco,λv hv=>?_⟩
 obtain⟨dx,fs,hc,F⟩:=hco
 obtain⟨tl,tv,e1,htl,htr⟩:=F.tracks
 dsimp only[zN]
 refine⟨_,rfl,rfl,_,rfl,?_⟩
 cases ew:xq wh lo hi with
 | none =>
  rw[ew]at hv k
  have e:v = .non:=hv
  subst e
  exact qd (k H (zh.refl _))
 | some wl =>
  rw[ew]at hv k
  obtain⟨aw,rfl,haw⟩:=hv
  refine xA ?_
  refine⟨_,rfl,c,C,dx,fs,_,rfl,hc,TC.cls,TC.tracks,e1,_,rfl,a,rfl,_,rfl,_,_,rfl,rfl,_,rfl,tl,tv,rfl,.of htl,λp hp=>?_⟩
  have S1:zh H (upd H p (.lst (qq tv (some a) (some (b+1))))):=zh.upd hp
  refine⟨p,rfl,⟨_,SqL.of zf⟩,λDa hD=>?_⟩
  have lc:(qq tv (some a) (some (b+1))).length<=8:=Nat.le_trans (vO ..) (by rw[htr.1];exact hl)
  have hlt:=htr.1
  have ecut:qq tv (some (a:Int)) (some ((b:Int)+1))=(tv.drop a).take (b+1 - a):=zdG (by omega)
  refine XE (J:=Itl K p) (n:=1) (js:=[5]) (g:=zN 0) (te:=xQ 0) (xs:=qq tv (some a) (some (b+1))) (VE H wl.2) hD (xW zf) (vg (by omega)) ?_ ?_
  ·intro i x zs H2 A2 B2 hx hz2 s2 ka kb
   obtain⟨m,hm⟩:=List.getElem?_of_mem (zcd (List.mem_of_getElem? hx))
   obtain⟨t,_,ax,rfl,hax⟩:=htr.2 m x hm
   obtain⟨z1,rfl⟩:=jL hz2
   dsimp only[zN]
   have s3:=S1.trans s2
   have eo:VE H wl.2 (.ref ax)=decide (t.2≠wl.2):=by unfold VE;dsimp only;rw[hax]
   refine⟨rfl,_,rfl,ax,_,_,_,rfl,rfl,.of (s3 _ _ hax),at1 ..,_,rfl,aw,_,_,_,rfl,rfl,.of (s3 _ _ haw),at1 ..,rfl,_,rfl,?_⟩
   by_cases c':t.2=wl.2
   ·have:(!decide (V.int t.2=V.int wl.2))=false:=by rw[c'];simp
    rw[this]
    exact kb (by rw[eo];simp[c'])
   ·have:(!decide (V.int t.2=V.int wl.2))=true:=by
     have:¬V.int t.2=V.int wl.2:=λz=>c' (by injection z)
     rw[decide_eq_false this];rfl
    rw[this]
    exact⟨_,rfl,ka (by rw[eo];simp[c'])⟩
  ·intro H2 s2 hy
   refine⟨Da,_,rfl,.inl (.of hy),?_⟩
   have el:((qq tv (some (a:Int)) (some ((b:Int)+1))).filter (VE H wl.2)).length=cwN trs (some wl) a b:=by
    rw[ecut]
    refine Jj (by simp[hlt]) λi v e=>?_
    rw[List.getElem?_take]at e
    split at e
    ·rw[List.getElem?_drop]at e
     rw[List.getElem?_take,if_pos ‹_›,List.getElem?_drop]
     exact htr.2 _ v e
    ·cases e
   rw[el]
   exact k _ (S1.trans s2)
end
end KQ
end
section
set_option maxHeartbeats 4000000
set_option Elab.async false
set_option linter.all false
set_option maxRecDepth 100000
namespace KQ
open PySem L2 KM KK
theorem Xq.same {H H':Hp}{C c:Addr}{pb sb:Int}{tk:Rat}{ws:List Int}{trs:List (Int×Int)}{lo hi:Option (Int×Int)} (h:Xq H C c pb sb tk ws trs lo hi) (s:zh H H'):Xq H' C c pb sb tk ws trs lo hi:=by
 obtain⟨dx,fs,hc,F⟩:=h
 obtain⟨tp,a1,a2⟩:=F.tick
 obtain⟨wl,b1,b2⟩:=F.weights
 obtain⟨tl,tv,c1,c2,c3⟩:=F.tracks
 obtain⟨lv,d1,d2⟩:=F.low
 obtain⟨hv,e1,e2⟩:=F.high
 exact⟨dx,fs,s _ _ hc,⟨F.pb,F.sb,⟨tp,a1,s _ _ a2⟩,⟨wl,b1,s _ _ b2⟩,⟨tl,tv,c1,s _ _ c2,c3.keeps (.of s)⟩,⟨lv,d1,d2.keeps (.of s)⟩,⟨hv,e1,e2.keeps (.of s)⟩,F.len⟩⟩
theorem Z0 {K:PySem.W.Frag}{a:Addr}{xs:List V}{g:TG}{tb:TS}{D:qQ}{σ:St}{H:Hp}(Pv:Nat->St->Hp->Prop) (h0:Pv 0 σ H) (hl:∀i σ H,Pv i σ H->SqL K H a xs)
  (hs:∀(i:Nat) (x:V) (σ:St) (H:Hp) (T:Addr),xs[i]? = some x->Pv i σ H->H T=none->g (.ref T) σ (upd H T (.tup [.int i,x])) λσ2 H2=>tb { D with nx:=Pv (i+1),ct:=Pv (i+1),bk:=D.nx } σ2 H2)
  (hd:∀σ H,Pv xs.length σ H->D.nx σ H) :
  ∃W:Nat->Nat->St->Hp->Prop,(∃m,W 0 m σ H)/\∀i m σ H,W i m σ H →
   ((Ite K a).stop i H/\D.nx σ H)\/((Ite K a).go i H/\∃N:St->Hp->Prop,(∀σ' H',N σ' H'->∃m',m'<m/\W (i+1) m' σ' H')/\∀x H',(Ite K a).yld i H x H'->g x σ H' λσ2 H2=>tb { D with nx:=N,ct:=N,bk:=D.nx } σ2 H2):=by
 refine⟨λi m σ H=>m=xs.length - i/\i<=xs.length/\Pv i σ H,⟨xs.length,by simp,Nat.zero_le _,h0⟩,?_⟩
 rintro i m σ H ⟨rfl,hi,p⟩
 have q1:=hl i σ H p
 by_cases hlt:i<xs.length
 ·refine .inr ⟨⟨xs,xs[i],q1,by simp⟩,Pv (i+1),λσ' H' p'=>⟨xs.length - (i+1),by omega,rfl,hlt,p'⟩,λx H' y=>?_⟩
  obtain⟨T,u,rfl,hT,rfl,e1⟩:=y
  exact hs i u σ H T (e1 xs q1) p hT
 ·have e:i=xs.length:=by omega
  subst e
  exact .inl ⟨⟨xs,q1,Nat.le_refl _⟩,hd σ H p⟩
theorem zbW {xs:List V}{n:Nat}{v:V}(h:xs[n]? = some v):atI xs (n:Int)=some v:=by
 have hl:=(List.getElem?_eq_some_iff.mp h).1
 unfold atI ixN
 rw[if_pos (by omega),if_pos (by omega)]
 show xs[(n:Int).toNat]? = _
 rw[Int.toNat_natCast];exact h
section
variable {P:Program}{w:World}{K:PySem.W.Frag}{mg:Str->Option Value}{base:Heap}
def brk {α:Type} [DecidableEq α] (ss:List α) (i:Nat):Bool:=decide (i+1=ss.length) || decide (ss[i+1]?≠ss[i]?)
def stG {α:Type} [DecidableEq α] (ss:List α):Nat->Nat
 | 0=>0
 | i+1=>if brk ss i=true then i+1 else stG ss i
def rlG {α γ:Type} [DecidableEq α] (ss:List α) (f:Nat->Nat->Option γ):Nat->List γ
 | 0=>[]
 | i+1=>if brk ss i=true then rlG ss f i++(f (stG ss i) i).toList else rlG ss f i
theorem vo {α:Type} [DecidableEq α] (ss:List α):∀i,stG ss i<=i
 | 0=>Nat.le_refl _
 | i+1=>by
  have:=vo ss i
  show (if brk ss i=true then i+1 else stG ss i)<=i+1
  split <;> omega
def ZR (H:Hp) (v:V) (g:Nat×Nat×Str):Prop:=∃a,v = .ref a/\H a=some (.tup [.int (g.1:Int),.int (g.2.1:Int),.str g.2.2])
def vF (H:Hp) (vs:List V) (gs:List (Nat×Nat×Str)):Prop:=vs.length=gs.length/\∀(i:Nat) (v:V),vs[i]? = some v->∃g,gs[i]? = some g/\ZR H v g
theorem vF.keeps {H H':Hp}{vs:List V}{gs:List (Nat×Nat×Str)} (h:vF H vs gs) (t:zT H H'):vF H' vs gs :=
 ⟨h.1,λi v e=>by obtain⟨g,e1,a,e2,e3⟩:=h.2 i v e;exact⟨g,e1,a,e2,t _ _ e3⟩⟩
theorem vF.snoc {H:Hp}{vs:List V}{gs:List (Nat×Nat×Str)}{v:V}{g:Nat×Nat×Str}(h:vF H vs gs) (k:ZR H v g):vF H (vs++[v]) (gs++[g]):=by
 refine⟨by simp[h.1],λi u e=>?_⟩
 by_cases hi:i<vs.length
 ·rw[List.getElem?_append_left hi]at e
  rw[List.getElem?_append_left (by rw[<-h.1];exact hi)]
  exact h.2 i u e
 ·rw[List.getElem?_append_right (by omega)]at e
  have hj:i - vs.length=0:=by
   rcases Nat.eq_zero_or_pos (i - vs.length)with z | z
   ·exact z
   ·rw[List.getElem?_eq_none (by simp;omega)]at e;cases e
  rw[hj]at e;cases e
  exact⟨g,by rw[List.getElem?_append_right (by rw[<-h.1];omega),<-h.1,hj];rfl,k⟩
def fP (trs:List (Int×Int)) (lo hi:Option (Int×Int)) (t:Int×Int) (a b:Nat):Option (Nat×Nat×Str) :=
 let s:=xM lo hi t (((trs.map λl=>xG l t)[b]?).getD 0)
 if a<b\/0<cwN trs (xq s lo hi) a b then some (a,b,s)else none
def grP (trs:List (Int×Int)) (lo hi:Option (Int×Int)) (t:Int×Int):List (Nat×Nat×Str):=rlG (trs.map λl=>xG l t) (fP trs lo hi t) trs.length
def zet (C:Addr):Sp:=λvs H Q _=>∃c b pb sb tk ws trs lo hi t,vs=[V.ref c,.ref b]/\Xq H C c pb sb tk ws trs lo hi/\trs.length<=8/\H b=some (.tup [.int t.1,.int t.2])/\BdP 4400 t/\(∀l∈trs,BdP 4400 l)/\(∀l,lo=some l->BdP 4400 l)/\(∀l,hi=some l->BdP 4400 l) ∧
 ∀G gs H',zh H H'->H G=none->H' G=some (.lst gs)->vF H' gs (grP trs lo hi t)->Q (.ref G) H'
theorem ZC:zG ["course","ticks","spots","groups","first","last","spot","group"] ["course","ticks"] (zg qy):=⟨rfl,rfl,rfl,by decide +kernel,rfl,by decide +kernel,by decide +kernel⟩
theorem ze6 {C:Addr}(D:Df K mg "groups_at" qy ["course","ticks"] []) (T:TxQ K mg) (hE:mg "enumerate" = none) (TC:TCo K C) (cSp:Cal P w K mg base "spot_at" 1 ["track","ticks"] [] zbD) (cSi:Cal P w K mg base "side_at" 2 ["course","spot","ticks"] [] (zf1 C))
  (cCw:Cal P w K mg base "came_to_wall" 2 ["course","group"] [] (zfN C)):Cal P w K mg base "groups_at" 3 ["course","ticks"] [] (zet C):=by
 refine D.cal (k:=2) ZC (λvs H Q E h=>by obtain⟨_,_,_,_,_,_,_,_,_,_,rfl,_⟩:=h;rfl) (λf cdv A outer s H vs Q E hr h=>?_)
 obtain⟨c,b,pb,sb,tk,ws,trs,lo,hi,t,rfl,CO,hl,hb,zt,ztr,zlo,zhi,k⟩:=h
 have hr2:xi 2 _:=hr
 have hr1:xi 1 _:=hr.mono (by decide)
 obtain⟨dx,fs,hc,F⟩:=id CO
 obtain⟨tl,tv,e1,htl,htr⟩:=F.tracks
 refine⟨_,(zj (vR (i:=2) (NB:=["track"]) (FR:=["ticks"]) (js:=[1]) rfl rfl (λ_ _ h=>h) (.cons rfl rfl rfl ⟨_,rfl⟩ .nil) rfl (by decide +kernel) rfl (by decide +kernel) ZC.nd rfl rfl (by rfl) (xS (xb (pv 0) rfl)) (by intro _ _ _;refine⟨?_,?_,?_⟩;(exact(zK (i:=0) (show List.Nodup (["track","ticks"]:List Str) by decide +kernel) rfl (Or.inl rfl)));(exact qg);(exact(zP cSp hr1 (za (pv 0) (za (pv 1) ze))))))
  (zj (zL (i:=3) ZC.nd rfl (Or.inl rfl) (xB ze))
  (zj (zL (i:=4) ZC.nd rfl (Or.inl rfl) zd)
  (zj (vI PassesOwn.never rfl (Js (by rfl) hE (za (pv 2) ze)) (vH rfl (zQ (zK (i:=5) ZC.nd rfl (Or.inl rfl)) (zQ (zK (i:=6) ZC.nd rfl (Or.inl rfl)) xJ))) (zi (xk ((jq (zI vp (zA xa (pv 5) zd) (zZ xl (by rfl) T.nLen PySem.boot_len (za (pv 2) ze)) (zJ _)) (jd (zI Jo (zr xw (pv 2) (zA xa (pv 5) zd) (λ_ _=>rfl)) (pv 6) (zJ _))))).pt (zj (zL (i:=7) ZC.nd rfl (Or.inl rfl) (xv (za (pv 4) (za (pv 5) (za (zP cSi hr2 (za (pv 0) (za (pv 6) (za (pv 1) ze)))) ze)))))
  (zj (xk ((jq (zI jP (pv 4) (pv 5) (zJ _)) (jd (zI Xf (zP cCw hr2 (za (pv 0) (za (pv 7) ze))) zd (zJ _))))).pt (zi (xU (ZA PySem.F.plainAttrs_list PySem.F.slot_list_append PySem.F.type_list_append qv (pv 3) (za (pv 7) ze)))) zS)
  (zi (zL (i:=4) ZC.nd rfl (Or.inl rfl) (zA xa (pv 5) zd))))) zS)))
  (zi (zM (pv 3))))))),?_⟩
 refine⟨_,rfl,c,C,dx,fs,_,rfl,hc,TC.cls,TC.tracks,e1,tl,rfl,⟨_,SqL.of htl⟩,λDa hD=>?_⟩
 refine qh (J:=Itl K tl) (n:=1) (js:=[1]) (g:=zN 0) (te:=ZD zbD [] E0 (qp (xQ 0) (qp (xQ 1) Zn))) (xs:=tv) (λm v _=>∃z:Int,(trs.map λl=>xG l t)[m]? = some z/\v = .int z) (λ_ _ _ _ _ z=>z) hD (xW htl) (vg (by rw[htr.1];omega)) ?_ ?_
 ·intro m x zs H2 Q' hx hz s2 hk
  obtain⟨l,el,a,rfl,ha⟩:=htr.2 m x hx
  obtain⟨z1,rfl⟩:=jL hz
  dsimp only[zN]
  exact⟨rfl,_,rfl,_,rfl,a,b,l,t,rfl,s2 _ _ ha,s2 _ _ hb,ztr l (List.mem_of_getElem? el),zt,hk _ _ (zh.refl _) ⟨_,by rw[List.getElem?_map,el];rfl,rfl⟩⟩
 intro ys H1 s1 hy hyl hyR
 dsimp only[zN]
 refine⟨by show 0<=sizeLine;decide,λG hG=>?_⟩
 dsimp only[zN]
 have S2:zh H1 (upd H1 G (.lst [])):=zh.upd hG
 have hyl8:ys.length<=8:=by rw[hyl,htr.1];exact hl
 have hsl:(trs.map λl=>xG l t).length=ys.length:=by rw[List.length_map,hyl,htr.1]
 obtain⟨ss,ess⟩:∃ss,ss=trs.map λl=>xG l t:=⟨_,rfl⟩
 rw[<-ess]at hyR hsl
 refine⟨_,rfl,Da,ys,rfl,S2 _ _ hy,Z0 (xs:=ys) (λi σ H'=>zh H1 H'/\(∃gs,H' G=some (.lst gs)/\gs.length<=i/\vF H' gs (rlG ss (fP trs lo hi t) i))/\∃(z5 z6 z7:Option V),σ=[some (.ref c),some (.ref b),some (.ref Da),some (.ref G),some (.int (stG ss i:Nat)),z5,z6,z7])
  ⟨S2,⟨[],zf,Nat.le_refl _,rfl,λi v e=>by simp at e⟩,_,_,_,rfl⟩ (λi σ H' ⟨s',_⟩=>.of (s' _ _ hy)) ?_ ?_⟩
 ·rintro i x σ H' T' hx ⟨s',⟨gs,hgs,hgl,hgr⟩,z5,z6,z7,rfl⟩ hT'
  obtain⟨z,ez,rfl⟩:=hyR i x hx
  have sT:zh H' (upd H' T' (.tup [.int i,.int z])):=zh.upd hT'
  have hTT:upd H' T' (.tup [.int i,.int z]) T'=some (.tup [.int i,.int z]):=zf
  have hgs2:=sT _ _ hgs
  have hgr2:=hgr.keeps (.of sT)
  replace sT:=s'.trans sT
  generalize upd H' T' (.tup [.int i,.int z])=G2 at sT hTT hgs2 hgr2
  have sG:zh H G2:=s1.trans sT
  refine⟨T',_,rfl,.of hTT,rfl,_,_,rfl,_,_,rfl,rfl,?_⟩
  have hil:i<ys.length:=(List.getElem?_eq_some_iff.mp hx).1
  have hst:=vo ss i
  refine ZJ (λH'=>H'=G2) (brk ss i) (λQ' q=>?_) (λhbk H3 e3=>?_) (λhbk H3 e3=>?_)
  ·refine⟨_,rfl,_,_,rfl,rfl,_,rfl,Da,ys,rfl,.inl (.of (sT _ _ hy)),rfl,_,rfl,qH (λh0=>?_) (λh0=>?_)⟩
   ·have e0:i+1=ss.length:=by
     have:=of_decide_eq_true h0
     injection this with this
     omega
    have:brk ss i=true:=by unfold brk;rw[decide_eq_true e0];rfl
    rw[this]at q
    exact q _ rfl
   ·have hne:i+1<ys.length:=by
     have:¬((i:Int)+1=ys.length):=λz=>h0 (decide_eq_true (show V.int ((i:Int)+1)=V.int (ys.length:Int) by rw[z]))
     omega
    obtain⟨z',ez',hz'⟩:=hyR (i+1) ys[i+1] (by simp[hne])
    have ha:atI ys ((i:Int)+1)=some (.int z'):=by
     have:=zbW (xs:=ys) (n:=i+1) (v:=ys[i+1]) (by simp[hne])
     rw[hz']at this
     rw[<-this];rfl
    refine⟨_,rfl,_,rfl,_,_,rfl,rfl,Da,_,_,_,rfl,rfl,.of (sT _ _ hy),ha,_,rfl,rfl,_,rfl,?_⟩
    have:(!decide (V.int z'=V.int z))=brk ss i:=by
     unfold brk
     rw[decide_eq_false (by omega:¬i+1=ss.length),Bool.false_or,ez,ez']
     by_cases c:z'=z
     ·rw[c];simp
     ·have c1:¬V.int z'=V.int z:=λy=>c (by injection y)
      rw[decide_eq_false c1];simp[c]
    rw[this]
    exact q _ rfl
  ·subst e3
   have est:stG ss (i+1)=i+1:=if_pos hbk
   have erl:rlG ss (fP trs lo hi t) (i+1)=rlG ss (fP trs lo hi t) i++(fP trs lo hi t (stG ss i) i).toList:=if_pos hbk
   have hb':i<trs.length:=by rw[ess,List.length_map]at hsl;omega
   refine⟨_,rfl,_,rfl,_,rfl,_,rfl,_,rfl,c,b,pb,sb,tk,ws,trs,lo,hi,z,t,rfl,CO.same sG,sG _ _ hb,zt,zlo,zhi,by show 3<=sizeLine;decide,λgp hgp=>?_⟩
   have s5:zh H3 (upd H3 gp (.tup [.int (stG ss i:Nat),.int i,.str (xM lo hi t z)])):=zh.upd hgp
   have h5:upd H3 gp (.tup [.int (stG ss i:Nat),.int i,.str (xM lo hi t z)]) gp=some (.tup [.int (stG ss i:Nat),.int i,.str (xM lo hi t z)]):=zf
   generalize upd H3 gp (.tup [.int (stG ss i:Nat),.int i,.str (xM lo hi t z)])=G5 at s5 h5
   have efP:fP trs lo hi t (stG ss i) i=if stG ss i<i\/0<cwN trs (xq (xM lo hi t z) lo hi) (stG ss i) i then some (stG ss i,i,xM lo hi t z)else none:=by
    unfold fP
    rw[<-ess,ez];rfl
   dsimp only[zN]
   refine QO (λH'=>zh G5 H') (decide (stG ss i<i\/0<cwN trs (xq (xM lo hi t z) lo hi) (stG ss i) i)) (λQ' q=>?_) (λhc6 H6 s6=>?_) (λhc6 H6 s6=>?_)
   ·refine⟨_,rfl,_,rfl,_,_,rfl,rfl,_,rfl,qH (λh1=>?_) (λh1=>?_)⟩
    ·have h1':stG ss i<i:=by have:=of_decide_eq_true h1;omega
     rw[decide_eq_true (Or.inl h1')]at q
     exact q _ (zh.refl _)
    ·have h1':¬stG ss i<i:=λz=>h1 (decide_eq_true (by omega))
     refine⟨_,rfl,_,rfl,c,gp,pb,sb,tk,ws,trs,lo,hi,stG ss i,i,_,rfl,CO.same (sG.trans s5),hl,hst,hb',h5,λH6 s6=>⟨_,_,rfl,rfl,_,rfl,?_⟩⟩
     have:decide ((0:Int)<((cwN trs (xq (xM lo hi t z) lo hi) (stG ss i) i:Nat):Int))=decide (stG ss i<i\/0<cwN trs (xq (xM lo hi t z) lo hi) (stG ss i) i):=by
      rw[Bool.eq_iff_iff,decide_eq_true_eq,decide_eq_true_eq]
      constructor
      ·intro y;exact .inr (by omega)
      ·rintro (y | y)
       ·exact absurd y h1'
       ·omega
     rw[this]
     exact q _ s6
   ·have S6:=sT.trans (s5.trans s6)
    have hgs6:=(s5.trans s6) _ _ hgs2
    refine⟨_,rfl,.inl ⟨rfl,gs,.of hgs6⟩,_,rfl,G,gs,_,rfl,rfl,hgs6,vg (by omega),?_⟩
    have TuG:zT H6 (upd H6 G (.lst (gs++[.ref gp]))):=.upd hgs6
    refine⟨_,rfl,_,_,rfl,rfl,⟨λb' o' e'=>?_,⟨gs++[.ref gp],zf,by simp;omega,?_⟩,some (.int i),some (.int z),some (.ref gp),?_⟩⟩
    ·rw[zB (zC e' hG)];exact S6 _ _ e'
    ·rw[erl,efP,if_pos (of_decide_eq_true hc6)]
     exact(((hgr2.keeps (.of s5)).keeps (.of s6)).keeps TuG).snoc ⟨gp,rfl,TuG _ _ (s6 _ _ h5)⟩
    ·rw[est];rfl
   ·have S6:=sT.trans (s5.trans s6)
    refine⟨_,rfl,_,_,rfl,rfl,⟨S6,⟨gs,(s5.trans s6) _ _ hgs2,by omega,?_⟩,some (.int i),some (.int z),some (.ref gp),?_⟩⟩
    ·rw[erl,efP,if_neg (of_decide_eq_false hc6)]
     show vF H6 gs (_++[])
     rw[List.append_nil]
     exact(hgr2.keeps (.of s5)).keeps (.of s6)
    ·rw[est];rfl
  ·subst e3
   have est:stG ss (i+1)=stG ss i:=if_neg (by rw[hbk];simp)
   have erl:rlG ss (fP trs lo hi t) (i+1)=rlG ss (fP trs lo hi t) i:=if_neg (by rw[hbk];simp)
   exact⟨sT,⟨gs,hgs2,by omega,by rw[erl];exact hgr2⟩,some (.int i),some (.int z),z7,by rw[est];rfl⟩
 ·rintro σ H' ⟨s',⟨gs,hgs,_,hgr⟩,z5,z6,z7,rfl⟩
  refine⟨_,rfl,k G gs H' (s1.trans s') (s1.free hG) hgs ?_⟩
  unfold grP
  rw[<-ess]
  have:ys.length=trs.length:=by rw[<-hsl,ess,List.length_map]
  rw[<-this];exact hgr
end
end KQ
end
section
set_option maxHeartbeats 4000000
set_option Elab.async false
set_option linter.all false
set_option maxRecDepth 100000
namespace KQ
open PySem L2 KM KK
section
variable {P:Program}{w:World}{K:PySem.W.Frag}{mg:Str->Option Value}{base:Heap}{C0:Addr}
def zcT (CS:Addr):Sp:=λvs H Q E=>∃r wa bs lo hi,vs=[V.ref r,.ref wa]/\In H r wa bs lo hi ∧
 (∀H',zh H H'->soon (chO bs lo hi)=none->Q .non H') ∧
 (∀t p m G H',zh H H'->soon (chO bs lo hi)=some t->qo lo hi≠some (qP (tkO bs lo hi) t)->H' p=some (.tup [.ref m,.ref G])->zF H' m (qP (tkO bs lo hi) t)->H G=none->(∃gs,H' G=some (.lst gs)/\vF H' gs (grP (trO bs lo hi) (lo.map (trB (pbO bs lo hi) (sbO bs lo hi))) (hi.map (trB (pbO bs lo hi) (sbO bs lo hi))) t))->Q (.ref p) H') ∧
 (∀t p dx H',zh H H'->soon (chO bs lo hi)=some t->qo lo hi=some (qP (tkO bs lo hi) t)->H' dx=some (.xd [("moment",.ref p)])->zF H' p (qP (tkO bs lo hi) t)->E (.ref CS) (some dx) H')
theorem zbv:zG ["row","walls","course","ticks"] ["row","walls"] (zg x8):=⟨rfl,rfl,rfl,by decide +kernel,rfl,by decide +kernel,by decide +kernel⟩
theorem ze9 {C CS fi:Addr}{fdi:FuncData}(D:Df K mg "next_coming" x8 ["row","walls"] []) (M:Mk K C fi) (Fi:vL P w K mg base CX0 4 fi fdi ["self","row","walls"] (zer C)) (hmC:mg "Course" = some (.ref C)) (Bi:vh K fdi ["self","row","walls"] [])
  (cFT:jZ P w K mg base "first_ticks" 5 ["course","walls"] [] (zes C CS)) (cMo:Cal P w K mg base "moment_of" 3 ["course","ticks"] [] (zbC C)) (cGr:Cal P w K mg base "groups_at" 3 ["course","ticks"] [] (zet C)):jZ P w K mg base "next_coming" 6 ["row","walls"] [] (zcT CS):=by
 refine D.cal1 (k:=5) zbv (λvs H Q E h=>by obtain⟨_,_,_,_,_,rfl,_⟩:=h;rfl) (λf cdv A outer s H vs Q E hr h=>?_)
 obtain⟨r,wa,bs,lo,hi,rfl,I,k1,k2,k3⟩:=h
 obtain⟨us,hrr,hB⟩:=I.row
 obtain⟨v1,v2,hw,h1,h2⟩:=I.walls
 have hr3:xi 3 _:=hr.mono (by decide)
 refine⟨_,zj (zL (i:=2) zbv.nd rfl (Or.inl rfl) (Jq M Fi hr (by rfl) hmC Bi .nil zbg (za (pv 0) (za (pv 1) ze))))
  (zj (zL (i:=3) zbv.nd rfl (Or.inl rfl) (Jp cFT hr j4 (za (pv 2) (za (pv 1) ze))))
  (zj (xk (zI vn (pv 3) zX (zJ _)) (zi (zM zX)) zS)
  (zi (zM (xv (za (zP cMo hr3 (za (pv 2) (za (pv 3) ze))) (za (zP cGr hr3 (za (pv 2) (za (pv 3) ze))) ze))))))),?_⟩
 refine⟨_,rfl,_,rfl,λc dx hc hdx ne=>?_⟩
 have S0:zh H (upd (upd H dx (.own c)) c (.ins C dx [])):=(zh.upd hdx).trans (zh.upd (by rw[zB ne.symm];exact hc))
 refine⟨c,dx,r,wa,us,bs,v1,v2,lo,hi,rfl,zf,S0 _ _ hrr,hB.keeps (.of S0),S0 _ _ hw,h1.keeps (.of S0),h2.keeps (.of S0),I.len,I.sz,λH1 X1 hcn=>⟨rfl,?_⟩⟩
 have hco:=hcn.co
 have S1:zh H H1:=λb o e=>X1 b o (zC e hc) (S0 b o e)
 dsimp only[zN]
 refine⟨_,rfl,_,rfl,c,_,_,_,_,_,_,_,wa,v1,v2,lo,hi,rfl,hco,by rw[List.length_map];exact I.len,I.bd,I.tk,S1 _ _ hw,h1.keeps (.of S1),h2.keeps (.of S1),I.lo,I.hi,?_,?_,?_⟩
 ·intro H2 s2 e
  dsimp only[zN]
  exact⟨_,rfl,rfl,_,rfl,qd (k1 H2 (S1.trans s2) e)⟩
 ·intro v t H2 s2 e n hv
  obtain⟨ta,rfl,hta⟩:=hv
  dsimp only[zN]
  refine⟨_,rfl,rfl,_,rfl,xA ?_⟩
  have so:=Qu I.bd e
  obtain⟨dx',fs,hc2,F⟩:=hco.same s2
  obtain⟨tp,etp,htp⟩:=F.tick
  refine⟨_,rfl,_,rfl,c,ta,dx',fs,tp,_,t.1,t.2,rfl,hc2,etp,htp,hta,by omega,so.2.1.mono (by decide),so.2.2.mono (by decide),I.tk,λm H3 s3 hm=>?_⟩
  refine⟨_,rfl,_,rfl,c,ta,_,_,_,_,_,_,_,t,rfl,hco.same (s2.trans s3),by rw[List.length_map];exact I.len,s3 _ _ hta,⟨so.2.1.mono (by decide),so.2.2.mono (by decide)⟩,?_,?_,?_,λG gs H4 s4 hGn hG hgr=>?_⟩
  ·intro l hl
   have:=I.bd l (List.mem_append_left _ (List.mem_append_right _ hl))
   exact⟨this.1.mono (by decide),this.2.mono (by decide)⟩
  ·intro l hl
   have:=I.bd l (List.mem_append_left _ (List.mem_append_left _ (by rw[hl];simp[QT])))
   exact⟨this.1.mono (by decide),this.2.mono (by decide)⟩
  ·intro l hl
   have:=I.bd l (List.mem_append_right _ (by rw[hl];simp[QT]))
   exact⟨this.1.mono (by decide),this.2.mono (by decide)⟩
  ·refine⟨by show 2<=sizeLine;decide,λp hp=>?_⟩
   exact k2 t p m G _ (S1.trans (s2.trans (s3.trans (s4.trans (zh.upd hp))))) e n zf (zh.upd hp _ _ (s4 _ _ hm)) ((S1.trans (s2.trans s3)).free hGn) ⟨gs,zh.upd hp _ _ hG,hgr.keeps (.of (zh.upd hp))⟩
 ·intro t p d H2 s2 e e' hd hp
  exact⟨CS,rfl,k3 t p d H2 (S1.trans s2) e e' hd hp⟩
end
end KQ
end
section
set_option maxHeartbeats 8000000
set_option Elab.async false
set_option linter.all false
set_option maxRecDepth 100000
namespace L2
open PySem PySem.Spec PyProof.Rows
structure DfC (K:PySem.W.Frag) (mg:Str->Option Value) (x:Str) (st:Stmt) (ps:List Str) (c P:Addr):Prop where
 ex:∃(f:Addr) (oc:Value) (od:Option Addr) (dV kV doc pm:Value) (an:Option Addr) (ct:Value) (osl:Array (Option Value)),
  K.lookup f=some ⟨oc,od,.func (PySem.W.fnOf x x (zH st) (zE st) (zg st) dV kV doc pm an (.ref c) ct),osl⟩/\PySem.W.codeIn K (.ref c) x=true/\PySem.W.keepIn K (.ref f)=true/\mg x=some (.ref f) ∧
  vh K (PySem.W.fnOf x x (zH st) (zE st) (zg st) dV kV doc pm an (.ref c) ct) ps []
 hd:PySem.W.codeHdIn K c P=true
theorem DfC.calB {P:Program}{w:World}{K:PySem.W.Frag}{mg:Str->Option Value}{base:Heap}{c Tb:Addr}{x:Str}{st:Stmt}{N ps:List Str}{k:Nat}{sp:Sp}(D:DfC K mg x st ps c Tb) (S:zG N ps (zg st)) (len:∀vs H Q E,sp vs H Q E->vs.length=ps.length)
  (hbody:∀(f:Addr) (A:Around) (outer:List Env) (s:Shared) (H:Hp) (vs:List V) (Q:VK) (E:XK),xi k (A.deeper (envOfC x (zg st) s.heap.objs.size f (.ref c)))->sp vs H Q E →
   ∃t,Bx (PSs (ja CX0 P w K mg base N x (zg st) f (.ref c) A outer s H E).nox (zE st) t)/\t { nx:=λ_ H'=>Q .non H',rt:=Q } (vk N vs) H):Cal P w K mg base x (k+1) ps [] sp:=by
 obtain⟨f,oc,od,dV,kV,doc,pm,an,ct,osl,lk,hcd,hk,hm,hb⟩:=D.ex
 refine⟨⟨f,_,[],Ja lk hcd S len λA outer s H vs Q E hr hsp=>?_,hm,hk,hb,.nil⟩⟩
 obtain⟨t,⟨h⟩,q⟩:=hbody f A outer s H vs Q E hr hsp
 exact⟨t,h.nox,q⟩
end L2
namespace KQ
open PySem L2 KM KK
theorem xx {t u:TS}{D:qQ}{σ:St}{H:Hp}(R:St->Hp->Prop) (h2:∀σ' H',R σ' H'->u D σ' H') (h1:∀nx:St->Hp->Prop,(∀σ' H',R σ' H'->nx σ' H')->t { D with nx:=nx } σ H):Qw t u D σ H:=h1 (u D) h2
def Xj (wl:Option (Int×Int)) (t:Int×Int):Int×Int:=match wl with
 | none=>t
 | some w=>(2*w.1 - t.1,2*w.2 - t.2)
def Chg (S:List Addr) (H H':Hp):Prop:=∀b o,b∉S->H b=some o->H' b=some o
def CoT (H:Hp) (C c tl:Addr) (pb sb:Int) (tk:Rat) (ws:List Int) (trs:List (Int×Int)) (lo hi:Option (Int×Int)):Prop:=∃dx fs tv,H c=some (.ins C dx fs)/\CoF H fs pb sb tk ws trs lo hi/\fs.lookup ("tracks":Str)=some (V.ref tl)/\H tl=some (.lst tv)/\xR H tv trs
abbrev laS:Scope:=match (zE je).getD 2 (.Pass ⟨0,0,0,0⟩)with
 | .Assign _ (.Call _ _ [⟨_,.Lambda _ _ sc _,_⟩] _) _=>sc
 | _=>zg je
abbrev laP:PySem.Pos:=match (zE je).getD 2 (.Pass ⟨0,0,0,0⟩)with
 | .Assign _ (.Call _ _ [⟨_,.Lambda _ _ _ p,_⟩] _) _=>p
 | _=>⟨0,0,0,0⟩
abbrev laQ:Str:=(("deal":Str)++(".<locals>.":Str))++("<lambda>":Str)
theorem zfD:zG ["track"] ["track"] laS:=⟨rfl,rfl,rfl,by decide +kernel,rfl,by decide +kernel,by decide +kernel⟩
theorem xR.cut {H:Hp}{tv:List V}{trs:List (Int×Int)} (h:xR H tv trs) (lo hi:Option Int):xR H (qq tv lo hi) (vU trs lo hi):=by
 have e:qq tv lo hi=(tv.drop (HT.sIx trs.length 0 lo)).take (HT.sIx trs.length trs.length hi - HT.sIx trs.length 0 lo):=by
  unfold qq;rw[h.1]
 rw[e];unfold vU
 refine⟨by simp only[List.length_take,List.length_drop,h.1],λi v ev=>?_⟩
 rw[List.getElem?_take]at ev ⊢
 split at ev
 ·rw[if_pos ‹_›]
  rw[List.getElem?_drop]at ev ⊢
  exact h.2 _ v ev
 ·cases ev
theorem xR.map {H:Hp}{tv:List V}{trs:List (Int×Int)}{f:Int×Int->Int×Int}(hl:tv.length=trs.length) (h:∀(i:Nat) (v:V),tv[i]? = some v->∃t,trs[i]? = some t/\vM H v (some (f t))):xR H tv (trs.map f) :=
 ⟨by rw[List.length_map];exact hl,λi v e=>by obtain⟨t,e1,e2⟩:=h i v e;exact⟨f t,by rw[List.getElem?_map,e1];rfl,e2⟩⟩
theorem QV {α β:Type}{f:α->β}{ps qs:List β}(p:ps.Perm qs):∀{l:List α},qs=l.map f->∃l':List α,l'.Perm l/\ps=l'.map f:=by
 induction p with
 | nil=>intro l e;cases l with
  | nil=>exact⟨[],.refl _,rfl⟩
  | cons x l=>cases e
 | cons x p ih=>intro l e;cases l with
  | nil=>cases e
  | cons y l =>
   rw[List.map_cons]at e;injection e with e1 e2
   obtain⟨l',h1,h2⟩:=ih e2
   exact⟨y::l',h1.cons _,by rw[List.map_cons,h2,e1]⟩
 | swap x y l0=>intro l e;cases l with
  | nil=>cases e
  | cons a l=>cases l with
   | nil=>rw[List.map_cons]at e;injection e with _ e2;cases e2
   | cons b l =>
    rw[List.map_cons,List.map_cons]at e;injection e with e1 e2;injection e2 with e2 e3
    exact⟨b::a::l,List.Perm.swap ..,by rw[List.map_cons,List.map_cons,e1,e2,e3]⟩
 | trans p1 p2 ih1 ih2 =>
  intro l e
  obtain⟨l1,h1,h2⟩:=ih2 e
  obtain⟨l2,h3,h4⟩:=ih1 h2
  exact⟨l2,h3.trans h1,h4⟩
theorem zam {H:Hp}{tv ys:List V}{ts:List (Int×Int)} (h:xR H tv ts) (s:zaw (ts.map Prod.snd) tv ys):∃seg,xR H ys seg/\seg.Perm ts/\seg.Pairwise λx y=>x.2<=y.2:=by
 obtain⟨ps,hp,rfl,hw⟩:=s
 have e:(ts.map Prod.snd).zip tv=(ts.zip tv).map λz=>(z.1.2,z.2):=by rw[List.zip_map_left];rfl
 obtain⟨zs,hz,rfl⟩:=QV hp e
 have hm:∀z∈zs,vM H z.2 (some z.1):=λz mz=>by
  have mz':=hz.mem_iff.mp mz
  obtain⟨i,hi,ez⟩:=List.getElem_of_mem mz'
  have hi1:i<ts.length:=by rw[List.length_zip]at hi;omega
  have hi2:i<tv.length:=by rw[List.length_zip]at hi;omega
  obtain⟨t,e1,e2⟩:=h.2 i tv[i] (List.getElem?_eq_getElem hi2)
  rw[List.getElem?_eq_getElem hi1]at e1;cases e1
  rw[<-ez,List.getElem_zip];exact e2
 refine⟨zs.map Prod.fst,⟨by simp,λi v ev=>?_⟩,?_,?_⟩
 ·rw[List.map_map,List.getElem?_map]at ev
  cases ez:zs[i]? with
  | none=>rw[ez]at ev;cases ev
  | some z =>
   rw[ez]at ev;cases ev
   exact⟨z.1,by rw[List.getElem?_map,ez];rfl,hm z (List.mem_of_getElem? ez)⟩
 ·have:=hz.map Prod.fst
  rwa [List.map_fst_zip (by rw[h.1];exact Nat.le_refl _)]at this
 ·rw[List.pairwise_map]at hw ⊢
  exact hw
theorem xR.app {H:Hp}{tv uv:List V}{ts us:List (Int×Int)} (h:xR H tv ts) (k:xR H uv us):xR H (tv++uv) (ts++us):=by
 refine⟨by simp[h.1,k.1],λi v e=>?_⟩
 by_cases hi:i<tv.length
 ·rw[List.getElem?_append_left hi]at e
  rw[List.getElem?_append_left (by rw[<-h.1];exact hi)]
  exact h.2 i v e
 ·rw[List.getElem?_append_right (by omega)]at e
  rw[List.getElem?_append_right (by rw[<-h.1];omega),<-h.1]
  exact k.2 _ v e
theorem xR.take {H:Hp}{tv:List V}{ts:List (Int×Int)} (h:xR H tv ts) (n:Nat):xR H (tv.take n) (ts.take n):=by
 refine⟨by simp[h.1],λi v e=>?_⟩
 rw[List.getElem?_take]at e ⊢
 split at e
 ·rw[if_pos ‹_›];exact h.2 i v e
 ·cases e
theorem xR.drop {H:Hp}{tv:List V}{ts:List (Int×Int)} (h:xR H tv ts) (n:Nat):xR H (tv.drop n) (ts.drop n):=by
 refine⟨by simp[h.1],λi v e=>?_⟩
 rw[List.getElem?_drop]at e ⊢
 exact h.2 _ v e
theorem zai:(Xj none)=id:=rfl
section
variable {P:Program}{w:World}{K:PySem.W.Frag}{mg:Str->Option Value}{base:Heap}
def zfO (C Tb:Addr):Sp:=λvs H Q _=>∃c tl a b wv pb sb tk ws trs lo hi wl,vs=[V.ref c,.int (a:Nat),.int (b:Nat),wv]/\CoT H C c tl pb sb tk ws trs lo hi/\vM H wv wl/\a<=b/\b<trs.length/\trs.length<=8/\(∀t∈trs,BdP 4600 t)/\(∀l,wl=some l->BdP 4600 l)/\qN Tb laQ laP H ∧
 ∀H' seg,Chg [Tb,tl] H H'->qN Tb laQ laP H'->seg.Perm ((vU trs (some (a:Int)) (some ((b:Int)+1))).map (Xj wl))->seg.Pairwise (λx y=>x.2<=y.2)->CoT H' C c tl pb sb tk ws (trs.take a++seg++trs.drop (b+1)) lo hi->Q .non H'
theorem zbq:zG ["course","first","last","wall","tracks"] ["course","first","last","wall"] (zg je):=⟨rfl,rfl,rfl,by decide +kernel,rfl,by decide +kernel,by decide +kernel⟩
theorem ze3 {C cd Tb:Addr}(D:DfC K mg "deal" je ["course","first","last","wall"] cd Tb) (TC:TCo K C) (hSo:mg "sorted" = none) (hB:base.BuiltinsAt mg Tb):Cal P w K mg base "deal" 4 ["course","first","last","wall"] [] (zfO C Tb):=by
 refine D.calB (k:=3) zbq (λvs H Q E h=>by obtain⟨_,_,_,_,_,_,_,_,_,_,_,_,_,rfl,_⟩:=h;rfl) (λf A outer s H vs Q E hr h=>?_)
 obtain⟨c,tl,a,b,wv,pb,sb,tk,ws,trs,lo,hi,wl,rfl,⟨dx,fs,tv,hc,F,elt,htl,hTv⟩,hwv,hab,hbl,hl8,zt,zw,T0,k⟩:=h
 refine⟨_,(zD (Bx.mk (zL (i:=4) zbq.nd rfl (Or.inl rfl) (vi jg (xb (pv 0) rfl) (xT (pv 1)) (xT (zA xa (pv 2) zd)))))
  (zD (Bx.mk (xk (zI qI (pv 3) zX (zJ _)) (zi (vR (i:=4) (NB:=["start","speed"]) (FR:=["wall"]) (js:=[3]) rfl rfl (λ_ _ h=>h) (.cons rfl rfl rfl ⟨_,rfl⟩ .nil) rfl (by decide +kernel) rfl (by decide +kernel) zbq.nd rfl rfl (by rfl) (xS (pv 4)) (by intro _ _ _;refine⟨?_,?_,?_⟩;(exact(ZM (K:=K) (n:=2) rfl rfl (zQ (zK (i:=0) (show List.Nodup (["start","speed","wall"]:List Str) by decide +kernel) rfl (Or.inl rfl)) (zQ (zK (i:=1) (show List.Nodup (["start","speed","wall"]:List Str) by decide +kernel) rfl (Or.inl rfl)) xJ))));(exact qg);(exact(xv (za (zA qj (zA zO zd (zr (ve (K:=K) rfl) (pv 2) zd (λ_ _=>rfl))) (pv 0)) (za (zA qj (zA zO zd (zr (ve (K:=K) rfl) (pv 2) zd (λ_ _=>rfl))) (pv 1)) ze))))))) zS))
  (Bx.mk (zi (qJ (zbi rfl rfl D.hd rfl rfl hB rfl hr zfD (λ_ _ _ _=>rfl) rfl hSo (za (pv 4) ze) (λ_ _ _ _=>zr (ve (K:=K) rfl) (pv 0) zd (λ_ _=>rfl))) (zbj (xb (pv 0) rfl) (xT (pv 1)) (xT (zA xa (pv 2) zd)))))))),?_⟩
 refine⟨_,rfl,c,C,dx,_,_,rfl,hc,TC.cls,TC.tracks,elt,?_⟩
 refine⟨_,rfl,_,rfl,_,rfl,_,_,rfl,rfl,_,rfl,tl,tv,rfl,.of htl,λq1 hq1=>?_⟩
 have s1:=zh.upd (o:=.lst (qq tv (some (a:Int)) (some ((b:Int)+1)))) hq1
 have hq1':upd H q1 (.lst (qq tv (some (a:Int)) (some ((b:Int)+1)))) q1=some (.lst (qq tv (some (a:Int)) (some ((b:Int)+1)))):=zf
 generalize upd H q1 (.lst (qq tv (some (a:Int)) (some ((b:Int)+1))))=G1 at s1 hq1'
 have hcut:=(hTv.cut (some (a:Int)) (some ((b:Int)+1)))
 have hcl:(qq tv (some (a:Int)) (some ((b:Int)+1))).length<=8:=Nat.le_trans (vO _ _ _) (by rw[hTv.1];exact hl8)
 have zc:∀t∈vU trs (some (a:Int)) (some ((b:Int)+1)),BdP 4600 t:=λt mt=>zt t (List.mem_of_mem_drop (List.mem_of_mem_take mt))
 dsimp only[zN]
 refine xx (λσ' G=>∃q2 tv2,σ'=[some (.ref c),some (.int (a:Int)),some (.int (b:Int)),some wv,some (.ref q2)]/\zh H G/\H q2=none/\G q2=some (.lst tv2)/\xR G tv2 ((vU trs (some (a:Int)) (some ((b:Int)+1))).map (Xj wl))) ?_ ?_
 rotate_left
 ·intro nx hnx
  cases wl with
  | none =>
   obtain rfl:wv = .non:=hwv
   exact⟨_,rfl,rfl,_,rfl,xA (hnx _ _ ⟨q1,_,rfl,s1,hq1,hq1',by rw[zai,List.map_id];exact hcut.keeps (.of s1)⟩)⟩
  | some w0 =>
   obtain⟨aw,rfl,haw⟩:=hwv
   have zw0:=zw w0 rfl
   refine⟨_,rfl,rfl,_,rfl,qd ?_⟩
   refine⟨_,rfl,q1,rfl,⟨_,SqL.of hq1'⟩,λDc hDc=>?_⟩
   refine qh (js:=[3]) (J:=Itl K q1) (g:=J4 K 2 (jK (zN 0) (jK (zN 1) zaR))) (te:=_) (n:=2) (xs:=qq tv (some (a:Int)) (some ((b:Int)+1))) (λi v G=>∃t,(vU trs (some (a:Int)) (some ((b:Int)+1)))[i]? = some t/\vM G v (some (Xj (some w0) t))) (λi v G G' e ⟨t,h1,h2⟩=>⟨t,h1,h2.keeps e⟩) hDc (xW hq1') (xt (by omega)) ?_ ?_
   ·intro i x zs H2 Q' hx hz s2 hk
    obtain⟨z1,z2,rfl⟩:=zeT hz
    obtain⟨t,et,at',rfl,hat⟩:=(hcut.keeps (.of (s1.trans s2))).2 i x hx
    have zt0:=zc t (List.mem_of_getElem? et)
    have haw2:=s2 _ _ (s1 _ _ haw)
    refine⟨at',_,rfl,.of hat,rfl,_,_,rfl,_,_,rfl,rfl,rfl,?_⟩
    refine⟨_,rfl,aw,_,_,_,rfl,rfl,.of haw2,rfl,_,_,rfl,rfl,⟨Bd.mono (m:=3) (show (2:Int).natAbs<2^3 by decide) (by decide),zw0.1.mono (by decide)⟩,_,rfl,_,_,rfl,rfl,?_⟩
    refine⟨_,rfl,aw,_,_,_,rfl,rfl,.of haw2,rfl,_,_,rfl,rfl,⟨Bd.mono (m:=3) (show (2:Int).natAbs<2^3 by decide) (by decide),zw0.2.mono (by decide)⟩,_,rfl,_,_,rfl,rfl,?_⟩
    refine⟨by show 2<=sizeLine;decide,λtp htp=>hk _ _ (zh.upd htp) ⟨t,et,tp,rfl,zf⟩⟩
   ·intro ys G2 s2 hD2 hly hyR
    refine hnx _ _ ⟨Dc,ys,rfl,s1.trans s2,?_,hD2,xR.map (by rw[hly];exact hcut.1) hyR⟩
    cases e:H Dc with
    | none=>rfl
    | some o=>rw[s1 _ _ e]at hDc;cases hDc
 rintro σ' G2 ⟨q2,tv2,rfl,S2,hq2,hq2',hT2⟩
 have T2:=T0.same S2
 obtain⟨ps0,hTb2,_⟩:=id T2
 have neT:∀{b:Addr}{o:HO},G2 b=some o->(∀ps,o≠.tbl ps)->b≠Tb:=λ{b o} e n z=>by rw[z,hTb2]at e;cases e;exact n _ rfl
 refine⟨_,rfl,q2,tv2,((vU trs (some (a:Int)) (some ((b:Int)+1))).map (Xj wl)).map Prod.snd,rfl,hq2',T2,by rw[List.length_map];exact hT2.1.symm,?_,λi v kk ev ek H2 st=>?_,λDn ys H2 st T3 hDn hK=>?_⟩
 ·have:=hT2.1
  rw[List.length_map]at this
  have:tv2.length<=8:=by rw[this,<-hcut.1];exact hcl
  omega
 ·obtain⟨t,et,at',rfl,hat⟩:=hT2.2 i v ev
  rw[List.getElem?_map,et]at ek
  cases ek
  have h2:=st _ _ hat (neT hat (λ_ z=>by cases z))
  exact⟨_,rfl,at',_,_,_,rfl,rfl,.of h2,rfl,rfl,rfl⟩
 have S3:zh H2 (upd H2 Dn (.lst ys)):=zh.upd hDn
 have CH:Chg [Tb] H (upd H2 Dn (.lst ys)):=λb o nb e=>S3 _ _ (st b o (S2 b o e) (by simpa using nb))
 have neH:∀{b:Addr}{o:HO},H b=some o->(∀ps,o≠.tbl ps)->b∉[Tb]:=λ{b o} e n z=>neT (S2 _ _ e) n (by simpa using z)
 have hc3:=CH c _ (neH hc (λ_ z=>by cases z)) hc
 have htl3:=CH tl _ (neH htl (λ_ z=>by cases z)) htl
 have hD3:upd H2 Dn (.lst ys) Dn=some (.lst ys):=zf
 have hDtl:tl≠Dn:=λz=>by
  have:=st tl _ (S2 _ _ htl) (neT (S2 _ _ htl) (λ_ z=>by cases z))
  rw[z,hDn]at this;cases this
 have T4:=T3.same S3
 have TuH:zT H (upd H2 Dn (.lst ys)):=λb xs e=>CH b _ (neH e (λ_ z=>by cases z)) e
 have TuG:zT G2 (upd H2 Dn (.lst ys)):=λb xs e=>S3 _ _ (st b _ e (neT e (λ_ z=>by cases z)))
 obtain⟨seg,hseg,hperm,hpw⟩:=zam (hT2.keeps TuG) hK
 generalize upd H2 Dn (.lst ys)=G3 at CH hc3 htl3 hD3 T4 TuH TuG hseg
 have hys:ys.length<=8:=by
  have e1:=hseg.1
  have e2:=hperm.length_eq
  rw[List.length_map]at e2
  rw[e1,e2,<-hcut.1];exact hcl
 have htvl:tv.length=trs.length:=hTv.1
 refine⟨_,rfl,c,C,dx,_,_,rfl,hc3,TC.cls,TC.tracks,elt,_,rfl,_,rfl,_,rfl,_,_,rfl,rfl,_,rfl,tl,Dn,tv,ys,(a:Int),((b:Int)+1),rfl,rfl,rfl,rfl,htl3,hD3,hDtl,by omega,by omega,by omega,szl (by omega),?_⟩
 have CH2:Chg [tl] G3 (upd G3 tl (.lst (tv.take ((a:Int)).toNat++ys++tv.drop ((b:Int)+1).toNat))):=λb o nb e=>by rw[zB (by simpa using nb)];exact e
 have hE:upd G3 tl (.lst (tv.take ((a:Int)).toNat++ys++tv.drop ((b:Int)+1).toNat)) tl=some (.lst (tv.take a++ys++tv.drop (b+1))):=zf
 have Tu2:zT G3 (upd G3 tl (.lst (tv.take ((a:Int)).toNat++ys++tv.drop ((b:Int)+1).toNat))):=.upd htl3
 generalize upd G3 tl (.lst (tv.take ((a:Int)).toNat++ys++tv.drop ((b:Int)+1).toNat))=G4 at CH2 hE Tu2
 have TuA:zT H G4:=TuH.trans Tu2
 have CHA:Chg [Tb,tl] H G4:=λb o nb e=>CH2 b o (λz=>nb (by simp at z;simp[z])) (CH b o (λz=>nb (by simp at z;simp[z])) e)
 have ntl:∀{b:Addr}{o:HO},H b=some o->(∀xs,o≠.lst xs)->(∀ps,o≠.tbl ps)->b∉[Tb,tl]:=λ{b o} e n1 n2 z=>by
  rcases List.mem_cons.mp z with z | z
  ·exact neH e n2 (by simp[z])
  ·have:b=tl:=by simpa using z
   rw[this,htl]at e;cases e;exact n1 _ rfl
 refine k G4 seg CHA ?_ hperm hpw ?_
 ·obtain⟨ps,g1,g2,g3⟩:=T4
  have nT:Tb∉[tl]:=λz=>by
   have:Tb=tl:=by simpa using z
   rw[this,htl3]at g1;cases g1
  refine⟨ps,CH2 _ _ nT g1,g2,?_⟩
  rcases g3 with g3 | ⟨c',g3,g4⟩
  ·exact .inl g3
  ·exact .inr ⟨c',g3,CH2 _ _ (λz=>by
    have:c'=tl:=by simpa using z
    rw[this,htl3]at g4;cases g4) g4⟩
 ·obtain⟨tp,f1,f2⟩:=F.tick
  obtain⟨wl',f3,f4⟩:=F.weights
  obtain⟨v1,f5,f6⟩:=F.low
  obtain⟨v2,f7,f8⟩:=F.high
  have hTn:xR G4 (tv.take a++ys++tv.drop (b+1)) (trs.take a++seg++trs.drop (b+1)):=(((hTv.keeps TuA).take a).app (hseg.keeps Tu2)).app ((hTv.keeps TuA).drop (b+1))
  refine⟨dx,fs,_,CHA c _ (ntl hc (λ_ z=>by cases z) (λ_ z=>by cases z)) hc,⟨F.pb,F.sb,⟨tp,f1,TuA _ _ f2⟩,⟨wl',f3,?_⟩,⟨tl,_,elt,hE,hTn⟩,⟨v1,f5,f6.keeps TuA⟩,⟨v2,f7,f8.keeps TuA⟩,F.len⟩,elt,hE,hTn⟩
  refine CHA wl' _ (λz=>?_) f4
  rcases List.mem_cons.mp z with z | z
  ·exact neH f4 (λ_ z=>by cases z) (by simp[z])
  ·have z:wl'=tl:=by simpa using z
   rw[z,htl]at f4
   have ev:tv=ws.map V.int:=by injection f4 with f4;injection f4
   have h0:0<tv.length:=by omega
   obtain⟨t,_,at',e1,_⟩:=hTv.2 0 tv[0] (List.getElem?_eq_getElem h0)
   have:tv[0]∈ws.map V.int:=by rw[<-ev];exact List.getElem_mem h0
   obtain⟨n,_,en⟩:=List.mem_map.mp this
   rw[e1]at en;cases en
end
end KQ
end
section
set_option maxHeartbeats 8000000
set_option Elab.async false
set_option linter.all false
set_option maxRecDepth 100000
namespace L2
open PySem PySem.Spec PyProof.Rows
section
variable {X:Cx}
theorem Jb:zeI X .Mult (rI ZO λi j=>.int (i*j)):=by
 rintro pins s σ H x y u v Q I rx ry ⟨i,j,rfl,rfl,hc,q⟩
 obtain⟨t,rfl⟩:=(show ∃t,u=Value.int i t from rx)
 obtain⟨t',rfl⟩:=(show ∃t',v=Value.int j t' from ry)
 exact PyProof.Rows.imul_int ⟨.int (i*j),H,I.tok _,⟨_,rfl⟩,q⟩ (IntMulOk.of_le hc.1.bits hc.2.bits (by decide))
theorem qT {f:Str}{v x:V}:∀{fs:List (Str×V)},fs.lookup f=some x->(xI f v fs).length=fs.length
 | [],h=>by cases h
 | (g,y)::r,h=>by
  unfold xI
  by_cases e:g=f
  ·rw[if_pos e];rfl
  ·rw[if_neg e]
   have:(f == g)=false:=beq_eq_false_iff_ne.mpr (λz=>e z.symm)
   rw[List.lookup_cons,this]at h
   rw[List.length_cons,List.length_cons,qT h]
end
end L2
namespace KQ
open PySem L2 KM KK
def scT (m:Int) (t:Int×Int):Int×Int:=(t.1*m,t.2*m)
section
variable {P:Program}{w:World}{K:PySem.W.Frag}{mg:Str->Option Value}{base:Heap}
def zfZ:Sp:=λvs H Q _=>∃v m o,vs=[v,.int m]/\vM H v o/\Bd 5000 m/\(∀t,o=some t->BdP 5000 t)/\∀v' H',zh H H'->vM H' v' (o.map (scT m))->Q v' H'
theorem zfG:zG ["track","many"] ["track","many"] (zg vA):=⟨rfl,rfl,rfl,by decide +kernel,rfl,by decide +kernel,by decide +kernel⟩
theorem zfi (D:Df K mg "refined" vA ["track","many"] []):Cal P w K mg base "refined" 1 ["track","many"] [] zfZ:=by
 refine D.cal (k:=0) zfG (λvs H Q E h=>by obtain⟨_,_,_,rfl,_⟩:=h;rfl) (λf cdv A outer s H vs Q E hr h=>?_)
 obtain⟨v,m,o,rfl,hv,zm,zo,k⟩:=h
 refine⟨_,(zj (xk (zI vn (pv 0) zX (zJ _)) (zi (zM zX)) zS)
  (zi (zM (xv (za (zA zO (zr zk (pv 0) zd (λ_ _=>rfl)) (pv 1)) (za (zA zO (zr zk (pv 0) zd (λ_ _=>rfl)) (pv 1)) ze)))))),?_⟩
 cases o with
 | none =>
  obtain rfl:v = .non:=hv
  exact⟨_,rfl,rfl,_,rfl,qd (k _ _ (zh.refl _) rfl)⟩
 | some t =>
  obtain⟨a,rfl,ha⟩:=hv
  have z:=zo t rfl
  refine⟨_,rfl,rfl,_,rfl,xA ?_⟩
  refine⟨_,rfl,a,_,_,_,rfl,rfl,.of ha,rfl,_,rfl,_,_,rfl,rfl,⟨z.1.mono (by decide),zm.mono (by decide)⟩,_,rfl,a,_,_,_,rfl,rfl,.of ha,rfl,_,rfl,_,_,rfl,rfl,⟨z.2.mono (by decide),zm.mono (by decide)⟩,by show 2<=sizeLine;decide,λtp htp=>?_⟩
  exact k _ _ (zh.upd htp) ⟨tp,rfl,zf⟩
def zfY (C:Addr):Sp:=λvs H Q _=>∃c tl m pb sb tk ws trs lo hi,vs=[V.ref c,.int m]/\CoT H C c tl pb sb tk ws trs lo hi/\trs.length<=8/\Bd 5000 m/\Bd 5000 pb/\Bd 5000 sb/\(∀t∈trs,BdP 5000 t)/\(∀l,lo=some l->BdP 5000 l)/\(∀l,hi=some l->BdP 5000 l) ∧
 ∀H' tl',zW c H H'->H tl'=none->CoT H' C c tl' (pb*m) (sb*m) tk ws (trs.map (scT m)) (lo.map (scT m)) (hi.map (scT m))->Q .non H'
theorem zfF:zG ["course","many"] ["course","many"] (zg v7):=⟨rfl,rfl,rfl,by decide +kernel,rfl,by decide +kernel,by decide +kernel⟩
theorem zfh {C:Addr}(D:Df K mg "refine" v7 ["course","many"] []) (TC:TCo K C) (cRf:Cal P w K mg base "refined" 1 ["track","many"] [] zfZ):Cal P w K mg base "refine" 2 ["course","many"] [] (zfY C):=by
 refine D.calB (k:=1) zfF (λvs H Q E h=>by obtain⟨_,_,_,_,_,_,_,_,_,_,rfl,_⟩:=h;rfl) (λf cdv A outer s H vs Q E hr h=>?_)
 obtain⟨c,tl,m,pb,sb,tk,ws,trs,lo,hi,rfl,⟨dx,fs,tv,hc,F,elt,htl,hTv⟩,hl8,zm,zpb,zsb,zt,zlo,zhi,k⟩:=h
 obtain⟨tp,f1,f2⟩:=F.tick
 obtain⟨wl',f3,f4⟩:=F.weights
 obtain⟨v1,f5,f6⟩:=F.low
 obtain⟨v2,f7,f8⟩:=F.high
 have flen:=F.len
 refine⟨_,(zD (Bx.mk (XS (pv 0) (pv 1) Jb))
  (zD (Bx.mk (XS (pv 0) (pv 1) Jb))
  (zD (Bx.mk (vW (pv 0) (jR (NB:=["track"]) (FR:=["many"]) (js:=[1]) rfl rfl (λ_ _ h=>h) (.cons rfl rfl rfl ⟨_,rfl⟩ .nil) rfl (by decide +kernel) rfl (by decide +kernel) (xS (xb (pv 0) rfl)) (by intro _ _ _;refine⟨?_,?_,?_⟩;(exact(zK (i:=0) (show List.Nodup (["track","many"]:List Str) by decide +kernel) rfl (Or.inl rfl)));(exact qg);(exact(zP cRf hr (za (pv 0) (za (pv 1) ze)))))) rfl))
  (zD (Bx.mk (vW (pv 0) (zP cRf hr (za (xb (pv 0) rfl) (za (pv 1) ze))) rfl))
  (Bx.mk (zi (vW (pv 0) (zP cRf hr (za (xb (pv 0) rfl) (za (pv 1) ze))) rfl))))))),?_⟩
 have nc:∀{G:Hp}{dx:Addr}{fs:List (Str×V)}{b:Addr}{o:HO},G c=some (.ins C dx fs)->G b=some o->(∀dx fs,o≠.ins C dx fs)->b≠c:=λh1 h2 h3 z=>by subst z;rw[h1]at h2;cases h2;exact h3 _ _ rfl
 refine⟨_,rfl,c,C,dx,fs,_,rfl,hc,TC.cls,TC.pb,F.pb,_,rfl,_,_,rfl,rfl,⟨zpb.mono (by decide),zm.mono (by decide)⟩,dx,fs,hc,by omega,?_⟩
 have l1:(xI ("place_bottom":Str) (.int (pb*m)) fs).length=fs.length:=qT F.pb
 have e1:∀g:Str,g≠"place_bottom"->(xI ("place_bottom":Str) (.int (pb*m)) fs).lookup g=fs.lookup g:=λg n=>by rw[xm,if_neg n]
 have p1:(xI ("place_bottom":Str) (.int (pb*m)) fs).lookup ("place_bottom":Str)=some (.int (pb*m)):=by rw[xm,if_pos rfl]
 generalize xI ("place_bottom":Str) (.int (pb*m)) fs=fs1 at l1 e1 p1
 have X1:zW c H (upd H c (.ins C dx fs1)):=.upd
 have c1:upd H c (.ins C dx fs1) c=some (.ins C dx fs1):=zf
 generalize upd H c (.ins C dx fs1)=G1 at X1 c1
 refine⟨_,rfl,c,C,dx,fs1,_,rfl,c1,TC.cls,TC.sb,(e1 _ (by decide)).trans F.sb,_,rfl,_,_,rfl,rfl,⟨zsb.mono (by decide),zm.mono (by decide)⟩,dx,fs1,c1,by omega,?_⟩
 have l2:(xI ("speed_bottom":Str) (.int (sb*m)) fs1).length=fs1.length:=qT ((e1 _ (by decide)).trans F.sb)
 have e2:∀g:Str,g≠"speed_bottom"->(xI ("speed_bottom":Str) (.int (sb*m)) fs1).lookup g=fs1.lookup g:=λg n=>by rw[xm,if_neg n]
 have p2:(xI ("speed_bottom":Str) (.int (sb*m)) fs1).lookup ("speed_bottom":Str)=some (.int (sb*m)):=by rw[xm,if_pos rfl]
 generalize xI ("speed_bottom":Str) (.int (sb*m)) fs1=fs2 at l2 e2 p2
 have X2:zW c H (upd G1 c (.ins C dx fs2)):=X1.trans .upd
 have c2:upd G1 c (.ins C dx fs2) c=some (.ins C dx fs2):=zf
 generalize upd G1 c (.ins C dx fs2)=G2 at X2 c2
 have t2:zT H G2:=X2.tup hc
 have htl2:=X2 _ _ (nc hc htl (λ_ _ z=>by cases z)) htl
 dsimp only
 refine vS (K:=K) ?_
 refine⟨_,rfl,c,C,dx,fs2,_,rfl,c2,TC.cls,TC.tracks,(e2 _ (by decide)).trans ((e1 _ (by decide)).trans elt),tl,rfl,⟨_,SqL.of htl2⟩,λD3 hD3=>?_⟩
 refine qh (J:=Itl K tl) (n:=1) (js:=[1]) (g:=zN 0) (te:=_) (xs:=tv) (λi v G=>∃t,trs[i]? = some t/\vM G v (some (scT m t))) (λ_ _ _ _ t ⟨x,h1,h2⟩=>⟨x,h1,h2.keeps t⟩) hD3 (xW htl2) (xt (by have:=hTv.1;omega)) ?_ ?_
 ·intro i x zs H3 Q' hx hz s3 hk
  obtain⟨z1,rfl⟩:=jL hz
  obtain⟨t,et,hat⟩:=(hTv.keeps (t2.trans (.of s3))).2 i x hx
  dsimp only[zN]
  exact⟨rfl,_,rfl,_,rfl,x,m,some t,rfl,hat,zm,λu e=>by cases e;exact zt t (List.mem_of_getElem? et),λv' H' s' h'=>hk _ _ s' ⟨t,et,h'⟩⟩
 intro y3 H3 s3 hy3 hyl3 hyR3
 refine qt (by rfl) (s3 _ _ c2) TC.cls TC.tracks (by omega) λG3 X3' c3=>?_
 have l3:(xI ("tracks":Str) (.ref D3) fs2).length=fs2.length:=qT ((e2 _ (by decide)).trans ((e1 _ (by decide)).trans elt))
 have e3:∀g:Str,g≠"tracks"->(xI ("tracks":Str) (.ref D3) fs2).lookup g=fs2.lookup g:=λg n=>by rw[xm,if_neg n]
 have p3:(xI ("tracks":Str) (.ref D3) fs2).lookup ("tracks":Str)=some (.ref D3):=by rw[xm,if_pos rfl]
 generalize xI ("tracks":Str) (.ref D3) fs2=fs3 at l3 e3 p3 c3
 have X3:zW c H G3:=X2.trans ((zW.of s3).trans X3')
 have t3:zT H G3:=X3.tup hc
 have hy3':G3 D3=some (.lst y3):=X3' _ _ (nc (s3 _ _ c2) hy3 (λ_ _ z=>by cases z)) hy3
 have hD3H:H D3=none:=by
  cases e:H D3 with
  | none=>rfl
  | some o =>
   by_cases hz:D3=c
   ·rw[hz,c2]at hD3;cases hD3
   ·rw[X2 _ _ hz e]at hD3;cases hD3
 have hT3:xR G3 y3 (trs.map (scT m)):=(xR.map (by rw[hyl3];exact hTv.1) hyR3).keeps (X3'.tup (s3 _ _ c2))
 have g5:fs3.lookup ("low":Str)=some v1:=(e3 _ (by decide)).trans ((e2 _ (by decide)).trans ((e1 _ (by decide)).trans f5))
 have g7:fs3.lookup ("high":Str)=some v2:=(e3 _ (by decide)).trans ((e2 _ (by decide)).trans ((e1 _ (by decide)).trans f7))
 refine vS (K:=K) ?_
 refine QH ⟨_,rfl,c,C,dx,fs3,_,rfl,c3,TC.cls,TC.low,g5,_,rfl,v1,m,lo,rfl,f6.keeps t3,zm,zlo,λlv H4 s4 hlv=>?_⟩
 refine qt (by rfl) (s4 _ _ c3) TC.cls TC.low (by omega) λG4 X4' c4=>?_
 have l4:(xI ("low":Str) lv fs3).length=fs3.length:=qT g5
 have e4:∀g:Str,g≠"low"->(xI ("low":Str) lv fs3).lookup g=fs3.lookup g:=λg n=>by rw[xm,if_neg n]
 have p4:(xI ("low":Str) lv fs3).lookup ("low":Str)=some lv:=by rw[xm,if_pos rfl]
 generalize xI ("low":Str) lv fs3=fs4 at l4 e4 p4 c4
 have X34:zW c G3 G4:=(zW.of s4).trans X4'
 have X4:zW c H G4:=X3.trans X34
 have t4:zT H G4:=X4.tup hc
 have hlv4:=hlv.keeps (X4'.tup (s4 _ _ c3))
 have g8:fs4.lookup ("high":Str)=some v2:=(e4 _ (by decide)).trans g7
 refine Jk (K:=K) ?_
 refine QH ⟨_,rfl,c,C,dx,fs4,_,rfl,c4,TC.cls,TC.high,g8,_,rfl,v2,m,hi,rfl,f8.keeps t4,zm,zhi,λhv H5 s5 hhv=>?_⟩
 refine qt (rest:=qQ.nx) (by rfl) (s5 _ _ c4) TC.cls TC.high (by omega) λG5 X5' c5=>?_
 have l5:(xI ("high":Str) hv fs4).length=fs4.length:=qT g8
 have e5:∀g:Str,g≠"high"->(xI ("high":Str) hv fs4).lookup g=fs4.lookup g:=λg n=>by rw[xm,if_neg n]
 have p5:(xI ("high":Str) hv fs4).lookup ("high":Str)=some hv:=by rw[xm,if_pos rfl]
 generalize xI ("high":Str) hv fs4=fs5 at l5 e5 p5 c5
 have X45:zW c G4 G5:=(zW.of s5).trans X5'
 have X35:=X34.trans X45
 have X5:zW c H G5:=X4.trans X45
 have t5:zT H G5:=X5.tup hc
 have hy5:=X35 _ _ (nc c3 hy3' (λ_ _ z=>by cases z)) hy3'
 have hT5:=hT3.keeps (X35.tup c3)
 have q3:fs5.lookup ("tracks":Str)=some (.ref D3):=(e5 _ (by decide)).trans ((e4 _ (by decide)).trans p3)
 refine k G5 D3 X5 hD3H ⟨dx,fs5,y3,c5,⟨?_,?_,⟨tp,?_,t5 _ _ f2⟩,⟨wl',?_,X5 _ _ (nc hc f4 (λ_ _ z=>by cases z)) f4⟩,⟨D3,y3,q3,hy5,hT5⟩,⟨lv,(e5 _ (by decide)).trans p4,hlv4.keeps (X45.tup c4)⟩,⟨hv,p5,hhv.keeps (X5'.tup (s5 _ _ c4))⟩,by omega⟩,q3,hy5,hT5⟩
 ·exact(e5 _ (by decide)).trans ((e4 _ (by decide)).trans ((e3 _ (by decide)).trans ((e2 _ (by decide)).trans p1)))
 ·exact(e5 _ (by decide)).trans ((e4 _ (by decide)).trans ((e3 _ (by decide)).trans p2))
 ·exact(e5 _ (by decide)).trans ((e4 _ (by decide)).trans ((e3 _ (by decide)).trans ((e2 _ (by decide)).trans ((e1 _ (by decide)).trans f1))))
 ·exact(e5 _ (by decide)).trans ((e4 _ (by decide)).trans ((e3 _ (by decide)).trans ((e2 _ (by decide)).trans ((e1 _ (by decide)).trans f3))))
end
end KQ
end
section
set_option maxHeartbeats 8000000
set_option Elab.async false
set_option linter.all false
set_option maxRecDepth 100000
namespace KQ
open PySem L2 KM KK
theorem zeN {α:Type}{xs:List α}{a:Nat}{x y:α}(hx:xs[a]? = some x) (hy:xs[a+1]? = some y):vU xs (some (a:Int)) (some ((a:Int)+2))=[x,y]:=by
 have h2:a+1<xs.length:=(List.getElem?_eq_some_iff.mp hy).1
 unfold vU
 rw[show ((a:Int)+2)=((a+2:Nat):Int) by omega,HT.sIx_nat,HT.sIx_nat]
 have e1:min a xs.length=a:=by omega
 have e2:min (a+2) xs.length - min a xs.length=2:=by omega
 rw[e2,e1]
 obtain⟨h1,rfl⟩:=List.getElem?_eq_some_iff.mp hx
 obtain⟨_,rfl⟩:=List.getElem?_eq_some_iff.mp hy
 rw[List.drop_eq_getElem_cons h1,List.drop_eq_getElem_cons h2]
 rfl
def dvP (l r:Int):Int:=((Int.gcd (l+r) (2*l):Nat):Int)
def mP (l r:Int):Int:=(l+r).fdiv (dvP l r)
def puP (l r:Int):Int:=(2*r).fdiv (dvP l r)
def baP (l r:Int):Int:=(2*l).fdiv (dvP l r)
def ahP (l r:Int):Int:=(l - r).fdiv (dvP l r)
def Xg (l r:Int) (trs:List (Int×Int)) (a:Nat) (x y:Int×Int):List (Int×Int) :=
 ((trs.map (scT (mP l r))).set a (ahP l r*x.1+puP l r*y.1,ahP l r*x.2+puP l r*y.2)).set (a+1) (baP l r*x.1 - ahP l r*y.1,baP l r*x.2 - ahP l r*y.2)
theorem Vr {l r:Int}(hl:1<=l) (hr:1<=r):0<dvP l r:=by
 unfold dvP
 have:0<Int.gcd (l+r) (2*l):=Int.gcd_pos_of_ne_zero_left _ (by omega)
 omega
theorem V7 {l r:Int}(hl:1<=l) (hr:1<=r) (hl2:l<=1000) (hr2:r<=1000):dvP l r<=2000:=by
 unfold dvP
 have h:((Int.gcd (l+r) (2*l):Nat):Int)<=l+r:=Int.le_of_dvd (by omega) (Int.gcd_dvd_left ..)
 omega
theorem Zv {t d:Int}(hd:0<d) (h : -2000<=t) (h2:t<=2000):Bd 12 (t.fdiv d):=by
 rw[Int.fdiv_eq_ediv_of_nonneg _ (by omega)]
 have h1:t/d<=2000:=by
  by_cases z:0<=t
  ·have:=Int.ediv_le_self d z;omega
  ·have:t/d<0:=Int.ediv_neg_of_neg_of_pos (by omega) hd
   omega
 have h3 : -2000<=t/d:=by
  have : -2000/d<=t/d:=Int.ediv_le_ediv hd h
  have : -2000 ≤ -2000/d:=by
   rw[Int.le_ediv_iff_mul_le hd]
   have:(2000:Int)*1<=2000*d:=Int.mul_le_mul_of_nonneg_left (by omega) (by decide)
   omega
  omega
 show (t/d).natAbs<2^12
 omega
theorem xR.put {H:Hp}{tv:List V}{ts:List (Int×Int)}{p:Addr}{t:Int×Int}{a:Nat}(h:xR H tv ts) (hp:H p=some (.tup [.int t.1,.int t.2])):xR H (tv.set a (.ref p)) (ts.set a t):=by
 refine⟨by simp[h.1],λi v e=>?_⟩
 rw[List.getElem?_set]at e ⊢
 by_cases hi:a=i
 ·rw[if_pos hi]at e ⊢
  split at e
  ·cases e
   rw[if_pos (by rw[<-h.1];assumption)]
   exact⟨t,rfl,p,rfl,hp⟩
  ·cases e
 ·rw[if_neg hi]at e ⊢
  exact h.2 i v e
theorem zaX {n a:Nat}(h:a<n):ixN n (a:Int)=some a:=by
 unfold ixN
 rw[if_pos (by omega),if_pos (by omega),Int.toNat_natCast]
section
variable {P:Program}{w:World}{K:PySem.W.Frag}{mg:Str->Option Value}{base:Heap}
def zfT (C:Addr):Sp:=λvs H Q _=>∃c tl a pb sb tk ws trs lo hi l r x y,vs=[V.ref c,.int (a:Nat)]/\CoT H C c tl pb sb tk ws trs lo hi/\trs.length<=8/\ws[a]? = some l/\ws[a+1]? = some r/\1<=l/\l<=1000/\1<=r/\r<=1000/\trs[a]? = some x/\trs[a+1]? = some y ∧
 Bd 5000 pb/\Bd 5000 sb/\(∀t∈trs,BdP 5000 t)/\(∀l,lo=some l->BdP 5000 l)/\(∀l,hi=some l->BdP 5000 l) ∧
 ∀H' tl',zW c H H'->H tl'=none->CoT H' C c tl' (pb*mP l r) (sb*mP l r) tk ws (Xg l r trs a x y) (lo.map (scT (mP l r))) (hi.map (scT (mP l r)))->Q .non H'
theorem jW:zG ["course","first","left","right","one","other","divisor","pull","back","ahead"] ["course","first"] (zg Zh):=⟨rfl,rfl,rfl,by decide +kernel,rfl,by decide +kernel,by decide +kernel⟩
theorem zfc {C:Addr}(D:Df K mg "part" Zh ["course","first"] []) (TC:TCo K C) (cG:Cal P w K mg base "greatest_divisor" 1 ["one","other"] [] JH) (cRe:Cal P w K mg base "refine" 2 ["course","many"] [] (zfY C)):Cal P w K mg base "part" 3 ["course","first"] [] (zfT C):=by
 refine D.calB (k:=2) jW (λvs H Q E h=>by obtain⟨_,_,_,_,_,_,_,_,_,_,_,_,_,_,rfl,_⟩:=h;rfl) (λf cdv A outer s H vs Q E hr h=>?_)
 obtain⟨c,tl,a,pb,sb,tk,ws,trs,lo,hi,l,r,x,y,rfl,CT,hl8,hl,hrr,l1,l2,r1,r2,hx,hy,zpb,zsb,zt,zlo,zhi,k⟩:=h
 obtain⟨dx,fs,tv,hc,F,elt,htl,hTv⟩:=id CT
 obtain⟨wl',f3,f4⟩:=F.weights
 have hr1:xi 1 _:=hr.mono (by decide)
 have ha1:a+1<trs.length:=(List.getElem?_eq_some_iff.mp hy).1
 refine⟨_,(zD (Bx.mk (qJ (vi jg (xb (pv 0) rfl) (xT (pv 1)) (xT (zA xa (pv 1) zd))) (Jr rfl (zQ (zK (i:=2) jW.nd rfl (Or.inl rfl)) (zQ (zK (i:=3) jW.nd rfl (Or.inl rfl)) xJ)))))
  (zD (Bx.mk (qJ (vi jg (xb (pv 0) rfl) (xT (pv 1)) (xT (zA xa (pv 1) zd))) (Jr rfl (zQ (zK (i:=4) jW.nd rfl (Or.inl rfl)) (zQ (zK (i:=5) jW.nd rfl (Or.inl rfl)) xJ)))))
  (zD (Bx.mk (zL (i:=6) jW.nd rfl (Or.inl rfl) (zP cG hr1 (za (zA xa (pv 2) (pv 3)) (za (zA zO zd (pv 2)) ze)))))
  (zD (Bx.mk (xU (zP cRe hr (za (pv 0) (za (zA qi (zA xa (pv 2) (pv 3)) (pv 6)) ze)))))
  (zD (Bx.mk (zL (i:=7) jW.nd rfl (Or.inl rfl) (zA qi (zA zO zd (pv 3)) (pv 6))))
  (zD (Bx.mk (zL (i:=8) jW.nd rfl (Or.inl rfl) (zA qi (zA zO zd (pv 2)) (pv 6))))
  (zD (Bx.mk (zL (i:=9) jW.nd rfl (Or.inl rfl) (zA qi (zA qj (pv 2) (pv 3)) (pv 6))))
  (zD (Bx.mk (qJ (xv (za (zA xa (zA zO (pv 9) (zr zk (pv 4) zd (λ_ _=>rfl))) (zA zO (pv 7) (zr zk (pv 5) zd (λ_ _=>rfl)))) (za (zA xa (zA zO (pv 9) (zr zk (pv 4) zd (λ_ _=>rfl))) (zA zO (pv 7) (zr zk (pv 5) zd (λ_ _=>rfl)))) ze))) (Xh (xb (pv 0) rfl) (pv 1) jt)))
  (Bx.mk (zi (qJ (xv (za (zA qj (zA zO (pv 8) (zr zk (pv 4) zd (λ_ _=>rfl))) (zA zO (pv 9) (zr zk (pv 5) zd (λ_ _=>rfl)))) (za (zA qj (zA zO (pv 8) (zr zk (pv 4) zd (λ_ _=>rfl))) (zA zO (pv 9) (zr zk (pv 5) zd (λ_ _=>rfl)))) ze))) (Xh (xb (pv 0) rfl) (zA xa (pv 1) zd) jt)))))))))))),?_⟩
 have cw:qq (ws.map V.int) (some (a:Int)) (some ((a:Int)+2))=[.int l,.int r]:=zeN (xs:=ws.map V.int) (by rw[List.getElem?_map,hl];rfl) (by rw[List.getElem?_map,hrr];rfl)
 obtain⟨vx,evx⟩:∃v,tv[a]? = some v:=⟨_,List.getElem?_eq_getElem (by rw[hTv.1];omega)⟩
 obtain⟨vy,evy⟩:∃v,tv[a+1]? = some v:=⟨_,List.getElem?_eq_getElem (by rw[hTv.1];omega)⟩
 have ct:qq tv (some (a:Int)) (some ((a:Int)+2))=[vx,vy]:=zeN (xs:=tv) evx evy
 obtain⟨x',ex',ax,rfl,hax⟩:=hTv.2 _ _ evx
 obtain⟨y',ey',ay,rfl,hay⟩:=hTv.2 _ _ evy
 rw[hx]at ex';cases ex'
 rw[hy]at ey';cases ey'
 refine⟨_,rfl,c,C,dx,_,_,rfl,hc,TC.cls,TC.weights,f3,_,rfl,_,rfl,_,rfl,_,_,rfl,rfl,_,rfl,wl',_,rfl,.of f4,λq1 hq1=>?_⟩
 rw[cw]
 have s1:=zh.upd (o:=.lst [.int l,.int r]) hq1
 have hq1':upd H q1 (.lst [.int l,.int r]) q1=some (.lst [.int l,.int r]):=zf
 generalize upd H q1 (.lst [.int l,.int r])=G1 at s1 hq1'
 refine⟨q1,_,rfl,.of hq1',rfl,_,_,rfl,_,_,rfl,rfl,?_⟩
 refine⟨_,rfl,c,C,dx,_,_,rfl,s1 _ _ hc,TC.cls,TC.tracks,elt,_,rfl,_,rfl,_,rfl,_,_,rfl,rfl,_,rfl,tl,_,rfl,.of (s1 _ _ htl),λq2 hq2=>?_⟩
 rw[ct]
 have s2:=zh.upd (o:=.lst [.ref ax,.ref ay]) hq2
 have hq2':upd G1 q2 (.lst [.ref ax,.ref ay]) q2=some (.lst [.ref ax,.ref ay]):=zf
 generalize upd G1 q2 (.lst [.ref ax,.ref ay])=G2 at s2 hq2'
 refine⟨q2,_,rfl,.of hq2',rfl,_,_,rfl,_,_,rfl,rfl,?_⟩
 have S2:=s1.trans s2
 dsimp only[zN]
 have b2:Bd 1000000 2:=Bd.mono (m:=3) (show (2:Int).natAbs<2^3 by decide) (by decide)
 have bl:Bd 1000000 l:=Bd.mono (m:=11) (show l.natAbs<2^11 by omega) (by decide)
 have br:Bd 1000000 r:=Bd.mono (m:=11) (show r.natAbs<2^11 by omega) (by decide)
 have dp:=Vr l1 r1
 have dl:=V7 l1 r1 l2 r2
 have bd:Bd 8900 (dvP l r):=Bd.mono (m:=12) (show (dvP l r).natAbs<2^12 by omega) (by decide)
 have bm:Bd 12 (mP l r):=Zv dp (by omega) (by omega)
 have bp:Bd 12 (puP l r):=Zv dp (by omega) (by omega)
 have bb:Bd 12 (baP l r):=Zv dp (by omega) (by omega)
 have bh:Bd 12 (ahP l r):=Zv dp (by omega) (by omega)
 refine⟨_,rfl,_,rfl,_,_,rfl,rfl,_,rfl,_,_,rfl,rfl,⟨b2,bl⟩,_,_,rfl,by omega,by omega,?_⟩
 dsimp only[zN]
 show _
 have CT2:CoT G2 C c tl pb sb tk ws trs lo hi:=by
  obtain⟨tp,g1,g2⟩:=F.tick
  obtain⟨v1,g5,g6⟩:=F.low
  obtain⟨v2,g7,g8⟩:=F.high
  exact⟨dx,fs,tv,S2 _ _ hc,⟨F.pb,F.sb,⟨tp,g1,S2 _ _ g2⟩,⟨wl',f3,S2 _ _ f4⟩,⟨tl,tv,elt,S2 _ _ htl,hTv.keeps (.of S2)⟩,⟨v1,g5,g6.keeps (.of S2)⟩,⟨v2,g7,g8.keeps (.of S2)⟩,F.len⟩,elt,S2 _ _ htl,hTv.keeps (.of S2)⟩
 have edv:((Int.gcd (l+r) (2*l):Nat):Int)=dvP l r:=rfl
 rw[edv]
 refine⟨_,rfl,_,rfl,_,rfl,_,_,rfl,rfl,_,rfl,_,_,rfl,rfl,⟨by omega,bd⟩,c,tl,mP l r,pb,sb,tk,ws,trs,lo,hi,rfl,CT2,hl8,bm.mono (by decide),zpb,zsb,zt,zlo,zhi,λG3 tl3 X3 htl3n CT3=>?_⟩
 obtain⟨dx3,fs3,tv3,hc3,F3,elt3,htl3,hTv3⟩:=CT3
 have tu3:zT H G3:=(zT.of S2).trans (X3.tup (S2 _ _ hc))
 dsimp only
 have epu:(2*r).fdiv (dvP l r)=puP l r:=rfl
 have eba:(2*l).fdiv (dvP l r)=baP l r:=rfl
 have eah:(l - r).fdiv (dvP l r)=ahP l r:=rfl
 refine⟨_,rfl,_,_,rfl,rfl,⟨b2,br⟩,_,rfl,_,_,rfl,rfl,⟨by omega,bd⟩,?_⟩
 dsimp only[zN]
 refine⟨_,rfl,_,_,rfl,rfl,⟨b2,bl⟩,_,rfl,_,_,rfl,rfl,⟨by omega,bd⟩,?_⟩
 dsimp only[zN]
 refine⟨_,rfl,_,rfl,_,_,rfl,rfl,_,rfl,_,_,rfl,rfl,⟨by omega,bd⟩,?_⟩
 dsimp only[zN]
 rw[epu,eba,eah]
 have zx:=zt x (List.mem_of_getElem? hx)
 have zy:=zt y (List.mem_of_getElem? hy)
 have lt3:tv3.length=trs.length:=by rw[hTv3.1,List.length_map]
 have hax3:=tu3 _ _ hax
 have hay3:=tu3 _ _ hay
 refine⟨_,rfl,_,rfl,ax,_,_,_,rfl,rfl,.of hax3,rfl,_,_,rfl,rfl,⟨bh.mono (by decide),zx.1.mono (by decide)⟩,_,rfl,_,rfl,ay,_,_,_,rfl,rfl,.of hay3,rfl,_,_,rfl,rfl,⟨bp.mono (by decide),zy.1.mono (by decide)⟩,_,_,rfl,rfl,?_⟩
 refine⟨_,rfl,_,rfl,ax,_,_,_,rfl,rfl,.of hax3,rfl,_,_,rfl,rfl,⟨bh.mono (by decide),zx.2.mono (by decide)⟩,_,rfl,_,rfl,ay,_,_,_,rfl,rfl,.of hay3,rfl,_,_,rfl,rfl,⟨bp.mono (by decide),zy.2.mono (by decide)⟩,_,_,rfl,rfl,by show 2<=sizeLine;decide,λp1 hp1=>?_⟩
 dsimp only
 have s4:=zh.upd (o:=.tup [.int (ahP l r*x.1+puP l r*y.1),.int (ahP l r*x.2+puP l r*y.2)]) hp1
 have hp1':upd G3 p1 (.tup [.int (ahP l r*x.1+puP l r*y.1),.int (ahP l r*x.2+puP l r*y.2)]) p1=some (.tup [.int (ahP l r*x.1+puP l r*y.1),.int (ahP l r*x.2+puP l r*y.2)]):=zf
 generalize upd G3 p1 (.tup [.int (ahP l r*x.1+puP l r*y.1),.int (ahP l r*x.2+puP l r*y.2)])=G4 at s4 hp1' ⊢
 refine⟨_,rfl,c,C,dx3,fs3,_,rfl,s4 _ _ hc3,TC.cls,TC.tracks,elt3,_,rfl,tl3,tv3,(a:Int),a,rfl,rfl,s4 _ _ htl3,zaX (by omega),?_⟩
 have tu4:zT H G4:=tu3.trans (.of s4)
 have nl:∀{b:Addr}{o:HO},G4 b=some o->(∀xs,o≠.lst xs)->b≠tl3:=λ{b o} e n z=>by rw[z,s4 _ _ htl3]at e;cases e;exact n _ rfl
 have h5:upd G4 tl3 (.lst (tv3.set a (.ref p1))) tl3=some (.lst (tv3.set a (.ref p1))):=zf
 have T45:zT G4 (upd G4 tl3 (.lst (tv3.set a (.ref p1)))):=.upd (s4 _ _ htl3)
 have X45:zW tl3 G4 (upd G4 tl3 (.lst (tv3.set a (.ref p1)))):=.upd
 generalize upd G4 tl3 (.lst (tv3.set a (.ref p1)))=G5 at h5 T45 X45 ⊢
 dsimp only
 have hc5:=X45 _ _ (nl (s4 _ _ hc3) (λ_ z=>by cases z)) (s4 _ _ hc3)
 have hax5:=T45 _ _ (tu4 _ _ hax)
 have hay5:=T45 _ _ (tu4 _ _ hay)
 refine⟨_,rfl,_,rfl,ax,_,_,_,rfl,rfl,.of hax5,rfl,_,_,rfl,rfl,⟨bb.mono (by decide),zx.1.mono (by decide)⟩,_,rfl,_,rfl,ay,_,_,_,rfl,rfl,.of hay5,rfl,_,_,rfl,rfl,⟨bh.mono (by decide),zy.1.mono (by decide)⟩,_,_,rfl,rfl,?_⟩
 refine⟨_,rfl,_,rfl,ax,_,_,_,rfl,rfl,.of hax5,rfl,_,_,rfl,rfl,⟨bb.mono (by decide),zx.2.mono (by decide)⟩,_,rfl,_,rfl,ay,_,_,_,rfl,rfl,.of hay5,rfl,_,_,rfl,rfl,⟨bh.mono (by decide),zy.2.mono (by decide)⟩,_,_,rfl,rfl,by show 2<=sizeLine;decide,λp2 hp2=>?_⟩
 dsimp only
 have s6:=zh.upd (o:=.tup [.int (baP l r*x.1 - ahP l r*y.1),.int (baP l r*x.2 - ahP l r*y.2)]) hp2
 have hp2':upd G5 p2 (.tup [.int (baP l r*x.1 - ahP l r*y.1),.int (baP l r*x.2 - ahP l r*y.2)]) p2=some (.tup [.int (baP l r*x.1 - ahP l r*y.1),.int (baP l r*x.2 - ahP l r*y.2)]):=zf
 generalize upd G5 p2 (.tup [.int (baP l r*x.1 - ahP l r*y.1),.int (baP l r*x.2 - ahP l r*y.2)])=G6 at s6 hp2' ⊢
 refine⟨_,rfl,c,C,dx3,fs3,_,rfl,s6 _ _ hc5,TC.cls,TC.tracks,elt3,_,rfl,_,_,rfl,rfl,tl3,_,((a:Int)+1),a+1,rfl,rfl,s6 _ _ h5,(by rw[List.length_set];exact zaX (n:=tv3.length) (a:=a+1) (by omega)),?_⟩
 have nl6:∀{b:Addr}{o:HO},G6 b=some o->(∀xs,o≠.lst xs)->b≠tl3:=λ{b o} e n z=>by rw[z,s6 _ _ h5]at e;cases e;exact n _ rfl
 have h7:upd G6 tl3 (.lst ((tv3.set a (.ref p1)).set (a+1) (.ref p2))) tl3=some (.lst ((tv3.set a (.ref p1)).set (a+1) (.ref p2))):=zf
 have T67:zT G6 (upd G6 tl3 (.lst ((tv3.set a (.ref p1)).set (a+1) (.ref p2)))):=.upd (s6 _ _ h5)
 have X67:zW tl3 G6 (upd G6 tl3 (.lst ((tv3.set a (.ref p1)).set (a+1) (.ref p2)))):=.upd
 generalize upd G6 tl3 (.lst ((tv3.set a (.ref p1)).set (a+1) (.ref p2)))=G7 at h7 T67 X67 ⊢
 have T37:zT G3 G7:=((zT.of s4).trans T45).trans ((zT.of s6).trans T67)
 have X37:zW tl3 G3 G7:=(zW.of s4).trans (X45.trans ((zW.of s6).trans X67))
 have htl3H:H tl3=none:=by
  cases e:H tl3 with
  | none=>rfl
  | some o=>rw[S2 _ _ e]at htl3n;cases htl3n
 have hXA:zW c H G7:=λb o nb e=>X37 _ _ (λz=>by rw[z,htl3H]at e;cases e) (X3 _ _ nb (S2 _ _ e))
 have hTn:xR G7 ((tv3.set a (.ref p1)).set (a+1) (.ref p2)) (Xg l r trs a x y):=by
  unfold Xg
  exact((hTv3.keeps T37).put (T67 _ _ (s6 _ _ (T45 _ _ hp1')))).put (T67 _ _ hp2')
 have nt:∀{b:Addr}{o:HO},G3 b=some o->(∀xs,o≠.lst xs)->b≠tl3:=λ{b o} e n z=>by rw[z,htl3]at e;cases e;exact n _ rfl
 obtain⟨tp,g1,g2⟩:=F3.tick
 obtain⟨v1,g5,g6⟩:=F3.low
 obtain⟨v2,g7,g8⟩:=F3.high
 obtain⟨w3,g3,g4⟩:=F3.weights
 refine k G7 tl3 hXA htl3H ⟨dx3,fs3,_,X37 _ _ (nt hc3 (λ_ z=>by cases z)) hc3,⟨F3.pb,F3.sb,⟨tp,g1,T37 _ _ g2⟩,⟨w3,g3,X37 _ _ (λz=>?_) g4⟩,⟨tl3,_,elt3,h7,hTn⟩,⟨v1,g5,g6.keeps T37⟩,⟨v2,g7,g8.keeps T37⟩,F3.len⟩,elt3,h7,hTn⟩
 rw[z,htl3]at g4
 have ev:tv3=ws.map V.int:=by injection g4 with g4;injection g4
 have h0:0<tv3.length:=by omega
 obtain⟨t,_,at',e1,_⟩:=hTv3.2 0 tv3[0] (List.getElem?_eq_getElem h0)
 have:tv3[0]∈ws.map V.int:=by rw[<-ev];exact List.getElem_mem h0
 obtain⟨n,_,en⟩:=List.mem_map.mp this
 rw[e1]at en;cases en
end
end KQ
end
section
set_option maxHeartbeats 8000000
set_option Elab.async false
set_option linter.all false
set_option maxRecDepth 100000
namespace KQ
open PySem L2 KM KK
section
variable {P:Program}{w:World}{K:PySem.W.Frag}{mg:Str->Option Value}{base:Heap}{C0:Addr}
theorem zcH:zG ["self","moment"] ["self","moment"] (zg xE):=⟨rfl,rfl,rfl,by decide +kernel,rfl,by decide +kernel,by decide +kernel⟩
theorem zck {C f:Addr}{fd:FuncData}{mc:Value}{cd:ClassData}(F:Fun K "__init__" "Together.__init__" xE f fd) (U:XUp K C0 mc) (hm:mg "ClackError" = some (.ref C0)) (B:XB base C) (S:zay K C cd) (n:xz K C "moment"):vL P w K mg base CX0 1 f fd ["self","moment"] (zcR C):=by
 refine F.ok (k:=0) zcH (λvs H Q E h=>by obtain⟨_,_,rfl,_⟩:=h;rfl) (λcdv A outer s H vs Q E hr h=>?_)
 obtain⟨a,y,rfl,ea,k⟩:=h
 refine⟨_,zj (xU (zdj U hm (za (pv 0) (za vV ze)))) (zi (zdk (pv 0) (pv 1) rfl)),?_⟩
 refine⟨_,rfl,a,C,_,rfl,ea,B,?_⟩
 rw[zbM ea]
 exact⟨_,rfl,_,rfl,a,C,cd,rfl,ea,S,n,k⟩
def xV (ws:List Int) (a b:Nat):List Int:=vU ws (some (a:Int)) (some ((b:Int)+1))
def qL (l:List Int):Bool:=l.all λx=>decide (x=l.headD 0)
def vP (wl:Option (Int×Int)) (l:List Int):Bool:=decide (wl=none)&&decide (l.length=2)
def RbT (ws:List Int) (a b:Nat) (wl:Option (Int×Int)) (pb sb:Int) (trs:List (Int×Int)) (lo hi:Option (Int×Int)) (pb' sb':Int) (trs':List (Int×Int)) (lo' hi':Option (Int×Int)):Prop :=
 (vP wl (xV ws a b)=true/\∃l r x y,ws[a]? = some l/\ws[a+1]? = some r/\trs[a]? = some x/\trs[a+1]? = some y/\pb'=pb*mP l r/\sb'=sb*mP l r/\trs'=Xg l r trs a x y/\lo'=lo.map (scT (mP l r))/\hi'=hi.map (scT (mP l r))) ∨
 (vP wl (xV ws a b)=false/\qL (xV ws a b)=true/\∃seg,seg.Perm ((vU trs (some (a:Int)) (some ((b:Int)+1))).map (Xj wl))/\seg.Pairwise (λx y=>x.2<=y.2)/\pb'=pb/\sb'=sb/\trs'=trs.take a++seg++trs.drop (b+1)/\lo'=lo/\hi'=hi)
theorem zaJ {α:Type}(f:α->V) (l:List α) (lo hi:Option Int):qq (l.map f) lo hi=(vU l lo hi).map f:=by
 unfold qq vU
 rw[List.length_map,List.map_take,List.map_drop]
theorem zbz {ws:List Int}{a b:Nat}(hab:a<=b) (hb:b<ws.length):(xV ws a b).length=b+1 - a:=by
 unfold xV vU
 rw[show ((b:Int)+1)=((b+1:Nat):Int) by omega,HT.sIx_nat,HT.sIx_nat,List.length_take,List.length_drop]
 omega
theorem QZ {l:List Int}(h:0<l.length):atI (l.map V.int) 0=some (.int (l.headD 0)):=by
 cases l with
 | nil=>simp at h
 | cons x l=>unfold atI ixN;rw[if_pos (by decide),if_pos (by simp only[List.length_map,List.length_cons];omega)];rfl
theorem zge {Tb c C dx:Addr}{fs:List (Str×V)}{q:Str}{p:PySem.Pos}{H H':Hp}(T:qN Tb q p H) (hc:H c=some (.ins C dx fs)) (X:zW c H H'):qN Tb q p H':=by
 obtain⟨ps,g1,g2,g3⟩:=T
 refine⟨ps,X _ _ (λz=>by rw[z,hc]at g1;cases g1) g1,g2,?_⟩
 rcases g3 with g3 | ⟨c',g3,g4⟩
 ·exact .inl g3
 ·exact .inr ⟨c',g3,X _ _ (λz=>by rw[z,hc]at g4;cases g4) g4⟩
theorem CoT.same {H H':Hp}{C c tl:Addr}{pb sb:Int}{tk:Rat}{ws:List Int}{trs:List (Int×Int)}{lo hi:Option (Int×Int)} (h:CoT H C c tl pb sb tk ws trs lo hi) (s:zh H H'):CoT H' C c tl pb sb tk ws trs lo hi:=by
 obtain⟨dx,fs,tv,hc,F,elt,htl,hTv⟩:=h
 obtain⟨tp,g1,g2⟩:=F.tick
 obtain⟨v1,g5,g6⟩:=F.low
 obtain⟨v2,g7,g8⟩:=F.high
 obtain⟨w3,g3,g4⟩:=F.weights
 exact⟨dx,fs,tv,s _ _ hc,⟨F.pb,F.sb,⟨tp,g1,s _ _ g2⟩,⟨w3,g3,s _ _ g4⟩,⟨tl,tv,elt,s _ _ htl,hTv.keeps (.of s)⟩,⟨v1,g5,g6.keeps (.of s)⟩,⟨v2,g7,g8.keeps (.of s)⟩,F.len⟩,elt,s _ _ htl,hTv.keeps (.of s)⟩
def zfX (C CT Tb:Addr):Sp:=λvs H Q E=>∃c tl g tb a b wh t pb sb tk ws trs lo hi,vs=[V.ref c,.ref g,.ref tb]/\CoT H C c tl pb sb tk ws trs lo hi/\H g=some (.tup [.int (a:Nat),.int (b:Nat),.str wh])/\H tb=some (.tup [.int t.1,.int t.2])/\t.2≠0/\BdP 4400 t/\Sz 4400 tk ∧
 a<=b/\b<trs.length/\trs.length<=8/\ws.length=trs.length/\(∀x∈ws,1<=x/\x<=1000)/\Bd 4600 pb/\Bd 4600 sb/\(∀t∈trs,BdP 4600 t)/\(∀l,lo=some l->BdP 4600 l)/\(∀l,hi=some l->BdP 4600 l)/\qN Tb laQ laP H ∧
 (∀H' tl' pb' sb' trs' lo' hi',Chg [Tb,tl,c] H H'->qN Tb laQ laP H'->(tl'=tl\/H tl'=none)->RbT ws a b (xq wh lo hi) pb sb trs lo hi pb' sb' trs' lo' hi'->CoT H' C c tl' pb' sb' tk ws trs' lo' hi'->Q .non H') ∧
 (∀H' dx p,zh H H'->vP (xq wh lo hi) (xV ws a b)=false->qL (xV ws a b)=false->H' dx=some (.xd [("moment",.ref p)])->zF H' p (qP tk t)->E (.ref CT) (some dx) H')
theorem XW:zG ["course","group","ticks","first","last","where","wall","weights"] ["course","group","ticks"] (zg vz):=⟨rfl,rfl,rfl,by decide +kernel,rfl,by decide +kernel,by decide +kernel⟩
theorem zfg {C CT Tb f12:Addr}{fd12:FuncData}(D:Df K mg "rebound" vz ["course","group","ticks"] []) (TC:TCo K C) (T:TxQ K mg) (hAll:mg "all" = none) (cWo:Cal P w K mg base "wall_of" 1 ["course","where"] [] (zeu C)) (cPa:Cal P w K mg base "part" 3 ["course","first"] [] (zfT C)) (cDe:Cal P w K mg base "deal" 4 ["course","first","last","wall"] [] (zfO C Tb))
  (cMo:Cal P w K mg base "moment_of" 3 ["course","ticks"] [] (zbC C)) (XM:XMk K base CT f12) (F12:vL P w K mg base CX0 1 f12 fd12 ["self","moment"] (zcR CT)) (hmT:mg "Together" = some (.ref CT)) (B12:vh K fd12 ["self","moment"] []):jZ P w K mg base "rebound" 5 ["course","group","ticks"] [] (zfX C CT Tb):=by
 refine D.cal1 (k:=4) XW (λvs H Q E h=>by obtain⟨_,_,_,_,_,_,_,_,_,_,_,_,_,_,_,rfl,_⟩:=h;rfl) (λf cdv A outer s H vs Q E hr h=>?_)
 obtain⟨c,tl,g,tb,a,b,wh,t,pb,sb,tk,ws,trs,lo,hi,rfl,CT0,hg,htb,ht2,zt0,ztk,hab,hbl,hl8,hwl,hw1,zpb,zsb,zt,zlo,zhi,T0,k1,k2⟩:=h
 have hr1:xi 1 _:=hr.mono (by decide)
 have hr2:xi 2 _:=hr.mono (by decide)
 have hr3:xi 3 _:=hr.mono (by decide)
 obtain⟨dx,fs,tv,hc,F,elt,htl,hTv⟩:=id CT0
 obtain⟨wla,f3,f4⟩:=F.weights
 refine⟨_,(zj (qJ (pv 1) (vH rfl (zQ (zK (i:=3) XW.nd rfl (Or.inl rfl)) (zQ (zK (i:=4) XW.nd rfl (Or.inl rfl)) (zQ (zK (i:=5) XW.nd rfl (Or.inl rfl)) xJ)))))
  (zj (zL (i:=6) XW.nd rfl (Or.inl rfl) (zP cWo hr1 (za (pv 0) (za (pv 5) ze))))
  (zj (zL (i:=7) XW.nd rfl (Or.inr rfl) (vi jg (xb (pv 0) rfl) (xT (pv 3)) (xT (zA xa (pv 4) zd))))
  (zi (xk (vX (zI vn (pv 6) zX (zJ _)) (vf (zI vp (zZ xl (by rfl) T.nLen PySem.boot_len (za (pv 7) ze)) zd (zJ _)))).pt (zi (xU (zP cPa hr3 (za (pv 0) (za (pv 3) ze))))) (zi (xk (qK (zZ (zaF rfl) (by rfl) hAll PyProof.Rows.boot_all (za (jR (NB:=["weight"]) (FR:=["weights"]) (js:=[7]) rfl rfl (λ_ _ h=>h) (.cons rfl rfl rfl ⟨_,rfl⟩ .nil) rfl (by decide +kernel) rfl (by decide +kernel) (xS (pv 7)) (by intro _ _ _;refine⟨?_,?_,?_⟩;(exact(zK (i:=0) (show List.Nodup (["weight","weights"]:List Str) by decide +kernel) rfl (Or.inl rfl)));(exact qg);(exact(vQ vp (pv 0) (zr (zaY (K:=K) rfl) (pv 1) zd (λ_ _=>rfl)) (zJ _))))) ze)) λ_=>rfl) (zi (xU (zP cDe hr (za (pv 0) (za (pv 3) (za (pv 4) (za (pv 6) ze))))))) (zi (XT XM F12 hr2 hmT B12 hr.hd jB (za (zP cMo hr3 (za (pv 0) (za (pv 2) ze))) ze)))))))))),?_⟩
 refine⟨_,rfl,g,_,rfl,.of hg,rfl,_,_,rfl,_,_,rfl,_,_,rfl,rfl,?_⟩
 dsimp only[zN]
 refine⟨_,rfl,_,rfl,c,pb,sb,tk,ws,trs,lo,hi,wh,rfl,⟨dx,fs,hc,F⟩,λwv hwv=>?_⟩
 dsimp only[zN]
 refine⟨_,rfl,c,C,dx,_,_,rfl,hc,TC.cls,TC.weights,f3,_,rfl,_,rfl,_,rfl,_,_,rfl,rfl,_,rfl,wla,_,rfl,.of f4,λq1 hq1=>?_⟩
 rw[zaJ]
 have eseg:vU ws (some (a:Int)) (some ((b:Int)+1))=xV ws a b:=rfl
 rw[eseg]
 have hsl:=zbz hab (by omega:b<ws.length)
 have s1:=zh.upd (o:=.lst ((xV ws a b).map V.int)) hq1
 have hq1':upd H q1 (.lst ((xV ws a b).map V.int)) q1=some (.lst ((xV ws a b).map V.int)):=zf
 generalize upd H q1 (.lst ((xV ws a b).map V.int))=G1 at s1 hq1' ⊢
 dsimp only[zN]
 have CT1:=CT0.same s1
 have T1:=T0.same s1
 have zwl:∀l,xq wh lo hi=some l->BdP 4600 l:=λl e=>by
  unfold xq at e
  split at e
  ·cases e
  ·split at e
   ·exact zlo l e
   ·exact zhi l e
 refine ZJ (λH'=>H'=G1) (vP (xq wh lo hi) (xV ws a b)) (λQ' q=>?_) (λhcn H3 e3=>?_) (λhcn H3 e3=>?_)
 ·cases ewl:xq wh lo hi with
  | none =>
   rw[ewl]at hwv
   obtain rfl:wv = .non:=hwv
   refine⟨_,rfl,rfl,_,rfl,qd ?_⟩
   refine⟨_,rfl,q1,_,rfl,.inl (.of hq1'),rfl,_,rfl,?_⟩
   have e2:vP (xq wh lo hi) (xV ws a b)=decide (V.int (((xV ws a b).map V.int).length:Int)=V.int 2):=by
    rw[ewl,List.length_map]
    unfold vP
    rw[decide_eq_true (show (none:Option (Int×Int))=none from rfl),Bool.true_and,decide_eq_decide]
    exact⟨λz=>by rw[z];rfl,λz=>by injection z with z;omega⟩
   rw[<-e2]
   exact q _ rfl
  | some u =>
   rw[ewl]at hwv
   obtain⟨aw,rfl,haw⟩:=hwv
   have e2:vP (xq wh lo hi) (xV ws a b)=false:=by rw[ewl];rfl
   rw[e2]at q
   exact⟨_,rfl,rfl,_,rfl,xA (q _ rfl)⟩
 ·subst e3
  unfold vP at hcn
  rw[Bool.and_eq_true,decide_eq_true_eq,decide_eq_true_eq]at hcn
  have hb1:b=a+1:=by omega
  obtain⟨l,el⟩:∃l,ws[a]? = some l:=⟨_,List.getElem?_eq_getElem (by omega)⟩
  obtain⟨r,er⟩:∃r,ws[a+1]? = some r:=⟨_,List.getElem?_eq_getElem (by omega)⟩
  obtain⟨x,ex⟩:∃x,trs[a]? = some x:=⟨_,List.getElem?_eq_getElem (by omega)⟩
  obtain⟨y,ey⟩:∃y,trs[a+1]? = some y:=⟨_,List.getElem?_eq_getElem (by omega)⟩
  have hlw:=hw1 l (List.mem_of_getElem? el)
  have hrw:=hw1 r (List.mem_of_getElem? er)
  refine⟨_,rfl,_,rfl,c,tl,a,pb,sb,tk,ws,trs,lo,hi,l,r,x,y,rfl,CT1,hl8,el,er,hlw.1,hlw.2,hrw.1,hrw.2,ex,ey,zpb.mono (by decide),zsb.mono (by decide),λt m=>⟨(zt t m).1.mono (by decide),(zt t m).2.mono (by decide)⟩,λl e=>⟨(zlo l e).1.mono (by decide),(zlo l e).2.mono (by decide)⟩,λl e=>⟨(zhi l e).1.mono (by decide),(zhi l e).2.mono (by decide)⟩,λH' tl' X' hn CT'=>?_⟩
  refine k1 H' tl' _ _ _ _ _ (λb o nb e=>X' _ _ (λz=>nb (by simp[z])) (s1 _ _ e)) (zge T1 (s1 _ _ hc) X') (.inr ?_) (.inl ⟨?_,l,r,x,y,el,er,ex,ey,rfl,rfl,rfl,rfl,rfl⟩) CT'
  ·cases e:H tl' with
   | none=>rfl
   | some o=>rw[s1 _ _ e]at hn;cases hn
  ·unfold vP;rw[Bool.and_eq_true,decide_eq_true_eq,decide_eq_true_eq];exact hcn
 ·subst e3
  have hs0:0<(xV ws a b).length:=by omega
  have hs8:(xV ws a b).length<=8:=by omega
  refine ZJ (λH'=>zh H3 H') (qL (xV ws a b)) (λQ' q=>?_) (λhsm H4 s4=>?_) (λhsm H4 s4=>?_)
  ·refine⟨_,rfl,q1,rfl,⟨_,SqL.of hq1'⟩,λDc hDc=>?_⟩
   refine qh (J:=Itl K q1) (n:=1) (js:=[7]) (g:=zN 0) (te:=_) (xs:=(xV ws a b).map V.int) (λi v G=>∃x,(xV ws a b)[i]? = some x/\v = .bl (decide (x=(xV ws a b).headD 0))) (λ_ _ _ _ _ h=>h) hDc (xW hq1') (xt (by rw[List.length_map];omega)) ?_ ?_
   ·intro i x zs H4 Q'' hx hz s4 hk
    obtain⟨z1,rfl⟩:=jL hz
    rw[List.getElem?_map]at hx
    cases ew:(xV ws a b)[i]? with
    | none=>rw[ew]at hx;cases hx
    | some n =>
     rw[ew]at hx;cases hx
     dsimp only[zN]
     refine⟨rfl,_,rfl,_,rfl,q1,_,_,_,rfl,rfl,.of (s4 _ _ hq1'),QZ hs0,rfl,hk _ _ (zh.refl _) ⟨n,ew,?_⟩⟩
     rw[show decide (V.int n=V.int ((xV ws a b).headD 0))=decide (n=(xV ws a b).headD 0) by rw[decide_eq_decide];exact⟨λz=>by injection z,λz=>by rw[z]⟩]
   ·intro ys H4 s4 hD4 hly hyR
    have eys:ys=((xV ws a b).map λx=>decide (x=(xV ws a b).headD 0)).map V.bl:=by
     rw[List.map_map]
     refine List.ext_getElem? λi=>?_
     rw[List.getElem?_map]
     cases ey:ys[i]? with
     | none =>
      have:ys.length<=i:=List.getElem?_eq_none_iff.mp ey
      rw[List.getElem?_eq_none (by rw[hly,List.length_map]at this;exact this)];rfl
     | some v =>
      obtain⟨x,e1,e2⟩:=hyR i v ey
      rw[e1,e2];rfl
    refine⟨Dc,(xV ws a b).map λx=>decide (x=(xV ws a b).headD 0),rfl,.of (by rw[<-eys];exact hD4),_,rfl,?_⟩
    have:((xV ws a b).map λx=>decide (x=(xV ws a b).headD 0)).all id=qL (xV ws a b):=by
     unfold qL;rw[List.all_map];rfl
    rw[this]
    exact q _ s4
  ·have S4:=s1.trans s4
   refine⟨_,rfl,_,rfl,_,rfl,_,rfl,c,tl,a,b,wv,pb,sb,tk,ws,trs,lo,hi,xq wh lo hi,rfl,CT0.same S4,hwv.keeps (.of S4),hab,hbl,hl8,zt,zwl,T0.same S4,λH' seg ch tb' pm pw CT'=>?_⟩
   exact k1 H' tl _ _ _ _ _ (λb o nb e=>ch b o (λz=>nb (by rcases List.mem_cons.mp z with z | z;(exact List.mem_cons.mpr (.inl z));(exact List.mem_cons_of_mem _ (List.mem_cons.mpr (.inl (List.mem_singleton.mp z)))))) (S4 _ _ e)) tb' (.inl rfl) (.inr ⟨hcn,hsm,seg,pm,pw,rfl,rfl,rfl,rfl,rfl⟩) CT'
  ·have S4:=s1.trans s4
   obtain⟨tp,f1,f2⟩:=F.tick
   refine⟨_,rfl,_,rfl,c,tb,dx,fs,tp,tk,t.1,t.2,rfl,S4 _ _ hc,f1,S4 _ _ f2,S4 _ _ htb,ht2,zt0.1,zt0.2,ztk,λmr H5 s5 hmr=>?_⟩
   refine⟨by show 1<=sizeLine;decide,λp hp=>⟨p,_,rfl,zf,λd hd=>⟨rfl,some d,zf,?_⟩⟩⟩
   have hdp:d≠p:=λz=>by subst z;rw[zf]at hd;cases hd
   have hd3:H5 d=none:=by rw[zB hdp]at hd;exact hd
   have eG:∀b,b≠p->b≠d->ZY p (upd (upd (upd H5 p (XO p CT none)) d (.xd [("moment",.ref mr)])) p (XO p CT (some d))) b=H5 b:=λb hb hb2=>by
    rw[qu hb,zB hb,zB hb2,zB hb]
   have SG:zh H5 (ZY p (upd (upd (upd H5 p (XO p CT none)) d (.xd [("moment",.ref mr)])) p (XO p CT (some d)))):=λb o eb=>by
    rw[eG b (zC eb hp) (zC eb hd3)];exact eb
   refine k2 _ d mr (S4.trans (s5.trans SG)) hcn hsm ?_ (SG _ _ hmr)
   rw[qu hdp,zB hdp,zf]
end
end KQ
end
section
set_option maxHeartbeats 8000000
set_option Elab.async false
set_option linter.all false
set_option maxRecDepth 100000
namespace KQ
open PySem L2 KM KK
def XZ (H:Hp) (v:V):Option (Rat×Rat)->Prop
 | none=>v = .non
 | some t=>∃a p q,v = .ref a/\H a=some (.tup [.ref p,.ref q])/\zF H p t.1/\zF H q t.2
theorem XZ.keeps {H H':Hp}{v:V}{o:Option (Rat×Rat)} (h:XZ H v o) (e:zT H H'):XZ H' v o:=by
 cases o with
 | none=>exact h
 | some t=>obtain⟨a,p,q,h1,h2,h3,h4⟩:=h;exact⟨a,p,q,h1,e _ _ h2,e _ _ h3,e _ _ h4⟩
def ptT (pb sb:Int) (t l:Int×Int):Rat×Rat:=(Rat.divInt (xG l t) (pb*t.2),Rat.divInt l.2 sb)
theorem zem (N:Nat):sel (λ_=>true) N=List.range N:=by
 induction N with
 | zero=>rfl
 | succ n ih=>rw[jr,ih,List.range_succ,if_pos rfl]
section
variable {P:Program}{w:World}{K:PySem.W.Frag}{mg:Str->Option Value}{base:Heap}
def zfV (C:Addr):Sp:=λvs H Q _=>∃c v tb dx fs pb sb t o,vs=[V.ref c,v,.ref tb]/\H c=some (.ins C dx fs)/\fs.lookup ("place_bottom":Str)=some (V.int pb)/\fs.lookup ("speed_bottom":Str)=some (V.int sb)/\vM H v o/\H tb=some (.tup [.int t.1,.int t.2])/\BdP 4400 t/\(∀l,o=some l->BdP 4400 l) ∧
 pb≠0/\sb≠0/\t.2≠0/\Bd 4400 pb/\Bd 8900 sb/\Bd 8900 (pb*t.2)/\∀v' H',zh H H'->XZ H' v' (o.map (ptT pb sb t))->Q v' H'
theorem zdm:zG ["course","track","ticks","place"] ["course","track","ticks"] (zg xr):=⟨rfl,rfl,rfl,by decide +kernel,rfl,by decide +kernel,by decide +kernel⟩
theorem zfe {C:Addr}(D:Df K mg "place_and_speed" xr ["course","track","ticks"] []) (TC:TCo K C) (cR:Cal P w K mg base "ratio" 2 ["top","bottom"] [] vj) (cSp:Cal P w K mg base "spot_at" 1 ["track","ticks"] [] zbD):Cal P w K mg base "place_and_speed" 3 ["course","track","ticks"] [] (zfV C):=by
 refine D.cal (k:=2) zdm (λvs H Q E h=>by obtain⟨_,_,_,_,_,_,_,_,_,rfl,_⟩:=h;rfl) (λf cdv A outer s H vs Q E hr h=>?_)
 obtain⟨c,v,tb,dx,fs,pb,sb,t,o,rfl,hc,e1,e2,hv,htb,zt,zo,p0,s0,t0,zpb,zsb,zpt,k⟩:=h
 have hr1:xi 1 _:=hr.mono (by decide)
 refine⟨_,(zj (xk (zI vn (pv 1) zX (zJ _)) (zi (zM zX)) zS)
  (zj (zL (i:=3) zdm.nd rfl (Or.inl rfl) (zP cR hr (za (zP cSp hr1 (za (pv 1) (za (pv 2) ze))) (za (zA zO (xb (pv 0) rfl) (zr zk (pv 2) zd (λ_ _=>rfl))) ze))))
  (zi (zM (xv (za (pv 3) (za (zP cR hr (za (zr zk (pv 1) zd (λ_ _=>rfl)) (za (xb (pv 0) rfl) ze))) ze))))))),?_⟩
 cases o with
 | none =>
  obtain rfl:v = .non:=hv
  exact⟨_,rfl,rfl,_,rfl,qd (k _ _ (zh.refl _) rfl)⟩
 | some l =>
  obtain⟨a,rfl,ha⟩:=hv
  refine⟨_,rfl,rfl,_,rfl,xA ?_⟩
  refine⟨_,rfl,_,rfl,a,tb,l,t,rfl,ha,htb,zo l rfl,zt,?_⟩
  refine⟨_,rfl,c,C,dx,fs,_,rfl,hc,TC.cls,TC.pb,e1,_,rfl,tb,_,_,_,rfl,rfl,.of htb,rfl,_,_,rfl,rfl,⟨zpb.mono (by decide),zt.2.mono (by decide)⟩,_,_,rfl,Int.mul_ne_zero p0 t0,zpt,λr1 H1 s1 hr1'=>?_⟩
  dsimp only[zN]
  refine⟨_,rfl,_,rfl,a,_,_,_,rfl,rfl,.of (s1 _ _ ha),rfl,_,rfl,c,C,dx,fs,_,rfl,s1 _ _ hc,TC.cls,TC.sb,e2,_,_,rfl,s0,zsb,λr2 H2 s2 hr2'=>⟨by show 2<=sizeLine;decide,λtp htp=>?_⟩⟩
  have s3:=zh.upd (o:=.tup [.ref r1,.ref r2]) htp
  exact k _ _ (s1.trans (s2.trans s3)) ⟨tp,r1,r2,rfl,zf,s3 _ _ (s2 _ _ hr1'),s3 _ _ hr2'⟩
def blT (pb sb:Int) (t:Int×Int) (l:Int×Int) (wt:Int):Bl:=⟨(ptT pb sb t l).1,(ptT pb sb t l).2,wt⟩
def zfU (C:Addr):Sp:=λvs H Q _=>∃c tl tb pb sb tk ws trs lo hi t,vs=[V.ref c,.ref tb]/\CoT H C c tl pb sb tk ws trs lo hi/\H tb=some (.tup [.int t.1,.int t.2])/\BdP 4400 t/\trs.length<=8/\ws.length=trs.length/\(∀l∈trs,BdP 4400 l)/\(∀l,lo=some l->BdP 4400 l)/\(∀l,hi=some l->BdP 4400 l) ∧
 pb≠0/\sb≠0/\t.2≠0/\Bd 4400 pb/\Bd 8900 sb/\Bd 8900 (pb*t.2)/\∀p r wa us v1 v2 H',zh H H'->H' p=some (.tup [.ref r,.ref wa])->H' r=some (.tup us)->ZV H' us ((trs.zip ws).map λz=>blT pb sb t z.1 z.2)->H' wa=some (.tup [v1,v2])->XZ H' v1 (lo.map (ptT pb sb t))->XZ H' v2 (hi.map (ptT pb sb t))->Q (.ref p) H'
theorem JA:zG ["course","ticks","spots","row","walls"] ["course","ticks"] (zg v6):=⟨rfl,rfl,rfl,by decide +kernel,rfl,by decide +kernel,by decide +kernel⟩
theorem zfd {C:Addr}(D:Df K mg "placed" v6 ["course","ticks"] []) (T:TxQ K mg) (TC:TCo K C) (cPs:Cal P w K mg base "place_and_speed" 3 ["course","track","ticks"] [] (zfV C)):Cal P w K mg base "placed" 4 ["course","ticks"] [] (zfU C):=by
 refine D.calB (k:=3) JA (λvs H Q E h=>by obtain⟨_,_,_,_,_,_,_,_,_,_,_,rfl,_⟩:=h;rfl) (λf cdv A outer s H vs Q E hr h=>?_)
 obtain⟨c,tl,tb,pb,sb,tk,ws,trs,lo,hi,t,rfl,⟨dx,fs,tv,hc,F,elt,htl,hTv⟩,htb,zt,hl8,hwl,ztr,zlo,zhi,p0,s0,t0,zpb,zsb,zpt,k⟩:=h
 obtain⟨wla,f3,f4⟩:=F.weights
 obtain⟨v1,f5,f6⟩:=F.low
 obtain⟨v2,f7,f8⟩:=F.high
 have htv:=hTv.1
 refine⟨_,(zD (Bx.mk (vR (i:=2) (NB:=["track"]) (FR:=["course","ticks"]) (js:=[0,1]) rfl rfl (λ_ _ h=>h) (.cons rfl rfl rfl ⟨_,rfl⟩ (.cons rfl rfl rfl ⟨_,rfl⟩ .nil)) rfl (by decide +kernel) rfl (by decide +kernel) JA.nd rfl rfl (by rfl) (xS (xb (pv 0) rfl)) (by intro _ _ _;refine⟨?_,?_,?_⟩;(exact(zK (i:=0) (show List.Nodup (["track","course","ticks"]:List Str) by decide +kernel) rfl (Or.inl rfl)));(exact qg);(exact(zP cPs hr (za (pv 1) (za (pv 0) (za (pv 2) ze))))))))
  (zD (Bx.mk (vR (i:=3) (NB:=["place","speed","weight"]) (FR:=[]) (js:=[]) rfl rfl (λ_ _ h=>by cases h) .nil rfl (by decide +kernel) rfl (by decide +kernel) JA.nd rfl rfl (by rfl) (zcx (by rfl) T.nZip (za (pv 2) (za (xb (pv 0) rfl) ze))) (by intro _ _ _;refine⟨?_,?_,?_⟩;(exact(ZM (K:=K) (n:=2) rfl rfl (zQ (ZM (K:=K) (n:=2) rfl rfl (zQ (zK (i:=0) (show List.Nodup (["place","speed","weight"]:List Str) by decide +kernel) rfl (Or.inl rfl)) (zQ (zK (i:=1) (show List.Nodup (["place","speed","weight"]:List Str) by decide +kernel) rfl (Or.inl rfl)) xJ))) (zQ (zK (i:=2) (show List.Nodup (["place","speed","weight"]:List Str) by decide +kernel) rfl (Or.inl rfl)) xJ))));(exact qg);(exact(xv (za (pv 0) (za (pv 1) (za (pv 2) ze))))))))
  (zD (Bx.mk (zL (i:=4) JA.nd rfl (Or.inl rfl) (xv (za (zP cPs hr (za (pv 0) (za (xb (pv 0) rfl) (za (pv 1) ze)))) (za (zP cPs hr (za (pv 0) (za (xb (pv 0) rfl) (za (pv 1) ze)))) ze)))))
  (Bx.mk (zi (zM (xv (za (qx vc (by rfl) T.nTuple PyProof.Rows.boot_tuple (za (pv 3) ze)) (za (pv 4) ze))))))))),?_⟩
 refine⟨_,rfl,c,C,dx,fs,_,rfl,hc,TC.cls,TC.tracks,elt,tl,rfl,⟨_,SqL.of htl⟩,λD1 hD1=>?_⟩
 refine qh (J:=Itl K tl) (n:=1) (js:=[0,1]) (g:=zN 0) (te:=_) (xs:=tv) (λi v G=>∃l,trs[i]? = some l/\XZ G v (some (ptT pb sb t l))) (λ_ _ _ _ e ⟨l,h1,h2⟩=>⟨l,h1,h2.keeps e⟩) hD1 (xW htl) (xt (by omega)) ?_ ?_
 ·intro i x zs H2 Q' hx hz s2 hk
  obtain⟨z1,rfl⟩:=jL hz
  obtain⟨l,el,hat⟩:=(hTv.keeps (.of s2)).2 i x hx
  dsimp only[zN]
  exact⟨rfl,_,rfl,_,rfl,_,rfl,c,x,tb,dx,fs,pb,sb,t,some l,rfl,s2 _ _ hc,F.pb,F.sb,hat,s2 _ _ htb,zt,λl' e=>by cases e;exact ztr l (List.mem_of_getElem? el),p0,s0,t0,zpb,zsb,zpt,λv' H' s' h'=>hk _ _ s' ⟨l,el,h'⟩⟩
 intro ys G1 s1 hy1 hyl hyR
 dsimp only[zN]
 refine⟨_,rfl,_,rfl,c,C,dx,fs,_,rfl,s1 _ _ hc,TC.cls,TC.weights,f3,false,false,D1,wla,rfl,⟨_,SqL.of hy1⟩,⟨_,SqL.of (s1 _ _ f4)⟩,λD2 hD2=>?_⟩
 have hw1:=s1 _ _ f4
 refine J0 (js:=[]) (J:=zbV false false K D1 wla) (N:=ys.length) (n:=3) (xs:=ys) (ys:=ws.map V.int) (g:=J4 K 2 (jK (J4 K 2 (jK (zN 0) (jK (zN 1) zaR))) (jK (zN 2) zaR))) (tt:=λ_ H Q=>Q true H) (te:=zbJ (qp (xQ 0) (qp (xQ 1) (qp (xQ 2) Zn)))) (λ_=>true) (λi v G=>∀b,((trs.zip ws).map λz=>blT pb sb t z.1 z.2)[i]? = some b->zau G v b) (λi v G G' e h b hb=>(h b hb).keeps e) hD2 (zcD (k1:=false) (k2:=false) hy1 hw1 (by rw[List.length_map];omega)) (xt (by omega)) ?_ ?_
 ·intro i Tt x y zs G A' B' hx hy hz S hT hA hB'
  obtain⟨l,el,a',p,q,rfl,g1,g2,g3⟩:=hyR i x hx
  rw[List.getElem?_map]at hy
  cases ew:ws[i]? with
  | none=>rw[ew]at hy;cases hy
  | some n =>
   rw[ew]at hy;cases hy
   obtain⟨y1,y2,y3,rfl⟩:∃a b c,zs=[a,b,c]:=by
    match zs,hz with
    | [a,b,c],_=>exact⟨a,b,c,rfl⟩
   refine⟨Tt,_,rfl,.of hT,rfl,_,_,rfl,a',_,rfl,.of (S _ _ g1),rfl,_,_,rfl,_,_,rfl,rfl,_,_,rfl,rfl,rfl,qd ?_⟩
   refine⟨_,rfl,_,rfl,_,rfl,by show 3<=sizeLine;decide,λtp htp=>hA rfl _ _ (zh.upd htp) λb eb=>?_⟩
   rw[List.getElem?_map,(List.getElem?_zip_eq_some.mpr ⟨el,ew⟩:(trs.zip ws)[i]? = some (l,n))]at eb
   cases eb
   exact⟨tp,p,q,rfl,zf,zh.upd htp _ _ (S _ _ g2),zh.upd htp _ _ (S _ _ g3)⟩
 intro us G2 s2 hu hul huR
 rw[zem]at hul huR
 have hul':us.length=ys.length:=by rw[hul,List.length_range]
 have hlz:((trs.zip ws).map λz=>blT pb sb t z.1 z.2).length=trs.length:=by rw[List.length_map,List.length_zip,hwl,Nat.min_self]
 have hRow:ZV G2 us ((trs.zip ws).map λz=>blT pb sb t z.1 z.2):=⟨by omega,λi v e=>by
  have hi:i<us.length:=(List.getElem?_eq_some_iff.mp e).1
  obtain⟨b,eb⟩:∃b,((trs.zip ws).map λz=>blT pb sb t z.1 z.2)[i]? = some b:=⟨_,List.getElem?_eq_getElem (by omega)⟩
  exact⟨b,eb,huR i i v (by rw[List.getElem?_range (by omega)]) e b eb⟩⟩
 have S2:=s1.trans s2
 dsimp only[zN]
 refine⟨_,rfl,_,rfl,c,C,dx,fs,_,rfl,S2 _ _ hc,TC.cls,TC.low,f5,_,rfl,c,v1,tb,dx,fs,pb,sb,t,lo,rfl,S2 _ _ hc,F.pb,F.sb,f6.keeps (.of S2),S2 _ _ htb,zt,zlo,p0,s0,t0,zpb,zsb,zpt,λw1 G3 s3 hw3=>?_⟩
 have S3:=S2.trans s3
 refine⟨_,rfl,_,rfl,c,C,dx,fs,_,rfl,S3 _ _ hc,TC.cls,TC.high,f7,_,rfl,c,v2,tb,dx,fs,pb,sb,t,hi,rfl,S3 _ _ hc,F.pb,F.sb,f8.keeps (.of S3),S3 _ _ htb,zt,zhi,p0,s0,t0,zpb,zsb,zpt,λw2 G4 s4 hw4=>⟨by show 2<=sizeLine;decide,λwa hwa=>?_⟩⟩
 have s5:=zh.upd (o:=.tup [w1,w2]) hwa
 have hwa':upd G4 wa (.tup [w1,w2]) wa=some (.tup [w1,w2]):=zf
 generalize upd G4 wa (.tup [w1,w2])=G5 at s5 hwa' ⊢
 dsimp only[zN]
 have S25:=s3.trans (s4.trans s5)
 refine⟨_,rfl,D2,us,rfl,.inl ⟨.of (S25 _ _ hu),λr hr'=>?_⟩⟩
 have s6:=zh.upd (o:=.tup us) hr'
 have hr6:upd G5 r (.tup us) r=some (.tup us):=zf
 generalize upd G5 r (.tup us)=G6 at s6 hr6 ⊢
 refine⟨_,rfl,by show 2<=sizeLine;decide,λpp hpp=>?_⟩
 have s7:=zh.upd (o:=.tup [.ref r,.ref wa]) hpp
 have S57:=s6.trans s7
 exact k pp r wa us w1 w2 _ (S2.trans (S25.trans S57)) zf (s7 _ _ hr6) (hRow.keeps (.of (S25.trans S57))) (S57 _ _ hwa') (hw3.keeps (.of (s4.trans (s5.trans S57)))) (hw4.keeps (.of (s5.trans S57)))
end
end KQ
end
section
set_option maxHeartbeats 8000000
set_option Elab.async false
set_option linter.all false
set_option maxRecDepth 100000
namespace KQ
open PySem L2 KM KK
structure SC where
 pb:Int
 sb:Int
 trs:List (Int×Int)
 lo:Option (Int×Int)
 hi:Option (Int×Int)
def RbS (ws:List Int) (g:Nat×Nat×Str) (s s':SC):Prop:=RbT ws g.1 g.2.1 (xq g.2.2 s.lo s.hi) s.pb s.sb s.trs s.lo s.hi s'.pb s'.sb s'.trs s'.lo s'.hi
inductive Zr (ws:List Int):List (Nat×Nat×Str)->SC->SC->Prop where
 | nil (s:SC):Zr ws [] s s
 | snoc {gs:List (Nat×Nat×Str)}{g:Nat×Nat×Str}{s0 s s':SC}(h:Zr ws gs s0 s) (r:RbS ws g s s'):Zr ws (gs++[g]) s0 s'
def refB (ws:List Int) (g:Nat×Nat×Str) (s:SC):Prop:=vP (xq g.2.2 s.lo s.hi) (xV ws g.1 g.2.1)=false/\qL (xV ws g.1 g.2.1)=false
structure BdS (n:Nat) (s:SC):Prop where
 pb:Bd n s.pb
 sb:Bd n s.sb
 p0:0<s.pb
 s0:0<s.sb
 tr:∀t∈s.trs,BdP n t
 lo:∀l,s.lo=some l->BdP n l
 hi:∀l,s.hi=some l->BdP n l
theorem zdY {l r:Int}(hl:1<=l) (hr:1<=r):0<mP l r:=by
 unfold mP
 have dp:=Vr hl hr
 rw[Int.fdiv_eq_ediv_of_nonneg _ (by omega)]
 have hd:dvP l r ∣ l+r:=Int.gcd_dvd_left ..
 obtain⟨q,hq⟩:=hd
 rw[hq,Int.mul_ediv_cancel_left _ (by omega)]
 rcases Int.lt_or_le 0 q with z | z
 ·exact z
 ·have:dvP l r*q<=0:=Int.mul_nonpos_of_nonneg_of_nonpos (by omega) z
  omega
theorem BdP.sc {n:Nat}{t:Int×Int}{m:Int}(h:BdP n t) (hm:Bd 12 m):BdP (n+14) (scT m t):=⟨(h.1.mul hm).mono (by omega),(h.2.mul hm).mono (by omega)⟩
theorem zbf {l r:Int}{trs:List (Int×Int)}{a:Nat}{x y t:Int×Int}(h:t∈Xg l r trs a x y):(∃u∈trs,t=scT (mP l r) u)\/t=(ahP l r*x.1+puP l r*y.1,ahP l r*x.2+puP l r*y.2)\/t=(baP l r*x.1 - ahP l r*y.1,baP l r*x.2 - ahP l r*y.2):=by
 unfold Xg at h
 rcases List.mem_or_eq_of_mem_set h with h | h
 ·rcases List.mem_or_eq_of_mem_set h with h | h
  ·obtain⟨u,mu,rfl⟩:=List.mem_map.mp h;exact .inl ⟨u,mu,rfl⟩
  ·exact .inr (.inl h)
 ·exact .inr (.inr h)
theorem zaB {ws:List Int}{g:Nat×Nat×Str}{s s':SC}{n:Nat}(hw:∀x∈ws,1<=x/\x<=1000) (h:BdS n s) (r:RbS ws g s s') (hab:g.1<=g.2.1) (hb:g.2.1<s.trs.length):BdS (n+14) s'/\s'.trs.length=s.trs.length/\(s'.lo=none↔s.lo=none)/\(s'.hi=none↔s.hi=none):=by
 rcases r with⟨_,l,rr,x,y,el,er,ex,ey,e1,e2,e3,e4,e5⟩ | ⟨_,_,seg,pm,_,e1,e2,e3,e4,e5⟩
 ·have hl:=hw l (List.mem_of_getElem? el)
  have hr:=hw rr (List.mem_of_getElem? er)
  have dp:=Vr hl.1 hr.1
  have bm:Bd 12 (mP l rr):=Zv dp (by omega) (by omega)
  have bp:Bd 12 (puP l rr):=Zv dp (by omega) (by omega)
  have bb:Bd 12 (baP l rr):=Zv dp (by omega) (by omega)
  have bh:Bd 12 (ahP l rr):=Zv dp (by omega) (by omega)
  have mp:=zdY hl.1 hr.1
  have zx:=h.tr x (List.mem_of_getElem? ex)
  have zy:=h.tr y (List.mem_of_getElem? ey)
  refine⟨⟨by rw[e1];exact(h.pb.mul bm).mono (by omega),by rw[e2];exact(h.sb.mul bm).mono (by omega),by rw[e1];exact Int.mul_pos h.p0 mp,by rw[e2];exact Int.mul_pos h.s0 mp,λt mt=>?_,λu eu=>?_,λu eu=>?_⟩,by rw[e3];unfold Xg;simp,?_,?_⟩
  ·rw[e3]at mt
   rcases zbf mt with⟨u,mu,rfl⟩ | rfl | rfl
   ·exact(h.tr u mu).sc bm
   ·exact⟨((bh.mul zx.1).add (bp.mul zy.1)).mono (by omega),((bh.mul zx.2).add (bp.mul zy.2)).mono (by omega)⟩
   ·exact⟨((bb.mul zx.1).sub (bh.mul zy.1)).mono (by omega),((bb.mul zx.2).sub (bh.mul zy.2)).mono (by omega)⟩
  ·rw[e4]at eu
   obtain⟨v,ev,rfl⟩:=Option.map_eq_some_iff.mp eu
   exact(h.lo v ev).sc bm
  ·rw[e5]at eu
   obtain⟨v,ev,rfl⟩:=Option.map_eq_some_iff.mp eu
   exact(h.hi v ev).sc bm
  ·rw[e4];simp
  ·rw[e5];simp
 ·have zw:∀l,xq g.2.2 s.lo s.hi=some l->BdP n l:=λl e=>by
   unfold xq at e
   split at e
   ·cases e
   ·split at e
    ·exact h.lo l e
    ·exact h.hi l e
  have mono:∀{t:Int×Int},BdP n t->BdP (n+14) t:=λz=>⟨z.1.mono (by omega),z.2.mono (by omega)⟩
  have hseg:∀t∈seg,BdP (n+14) t:=λt mt=>by
   obtain⟨u,mu,rfl⟩:=List.mem_map.mp (pm.mem_iff.mp mt)
   have zu:=h.tr u (List.mem_of_mem_drop (List.mem_of_mem_take mu))
   unfold Xj
   cases ew:xq g.2.2 s.lo s.hi with
   | none=>exact mono zu
   | some v =>
    have zv:=zw v ew
    have b2:Bd 3 2:=show (2:Int).natAbs<2^3 by decide
    exact⟨((b2.mul zv.1).sub zu.1).mono (by omega),((b2.mul zv.2).sub zu.2).mono (by omega)⟩
  refine⟨⟨by rw[e1];exact h.pb.mono (by omega),by rw[e2];exact h.sb.mono (by omega),by rw[e1];exact h.p0,by rw[e2];exact h.s0,λt mt=>?_,λu eu=>mono (h.lo u (by rw[<-e4];exact eu)),λu eu=>mono (h.hi u (by rw[<-e5];exact eu))⟩,?_,by rw[e4],by rw[e5]⟩
  ·rw[e3]at mt
   rcases List.mem_append.mp mt with mt | mt
   ·rcases List.mem_append.mp mt with mt | mt
    ·exact mono (h.tr t (List.mem_of_mem_take mt))
    ·exact hseg t mt
   ·exact mono (h.tr t (List.mem_of_mem_drop mt))
  ·have el:seg.length=g.2.1+1 - g.1:=by
    rw[pm.length_eq,List.length_map]
    unfold vU
    rw[show ((g.2.1:Int)+1)=((g.2.1+1:Nat):Int) by omega,HT.sIx_nat,HT.sIx_nat,List.length_take,List.length_drop]
    omega
   rw[e3,List.length_append,List.length_append,List.length_take,List.length_drop,el]
   omega
theorem VM {α γ:Type} [DecidableEq α] {ss:List α}{f:Nat->Nat->Option γ}:∀{n:Nat}{g:γ},g∈rlG ss f n->∃i,i<n/\f (stG ss i) i=some g
 | 0,_,m=>by cases m
 | n+1,g,m=>by
  unfold rlG at m
  split at m
  ·rcases List.mem_append.mp m with m | m
   ·obtain⟨i,h1,h2⟩:=VM m;exact⟨i,by omega,h2⟩
   ·exact⟨n,by omega,Option.mem_toList.mp m⟩
  ·obtain⟨i,h1,h2⟩:=VM m;exact⟨i,by omega,h2⟩
theorem zdM {trs:List (Int×Int)}{lo hi:Option (Int×Int)}{t:Int×Int}{g:Nat×Nat×Str}(h:g∈grP trs lo hi t):g.1<=g.2.1/\g.2.1<trs.length:=by
 unfold grP at h
 obtain⟨i,hi',e⟩:=VM h
 unfold fP at e
 dsimp only at e
 split at e
 ·cases e;exact⟨vo _ _,hi'⟩
 ·cases e
end KQ
end
section
set_option maxHeartbeats 8000000
set_option Elab.async false
set_option linter.all false
set_option maxRecDepth 100000
namespace KQ
open PySem L2 KM KK
section
variable {P:Program}{w:World}{K:PySem.W.Frag}{mg:Str->Option Value}{base:Heap}
def S0 (bs:List Bl) (lo hi:Option (Rat×Rat)):SC:=⟨pbO bs lo hi,sbO bs lo hi,trO bs lo hi,lo.map (trB (pbO bs lo hi) (sbO bs lo hi)),hi.map (trB (pbO bs lo hi) (sbO bs lo hi))⟩
def gsO (bs:List Bl) (lo hi:Option (Rat×Rat)) (t:Int×Int):List (Nat×Nat×Str):=grP (S0 bs lo hi).trs (S0 bs lo hi).lo (S0 bs lo hi).hi t
def zeq (C CS CT Tb:Addr):Sp:=λvs H Q E=>∃r wa bs lo hi,vs=[V.ref r,.ref wa]/\In H r wa bs lo hi/\qN Tb laQ laP H/\(∀b∈bs,1<=b.wt/\b.wt<=1000)/\BdS 4200 (S0 bs lo hi) ∧
 (∀H',zh H H'->soon (chO bs lo hi)=none->Q .non H') ∧
 (∀t S p m r' wa' us v1 v2 H',soon (chO bs lo hi)=some t->qo lo hi≠some (qP (tkO bs lo hi) t)->Zr (bs.map Bl.wt) (gsO bs lo hi t) (S0 bs lo hi) S->StT Tb H H'->qN Tb laQ laP H'->H' p=some (.tup [.ref m,.ref r',.ref wa'])->zF H' m (qP (tkO bs lo hi) t) →
  H' r'=some (.tup us)->ZV H' us ((S.trs.zip (bs.map Bl.wt)).map λz=>blT S.pb S.sb t z.1 z.2)->H' wa'=some (.tup [v1,v2])->XZ H' v1 (S.lo.map (ptT S.pb S.sb t))->XZ H' v2 (S.hi.map (ptT S.pb S.sb t))->Q (.ref p) H') ∧
 (∀t p dx H',zh H H'->soon (chO bs lo hi)=some t->qo lo hi=some (qP (tkO bs lo hi) t)->H' dx=some (.xd [("moment",.ref p)])->zF H' p (qP (tkO bs lo hi) t)->E (.ref CS) (some dx) H') ∧
 (∀t S pre g suf p dx H',soon (chO bs lo hi)=some t->qo lo hi≠some (qP (tkO bs lo hi) t)->gsO bs lo hi t=pre++g::suf->Zr (bs.map Bl.wt) pre (S0 bs lo hi) S->refB (bs.map Bl.wt) g S->StT Tb H H'->qN Tb laQ laP H'->H' dx=some (.xd [("moment",.ref p)])->zF H' p (qP (tkO bs lo hi) t)->E (.ref CT) (some dx) H')
theorem zcB (trs:List (Int×Int)) (lo hi:Option (Int×Int)) (t:Int×Int):(grP trs lo hi t).length<=trs.length:=by
 unfold grP
 have:∀n,(rlG (trs.map λl=>xG l t) (fP trs lo hi t) n).length<=n:=λn=>by
  induction n with
  | zero=>exact Nat.le_refl _
  | succ n ih =>
   unfold rlG
   split
   ·rw[List.length_append]
    have:((fP trs lo hi t (stG (trs.map λl=>xG l t) n) n).toList).length<=1:=by cases fP trs lo hi t (stG (trs.map λl=>xG l t) n) n <;> simp
    omega
   ·omega
 exact this _
theorem XU:zG ["row","walls","course","ticks","group","row_then","walls_then"] ["row","walls"] (zg v3):=⟨rfl,rfl,rfl,by decide +kernel,rfl,by decide +kernel,by decide +kernel⟩
theorem zeX {C CS CT Tb fi:Addr}{fdi:FuncData}(D:Df K mg "behind" v3 ["row","walls"] []) (M:Mk K C fi) (Fi:vL P w K mg base CX0 4 fi fdi ["self","row","walls"] (zer C)) (hmC:mg "Course" = some (.ref C)) (Bi:vh K fdi ["self","row","walls"] [])
  (cFT:jZ P w K mg base "first_ticks" 5 ["course","walls"] [] (zes C CS)) (cMo:Cal P w K mg base "moment_of" 3 ["course","ticks"] [] (zbC C)) (cGr:Cal P w K mg base "groups_at" 3 ["course","ticks"] [] (zet C)) (cRb:jZ P w K mg base "rebound" 5 ["course","group","ticks"] [] (zfX C CT Tb)) (cPl:Cal P w K mg base "placed" 4 ["course","ticks"] [] (zfU C)) :
  jZ P w K mg base "behind" 6 ["row","walls"] [] (zeq C CS CT Tb):=by
 refine D.cal1 (k:=5) XU (λvs H Q E h=>by obtain⟨_,_,_,_,_,rfl,_⟩:=h;rfl) (λf cdv A outer s H vs Q E hr h=>?_)
 obtain⟨r,wa,bs,lo,hi,rfl,I,T0,hwt,hbd,k1,k2,k3,k4⟩:=h
 obtain⟨us,hrr,hB⟩:=I.row
 obtain⟨v1,v2,hw,h1,h2⟩:=I.walls
 have hr3:xi 3 _:=hr.mono (by decide)
 have hr4:xi 4 _:=hr.mono (by decide)
 refine⟨_,(zj (zL (i:=2) XU.nd rfl (Or.inl rfl) (Jq M Fi hr (by rfl) hmC Bi .nil zbg (za (pv 0) (za (pv 1) ze))))
  (zj (zL (i:=3) XU.nd rfl (Or.inl rfl) (Jp cFT hr j4 (za (pv 2) (za (pv 1) ze))))
  (zj (xk (zI vn (pv 3) zX (zJ _)) (zi (zM zX)) zS)
  (zj (vI PassesOwn.leaving rfl (xS (zP cGr hr3 (za (pv 2) (za (pv 3) ze)))) (zK (i:=4) XU.nd rfl (Or.inl rfl)) (zi (xU (Jp cRb hr j4 (za (pv 2) (za (pv 4) (za (pv 3) ze)))))))
  (zj (qJ (zP cPl hr4 (za (pv 2) (za (pv 3) ze))) (vH rfl (zQ (zK (i:=5) XU.nd rfl (Or.inl rfl)) (zQ (zK (i:=6) XU.nd rfl (Or.inl rfl)) xJ))))
  (zi (zM (xv (za (zP cMo hr3 (za (pv 2) (za (pv 3) ze))) (za (pv 5) (za (pv 6) ze))))))))))),?_⟩
 refine⟨_,rfl,_,rfl,λc dx hc hdx ne=>?_⟩
 have SS:zh H (upd (upd H dx (.own c)) c (.ins C dx [])):=(zh.upd hdx).trans (zh.upd (by rw[zB ne.symm];exact hc))
 refine⟨c,dx,r,wa,us,bs,v1,v2,lo,hi,rfl,zf,SS _ _ hrr,hB.keeps (.of SS),SS _ _ hw,h1.keeps (.of SS),h2.keeps (.of SS),I.len,I.sz,λH1 X1 hcn=>⟨rfl,?_⟩⟩
 have hco:=hcn.co
 have S1:zh H H1:=λb o e=>X1 b o (zC e hc) (SS b o e)
 dsimp only[zN]
 refine⟨_,rfl,_,rfl,c,_,_,_,_,_,_,_,wa,v1,v2,lo,hi,rfl,hco,by rw[List.length_map];exact I.len,I.bd,I.tk,S1 _ _ hw,h1.keeps (.of S1),h2.keeps (.of S1),I.lo,I.hi,?_,?_,?_⟩
 ·intro H2 s2 e
  dsimp only[zN]
  exact⟨_,rfl,rfl,_,rfl,qd (k1 H2 (S1.trans s2) e)⟩
 ·intro v t H2 s2 e n hv
  obtain⟨ta,rfl,hta⟩:=hv
  dsimp only[zN]
  refine⟨_,rfl,rfl,_,rfl,xA ?_⟩
  have so:=Qu I.bd e
  have zt:BdP 4400 t:=⟨so.2.1.mono (by decide),so.2.2.mono (by decide)⟩
  have S2:=S1.trans s2
  have hco2:=hco.same s2
  have ztr:∀l∈(S0 bs lo hi).trs,BdP 4400 l:=λl m=>⟨(hbd.tr l m).1.mono (by decide),(hbd.tr l m).2.mono (by decide)⟩
  have zlo:∀l,(S0 bs lo hi).lo=some l->BdP 4400 l:=λl m=>⟨(hbd.lo l m).1.mono (by decide),(hbd.lo l m).2.mono (by decide)⟩
  have zhi:∀l,(S0 bs lo hi).hi=some l->BdP 4400 l:=λl m=>⟨(hbd.hi l m).1.mono (by decide),(hbd.hi l m).2.mono (by decide)⟩
  have hln:(S0 bs lo hi).trs.length<=8:=by show (trO bs lo hi).length<=8;unfold trO;rw[List.length_map];exact I.len
  dsimp only
  refine⟨_,rfl,_,rfl,c,ta,_,_,_,_,_,_,_,t,rfl,hco2,hln,hta,zt,ztr,zlo,zhi,λGl gv H4 s4 hGn hG hgr=>?_⟩
  obtain⟨dx1,fs1,tl0,hc1,F1,et1,hn1⟩:=hcn
  have htlH:H tl0=none:=SS.free hn1
  have S4:=S2.trans s4
  obtain⟨tlx,tv1,ext,htl1,hTv1⟩:=F1.tracks
  rw[et1]at ext;cases ext
  have CT1:CoT H1 C c tl0 (S0 bs lo hi).pb (S0 bs lo hi).sb (tkO bs lo hi) (bs.map Bl.wt) (S0 bs lo hi).trs (S0 bs lo hi).lo (S0 bs lo hi).hi:=⟨dx1,fs1,tv1,hc1,F1,et1,htl1,hTv1⟩
  have CT4:=CT1.same (s2.trans s4)
  have T4:=T0.same S4
  obtain⟨ps4,hTb4,_⟩:=id T4
  have hc4:=s4 _ _ (s2 _ _ hc1)
  have htl4:=s4 _ _ (s2 _ _ htl1)
  have hGlS:Gl∉[Tb,c,tl0]:=λz=>by
   rcases List.mem_cons.mp z with rfl | z
   ·rw[hG]at hTb4;cases hTb4
   ·rcases List.mem_cons.mp z with rfl | z
    ·rw[hG]at hc4;cases hc4
    ·have:Gl=tl0:=by simpa using z
     rw[this,s2 _ _ htl1]at hGn;cases hGn
  have htaS:ta∉[Tb,c,tl0]:=λz=>by
   have h:=s4 _ _ hta
   rcases List.mem_cons.mp z with rfl | z
   ·rw[h]at hTb4;cases hTb4
   ·rcases List.mem_cons.mp z with rfl | z
    ·rw[h]at hc4;cases hc4
    ·have:ta=tl0:=by simpa using z
     rw[this,htl4]at h;cases h
  have hgl:gv.length=(gsO bs lo hi t).length:=hgr.1
  have hg8:(gsO bs lo hi t).length<=8:=Nat.le_trans (zcB ..) hln
  have hwl:(bs.map Bl.wt).length=(S0 bs lo hi).trs.length:=by show _=(trO bs lo hi).length;unfold trO;rw[List.length_map,List.length_map]
  have hw1:∀x∈bs.map Bl.wt,1<=x/\x<=1000:=λx mx=>by obtain⟨b,mb,rfl⟩:=List.mem_map.mp mx;exact hwt b mb
  have st_of:∀{G:Hp},(∀b o,H4 b=some o->b∉[Tb,c,tl0]->G b=some o)->StT Tb H G:=λ{G} hch b o eb nb=>hch b o (S4 _ _ eb) λz=>by
   rcases List.mem_cons.mp z with z | z
   ·exact nb z
   ·rcases List.mem_cons.mp z with rfl | z
    ·rw[hc]at eb;cases eb
    ·have:b=tl0:=by simpa using z
     rw[this,htlH]at eb;cases eb
  refine⟨Gl,rfl,⟨_,SqL.of hG⟩,?_⟩
  refine jJ (xs:=gv) (λi σ G=>∃z4 S tl',σ=[some (.ref r),some (.ref wa),some (.ref c),some (.ref ta),z4,none,none]/\Zr (bs.map Bl.wt) ((gsO bs lo hi t).take i) (S0 bs lo hi) S/\CoT G C c tl' S.pb S.sb (tkO bs lo hi) (bs.map Bl.wt) S.trs S.lo S.hi/\qN Tb laQ laP G/\(∀b o,H4 b=some o->b∉[Tb,c,tl0]->G b=some o)/\(tl'=tl0\/H4 tl'=none)/\BdS (4200+14*i) S/\S.trs.length=(S0 bs lo hi).trs.length)
   ⟨_,S0 bs lo hi,tl0,rfl,.nil _,CT4,T4,λ_ _ eb _=>eb,.inl rfl,hbd,rfl⟩ (λi σ G hi' ⟨_,_,_,_,_,_,_,hch,_⟩=>SqL.of (hch _ _ hG hGlS)) ?_ ?_
  ·rintro i xg σ G hxg ⟨z4,S,tl',rfl,hch,CTh,TT,hkp,htl',hBd,hlen⟩
   obtain⟨g,eg,ga,rfl,hga⟩:=hgr.2 i xg hxg
   have hi':i<gv.length:=(List.getElem?_eq_some_iff.mp hxg).1
   have hgm:=zdM (List.mem_of_getElem? eg)
   have hgaS:ga∉[Tb,c,tl0]:=λz=>by
    rcases List.mem_cons.mp z with rfl | z
    ·rw[hga]at hTb4;cases hTb4
    ·rcases List.mem_cons.mp z with rfl | z
     ·rw[hga]at hc4;cases hc4
     ·have:ga=tl0:=by simpa using z
      rw[this,htl4]at hga;cases hga
   have hbl:g.2.1<S.trs.length:=by rw[hlen];exact hgm.2
   have bnd:4200+14*i<=4600:=by omega
   have etk:(gsO bs lo hi t).take (i+1)=(gsO bs lo hi t).take i++[g]:=by
    have eg':(gsO bs lo hi t)[i]? = some g:=eg
    rw[List.take_add_one,eg'];rfl
   dsimp only[zN]
   refine⟨_,rfl,_,rfl,_,rfl,c,tl',ga,ta,g.1,g.2.1,g.2.2,t,S.pb,S.sb,tkO bs lo hi,bs.map Bl.wt,S.trs,S.lo,S.hi,rfl,CTh,hkp _ _ hga hgaS,hkp _ _ (s4 _ _ hta) htaS,by omega,zt,I.tk,hgm.1,hbl,by omega,by rw[hwl,hlen],hw1,hBd.pb.mono bnd,hBd.sb.mono bnd,λt' m=>⟨(hBd.tr t' m).1.mono bnd,(hBd.tr t' m).2.mono bnd⟩,λl m=>⟨(hBd.lo l m).1.mono bnd,(hBd.lo l m).2.mono bnd⟩,λl m=>⟨(hBd.hi l m).1.mono bnd,(hBd.hi l m).2.mono bnd⟩,TT,?_,?_⟩
   ·intro G' tl2 pb2 sb2 trs2 lo2 hi2 ch tt hor rb ct
    have rb':RbS (bs.map Bl.wt) g S ⟨pb2,sb2,trs2,lo2,hi2⟩:=rb
    obtain⟨b1,b2,_⟩:=zaB hw1 hBd rb' hgm.1 hbl
    refine⟨_,⟨pb2,sb2,trs2,lo2,hi2⟩,tl2,rfl,by rw[etk];exact hch.snoc rb',ct,tt,λb o eb nb=>ch b o (λz=>?_) (hkp b o eb nb),?_,by rw[show 4200+14*(i+1)=4200+14*i+14 by omega];exact b1,b2.trans hlen⟩
    ·rcases List.mem_cons.mp z with rfl | z
     ·exact nb (List.mem_cons_self ..)
     ·rcases List.mem_cons.mp z with rfl | z
      ·rcases htl' with z2 | z2
       ·exact nb (by rw[z2];simp)
       ·rw[eb]at z2;cases z2
      ·have:b=c:=by simpa using z
       exact nb (by rw[this];simp)
    ·rcases hor with rfl | hn
     ·exact htl'
     ·by_cases z0:tl2=tl0
      ·exact .inl z0
      ·refine .inr ?_
       cases ez:H4 tl2 with
       | none=>rfl
       | some o =>
        have nb:tl2∉[Tb,c,tl0]:=λz=>by
         rcases List.mem_cons.mp z with rfl | z
         ·obtain⟨ps,gT,_⟩:=TT;rw[gT]at hn;cases hn
         ·rcases List.mem_cons.mp z with rfl | z
          ·obtain⟨_,_,_,gc,_⟩:=CTh;rw[gc]at hn;cases hn
          ·exact z0 (by simpa using z)
        rw[hkp _ _ ez nb]at hn;cases hn
   ·intro G' dxe pe ss hp1 hs1 hxd hrt
    refine⟨CT,rfl,k4 t S ((gsO bs lo hi t).take i) g ((gsO bs lo hi t).drop (i+1)) pe dxe G' e n ?_ hch ⟨hp1,hs1⟩ (λb o eb nb=>ss _ _ (st_of hkp b o eb nb)) (TT.same ss) hxd hrt⟩
    have hi2:i<(gsO bs lo hi t).length:=by omega
    have eg':(gsO bs lo hi t)[i]? = some g:=eg
    obtain⟨_,eg2⟩:=List.getElem?_eq_some_iff.mp eg'
    rw[<-eg2,<-List.drop_eq_getElem_cons hi2,List.take_append_drop]
  ·rintro σ G ⟨z4,S,tl',rfl,hch,CTh,TT,hkp,htl',hBd,hlen⟩
   have bnd:4200+14*gv.length<=4312:=by omega
   have bn4:4200+14*gv.length<=4400:=by omega
   obtain⟨dx5,fs5,tv5,hc5,F5,et5,htl5,hTv5⟩:=id CTh
   obtain⟨tp,etp,htp⟩:=F5.tick
   have hta5:=hkp _ _ (s4 _ _ hta) htaS
   refine⟨_,rfl,_,rfl,c,tl',ta,S.pb,S.sb,tkO bs lo hi,bs.map Bl.wt,S.trs,S.lo,S.hi,t,rfl,CTh,hta5,zt,by omega,by rw[hwl,hlen],λt' m=>⟨(hBd.tr t' m).1.mono bn4,(hBd.tr t' m).2.mono bn4⟩,λl m=>⟨(hBd.lo l m).1.mono bn4,(hBd.lo l m).2.mono bn4⟩,λl m=>⟨(hBd.hi l m).1.mono bn4,(hBd.hi l m).2.mono bn4⟩,by have:=hBd.p0;omega,by have:=hBd.s0;omega,by omega,hBd.pb.mono bn4,hBd.sb.mono (by omega),(((hBd.pb.mono bnd).mul zt.2).mono (by decide)),λp r' wa' us' w1 w2 G5 s5 hp hr' hRow hwa' hp1 hp2=>?_⟩
   refine⟨p,_,rfl,.of hp,rfl,_,_,rfl,_,_,rfl,rfl,?_⟩
   dsimp only[zN]
   refine⟨_,rfl,_,rfl,c,ta,dx5,fs5,tp,_,t.1,t.2,rfl,s5 _ _ hc5,etp,s5 _ _ htp,s5 _ _ hta5,by omega,zt.1,zt.2,I.tk,λm G6 s6 hm=>⟨_,rfl,_,rfl,by show 3<=sizeLine;decide,λpp hpp=>?_⟩⟩
   have s7:=zh.upd (o:=.tup [.ref m,.ref r',.ref wa']) hpp
   have S57:=s6.trans s7
   refine k2 t S pp m r' wa' us' w1 w2 _ e n ?_ (λb o eb nb=>S57 _ _ (s5 _ _ (st_of hkp b o eb nb))) ((TT.same s5).same S57) zf (s7 _ _ hm) (S57 _ _ hr') (hRow.keeps (.of S57)) (S57 _ _ hwa') (hp1.keeps (.of S57)) (hp2.keeps (.of S57))
   rw[hgl,List.take_length]at hch
   exact hch
 ·intro t p d H2 s2 e e' hd hp
  exact⟨CS,rfl,k3 t p d H2 (S1.trans s2) e e' hd hp⟩
end
end KQ
end
section
set_option maxHeartbeats 8000000
set_option Elab.async false
set_option linter.all false
set_option maxRecDepth 100000
namespace KT
open PySem L2 KM KK KQ
def bl (b:zV):KQ.Bl:=⟨b.pl,b.sp,b.wt⟩
theorem zfA {H:Hp}{us:List V}{bs:List zV}(h:zR H us bs):ZV H us (bs.map bl):=by
 refine⟨by rw[h.length,List.length_map],λi v e=>?_⟩
 obtain⟨a,p,q,b,eb,rfl,h1,h2,h3⟩:=h.get e
 exact⟨bl b,by rw[List.getElem?_map,eb];rfl,a,p,q,rfl,h1,h2,h3⟩
theorem zc1 {H:Hp}{v:V}{l:Wl}(h:xp H v l):qR H v l:=by
 cases l with
 | none=>exact h
 | some u=>obtain⟨x,y⟩:=u;obtain⟨a,p,q,rfl,h1,h2,h3⟩:=h;exact⟨a,rfl,p,q,[],h1,h2,h3⟩
def tl (bs:List zV) (lo hi:Wl):List (Rat×Rat):=xP lo++bs.map (λb=>(b.pl,b.sp))++xP hi
theorem Jl (pb sb:Int) (l:Wl):QT (l.map (trB pb sb))=(xP l).map (trB pb sb):=by cases l <;> rfl
theorem zaH (bs:List zV) (lo hi:Wl):chO (bs.map bl) lo hi=(tl bs lo hi).map (trB (pbO (bs.map bl) lo hi) (sbO (bs.map bl) lo hi)):=by
 unfold chO chn trO tl
 rw[Jl,Jl,List.map_append,List.map_append,List.map_map,List.map_map];rfl
theorem VQ (bs:List zV) (lo hi:Wl):trO (bs.map bl) lo hi=bs.map λb=>trB (pbO (bs.map bl) lo hi) (sbO (bs.map bl) lo hi) (b.pl,b.sp):=by
 unfold trO;rw[List.map_map];rfl
theorem Zq {bs:List zV}{lo hi:Wl}{t:Rat×Rat}:t∈ths (bs.map bl) lo hi↔t∈tl bs lo hi:=by
 unfold ths tl
 rw[List.map_map]
 simp only[List.mem_append]
 show t∈bs.map (λb=>(b.pl,b.sp))\/_↔_
 constructor
 ·rintro (h | h | h)
  ·exact .inl (.inr h)
  ·exact .inl (.inl h)
  ·exact .inr h
 ·rintro ((h | h) | h)
  ·exact .inr (.inl h)
  ·exact .inl h
  ·exact .inr (.inr h)
def QC (tk:Rat) (u:Option (Int×Int)) (f:Option Rat):Prop:=(u=none/\f=none)\/∃t m,u=some t/\f=some m/\0<t.2/\qP tk t=m
theorem QN {a b:Int}:((a:Rat)<(b:Rat))↔a<b:=Rat.intCast_lt_intCast
theorem zbG {pb sb:Int}(hp:0<pb) (hs:0<sb){l r:Rat×Rat}(d1:(l.1.den:Int) ∣ pb) (d2:(l.2.den:Int) ∣ sb) (d3:(r.1.den:Int) ∣ pb) (d4:(r.2.den:Int) ∣ sb){u:Option (Int×Int)}{f:Option Rat}(h:QC (Rat.divInt sb pb) u f) :
  QC (Rat.divInt sb pb) (qk u (trB pb sb l,trB pb sb r)) (qr f (l,r)):=by
 have e1:(((trB pb sb l).1:Int):Rat)=l.1*pb:=byq d1
 have e2:(((trB pb sb l).2:Int):Rat)=l.2*sb:=byq d2
 have e3:(((trB pb sb r).1:Int):Rat)=r.1*pb:=byq d3
 have e4:(((trB pb sb r).2:Int):Rat)=r.2*sb:=byq d4
 have hp':(0:Rat)<(pb:Rat):=by exact_mod_cast hp
 have hs':(0:Rat)<(sb:Rat):=by exact_mod_cast hs
 have hlt:(trB pb sb r).2<(trB pb sb l).2↔r.2<l.2:=by
  rw[<-QN,e2,e4,Rat.mul_lt_mul_right hs']
 generalize trB pb sb l=L at *
 generalize trB pb sb r=R at *
 unfold qk qr
 by_cases c:r.2<l.2
 ·have c':=hlt.mpr c
  rw[if_pos (show (L,R).2.2<(L,R).1.2 from c'),if_pos (show (l,r).2.2<(l,r).1.2 from c)]
  have pos:0<L.2 - R.2:=by omega
  have hn:qP (Rat.divInt sb pb) (R.1 - L.1,L.2 - R.2)=mo l r:=by
   unfold qP
   rw[zcf _ (by show L.2 - R.2≠0;omega)]
   show ((R.1 - L.1:Int):Rat)*_/((L.2 - R.2:Int):Rat)=_
   rw[Rat.intCast_sub,Rat.intCast_sub,e1,e2,e3,e4,Rat.divInt_eq_div]
   exact za8 hp' hs' c
  rcases h with⟨rfl,rfl⟩ | ⟨t,m,rfl,rfl,tp,hm⟩
  ·exact .inr ⟨(R.1 - L.1,L.2 - R.2),mo l r,rfl,rfl,pos,hn⟩
  ·have tkp:(0:Rat)<Rat.divInt sb pb:=by
    rw[Rat.divInt_eq_div,Rat.lt_div_iff hp'];grind
   have cmp:(R.1 - L.1)*t.2<t.1*(L.2 - R.2)↔mo l r<m:=by
    rw[<-hn,<-hm]
    unfold qP
    rw[zcf _ (show (R.1 - L.1,L.2 - R.2).2≠0 by show L.2 - R.2≠0;omega),zcf _ (show t.2≠0 by omega)]
    rw[zb5 (by exact_mod_cast pos) (by exact_mod_cast tp) tkp]
    rw[<-QN]
    show _↔((R.1 - L.1:Int):Rat)*(t.2:Rat)<(t.1:Rat)*((L.2 - R.2:Int):Rat)
    rw[Rat.intCast_mul,Rat.intCast_mul]
   show QC _ (if(R.1 - L.1)*t.2<t.1*(L.2 - R.2)then some (R.1 - L.1,L.2 - R.2)else some t) (if mo l r<m then some (mo l r)else some m)
   by_cases c2:mo l r<m
   ·rw[if_pos (cmp.mpr c2),if_pos c2]
    exact .inr ⟨_,_,rfl,rfl,pos,hn⟩
   ·rw[if_neg (λz=>c2 (cmp.mp z)),if_neg c2]
    exact .inr ⟨_,_,rfl,rfl,tp,hm⟩
 ·rw[if_neg (show ¬(L,R).2.2<(L,R).1.2 from λz=>c (hlt.mp z)),if_neg (show ¬(l,r).2.2<(l,r).1.2 from c)]
  exact h
theorem QL {pb sb:Int}(hp:0<pb) (hs:0<sb):∀{L:List ((Rat×Rat)×(Rat×Rat))}{u:Option (Int×Int)}{f:Option Rat},(∀p∈L,((p.1.1.den:Int) ∣ pb/\(p.1.2.den:Int) ∣ sb)/\(p.2.1.den:Int) ∣ pb/\(p.2.2.den:Int) ∣ sb)->QC (Rat.divInt sb pb) u f →
  QC (Rat.divInt sb pb) ((L.map λp=>(trB pb sb p.1,trB pb sb p.2)).foldl qk u) (L.foldl qr f)
 | [],u,f,_,h=>h
 | p::L,u,f,hL,h=>by
  obtain⟨⟨a,b⟩,c,d⟩:=hL p List.mem_cons_self
  show QC _ ((L.map λp=>(trB pb sb p.1,trB pb sb p.2)).foldl qk (qk u (trB pb sb p.1,trB pb sb p.2))) (L.foldl qr (qr f p))
  exact QL hp hs (λq mq=>hL q (List.mem_cons_of_mem _ mq)) (zbG hp hs a b c d h)
theorem zbA {pb sb:Int}(hp:0<pb) (hs:0<sb){ch:List (Rat×Rat)} (hd:∀t∈ch,(t.1.den:Int) ∣ pb/\(t.2.den:Int) ∣ sb):QC (Rat.divInt sb pb) (soon (ch.map (trB pb sb))) (ju ch):=by
 unfold soon ju
 have e:(ch.map (trB pb sb)).zip (ch.map (trB pb sb)).tail=(ch.zip ch.tail).map λp=>(trB pb sb p.1,trB pb sb p.2):=by
  rw[<-List.map_tail,List.zip_map];rfl
 rw[e]
 refine QL hp hs (λp mp=>?_) (.inl ⟨rfl,rfl⟩)
 have z:=List.of_mem_zip mp
 exact⟨hd _ z.1,hd _ (List.mem_of_mem_tail z.2)⟩
theorem Jf {n:Nat}{qs:List Rat}(h:∀q∈qs,Bd n (q.den:Int)):0<Qg qs/\Bd (1+n*qs.length) (Qg qs)/\∀q∈qs,(q.den:Int) ∣ Qg qs:=by
 obtain⟨a1,a2,_,a4⟩:=Z7 (n:=n) (ks:=qs.map λq=>(q.den:Int)) (c:=1) (m:=1) (by decide) (show (1:Int).natAbs<2^1 by decide) (λk hk=>by
  obtain⟨q,hq,rfl⟩:=List.mem_map.mp hk
  exact⟨by have:=q.den_pos;omega,h q hq⟩)
 rw[List.length_map]at a2
 exact⟨a1,a2,λq hq=>a4 _ (List.mem_map.mpr ⟨q,hq,rfl⟩)⟩
theorem QG {n:Nat}{b d:Int}(hb:0<b) (hd:0<d) (h:Bd n b):Bd n (b.fdiv d):=by
 rw[Int.fdiv_eq_ediv_of_nonneg _ (by omega)]
 exact h.of_le (by have:=Int.ediv_le_self d (a:=b) (by omega);have:=Int.ediv_nonneg (a:=b) (b:=d) (by omega) (by omega);omega)
theorem zap {bs:List KQ.Bl}{lo hi:Wl}(h:bs.length<=8):(ths bs lo hi).length<=10:=by
 unfold ths
 have e:∀w:Wl,(xP w).length<=1:=λw=>by cases w <;> simp[xP]
 have:=e lo
 have:=e hi
 simp only[List.length_append,List.length_map];omega
structure Bot (bs:List zV) (lo hi:Wl):Prop where
 p0:0<pbO (bs.map bl) lo hi
 s0:0<sbO (bs.map bl) lo hi
 pz:Bd 3201 (pbO (bs.map bl) lo hi)
 sz:Bd 801 (sbO (bs.map bl) lo hi)
 dv:∀t∈tl bs lo hi,(t.1.den:Int) ∣ pbO (bs.map bl) lo hi/\(t.2.den:Int) ∣ sbO (bs.map bl) lo hi
def TZ (bs:List zV) (lo hi:Wl):Prop:=∀t∈tl bs lo hi,Sz 320 t.1/\Sz 80 t.2
theorem bot {bs:List zV}{lo hi:Wl}(h:bs.length<=8) (hz:TZ bs lo hi):Bot bs lo hi:=by
 have hl:=zap (bs:=bs.map bl) (lo:=lo) (hi:=hi) (by rw[List.length_map];exact h)
 obtain⟨a1,a2,a3⟩:=Jf (n:=320) (qs:=(ths (bs.map bl) lo hi).map (·.1)) (λq hq=>by obtain⟨t,ht,rfl⟩:=List.mem_map.mp hq;exact(hz t (Zq.mp ht)).1.2)
 obtain⟨b1,b2,b3⟩:=Jf (n:=80) (qs:=(ths (bs.map bl) lo hi).map (·.2)) (λq hq=>by obtain⟨t,ht,rfl⟩:=List.mem_map.mp hq;exact(hz t (Zq.mp ht)).2.2)
 rw[List.length_map]at a2 b2
 exact⟨a1,b1,a2.mono (by omega),b2.mono (by omega),λt ht=>⟨a3 _ (List.mem_map.mpr ⟨t,Zq.mpr ht,rfl⟩),b3 _ (List.mem_map.mpr ⟨t,Zq.mpr ht,rfl⟩)⟩⟩
theorem zde {H:Hp}{r wa:Addr}{us:List V}{v1 v2:V}{bs:List zV}{lo hi:Wl}(hr:H r=some (.tup us)) (hR:zR H us bs) (hw:H wa=some (.tup [v1,v2])) (h1:xp H v1 lo) (h2:xp H v2 hi) (hl:bs.length<=8) (hz:TZ bs lo hi):In H r wa (bs.map bl) lo hi:=by
 have B:=bot hl hz
 refine⟨⟨us,hr,zfA hR⟩,⟨v1,v2,hw,zc1 h1,zc1 h2⟩,by rw[List.length_map];exact hl,λt ht=>⟨(hz t (Zq.mp ht)).1.mono (by decide),(hz t (Zq.mp ht)).2.mono (by decide)⟩,λt ht=>?_,?_⟩
 ·rw[zaH]at ht
  obtain⟨s,hs,rfl⟩:=List.mem_map.mp ht
  have z:=hz s hs
  exact⟨(z.1.1.mul (QG B.p0 (KM.den_pos _) B.pz)).mono (by decide),(z.2.1.mul (QG B.s0 (KM.den_pos _) B.sz)).mono (by decide)⟩
 ·exact(Sz.divInt (by have:=B.p0;omega) (B.sz.mono (by decide:801<=3201)) B.pz).mono (by decide)
theorem JF {bs:List zV}{lo hi:Wl}(B:Bot bs lo hi):QC (tkO (bs.map bl) lo hi) (soon (chO (bs.map bl) lo hi)) (ju (tl bs lo hi)):=by
 rw[zaH];exact zbA B.p0 B.s0 B.dv
def jN (l r:Rat×Rat):Prop:=l.1<r.1\/(l.1=r.1/\l.2<=r.2)
structure Ord (bs:List zV) (lo hi:Wl):Prop where
 pw:(tl bs lo hi).Pairwise jN
 lt:∀x y x' y',lo=some (x,y)->hi=some (x',y')->x<x'
theorem Ord.lo {bs:List zV}{lo hi:Wl}(O:Ord bs lo hi){x y:Rat}(e:lo=some (x,y)){b:zV}(m:b∈bs):jN (x,y) (b.pl,b.sp):=by
 subst e
 have:=O.pw
 unfold tl at this
 rw[List.pairwise_append,List.pairwise_append]at this
 exact this.1.2.2 _ (by simp[xP]) _ (List.mem_map.mpr ⟨b,m,rfl⟩)
theorem Ord.hi {bs:List zV}{lo hi:Wl}(O:Ord bs lo hi){x y:Rat}(e:hi=some (x,y)){b:zV}(m:b∈bs):jN (b.pl,b.sp) (x,y):=by
 subst e
 have:=O.pw
 unfold tl at this
 rw[List.pairwise_append]at this
 exact this.2.2 _ (List.mem_append_right _ (List.mem_map.mpr ⟨b,m,rfl⟩)) _ (by simp[xP])
def xO (m:Rat) (b:zV):zV:=⟨b.pl+b.sp*m,b.sp,b.wt⟩
def zY (m:Rat) (l:Wl):Wl:=match l with | none=>none | some (x,y)=>some (x+y*m,y)
def ZH (m:Rat) (bs:List zV):List Rat:=bs.map λb=>b.pl+b.sp*m
theorem Va {pb sb:Int}{t:Int×Int}{x y m:Rat}(hp:0<pb) (ht:0<t.2) (d1:(x.den:Int) ∣ pb) (d2:(y.den:Int) ∣ sb) (hm:qP (Rat.divInt sb pb) t=m):((xG (trB pb sb (x,y)) t:Int):Rat)=(x+y*m)*((pb:Rat)*(t.2:Rat)):=by
 have e1:(((trB pb sb (x,y)).1:Int):Rat)=x*pb:=byq d1
 have e2:(((trB pb sb (x,y)).2:Int):Rat)=y*sb:=byq d2
 have hp':(pb:Rat)≠0:=by
  have:(0:Rat)<(pb:Rat):=by exact_mod_cast hp
  grind
 have ht':(t.2:Rat)≠0:=by
  have:(0:Rat)<(t.2:Rat):=by exact_mod_cast ht
  grind
 unfold xG
 rw[Rat.intCast_add,Rat.intCast_mul,Rat.intCast_mul,e1,e2,<-hm]
 unfold qP
 rw[zcf _ (by omega),Rat.divInt_eq_div]
 grind
theorem JK {pb sb:Int}{t:Int×Int}{x y x' y' m:Rat}(hp:0<pb) (ht:0<t.2) (d1:(x.den:Int) ∣ pb) (d2:(y.den:Int) ∣ sb) (d3:(x'.den:Int) ∣ pb) (d4:(y'.den:Int) ∣ sb) (hm:qP (Rat.divInt sb pb) t=m):xG (trB pb sb (x,y)) t=xG (trB pb sb (x',y')) t↔x+y*m=x'+y'*m:=by
 have k1:=Va hp ht d1 d2 hm
 have k2:=Va hp ht d3 d4 hm
 have hp':(0:Rat)<(pb:Rat):=by exact_mod_cast hp
 have ht':(0:Rat)<(t.2:Rat):=by exact_mod_cast ht
 have hpt:(pb:Rat)*(t.2:Rat)≠0:=by
  have:=Rat.mul_pos hp' ht'
  grind
 constructor
 ·intro h
  rw[h]at k1
  have:(x+y*m)*((pb:Rat)*(t.2:Rat))=(x'+y'*m)*((pb:Rat)*(t.2:Rat)):=by rw[<-k1,<-k2]
  grind
 ·intro h
  rw[h,<-k2]at k1
  exact_mod_cast k1
theorem zds {pb sb:Int}{x y x' y':Rat}(hs:0<sb) (d2:(y.den:Int) ∣ sb) (d4:(y'.den:Int) ∣ sb):(trB pb sb (x,y)).2=(trB pb sb (x',y')).2↔y=y':=by
 have e1:(((trB pb sb (x,y)).2:Int):Rat)=y*sb:=byq d2
 have e2:(((trB pb sb (x',y')).2:Int):Rat)=y'*sb:=byq d4
 have hs':(sb:Rat)≠0:=by
  have:(0:Rat)<(sb:Rat):=by exact_mod_cast hs
  grind
 constructor
 ·intro h
  rw[h,e2]at e1
  grind
 ·intro h
  have:(((trB pb sb (x,y)).2:Int):Rat)=(((trB pb sb (x',y')).2:Int):Rat):=by rw[e1,e2,h]
  exact_mod_cast this
end KT
end
section
set_option maxHeartbeats 8000000
set_option Elab.async false
set_option linter.all false
set_option maxRecDepth 100000
namespace KT
open PySem L2 KM KK KQ
def atW (l:Wl) (k:Rat):Bool:=match l with
 | none=>false
 | some (x,_)=>decide (x=k)
def qM (lo hi:Wl) (k:Rat):Str:=if atW lo k=true then "low" else if atW hi k=true then "high" else ""
def vG (cs:List zV) (lo hi:Wl) (a b:Nat):Bool:=match cs[a]?,cs[b]? with
 | some ca,some cb=>if atW lo ca.pl=true then(match lo with | some (_,y)=>decide (ca.sp<y) | none=>false)else if atW hi ca.pl=true then(match hi with | some (_,y)=>decide (y<cb.sp) | none=>false)else false
 | _,_=>false
def wsp (l:Wl) (f:Rat->Bool):Bool:=match l with
 | some (_,y)=>f y
 | none=>false
theorem Qd {cs:List zV}{lo hi:Wl}{a b:Nat}{ca cb:zV}(ea:cs[a]? = some ca) (eb:cs[b]? = some cb):vG cs lo hi a b=if atW lo ca.pl=true then wsp lo (λy=>decide (ca.sp<y))else if atW hi ca.pl=true then wsp hi (λy=>decide (y<cb.sp))else false:=by
 unfold vG
 rw[ea,eb];rfl
theorem Qs {lo hi:Wl}{k:Rat}(h:atW lo k=false):qM lo hi k=(if atW hi k=true then("high":Str)else("":Str)):=by
 unfold qM
 rw[if_neg (by rw[h];simp)]
theorem JC {lo hi:Wl}{k:Rat}(h:atW lo k=true):qM lo hi k=("low":Str):=by
 unfold qM
 rw[if_pos h]
def fL (cs:List zV) (lo hi:Wl) (a b:Nat):Option (Nat×Nat×Str):=if a<b\/vG cs lo hi a b=true then some (a,b,qM lo hi (((cs.map zV.pl)[a]?).getD 0))else none
def grL (cs:List zV) (lo hi:Wl):List (Nat×Nat×Str):=rlG (cs.map zV.pl) (fL cs lo hi) cs.length
theorem VN {α:Type} [DecidableEq α] {ss:List α}:∀{i:Nat},i<ss.length->∀j,stG ss i<=j->j<=i->ss[j]? = ss[i]?
 | 0,_,j,_,h2=>by rw[show j=0 by omega]
 | i+1,hi,j,h1,h2=>by
  by_cases hb:brk ss i=true
  ·have e:stG ss (i+1)=i+1:=if_pos hb
   rw[show j=i+1 by omega]
  ·have e:stG ss (i+1)=stG ss i:=if_neg hb
   rw[e]at h1
   have hn:ss[i+1]? = ss[i]?:=by
    have:brk ss i=false:=by simpa using hb
    unfold brk at this
    rw[Bool.or_eq_false_iff]at this
    have:=of_decide_eq_false this.2
    exact Classical.byContradiction λz=>this z
   rcases Nat.lt_or_ge i j with h | h
   ·rw[show j=i+1 by omega]
   ·rw[VN (by omega) j h1 h,hn]
theorem Vb {α β:Type} [DecidableEq α] [DecidableEq β] {ss:List α}{ts:List β}:∀{n:Nat},(∀i,i<n->brk ss i=brk ts i)->stG ss n=stG ts n
 | 0,_=>rfl
 | n+1,h=>by
  have ih:=Vb (n:=n) λi hi=>h i (by omega)
  show (if brk ss n=true then n+1 else stG ss n)=(if brk ts n=true then n+1 else stG ts n)
  rw[h n (by omega),ih]
theorem QX {α β γ:Type} [DecidableEq α] [DecidableEq β] {ss:List α}{ts:List β}{f g:Nat->Nat->Option γ}:∀{n:Nat},(∀i,i<n->brk ss i=brk ts i)->(∀i,i<n->brk ts i=true->f (stG ts i) i=g (stG ts i) i)->rlG ss f n=rlG ts g n
 | 0,_,_=>rfl
 | n+1,h,k=>by
  have ih:=QX (n:=n) (f:=f) (g:=g) (λi hi=>h i (by omega)) (λi hi=>k i (by omega))
  have es:=Vb (ss:=ss) (ts:=ts) (n:=n) λi hi=>h i (by omega)
  show (if brk ss n=true then rlG ss f n++(f (stG ss n) n).toList else rlG ss f n)=(if brk ts n=true then rlG ts g n++(g (stG ts n) n).toList else rlG ts g n)
  rw[h n (by omega),ih,es]
  by_cases c:brk ts n=true
  ·rw[if_pos c,if_pos c,k n (by omega) c]
  ·rw[if_neg c,if_neg c]
theorem Vg {bs:List zV}{lo hi:Wl}{l:Wl}(B:Bot bs lo hi){t:Int×Int}{m:Rat}(ht:0<t.2) (hm:qP (tkO (bs.map bl) lo hi) t=m) (hl:∀u,l=some u->u∈tl bs lo hi){b:zV}(mb:b∈bs) :
  atS (l.map (trB (pbO (bs.map bl) lo hi) (sbO (bs.map bl) lo hi))) t (xG (trB (pbO (bs.map bl) lo hi) (sbO (bs.map bl) lo hi) (b.pl,b.sp)) t)=atW (zY m l) (b.pl+b.sp*m):=by
 cases l with
 | none=>rfl
 | some u =>
  obtain⟨x,y⟩:=u
  have d:=B.dv _ (hl _ rfl)
  have d':=B.dv (b.pl,b.sp) (by unfold tl;exact List.mem_append_left _ (List.mem_append_right _ (List.mem_map.mpr ⟨b,mb,rfl⟩)))
  show decide (_=xG (trB _ _ (x,y)) t)=decide (x+y*m=b.pl+b.sp*m)
  rw[Bool.eq_iff_iff,decide_eq_true_eq,decide_eq_true_eq,JK B.p0 ht d'.1 d'.2 d.1 d.2 hm]
  exact⟨λh=>h.symm,λh=>h.symm⟩
theorem zaK {trs:List (Int×Int)}{a:Nat}{u t:Int×Int}(e:trs[a]? = some t):(0<cwN trs (some u) a a)↔t.2≠u.2:=by
 show (0<(((trs.drop a).take (a+1 - a)).filter λt=>decide (t.2≠u.2)).length)↔_
 obtain⟨ha,rfl⟩:=List.getElem?_eq_some_iff.mp e
 rw[show a+1 - a=1 by omega,List.drop_eq_getElem_cons ha,List.take_succ_cons,List.take_zero]
 by_cases c:trs[a].2≠u.2
 ·rw[List.filter_cons_of_pos (by simpa using c)];simp[c]
 ·rw[List.filter_cons_of_neg (by simpa using c)];simp at c;simp[c]
theorem zdc {bs:List zV}{lo hi:Wl}(B:Bot bs lo hi) (O:Ord bs lo hi){t:Int×Int}{m:Rat}(ht:0<t.2) (hm:qP (tkO (bs.map bl) lo hi) t=m) (pm:0<m) :
  grP (trO (bs.map bl) lo hi) (lo.map (trB (pbO (bs.map bl) lo hi) (sbO (bs.map bl) lo hi))) (hi.map (trB (pbO (bs.map bl) lo hi) (sbO (bs.map bl) lo hi))) t=grL (bs.map (xO m)) (zY m lo) (zY m hi):=by
 have ek:(bs.map (xO m)).map zV.pl=ZH m bs:=by rw[List.map_map];rfl
 have esp:(trO (bs.map bl) lo hi).map (λl=>xG l t)=bs.map λb=>xG (trB (pbO (bs.map bl) lo hi) (sbO (bs.map bl) lo hi) (b.pl,b.sp)) t:=by rw[VQ,List.map_map];rfl
 have dB:∀b∈bs,(b.pl.den:Int) ∣ pbO (bs.map bl) lo hi/\(b.sp.den:Int) ∣ sbO (bs.map bl) lo hi:=λb mb=>B.dv (b.pl,b.sp) (by unfold tl;exact List.mem_append_left _ (List.mem_append_right _ (List.mem_map.mpr ⟨b,mb,rfl⟩)))
 have wl:∀u,lo=some u->u∈tl bs lo hi:=λu e=>by unfold tl;rw[e];simp[xP]
 have wh:∀u,hi=some u->u∈tl bs lo hi:=λu e=>by unfold tl;rw[e];simp[xP]
 unfold grP grL
 rw[ek,esp,show (trO (bs.map bl) lo hi).length=bs.length by rw[VQ,List.length_map],List.length_map]
 have hbrk:∀i,i<bs.length->brk (bs.map λb=>xG (trB (pbO (bs.map bl) lo hi) (sbO (bs.map bl) lo hi) (b.pl,b.sp)) t) i=brk (ZH m bs) i:=λi hil=>by
  unfold brk ZH
  rw[List.length_map,List.length_map,List.getElem?_map,List.getElem?_map,List.getElem?_map,List.getElem?_map]
  by_cases h1:i+1=bs.length
  ·rw[decide_eq_true h1];rfl
  ·obtain⟨b,eb⟩:∃b,bs[i]? = some b:=⟨_,List.getElem?_eq_getElem hil⟩
   obtain⟨c,ec⟩:∃b,bs[i+1]? = some b:=⟨_,List.getElem?_eq_getElem (by omega)⟩
   have db:=dB b (List.mem_of_getElem? eb)
   have dc:=dB c (List.mem_of_getElem? ec)
   rw[eb,ec,decide_eq_false h1,Bool.false_or,Bool.false_or,Bool.eq_iff_iff,decide_eq_true_eq,decide_eq_true_eq]
   show some _≠some _↔some _≠some _
   rw[ne_eq,ne_eq,Option.some.injEq,Option.some.injEq,JK B.p0 ht dc.1 dc.2 db.1 db.2 hm]
 refine QX hbrk λi hil _=>?_
 have hst:=vo (ZH m bs) i
 obtain⟨b,eb⟩:∃b,bs[i]? = some b:=⟨_,List.getElem?_eq_getElem hil⟩
 obtain⟨a,ea⟩:∃b,bs[stG (ZH m bs) i]? = some b:=⟨_,List.getElem?_eq_getElem (by omega)⟩
 have hab:a.pl+a.sp*m=b.pl+b.sp*m:=by
  have:=VN (ss:=ZH m bs) (i:=i) (by unfold ZH;rw[List.length_map];exact hil) (stG (ZH m bs) i) (Nat.le_refl _) hst
  unfold ZH at this
  rw[List.getElem?_map,List.getElem?_map]at this
  unfold ZH at ea
  rw[ea,eb]at this
  simpa using this
 have mb:=List.mem_of_getElem? eb
 have ma:=List.mem_of_getElem? ea
 generalize stG (ZH m bs) i=j at *
 have eside:xM (lo.map (trB (pbO (bs.map bl) lo hi) (sbO (bs.map bl) lo hi))) (hi.map (trB (pbO (bs.map bl) lo hi) (sbO (bs.map bl) lo hi))) t (xG (trB (pbO (bs.map bl) lo hi) (sbO (bs.map bl) lo hi) (b.pl,b.sp)) t)=qM (zY m lo) (zY m hi) (a.pl+a.sp*m):=by
  unfold xM qM
  rw[Vg B ht hm wl mb,Vg B ht hm wh mb,hab]
 have e1:((List.map (λl=>xG l t) (trO (bs.map bl) lo hi))[i]?).getD 0=xG (trB (pbO (bs.map bl) lo hi) (sbO (bs.map bl) lo hi) (b.pl,b.sp)) t:=by
  rw[esp,List.getElem?_map,eb];rfl
 have e2:(((bs.map (xO m)).map zV.pl)[j]?).getD 0=a.pl+a.sp*m:=by
  rw[ek];unfold ZH;rw[List.getElem?_map,ea];rfl
 unfold fP fL
 dsimp only
 rw[e1,e2,eside]
 have hiff:(j<i\/0<cwN (trO (bs.map bl) lo hi) (xq (qM (zY m lo) (zY m hi) (a.pl+a.sp*m)) (lo.map (trB (pbO (bs.map bl) lo hi) (sbO (bs.map bl) lo hi))) (hi.map (trB (pbO (bs.map bl) lo hi) (sbO (bs.map bl) lo hi)))) j i)↔(j<i\/vG (bs.map (xO m)) (zY m lo) (zY m hi) j i=true):=by
  rcases Nat.lt_or_ge j i with h | h
  ·exact⟨λ_=>.inl h,λ_=>.inl h⟩
  ·have hji:j=i:=by omega
   subst hji
   obtain rfl:a=b:=by rw[ea]at eb;injection eb with eb
   have etr:(trO (bs.map bl) lo hi)[j]? = some (trB (pbO (bs.map bl) lo hi) (sbO (bs.map bl) lo hi) (a.pl,a.sp)):=by rw[VQ,List.getElem?_map,ea];rfl
   have eg:vG (bs.map (xO m)) (zY m lo) (zY m hi) j j=(if atW (zY m lo) (a.pl+a.sp*m)=true then(match zY m lo with | some (_,y)=>decide (a.sp<y) | none=>false)else if atW (zY m hi) (a.pl+a.sp*m)=true then(match zY m hi with | some (_,y)=>decide (y<a.sp) | none=>false)else false):=by
    unfold vG
    rw[List.getElem?_map,ea];rfl
   rw[eg]
   refine or_congr Iff.rfl ?_
   unfold qM
   by_cases c1:atW (zY m lo) (a.pl+a.sp*m)=true
   ·rw[if_pos c1,if_pos c1]
    show 0<cwN _ (xq "low" _ _) j j↔_
    rw[show xq "low" (lo.map (trB (pbO (bs.map bl) lo hi) (sbO (bs.map bl) lo hi))) (hi.map (trB (pbO (bs.map bl) lo hi) (sbO (bs.map bl) lo hi)))=lo.map (trB (pbO (bs.map bl) lo hi) (sbO (bs.map bl) lo hi))from by unfold xq;rw[if_neg (by decide),if_pos rfl]]
    cases lo with
    | none=>cases c1
    | some u =>
     obtain⟨x,y⟩:=u
     have hk:x+y*m=a.pl+a.sp*m:=of_decide_eq_true c1
     have d:=B.dv _ (wl _ rfl)
     show 0<cwN _ (some (trB _ _ (x,y))) j j↔decide (a.sp<y)=true
     rw[zaK etr,decide_eq_true_eq,ne_eq,zds B.s0 (dB a ma).2 d.2]
     have lx:=O.lo rfl ma
     constructor
     ·intro hne
      rcases Classical.em (a.sp<y)with z | z
      ·exact z
      ·have hgt:y<a.sp:=by grind
       have:=Rat.mul_lt_mul_of_pos_right hgt pm
       rcases lx with l | ⟨l,_⟩
       ·have l:x<a.pl:=l
        grind
       ·have l:x=a.pl:=l
        grind
     ·intro h;grind
   ·rw[if_neg c1,if_neg c1]
    by_cases c2:atW (zY m hi) (a.pl+a.sp*m)=true
    ·rw[if_pos c2,if_pos c2]
     rw[show xq "high" (lo.map (trB (pbO (bs.map bl) lo hi) (sbO (bs.map bl) lo hi))) (hi.map (trB (pbO (bs.map bl) lo hi) (sbO (bs.map bl) lo hi)))=hi.map (trB (pbO (bs.map bl) lo hi) (sbO (bs.map bl) lo hi))from by unfold xq;rw[if_neg (by decide),if_neg (by decide)]]
     cases hi with
     | none=>cases c2
     | some u =>
      obtain⟨x,y⟩:=u
      have hk:x+y*m=a.pl+a.sp*m:=of_decide_eq_true c2
      have d:=B.dv _ (wh _ rfl)
      show 0<cwN _ (some (trB _ _ (x,y))) j j↔decide (y<a.sp)=true
      rw[zaK etr,decide_eq_true_eq,ne_eq,zds B.s0 (dB a ma).2 d.2]
      have lx:=O.hi rfl ma
      constructor
      ·intro hne
       rcases Classical.em (y<a.sp)with z | z
       ·exact z
       ·have hgt:a.sp<y:=by grind
        have:=Rat.mul_lt_mul_of_pos_right hgt pm
        rcases lx with l | ⟨l,_⟩
        ·have l:a.pl<x:=l
         grind
        ·have l:a.pl=x:=l
         grind
      ·intro h;grind
    ·rw[if_neg c2,if_neg c2]
     show 0<cwN _ (xq "" _ _) j j↔_
     rw[show xq "" (lo.map (trB (pbO (bs.map bl) lo hi) (sbO (bs.map bl) lo hi))) (hi.map (trB (pbO (bs.map bl) lo hi) (sbO (bs.map bl) lo hi)))=none from by unfold xq;rw[if_pos rfl]]
     show 0<0↔false=true
     simp
 by_cases c:j<i\/vG (bs.map (xO m)) (zY m lo) (zY m hi) j i=true
 ·rw[if_pos (hiff.mpr c),if_pos c]
 ·rw[if_neg (λz=>c (hiff.mp z)),if_neg c]
end KT
end
section
set_option maxHeartbeats 8000000
set_option Elab.async false
set_option linter.all false
set_option maxRecDepth 100000
namespace L2
open KM in
theorem Sz.div {m n:Nat}{x y:Rat}(h:Sz m x) (k:Sz n y) (y0:y≠0):Sz (m+n) (x/y):=by
 rw[<-Qi]
 exact .divInt (Int.mul_ne_zero (xH x) (λz=>y0 (Rat.num_eq_zero.mp z))) (h.1.mul k.2) (h.2.mul k.1)
end L2
namespace KQ
open PySem L2 KM KK
theorem v8.same {H H':Hp}{v:V}{o:Option Rat}(h:v8 H v o) (s:zh H H'):v8 H' v o:=by
 cases o with
 | none=>exact h
 | some q=>obtain⟨a,e,h⟩:=h;exact⟨a,e,s _ _ h⟩
end KQ
namespace KT
open PySem L2 KM KK
open KQ (vT qR v8 TxQ xP qo qF stG rlG brk vF ZR)
theorem QD {α:Type}(a:α) (r:List α):atI (a::r) 0=some a:=qf (xs:=a::r) (j:=0) rfl
theorem QE {α:Type}(a b:α) (r:List α):atI (a::b::r) 1=some b:=qf (xs:=a::b::r) (j:=1) rfl
abbrev OT:=Option (Rat×Rat)
def jj (f:Option Rat) (p:OT×OT):Option Rat:=match p.1,p.2 with
 | some l,some r=>qr f (l,r)
 | _,_=>f
def fO (f:Option Rat) (N:List OT):Option Rat:=(N.zip N.tail).foldl jj f
theorem zbZ (f:Option Rat):∀N:List OT,fO f (none::N)=fO f N
 | []=>rfl
 | _::_=>rfl
theorem Qb:∀(N:List OT) (f:Option Rat),fO f (N++[none])=fO f N
 | [],_=>rfl
 | [a],f=>by cases a <;> rfl
 | a::b::r,f=>by
  show fO (jj f (a,b)) (b::r++[none])=fO (jj f (a,b)) (b::r)
  exact Qb (b::r) _
theorem jI:∀(L:List (Rat×Rat)) (f:Option Rat),fO f (L.map some)=(L.zip L.tail).foldl qr f
 | [],_=>rfl
 | [_],_=>rfl
 | a::b::r,f=>by
  show fO (qr f (a,b)) ((b::r).map some)=((b::r).zip r).foldl qr (qr f (a,b))
  exact jI (b::r) _
def lnO (bs:List zV) (lo hi:Wl):List OT:=lo::(bs.map λb=>some (b.pl,b.sp))++[hi]
theorem zcc (bs:List zV) (lo hi:Wl):fO none (lnO bs lo hi)=ju (tl bs lo hi):=by
 have e:(bs.map λb=>some (b.pl,b.sp))=(bs.map λb=>(b.pl,b.sp)).map some:=by rw[List.map_map];rfl
 unfold lnO tl ju
 rw[e]
 generalize bs.map (λb=>(b.pl,b.sp))=M
 cases lo with
 | none =>
  show fO none (none::(M.map some++[hi]))=_
  rw[zbZ]
  cases hi with
  | none=>rw[Qb,jI];simp[xP]
  | some h =>
   have:M.map some++[some h]=(M++[h]).map some:=by simp
   rw[this,jI];simp[xP]
 | some l =>
  cases hi with
  | none =>
   rw[Qb]
   have:some l::M.map some=(l::M).map some:=rfl
   rw[this,jI];simp[xP]
  | some h =>
   have:some l::M.map some++[some h]=(l::(M++[h])).map some:=by simp
   rw[this,jI];simp[xP]
def OsI (H:Hp) (vs:List V) (N:List OT):Prop:=vs.length=N.length/\∀(i:Nat) (v:V),vs[i]? = some v->∃o,N[i]? = some o/\qR H v o
theorem OsI.keeps {H H':Hp}{vs:List V}{N:List OT}(h:OsI H vs N) (t:zT H H'):OsI H' vs N:=⟨h.1,λi v e=>by obtain⟨o,e1,e2⟩:=h.2 i v e;exact⟨o,e1,e2.keeps t⟩⟩
theorem OsI.nil {H:Hp}:OsI H [] []:=⟨rfl,λi v e=>by simp at e⟩
theorem OsI.cons {H:Hp}{v:V}{o:OT}{vs:List V}{N:List OT}(h:qR H v o) (r:OsI H vs N):OsI H (v::vs) (o::N):=by
 refine⟨by simp[r.1],λi u e=>?_⟩
 cases i with
 | zero=>simp at e;subst e;exact⟨o,rfl,h⟩
 | succ i=>obtain⟨x,e1,e2⟩:=r.2 i u (by simpa using e);exact⟨x,by simpa using e1,e2⟩
theorem OsI.append {H:Hp}{vs vs':List V}{N N':List OT}(h:OsI H vs N) (h':OsI H vs' N'):OsI H (vs++vs') (N++N'):=by
 refine⟨by simp[h.1,h'.1],λi v e=>?_⟩
 by_cases hi:i<vs.length
 ·rw[List.getElem?_append_left hi]at e
  rw[List.getElem?_append_left (by rw[<-h.1];exact hi)]
  exact h.2 i v e
 ·rw[List.getElem?_append_right (by omega)]at e
  rw[List.getElem?_append_right (by rw[<-h.1];omega),<-h.1]
  exact h'.2 _ v e
theorem QF {H:Hp}:∀{us:List V}{bs:List zV},zR H us bs->OsI H us (bs.map λb=>some (b.pl,b.sp))
 | _,_,.nil=>.nil
 | _,_,.cons h1 h2 h3 t=>.cons ⟨_,rfl,_,_,_,h1,h2,h3⟩ (QF t)
section
variable {P:Program}{w:World}{K:PySem.W.Frag}{mg:Str->Option Value}{base:Heap}
theorem zbt:zG ["a","b"] ["a","b"] (zg qZ):=⟨rfl,rfl,rfl,by decide +kernel,rfl,by decide +kernel,by decide +kernel⟩
theorem za9 (D:Df K mg "_law_part" qZ ["a","b"] []) (cL:Cal P w K mg base "_law_low" 1 ["top","bottom"] [] vj):Cal P w K mg base "_law_part" 2 ["a","b"] [] (vK (λx y=>Sz2 x y/\y≠0) (· / ·)):=by
 refine D.cal (k:=1) zbt (λvs H Q E h=>by obtain⟨_,_,_,_,rfl,_⟩:=h;rfl) (λf cdv A outer s H vs Q E hr h=>?_)
 obtain⟨p,q,x,y,rfl,hp,hq,⟨⟨hx,hy⟩,hy0⟩,k⟩:=h
 have bx:=Bd4 hx
 have b_y:=Bd4 hy
 refine⟨_,(zi (zM (zP cL hr (za (zA zO (zr zk (pv 0) zd (λ_ _=>rfl)) (zr zk (pv 1) zd (λ_ _=>rfl))) (za (zA zO (zr zk (pv 0) zd (λ_ _=>rfl)) (zr zk (pv 1) zd (λ_ _=>rfl))) ze))))),?_⟩
 refine⟨_,rfl,p,_,_,_,rfl,rfl,.of hp,at0 ..,_,rfl,q,_,_,_,rfl,rfl,.of hq,at1 ..,_,_,rfl,rfl,⟨bx.1,b_y.2⟩,?_⟩
 refine⟨_,rfl,p,_,_,_,rfl,rfl,.of hp,at1 ..,_,rfl,q,_,_,_,rfl,rfl,.of hq,at0 ..,_,_,rfl,rfl,⟨bx.2,b_y.1⟩,?_⟩
 refine⟨_,_,rfl,Int.mul_ne_zero (KM.xH x) (λz=>hy0 (Rat.num_eq_zero.mp z)),(hx.2.mul hy.1).mono (by decide),λr H' e h=>k r H' e ?_⟩
 show zF H' r (x/y)
 rw[<-KM.Qi];exact h
def zfM:Sp:=λvs H Q _=>∃a b l r,vs=[.ref a,.ref b]/\vT H a l.1 l.2/\vT H b r.1 r.2/\Sz 320 l.1/\Sz 320 l.2/\Sz 320 r.1/\Sz 320 r.2/\∀L us H',zh H H'->H' L=some (.lst us)->((r.2<l.2/\∃rm,us=[.ref rm]/\zF H' rm (mo l r))\/(¬r.2<l.2/\us=[]))->Q (.ref L) H'
theorem zfC:zG ["one","other"] ["one","other"] (zg xZ):=⟨rfl,rfl,rfl,by decide +kernel,rfl,by decide +kernel,by decide +kernel⟩
theorem ze1 (D:Df K mg "_law_closing" xZ ["one","other"] []) (cBl:Cal P w K mg base "_law_below" 1 ["a","b"] [] zcS) (cO:Cal P w K mg base "_law_off" 2 ["a","b"] [] (vK Sz2 (· - ·))) (cPt:Cal P w K mg base "_law_part" 2 ["a","b"] [] (vK (λx y=>Sz2 x y/\y≠0) (· / ·))):Cal P w K mg base "_law_closing" 3 ["one","other"] [] zfM:=by
 refine D.cal (k:=2) zfC (λvs H Q E h=>by obtain⟨_,_,_,_,rfl,_⟩:=h;rfl) (λf cdv A outer s H vs Q E hr h=>?_)
 obtain⟨a,b,l,r,rfl,⟨p1,q1,r1,ha,hp1,hq1⟩,⟨p2,q2,r2,hb,hp2,hq2⟩,z1,z2,z3,z4,k⟩:=h
 have hr1:xi 1 _:=hr.mono (by decide)
 have zz:∀{x y:Rat},Sz 320 x->Sz 320 y->Sz2 x y:=λh h'=>⟨h.mono (by decide),h'.mono (by decide)⟩
 refine⟨_,(zj (xk (Qm (qK (zP cBl hr1 (za (zr zk (pv 1) zd (λ_ _=>rfl)) (za (zr zk (pv 0) zd (λ_ _=>rfl)) ze))) λ_=>rfl)) (zi (zM (xB ze))) zS)
  (zi (zM (xB (za (zP cPt hr (za (zP cO hr (za (zr zk (pv 1) zd (λ_ _=>rfl)) (za (zr zk (pv 0) zd (λ_ _=>rfl)) ze))) (za (zP cO hr (za (zr zk (pv 0) zd (λ_ _=>rfl)) (za (zr zk (pv 1) zd (λ_ _=>rfl)) ze))) ze))) ze))))),?_⟩
 refine⟨_,rfl,b,_,_,_,rfl,rfl,.of hb,QE ..,_,rfl,a,_,_,_,rfl,rfl,.of ha,QE ..,q2,q1,_,_,rfl,hq2,hq1,zz z4 z2,_,rfl,?_⟩
 by_cases c:r.2<l.2
 ·rw[decide_eq_true c]
  refine xA ?_
  refine⟨_,rfl,b,_,_,_,rfl,rfl,.of hb,QD ..,_,rfl,a,_,_,_,rfl,rfl,.of ha,QD ..,p2,p1,_,_,rfl,hp2,hp1,zz z3 z1,λd1 H1 e1 hd1=>?_⟩
  refine⟨_,rfl,a,_,_,_,rfl,rfl,.of (e1 _ _ ha),QE ..,_,rfl,b,_,_,_,rfl,rfl,.of (e1 _ _ hb),QE ..,q1,q2,_,_,rfl,e1 _ _ hq1,e1 _ _ hq2,zz z2 z4,λd2 H2 e2 hd2=>?_⟩
  refine⟨d1,d2,_,_,rfl,e2 _ _ hd1,hd2,⟨⟨(Sz.sub z3 z1).mono (by decide),(Sz.sub z2 z4).mono (by decide)⟩,by grind⟩,λrm H3 e3 hrm=>⟨by show 1<=sizeLine;decide,λL hL=>?_⟩⟩
  exact k L _ _ (e1.trans (e2.trans (e3.trans (zh.upd hL)))) zf (.inl ⟨c,rm,rfl,zh.upd hL _ _ hrm⟩)
 ·rw[decide_eq_false c]
  exact qd ⟨by show 0<=sizeLine;exact Nat.zero_le _,λL hL=>k L _ _ (zh.upd hL) zf (.inr ⟨c,rfl⟩)⟩
def zf2:Sp:=λvs H Q _=>∃r wl us v1 v2 bs lo hi,vs=[.ref r,.ref wl]/\H r=some (.tup us)/\zR H us bs/\H wl=some (.tup [v1,v2])/\xp H v1 lo/\xp H v2 hi/\bs.length<=8/\TZ bs lo hi/\∀v H',zh H H'->v8 H' v (ju (tl bs lo hi))->(∀q,ju (tl bs lo hi)=some q->Sz 1400 q)->Q v H'
theorem Xl:zG ["row","walls","found","line","one","other","moment"] ["row","walls"] (zg x6):=⟨rfl,rfl,rfl,by decide +kernel,rfl,by decide +kernel,by decide +kernel⟩
theorem zeU {l r:Rat×Rat}(z1:Sz 320 l.1) (z2:Sz 320 l.2) (z3:Sz 320 r.1) (z4:Sz 320 r.2) (h:r.2<l.2):Sz 1400 (mo l r):=((Sz.sub z3 z1).div (Sz.sub z2 z4) (by grind)).mono (by decide)
theorem zfl (D:Df K mg "_law_soonest" x6 ["row","walls"] []) (T:TxQ K mg) (cBl:Cal P w K mg base "_law_below" 1 ["a","b"] [] zcS) (cCl:Cal P w K mg base "_law_closing" 3 ["one","other"] [] zfM):Cal P w K mg base "_law_soonest" 4 ["row","walls"] [] zf2:=by
 refine D.calB (k:=3) Xl (λvs H Q E h=>by obtain⟨_,_,_,_,_,_,_,_,rfl,_⟩:=h;rfl) (λf cdv A outer s H vs Q E hr h=>?_)
 obtain⟨r,wl,us,v1,v2,bs,lo,hi,rfl,hrr,hR,hwl,hv1,hv2,h8,hz,k⟩:=h
 have hr1:xi 1 _:=hr.mono (by decide)
 have hul:=hR.length
 refine⟨_,(zD (Bx.mk (zL (i:=2) Xl.nd rfl (Or.inl rfl) zX))
  (zD (Bx.mk (zL (i:=3) Xl.nd rfl (Or.inl rfl) (zA Xe (zA Xe (xB (za (zr zk (pv 1) zd (λ_ _=>rfl)) ze)) (qx jF (by rfl) T.nList PyProof.Rows.boot_list (za (pv 0) ze))) (xB (za (zr zk (pv 1) zd (λ_ _=>rfl)) ze)))))
  (zD (Bx.mk (vI PassesOwn.never rfl (Jt (by rfl) T.nZip (za (pv 3) (za (vi jg (pv 3) (xT zd) Ql) ze))) (vH rfl (zQ (zK (i:=4) Xl.nd rfl (Or.inl rfl)) (zQ (zK (i:=5) Xl.nd rfl (Or.inl rfl)) xJ))) (zi (xk (vX (zI qI (pv 4) zX (zJ _)) (vf (zI qI (pv 5) zX (zJ _)))).pt (zi (vI PassesOwn.never rfl (xS (zP cCl hr (za (pv 4) (za (pv 5) ze)))) (zK (i:=6) Xl.nd rfl (Or.inl rfl)) (zi (xk ((jq (zI vn (pv 2) zX (zJ _)) (jd (qK (zP cBl hr1 (za (pv 6) (za (pv 2) ze))) λ_=>rfl)))).pt (zi (zL (i:=2) Xl.nd rfl (Or.inl rfl) (pv 6))) zS)))) zS))))
  (Bx.mk (zi (zM (pv 2))))))),?_⟩
 dsimp only[zN]
 refine⟨_,rfl,wl,_,_,_,rfl,rfl,.of hwl,rfl,by show 1<=sizeLine;decide,λl1 hl1=>?_⟩
 have s1:=zh.upd (o:=.lst [v1]) hl1
 have hl1':upd H l1 (.lst [v1]) l1=some (.lst [v1]):=zf
 generalize upd H l1 (.lst [v1])=G1 at s1 hl1'
 refine⟨_,rfl,r,us,rfl,.inr (.of (s1 _ _ hrr)),λl2 hl2=>?_⟩
 have s2:=zh.upd (o:=.lst us) hl2
 have hl2':upd G1 l2 (.lst us) l2=some (.lst us):=zf
 generalize upd G1 l2 (.lst us)=G2 at s2 hl2'
 refine⟨l1,l2,_,_,rfl,rfl,s2 _ _ hl1',hl2',szl (by simp;omega),λl3 hl3=>?_⟩
 have s3:=zh.upd (o:=.lst ([v1]++us)) hl3
 have hl3':upd G2 l3 (.lst ([v1]++us)) l3=some (.lst ([v1]++us)):=zf
 generalize upd G2 l3 (.lst ([v1]++us))=G3 at s3 hl3'
 have S3:=s1.trans (s2.trans s3)
 have hwl3:=S3 _ _ hwl
 refine⟨_,rfl,wl,_,_,_,rfl,rfl,.of hwl3,rfl,by show 1<=sizeLine;decide,λl4 hl4=>?_⟩
 have s4:=zh.upd (o:=.lst [v2]) hl4
 have hl4':upd G3 l4 (.lst [v2]) l4=some (.lst [v2]):=zf
 generalize upd G3 l4 (.lst [v2])=G4 at s4 hl4'
 refine⟨l3,l4,_,_,rfl,rfl,s4 _ _ hl3',hl4',szl (by simp;omega),λln hln=>?_⟩
 have s5:=zh.upd (o:=.lst ([v1]++us++[v2])) hln
 have hln':upd G4 ln (.lst ([v1]++us++[v2])) ln=some (.lst ([v1]++us++[v2])):=zf
 generalize upd G4 ln (.lst ([v1]++us++[v2]))=G5 at s5 hln'
 have S5:=S3.trans (s4.trans s5)
 dsimp only[zN]
 have hTs:OsI G5 ([v1]++us++[v2]) (lnO bs lo hi):=by
  have:=OsI.cons ((zc1 hv1).keeps (.of S5)) (((QF hR).keeps (.of S5)).append (OsI.cons ((zc1 hv2).keeps (.of S5)) .nil))
  unfold lnO
  simpa using this
 have hl10:([v1]++us++[v2]).length<=10:=by simp;omega
 obtain⟨vs',evs⟩:∃vs',vs'=[v1]++us++[v2]:=⟨_,rfl⟩
 rw[<-evs]at hln' hTs hl10
 clear hl1' hl2' hl3' hl4' s1 s2 s3 s4 s5 S3 hwl3
 have hz':∀(i:Nat) (t:Rat×Rat),(lnO bs lo hi)[i]? = some (some t)->Sz 320 t.1/\Sz 320 t.2:=λi t e=>by
  have m:=List.mem_of_getElem? e
  have:t∈tl bs lo hi:=by
   unfold lnO at m
   unfold tl
   simp only[List.cons_append,List.mem_cons,List.mem_append,List.mem_map,List.not_mem_nil,or_false]at m ⊢
   rcases m with m | ⟨b,mb,eb⟩ | m
   ·exact .inl (.inl (by rw[<-m];simp[xP]))
   ·exact .inl (.inr ⟨b,mb,by injection eb⟩)
   ·exact .inr (by rw[<-m];simp[xP])
  have:=hz t this
  exact⟨this.1,this.2.mono (by decide)⟩
 rw[<-zcc]at k
 unfold fO at k
 generalize lnO bs lo hi=L at *
 have hll:=hTs.1
 refine xx (λσ' G=>∃z4 z5 z6 v,σ'=[some (.ref r),some (.ref wl),some v,some (.ref ln),z4,z5,z6]/\zh H G/\v8 G v ((L.zip L.tail).foldl jj none)/\∀q,(L.zip L.tail).foldl jj none=some q->Sz 1400 q) ?_ ?_
 rotate_left
 ·intro nx hnx
  refine⟨_,rfl,_,rfl,_,rfl,ln,vs',rfl,.of hln',λl6 hl6=>?_⟩
  have s6:=zh.upd (o:=.lst (qq vs' (some 1) none)) hl6
  have hl6':upd G5 l6 (.lst (qq vs' (some 1) none)) l6=some (.lst (vs'.drop 1)):=by rw[zf];exact congrArg (λl=>some (HO.lst l)) (XG vs' 1)
  have hln6:=s6 _ _ hln'
  have S6:=S5.trans s6
  have hTs6:=hTs.keeps (.of s6)
  generalize upd G5 l6 (.lst (qq vs' (some 1) none))=G6 at *
  refine⟨ln,l6,rfl,⟨_,SqL.of hln6⟩,⟨_,SqL.of hl6'⟩,qF (xs:=vs') (ys:=vs'.drop 1) (λi σ G=>∃z4 z5 z6 v,σ=[some (.ref r),some (.ref wl),some v,some (.ref ln),z4,z5,z6]/\zh G6 G/\v8 G v (((L.zip L.tail).take i).foldl jj none)/\∀q,((L.zip L.tail).take i).foldl jj none=some q->Sz 1400 q)
   ⟨_,_,_,.non,rfl,zh.refl _,rfl,λq e=>by cases e⟩ (λi σ G ⟨_,_,_,_,_,s',_⟩=>⟨.of (s' _ _ hln6),.of (s' _ _ hl6')⟩) ?_ ?_⟩
  ·rintro i x y σ G Tt hx hy ⟨z4,z5,z6,v,rfl,SG,hv,hq⟩ hTt
   obtain⟨o1,et1,ho1⟩:=hTs6.2 i x hx
   rw[List.getElem?_drop]at hy
   obtain⟨o2,et2,ho2⟩:=hTs6.2 _ y hy
   rw[Nat.add_comm]at et2
   have sT:=zh.upd (o:=.tup [x,y]) hTt
   have hTT:upd G Tt (.tup [x,y]) Tt=some (.tup [x,y]):=zf
   generalize upd G Tt (.tup [x,y])=G2 at sT hTT
   have S2:=SG.trans sT
   have ez:(L.zip L.tail)[i]? = some (o1,o2):=by
    rw[List.getElem?_zip_eq_some]
    refine⟨et1,?_⟩
    rw[List.getElem?_tail];exact et2
   have ef:((L.zip L.tail).take (i+1)).foldl jj none=jj (((L.zip L.tail).take i).foldl jj none) (o1,o2):=by
    rw[List.take_add_one,ez];simp[List.foldl_append]
   rw[ef]
   generalize ((L.zip L.tail).take i).foldl jj none=fo at hv hq
   have hv2:v8 G2 v fo:=hv.same sT
   refine⟨Tt,_,rfl,.of hTT,rfl,_,_,rfl,_,_,rfl,rfl,?_⟩
   have ho1':=ho1.keeps (.of S2)
   have ho2':=ho2.keeps (.of S2)
   cases o1 with
   | none =>
    obtain rfl:x = .non:=ho1'
    exact⟨_,rfl,rfl,_,rfl,xA (xA ⟨_,_,_,v,rfl,S2,hv2,hq⟩)⟩
   | some t1 =>
    obtain⟨a1,rfl,ha1⟩:=ho1'
    refine⟨_,rfl,rfl,_,rfl,qd ?_⟩
    cases o2 with
    | none =>
     obtain rfl:y = .non:=ho2'
     exact⟨_,rfl,rfl,_,rfl,xA ⟨_,_,_,v,rfl,S2,hv2,hq⟩⟩
    | some t2 =>
     obtain⟨a2,rfl,ha2⟩:=ho2'
     refine⟨_,rfl,rfl,_,rfl,qd ?_⟩
     have b1:=hz' i t1 et1
     have b2:=hz' _ t2 et2
     show zcV _ _ _ _ _ _
     refine⟨_,rfl,_,rfl,a1,a2,t1,t2,rfl,ha1,ha2,b1.1,b1.2,b2.1,b2.2,λLc us' G3 s3 hLc hc=>?_⟩
     have S3:=S2.trans s3
     have hv3:v8 G3 v fo:=hv2.same s3
     have eo:jj fo (some t1,some t2)=qr fo (t1,t2):=rfl
     rw[eo]
     refine⟨Lc,rfl,⟨_,SqL.of hLc⟩,?_⟩
     rcases hc with⟨c,rm,rfl,hrm⟩ | ⟨c,rfl⟩
     ·refine jJ (xs:=[.ref rm]) (λj σ G'=>G'=G3/\((j=0/\σ=[some (.ref r),some (.ref wl),some v,some (.ref ln),some (.ref a1),some (.ref a2),z6])\/(j=1/\∃v',σ=[some (.ref r),some (.ref wl),some v',some (.ref ln),some (.ref a1),some (.ref a2),some (.ref rm)]/\v8 G3 v' (qr fo (t1,t2))/\∀q,qr fo (t1,t2)=some q->Sz 1400 q)))
       ⟨rfl,.inl ⟨rfl,rfl⟩⟩ (λj σ G' _ ⟨e,_⟩=>by rw[e];exact .of hLc) ?_ ?_
      ·rintro j x σ G' hx ⟨rfl,hj⟩
       rcases hj with⟨rfl,rfl⟩ | ⟨rfl,_⟩
       ·cases hx
        dsimp only[zN]
        have zm:=zeU b1.1 b1.2 b2.1 b2.2 c
        have e0:qr none (t1,t2)=some (mo t1 t2):=if_pos c
        have e1:∀u,qr (some u) (t1,t2)=if mo t1 t2<u then some (mo t1 t2)else some u:=λu=>if_pos c
        cases fo with
        | none =>
         obtain rfl:v = .non:=hv3
         refine⟨_,rfl,rfl,_,rfl,qd ⟨_,rfl,rfl,.inr ⟨rfl,_,rfl,?_,?_⟩⟩⟩
         ·rw[e0];exact⟨rm,rfl,hrm⟩
         ·rw[e0];intro q e;cases e;exact zm
        | some u =>
         obtain⟨af,rfl,haf⟩:=hv3
         refine⟨_,rfl,rfl,_,rfl,xA ⟨_,rfl,_,rfl,rm,af,_,_,rfl,hrm,haf,⟨zm.mono (by decide),(hq u rfl).mono (by decide)⟩,_,rfl,?_⟩⟩
         by_cases c2:mo t1 t2<u
         ·rw[decide_eq_true c2]
          refine qd ⟨_,rfl,rfl,.inr ⟨rfl,_,rfl,?_,?_⟩⟩
          ·rw[e1,if_pos c2];exact⟨rm,rfl,hrm⟩
          ·rw[e1,if_pos c2];intro q e;cases e;exact zm
         ·rw[decide_eq_false c2]
          refine xA ⟨rfl,.inr ⟨rfl,_,rfl,?_,?_⟩⟩
          ·rw[e1,if_neg c2];exact⟨af,rfl,haf⟩
          ·rw[e1,if_neg c2];exact hq
       ·cases hx
      ·rintro σ G' ⟨rfl,hj⟩
       rcases hj with⟨z,_⟩ | ⟨_,v',rfl,h1,h2⟩
       ·cases z
       ·exact⟨_,_,_,v',rfl,S3,h1,h2⟩
     ·have e0:qr fo (t1,t2)=fo:=if_neg c
      rw[e0]
      refine jJ (xs:=[]) (λj σ G'=>G'=G3/\σ=[some (.ref r),some (.ref wl),some v,some (.ref ln),some (.ref a1),some (.ref a2),z6]) ⟨rfl,rfl⟩ (λj σ G' _ ⟨e,_⟩=>by rw[e];exact .of hLc) ?_ ?_
      ·rintro j x σ G' hx;simp at hx
      ·rintro σ G' ⟨rfl,rfl⟩
       exact⟨_,_,_,v,rfl,S3,hv3,hq⟩
  ·rintro σ G ⟨z4,z5,z6,v,rfl,SG,hv,hq⟩
   have el:min vs'.length (vs'.drop 1).length=(L.zip L.tail).length:=by simp;omega
   rw[el,List.take_of_length_le (Nat.le_refl _)]at hv hq
   exact hnx _ _ ⟨z4,z5,z6,v,rfl,S6.trans SG,hv,hq⟩
 rintro σ' G ⟨z4,z5,z6,v,rfl,SG,hv,hq⟩
 exact⟨_,rfl,k v G SG hv hq⟩
end
end KT
end
section
set_option maxHeartbeats 8000000
set_option Elab.async false
set_option linter.all false
set_option maxRecDepth 100000
namespace KT
open PySem L2 KM KK
open KQ (vT qR v8 TxQ xP qo qF stG rlG brk vF ZR vo)
def ThR (H:Hp) (v:V) (o:OT) (rest:List V):Prop:=match o with
 | none=>v = .non
 | some t=>∃a p q,v = .ref a/\H a=some (.tup (.ref p::.ref q::rest))/\zF H p t.1/\zF H q t.2
theorem ThR.tups {H H':Hp}{v:V}{o:OT}{rest:List V}(h:ThR H v o rest) (e:zT H H'):ThR H' v o rest:=by
 cases o with
 | none=>exact h
 | some t=>obtain⟨a,p,q,h1,h2,h3,h4⟩:=h;exact⟨a,p,q,h1,e _ _ h2,e _ _ h3,e _ _ h4⟩
def OsR (H:Hp) (vs:List V) (N:List (OT×List V)):Prop:=vs.length=N.length/\∀(i:Nat) (v:V) (n:OT×List V),vs[i]? = some v->N[i]? = some n->ThR H v n.1 n.2
def onO (m:Rat) (o:OT):OT:=o.map λt=>(t.1+t.2*m,t.2)
section
variable {P:Program}{w:World}{K:PySem.W.Frag}{mg:Str->Option Value}{base:Heap}
def zfS:Sp:=λvs H Q _=>∃a pm us N m,vs=[.ref a,.ref pm]/\H a=some (.tup us)/\OsR H us N/\N.length<=8/\(∀n∈N,n.2.length<=1/\∀t,n.1=some t->Sz 320 t.1/\Sz 80 t.2)/\zF H pm m/\Sz 1400 m/\∀r us' H',zh H H'->H' r=some (.tup us')->OsR H' us' (N.map λn=>(onO m n.1,n.2))->Q (.ref r) H'
theorem Jz:zG ["things","t","found","thing"] ["things","t"] (zg v5):=⟨rfl,rfl,rfl,by decide +kernel,rfl,by decide +kernel,by decide +kernel⟩
theorem zfb (D:Df K mg "_law_on" v5 ["things","t"] []) (T:TxQ K mg) (cA:Cal P w K mg base "_law_add" 2 ["a","b"] [] (vK Sz2 (· + ·))) (cBy:Cal P w K mg base "_law_by" 2 ["a","b"] [] (vK Sz2 (· * ·))):Cal P w K mg base "_law_on" 3 ["things","t"] [] zfS:=by
 refine D.calB (k:=2) Jz (λvs H Q E h=>by obtain⟨_,_,_,_,_,rfl,_⟩:=h;rfl) (λf cdv A outer s H vs Q E hr h=>?_)
 obtain⟨a,pm,us,N,m,rfl,ha,hO,h8,hz,hm,zm,k⟩:=h
 have hul:=hO.1
 refine⟨_,(zD (Bx.mk (zL (i:=2) Jz.nd rfl (Or.inl rfl) (xB ze)))
  (zD (Bx.mk (vI PassesOwn.never rfl (Xi (pv 0)) (zK (i:=3) Jz.nd rfl (Or.inl rfl)) (zj (xk (zI qI (pv 3) zX (zJ _)) (zi (zL (i:=3) Jz.nd rfl (Or.inl rfl) (zA zcr (xv (za (zP cA hr (za (zr zk (pv 3) zd (λ_ _=>rfl)) (za (zP cBy hr (za (zr zk (pv 3) zd (λ_ _=>rfl)) (za (pv 1) ze))) ze))) ze)) (vi zeo (pv 3) (xT zd) Ql)))) zS) (zi (xU (ZA PySem.F.plainAttrs_list PySem.F.slot_list_append PySem.F.type_list_append qv (pv 2) (za (pv 3) ze)))))))
  (Bx.mk (zi (zM (qx vc (by rfl) T.nTuple PyProof.Rows.boot_tuple (za (pv 2) ze))))))),?_⟩
 refine⟨by show 0<=sizeLine;exact Nat.zero_le _,λl hl=>?_⟩
 have S1:zh H (upd H l (.lst [])):=zh.upd hl
 have hl1:upd H l (.lst []) l=some (.lst []):=zf
 generalize upd H l (.lst [])=G1 at S1 hl1
 dsimp only[zN]
 refine zew ?_
 refine⟨_,rfl,a,rfl,⟨us,SqT.of (S1 _ _ ha)⟩,?_⟩
 refine zb4 (xs:=us) (λi σ G=>∃z3 vs',σ=[some (.ref a),some (.ref pm),some (.ref l),z3]/\zh H G/\G l=some (.lst vs')/\vs'.length=i/\∀(j:Nat) (v:V) (n:OT×List V),vs'[j]? = some v->N[j]? = some n->ThR G v (onO m n.1) n.2)
  ⟨_,[],rfl,S1,hl1,rfl,λj v n e=>by simp at e⟩ (λi σ G _ ⟨_,_,_,s,_⟩=>SqT.of (s _ _ ha)) ?_ ?_
 ·rintro i x σ G hx ⟨z3,vs',rfl,SG,hlG,hvl,hvR⟩
  have hi:i<us.length:=(List.getElem?_eq_some_iff.mp hx).1
  obtain⟨n,en⟩:∃n,N[i]? = some n:=⟨_,List.getElem?_eq_getElem (by omega)⟩
  have hx0:=hO.2 i x n hx en
  have zn:=hz n (List.mem_of_getElem? en)
  dsimp only[zN]
  refine xx (λσ' G'=>∃v,σ'=[some (.ref a),some (.ref pm),some (.ref l),some v]/\zh G G'/\ThR G' v (onO m n.1) n.2) ?_ ?_
  rotate_left
  ·intro nx hnx
   obtain⟨o,rest⟩:=n
   cases o with
   | none =>
    obtain rfl:x = .non:=hx0
    exact⟨_,rfl,rfl,_,rfl,xA (hnx _ _ ⟨.non,rfl,zh.refl _,rfl⟩)⟩
   | some t =>
    obtain⟨ax,p,q,rfl,g1,g2,g3⟩:=hx0
    have zt:=zn.2 t rfl
    refine⟨_,rfl,rfl,_,rfl,qd ?_⟩
    have h1:=SG _ _ g1
    refine⟨_,rfl,ax,_,_,_,rfl,rfl,.of h1,QD ..,_,rfl,ax,_,_,_,rfl,rfl,.of h1,QE ..,_,rfl,q,pm,_,_,rfl,SG _ _ g3,SG _ _ hm,⟨zt.2.mono (by decide),zm.mono (by decide)⟩,λr1 G2 e2 h2=>?_⟩
    refine⟨p,r1,_,_,rfl,e2 _ _ (SG _ _ g2),h2,⟨zt.1.mono (by decide),(zt.2.mul zm).mono (by decide)⟩,λr2 G3 e3 h3=>⟨by show 1<=sizeLine;decide,λp1 hp1=>?_⟩⟩
    have S4:zh G (upd G3 p1 (.tup [.ref r2])):=e2.trans (e3.trans (zh.upd hp1))
    have hp1':upd G3 p1 (.tup [.ref r2]) p1=some (.tup [.ref r2]):=zf
    have h3':zF (upd G3 p1 (.tup [.ref r2])) r2 (t.1+t.2*m):=zh.upd hp1 _ _ h3
    generalize upd G3 p1 (.tup [.ref r2])=G4 at S4 hp1' h3'
    have w1:¬(HT.sIx (V.ref p::.ref q::rest).length 0 (some 1)=0/\HT.sIx (V.ref p::.ref q::rest).length (V.ref p::.ref q::rest).length none=(V.ref p::.ref q::rest).length):=λ⟨z,_⟩=>by
     rw[show (1:Int)=((1:Nat):Int)from rfl,HT.sIx_nat]at z
     simp only[List.length_cons]at z;omega
    refine⟨_,rfl,_,rfl,ax,_,rfl,.of (S4 _ _ h1),w1,λp2 hp2=>?_⟩
    have S5:zh G4 (upd G4 p2 (.tup (qq (V.ref p::.ref q::rest) (some 1) none))):=zh.upd hp2
    have hp2':upd G4 p2 (.tup (qq (V.ref p::.ref q::rest) (some 1) none)) p2=some (.tup (.ref q::rest)):=by rw[zf];exact congrArg (λl=>some (HO.tup l)) (XG (V.ref p::.ref q::rest) 1)
    generalize upd G4 p2 (.tup (qq (V.ref p::.ref q::rest) (some 1) none))=G5 at S5 hp2'
    have hrl:rest.length<=1:=zn.1
    refine⟨p1,p2,[.ref r2],.ref q::rest,rfl,rfl,.of (S5 _ _ hp1'),.of hp2',szl (by simp;omega),λz=>(by cases z),λ_ z=>(by cases z),λ_ _ p3 hp3=>?_⟩
    have S6:zh G5 (upd G5 p3 (.tup ([.ref r2]++.ref q::rest))):=zh.upd hp3
    exact hnx _ _ ⟨.ref p3,rfl,S4.trans (S5.trans S6),p3,r2,q,rfl,zf,(S5.trans S6) _ _ h3',(S4.trans (S5.trans S6)) _ _ (SG _ _ g3)⟩
  rintro σ' G2 ⟨v,rfl,S2,hv⟩
  have hl2:=S2 _ _ hlG
  refine⟨_,rfl,.inl ⟨rfl,_,SqL.of hl2⟩,_,rfl,l,vs',_,rfl,rfl,hl2,xt (by omega),?_⟩
  have Tu:zT G2 (upd G2 l (.lst (vs'++[v]))):=.upd hl2
  refine⟨_,vs'++[v],rfl,λb o e=>?_,zf,by simp[hvl],λj u n' f1 f2=>?_⟩
  ·rw[zB (zC e hl)];exact S2 _ _ (SG _ _ e)
  ·by_cases hj:j<vs'.length
   ·rw[List.getElem?_append_left hj]at f1
    exact((hvR j u n' f1 f2).tups (.of S2)).tups Tu
   ·rw[List.getElem?_append_right (by omega)]at f1
    have hj':j - vs'.length=0:=by
     rcases Nat.eq_zero_or_pos (j - vs'.length)with z | z
     ·exact z
     ·rw[List.getElem?_eq_none (by simp;omega)]at f1;cases f1
    rw[hj']at f1;cases f1
    have:j=i:=by omega
    subst this
    rw[en]at f2;cases f2
    exact hv.tups Tu
 ·rintro σ G ⟨z3,vs',rfl,SG,hlG,hvl,hvR⟩
  refine⟨_,rfl,l,vs',rfl,.inl ⟨.of hlG,λr hr'=>k r vs' _ (SG.trans (zh.upd hr')) zf ⟨by rw[List.length_map];omega,λj v n f1 f2=>?_⟩⟩⟩
  rw[List.getElem?_map]at f2
  cases hn:N[j]? with
  | none=>rw[hn]at f2;cases f2
  | some n'=>rw[hn]at f2;cases f2;exact(hvR j v n' f1 hn).tups (.of (zh.upd hr'))
def CZ (cs:List zV) (lo hi:Wl):Prop:=(∀b∈cs,Sz 2000 b.pl/\Sz 80 b.sp)/\(∀x y,lo=some (x,y)->Sz 2000 x/\Sz 80 y)/\(∀x y,hi=some (x,y)->Sz 2000 x/\Sz 80 y)
def zfQ:Sp:=λvs H Q _=>∃r wl us cs v1 v2 lo hi,vs=[.ref r,.ref wl]/\H r=some (.tup us)/\zR H us cs/\cs.length<=8/\H wl=some (.tup [v1,v2])/\xp H v1 lo/\xp H v2 hi/\CZ cs lo hi/\∀G gs H',zh H H'->H G=none->H' G=some (.lst gs)->vF H' gs (grL cs lo hi)->Q (.ref G) H'
theorem ji:zG ["row","walls","found","start","end","where","goes"] ["row","walls"] (zg qm):=⟨rfl,rfl,rfl,by decide +kernel,rfl,by decide +kernel,by decide +kernel⟩
theorem V9 (x y:Rat):PyData.eqv (.tuple [.int x.num,.int (x.den:Int)]) (.tuple [.int y.num,.int (y.den:Int)])=decide (x=y):=zaO x y
theorem ze7 (D:Df K mg "_law_groups" qm ["row","walls"] []) (T:TxQ K mg) (cBl:Cal P w K mg base "_law_below" 1 ["a","b"] [] zcS):Cal P w K mg base "_law_groups" 2 ["row","walls"] [] zfQ:=by
 refine D.calB (k:=1) ji (λvs H Q E h=>by obtain⟨_,_,_,_,_,_,_,_,rfl,_⟩:=h;rfl) (λf cdv A outer s H vs Q E hr h=>?_)
 obtain⟨r,wl,us,cs,v1,v2,lo,hi,rfl,hrr,hB,h8,hwl,hv1,hv2,hz,k⟩:=h
 have hr1:xi 1 _:=hr
 have hu:=hr.units
 have hul:=hB.length
 refine⟨_,(zD (Bx.mk (zL (i:=2) ji.nd rfl (Or.inl rfl) (xB ze)))
  (zD (Bx.mk (zL (i:=3) ji.nd rfl (Or.inl rfl) zd))
  (zD (Bx.mk (jT PassesOwn.never (zI jP (pv 3) (zZ xl (by rfl) T.nLen PySem.boot_len (za (pv 0) ze)) (zJ _)) (zaD (zD (Bx.mk (zL (i:=4) ji.nd rfl (Or.inl rfl) (pv 3)))
  (zD (Bx.mk (jT PassesOwn.never (vX (zI jP (zA xa (pv 4) zd) (zZ xl (by rfl) T.nLen PySem.boot_len (za (pv 0) ze)) (zJ _)) (vf (zI (Zb hu) (zr zk (zr zk (pv 0) (zA xa (pv 4) zd) (λ_ _=>rfl)) zd (λ_ _=>rfl)) (zr zk (zr zk (pv 0) (pv 3) (λ_ _=>rfl)) zd (λ_ _=>rfl)) (zJ _)))).pt (zi (zL (i:=4) ji.nd rfl (Or.inl rfl) (zA xa (pv 4) zd)))))
  (zD (Bx.mk (zL (i:=5) ji.nd rfl (Or.inl rfl) vV))
  (zD (Bx.mk (zL (i:=6) ji.nd rfl (Or.inl rfl) Zy))
  (zD (Bx.mk (xk (vX (zI qI (zr zk (pv 1) zd (λ_ _=>rfl)) zX (zJ _)) (vf (zI (Zb hu) (zr zk (zr zk (pv 1) zd (λ_ _=>rfl)) zd (λ_ _=>rfl)) (zr zk (zr zk (pv 0) (pv 3) (λ_ _=>rfl)) zd (λ_ _=>rfl)) (zJ _)))).pt (zj (zL (i:=5) ji.nd rfl (Or.inl rfl) vV)
  (zi (zL (i:=6) ji.nd rfl (Or.inl rfl) (zP cBl hr1 (za (zr zk (zr zk (pv 0) (pv 3) (λ_ _=>rfl)) zd (λ_ _=>rfl)) (za (zr zk (zr zk (pv 1) zd (λ_ _=>rfl)) zd (λ_ _=>rfl)) ze)))))) (zi (xk (vX (zI qI (zr zk (pv 1) zd (λ_ _=>rfl)) zX (zJ _)) (vf (zI (Zb hu) (zr zk (zr zk (pv 1) zd (λ_ _=>rfl)) zd (λ_ _=>rfl)) (zr zk (zr zk (pv 0) (pv 3) (λ_ _=>rfl)) zd (λ_ _=>rfl)) (zJ _)))).pt (zj (zL (i:=5) ji.nd rfl (Or.inl rfl) vV)
  (zi (zL (i:=6) ji.nd rfl (Or.inl rfl) (zP cBl hr1 (za (zr zk (zr zk (pv 1) zd (λ_ _=>rfl)) zd (λ_ _=>rfl)) (za (zr zk (zr zk (pv 0) (pv 4) (λ_ _=>rfl)) zd (λ_ _=>rfl)) ze)))))) zS))))
  (zD (Bx.mk (xk ((jq (zI Xf (pv 4) (pv 3) (zJ _)) (jd (qK (pv 6) λ_=>rfl)))).pt (zi (xU (ZA PySem.F.plainAttrs_list PySem.F.slot_list_append PySem.F.type_list_append qv (pv 2) (za (xv (za (pv 3) (za (pv 4) (za (pv 5) ze)))) ze)))) zS))
  (Bx.mk (zi (zL (i:=3) ji.nd rfl (Or.inl rfl) (zA xa (pv 4) zd)))))))))))))
  (Bx.mk (zi (zM (pv 2))))))),?_⟩
 refine⟨by show 0<=sizeLine;exact Nat.zero_le _,λl hl=>?_⟩
 have S1:zh H (upd H l (.lst [])):=zh.upd hl
 have hl1:upd H l (.lst []) l=some (.lst []):=zf
 generalize upd H l (.lst [])=G1 at S1 hl1
 dsimp only[zN]
 obtain⟨ks,eks⟩:∃ks,ks=cs.map zV.pl:=⟨_,rfl⟩
 have hkl:ks.length=us.length:=by rw[eks,List.length_map,hul]
 refine zbF ?_
 refine⟨λm σ G=>∃(st:Nat) (gs:List V) (z4 z5 z6:Option V),σ=[some (.ref r),some (.ref wl),some (.ref l),some (.int (st:Int)),z4,z5,z6]/\m=us.length - st/\st<=us.length/\stG ks st=st/\zh H G/\G l=some (.lst gs)/\gs.length<=st/\vF G gs (rlG ks (fL cs lo hi) st),
  ⟨_,0,[],_,_,_,rfl,rfl,Nat.zero_le _,rfl,S1,hl1,Nat.le_refl _,rfl,λi v e=>by simp at e⟩,?_⟩
 rintro m σ G ⟨st,gs,z4,z5,z6,rfl,rfl,hst,est,SG,hlG,hgl,hgr⟩
 refine⟨_,rfl,_,rfl,r,us,rfl,.inr (.of (SG _ _ hrr)),_,_,rfl,rfl,_,rfl,qH (λhc=>?_) (λhc=>?_)⟩
 rotate_left
 ·have:¬st<us.length:=λz=>hc (decide_eq_true (by omega))
  refine⟨_,rfl,k l gs G SG hl hlG ?_⟩
  unfold grL
  rw[<-eks,show cs.length=st by omega];exact hgr
 have hlt:st<us.length:=by have:=of_decide_eq_true hc;omega
 refine⟨_,λ_ _ z=>z,?_⟩
 dsimp only[zN]
 obtain⟨vs0,evs0⟩:∃v,us[st]? = some v:=⟨_,List.getElem?_eq_getElem hlt⟩
 obtain⟨a0,p0,q0,b0,eb0,rfl,ha0,hp0,hq0⟩:=hB.get evs0
 have zb0:=hz.1 b0 (List.mem_of_getElem? eb0)
 have hrG:=SG _ _ hrr
 have ha0G:=SG _ _ ha0
 refine Zm ?_
 refine⟨_,rfl,?_⟩
 refine xx (λσ' G'=>∃en:Nat,σ'=[some (.ref r),some (.ref wl),some (.ref l),some (.int (st:Int)),some (.int (en:Int)),z5,z6]/\G'=G/\st<=en/\en<us.length/\stG ks en=st/\rlG ks (fL cs lo hi) en=rlG ks (fL cs lo hi) st/\brk ks en=true) ?_ ?_
 rotate_left
 ·intro nx hnx
  refine⟨λm' σ' G'=>∃en:Nat,σ'=[some (.ref r),some (.ref wl),some (.ref l),some (.int (st:Int)),some (.int (en:Int)),z5,z6]/\G'=G/\m'=us.length - en/\st<=en/\en<us.length/\stG ks en=st/\rlG ks (fL cs lo hi) en=rlG ks (fL cs lo hi) st,⟨_,st,rfl,rfl,rfl,Nat.le_refl _,hlt,est,rfl⟩,?_⟩
  rintro m' σ' G' ⟨en,rfl,rfl,rfl,h1,h2,h3,h4⟩
  have hrun:ks[en]? = ks[st]?:=by
   have:=VN (ss:=ks) (i:=en) (by omega) st (by omega) h1
   exact this.symm
  refine⟨_,rfl,_,_,rfl,rfl,_,rfl,r,us,rfl,.inr (.of hrG),_,_,rfl,rfl,_,rfl,qH (λhc1=>?_) (λhc1=>?_)⟩
  rotate_left
  ·have hn:¬en+1<us.length:=λz=>hc1 (decide_eq_true (by omega))
   refine xA (hnx _ _ ⟨en,rfl,rfl,h1,h2,h3,h4,?_⟩)
   unfold brk
   rw[decide_eq_true (by omega:en+1=ks.length)];rfl
  have hn:en+1<us.length:=by have:=of_decide_eq_true hc1;omega
  obtain⟨v',ev'⟩:∃v,us[en+1]? = some v:=⟨_,List.getElem?_eq_getElem hn⟩
  obtain⟨a',p',q',b',eb',rfl,ha',hp',hq'⟩:=hB.get ev'
  have at1':atI us ((en:Int)+1)=some (.ref a'):=by rw[show (en:Int)+1=((en+1:Nat):Int)from rfl];exact qf ev'
  refine⟨_,rfl,_,rfl,_,_,rfl,rfl,r,_,_,_,rfl,rfl,.of hrG,at1',a',_,_,_,rfl,rfl,.of (SG _ _ ha'),QD ..,_,rfl,_,rfl,r,_,_,_,rfl,rfl,.of hrG,qf evs0,a0,_,_,_,rfl,rfl,.of ha0G,QD ..,?_⟩
  refine⟨_,_,zF.rd (SG _ _ hp'),zF.rd (SG _ _ hp0),qa _,qa _,_,rfl,?_⟩
  rw[V9]
  have ek':ks[en+1]? = some b'.pl:=by rw[eks,List.getElem?_map,eb'];rfl
  have ek0:ks[st]? = some b0.pl:=by rw[eks,List.getElem?_map,eb0];rfl
  have hbr:brk ks en = !decide (b'.pl=b0.pl):=by
   unfold brk
   rw[decide_eq_false (by omega:¬en+1=ks.length),Bool.false_or,hrun,ek',ek0]
   by_cases c:b'.pl=b0.pl
   ·rw[c];simp
   ·rw[decide_eq_false c];simp[c]
  by_cases c:b'.pl=b0.pl
  ·rw[decide_eq_true c]
   rw[decide_eq_true c]at hbr
   refine qd ⟨_,λ_ _ z=>z,_,rfl,_,_,rfl,rfl,us.length - (en+1),by omega,en+1,rfl,rfl,rfl,by omega,hn,?_,?_⟩
   ·show (if brk ks en=true then en+1 else stG ks en)=st
    rw[hbr,if_neg (by simp)];exact h3
   ·show (if brk ks en=true then _ else rlG ks (fL cs lo hi) en)=_
    rw[hbr,if_neg (by simp)];exact h4
  ·rw[decide_eq_false c]
   rw[decide_eq_false c]at hbr
   exact xA (hnx _ _ ⟨en,rfl,rfl,h1,h2,h3,h4,by rw[hbr];rfl⟩)
 rintro σ' G' ⟨en,rfl,rfl,h1,h2,h3,h4,hbr⟩
 obtain⟨vse,evse⟩:∃v,us[en]? = some v:=⟨_,List.getElem?_eq_getElem h2⟩
 obtain⟨ae,pe,qe,be,ebe,rfl,hae,hpe,hqe⟩:=hB.get evse
 have zbe:=hz.1 be (List.mem_of_getElem? ebe)
 have haeG:=SG _ _ hae
 refine Zm ?_
 dsimp only[tC]
 refine Zm ?_
 dsimp only[tC]
 have hwG:=SG _ _ hwl
 have hv1G:=hv1.tups (zT.of SG)
 have hv2G:=hv2.tups (zT.of SG)
 refine xx (λσ' G''=>σ'=[some (.ref r),some (.ref wl),some (.ref l),some (.int (st:Int)),some (.int (en:Int)),some (.str (qM lo hi b0.pl)),some (.bl (vG cs lo hi st en))]/\G''=G') ?_ ?_
 rotate_left
 ·intro nx hnx
  have hg:=Qd (lo:=lo) (hi:=hi) eb0 ebe
  cases lo with
  | none =>
   obtain rfl:v1 = .non:=hv1G
   have a1:atW none b0.pl=false:=rfl
   rw[a1,if_neg (by simp)]at hg
   have es:=Qs (hi:=hi) a1
   refine⟨_,rfl,wl,_,_,_,rfl,rfl,.of hwG,rfl,rfl,_,rfl,xA (xA ?_)⟩
   cases hi with
   | none =>
    obtain rfl:v2 = .non:=hv2G
    refine⟨_,rfl,wl,_,_,_,rfl,rfl,.of hwG,rfl,rfl,_,rfl,xA (xA (hnx _ _ ⟨?_,rfl⟩))⟩
    rw[es,hg];rfl
   | some u =>
    obtain⟨x,y⟩:=u
    obtain⟨aw,pw,qw,rfl,g1,g2,g3⟩:=hv2G
    have zw:=hz.2.2 x y rfl
    refine⟨_,rfl,wl,_,_,_,rfl,rfl,.of hwG,rfl,rfl,_,rfl,qd ?_⟩
    refine⟨_,rfl,wl,_,_,_,rfl,rfl,.of hwG,rfl,aw,_,_,_,rfl,rfl,.of g1,rfl,_,rfl,_,rfl,r,_,_,_,rfl,rfl,.of hrG,qf evs0,a0,_,_,_,rfl,rfl,.of ha0G,QD ..,?_⟩
    refine⟨_,_,zF.rd g2,zF.rd (SG _ _ hp0),qa _,qa _,_,rfl,?_⟩
    rw[V9]
    have ea:atW (some (x,y)) b0.pl=decide (x=b0.pl):=rfl
    rw[ea]at es hg
    by_cases c:x=b0.pl
    ·rw[decide_eq_true c]at es hg ⊢
     rw[if_pos rfl]at es hg
     refine qd ?_
     refine Zm ?_
     dsimp only[tC]
     refine⟨_,rfl,wl,_,_,_,rfl,rfl,.of hwG,rfl,aw,_,_,_,rfl,rfl,.of g1,rfl,_,rfl,_,rfl,r,_,_,_,rfl,rfl,.of hrG,qf evse,ae,_,_,_,rfl,rfl,.of haeG,QE ..,qw,qe,y,be.sp,rfl,g3,SG _ _ hqe,⟨zw.2.mono (by decide),zbe.2.mono (by decide)⟩,?_⟩
     refine hnx _ _ ⟨?_,rfl⟩
     rw[es,hg];rfl
    ·rw[decide_eq_false c]at es hg ⊢
     rw[if_neg (by simp)]at es hg
     refine xA (hnx _ _ ⟨?_,rfl⟩)
     rw[es,hg];rfl
  | some u1 =>
   obtain⟨x1,y1⟩:=u1
   obtain⟨aw1,pw1,qw1,rfl,f1,f2,f3⟩:=hv1G
   have zw1:=hz.2.1 x1 y1 rfl
   refine⟨_,rfl,wl,_,_,_,rfl,rfl,.of hwG,rfl,rfl,_,rfl,qd ?_⟩
   refine⟨_,rfl,wl,_,_,_,rfl,rfl,.of hwG,rfl,aw1,_,_,_,rfl,rfl,.of f1,rfl,_,rfl,_,rfl,r,_,_,_,rfl,rfl,.of hrG,qf evs0,a0,_,_,_,rfl,rfl,.of ha0G,QD ..,?_⟩
   refine⟨_,_,zF.rd f2,zF.rd (SG _ _ hp0),qa _,qa _,_,rfl,?_⟩
   rw[V9]
   have ea1:atW (some (x1,y1)) b0.pl=decide (x1=b0.pl):=rfl
   by_cases c1:x1=b0.pl
   ·rw[ea1,decide_eq_true c1,if_pos rfl]at hg
    have es:=JC (hi:=hi) (ea1.trans (decide_eq_true c1))
    rw[decide_eq_true c1]
    refine qd ?_
    refine Zm ?_
    dsimp only[tC]
    refine⟨_,rfl,_,rfl,r,_,_,_,rfl,rfl,.of hrG,qf evs0,a0,_,_,_,rfl,rfl,.of ha0G,QE ..,_,rfl,wl,_,_,_,rfl,rfl,.of hwG,rfl,aw1,_,_,_,rfl,rfl,.of f1,rfl,q0,qw1,b0.sp,y1,rfl,SG _ _ hq0,f3,⟨zb0.2.mono (by decide),zw1.2.mono (by decide)⟩,?_⟩
    refine hnx _ _ ⟨?_,rfl⟩
    rw[es,hg];rfl
   ·rw[ea1,decide_eq_false c1,if_neg (by simp)]at hg
    have es:=Qs (hi:=hi) (ea1.trans (decide_eq_false c1))
    rw[decide_eq_false c1]
    refine xA ?_
    cases hi with
    | none =>
     obtain rfl:v2 = .non:=hv2G
     refine⟨_,rfl,wl,_,_,_,rfl,rfl,.of hwG,rfl,rfl,_,rfl,xA (xA (hnx _ _ ⟨?_,rfl⟩))⟩
     rw[es,hg];rfl
    | some u =>
     obtain⟨x,y⟩:=u
     obtain⟨aw,pw,qw,rfl,g1,g2,g3⟩:=hv2G
     have zw:=hz.2.2 x y rfl
     refine⟨_,rfl,wl,_,_,_,rfl,rfl,.of hwG,rfl,rfl,_,rfl,qd ?_⟩
     refine⟨_,rfl,wl,_,_,_,rfl,rfl,.of hwG,rfl,aw,_,_,_,rfl,rfl,.of g1,rfl,_,rfl,_,rfl,r,_,_,_,rfl,rfl,.of hrG,qf evs0,a0,_,_,_,rfl,rfl,.of ha0G,QD ..,?_⟩
     refine⟨_,_,zF.rd g2,zF.rd (SG _ _ hp0),qa _,qa _,_,rfl,?_⟩
     rw[V9]
     have ea:atW (some (x,y)) b0.pl=decide (x=b0.pl):=rfl
     rw[ea]at es hg
     by_cases c:x=b0.pl
     ·rw[decide_eq_true c]at es hg ⊢
      rw[if_pos rfl]at es hg
      refine qd ?_
      refine Zm ?_
      dsimp only[tC]
      refine⟨_,rfl,wl,_,_,_,rfl,rfl,.of hwG,rfl,aw,_,_,_,rfl,rfl,.of g1,rfl,_,rfl,_,rfl,r,_,_,_,rfl,rfl,.of hrG,qf evse,ae,_,_,_,rfl,rfl,.of haeG,QE ..,qw,qe,y,be.sp,rfl,g3,SG _ _ hqe,⟨zw.2.mono (by decide),zbe.2.mono (by decide)⟩,?_⟩
      refine hnx _ _ ⟨?_,rfl⟩
      rw[es,hg];rfl
     ·rw[decide_eq_false c]at es hg ⊢
      rw[if_neg (by simp)]at es hg
      refine xA (hnx _ _ ⟨?_,rfl⟩)
      rw[es,hg];rfl
 rintro σ' G'' ⟨rfl,rfl⟩
 have erl:rlG ks (fL cs lo hi) (en+1)=rlG ks (fL cs lo hi) st++(fL cs lo hi st en).toList:=by
  show (if brk ks en=true then rlG ks (fL cs lo hi) en++(fL cs lo hi (stG ks en) en).toList else _)=_
  rw[if_pos hbr,h3,h4]
 have est':stG ks (en+1)=en+1:=if_pos hbr
 have ek0:((cs.map zV.pl)[st]?).getD 0=b0.pl:=by rw[List.getElem?_map,eb0];rfl
 have efL:fL cs lo hi st en=if st<en\/vG cs lo hi st en=true then some (st,en,qM lo hi b0.pl)else none:=by unfold fL;rw[ek0]
 have hgl':gs.length<=en:=by omega
 refine QO (λH'=>H'=G'') (decide (st<en\/vG cs lo hi st en=true)) (λQ' q=>?_) (λhc6 H6 e6=>?_) (λhc6 H6 e6=>?_)
 ·refine⟨_,rfl,_,rfl,_,_,rfl,rfl,_,rfl,qH (λy1=>?_) (λy1=>?_)⟩
  ·have:st<en:=by have:=of_decide_eq_true y1;omega
   rw[decide_eq_true (Or.inl this)]at q
   exact q _ rfl
  ·have n:¬st<en:=λz=>y1 (decide_eq_true (by omega))
   refine⟨_,rfl,_,rfl,?_⟩
   have:vG cs lo hi st en=decide (st<en\/vG cs lo hi st en=true):=by
    cases hg:vG cs lo hi st en with
    | true=>rw[decide_eq_true (Or.inr rfl)]
    | false=>rw[decide_eq_false (by rintro (z | z);exact n z;cases z)]
   rw[<-this]at q
   exact q _ rfl
 ·subst e6
  refine⟨_,rfl,.inl ⟨rfl,gs,.of hlG⟩,_,rfl,_,rfl,_,rfl,by show 3<=sizeLine;decide,λgp hgp=>?_⟩
  have s5:zh H6 (upd H6 gp (.tup [.int (st:Int),.int (en:Int),.str (qM lo hi b0.pl)])):=zh.upd hgp
  have h5:upd H6 gp (.tup [.int (st:Int),.int (en:Int),.str (qM lo hi b0.pl)]) gp=some (.tup [.int (st:Int),.int (en:Int),.str (qM lo hi b0.pl)]):=zf
  generalize upd H6 gp (.tup [.int (st:Int),.int (en:Int),.str (qM lo hi b0.pl)])=G5 at s5 h5
  have hl5:=s5 _ _ hlG
  refine⟨l,gs,_,rfl,rfl,hl5,xt (by omega),?_⟩
  have Tu:zT G5 (upd G5 l (.lst (gs++[.ref gp]))):=.upd hl5
  refine⟨_,rfl,_,_,rfl,rfl,us.length - (en+1),by omega,en+1,gs++[.ref gp],_,_,_,rfl,rfl,by omega,est',λb o e=>?_,zf,by simp;omega,?_⟩
  ·rw[zB (zC e hl)];exact s5 _ _ (SG _ _ e)
  ·rw[erl,efL,if_pos (of_decide_eq_true hc6)]
   exact((hgr.keeps (.of s5)).keeps Tu).snoc ⟨gp,rfl,Tu _ _ h5⟩
 ·subst e6
  refine⟨_,rfl,_,_,rfl,rfl,us.length - (en+1),by omega,en+1,gs,_,_,_,rfl,rfl,by omega,est',SG,hlG,by omega,?_⟩
  rw[erl,efL,if_neg (of_decide_eq_false hc6)]
  show vF H6 gs (_++[])
  rw[List.append_nil];exact hgr
end
end KT
end
section
set_option maxHeartbeats 8000000
set_option Elab.async false
set_option linter.all false
set_option maxRecDepth 100000
namespace L2
open PySem PySem.Spec PyProof.Rows
end L2
namespace KT
open PySem L2 KM KK
open KQ (vT qR v8 TxQ xP qo qF stG rlG brk vF ZR vo)
def Lay (n:Nat) (d:PyData):Prop:=PyData.canLay0 d=true/\PyData.depth d<=n
theorem za4 {n:Nat}:∀{ds:List PyData},(∀d∈ds,Lay n d)->PyData.canLayAll0 ds=true/\PyData.depthAll ds<=n
 | [],_=>⟨rfl,Nat.zero_le _⟩
 | d::ds,h=>by
  obtain⟨h1,h2⟩:=za4 (ds:=ds) λe m=>h e (List.mem_cons_of_mem _ m)
  obtain⟨h3,h4⟩:=h d (List.mem_cons_self ..)
  refine⟨?_,?_⟩
  ·show (PyData.canLay0 d&&_)=true
   rw[h1,h3];rfl
  ·show max (PyData.depth d) _<=n
   omega
theorem Lay.tup {n:Nat}{ds:List PyData}(h:∀d∈ds,Lay n d):Lay (n+1) (.tuple ds):=⟨(za4 h).1,Nat.succ_le_succ (za4 h).2⟩
theorem Lay.mono {m n:Nat}{d:PyData}(h:Lay m d) (e:m<=n):Lay n d:=⟨h.1,Nat.le_trans h.2 e⟩
theorem Lay.int (i:Int):Lay 0 (.int i):=⟨rfl,Nat.le_refl _⟩
theorem Lay.non:Lay 0 .none:=⟨rfl,Nat.le_refl _⟩
theorem Lay.rat (x:Rat):Lay 1 (rD x):=Lay.tup λd m=>by
 rcases List.mem_cons.mp m with rfl | m
 ·exact .int _
 ·rcases List.mem_cons.mp m with rfl | m
  ·exact .int _
  ·cases m
theorem Lay.shaped {n:Nat}{d:PyData}(h:Lay n d) (e:n<=64):SeqAt.shaped d=true:=by
 show (_&&_)=true
 rw[h.1,decide_eq_true (Nat.le_trans h.2 e)];rfl
theorem Lay.self {n:Nat}{d:PyData}(h:Lay n d):PyData.eqv d d=true:=SeqAt.eqv_refl _ h.1
theorem Lay.str {x:Str}(h:PyData.canLay0 (.str x)=true):Lay 0 (.str x):=⟨h,Nat.le_refl _⟩
theorem Vw {α γ:Type} [DecidableEq α] {ss:List α}{f:Nat->Nat->Option γ}{p:γ->Prop}(h:∀a b g,f a b=some g->p g):∀{n:Nat}{g:γ},g∈rlG ss f n->p g
 | 0,_,m=>by cases m
 | n+1,g,m=>by
  unfold rlG at m
  split at m
  ·rcases List.mem_append.mp m with m | m
   ·exact Vw h m
   ·exact h _ _ _ (Option.mem_toList.mp m)
  ·exact Vw h m
theorem za0 (lo hi:Wl) (k:Rat):PyData.canLay0 (.str (qM lo hi k))=true:=by
 unfold qM
 split
 ·decide +kernel
 ·split <;> decide +kernel
theorem Lay.lst {n:Nat}{ds:List PyData}(h:∀d∈ds,Lay n d):Lay (n+1) (.list ds):=⟨(za4 h).1,Nat.succ_le_succ (za4 h).2⟩
def grD (g:Nat×Nat×Str):PyData:=.tuple [.int (g.1:Int),.int (g.2.1:Int),.str g.2.2]
def coD (m:Rat) (gs:List (Nat×Nat×Str)):PyData:=.tuple [rD m,.list (gs.map grD)]
theorem zdW {g:Nat×Nat×Str}(h:PyData.canLay0 (.str g.2.2)=true):Lay 1 (grD g):=Lay.tup λd m=>by
 simp only[List.mem_cons,List.not_mem_nil,or_false]at m
 rcases m with rfl | rfl | rfl
 ·exact .int _
 ·exact .int _
 ·exact .str h
theorem zdV (m:Rat){gs:List (Nat×Nat×Str)} (hg:∀g∈gs,PyData.canLay0 (.str g.2.2)=true):Lay 3 (coD m gs):=Lay.tup λd h=>by
 simp only[List.mem_cons,List.not_mem_nil,or_false]at h
 rcases h with rfl | rfl
 ·exact(Lay.rat _).mono (by decide)
 ·exact Lay.lst λd h=>by obtain⟨g,mg,rfl⟩:=List.mem_map.mp h;exact zdW (hg g mg)
theorem Vs {H:Hp}:∀{vs:List V}{gs:List (Nat×Nat×Str)},vF H vs gs->vq H vs (gs.map grD)
 | [],[],_=>.nil
 | [],_::_,h=>by have:=h.1;simp at this
 | _::_,[],h=>by have:=h.1;simp at this
 | v::vs,g::gs,h=>by
  obtain⟨g',e,a,rfl,ha⟩:=h.2 0 v rfl
  cases e
  exact .cons (.tup ha (.cons (.int _) (.cons (.int _) (.cons (.str _) .nil)))) (Vs ⟨by have:=h.1;simpa using this,λi v e=>by obtain⟨g,e1,e2⟩:=h.2 (i+1) v (by simpa using e);exact⟨g,by simpa using e1,e2⟩⟩)
section
variable {P:Program}{w:World}{K:PySem.W.Frag}{mg:Str->Option Value}{base:Heap}
theorem zat {H:Hp}{v1 v2:V}{lo hi:Wl}(h1:xp H v1 lo) (h2:xp H v2 hi):OsR H [v1,v2] [(lo,[]),(hi,[])]:=by
 have one:∀{v:V}{l:Wl},xp H v l->ThR H v l []:=λ{v l} h=>by
  cases l with
  | none=>exact h
  | some u=>obtain⟨x,y⟩:=u;obtain⟨a,p,q,e,g1,g2,g3⟩:=h;exact⟨a,p,q,e,g1,g2,g3⟩
 refine⟨rfl,λi v n e1 e2=>?_⟩
 match i,e1,e2 with
 | 0,e1,e2=>cases e1;cases e2;exact one h1
 | 1,e1,e2=>cases e1;cases e2;exact one h2
 | i+2,e1,_=>simp at e1
theorem QU {H:Hp}{v:V}{l:Wl}{m:Rat}(h:ThR H v (onO m l) []):xp H v (zY m l):=by
 cases l with
 | none=>exact h
 | some u=>obtain⟨x,y⟩:=u;obtain⟨a,p,q,e,g1,g2,g3⟩:=h;exact⟨a,p,q,e,g1,g2,g3⟩
theorem JU {H:Hp}{us:List V}{bs:List zV}(h:zR H us bs):OsR H us (bs.map λb=>(some (b.pl,b.sp),[V.int b.wt])):=by
 refine⟨by rw[h.length,List.length_map],λi v n e1 e2=>?_⟩
 obtain⟨a,p,q,b,eb,rfl,g1,g2,g3⟩:=h.get e1
 rw[List.getElem?_map,eb]at e2
 cases e2
 exact⟨a,p,q,rfl,g1,g2,g3⟩
theorem XR {H:Hp}{m:Rat}:∀{us:List V}{bs:List zV},OsR H us ((bs.map λb=>((some (b.pl,b.sp):OT),[V.int b.wt])).map λn=>(onO m n.1,n.2))->zR H us (bs.map (xO m))
 | [],[],_=>.nil
 | [],_::_,h=>by have:=h.1;simp at this
 | _::_,[],h=>by have:=h.1;simp at this
 | u::us,b::bs,h=>by
  obtain⟨a,p,q,rfl,g1,g2,g3⟩:=h.2 0 u _ rfl rfl
  exact .cons g1 g2 g3 (XR ⟨by have:=h.1;simpa using this,λi v n e1 e2=>h.2 (i+1) v n (by simpa using e1) (by simpa using e2)⟩)
end
end KT
end
section
set_option maxHeartbeats 8000000
set_option Elab.async false
set_option linter.all false
set_option maxRecDepth 100000
namespace KT
open PySem L2 KM KK
open KQ (vT qR v8 TxQ xP qo qF stG rlG brk vF ZR vo)
theorem jN.trans {a b c:Rat×Rat}(h:jN a b) (k:jN b c):jN a c:=by
 unfold jN at *
 rcases h with h | ⟨h1,h2⟩ <;> rcases k with k | ⟨k1,k2⟩
 ·exact .inl (by grind)
 ·exact .inl (by grind)
 ·exact .inl (by grind)
 ·exact .inr ⟨by grind,by grind⟩
theorem zec {bs:List zV}{lo hi:Wl}(G:zdx bs) (B:Box bs lo hi) (h1:1<=bs.length):Ord bs lo hi:=by
 have hpb:(bs.map λb=>(b.pl,b.sp)).Pairwise jN:=by
  rw[List.pairwise_map]
  refine G.pw.imp λ{a b} h=>?_
  rcases h with h | ⟨h1,h2⟩
  ·exact .inl h
  ·exact .inr ⟨h1,by show a.sp<=b.sp;grind⟩
 have hlo:∀x y,lo=some (x,y)->∀b∈bs,jN (x,y) (b.pl,b.sp):=λx y e b mb=>by
  obtain⟨b0,e0⟩:∃b0,bs[0]? = some b0:=⟨_,List.getElem?_eq_getElem h1⟩
  have h0:jN (x,y) (b0.pl,b0.sp):=by
   obtain⟨g1,g2⟩:=B.lo x y b0 e e0
   by_cases z:x=b0.pl
   ·exact .inr ⟨z,g2 z⟩
   ·exact .inl (by show x<b0.pl;grind)
  match bs,e0 with
  | c::cs,e0 =>
   cases e0
   rcases List.mem_cons.mp mb with rfl | mb
   ·exact h0
   ·refine h0.trans ?_
    rcases(List.pairwise_cons.mp G.pw).1 b mb with h | ⟨g1,g2⟩
    ·exact .inl h
    ·exact .inr ⟨g1,Rat.le_of_lt g2⟩
 have hhi:∀x y,hi=some (x,y)->∀b∈bs,jN (b.pl,b.sp) (x,y):=λx y e b mb=>by
  obtain⟨cs,c,ec⟩:∃cs c,bs=cs++[c]:=⟨_,_,(List.dropLast_concat_getLast (by intro z;rw[z]at h1;simp at h1)).symm⟩
  have h0:jN (c.pl,c.sp) (x,y):=by
   obtain⟨g1,g2⟩:=B.hi x y cs c e ec
   by_cases z:x=c.pl
   ·exact .inr ⟨z.symm,g2 z⟩
   ·exact .inl (by show c.pl<x;grind)
  have gp:=G.pw
  rw[ec]at mb gp
  rcases List.mem_append.mp mb with mb | mb
  ·refine jN.trans ?_ h0
   rcases(List.pairwise_append.mp gp).2.2 b mb c (List.mem_cons_self ..)with h | ⟨g1,g2⟩
   ·exact .inl h
   ·exact .inr ⟨g1,by show b.sp<=c.sp;grind⟩
  ·rw[List.mem_singleton.mp mb];exact h0
 refine⟨?_,B.lt⟩
 unfold tl
 refine List.pairwise_append.mpr ⟨List.pairwise_append.mpr ⟨?_,hpb,λa ma b mb=>?_⟩,?_,λa ma b mb=>?_⟩
 ·cases lo with
  | none=>exact .nil
  | some u=>exact List.pairwise_singleton ..
 ·obtain⟨c,mc,rfl⟩:=List.mem_map.mp mb
  cases lo with
  | none=>cases ma
  | some u=>rw[List.mem_singleton.mp ma];exact hlo _ _ rfl c mc
 ·cases hi with
  | none=>exact .nil
  | some u=>exact List.pairwise_singleton ..
 ·cases hi with
  | none=>cases mb
  | some u =>
   rw[List.mem_singleton.mp mb]
   rcases List.mem_append.mp ma with ma | ma
   ·cases lo with
    | none=>cases ma
    | some v=>rw[List.mem_singleton.mp ma];exact .inl (B.lt _ _ _ _ rfl rfl)
   ·obtain⟨c,mc,rfl⟩:=List.mem_map.mp ma
    exact hhi _ _ rfl c mc
theorem zgg {bs:List zV}{lo hi:Wl}(z:∀b∈bs,Sz 300 b.pl/\Sz 80 b.sp) (z1:∀x y,lo=some (x,y)->Sz 320 x/\Sz 80 y) (z2:∀x y,hi=some (x,y)->Sz 320 x/\Sz 80 y):TZ bs lo hi:=by
 intro t mt
 unfold tl at mt
 rcases List.mem_append.mp mt with mt | mt
 ·rcases List.mem_append.mp mt with mt | mt
  ·cases lo with
   | none=>cases mt
   | some u=>rw[List.mem_singleton.mp mt];exact z1 _ _ rfl
  ·obtain⟨c,mc,rfl⟩:=List.mem_map.mp mt
   exact⟨(z c mc).1.mono (by decide),(z c mc).2⟩
 ·cases hi with
  | none=>cases mt
  | some u=>rw[List.mem_singleton.mp mt];exact z2 _ _ rfl
end KT
end
section
set_option maxHeartbeats 8000000
set_option Elab.async false
set_option linter.all false
set_option maxRecDepth 100000
namespace KT
open PySem L2 KM KK
open KQ (vT qR v8 TxQ xP qo qF stG rlG brk vF ZR vo)
theorem zdb {m:Rat}:∀{L:List ((Rat×Rat)×(Rat×Rat))}{f:Option Rat},(∀p∈L,p.2.2<p.1.2->mo p.1 p.2=m)->(f=none\/f=some m)->(f=some m\/∃p∈L,p.2.2<p.1.2)->L.foldl qr f=some m
 | [],f,_,_,h=>by
  rcases h with h | ⟨p,mp,_⟩
  ·exact h
  ·cases mp
 | p::L,f,hL,hf,h=>by
  refine zdb (L:=L) (f:=qr f p) (λq mq=>hL q (List.mem_cons_of_mem _ mq)) ?_ ?_
  ·unfold qr
   split
   ·have e:=hL p (List.mem_cons_self ..) ‹_›
    split
    ·exact .inr (by rw[e])
    ·split
     ·exact .inr (by rw[e])
     ·rcases hf with z | z
      ·simp_all
      ·simp_all
   ·exact hf
  ·unfold qr
   by_cases c:p.2.2<p.1.2
   ·rw[if_pos c]
    have e:=hL p (List.mem_cons_self ..) c
    left
    rcases hf with z | z
    ·rw[z];simp[e]
    ·rw[z];simp[e]
   ·rw[if_neg c]
    rcases h with h | ⟨q,mq,lq⟩
    ·exact .inl h
    ·rcases List.mem_cons.mp mq with rfl | mq
     ·exact absurd lq c
     ·exact .inr ⟨q,mq,lq⟩
theorem zf4 {ss:List Rat}(h:ss.Pairwise (·>=·)){a b:Rat}(ma:a∈ss) (mb:b∈ss) (lt:b<a):∃i x y,ss[i]? = some x/\ss[i+1]? = some y/\y<x:=by
 induction ss with
 | nil=>cases ma
 | cons x ss ih =>
  cases ss with
  | nil =>
   rw[List.mem_singleton.mp ma,List.mem_singleton.mp mb]at lt;grind
  | cons y ss =>
   by_cases c:y<x
   ·exact⟨0,x,y,rfl,rfl,c⟩
   ·have hxy:=(List.pairwise_cons.mp h).1 y (List.mem_cons_self ..)
    have e:y=x:=by have:x>=y:=hxy;grind
    have ha':a∈y::ss:=by
     rcases List.mem_cons.mp ma with rfl | m
     ·rw[<-e];exact List.mem_cons_self ..
     ·exact m
    have hb':b∈y::ss:=by
     rcases List.mem_cons.mp mb with rfl | m
     ·rw[<-e];exact List.mem_cons_self ..
     ·exact m
    obtain⟨i,u,v,e1,e2,e3⟩:=ih (List.pairwise_cons.mp h).2 ha' hb'
    exact⟨i+1,u,v,e1,e2,e3⟩
theorem jC {pl m:Rat}{ss:List Rat}(h:ss.Pairwise (·>=·)){a b:Rat}(ma:a∈ss) (mb:b∈ss) (lt:b<a):ju (xK pl m ss)=some m:=by
 unfold ju
 refine zdb (λp mp lp=>?_) (.inl rfl) (.inr ?_)
 ·obtain⟨i,e1,e2⟩:=za7 mp
  unfold xK at e1 e2
  rw[List.getElem?_map]at e1 e2
  cases hs:ss[i]? with
  | none=>rw[hs]at e1;cases e1
  | some s =>
   cases hs':ss[i+1]? with
   | none=>rw[hs']at e2;cases e2
   | some s' =>
    rw[hs]at e1;rw[hs']at e2
    obtain⟨p1,p2⟩:=p
    simp only[Option.map_some,Option.some.injEq]at e1 e2
    subst e1;subst e2
    exact zce lp
 ·obtain⟨i,x,y,e1,e2,e3⟩:=zf4 h ma mb lt
  refine⟨((pl - x*m,x),(pl - y*m,y)),?_,e3⟩
  have g1:(xK pl m ss)[i]? = some (pl - x*m,x):=by unfold xK;rw[List.getElem?_map,e1];rfl
  have g2:(xK pl m ss).tail[i]? = some (pl - y*m,y):=by unfold xK;rw[List.getElem?_tail,List.getElem?_map,e2];rfl
  exact List.mem_of_getElem? (List.getElem?_zip_eq_some.mpr ⟨g1,g2⟩:((xK pl m ss).zip (xK pl m ss).tail)[i]? = some ((pl - x*m,x),(pl - y*m,y)))
theorem zb3 {bs:List zV}{lo hi:Wl}(F:FoR bs lo hi):∃m,ju (tl bs lo hi)=some m/\0<m/\∃pl,(∀b∈bs,b.pl+b.sp*m=pl)/\(∀x y,lo=some (x,y)->x+y*m=pl)/\(∀x y,hi=some (x,y)->x+y*m=pl):=by
 obtain⟨pl,m,z,qs,wh,hL,pm,hD,hw⟩:=F
 have hgt:qs.Pairwise (·>=·):=hD.1.imp λ{a b} g=>by show a>=b;have g:a>b:=g;grind
 obtain⟨⟨q0,m0,s1,s2⟩,n2⟩:=hD.2.2.2.2
 have hpl:∀b∈bs,b.pl+b.sp*m=pl:=λb mb=>by have:=(jO hL mb).2;grind
 rcases hw with⟨rfl,rfl,rfl⟩ | ⟨rfl,rfl,rfl⟩ | ⟨rfl,rfl,rfl⟩
 ·refine⟨m,?_,pm,pl,hpl,λx y e=>(by cases e),λx y e=>(by cases e)⟩
  have e:tl bs none none=xK pl m qs:=by unfold tl;rw[hL];simp[xP]
  rw[e]
  match qs,n2 rfl,hD.1 with
  | a::b::r,_,pw=>exact jC (a:=a) (b:=b) (pw.imp λ{a b} g=>by show a>=b;have g:a>b:=g;grind) (List.mem_cons_self ..) (by simp) ((List.pairwise_cons.mp pw).1 b (List.mem_cons_self ..))
 ·refine⟨m,?_,pm,pl,hpl,λx y e=>(by cases e;grind),λx y e=>(by cases e)⟩
  have e:tl bs (some (pl - z*m,z)) none=xK pl m (z::qs):=by unfold tl;rw[hL];simp[xP,xK]
  rw[e]
  exact jC (a:=z) (b:=q0) (List.pairwise_cons.mpr ⟨λq mq=>hD.2.1 rfl q mq,hgt⟩) (List.mem_cons_self ..) (List.mem_cons_of_mem _ m0) (s1 rfl)
 ·refine⟨m,?_,pm,pl,hpl,λx y e=>(by cases e),λx y e=>(by cases e;grind)⟩
  have e:tl bs none (some (pl - z*m,z))=xK pl m (qs++[z]):=by unfold tl;rw[hL];simp[xP,xK]
  rw[e]
  exact jC (a:=q0) (b:=z) (List.pairwise_append.mpr ⟨hgt,List.pairwise_singleton ..,λa ma b mb=>by rw[List.mem_singleton.mp mb];exact hD.2.2.1 rfl a ma⟩) (List.mem_append_left _ m0) (by simp) (s2 (by decide))
end KT
end
section
set_option maxHeartbeats 8000000
set_option Elab.async false
set_option linter.all false
set_option maxRecDepth 100000
namespace KT
open PySem L2 KM KK
open KQ (vT qR v8 TxQ xP qo qF stG rlG brk vF ZR vo)
theorem Jx {α γ:Type} [DecidableEq α] {ss:List α}{f:Nat->Nat->Option γ}:∀{n:Nat},(∀i,i<n->brk ss i=false)->rlG ss f n=[]/\stG ss n=0
 | 0,_=>⟨rfl,rfl⟩
 | n+1,h=>by
  obtain⟨h1,h2⟩:=Jx (ss:=ss) (f:=f) (n:=n) λi hi=>h i (by omega)
  have hb:=h n (by omega)
  unfold rlG stG
  rw[if_neg (by rw[hb];simp),if_neg (by rw[hb];simp)]
  exact⟨h1,h2⟩
theorem zbn {γ:Type}{ss:List Rat}{f:Nat->Nat->Option γ}{k:Rat}{n:Nat}(hl:ss.length=n+1) (hk:∀x∈ss,x=k):rlG ss f (n+1)=(f 0 n).toList:=by
 have at':∀i,i<n+1->ss[i]? = some k:=λi hi=>by
  rw[List.getElem?_eq_getElem (by omega)]
  rw[hk _ (List.getElem_mem _)]
 have hb:∀i,i<n->brk ss i=false:=λi hi=>by
  unfold brk
  rw[at' i (by omega),at' (i+1) (by omega)]
  simp;omega
 obtain⟨h1,h2⟩:=Jx (ss:=ss) (f:=f) hb
 unfold rlG
 rw[if_pos (by unfold brk;simp[hl]),h1,h2]
 rfl
theorem zdN {bs:List zV}{lo hi:Wl}{m pl:Rat}(n1:1<=bs.length) (hpl:∀b∈bs,b.pl+b.sp*m=pl) (hgo:2<=bs.length\/vG (bs.map (xO m)) (zY m lo) (zY m hi) 0 0=true) :
  grL (bs.map (xO m)) (zY m lo) (zY m hi)=[(0,bs.length - 1,qM (zY m lo) (zY m hi) pl)]:=by
 obtain⟨n,hn⟩:∃n,bs.length=n+1:=⟨bs.length - 1,by omega⟩
 have hk:∀x∈(bs.map (xO m)).map zV.pl,x=pl:=λx mx=>by
  obtain⟨c,mc,rfl⟩:=List.mem_map.mp mx
  obtain⟨b,mb,rfl⟩:=List.mem_map.mp mc
  exact hpl b mb
 unfold grL
 rw[show (bs.map (xO m)).length=n+1 by rw[List.length_map,hn],zbn (n:=n) (by rw[List.length_map,List.length_map,hn]) hk]
 have h0:((bs.map (xO m)).map zV.pl)[0]? = some pl:=by
  have:0<((bs.map (xO m)).map zV.pl).length:=by rw[List.length_map,List.length_map];omega
  rw[List.getElem?_eq_getElem this,hk _ (List.getElem_mem _)]
 unfold fL
 rw[if_pos (by
  by_cases z:n=0
  ·right;subst z
   rcases hgo with g | g
   ·omega
   ·exact g
  ·left;omega),h0]
 rw[hn]
 rfl
structure FoG (bs:List zV) (lo hi:Wl) (m:Rat) (side:Str):Prop where
 soon:ju (tl bs lo hi)=some m
 pos:0<m
 gr:grL (bs.map (xO m)) (zY m lo) (zY m hi)=[(0,bs.length - 1,side)]
 wall:(side = ""/\lo=none/\hi=none/\2<=bs.length)\/(side = "low"/\hi=none/\∃u,lo=some u)\/(side = "high"/\lo=none/\∃u,hi=some u)
theorem fo_g {bs:List zV}{lo hi:Wl}(F:FoR bs lo hi) (n1:1<=bs.length):∃m side,FoG bs lo hi m side:=by
 obtain⟨pl,m,z,qs,wh,hL,pm,hD,hw⟩:=id F
 obtain⟨m',hs,pm',pl',hpl,hlo,hhi⟩:=zb3 F
 have hql:qs.length=bs.length:=by have:=congrArg List.length hL;unfold xK at this;simpa using this.symm
 obtain⟨⟨q0,m0,s1,s2⟩,n2⟩:=hD.2.2.2.2
 have hone:bs.length=1->∃b,bs=[b]/\b.sp=q0:=λh=>by
  match bs,h with
  | [b],_ =>
   refine⟨b,rfl,?_⟩
   have hm:=(jO hL (b:=b) (List.mem_cons_self ..)).1
   match qs,hql with
   | [q],_=>rw[List.mem_singleton.mp hm,List.mem_singleton.mp m0]
 have hb0:∀b,bs=[b]->b.pl+b.sp*m'=pl':=λb e=>hpl b (by rw[e];simp)
 have done:∀side:Str,qM (zY m' lo) (zY m' hi) pl'=side->(2<=bs.length\/vG (bs.map (xO m')) (zY m' lo) (zY m' hi) 0 0=true)->_->FoG bs lo hi m' side:=λside es hg w=>⟨hs,pm',by rw[<-es];exact zdN n1 hpl hg,w⟩
 rcases hw with⟨rfl,rfl,rfl⟩ | ⟨rfl,rfl,rfl⟩ | ⟨rfl,rfl,rfl⟩
 ·exact⟨m',"",done "" rfl (.inl (by have:=n2 rfl;omega)) (.inl ⟨rfl,rfl,rfl,by have:=n2 rfl;omega⟩)⟩
 ·have ew:=hlo _ _ rfl
  have ea:atW (zY m' (some (pl - z*m,z))) pl'=true:=decide_eq_true ew
  refine⟨m',"low",done "low" (JC ea) ?_ (.inr (.inl ⟨rfl,rfl,_,rfl⟩))⟩
  by_cases h2:2<=bs.length
  ·exact .inl h2
  ·obtain⟨b,rfl,eb⟩:=hone (by omega)
   refine .inr ?_
   have hp:=hb0 b rfl
   rw[Qd (ca:=xO m' b) (cb:=xO m' b) rfl rfl]
   rw[show atW (zY m' (some (pl - z*m,z))) (xO m' b).pl=true from by show decide _=true;rw[decide_eq_true_eq];exact ew.trans hp.symm,if_pos rfl]
   show decide (b.sp<z)=true
   rw[decide_eq_true_eq,eb];exact s1 rfl
 ·have ew:=hhi _ _ rfl
  have ea:atW (zY m' (some (pl - z*m,z))) pl'=true:=decide_eq_true ew
  refine⟨m',"high",done "high" (by rw[Qs rfl,if_pos ea]) ?_ (.inr (.inr ⟨rfl,rfl,_,rfl⟩))⟩
  by_cases h2:2<=bs.length
  ·exact .inl h2
  ·obtain⟨b,rfl,eb⟩:=hone (by omega)
   refine .inr ?_
   have hp:=hb0 b rfl
   rw[Qd (ca:=xO m' b) (cb:=xO m' b) rfl rfl]
   rw[show atW (zY m' none) (xO m' b).pl=false from rfl,if_neg (by simp),show atW (zY m' (some (pl - z*m,z))) (xO m' b).pl=true from by show decide _=true;rw[decide_eq_true_eq];exact ew.trans hp.symm,if_pos rfl]
   show decide (z<b.sp)=true
   rw[decide_eq_true_eq,eb];exact s2 (by decide)
end KT
end
section
set_option maxHeartbeats 8000000
set_option Elab.async false
set_option linter.all false
set_option maxRecDepth 100000
namespace L2
open PySem PySem.Spec PyProof.Rows PySem.W
theorem zgf {M:Model}{h:Heap}{a:Addr}{o:Obj}{c:Value}(e:h.get? a=some o) (k:o.cls=c):Looks M h (typeOf (.ref a)) c:=by
 subst k;exact(Looks.ld e).andThen .now
section
variable {X:Cx}{i:Nat}{x n:Str}{C:Addr}{np hpos pos:Pos}{body suite:List Stmt}{b₀:Stmt}{tb:XJ->TS}{ts:Addr->Option Addr->TS}
theorem zcy {Dc:Addr}(hst:X.stack=X.env::X.outer) (hfr:X.env.frame=some X.env.locals) (hm:X.mg x=some (.ref Dc)) (hx:exmOne X.K (.ref C) (.ref Dc)=some true) (hN:X.N.Nodup) (hi:X.N[i]? = some n) (hk:X.env.kindOf n=some .local)
  (hb:∀pins W J,VV (X.tried pins W) J->PSs (X.tried pins W) body (tb J)) (hs:∀pins a oe d vs,oe.cls = .ref C->oe.dict=d->oe.data = .fields vs->PSs (X.suite pins a oe) (b₀::suite) (ts a d))
  (hg:Gl X x:=by rfl) (hd:(x == ("__debug__":Str))=false:=by decide) :
  PS X (.Try body [.ExceptHandler (some (.Name x np)) (some n) (b₀::suite) hpos] [] [] pos) (tTry i C tb ts):=by
 intro pins s σ H D I h
 have hb':=hb pins (λe s₁=>wpAny (model X.prog X.w) X.A (noteFrame e X.env) (λ_ s₂=>wpAny (model X.prog X.w) X.A (setFlight e none) (λ_ s₃ =>
  wpAny (model X.prog X.w) X.A (handleBy e X.env [.ExceptHandler (some (.Name x np)) (some n) (b₀::suite) hpos]) (SP X pins D) X.xe s₃) X.xe s₂) X.xe s₁) _ ?_ [] s σ H D (I.tried _) h
 ·refine wpAny_Try_except (wpAny_mono hb' (λf s1 hf=>?_) λ_ _ z=>z)
  cases f with
  | next=>obtain⟨σ',H',I',q⟩:=hf;exact wpAny_execs_nil ⟨σ',H',I'.untried I.ok,q⟩
  | brk=>obtain⟨σ',H',I',q⟩:=hf;exact⟨σ',H',I'.untried I.ok,q⟩
  | cont=>obtain⟨σ',H',I',q⟩:=hf;exact⟨σ',H',I'.untried I.ok,q⟩
  | ret u=>obtain⟨v,σ',H',I',r,q⟩:=hf;exact⟨v,σ',H',I'.untried I.ok,r,q⟩
 ·intro pins' σ' H1 s1 a C' H' s' B a0 dct I1 F hq
  obtain⟨rfl,q⟩:=hq
  have I1:=I1.untried I.ok
  have hfrm:X.A.frames=some (X.env::X.outer):=by rw[<-hst];exact I.ok.frames
  have F:Fly X.prog X.w X.stack H1 s1 C' H' a s' B a0 dct:=F
  have Ffl:FlX B (X.env::X.outer) a (.ref C') a0 dct s'.heap:=by rw[<-hst];exact F.fly
  refine Jg hfrm hfr Ffl λh4 held up4=>?_
  refine ZK held λh5 fl5 up5=>?_
  have F5:=F.move (by rw[hst];exact fl5) (up4.trans up5)
  have I5:=I1.call' F5.os F5.un F5.hok F5.bare (λb z=>absurd z (by simp))
  obtain⟨ob,hob,hobc⟩:=fl5.there
  refine wpAny_handleBy_cons (codeAny_handlers_test (jb (X:=X.testing a) (I5.test a) hg hm ?_ hd)) (by intro q;cases q)
  obtain⟨hh,g,d,tk,os⟩:=s'
  refine(exm_one (M:=model X.prog X.w) I5.kIn (zgf hob hobc) hx).here (codeAny_handlers_suite_as ?_)
  refine ZK fl5.held λh6 fl6 up6=>?_
  have F6:=F5.move (by rw[hst];exact fl6) up6
  have I6:=I1.call' F6.os F6.un F6.hok F6.bare (λb z=>absurd z (by simp))
  obtain⟨oe,ws,hoe,hoec,hoet,hoed⟩:=fl6.first
  refine jv (X:=X.suite pins a oe) (I6.suite hoe hoed F6.untracked) hN hi (.inl hk) (v:=.ref a) rfl (λs7 I7=>?_) (.inr hk)
  refine wpAny_mono (hs pins a oe dct ws hoec hoet hoed [] s7 _ H' (D.gone i) I7 (q a F6.untracked)) (λf s8 hf=>?_) λ_ _ z=>z.elim
  cases f with
  | next=>obtain⟨σ8,H8,I8,q8⟩:=hf;exact ZI (I8.unsuite I.ok) hN hi hk λs9 I9=>⟨_,_,I9,q8⟩
  | brk=>obtain⟨σ8,H8,I8,q8⟩:=hf;exact ZI (I8.unsuite I.ok) hN hi hk λs9 I9=>⟨_,_,I9,q8⟩
  | cont=>obtain⟨σ8,H8,I8,q8⟩:=hf;exact ZI (I8.unsuite I.ok) hN hi hk λs9 I9=>⟨_,_,I9,q8⟩
  | ret u=>obtain⟨v,σ8,H8,I8,r8,q8⟩:=hf;exact ZI (I8.unsuite I.ok) hN hi hk λs9 I9=>⟨_,_,_,I9,r8,q8⟩
end
section
variable {X:Cx}
theorem Zs {K:PySem.W.Frag}{a:Addr}{oe:Obj}{C:Addr}{d:Option Addr}{vs:Array Value}(hK:X.K=K) (hp:(a,oe)∈X.pn) (hc:oe.cls = .ref C) (hdd:oe.dict=d) (hd:oe.data = .fields vs) (Z:QB K C) :
  vN X (.builtin "isinstance") (λxs H Q=>∃x c b,xs=[.ref a,x]/\(d=none\/∃dx fs,d=some dx/\H dx=some (.xd fs))/\xj x c/\(∀u,xj x u->u=c)/\PySem.W.kitOne K (.ref C) c=some b/\Q (.bl b) H):=by
 subst hK;exact Qa hp hc hdd hd Z
theorem zed {K:PySem.W.Frag}{o e:Expr}{es:List Expr}{to:TE}{t:TA}{apos cpos:Pos}(hK:X.K=K) (ho:PE X o to) (ha:PA X (e::es) t)
  (hbase:attributeBase o "append" X.env (eval o X.env)=eval o X.env:=by rfl)
  (hfew:((backTo cpos (starEach (e::es) X.env)).all (λx=>!x.1)&&(backToKw cpos (keywordEach [] X.env)).all (λx=>x.1.isSome)
   && decide ((e::es).length+([]:List Keyword).length+(if([]:List Keyword).isEmpty then 0 else 1)<30))=true:=by rfl)
  (hline:(apos.endLine == cpos.line)=true:=by rfl) (hs:starEach (e::es) X.env=(false,eval e X.env)::starEach es X.env:=by rfl) (hplain:(backTo cpos (starEach es X.env)).any (·.1)=false:=by rfl) :
  PE X (.Call (.Attribute o "append" apos) (e::es) [] cpos) (tBM K "list" Jv to t):=by
 subst hK
 exact ZA PySem.F.plainAttrs_list PySem.F.slot_list_append PySem.F.type_list_append qv ho ha hbase hfew hline hs hplain
theorem Jw:∀{Cs:List Addr}{its:List Value},zU (Cs.map V.ref) its->its=Cs.map Value.ref
 | [],_,.nil=>rfl
 | D::Ds,_,.cons r t=>by
  have e:=Jw t
  obtain rfl:=(show _=Value.ref D from r)
  rw[List.map_cons,e]
theorem QI {a:Addr}{oe:Obj}{C:Addr}{d:Option Addr}{vs:Array Value}{K:PySem.W.Frag}(hK:X.K=K) (hp:(a,oe)∈X.pn) (hc:oe.cls = .ref C) (hdd:oe.dict=d) (hd:oe.data = .fields vs) (Z:QB K C) :
  vN X (.builtin "isinstance") (λxs H Q=>∃(tp:Addr) (Cs:List Addr) (b:Bool),xs=[.ref a,.ref tp]/\(d=none\/∃dx fs,d=some dx/\H dx=some (.xd fs))/\H tp=some (.tup (Cs.map V.ref))/\PySem.W.kitAny K (.ref C) (Cs.map Value.ref)=some b/\Q (.bl b) H):=by
 subst hK
 intro pins s σ H xs us Q I r h
 obtain⟨tp,Cs,b,rfl,hx,htp,e,q⟩:=h
 obtain⟨u,w',rfl,r1,r2⟩:=ZE r
 cases(show u=Value.ref a from r1)
 cases(show w'=Value.ref tp from r2)
 have g1:=(I.pin _ (List.mem_append_left _ hp)).1
 have hI:∃od,InstAt s.heap a oe C od:=by
  rcases hx with rfl | ⟨dx,fs,rfl,edx⟩
  ·exact⟨none,g1,hc,by unfold notCls;rw[hd],by rw[hdd];trivial⟩
  ·obtain⟨mA,⟨o,es,ep,ho,_⟩,_⟩:=(show xo X.prog X.w H s.heap dx (.xd fs)from I.hok dx _ edx)
   exact⟨some o,g1,hc,by unfold notCls;rw[hd],by rw[hdd];exact ho⟩
 obtain⟨od,hI⟩:=hI
 obtain⟨_,its,rv,ht⟩:=(show xo X.prog X.w H s.heap tp (.tup (Cs.map V.ref))from I.hok tp _ htp)
 have eits:its=Cs.map Value.ref:=Jw rv
 subst eits
 obtain⟨⟨cls,dd,data,sl⟩,ho,hcl,n,hdat⟩:=ht
 simp only at hcl hdat
 subst hcl hdat
 exact PySem.W.kia_tup (QP Z) I.kIn ⟨oe,od,hI⟩ ho e (λz=>nomatch z) λtk=>⟨.bl b,H,I.tok tk,rfl,q⟩
end
end L2
namespace KT
open PySem L2 KM KK
open KQ (vT qR v8 TxQ xP qo qF stG rlG brk vF ZR vo zeq In soon chO qP tkO laQ laP)
def qG (bs:List zV) (side:Str):Bool:=(decide (side = "")&&decide (bs.length=2)) || KQ.qL (bs.map zV.wt)
theorem zel {ws:List Int}(h:1<=ws.length):KQ.xV ws 0 (ws.length - 1)=ws:=by
 unfold KQ.xV vU
 rw[show (((ws.length - 1:Nat):Int)+1)=((ws.length:Nat):Int) by omega,show (some ((0:Nat):Int))=some ((0:Nat):Int)from rfl,HT.sIx_nat,HT.sIx_nat]
 simp
theorem wts (bs:List zV):(bs.map bl).map KQ.Bl.wt=bs.map zV.wt:=by rw[List.map_map];rfl
theorem zb1 {bs:List zV}{lo hi:Wl}{m:Rat}{side:Str}(F:FoG bs lo hi m side) (n1:1<=bs.length) :
  KQ.vP (KQ.xq side (KQ.S0 (bs.map bl) lo hi).lo (KQ.S0 (bs.map bl) lo hi).hi) (KQ.xV ((bs.map bl).map KQ.Bl.wt) 0 (bs.length - 1))=(decide (side = "")&&decide (bs.length=2))/\KQ.qL (KQ.xV ((bs.map bl).map KQ.Bl.wt) 0 (bs.length - 1))=KQ.qL (bs.map zV.wt):=by
 have e:KQ.xV ((bs.map bl).map KQ.Bl.wt) 0 (bs.length - 1)=bs.map zV.wt:=by
  rw[wts]
  have:=zel (ws:=bs.map zV.wt) (by rw[List.length_map];exact n1)
  rw[List.length_map]at this;exact this
 rw[e]
 refine⟨?_,rfl⟩
 unfold KQ.vP
 rw[List.length_map]
 rcases F.wall with⟨rfl,rfl,rfl,_⟩ | ⟨rfl,rfl,u,rfl⟩ | ⟨rfl,rfl,u,rfl⟩
 ·rfl
 ·rfl
 ·rfl
theorem XD {ws:List Int}{l:List (Nat×Nat×Str)}{a b:KQ.SC}(h:KQ.Zr ws l a b) (e:l=[]):b=a:=by
 cases h with
 | nil=>rfl
 | snoc h r=>simp at e
theorem JY {ws:List Int}{g:Nat×Nat×Str}{a b:KQ.SC}(h:KQ.Zr ws [g] a b):KQ.RbS ws g a b:=by
 generalize hl:[g]=l at h
 cases h with
 | nil=>cases hl
 | @snoc gs g' _ s _ h r =>
  match gs,hl,h with
  | [],hl,h =>
   have e2:g=g':=by simpa using hl
   have e3:=XD h rfl
   rw[e2];subst e3;exact r
  | x::xs,hl,h=>simp at hl
section
variable {P:Program}{w:World}{K:PySem.W.Frag}{mg:Str->Option Value}{base:Heap}{C CS CT Tb C0 C1 C2 C3 C4:Addr}
def zep (Tb:Addr):Sp:=λvs H Q _=>∃r wl us v1 v2 bs lo hi m side,vs=[.ref r,.ref wl]/\H r=some (.tup us)/\zR H us bs/\H wl=some (.tup [v1,v2])/\xp H v1 lo/\xp H v2 hi/\1<=bs.length/\bs.length<=8/\TZ bs lo hi/\Ord bs lo hi/\FoG bs lo hi m side/\(∀b∈bs,1<=b.wt/\b.wt<=1000)/\qN Tb laQ laP H ∧
 (qG bs side=true->∀L H',StT Tb H H'->qN Tb laQ laP H'->H' L=some (.lst [])->Q (.ref L) H') ∧
 (qG bs side=false->∀L p H',StT Tb H H'->qN Tb laQ laP H'->H' L=some (.lst [.ref p,.bl true,.bl true,.bl false])->zF H' p m->Q (.ref L) H')
theorem Jy:zG ["row","walls","found","e"] ["row","walls"] (zg qz):=⟨rfl,rfl,rfl,by decide +kernel,rfl,by decide +kernel,by decide +kernel⟩
theorem zeW (D:Df K mg "_law_asked" qz ["row","walls"] []) (T:TxQ K mg) (mT:mg "Together" = some (.ref CT)) (hx:PySem.W.exmOne K (.ref CT) (.ref CT)=some true) (Z:QB K CT) (nA:xz K CT "moment") (m0:mg "ClackError" = some (.ref C0)) (nVE:mg "ValueError" = none) (m1:mg "Shut" = some (.ref C1)) (m2:mg "TooMany" = some (.ref C2)) (m3:mg "NotEven" = some (.ref C3)) (m4:mg "NoBall" = some (.ref C4))
  (k0:PySem.W.kitOne K (.ref CT) (.ref C0)=some true) (kv:PySem.W.kitOne K (.ref CT) (.type "ValueError")=some true) (ka:PySem.W.kitAny K (.ref CT) [.ref C1,.ref C2,.ref C3,.ref C4]=some false) (cBh:jZ P w K mg base "behind" 6 ["row","walls"] [] (zeq C CS CT Tb)):Cal P w K mg base "_law_asked" 7 ["row","walls"] [] (zep Tb):=by
 refine D.cal (k:=6) Jy (λvs H Q E h=>by obtain⟨_,_,_,_,_,_,_,_,_,_,rfl,_⟩:=h;rfl) (λf0 cdv A outer s H vs Q E hr h=>?_)
 obtain⟨r,wl,us,v1,v2,bs,lo,hi,m,side,rfl,hrr,hB,hwl,hv1,hv2,n1,h8,hz,O,F,hw,T0,k1,k2⟩:=h
 refine⟨_,(zj (zL (i:=2) Jy.nd rfl (Or.inl rfl) (xB ze)) (zj (zcy (i:=3) (C:=CT) rfl rfl mT hx Jy.nd rfl rfl (λpins W J hJ=>(zi (xU (Jp cBh hr hJ (za (pv 0) (za (pv 1) ze)))))) (λpins a oe d vs hc hdd hdt=>(zj (zL (i:=2) Jy.nd rfl (Or.inl rfl) (xB (za (zfu (List.mem_append_right _ (List.mem_append_right _ (List.mem_singleton.mpr rfl))) hc hdd hdt Z nA (pv 3) (by rfl)) (za (zZ (Zs (K:=K) rfl (List.mem_append_right _ (List.mem_append_right _ (List.mem_singleton.mpr rfl))) hc hdd hdt Z) (by rfl) T.nIs PyProof.Rows.boot_isinstance (za (pv 3) (za (jS (v:=.ref C0) (by rfl) m0 rfl) ze))) (za (zZ (Zs (K:=K) rfl (List.mem_append_right _ (List.mem_append_right _ (List.mem_singleton.mpr rfl))) hc hdd hdt Z) (by rfl) T.nIs PyProof.Rows.boot_isinstance (za (pv 3) (za (Qj (v:=.ty "ValueError") (u:=.type "ValueError") (by rfl) nVE (by decide +kernel) rfl) ze))) ze))))) (zi (xU (zed (K:=K) rfl (pv 2) (za (zZ (QI (K:=K) rfl (List.mem_append_right _ (List.mem_append_right _ (List.mem_singleton.mpr rfl))) hc hdd hdt Z) (by rfl) T.nIs PyProof.Rows.boot_isinstance (za (pv 3) (za (xv (za (jS (v:=.ref C1) (by rfl) m1 rfl) (za (jS (v:=.ref C2) (by rfl) m2 rfl) (za (jS (v:=.ref C3) (by rfl) m3 rfl) (za (jS (v:=.ref C4) (by rfl) m4 rfl) ze))))) ze))) ze))))))) (zi (zM (pv 2))))),?_⟩
 refine⟨by show 0<=sizeLine;exact Nat.zero_le _,λl0 hl0=>?_⟩
 have s1:=zh.upd (o:=.lst []) hl0
 have hl0':upd H l0 (.lst []) l0=some (.lst []):=zf
 generalize upd H l0 (.lst [])=G1 at s1 hl0' ⊢
 dsimp only[zN]
 have S1r:=s1 _ _ hrr
 have hB1:=hB.same s1
 have hv11:=hv1.tups (zT.of s1)
 have hv21:=hv2.tups (zT.of s1)
 have I:=zde S1r hB1 (s1 _ _ hwl) hv11 hv21 h8 hz
 have B:=bot h8 hz
 have R:=JF B
 have T1:=T0.same s1
 obtain⟨fp1,fp2⟩:=zb1 F n1
 have sh:qo lo hi=none:=by
  rcases F.wall with⟨_,rfl,_⟩ | ⟨_,rfl,_⟩ | ⟨_,rfl,_⟩
  ·rfl
  ·cases lo <;> rfl
  ·rfl
 have hbd:KQ.BdS 4200 (KQ.S0 (bs.map bl) lo hi):=by
  refine⟨B.pz.mono (by decide),B.sz.mono (by decide),B.p0,B.s0,λt mt=>?_,λl e=>?_,λl e=>?_⟩
  ·have:=I.bd t (List.mem_append_left _ (List.mem_append_right _ mt))
   exact⟨this.1.mono (by decide),this.2.mono (by decide)⟩
  ·have e':lo.map (KQ.trB (KQ.pbO (bs.map bl) lo hi) (KQ.sbO (bs.map bl) lo hi))=some l:=e
   have:=I.bd l (List.mem_append_left _ (List.mem_append_left _ (by rw[e'];simp[KQ.QT])))
   exact⟨this.1.mono (by decide),this.2.mono (by decide)⟩
  ·have e':hi.map (KQ.trB (KQ.pbO (bs.map bl) lo hi) (KQ.sbO (bs.map bl) lo hi))=some l:=e
   have:=I.bd l (List.mem_append_right _ (by rw[e'];simp[KQ.QT]))
   exact⟨this.1.mono (by decide),this.2.mono (by decide)⟩
 have gse:∀{t:Int×Int},soon (chO (bs.map bl) lo hi)=some t->qP (tkO (bs.map bl) lo hi) t=m/\KQ.gsO (bs.map bl) lo hi t=[(0,bs.length - 1,side)]:=λ{t} e=>by
  rcases R with⟨e1,_⟩ | ⟨t',m',e1,e2,pt,em⟩
  ·rw[e]at e1;cases e1
  ·rw[e]at e1;cases e1
   rw[F.soon]at e2;cases e2
   refine⟨em,?_⟩
   have:=zdc B O pt em F.pos
   rw[F.gr]at this
   exact this
 refine⟨_,rfl,_,rfl,r,wl,bs.map bl,lo,hi,rfl,I,T1,λb mb=>?_,hbd,?_,?_,?_,?_⟩
 ·obtain⟨c,mc,rfl⟩:=List.mem_map.mp mb;exact hw c mc
 ·intro H2 s2 e
  rcases R with⟨_,e2⟩ | ⟨t,m',e1,_⟩
  ·rw[F.soon]at e2;cases e2
  ·rw[e]at e1;cases e1
 ·intro t S p mm r' wa' us' w1 w2 H2 e _ ch st tb _ _ _ _ _ _ _
  obtain⟨em,eg⟩:=gse e
  rw[eg]at ch
  have hf:qG bs side=true:=by
   unfold qG
   rcases JY ch with⟨hp,_⟩ | ⟨_,hs,_⟩
   ·have hp':KQ.vP _ _=true:=hp
    rw[fp1]at hp';rw[hp'];rfl
   ·have hs':KQ.qL _=true:=hs
    rw[fp2]at hs';rw[hs',Bool.or_true]
  exact⟨_,rfl,k1 hf l0 H2 (λb o eb nb=>st b o (s1 _ _ eb) nb) tb (st _ _ hl0' (λz=>by obtain⟨ps,gT,_⟩:=T1;rw[z,gT]at hl0';cases hl0'))⟩
 ·intro t p dx H2 s2 e em _ _
  rw[sh]at em;cases em
 ·intro t S pre g suf p dx H2 e _ es ch rf st tb hxd hp
  obtain⟨em,eg⟩:=gse e
  rw[eg]at es
  have hf:qG bs side=false:=by
   match pre,es,ch with
   | [],es,ch =>
    injection es with e1 e2
    have e3:=XD ch rfl
    subst e3
    subst e1
    obtain⟨h1,h2⟩:=rf
    have h1':KQ.vP _ _=false:=h1
    have h2':KQ.qL _=false:=h2
    rw[fp1]at h1';rw[fp2]at h2'
    unfold qG;rw[h1',h2'];rfl
   | x::xs,es,ch=>simp at es
  rw[em]at hp
  refine⟨CT,rfl,rfl,λae hae=>?_⟩
  refine⟨_,rfl,dx,_,_,rfl,rfl,hxd,rfl,?_⟩
  refine⟨_,rfl,_,_,true,rfl,.inr ⟨dx,_,rfl,hxd⟩,rfl,λ_ z=>z,k0,?_⟩
  refine⟨_,rfl,_,_,true,rfl,.inr ⟨dx,_,rfl,hxd⟩,rfl,λ_ z=>z,kv,by show 3<=sizeLine;decide,λL hL=>?_⟩
  have s5:=zh.upd (o:=.lst [.ref p,.bl true,.bl true]) hL
  have hL5:upd H2 L (.lst [.ref p,.bl true,.bl true]) L=some (.lst [.ref p,.bl true,.bl true]):=zf
  generalize upd H2 L (.lst [.ref p,.bl true,.bl true])=G5 at s5 hL5 ⊢
  dsimp only[zN]
  refine⟨_,rfl,.inl ⟨rfl,_,.of hL5⟩,_,rfl,by show 4<=sizeLine;decide,λtp htp=>?_⟩
  have s6:=zh.upd (o:=.tup [.ref C1,.ref C2,.ref C3,.ref C4]) htp
  refine⟨tp,[C1,C2,C3,C4],false,rfl,.inr ⟨dx,_,rfl,s6 _ _ (s5 _ _ hxd)⟩,zf,ka,L,_,_,rfl,rfl,s6 _ _ hL5,by show 3<sizeLine;decide,?_⟩
  have S56:=s5.trans s6
  have nLb:H2 L=none:=hL
  have same7:zh H2 (upd (upd G5 tp (.tup [.ref C1,.ref C2,.ref C3,.ref C4])) L (.lst ([.ref p,.bl true,.bl true]++[.bl false]))):=λb o eb=>by
   rw[zB (zC eb nLb)];exact S56 _ _ eb
  exact⟨_,rfl,k2 hf L p _ (λb o eb nb=>same7 _ _ (st b o (s1 _ _ eb) nb)) (tb.same same7) zf (same7 _ _ hp)⟩
end
end KT
end
section
set_option maxHeartbeats 8000000
set_option Elab.async false
set_option linter.all false
set_option maxRecDepth 100000
namespace L2
open PySem PySem.Spec PyProof.Rows
section
variable {X:Cx}
def zfw (K:PySem.W.Frag):R2:=λx y H Q=>∃l b xs zs,x = .ref l/\y = .ref b/\SqL K H l xs/\SqL K H b zs/\xs.length+zs.length<=sizeLine/\∀p,H p=none->Q (.ref p) (upd H p (.lst (xs++zs)))
theorem zcs:OpR X (binaryOp .Add) (zfw X.K):=by
 intro pins s σ H x y v u Q I rx ry h
 obtain⟨l,b,xs,zs,rfl,rfl,hH,hB,hz,q⟩:=h
 cases rx
 cases ry
 obtain⟨its,r,pl,z⟩:=I.list hH
 obtain⟨its2,r2,pl2,z2⟩:=I.list hB
 have e1:=r.length
 have e2:=r2.length
 obtain⟨⟨cls,dd,data,sl⟩,n,ho,hc,hdn,hd⟩:=pl
 obtain⟨⟨cls2,dd2,data2,sl2⟩,n2,ho2,hc2,hdn2,hd2⟩:=pl2
 simp only at hc hd hc2 hd2
 subst hc hd hc2 hd2
 refine concat_meets ⟨_,ho,rfl⟩ ⟨_,ho2,rfl⟩ noFill_list_add seq_list_add PySem.F.slot_list_add PySem.F.entry_list_add (PySem.F.args_list_add_2 _ _) (list_addW l b its.toArray its2.toArray n n2 dd dd2 sl sl2 (by simp only[List.size_toArray];omega)) ⟨ho,ho2,?_⟩
 have ea:its.toArray++its2.toArray=(its++its2).toArray:=by simp
 rw[ea]
 exact⟨.ref _,_,I.lnew (t':=s.toks) (r.append r2) (by rw[List.length_append];omega),rfl,q _ I.fresh⟩
end
theorem jZ.quiet {P:Program}{w:World}{K:PySem.W.Frag}{mg:Str->Option Value}{base:Heap}{x:Str}{k:Nat}{ps:List Str}{dvs:List V}{sp sp':Sp}(c:jZ P w K mg base x k ps dvs sp) (h:∀vs H Q E,sp' vs H Q E->sp vs H Q λ_ _ _=>False):Cal P w K mg base x k ps dvs sp':=by
 obtain⟨f,fd,ds,F,r⟩:=c.ex
 refine⟨⟨f,fd,ds,⟨λvs H Q E q=>F.len vs H Q _ (h vs H Q E q),λA outer s H args us vs Q E hr e0 hb hv q=>?_⟩,r⟩⟩
 refine codeAny_mono (F.run A outer s H args us vs Q _ hr e0 hb hv (h vs H Q E q)) λrr s' hq=>?_
 cases rr with
 | ok fl=>cases fl <;> exact hq
 | error e=>obtain⟨_,_,_,_,_,_,_,_,z⟩:=hq;exact z.elim
end L2
namespace KT
open PySem L2 KM KK
open KQ (vT qR v8 TxQ xP qo qF stG rlG brk vF ZR vo zcT In soon chO qP tkO laQ laP)
theorem zao {G0 G1 G':Hp}{p:Addr}(s:zh G0 G1) (hp:G0 p=none) (t:xu p G1 G'):zh G0 G':=λb o e=>t.keep b o (s b o e) (zC e hp)
section
variable {P:Program}{w:World}{K:PySem.W.Frag}{mg:Str->Option Value}{base:Heap}{CS Tb:Addr}
def zfR:Sp:=λvs H Q _=>∃r wa us v1 v2 bs lo hi m side,vs=[.ref r,.ref wa]/\H r=some (.tup us)/\zR H us bs/\H wa=some (.tup [v1,v2])/\xp H v1 lo/\xp H v2 hi/\1<=bs.length/\bs.length<=8/\TZ bs lo hi/\Ord bs lo hi/\FoG bs lo hi m side/\∀v H',zh H H'->RdD H' v (coD m (grL (bs.map (xO m)) (zY m lo) (zY m hi)))->Q v H'
theorem zb2 {bs:List zV}{lo hi:Wl}{m:Rat}{side:Str}(F:FoG bs lo hi m side):qo lo hi=none:=by
 rcases F.wall with⟨_,rfl,_⟩ | ⟨_,rfl,_⟩ | ⟨_,rfl,_⟩
 ·rfl
 ·cases lo <;> rfl
 ·rfl
theorem zfa (c:jZ P w K mg base "next_coming" 6 ["row","walls"] [] (zcT CS)):Cal P w K mg base "next_coming" 6 ["row","walls"] [] zfR:=by
 refine c.quiet λvs H Q E h=>?_
 obtain⟨r,wa,us,v1,v2,bs,lo,hi,m,side,rfl,hr,hB,hw,h1,h2,n1,h8,hz,O,F,k⟩:=h
 have I:=zde hr hB hw h1 h2 h8 hz
 have B:=bot h8 hz
 have R:=JF B
 refine⟨r,wa,bs.map bl,lo,hi,rfl,I,λH' s e=>?_,λt p mm G H' s e _ hp hm _ hgs=>?_,λt p dx H' s e em _ _=>?_⟩
 ·rcases R with⟨_,e2⟩ | ⟨t,m',e1,_⟩
  ·rw[F.soon]at e2;cases e2
  ·rw[e]at e1;cases e1
 ·rcases R with⟨e1,_⟩ | ⟨t',m',e1,e2,pt,em⟩
  ·rw[e]at e1;cases e1
  ·rw[e]at e1;cases e1
   rw[F.soon]at e2;cases e2
   rw[zdc B O pt em F.pos]at hgs
   rw[em]at hm
   obtain⟨gs,g1,g2⟩:=hgs
   exact k _ _ s (.tup hp (.cons (Ze hm) (.cons (.lst g1 (Vs g2)) .nil)))
 ·rw[zb2 F]at em;cases em
end
end KT
end
section
set_option maxHeartbeats 8000000
set_option Elab.async false
set_option linter.all false
set_option maxRecDepth 100000
namespace L2
open PySem
mutual
theorem RdD.st {H H':Hp}(e:∀b o,(∀ps,o≠.tbl ps)->H b=some o->H' b=some o):∀{v:V}{d:PyData},RdD H v d->RdD H' v d
 | _,_,.non=>.non
 | _,_,.bl b=>.bl b
 | _,_,.int i=>.int i
 | _,_,.str x=>.str x
 | _,_,.tup h r=>.tup (e _ _ (λ_ z=>by cases z) h) (vq.st e r)
 | _,_,.lst h r=>.lst (e _ _ (λ_ z=>by cases z) h) (vq.st e r)
theorem vq.st {H H':Hp}(e:∀b o,(∀ps,o≠.tbl ps)->H b=some o->H' b=some o):∀{vs:List V}{ds:List PyData},vq H vs ds->vq H' vs ds
 | _,_,.nil=>.nil
 | _,_,.cons h t=>.cons (RdD.st e h) (vq.st e t)
end
end L2
namespace KT
open PySem L2 KM KK
def wtD (ws:List Int):PyData:=.list (ws.map PyData.int)
theorem VL {H:Hp}:∀(ws:List Int),vq H (ws.map V.int) (ws.map PyData.int)
 | []=>.nil
 | x::ws=>.cons (.int x) (VL ws)
theorem za3 (ws:List Int):Lay 1 (wtD ws):=Lay.lst λd m=>by obtain⟨x,_,rfl⟩:=List.mem_map.mp m;exact Lay.int x
theorem Zu:∀(xs ys:List Int),PyData.eqvAll (xs.map PyData.int) (ys.map PyData.int)=decide (xs=ys)
 | [],[]=>rfl
 | [],_::_=>rfl
 | _::_,[]=>rfl
 | x::xs,y::ys=>by
  show (PyData.eqv (.int x) (.int y)&&PyData.eqvAll (xs.map PyData.int) (ys.map PyData.int))=_
  rw[Zu xs ys]
  show (x == y&&decide (xs=ys))=_
  by_cases h:x=y
  ·subst h;simp
  ·simp[h]
theorem zdK (xs ys:List Int):PyData.eqv (wtD xs) (wtD ys)=decide (xs=ys):=Zu xs ys
theorem zbp {ws:List Int}(h:1<=ws.length):decide (ws=List.replicate ws.length (ws.headD 0))=KQ.qL ws:=by
 unfold KQ.qL
 rw[Bool.eq_iff_iff,decide_eq_true_eq,List.all_eq_true]
 constructor
 ·intro e x m
  rw[decide_eq_true_eq]
  rw[e]at m
  exact List.eq_of_mem_replicate m
 ·intro e
  exact List.eq_replicate_iff.mpr ⟨rfl,λx m=>of_decide_eq_true (e x m)⟩
def wlD (l:Wl):PyData:=match l with
 | none=>.none
 | some (x,y)=>.tuple [rD x,rD y]
theorem zdu {H:Hp}{v:V}{l:Wl}(h:xp H v l):RdD H v (wlD l):=by
 cases l with
 | none=>obtain rfl:v = .non:=h;exact .non
 | some u=>obtain⟨x,y⟩:=u;obtain⟨a,p,q,rfl,g1,g2,g3⟩:=h;exact .tup g1 (.cons (Ze g2) (.cons (Ze g3) .nil))
theorem za1 (l:Wl):Lay 2 (wlD l):=by
 cases l with
 | none=>exact Lay.non.mono (by decide)
 | some u =>
  obtain⟨x,y⟩:=u
  exact Lay.tup λd m=>by
   simp only[List.mem_cons,List.not_mem_nil,or_false]at m
   rcases m with rfl | rfl
   ·exact .rat _
   ·exact .rat _
def wsD (lo hi:Wl):PyData:=.tuple [wlD lo,wlD hi]
theorem za2 (lo hi:Wl):Lay 3 (wsD lo hi):=Lay.tup λd m=>by
 simp only[List.mem_cons,List.not_mem_nil,or_false]at m
 rcases m with rfl | rfl
 ·exact za1 _
 ·exact za1 _
theorem zdJ (lo hi:Wl):PyData.eqv (wsD lo hi) (wsD none none)=(decide (lo=none)&&decide (hi=none)):=by
 cases lo with
 | none=>cases hi with
  | none=>rfl
  | some u=>rfl
 | some u=>cases hi <;> rfl
def J2 (m:Rat) (free:Bool):PyData:=if free then .list []else .list [rD m,.bool true,.bool true,.bool false]
theorem Z6 (m:Rat) (free:Bool):Lay 2 (J2 m free):=by
 unfold J2
 split
 ·exact Lay.lst λd h=>by cases h
 ·exact Lay.lst λd h=>by
   simp only[List.mem_cons,List.not_mem_nil,or_false]at h
   rcases h with rfl | rfl | rfl | rfl
   ·exact .rat _
   ·exact⟨rfl,Nat.zero_le _⟩
   ·exact⟨rfl,Nat.zero_le _⟩
   ·exact⟨rfl,Nat.zero_le _⟩
end KT
end
section
set_option maxHeartbeats 8000000
set_option Elab.async false
set_option linter.all false
set_option maxRecDepth 100000
namespace KT
open PySem L2 KM KK
open KQ (vT qR v8 TxQ xP qo qF stG rlG brk vF ZR vo zcT In soon chO qP tkO laQ laP)
section
variable {P:Program}{w:World}{K:PySem.W.Frag}{mg:Str->Option Value}{base:Heap}{CS Tb:Addr}
theorem zev {H G:Hp}{a:Addr}{xs:List V}(h:SqL K H a xs) (T:qN Tb laQ laP H) (st:StT Tb H G):SqL K G a xs:=by
 obtain⟨ps,gT,_⟩:=T
 rcases h with(h | ⟨o,h⟩) | h
 ·exact .inl (.inl (st _ _ h λz=>by rw[z,gT]at h;cases h))
 ·exact .inl (.inr ⟨o,st _ _ h λz=>by rw[z,gT]at h;cases h⟩)
 ·exact .inr h
def JI (Tb:Addr) (K:PySem.W.Frag):Sp:=λvs H Q _=>∃(a:Addr) (ns:List Int),vs=[.ref a]/\SqL K H a (ns.map V.int)/\ns.length<=63/\qN Tb laQ laP H/\∀H',Q (.bl true) H'
theorem vJ:zG ["script","k","pool","row","walls","moment","weights","alike","free","due","groups"] ["script"] (zg s_law):=⟨rfl,rfl,rfl,by decide +kernel,rfl,by decide +kernel,by decide +kernel⟩
theorem zd7 {fl:Addr}{fdl:FuncData}(D:Fun K "law" "law" s_law fl fdl) (T:TxQ K mg) (cC:Cal P w K mg base "_law_cell" 1 ["script","k"] [] (JG K)) (cD:Cal P w K mg base "_law_left" 1 ["cell"] [] zdp) (cFo:Cal P w K mg base "_law_focused" 4 ["pool","alike"] [] zfP) (cSn:Cal P w K mg base "_law_soonest" 4 ["row","walls"] [] zf2)
  (cAs:Cal P w K mg base "_law_asked" 7 ["row","walls"] [] (zep Tb)) (cOn:Cal P w K mg base "_law_on" 3 ["things","t"] [] zfS) (cLg:Cal P w K mg base "_law_groups" 2 ["row","walls"] [] zfQ) (cNq:Cal P w K mg base "next_coming" 6 ["row","walls"] [] zfR):vL P w K mg base CX0 8 fl fdl ["script"] (JI Tb K):=by
 refine D.ok (k:=7) vJ (λvs H Q E h=>by obtain⟨a,us,rfl,_⟩:=h;rfl) (λcdv A outer s H vs Q E hr h=>?_)
 obtain⟨a,ns,rfl,hS,hlen,TH,k⟩:=h
 have hr1:xi 1 _:=hr.mono (by decide)
 have hr2:xi 2 _:=hr.mono (by decide)
 have hr3:xi 3 _:=hr.mono (by decide)
 have hr4:xi 4 _:=hr.mono (by decide)
 have hr6:xi 6 _:=hr.mono (by decide)
 have hu:=hr.units
 refine⟨_,(zj (vI PassesOwn.never rfl (Zc rfl T.nRange (za (zA xa zd (zZ (JX rfl) (by rfl) T.nMin PyProof.Rows.boot_min (za (zZ xl (by rfl) T.nLen PySem.boot_len (za (pv 0) ze)) (za zd ze)))) ze)) (zK (i:=1) vJ.nd rfl (Or.inl rfl)) (zaD (zD (Bx.mk (zL (i:=2) vJ.nd rfl (Or.inl rfl) (zP cD hr1 (za (zP cC hr1 (za (zA zcs (xB (za zd ze)) (pv 0)) (za (pv 1) ze))) ze))))
  (zD (Bx.mk (qJ (zP cFo hr4 (za (pv 2) (za Zy ze))) (vH rfl (zQ (zK (i:=3) vJ.nd rfl (Or.inl rfl)) (zQ (zK (i:=4) vJ.nd rfl (Or.inl rfl)) xJ)))))
  (zD (Bx.mk (zL (i:=5) vJ.nd rfl (Or.inl rfl) (zP cSn hr4 (za (pv 3) (za (pv 4) ze)))))
  (zD (Bx.mk (vR (i:=6) (NB:=["ball"]) (FR:=[]) (js:=[]) rfl rfl (λ_ _ h=>by cases h) .nil rfl (by decide +kernel) rfl (by decide +kernel) vJ.nd rfl rfl (by rfl) (Xi (pv 3)) (by intro _ _ _;refine⟨?_,?_,?_⟩;(exact(zK (i:=0) (show List.Nodup (["ball"]:List Str) by decide +kernel) rfl (Or.inl rfl)));(exact qg);(exact(zr (ve (K:=K) rfl) (pv 0) zd (λ_ _=>rfl))))))
  (zD (Bx.mk (zL (i:=7) vJ.nd rfl (Or.inl rfl) (vQ (Zb hu) (pv 6) (zA zbd (xB (za (zr xw (pv 6) zd (λ_ _=>rfl)) ze)) (zZ xl (by rfl) T.nLen PySem.boot_len (za (pv 6) ze))) (zJ _))))
  (zD (Bx.mk (zL (i:=8) vJ.nd rfl (Or.inl rfl) (zft (pv 7) (Qk (VH (vQ vp (zZ xl (by rfl) T.nLen PySem.boot_len (za (pv 3) ze)) zd (zJ _)) (Qk (vQ (Zb hu) (pv 4) (xv (za zX (za zX ze))) (zJ _))))))))
  (zD (Bx.mk (zL (i:=9) vJ.nd rfl (Or.inl rfl) (zr xw (xB (za (xB (za (pv 5) (za Zy (za Zy (za Zy ze))))) (za (xB ze) ze))) (qx XC (by rfl) T.nInt PyProof.Rows.boot_int (za (pv 8) ze)) (λ_ _=>rfl))))
  (zD (Bx.mk (xk (jq (zI (VG hu) (zP cAs hr (za (pv 3) (za (pv 4) ze))) (pv 9) (zJ _)) (jd (zI (VG hu) (zP cAs hr (za (pv 3) (za (pv 4) ze))) (pv 9) (zJ _)))).pt (zi (zM Zy)) zS))
  (zD (Bx.mk (zL (i:=10) vJ.nd rfl (Or.inl rfl) (zP cLg hr2 (za (zP cOn hr3 (za (pv 3) (za (pv 5) ze))) (za (zP cOn hr3 (za (pv 4) (za (pv 5) ze))) ze)))))
  (Bx.mk (zi (xk (jq (zI (VG hu) (zP cNq hr6 (za (pv 3) (za (pv 4) ze))) (xv (za (pv 5) (za (pv 10) ze))) (zJ _)) (jd (zI Jo (zZ xl (by rfl) T.nLen PySem.boot_len (za (pv 10) ze)) zd (zJ _)))).pt (zi (zM Zy)) zS)))))))))))))) (zi (zM Zy))),?_⟩
 refine⟨_,rfl,a,_,rfl,.inl hS,_,_,rfl,_,_,rfl,rfl,_,rfl,?_⟩
 obtain⟨mx,em⟩:∃m:Int,m=(1:Int)+(if(40:Int)<((ns.map V.int).length:Int)then 40 else((ns.map V.int).length:Int)):=⟨_,rfl⟩
 have m0:0<=mx/\mx<=41:=by
  rw[em];split <;> omega
 rw[<-em]
 refine⟨by omega,by omega,?_⟩
 refine j9 (n:=mx.toNat) (lo:=0) (λi σ G=>∃z,z.length=10/\σ=some (.ref a)::z/\StT Tb H G/\qN Tb laQ laP G) ⟨_,rfl,rfl,StT.refl,TH⟩ ?_ ?_
 ·rintro i σ G0 hi ⟨z,hz,rfl,S0,TG⟩
  match z,hz with
  | [z1,z2,z3,z4,z5,z6,z7,z8,z9,z10],_ =>
  have hSG:SqL K G0 a (ns.map V.int):=zev hS TH S0
  refine⟨by show 1<=sizeLine;decide,λp0 hp0=>?_⟩
  refine⟨_,rfl,p0,a,_,_,rfl,rfl,SqL.of zf,(zh.upd hp0).seq hSG,szl (by simp only[List.length_map,List.length_cons,List.length_nil];omega),λp1 hp1=>?_⟩
  have S1:=(zh.upd (o:=.lst [.int 0]) hp0).trans (zh.upd (o:=.lst ([.int 0]++ns.map V.int)) hp1)
  have e1:upd (upd G0 p0 (.lst [.int 0])) p1 (.lst ([.int 0]++ns.map V.int)) p1=some (.lst ((0::ns).map V.int)):=zf
  generalize upd (upd G0 p0 (.lst [.int 0])) p1 (.lst ([.int 0]++ns.map V.int))=G1 at S1 e1
  refine⟨_,rfl,p1,0::ns,_,rfl,SqL.of e1,by omega,λc=>?_⟩
  refine⟨c,rfl,λp G2 hp s2 hP=>?_⟩
  have hpG:G0 p=none:=by
   cases e:G0 p with
   | none=>rfl
   | some o=>rw[S1 _ _ e]at hp;cases hp
  have S2:=S1.trans s2
  dsimp only[zN]
  refine⟨_,rfl,p,false,rfl,hP,?_⟩
  intro t r ws us bs v1 v2 lo hi G3 T3 ht hrr hB hG n1 h8 hws hv1 hv2 hBx hFo
  refine⟨t,_,rfl,.of ht,rfl,_,_,rfl,_,_,rfl,rfl,?_⟩
  have S3:zh G0 G3:=zao S2 hpG T3
  have O:=zec hG hBx n1
  have hz:=zgg hG.sz hBx.z1 hBx.z2
  obtain⟨m,side,F⟩:=fo_g hFo n1
  have TG3:=TG.same S3
  clear ht S2 T3 S1 s2 hP e1
  dsimp only[zN]
  refine⟨_,rfl,_,rfl,r,ws,us,v1,v2,bs,lo,hi,rfl,hrr,hB,hws,hv1,hv2,h8,hz,λvm G4 s4 hvm hvz=>?_⟩
  rw[F.soon]at hvm
  obtain⟨am,rfl,ham⟩:=hvm
  have zm:=hvz m F.soon
  dsimp only[zN]
  have hrr4:=s4 _ _ hrr
  have hB4:=hB.same s4
  have hws4:=s4 _ _ hws
  have hv14:=hv1.tups (zT.of s4)
  have hv24:=hv2.tups (zT.of s4)
  have TG4:=TG3.same s4
  refine⟨_,rfl,r,rfl,⟨_,SqT.of hrr4⟩,λD5 hD5=>?_⟩
  refine qh (js:=[]) (J:=Itt K r) (n:=1) (g:=zN 0) (te:=_) (xs:=us) (λi v _=>∃b:zV,bs[i]? = some b/\v = .int b.wt) (λ_ _ _ _ _ z=>z) hD5 (jV hrr4) (xt (by have:=hB4.length;omega)) ?_ ?_
  ·intro i x zs H7 Q' hx hz7 s7 hk
   obtain⟨ab,pb,qb,b,eb,rfl,g1,g2,g3⟩:=(hB4.same s7).get hx
   obtain⟨z1,rfl⟩:=jL hz7
   dsimp only[zN]
   exact⟨rfl,_,rfl,ab,_,_,_,rfl,rfl,.of g1,rfl,hk _ _ (zh.refl _) ⟨b,eb,rfl⟩⟩
  intro y5 G5 s5 hy5 hyl5 hyR5
  have hbl:=hB4.length
  have e5:y5=(bs.map zV.wt).map V.int:=by
   refine List.ext_getElem? λj=>?_
   rw[List.map_map,List.getElem?_map]
   cases ey:y5[j]? with
   | none =>
    have:y5.length<=j:=List.getElem?_eq_none_iff.mp ey
    rw[List.getElem?_eq_none (by omega)];rfl
   | some v=>obtain⟨b,e1,e2⟩:=hyR5 j v ey;rw[e1,e2];rfl
  rw[e5]at hy5
  obtain⟨W,eW⟩:∃W,W=bs.map zV.wt:=⟨_,rfl⟩
  rw[<-eW]at hy5
  have hWl:W.length=bs.length:=by rw[eW,List.length_map]
  have s35:=s4.trans s5
  dsimp only[zN]
  refine xx (λσ' G=>σ'=[some (.ref a),some (.int (0+(i:Int))),some (.ref p),some (.ref r),some (.ref ws),some (.ref am),some (.ref D5),some (.bl (KQ.qL W)),z8,z9,z10]/\zh G5 G) ?_ ?_
  rotate_left
  ·intro nx hnx
   have e0:atI (W.map V.int) 0=some (.int (W.headD 0)):=KQ.QZ (by omega)
   refine⟨_,rfl,_,rfl,D5,_,_,_,rfl,rfl,.of hy5,e0,by show 1<=sizeLine;decide,λl2 hl2=>?_⟩
   have s6:=zh.upd (o:=.lst [.int (W.headD 0)]) hl2
   refine⟨_,rfl,D5,_,rfl,.inl (.of (s6 _ _ hy5)),l2,_,_,rfl,rfl,zf,by (first | (simp;omega) | simp),by (first | (simp;omega) | simp),szl (by (first | (simp;omega) | simp)),λl3 hl3=>?_⟩
   have s7:=zh.upd (o:=.lst ((List.replicate ((W.map V.int).length:Int).toNat [V.int (W.headD 0)]).flatten)) hl3
   have er:(List.replicate ((W.map V.int).length:Int).toNat [V.int (W.headD 0)]).flatten=(List.replicate W.length (W.headD 0)).map V.int:=by
    rw[List.length_map,Int.toNat_natCast,Qp,List.map_replicate]
   refine⟨wtD W,wtD (List.replicate W.length (W.headD 0)),.lst (s7 _ _ (s6 _ _ hy5)) (VL _),.lst (by rw[zf,er]) (VL _),(za3 _).shaped (by decide),(za3 _).shaped (by decide),?_⟩
   rw[zdK,zbp (by omega)]
   exact hnx _ _ ⟨rfl,s6.trans s7⟩
  rintro σ' G6 ⟨rfl,s6⟩
  have hfe:(KQ.qL W || (decide (bs.length=2)&&(decide (lo=none)&&decide (hi=none))))=qG bs side:=by
   unfold qG
   rw[<-eW]
   rcases F.wall with⟨rfl,rfl,rfl,_⟩ | ⟨rfl,rfl,u,rfl⟩ | ⟨rfl,rfl,u,rfl⟩
   ·simp[Bool.or_comm]
   ·rw[show decide (("low":Str) = "")=false by decide +kernel];simp
   ·rw[show decide (("high":Str) = "")=false by decide +kernel];simp
  have S6:=s35.trans s6
  refine xx (λσ' G=>σ'=[some (.ref a),some (.int (0+(i:Int))),some (.ref p),some (.ref r),some (.ref ws),some (.ref am),some (.ref D5),some (.bl (KQ.qL W)),some (.bl (qG bs side)),z9,z10]/\zh G6 G) ?_ ?_
  rotate_left
  ·intro nx hnx
   rw[<-hfe]at hnx
   refine⟨_,rfl,_,rfl,?_⟩
   cases hsw:KQ.qL W with
   | true =>
    rw[hsw]at hnx
    exact qd (hnx _ _ ⟨rfl,zh.refl _⟩)
   | false =>
    rw[hsw]at hnx
    refine xA ?_
    refine⟨_,rfl,r,_,rfl,.inr (.of (S6 _ _ hrr)),rfl,?_⟩
    have e2:decide (V.int (us.length:Int)=V.int 2)=decide (bs.length=2):=by
     rw[decide_eq_decide,hbl]
     exact⟨λz=>by injection z with z;omega,λz=>by rw[z];rfl⟩
    refine⟨_,rfl,?_⟩
    rw[e2]
    cases h2:decide (bs.length=2)with
    | false =>
     rw[h2]at hnx
     exact xA (hnx _ _ ⟨rfl,zh.refl _⟩)
    | true =>
     rw[h2]at hnx
     refine qd ⟨_,rfl,by show 2<=sizeLine;decide,λt2 ht2=>?_⟩
     have s7:=zh.upd (o:=.tup [.non,.non]) ht2
     refine⟨wsD lo hi,wsD none none,.tup (s7 _ _ (S6 _ _ hws)) (.cons (zdu (hv1.tups (.of (S6.trans s7)))) (.cons (zdu (hv2.tups (.of (S6.trans s7)))) .nil)),.tup zf (.cons .non (.cons .non .nil)),(za2 _ _).shaped (by decide),(za2 _ _).shaped (by decide),?_⟩
     rw[zdJ]
     exact hnx _ _ ⟨rfl,s7⟩
  rintro σ' G7 ⟨rfl,s7⟩
  have S7:=S6.trans s7
  refine xx (λσ' G=>∃vd,σ'=[some (.ref a),some (.int (0+(i:Int))),some (.ref p),some (.ref r),some (.ref ws),some (.ref am),some (.ref D5),some (.bl (KQ.qL W)),some (.bl (qG bs side)),some vd,z10]/\zh G7 G/\RdD G vd (J2 m (qG bs side))) ?_ ?_
  rotate_left
  ·intro nx hnx
   refine⟨_,rfl,by show 4<=sizeLine;decide,λl1 hl1=>?_⟩
   have s8:=zh.upd (o:=.lst [.ref am,.bl true,.bl true,.bl false]) hl1
   have h8':upd G7 l1 (.lst [.ref am,.bl true,.bl true,.bl false]) l1=some (.lst [.ref am,.bl true,.bl true,.bl false]):=zf
   generalize upd G7 l1 (.lst [.ref am,.bl true,.bl true,.bl false])=G8 at s8 h8' ⊢
   refine⟨by show 0<=sizeLine;exact Nat.zero_le _,λl2 hl2=>?_⟩
   have s9:=zh.upd (o:=.lst []) hl2
   have h9':upd G8 l2 (.lst []) l2=some (.lst []):=zf
   generalize upd G8 l2 (.lst [])=G9 at s9 h9' ⊢
   refine⟨by show 2<=sizeLine;decide,λl3 hl3=>?_⟩
   have s10:=zh.upd (o:=.lst [.ref l1,.ref l2]) hl3
   have S10:=s9.trans s10
   cases hfr:qG bs side with
   | true =>
    rw[hfr]at hnx
    refine⟨_,rfl,.inr ⟨true,rfl,l3,_,_,_,rfl,rfl,.of zf,rfl,hnx _ _ ⟨_,rfl,s8.trans S10,.lst (s10 _ _ h9') .nil⟩⟩⟩
   | false =>
    rw[hfr]at hnx
    refine⟨_,rfl,.inr ⟨false,rfl,l3,_,_,_,rfl,rfl,.of zf,rfl,hnx _ _ ⟨_,rfl,s8.trans S10,.lst (S10 _ _ h8') (.cons (Ze (S10 _ _ (s8 _ _ (s7 _ _ (s6 _ _ (s5 _ _ ham)))))) (.cons (.bl _) (.cons (.bl _) (.cons (.bl _) .nil))))⟩⟩⟩
  rintro σ' G8 ⟨vd,rfl,s8,hvd⟩
  have S8:=S7.trans s8
  have TG8:=TG3.same S8
  have hwt:∀b∈bs,1<=b.wt/\b.wt<=1000:=hG.wt
  have tupT:∀{H1 H2:Hp},qN Tb laQ laP H1->StT Tb H1 H2->zT H1 H2:=λ{H1 H2} T1 st b xs eb=>st b _ eb λz=>by obtain⟨ps,gT,_⟩:=T1;rw[z,gT]at eb;cases eb
  have Tu8:zT G3 G8:=.of S8
  have sh3:=(Z6 m (qG bs side)).shaped (by decide)
  have rdT:∀{H1 H2:Hp}{v:V},qN Tb laQ laP H1->StT Tb H1 H2->RdD H1 v (J2 m (qG bs side))->RdD H2 v (J2 m (qG bs side)):=λ{H1 H2 v} T1 st hd=>by
   obtain⟨ps,gT,_⟩:=T1
   exact hd.st λb o n eb=>st b o eb λz=>by rw[z,gT]at eb;cases eb;exact n _ rfl
  have ask:∀(G:Hp) (Q':VK) (E':XK),qN Tb laQ laP G->zT G3 G->(∀v G',StT Tb G G'->qN Tb laQ laP G'->RdD G' v (J2 m (qG bs side))->Q' v G')->zep Tb [.ref r,.ref ws] G Q' E':=λG Q' E' TGx Tux kk=>by
   refine⟨r,ws,us,v1,v2,bs,lo,hi,m,side,rfl,Tux _ _ hrr,hB.mono Tux,Tux _ _ hws,hv1.tups Tux,hv2.tups Tux,n1,h8,hz,O,F,hwt,TGx,λhf L G' st tb hL=>kk _ _ st tb ?_,λhf L pp G' st tb hL hp=>kk _ _ st tb ?_⟩
   ·rw[hf];exact .lst hL .nil
   ·rw[hf];exact .lst hL (.cons (Ze hp) (.cons (.bl _) (.cons (.bl _) (.cons (.bl _) .nil))))
  refine xx (λσ' G=>σ'=[some (.ref a),some (.int (0+(i:Int))),some (.ref p),some (.ref r),some (.ref ws),some (.ref am),some (.ref D5),some (.bl (KQ.qL W)),some (.bl (qG bs side)),some vd,z10]/\StT Tb G8 G/\qN Tb laQ laP G) ?_ ?_
  rotate_left
  ·intro nx hnx
   refine⟨_,rfl,_,rfl,?_⟩
   dsimp only[Zn,qp]
   refine ask G8 _ _ TG8 Tu8 λv9 G9 st9 tb9 h9=>?_
   refine⟨_,rfl,_,_,h9,rdT TG8 st9 hvd,sh3,sh3,_,rfl,?_⟩
   rw[(Z6 m (qG bs side)).self]
   refine xA ?_
   refine⟨_,rfl,_,rfl,?_⟩
   dsimp only[Zn,qp]
   refine ask G9 _ _ tb9 (Tu8.trans (tupT TG8 st9)) λv10 G10 st10 tb10 h10=>?_
   refine⟨_,rfl,_,_,h10,rdT tb9 st10 (rdT TG8 st9 hvd),sh3,sh3,_,rfl,?_⟩
   rw[(Z6 m (qG bs side)).self]
   exact xA (hnx _ _ ⟨rfl,st9.trans st10,tb10⟩)
  rintro σ' G9 ⟨rfl,st9,tb9⟩
  have Tu9:=Tu8.trans (tupT TG8 st9)
  have ham8:zF G8 am m:=s8 _ _ (s7 _ _ (s6 _ _ (s5 _ _ ham)))
  have ham9:zF G9 am m:=tupT TG8 st9 _ _ ham8
  have hzB:∀b∈bs,Sz 320 b.pl/\Sz 80 b.sp:=λb mb=>hz (b.pl,b.sp) (by unfold tl;exact List.mem_append_left _ (List.mem_append_right _ (List.mem_map.mpr ⟨b,mb,rfl⟩)))
  have hzL:∀t,lo=some t->Sz 320 t.1/\Sz 80 t.2:=λt e=>hz t (by unfold tl;rw[e];simp[xP])
  have hzH:∀t,hi=some t->Sz 320 t.1/\Sz 80 t.2:=λt e=>hz t (by unfold tl;rw[e];simp[xP])
  refine⟨_,rfl,_,rfl,r,am,us,_,m,rfl,Tu9 _ _ hrr,JU (hB.mono Tu9),by rw[List.length_map];exact h8,λn mn=>?_,ham9,zm,λrr us10 G10 s10 hrr10 hO10=>?_⟩
  ·obtain⟨b,mb,rfl⟩:=List.mem_map.mp mn
   exact⟨by show 1<=1;decide,λt e=>by cases e;exact hzB b mb⟩
  have hB10:=XR hO10
  have Tu10:=Tu9.trans (.of s10)
  refine⟨_,rfl,_,rfl,ws,am,[v1,v2],[(lo,[]),(hi,[])],m,rfl,Tu10 _ _ hws,zat (hv1.tups Tu10) (hv2.tups Tu10),by show 2<=8;decide,λn mn=>?_,s10 _ _ ham9,zm,λth us11 G11 s11 hth hO11=>?_⟩
  ·simp only[List.mem_cons,List.not_mem_nil,or_false]at mn
   rcases mn with rfl | rfl
   ·exact⟨by show 0<=1;decide,hzL⟩
   ·exact⟨by show 0<=1;decide,hzH⟩
  have hl11:us11.length=2:=hO11.1
  match us11,hl11 with
  | [w1,w2],_ =>
  have hw1':xp G11 w1 (zY m lo):=QU (hO11.2 0 w1 _ rfl rfl)
  have hw2':xp G11 w2 (zY m hi):=QU (hO11.2 1 w2 _ rfl rfl)
  have hcz:CZ (bs.map (xO m)) (zY m lo) (zY m hi):=by
   have key:∀{x y:Rat},Sz 320 x->Sz 80 y->Sz 2000 (x+y*m):=λhx hy=>(hx.add (hy.mul zm)).mono (by decide)
   refine⟨λb mb=>?_,λx y e=>?_,λx y e=>?_⟩
   ·obtain⟨c,mc,rfl⟩:=List.mem_map.mp mb
    exact⟨key (hzB c mc).1 (hzB c mc).2,(hzB c mc).2⟩
   ·cases lo with
    | none=>cases e
    | some u=>obtain⟨x0,y0⟩:=u;cases e;exact⟨key (hzL _ rfl).1 (hzL _ rfl).2,(hzL _ rfl).2⟩
   ·cases hi with
    | none=>cases e
    | some u=>obtain⟨x0,y0⟩:=u;cases e;exact⟨key (hzH _ rfl).1 (hzH _ rfl).2,(hzH _ rfl).2⟩
  refine⟨rr,th,us10,_,w1,w2,_,_,rfl,s11 _ _ hrr10,hB10.same s11,by rw[List.length_map];exact h8,hth,hw1',hw2',hcz,λGl gs G12 s12 _ hGl hgr=>?_⟩
  have S12:=s10.trans (s11.trans s12)
  have Tu12:=Tu9.trans (.of S12)
  have ham12:zF G12 am m:=S12 _ _ ham9
  have tb12:=tb9.same S12
  dsimp only[zN]
  have hlay:Lay 3 (coD m (grL (bs.map (xO m)) (zY m lo) (zY m hi))):=by
   refine zdV _ λg mg=>?_
   unfold grL at mg
   refine Vw (p:=λg=>PyData.canLay0 (.str g.2.2)=true) (λa b g e=>?_) mg
   unfold fL at e
   split at e
   ·cases e;exact za0 _ _ _
   ·cases e
  have hgl:gs.length=1:=by have:=hgr.1;rw[F.gr]at this;simpa using this
  refine⟨_,rfl,_,rfl,r,ws,us,v1,v2,bs,lo,hi,m,side,rfl,Tu12 _ _ hrr,hB.mono Tu12,Tu12 _ _ hws,hv1.tups Tu12,hv2.tups Tu12,n1,h8,hz,O,F,λv13 G13 s13 hv13=>?_⟩
  refine⟨_,rfl,_,rfl,by show 2<=sizeLine;decide,λtp htp=>?_⟩
  have s14:=zh.upd (o:=.tup [.ref am,.ref Gl]) htp
  have S14:=s13.trans s14
  refine⟨_,_,hv13.same s14,.tup zf (.cons (Ze (S14 _ _ ham12)) (.cons (.lst (S14 _ _ hGl) ((Vs hgr).same S14)) .nil)),hlay.shaped (by decide),hlay.shaped (by decide),_,rfl,?_⟩
  rw[show PyData.eqv (coD m (grL (bs.map (xO m)) (zY m lo) (zY m hi))) (PyData.tuple [rD m,PyData.list ((grL (bs.map (xO m)) (zY m lo) (zY m hi)).map grD)])=true from hlay.self]
  refine xA ?_
  refine⟨_,rfl,Gl,gs,rfl,.inl (.of (S14 _ _ hGl)),rfl,?_⟩
  refine⟨_,rfl,?_⟩
  rw[hgl]
  refine xA ?_
  exact⟨_,rfl,rfl,λb o eb nb=>S14 _ _ (S12 _ _ (st9 b o (S8 _ _ (S3 _ _ (S0 b o eb nb))) nb)),tb12.same S14⟩
 ·rintro σ G ⟨z,hz,rfl,_⟩
  exact k G
end
end KT
end
section
set_option maxHeartbeats 8000000
set_option Elab.async false
set_option linter.all false
set_option maxRecDepth 100000
namespace KT
open PySem L2 KM KK PySem.W
def xKB (K:Frag) (C:Addr):Bool:=findIn K (.ref C) "__getattribute__" == some (some (.builtin "BaseException.__getattribute__"))&&findIn K (.ref C) "__getattr__" == some none&&subIn K (.ref C) (.type "BaseException") == some true&&mroIn K C (.type "object") == some true&&hasDictIn K C &&
 findIn K (.ref C) "__class__" == some (some (.builtin "object.__class__"))&&specialIn K (.builtin "object.__class__") "__get__" == some (some (.builtin "getset_descriptor.__get__"))&&takesIn K (.builtin "object.__class__") == some true
theorem zdv {K:Frag}{C:Addr}(h:xKB K C=true):QB K C:=by
 simp only[xKB,Bool.and_eq_true,beq_iff_eq]at h
 obtain⟨⟨⟨⟨⟨⟨⟨h1,h2⟩,h3⟩,h4⟩,h5⟩,h6⟩,h7⟩,h8⟩:=h
 exact⟨h1,h2,h3,h4,h5,h6,h7,h8⟩
theorem VD {K:Frag}{h:Heap}{N:Addr}{m:Str->Option Value}{x:Str}{v:Value}(X:K.In h) (G:h.Ns N m) (e:nsIn K N x=some (some v)):m x=some v:=by
 obtain⟨oN,eN,pN,gN,dN,_,fN⟩:=G
 unfold nsIn at e
 split at e
 case h_2=>cases e
 case h_1 c d es' n' sl q =>
  have z:=X _ _ q
  rw[gN]at z
  cases z
  cases dN
  split at e
  case h_1 en he =>
   cases e
   rw[<-fN]
   unfold nsFind findBy
   rw[<-Array.find?_toList,he];rfl
  case h_2=>split at e <;> cases e
def JR (K:Frag) (C f:Addr):Bool:=match K.lookup C with
 | some ⟨.type "type",_,.cls cd,sl⟩=>(match cd.mro,sl.toList with
  | .ref C'::bm,[_,_,_,_,some (.builtin n),_]=>C' == C&&n == "ValueError.__new__"&&!cd.hasDel&&tailIn K Vf bm&&nsOkIn K cd.ns&&nsIn K cd.ns "__init__" == some (some (.ref f))&&cd.hasDict&&Zx (.ref C'::bm)
  | _,_=>false)
 | _=>false
theorem zbP {K:Frag}{h:Heap}{C f:Addr}(X:K.In h) (q:JR K C f=true) (hf:∃oI,h.get? f=some oI/\oI.cls = .type "function") (kp:keepIn K (.ref C)=true):XMk K h C f/\XB h C/\∃cd,clsIn K C=some cd/\cd.hasDict=true/\Zx cd.mro=true:=by
 unfold JR at q
 split at q
 case h_2=>cases q
 case h_1 dd cd sl ho =>
  split at q
  case h_2=>cases q
  case h_1 C' bm k0 k1 k2 k3 n k5 hm hs =>
   have hcl:clsIn K C=some cd:=by unfold clsIn;rw[ho]
   obtain⟨cnm,cbs,cmro,cns,cqn,chd,csn,csub,cab,ccol,cdel⟩:=cd
   obtain⟨sll⟩:=sl
   simp only at hm hs q
   subst hm;subst hs
   simp only[Bool.and_eq_true,beq_iff_eq,Bool.not_eq_true']at q
   obtain⟨⟨⟨⟨⟨⟨⟨eC,en⟩,ed⟩,et⟩,eo⟩,ei⟩,eh⟩,ov⟩:=q
   subst eC;subst en;subst ed;subst eh
   refine⟨⟨⟨cnm,cqn,cns,cbs,bm,true,csn,csub,cab,ccol,dd,k0,k1,k2,k3,k5,_,X _ _ ho,.of_isNs (isNs_of_in X eo),?_,tail_of_in X et⟩,hf,kp⟩,⟨cnm,cqn,cns,cbs,bm,true,csn,csub,cab,ccol,dd,k0,k1,k2,k3,k5,_,X _ _ ho,tail_of_in X et⟩,_,hcl,rfl,ov⟩
   exact VD X (.of_isNs (isNs_of_in X eo)) ei
end KT
end
def PySem.W.Fast.tw1072698540114945501:Nat:=0
def PySem.W.Fast.tw14353881215678879343:Nat:=0
def PySem.W.Fast.tw14830203912158638057:Nat:=0
def PySem.W.Fast.tw11841261425126171721:Nat:=0
def PySem.W.Fast.tw5837038748731717320:Nat:=0
def PySem.W.Fast.tw13113554499072251882:Nat:=0
def PySem.W.Fast.tw15101216170562548741:Nat:=0
def PySem.W.Fast.tw13302401675664300981:Nat:=0
def PySem.W.Fast.tw592670050036587452:Nat:=0
def PySem.W.Fast.tw8492528826915828906:Nat:=0
def PySem.W.Fast.tw6526834262576475448:Nat:=0
def PySem.W.Fast.tw12707698177253404319:Nat:=0
def PySem.W.Fast.tw15880145220880588849:Nat:=0
def PySem.W.Fast.tw6857202675649635106:Nat:=0
def PySem.W.Fast.tw11230670761169347098:Nat:=0
def PySem.W.Fast.tw6185700309470098842:Nat:=0
def PySem.W.Fast.tw15263881137683899224:Nat:=0
def PySem.W.Fast.tw6937239735509807245:Nat:=0
def PySem.W.Fast.tw9600739648648549102:Nat:=0
def PySem.W.Fast.tw12545061430443174216:Nat:=0
def PySem.W.Fast.tw460717102526051439:Nat:=0
def PySem.W.Fast.tw3716114514933446139:Nat:=0
def PySem.W.Fast.tw17795838559489136379:Nat:=0
def PySem.W.Fast.tw6052246617283932713:Nat:=0
def PySem.W.Fast.tw10869606477424356506:Nat:=0
def PySem.W.Fast.tw14358840598981567815:Nat:=0
def PySem.W.Fast.tw7398652696409708819:Nat:=0
def PySem.W.Fast.tw15662038463085996131:Nat:=0
def PySem.W.Fast.tw7169529477221061739:Nat:=0
def PySem.W.Fast.tw2571104386315125282:Nat:=0
def PySem.W.Fast.tw16407546160197022249:Nat:=0
def PySem.W.Fast.tw5294964926975533819:Nat:=0
def PySem.W.Fast.tw7099350187458666747:Nat:=0
def PySem.W.Fast.tw2907086231901141187:Nat:=0
def PySem.W.Fast.tw8560315807436283273:Nat:=0
def PySem.W.Fast.tw15408744288909172116:Nat:=0
def PySem.W.Fast.tw2094451914210493400:Nat:=0
def PySem.W.Fast.tw5292859952039674951:Nat:=0
def PySem.W.Fast.tw8262355718200931963:Nat:=0
def PySem.W.Fast.tw15977693088760561161:Nat:=0
section
set_option maxHeartbeats 8000000
set_option Elab.async false
set_option linter.all false
set_option maxRecDepth 100000
namespace KT
open PySem L2 KM KK
theorem zdU (K:PySem.W.Frag):PySem.W.kitOne K (.type "int") (.type "int")=some true:=by
 unfold PySem.W.kitOne;rw[if_pos (by decide +kernel)]
theorem zdT (K:PySem.W.Frag):PySem.W.kitOne K (.type "int") (.type "bool")=some false:=by
 with_unfolding_all rfl
theorem zdz {l:PySem.W.OpenLaw}{w:World}{K:PySem.W.Frag}{h:Heap}{mg:Str->Option Value}{fa cde Tb:Addr}(X:K.In h) (G:h.Ns mainGlobals mg) (hfa:mg "law" = some (.ref fa))
  {f0:Addr}{od0 an0:Option Addr}{sl0:Array (Option Value)}{oc0 kV0 dc0 pm0 cd0 ct0:Value}
  (a0:PySem.W.nsIn K mainGlobals "is_whole" = some (some (.ref f0))) (l0:K.lookup f0=some ⟨oc0,od0,.func (PySem.W.fnOf "is_whole" "is_whole" (zH qV) (zE qV) (zg qV) .none kV0 dc0 pm0 an0 cd0 ct0),sl0⟩) (c0:PySem.W.codeIn K cd0 "is_whole" = true) (k0:PySem.W.keepIn K (.ref f0)=true)
  {f1:Addr}{od1 an1:Option Addr}{sl1:Array (Option Value)}{oc1 kV1 dc1 pm1 cd1 ct1:Value}
  (a1:PySem.W.nsIn K mainGlobals "greatest_divisor" = some (some (.ref f1))) (l1:K.lookup f1=some ⟨oc1,od1,.func (PySem.W.fnOf "greatest_divisor" "greatest_divisor" (zH xn) (zE xn) (zg xn) .none kV1 dc1 pm1 an1 cd1 ct1),sl1⟩) (c1:PySem.W.codeIn K cd1 "greatest_divisor" = true) (k1:PySem.W.keepIn K (.ref f1)=true)
  {f2:Addr}{od2 an2:Option Addr}{sl2:Array (Option Value)}{oc2 kV2 dc2 pm2 cd2 ct2:Value}{Td2:Addr}{ocd2:Value}{odd2:Option Addr}{tkd2:Tok}{nd2:Nat}{sld2:Array (Option Value)}
  (a2:PySem.W.nsIn K mainGlobals "ratio" = some (some (.ref f2))) (l2:K.lookup f2=some ⟨oc2,od2,.func (PySem.W.fnOf "ratio" "ratio" (zH jf) (zE jf) (zg jf) (.ref Td2) kV2 dc2 pm2 an2 cd2 ct2),sl2⟩) (c2:PySem.W.codeIn K cd2 "ratio" = true) (k2:PySem.W.keepIn K (.ref f2)=true)
  (ld2:K.lookup Td2=some ⟨ocd2,odd2,.seq #[.int 1 tkd2] nd2,sld2⟩)
  {f3:Addr}{od3 an3:Option Addr}{sl3:Array (Option Value)}{oc3 kV3 dc3 pm3 cd3 ct3:Value}
  (a3:PySem.W.nsIn K mainGlobals "minus" = some (some (.ref f3))) (l3:K.lookup f3=some ⟨oc3,od3,.func (PySem.W.fnOf "minus" "minus" (zH jx) (zE jx) (zg jx) .none kV3 dc3 pm3 an3 cd3 ct3),sl3⟩) (c3:PySem.W.codeIn K cd3 "minus" = true) (k3:PySem.W.keepIn K (.ref f3)=true)
  {f4:Addr}{od4 an4:Option Addr}{sl4:Array (Option Value)}{oc4 kV4 dc4 pm4 cd4 ct4:Value}
  (a4:PySem.W.nsIn K mainGlobals "over" = some (some (.ref f4))) (l4:K.lookup f4=some ⟨oc4,od4,.func (PySem.W.fnOf "over" "over" (zH Zg) (zE Zg) (zg Zg) .none kV4 dc4 pm4 an4 cd4 ct4),sl4⟩) (c4:PySem.W.codeIn K cd4 "over" = true) (k4:PySem.W.keepIn K (.ref f4)=true)
  {f5:Addr}{od5 an5:Option Addr}{sl5:Array (Option Value)}{oc5 kV5 dc5 pm5 cd5 ct5:Value}
  (a5:PySem.W.nsIn K mainGlobals "less" = some (some (.ref f5))) (l5:K.lookup f5=some ⟨oc5,od5,.func (PySem.W.fnOf "less" "less" (zH Zf) (zE Zf) (zg Zf) .none kV5 dc5 pm5 an5 cd5 ct5),sl5⟩) (c5:PySem.W.codeIn K cd5 "less" = true) (k5:PySem.W.keepIn K (.ref f5)=true)
  {f6:Addr}{od6 an6:Option Addr}{sl6:Array (Option Value)}{oc6 kV6 dc6 pm6 cd6 ct6:Value}
  (a6:PySem.W.nsIn K mainGlobals "least_multiple" = some (some (.ref f6))) (l6:K.lookup f6=some ⟨oc6,od6,.func (PySem.W.fnOf "least_multiple" "least_multiple" (zH xy) (zE xy) (zg xy) .none kV6 dc6 pm6 an6 cd6 ct6),sl6⟩) (c6:PySem.W.codeIn K cd6 "least_multiple" = true) (k6:PySem.W.keepIn K (.ref f6)=true)
  {f7:Addr}{od7 an7:Option Addr}{sl7:Array (Option Value)}{oc7 kV7 dc7 pm7 cd7 ct7:Value}
  (a7:PySem.W.nsIn K mainGlobals "common_bottom" = some (some (.ref f7))) (l7:K.lookup f7=some ⟨oc7,od7,.func (PySem.W.fnOf "common_bottom" "common_bottom" (zH xD) (zE xD) (zg xD) .none kV7 dc7 pm7 an7 cd7 ct7),sl7⟩) (c7:PySem.W.codeIn K cd7 "common_bottom" = true) (k7:PySem.W.keepIn K (.ref f7)=true)
  {f8:Addr}{od8 an8:Option Addr}{sl8:Array (Option Value)}{oc8 kV8 dc8 pm8 cd8 ct8:Value}
  (a8:PySem.W.nsIn K mainGlobals "track_of" = some (some (.ref f8))) (l8:K.lookup f8=some ⟨oc8,od8,.func (PySem.W.fnOf "track_of" "track_of" (zH va) (zE va) (zg va) .none kV8 dc8 pm8 an8 cd8 ct8),sl8⟩) (c8:PySem.W.codeIn K cd8 "track_of" = true) (k8:PySem.W.keepIn K (.ref f8)=true)
  {f9:Addr}{od9 an9:Option Addr}{sl9:Array (Option Value)}{oc9 kV9 dc9 pm9 cd9 ct9:Value}
  (a9:PySem.W.nsIn K mainGlobals "moment_of" = some (some (.ref f9))) (l9:K.lookup f9=some ⟨oc9,od9,.func (PySem.W.fnOf "moment_of" "moment_of" (zH qD) (zE qD) (zg qD) .none kV9 dc9 pm9 an9 cd9 ct9),sl9⟩) (c9:PySem.W.codeIn K cd9 "moment_of" = true) (k9:PySem.W.keepIn K (.ref f9)=true)
  {f10:Addr}{od10 an10:Option Addr}{sl10:Array (Option Value)}{oc10 kV10 dc10 pm10 cd10 ct10:Value}
  (a10:PySem.W.nsIn K mainGlobals "shut_moment" = some (some (.ref f10))) (l10:K.lookup f10=some ⟨oc10,od10,.func (PySem.W.fnOf "shut_moment" "shut_moment" (zH x9) (zE x9) (zg x9) .none kV10 dc10 pm10 an10 cd10 ct10),sl10⟩) (c10:PySem.W.codeIn K cd10 "shut_moment" = true) (k10:PySem.W.keepIn K (.ref f10)=true)
  {f11:Addr}{od11 an11:Option Addr}{sl11:Array (Option Value)}{oc11 kV11 dc11 pm11 cd11 ct11:Value}
  (a11:PySem.W.nsIn K mainGlobals "soonest" = some (some (.ref f11))) (l11:K.lookup f11=some ⟨oc11,od11,.func (PySem.W.fnOf "soonest" "soonest" (zH vC) (zE vC) (zg vC) .none kV11 dc11 pm11 an11 cd11 ct11),sl11⟩) (c11:PySem.W.codeIn K cd11 "soonest" = true) (k11:PySem.W.keepIn K (.ref f11)=true)
  {f12:Addr}{od12 an12:Option Addr}{sl12:Array (Option Value)}{oc12 kV12 dc12 pm12 cd12 ct12:Value}
  (a12:PySem.W.nsIn K mainGlobals "spot_at" = some (some (.ref f12))) (l12:K.lookup f12=some ⟨oc12,od12,.func (PySem.W.fnOf "spot_at" "spot_at" (zH vD) (zE vD) (zg vD) .none kV12 dc12 pm12 an12 cd12 ct12),sl12⟩) (c12:PySem.W.codeIn K cd12 "spot_at" = true) (k12:PySem.W.keepIn K (.ref f12)=true)
  {f13:Addr}{od13 an13:Option Addr}{sl13:Array (Option Value)}{oc13 kV13 dc13 pm13 cd13 ct13:Value}
  (a13:PySem.W.nsIn K mainGlobals "side_at" = some (some (.ref f13))) (l13:K.lookup f13=some ⟨oc13,od13,.func (PySem.W.fnOf "side_at" "side_at" (zH vB) (zE vB) (zg vB) .none kV13 dc13 pm13 an13 cd13 ct13),sl13⟩) (c13:PySem.W.codeIn K cd13 "side_at" = true) (k13:PySem.W.keepIn K (.ref f13)=true)
  {f14:Addr}{od14 an14:Option Addr}{sl14:Array (Option Value)}{oc14 kV14 dc14 pm14 cd14 ct14:Value}
  (a14:PySem.W.nsIn K mainGlobals "groups_at" = some (some (.ref f14))) (l14:K.lookup f14=some ⟨oc14,od14,.func (PySem.W.fnOf "groups_at" "groups_at" (zH qy) (zE qy) (zg qy) .none kV14 dc14 pm14 an14 cd14 ct14),sl14⟩) (c14:PySem.W.codeIn K cd14 "groups_at" = true) (k14:PySem.W.keepIn K (.ref f14)=true)
  {f15:Addr}{od15 an15:Option Addr}{sl15:Array (Option Value)}{oc15 kV15 dc15 pm15 cd15 ct15:Value}
  (a15:PySem.W.nsIn K mainGlobals "wall_of" = some (some (.ref f15))) (l15:K.lookup f15=some ⟨oc15,od15,.func (PySem.W.fnOf "wall_of" "wall_of" (zH vE) (zE vE) (zg vE) .none kV15 dc15 pm15 an15 cd15 ct15),sl15⟩) (c15:PySem.W.codeIn K cd15 "wall_of" = true) (k15:PySem.W.keepIn K (.ref f15)=true)
  {f16:Addr}{od16 an16:Option Addr}{sl16:Array (Option Value)}{oc16 kV16 dc16 pm16 cd16 ct16:Value}
  (a16:PySem.W.nsIn K mainGlobals "came_to_wall" = some (some (.ref f16))) (l16:K.lookup f16=some ⟨oc16,od16,.func (PySem.W.fnOf "came_to_wall" "came_to_wall" (zH xL) (zE xL) (zg xL) .none kV16 dc16 pm16 an16 cd16 ct16),sl16⟩) (c16:PySem.W.codeIn K cd16 "came_to_wall" = true) (k16:PySem.W.keepIn K (.ref f16)=true)
  {f17:Addr}{od17 an17:Option Addr}{sl17:Array (Option Value)}{oc17 kV17 dc17 pm17 cd17 ct17:Value}
  (a17:PySem.W.nsIn K mainGlobals "rebound" = some (some (.ref f17))) (l17:K.lookup f17=some ⟨oc17,od17,.func (PySem.W.fnOf "rebound" "rebound" (zH vz) (zE vz) (zg vz) .none kV17 dc17 pm17 an17 cd17 ct17),sl17⟩) (c17:PySem.W.codeIn K cd17 "rebound" = true) (k17:PySem.W.keepIn K (.ref f17)=true)
  {f18:Addr}{od18 an18:Option Addr}{sl18:Array (Option Value)}{oc18 kV18 dc18 pm18 ct18:Value}
  (a18:PySem.W.nsIn K mainGlobals "deal" = some (some (.ref f18))) (l18:K.lookup f18=some ⟨oc18,od18,.func (PySem.W.fnOf "deal" "deal" (zH je) (zE je) (zg je) .none kV18 dc18 pm18 an18 (.ref cde) ct18),sl18⟩) (c18:PySem.W.codeIn K (.ref cde) "deal" = true) (k18:PySem.W.keepIn K (.ref f18)=true)
  {f19:Addr}{od19 an19:Option Addr}{sl19:Array (Option Value)}{oc19 kV19 dc19 pm19 cd19 ct19:Value}
  (a19:PySem.W.nsIn K mainGlobals "part" = some (some (.ref f19))) (l19:K.lookup f19=some ⟨oc19,od19,.func (PySem.W.fnOf "part" "part" (zH Zh) (zE Zh) (zg Zh) .none kV19 dc19 pm19 an19 cd19 ct19),sl19⟩) (c19:PySem.W.codeIn K cd19 "part" = true) (k19:PySem.W.keepIn K (.ref f19)=true)
  {f20:Addr}{od20 an20:Option Addr}{sl20:Array (Option Value)}{oc20 kV20 dc20 pm20 cd20 ct20:Value}
  (a20:PySem.W.nsIn K mainGlobals "refine" = some (some (.ref f20))) (l20:K.lookup f20=some ⟨oc20,od20,.func (PySem.W.fnOf "refine" "refine" (zH v7) (zE v7) (zg v7) .none kV20 dc20 pm20 an20 cd20 ct20),sl20⟩) (c20:PySem.W.codeIn K cd20 "refine" = true) (k20:PySem.W.keepIn K (.ref f20)=true)
  {f21:Addr}{od21 an21:Option Addr}{sl21:Array (Option Value)}{oc21 kV21 dc21 pm21 cd21 ct21:Value}
  (a21:PySem.W.nsIn K mainGlobals "refined" = some (some (.ref f21))) (l21:K.lookup f21=some ⟨oc21,od21,.func (PySem.W.fnOf "refined" "refined" (zH vA) (zE vA) (zg vA) .none kV21 dc21 pm21 an21 cd21 ct21),sl21⟩) (c21:PySem.W.codeIn K cd21 "refined" = true) (k21:PySem.W.keepIn K (.ref f21)=true)
  {f22:Addr}{od22 an22:Option Addr}{sl22:Array (Option Value)}{oc22 kV22 dc22 pm22 cd22 ct22:Value}
  (a22:PySem.W.nsIn K mainGlobals "place_and_speed" = some (some (.ref f22))) (l22:K.lookup f22=some ⟨oc22,od22,.func (PySem.W.fnOf "place_and_speed" "place_and_speed" (zH xr) (zE xr) (zg xr) .none kV22 dc22 pm22 an22 cd22 ct22),sl22⟩) (c22:PySem.W.codeIn K cd22 "place_and_speed" = true) (k22:PySem.W.keepIn K (.ref f22)=true)
  {f23:Addr}{od23 an23:Option Addr}{sl23:Array (Option Value)}{oc23 kV23 dc23 pm23 cd23 ct23:Value}
  (a23:PySem.W.nsIn K mainGlobals "placed" = some (some (.ref f23))) (l23:K.lookup f23=some ⟨oc23,od23,.func (PySem.W.fnOf "placed" "placed" (zH v6) (zE v6) (zg v6) .none kV23 dc23 pm23 an23 cd23 ct23),sl23⟩) (c23:PySem.W.codeIn K cd23 "placed" = true) (k23:PySem.W.keepIn K (.ref f23)=true)
  {f24:Addr}{od24 an24:Option Addr}{sl24:Array (Option Value)}{oc24 kV24 dc24 pm24 cd24 ct24:Value}
  (a24:PySem.W.nsIn K mainGlobals "first_ticks" = some (some (.ref f24))) (l24:K.lookup f24=some ⟨oc24,od24,.func (PySem.W.fnOf "first_ticks" "first_ticks" (zH xY) (zE xY) (zg xY) .none kV24 dc24 pm24 an24 cd24 ct24),sl24⟩) (c24:PySem.W.codeIn K cd24 "first_ticks" = true) (k24:PySem.W.keepIn K (.ref f24)=true)
  {f25:Addr}{od25 an25:Option Addr}{sl25:Array (Option Value)}{oc25 kV25 dc25 pm25 cd25 ct25:Value}
  (a25:PySem.W.nsIn K mainGlobals "next_coming" = some (some (.ref f25))) (l25:K.lookup f25=some ⟨oc25,od25,.func (PySem.W.fnOf "next_coming" "next_coming" (zH x8) (zE x8) (zg x8) .none kV25 dc25 pm25 an25 cd25 ct25),sl25⟩) (c25:PySem.W.codeIn K cd25 "next_coming" = true) (k25:PySem.W.keepIn K (.ref f25)=true)
  {f26:Addr}{od26 an26:Option Addr}{sl26:Array (Option Value)}{oc26 kV26 dc26 pm26 cd26 ct26:Value}
  (a26:PySem.W.nsIn K mainGlobals "behind" = some (some (.ref f26))) (l26:K.lookup f26=some ⟨oc26,od26,.func (PySem.W.fnOf "behind" "behind" (zH v3) (zE v3) (zg v3) .none kV26 dc26 pm26 an26 cd26 ct26),sl26⟩) (c26:PySem.W.codeIn K cd26 "behind" = true) (k26:PySem.W.keepIn K (.ref f26)=true)
  {f27:Addr}{od27 an27:Option Addr}{sl27:Array (Option Value)}{oc27 kV27 dc27 pm27 cd27 ct27:Value}
  (a27:PySem.W.nsIn K mainGlobals "_law_cell" = some (some (.ref f27))) (l27:K.lookup f27=some ⟨oc27,od27,.func (PySem.W.fnOf "_law_cell" "_law_cell" (zH qW) (zE qW) (zg qW) .none kV27 dc27 pm27 an27 cd27 ct27),sl27⟩) (c27:PySem.W.codeIn K cd27 "_law_cell" = true) (k27:PySem.W.keepIn K (.ref f27)=true)
  {f28:Addr}{od28 an28:Option Addr}{sl28:Array (Option Value)}{oc28 kV28 dc28 pm28 cd28 ct28:Value}
  (a28:PySem.W.nsIn K mainGlobals "_law_left" = some (some (.ref f28))) (l28:K.lookup f28=some ⟨oc28,od28,.func (PySem.W.fnOf "_law_left" "_law_left" (zH qX) (zE qX) (zg qX) .none kV28 dc28 pm28 an28 cd28 ct28),sl28⟩) (c28:PySem.W.codeIn K cd28 "_law_left" = true) (k28:PySem.W.keepIn K (.ref f28)=true)
  {f29:Addr}{od29 an29:Option Addr}{sl29:Array (Option Value)}{oc29 kV29 dc29 pm29 cd29 ct29:Value}
  (a29:PySem.W.nsIn K mainGlobals "_law_next" = some (some (.ref f29))) (l29:K.lookup f29=some ⟨oc29,od29,.func (PySem.W.fnOf "_law_next" "_law_next" (zH qY) (zE qY) (zg qY) .none kV29 dc29 pm29 an29 cd29 ct29),sl29⟩) (c29:PySem.W.codeIn K cd29 "_law_next" = true) (k29:PySem.W.keepIn K (.ref f29)=true)
  {f30:Addr}{od30 an30:Option Addr}{sl30:Array (Option Value)}{oc30 kV30 dc30 pm30 cd30 ct30:Value}
  (a30:PySem.W.nsIn K mainGlobals "_law_wide" = some (some (.ref f30))) (l30:K.lookup f30=some ⟨oc30,od30,.func (PySem.W.fnOf "_law_wide" "_law_wide" (zH q5) (zE q5) (zg q5) .none kV30 dc30 pm30 an30 cd30 ct30),sl30⟩) (c30:PySem.W.codeIn K cd30 "_law_wide" = true) (k30:PySem.W.keepIn K (.ref f30)=true)
  {f31:Addr}{od31 an31:Option Addr}{sl31:Array (Option Value)}{oc31 kV31 dc31 pm31 cd31 ct31:Value}
  (a31:PySem.W.nsIn K mainGlobals "_law_low" = some (some (.ref f31))) (l31:K.lookup f31=some ⟨oc31,od31,.func (PySem.W.fnOf "_law_low" "_law_low" (zH vv) (zE vv) (zg vv) .none kV31 dc31 pm31 an31 cd31 ct31),sl31⟩) (c31:PySem.W.codeIn K cd31 "_law_low" = true) (k31:PySem.W.keepIn K (.ref f31)=true)
  {f32:Addr}{od32 an32:Option Addr}{sl32:Array (Option Value)}{oc32 kV32 dc32 pm32 cd32 ct32:Value}
  (a32:PySem.W.nsIn K mainGlobals "_law_add" = some (some (.ref f32))) (l32:K.lookup f32=some ⟨oc32,od32,.func (PySem.W.fnOf "_law_add" "_law_add" (zH vt) (zE vt) (zg vt) .none kV32 dc32 pm32 an32 cd32 ct32),sl32⟩) (c32:PySem.W.codeIn K cd32 "_law_add" = true) (k32:PySem.W.keepIn K (.ref f32)=true)
  {f33:Addr}{od33 an33:Option Addr}{sl33:Array (Option Value)}{oc33 kV33 dc33 pm33 cd33 ct33:Value}
  (a33:PySem.W.nsIn K mainGlobals "_law_off" = some (some (.ref f33))) (l33:K.lookup f33=some ⟨oc33,od33,.func (PySem.W.fnOf "_law_off" "_law_off" (zH vw) (zE vw) (zg vw) .none kV33 dc33 pm33 an33 cd33 ct33),sl33⟩) (c33:PySem.W.codeIn K cd33 "_law_off" = true) (k33:PySem.W.keepIn K (.ref f33)=true)
  {f34:Addr}{od34 an34:Option Addr}{sl34:Array (Option Value)}{oc34 kV34 dc34 pm34 cd34 ct34:Value}
  (a34:PySem.W.nsIn K mainGlobals "_law_by" = some (some (.ref f34))) (l34:K.lookup f34=some ⟨oc34,od34,.func (PySem.W.fnOf "_law_by" "_law_by" (zH v4) (zE v4) (zg v4) .none kV34 dc34 pm34 an34 cd34 ct34),sl34⟩) (c34:PySem.W.codeIn K cd34 "_law_by" = true) (k34:PySem.W.keepIn K (.ref f34)=true)
  {f35:Addr}{od35 an35:Option Addr}{sl35:Array (Option Value)}{oc35 kV35 dc35 pm35 cd35 ct35:Value}
  (a35:PySem.W.nsIn K mainGlobals "_law_part" = some (some (.ref f35))) (l35:K.lookup f35=some ⟨oc35,od35,.func (PySem.W.fnOf "_law_part" "_law_part" (zH qZ) (zE qZ) (zg qZ) .none kV35 dc35 pm35 an35 cd35 ct35),sl35⟩) (c35:PySem.W.codeIn K cd35 "_law_part" = true) (k35:PySem.W.keepIn K (.ref f35)=true)
  {f36:Addr}{od36 an36:Option Addr}{sl36:Array (Option Value)}{oc36 kV36 dc36 pm36 cd36 ct36:Value}
  (a36:PySem.W.nsIn K mainGlobals "_law_below" = some (some (.ref f36))) (l36:K.lookup f36=some ⟨oc36,od36,.func (PySem.W.fnOf "_law_below" "_law_below" (zH qA) (zE qA) (zg qA) .none kV36 dc36 pm36 an36 cd36 ct36),sl36⟩) (c36:PySem.W.codeIn K cd36 "_law_below" = true) (k36:PySem.W.keepIn K (.ref f36)=true)
  {f37:Addr}{od37 an37:Option Addr}{sl37:Array (Option Value)}{oc37 kV37 dc37 pm37 cd37 ct37:Value}
  (a37:PySem.W.nsIn K mainGlobals "_law_ratio" = some (some (.ref f37))) (l37:K.lookup f37=some ⟨oc37,od37,.func (PySem.W.fnOf "_law_ratio" "_law_ratio" (zH qB) (zE qB) (zg qB) .none kV37 dc37 pm37 an37 cd37 ct37),sl37⟩) (c37:PySem.W.codeIn K cd37 "_law_ratio" = true) (k37:PySem.W.keepIn K (.ref f37)=true)
  {f38:Addr}{od38 an38:Option Addr}{sl38:Array (Option Value)}{oc38 kV38 dc38 pm38 cd38 ct38:Value}
  (a38:PySem.W.nsIn K mainGlobals "_law_speed" = some (some (.ref f38))) (l38:K.lookup f38=some ⟨oc38,od38,.func (PySem.W.fnOf "_law_speed" "_law_speed" (zH qC) (zE qC) (zg qC) .none kV38 dc38 pm38 an38 cd38 ct38),sl38⟩) (c38:PySem.W.codeIn K cd38 "_law_speed" = true) (k38:PySem.W.keepIn K (.ref f38)=true)
  {f39:Addr}{od39 an39:Option Addr}{sl39:Array (Option Value)}{oc39 kV39 dc39 pm39 cd39 ct39:Value}
  (a39:PySem.W.nsIn K mainGlobals "_law_bundle" = some (some (.ref f39))) (l39:K.lookup f39=some ⟨oc39,od39,.func (PySem.W.fnOf "_law_bundle" "_law_bundle" (zH ql) (zE ql) (zg ql) .none kV39 dc39 pm39 an39 cd39 ct39),sl39⟩) (c39:PySem.W.codeIn K cd39 "_law_bundle" = true) (k39:PySem.W.keepIn K (.ref f39)=true)
  {f40:Addr}{od40 an40:Option Addr}{sl40:Array (Option Value)}{oc40 kV40 dc40 pm40 cd40 ct40:Value}
  (a40:PySem.W.nsIn K mainGlobals "_law_focused" = some (some (.ref f40))) (l40:K.lookup f40=some ⟨oc40,od40,.func (PySem.W.fnOf "_law_focused" "_law_focused" (zH x5) (zE x5) (zg x5) .none kV40 dc40 pm40 an40 cd40 ct40),sl40⟩) (c40:PySem.W.codeIn K cd40 "_law_focused" = true) (k40:PySem.W.keepIn K (.ref f40)=true)
  {f41:Addr}{od41 an41:Option Addr}{sl41:Array (Option Value)}{oc41 kV41 dc41 pm41 cd41 ct41:Value}
  (a41:PySem.W.nsIn K mainGlobals "_law_on" = some (some (.ref f41))) (l41:K.lookup f41=some ⟨oc41,od41,.func (PySem.W.fnOf "_law_on" "_law_on" (zH v5) (zE v5) (zg v5) .none kV41 dc41 pm41 an41 cd41 ct41),sl41⟩) (c41:PySem.W.codeIn K cd41 "_law_on" = true) (k41:PySem.W.keepIn K (.ref f41)=true)
  {f42:Addr}{od42 an42:Option Addr}{sl42:Array (Option Value)}{oc42 kV42 dc42 pm42 cd42 ct42:Value}
  (a42:PySem.W.nsIn K mainGlobals "_law_closing" = some (some (.ref f42))) (l42:K.lookup f42=some ⟨oc42,od42,.func (PySem.W.fnOf "_law_closing" "_law_closing" (zH xZ) (zE xZ) (zg xZ) .none kV42 dc42 pm42 an42 cd42 ct42),sl42⟩) (c42:PySem.W.codeIn K cd42 "_law_closing" = true) (k42:PySem.W.keepIn K (.ref f42)=true)
  {f43:Addr}{od43 an43:Option Addr}{sl43:Array (Option Value)}{oc43 kV43 dc43 pm43 cd43 ct43:Value}
  (a43:PySem.W.nsIn K mainGlobals "_law_soonest" = some (some (.ref f43))) (l43:K.lookup f43=some ⟨oc43,od43,.func (PySem.W.fnOf "_law_soonest" "_law_soonest" (zH x6) (zE x6) (zg x6) .none kV43 dc43 pm43 an43 cd43 ct43),sl43⟩) (c43:PySem.W.codeIn K cd43 "_law_soonest" = true) (k43:PySem.W.keepIn K (.ref f43)=true)
  {f44:Addr}{od44 an44:Option Addr}{sl44:Array (Option Value)}{oc44 kV44 dc44 pm44 cd44 ct44:Value}
  (a44:PySem.W.nsIn K mainGlobals "_law_groups" = some (some (.ref f44))) (l44:K.lookup f44=some ⟨oc44,od44,.func (PySem.W.fnOf "_law_groups" "_law_groups" (zH qm) (zE qm) (zg qm) .none kV44 dc44 pm44 an44 cd44 ct44),sl44⟩) (c44:PySem.W.codeIn K cd44 "_law_groups" = true) (k44:PySem.W.keepIn K (.ref f44)=true)
  {f45:Addr}{od45 an45:Option Addr}{sl45:Array (Option Value)}{oc45 kV45 dc45 pm45 cd45 ct45:Value}
  (a45:PySem.W.nsIn K mainGlobals "_law_asked" = some (some (.ref f45))) (l45:K.lookup f45=some ⟨oc45,od45,.func (PySem.W.fnOf "_law_asked" "_law_asked" (zH qz) (zE qz) (zg qz) .none kV45 dc45 pm45 an45 cd45 ct45),sl45⟩) (c45:PySem.W.codeIn K cd45 "_law_asked" = true) (k45:PySem.W.keepIn K (.ref f45)=true)
  {f46:Addr}{od46 an46:Option Addr}{sl46:Array (Option Value)}{oc46 kV46 dc46 pm46 cd46 ct46:Value}
  (a46:PySem.W.nsIn K mainGlobals "law" = some (some (.ref f46))) (l46:K.lookup f46=some ⟨oc46,od46,.func (PySem.W.fnOf "law" "law" (zH s_law) (zE s_law) (zg s_law) .none kV46 dc46 pm46 an46 cd46 ct46),sl46⟩) (c46:PySem.W.codeIn K cd46 "law" = true) (k46:PySem.W.keepIn K (.ref f46)=true)
  (z_isinstance:PySem.W.nsIn K mainGlobals "isinstance" = some none)
  (z_int:PySem.W.nsIn K mainGlobals "int" = some none)
  (z_bool:PySem.W.nsIn K mainGlobals "bool" = some none)
  (z_abs:PySem.W.nsIn K mainGlobals "abs" = some none)
  (z_len:PySem.W.nsIn K mainGlobals "len" = some none)
  (z_max:PySem.W.nsIn K mainGlobals "max" = some none)
  (z_min:PySem.W.nsIn K mainGlobals "min" = some none)
  (z_range:PySem.W.nsIn K mainGlobals "range" = some none)
  (z_tuple:PySem.W.nsIn K mainGlobals "tuple" = some none)
  (z_sum:PySem.W.nsIn K mainGlobals "sum" = some none)
  (z_zip:PySem.W.nsIn K mainGlobals "zip" = some none)
  (z_list:PySem.W.nsIn K mainGlobals "list" = some none)
  (z_enumerate:PySem.W.nsIn K mainGlobals "enumerate" = some none)
  (z_sorted:PySem.W.nsIn K mainGlobals "sorted" = some none)
  (z_all:PySem.W.nsIn K mainGlobals "all" = some none)
  (z_ValueError:PySem.W.nsIn K mainGlobals "ValueError" = some none)
  {C_ClackError:Addr}(a_ClackError:PySem.W.nsIn K mainGlobals "ClackError" = some (some (.ref C_ClackError)))
  {C_Shut:Addr}(a_Shut:PySem.W.nsIn K mainGlobals "Shut" = some (some (.ref C_Shut)))
  {C_Course:Addr}(a_Course:PySem.W.nsIn K mainGlobals "Course" = some (some (.ref C_Course)))
  {C_Together:Addr}(a_Together:PySem.W.nsIn K mainGlobals "Together" = some (some (.ref C_Together)))
  {C_TooMany:Addr}(a_TooMany:PySem.W.nsIn K mainGlobals "TooMany" = some (some (.ref C_TooMany)))
  {C_NotEven:Addr}(a_NotEven:PySem.W.nsIn K mainGlobals "NotEven" = some (some (.ref C_NotEven)))
  {C_NoBall:Addr}(a_NoBall:PySem.W.nsIn K mainGlobals "NoBall" = some (some (.ref C_NoBall)))
  (kp_Shut:PySem.W.keepIn K (.ref C_Shut)=true)
  {fI_Shut:Addr}{odI_Shut anI_Shut:Option Addr}{slI_Shut:Array (Option Value)}{kVI_Shut dcI_Shut pmI_Shut cdI_Shut ctI_Shut:Value}(fi_Shut:PySem.W.findIn K (.ref C_Shut) "__init__" = some (some (.ref fI_Shut)))
  (li_Shut:K.lookup fI_Shut=some ⟨.type "function",odI_Shut,.func (PySem.W.fnOf "__init__" "Shut.__init__" (zH qE) (zE qE) (zg qE) .none kVI_Shut dcI_Shut pmI_Shut anI_Shut cdI_Shut ctI_Shut),slI_Shut⟩) (ci_Shut:PySem.W.codeIn K cdI_Shut "Shut.__init__" = true) (ki_Shut:PySem.W.keepIn K (.ref fI_Shut)=true)
  (sa_Shut:PySem.W.findIn K (.ref C_Shut) "__setattr__" = some (some (.builtin "object.__setattr__")))
  (kp_Course:PySem.W.keepIn K (.ref C_Course)=true)
  {fI_Course:Addr}{odI_Course anI_Course:Option Addr}{slI_Course:Array (Option Value)}{kVI_Course dcI_Course pmI_Course cdI_Course ctI_Course:Value}(fi_Course:PySem.W.findIn K (.ref C_Course) "__init__" = some (some (.ref fI_Course)))
  (li_Course:K.lookup fI_Course=some ⟨.type "function",odI_Course,.func (PySem.W.fnOf "__init__" "Course.__init__" (zH xX) (zE xX) (zg xX) .none kVI_Course dcI_Course pmI_Course anI_Course cdI_Course ctI_Course),slI_Course⟩) (ci_Course:PySem.W.codeIn K cdI_Course "Course.__init__" = true) (ki_Course:PySem.W.keepIn K (.ref fI_Course)=true)
  (sa_Course:PySem.W.findIn K (.ref C_Course) "__setattr__" = some (some (.builtin "object.__setattr__")))
  (kp_Together:PySem.W.keepIn K (.ref C_Together)=true)
  {fI_Together:Addr}{odI_Together anI_Together:Option Addr}{slI_Together:Array (Option Value)}{kVI_Together dcI_Together pmI_Together cdI_Together ctI_Together:Value}(fi_Together:PySem.W.findIn K (.ref C_Together) "__init__" = some (some (.ref fI_Together)))
  (li_Together:K.lookup fI_Together=some ⟨.type "function",odI_Together,.func (PySem.W.fnOf "__init__" "Together.__init__" (zH xE) (zE xE) (zg xE) .none kVI_Together dcI_Together pmI_Together anI_Together cdI_Together ctI_Together),slI_Together⟩) (ci_Together:PySem.W.codeIn K cdI_Together "Together.__init__" = true) (ki_Together:PySem.W.keepIn K (.ref fI_Together)=true)
  (sa_Together:PySem.W.findIn K (.ref C_Together) "__setattr__" = some (some (.builtin "object.__setattr__")))
  (xm_Shut:JR K C_Shut fI_Shut=true)
  (na_Shut:PySem.W.findIn K (.ref C_Shut) "moment" = some none)
  (xm_Together:JR K C_Together fI_Together=true)
  (na_Together:PySem.W.findIn K (.ref C_Together) "moment" = some none)
  (xkT:xKB K C_Together=true)
  (exT:PySem.W.exmOne K (.ref C_Together) (.ref C_Together)=some true)
  (kt0:PySem.W.kitOne K (.ref C_Together) (.ref C_ClackError)=some true)
  (ktv:PySem.W.kitOne K (.ref C_Together) (.type "ValueError")=some true)
  (kta:PySem.W.kitAny K (.ref C_Together) [.ref C_Shut,.ref C_TooMany,.ref C_NotEven,.ref C_NoBall]=some false)
  (hdl:PySem.W.codeHdIn K cde Tb=true)
  (xkS:xKB K C_Shut=true)
  (exS:PySem.W.exmOne K (.ref C_Shut) (.ref C_Shut)=some true)
  (mkC:PySem.W.makesIn K C_Course=true)
  (ifC:PySem.W.isFn K (.ref fI_Course)=true)
  (pgC:PySem.W.plainGet K C_Course Str.empty=true)
  (hdC:PySem.W.hasDictIn K C_Course=true)
  (poC:PySem.W.plainOver K C_Course=true)
  (nc_place_bottom:PySem.W.findIn K (.ref C_Course) "place_bottom" = some none)
  (nc_speed_bottom:PySem.W.findIn K (.ref C_Course) "speed_bottom" = some none)
  (nc_tick:PySem.W.findIn K (.ref C_Course) "tick" = some none)
  (nc_weights:PySem.W.findIn K (.ref C_Course) "weights" = some none)
  (nc_tracks:PySem.W.findIn K (.ref C_Course) "tracks" = some none)
  (nc_low:PySem.W.findIn K (.ref C_Course) "low" = some none)
  (nc_high:PySem.W.findIn K (.ref C_Course) "high" = some none)
  (ur:PySem.W.readsIn K C_ClackError (.type "type")=true) (ug:PySem.W.specialIn K (.ref C_ClackError) "__getattribute__" = some (some (.builtin "type.__getattribute__"))) (ui:PySem.W.findCls K (.ref C_ClackError) (.type "type") "__init__" = some (.val (.builtin "ValueError.__init__"))) :
  ∃fd:FuncData,(∀(s:Shared) (v:Value),BindsTo s fd ⟨[v],[]⟩ [("script",v)])/\∀base:Heap,K.In base->base.Ns mainGlobals mg->base.BuiltinsAt mg Tb->vL l.prog w K mg base CX0 8 fa fd ["script"] (JI Tb K):=by
 have e:=hfa.symm.trans (PySem.W.mg_of X G a46)
 cases e
 have d_is_whole:Df K mg "is_whole" qV ["thing"] []:=xc l0 c0 k0 (PySem.W.mg_of X G a0) λus hl=>match us,hl with | [_],_=>rfl
 have d_greatest_divisor:Df K mg "greatest_divisor" xn ["one","other"] []:=xc l1 c1 k1 (PySem.W.mg_of X G a1) λus hl=>match us,hl with | [_,_],_=>rfl
 have d_ratio:Df K mg "ratio" jf ["top","bottom"] []:=⟨⟨f2,_,_,_,_,_,_,_,_,_,_,[],l2,c2,k2,PySem.W.mg_of X G a2,.nil,λs us KX hl=>match us,hl with | [_,_],_=>.of_defaults rfl (KX _ _ ld2) rfl rfl rfl⟩⟩
 have dd_ratio:Df K mg "ratio" jf ["top","bottom"] [.int 1]:=⟨⟨f2,_,_,_,_,_,_,_,_,_,_,[.int 1 tkd2],l2,c2,k2,PySem.W.mg_of X G a2,.cons ⟨_,rfl⟩ .nil,λs us KX hl=>have hl2:us.length=1:=(by simpa using hl);match us,hl2 with | [_],_=>.of_defaults rfl (KX _ _ ld2) rfl rfl rfl⟩⟩
 have d_minus:Df K mg "minus" jx ["one","other"] []:=xc l3 c3 k3 (PySem.W.mg_of X G a3) λus hl=>match us,hl with | [_,_],_=>rfl
 have d_over:Df K mg "over" Zg ["one","other"] []:=xc l4 c4 k4 (PySem.W.mg_of X G a4) λus hl=>match us,hl with | [_,_],_=>rfl
 have d_less:Df K mg "less" Zf ["one","other"] []:=xc l5 c5 k5 (PySem.W.mg_of X G a5) λus hl=>match us,hl with | [_,_],_=>rfl
 have d_least_multiple:Df K mg "least_multiple" xy ["numbers"] []:=xc l6 c6 k6 (PySem.W.mg_of X G a6) λus hl=>match us,hl with | [_],_=>rfl
 have d_common_bottom:Df K mg "common_bottom" xD ["ratios"] []:=xc l7 c7 k7 (PySem.W.mg_of X G a7) λus hl=>match us,hl with | [_],_=>rfl
 have d_track_of:Df K mg "track_of" va ["course","thing"] []:=xc l8 c8 k8 (PySem.W.mg_of X G a8) λus hl=>match us,hl with | [_,_],_=>rfl
 have d_moment_of:Df K mg "moment_of" qD ["course","ticks"] []:=xc l9 c9 k9 (PySem.W.mg_of X G a9) λus hl=>match us,hl with | [_,_],_=>rfl
 have d_shut_moment:Df K mg "shut_moment" x9 ["walls"] []:=xc l10 c10 k10 (PySem.W.mg_of X G a10) λus hl=>match us,hl with | [_],_=>rfl
 have d_soonest:Df K mg "soonest" vC ["course"] []:=xc l11 c11 k11 (PySem.W.mg_of X G a11) λus hl=>match us,hl with | [_],_=>rfl
 have d_spot_at:Df K mg "spot_at" vD ["track","ticks"] []:=xc l12 c12 k12 (PySem.W.mg_of X G a12) λus hl=>match us,hl with | [_,_],_=>rfl
 have d_side_at:Df K mg "side_at" vB ["course","spot","ticks"] []:=xc l13 c13 k13 (PySem.W.mg_of X G a13) λus hl=>match us,hl with | [_,_,_],_=>rfl
 have d_groups_at:Df K mg "groups_at" qy ["course","ticks"] []:=xc l14 c14 k14 (PySem.W.mg_of X G a14) λus hl=>match us,hl with | [_,_],_=>rfl
 have d_wall_of:Df K mg "wall_of" vE ["course","where"] []:=xc l15 c15 k15 (PySem.W.mg_of X G a15) λus hl=>match us,hl with | [_,_],_=>rfl
 have d_came_to_wall:Df K mg "came_to_wall" xL ["course","group"] []:=xc l16 c16 k16 (PySem.W.mg_of X G a16) λus hl=>match us,hl with | [_,_],_=>rfl
 have d_rebound:Df K mg "rebound" vz ["course","group","ticks"] []:=xc l17 c17 k17 (PySem.W.mg_of X G a17) λus hl=>match us,hl with | [_,_,_],_=>rfl
 have d_deal:DfC K mg "deal" je ["course","first","last","wall"] cde Tb:=⟨⟨f18,_,_,_,_,_,_,_,_,_,l18,c18,k18,PySem.W.mg_of X G a18,.all λus hl=>match us,hl with | [_,_,_,_],_=>rfl⟩,hdl⟩
 have d_part:Df K mg "part" Zh ["course","first"] []:=xc l19 c19 k19 (PySem.W.mg_of X G a19) λus hl=>match us,hl with | [_,_],_=>rfl
 have d_refine:Df K mg "refine" v7 ["course","many"] []:=xc l20 c20 k20 (PySem.W.mg_of X G a20) λus hl=>match us,hl with | [_,_],_=>rfl
 have d_refined:Df K mg "refined" vA ["track","many"] []:=xc l21 c21 k21 (PySem.W.mg_of X G a21) λus hl=>match us,hl with | [_,_],_=>rfl
 have d_place_and_speed:Df K mg "place_and_speed" xr ["course","track","ticks"] []:=xc l22 c22 k22 (PySem.W.mg_of X G a22) λus hl=>match us,hl with | [_,_,_],_=>rfl
 have d_placed:Df K mg "placed" v6 ["course","ticks"] []:=xc l23 c23 k23 (PySem.W.mg_of X G a23) λus hl=>match us,hl with | [_,_],_=>rfl
 have d_first_ticks:Df K mg "first_ticks" xY ["course","walls"] []:=xc l24 c24 k24 (PySem.W.mg_of X G a24) λus hl=>match us,hl with | [_,_],_=>rfl
 have d_next_coming:Df K mg "next_coming" x8 ["row","walls"] []:=xc l25 c25 k25 (PySem.W.mg_of X G a25) λus hl=>match us,hl with | [_,_],_=>rfl
 have d_behind:Df K mg "behind" v3 ["row","walls"] []:=xc l26 c26 k26 (PySem.W.mg_of X G a26) λus hl=>match us,hl with | [_,_],_=>rfl
 have d_law_cell:Df K mg "_law_cell" qW ["script","k"] []:=xc l27 c27 k27 (PySem.W.mg_of X G a27) λus hl=>match us,hl with | [_,_],_=>rfl
 have d_law_left:Df K mg "_law_left" qX ["cell"] []:=xc l28 c28 k28 (PySem.W.mg_of X G a28) λus hl=>match us,hl with | [_],_=>rfl
 have d_law_next:Df K mg "_law_next" qY ["pool","base"] []:=xc l29 c29 k29 (PySem.W.mg_of X G a29) λus hl=>match us,hl with | [_,_],_=>rfl
 have d_law_wide:Df K mg "_law_wide" q5 ["pool","base"] []:=xc l30 c30 k30 (PySem.W.mg_of X G a30) λus hl=>match us,hl with | [_,_],_=>rfl
 have d_law_low:Df K mg "_law_low" vv ["top","bottom"] []:=xc l31 c31 k31 (PySem.W.mg_of X G a31) λus hl=>match us,hl with | [_,_],_=>rfl
 have d_law_add:Df K mg "_law_add" vt ["a","b"] []:=xc l32 c32 k32 (PySem.W.mg_of X G a32) λus hl=>match us,hl with | [_,_],_=>rfl
 have d_law_off:Df K mg "_law_off" vw ["a","b"] []:=xc l33 c33 k33 (PySem.W.mg_of X G a33) λus hl=>match us,hl with | [_,_],_=>rfl
 have d_law_by:Df K mg "_law_by" v4 ["a","b"] []:=xc l34 c34 k34 (PySem.W.mg_of X G a34) λus hl=>match us,hl with | [_,_],_=>rfl
 have d_law_part:Df K mg "_law_part" qZ ["a","b"] []:=xc l35 c35 k35 (PySem.W.mg_of X G a35) λus hl=>match us,hl with | [_,_],_=>rfl
 have d_law_below:Df K mg "_law_below" qA ["a","b"] []:=xc l36 c36 k36 (PySem.W.mg_of X G a36) λus hl=>match us,hl with | [_,_],_=>rfl
 have d_law_ratio:Df K mg "_law_ratio" qB ["pool","size"] []:=xc l37 c37 k37 (PySem.W.mg_of X G a37) λus hl=>match us,hl with | [_,_],_=>rfl
 have d_law_speed:Df K mg "_law_speed" qC ["pool"] []:=xc l38 c38 k38 (PySem.W.mg_of X G a38) λus hl=>match us,hl with | [_],_=>rfl
 have d_law_bundle:Df K mg "_law_bundle" ql ["pool","where","place","moment","alike"] []:=xc l39 c39 k39 (PySem.W.mg_of X G a39) λus hl=>match us,hl with | [_,_,_,_,_],_=>rfl
 have d_law_focused:Df K mg "_law_focused" x5 ["pool","alike"] []:=xc l40 c40 k40 (PySem.W.mg_of X G a40) λus hl=>match us,hl with | [_,_],_=>rfl
 have d_law_on:Df K mg "_law_on" v5 ["things","t"] []:=xc l41 c41 k41 (PySem.W.mg_of X G a41) λus hl=>match us,hl with | [_,_],_=>rfl
 have d_law_closing:Df K mg "_law_closing" xZ ["one","other"] []:=xc l42 c42 k42 (PySem.W.mg_of X G a42) λus hl=>match us,hl with | [_,_],_=>rfl
 have d_law_soonest:Df K mg "_law_soonest" x6 ["row","walls"] []:=xc l43 c43 k43 (PySem.W.mg_of X G a43) λus hl=>match us,hl with | [_,_],_=>rfl
 have d_law_groups:Df K mg "_law_groups" qm ["row","walls"] []:=xc l44 c44 k44 (PySem.W.mg_of X G a44) λus hl=>match us,hl with | [_,_],_=>rfl
 have d_law_asked:Df K mg "_law_asked" qz ["row","walls"] []:=xc l45 c45 k45 (PySem.W.mg_of X G a45) λus hl=>match us,hl with | [_,_],_=>rfl
 have T:TxB K mg:=⟨zdU K,zdT K,PySem.W.mg_none_of X G z_isinstance,PySem.W.mg_none_of X G z_int,PySem.W.mg_none_of X G z_bool,PySem.W.mg_none_of X G z_abs,PySem.W.mg_none_of X G z_len,PySem.W.mg_none_of X G z_max,PySem.W.mg_none_of X G z_min,PySem.W.mg_none_of X G z_range,PySem.W.mg_none_of X G z_tuple,PySem.W.mg_none_of X G z_sum⟩
 have F:=Qc (st:=s_law) l46 c46 k46
 refine⟨PySem.W.fnOf "law" "law" (zH s_law) (zE s_law) (zg s_law) .none kV46 dc46 pm46 an46 cd46 ct46,λs v=>.of_eq rfl,λbase hKb hGb hBB=>?_⟩
 obtain⟨X11,B11,cd11,hc11,hh11,ho11⟩:=zbP hKb xm_Shut ⟨_,hKb _ _ li_Shut,rfl⟩ kp_Shut
 have mC:=PySem.W.mg_of X G a_ClackError
 have mS:=PySem.W.mg_of X G a_Shut
 have mCo:=PySem.W.mg_of X G a_Course
 have U:XUp K C_ClackError (.type "type"):=⟨ur,ug,ui⟩
 have ZS:=zdv xkS
 have S11:zay K C_Shut cd11:=⟨hc11,hh11,ho11,ZS.ob,sa_Shut⟩
 have FU11:=Qc (st:=qE) li_Shut ci_Shut ki_Shut
 have F11:=KQ.zcj (P:=l.prog) (w:=w) FU11 U mC B11 S11 na_Shut
 have BI11:=FU11.binds (ps:=["self","moment"]) λ_ _ _ _ _ _ us hl=>match us,hl with | [_,_],_=>rfl
 obtain⟨X12,B12,cd12,hc12,hh12,ho12⟩:=zbP hKb xm_Together ⟨_,hKb _ _ li_Together,rfl⟩ kp_Together
 have mT:=PySem.W.mg_of X G a_Together
 have ZT:=zdv xkT
 have S12:zay K C_Together cd12:=⟨hc12,hh12,ho12,ZT.ob,sa_Together⟩
 have FU12:=Qc (st:=xE) li_Together ci_Together ki_Together
 have F12:=KQ.zck (P:=l.prog) (w:=w) FU12 U mC B12 S12 na_Together
 have BI12:=FU12.binds (ps:=["self","moment"]) λ_ _ _ _ _ _ us hl=>match us,hl with | [_,_],_=>rfl
 have FUC:=Qc (st:=xX) li_Course ci_Course ki_Course
 have BIC:=FUC.binds (ps:=["self","row","walls"]) λ_ _ _ _ _ _ us hl=>match us,hl with | [_,_,_],_=>rfl
 have TC:KQ.TCo K C_Course:=⟨⟨pgC,hdC,poC,sa_Course⟩,nc_place_bottom,nc_speed_bottom,nc_tick,nc_weights,nc_tracks,nc_low,nc_high⟩
 have M:Mk K C_Course fI_Course:=⟨mkC,fi_Course,ifC,kp_Course⟩
 have nE:=PySem.W.mg_none_of X G z_enumerate
 have TQ:KQ.TxQ K mg:=⟨T,PySem.W.mg_none_of X G z_list,PySem.W.mg_none_of X G z_zip⟩
 have cW:=zbc (P:=l.prog) (w:=w) (base:=base) d_is_whole T
 have cG:=zd6 (P:=l.prog) (w:=w) (base:=base) d_greatest_divisor
 have cR:=zbb d_ratio T cW cG
 have cM:=KQ.zba d_minus cR
 have cO:=zcq d_over cR
 have cLs:=KQ.zcn (P:=l.prog) (w:=w) (base:=base) d_less
 have cLcm:=KQ.zd9 d_least_multiple cG
 have cB:=KQ.zeZ d_common_bottom cLcm
 have cTr:=KQ.zfo (P:=l.prog) (w:=w) (base:=base) d_track_of TC
 have Fi:=KQ.ze0 FUC TQ TC cB cR cTr
 have cMo:=KQ.ze8 d_moment_of TC cR
 have cSh:=KQ.zfj d_shut_moment cLs cM cO
 have cSo:=KQ.zfm d_soonest TQ TC cLs
 have cFT:=KQ.ze5 d_first_ticks TC cSo cSh cMo X11 F11 mS BI11
 have cSpo:=KQ.zfn (P:=l.prog) (w:=w) (base:=base) d_spot_at
 have cSi:=KQ.zfk d_side_at TC cSpo
 have cWo:=KQ.zfq (P:=l.prog) (w:=w) (base:=base) d_wall_of TC
 have cCw:=KQ.ze2 d_came_to_wall TQ TC cWo
 have cGr:=KQ.ze6 d_groups_at TQ nE TC cSpo cSi cCw
 have cNC:=KQ.ze9 d_next_coming M Fi mCo BIC cFT cMo cGr
 have cRf:=KQ.zfi (P:=l.prog) (w:=w) (base:=base) d_refined
 have cRe:=KQ.zfh d_refine TC cRf
 have cPa:=KQ.zfc d_part TC cG cRe
 have cDe:=KQ.ze3 (P:=l.prog) (w:=w) (base:=base) d_deal TC (PySem.W.mg_none_of X G z_sorted) hBB
 have cRb:=KQ.zfg d_rebound TC TQ (PySem.W.mg_none_of X G z_all) cWo cPa cDe cMo X12 F12 mT BI12
 have cPs:=KQ.zfe d_place_and_speed TC cR cSpo
 have cPl:=KQ.zfd d_placed TQ TC cPs
 have cBh:=KQ.zeX d_behind M Fi mCo BIC cFT cMo cGr cRb cPl
 have cNq:=zfa cNC
 have cC:=zci (P:=l.prog) (w:=w) (base:=base) d_law_cell T
 have cD:=zd5 (P:=l.prog) (w:=w) (base:=base) d_law_left T
 have cN:=zcp (P:=l.prog) (w:=w) (base:=base) d_law_next
 have cWi:=zfp d_law_wide T cN
 have cL:=zea (P:=l.prog) (w:=w) (base:=base) d_law_low T
 have cA:=zcl d_law_add cL
 have cOf:=zco d_law_off cL
 have cBy:=zd8 d_law_by cL
 have cPt:=za9 d_law_part cL
 have cBl:=zcm (P:=l.prog) (w:=w) (base:=base) d_law_below
 have cRa:=zff d_law_ratio cN cWi cL
 have cSpB:=zeb d_law_speed cN cL
 have cBu:=zeY d_law_bundle T ⟨nE⟩ cN cSpB cL cA cOf cBy
 have cFo:=ze4 d_law_focused T cN cRa cL cBu
 have cCl:=ze1 d_law_closing cBl cOf cPt
 have cSn:=zfl d_law_soonest TQ cBl cCl
 have cOn:=zfb d_law_on TQ cA cBy
 have cLg:=ze7 d_law_groups TQ cBl
 have cAs:=zeW d_law_asked TQ mT exT ZT na_Together mC (PySem.W.mg_none_of X G z_ValueError) mS (PySem.W.mg_of X G a_TooMany) (PySem.W.mg_of X G a_NotEven) (PySem.W.mg_of X G a_NoBall) kt0 ktv kta cBh
 exact zd7 F TQ cC cD cFo cSn cAs cOn cLg cNq
theorem walk {l:PySem.W.OpenLaw}{q:Program}{loose:List Str}{XP:(Str->Option Value)->Heap->Prop}{YP:World->Heap->Prop}{d:DefRec}{K:Params->PySem.W.Frag}{cde Tb:Addr}(hn:l.most=some 63) (hdf:d.params.defaults=[])
  (hY:∀(w:World) (h:Heap),YP w h->(K w.params).In h/\h.get? Tb=some (PySem.W.tabObj #[])) (hKT:∀w:World,(K w.params).lookup Tb=none) (hC:∀w:World,PySem.W.codeHdIn (K w.params) cde Tb=true)
  (F:∀(w:World) (mg:Str->Option Value) (fa:Addr) (h:Heap),(K w.params).In h->h.Ns mainGlobals mg->mg d.name=some (.ref fa) →
   ∃fd:FuncData,(∀(s:Shared) (u:Value),BindsTo s fd ⟨[u],[]⟩ [("script",u)])/\∀base:Heap,(K w.params).In base->base.Ns mainGlobals mg->base.BuiltinsAt mg Tb->vL l.prog w (K w.params) mg base CX0 8 fa fd ["script"] (JI Tb (K w.params))) :
  PySem.W.WalkO q loose XP YP l.row.toRowW d [] (λf vs=>PySem.call f vs) :=
 L2.zbN (n:=63) (k:=8) (x:="script") (CX:=λ_=>CX0) (sp:=λw=>JI Tb (K w.params)) hn (by decide) hdf ⟨rfl,by decide,by decide⟩ hY hKT hC F (λ_ _ a ns hl hT hS=>⟨a,ns,rfl,hS,hl,⟨#[],hT,trivial,.inl rfl⟩,λ_=>rfl⟩) λ_ _ _ _ _ z=>z
end KT
open PySem PySem.W PyProof.Rows
set_option maxRecDepth 100000 in
set_option maxHeartbeats 0 in
theorem PySem.Challenge.cw_clackrow_k13_together_refused_holds : PySem.Challenge.rw_clackrow_k13_together_refused.Holds := by
 w_on;o_law;k_head;(case hw=>w_witness2)
 k_fill
 refine KT.walk (l:=PySem.Challenge.rw_clackrow_k13_together_refused) (cde:=253) (Tb:=251) rfl rfl (λw h Y=>⟨PySem.W.km_in_of Y,PySem.W.km_tabs_of Y _ (List.mem_cons_self ..)⟩) ?hKT ?hC ?F
 case hKT=>intro w;kernel_rfl
 case hC=>intro w;kernel_rfl
 case F =>
  intro w mg fa h KX G hmg
  refine' KT.zdz (cde:=253) (Tb:=251) KX G hmg ?a0 ?l0 ?c0 ?k0 ?a1 ?l1 ?c1 ?k1 ?a2 ?l2 ?c2 ?k2 ?ld2 ?a3 ?l3 ?c3 ?k3 ?a4 ?l4 ?c4 ?k4 ?a5 ?l5 ?c5 ?k5 ?a6 ?l6 ?c6 ?k6 ?a7 ?l7 ?c7 ?k7 ?a8 ?l8 ?c8 ?k8 ?a9 ?l9 ?c9 ?k9 ?a10 ?l10 ?c10 ?k10 ?a11 ?l11 ?c11 ?k11 ?a12 ?l12 ?c12 ?k12 ?a13 ?l13 ?c13 ?k13 ?a14 ?l14 ?c14 ?k14 ?a15 ?l15 ?c15 ?k15 ?a16 ?l16 ?c16 ?k16 ?a17 ?l17 ?c17 ?k17 ?a18 ?l18 ?c18 ?k18 ?a19 ?l19 ?c19 ?k19 ?a20 ?l20 ?c20 ?k20 ?a21 ?l21 ?c21 ?k21 ?a22 ?l22 ?c22 ?k22 ?a23 ?l23 ?c23 ?k23 ?a24 ?l24 ?c24 ?k24 ?a25 ?l25 ?c25 ?k25 ?a26 ?l26 ?c26 ?k26 ?a27 ?l27 ?c27 ?k27 ?a28 ?l28 ?c28 ?k28 ?a29 ?l29 ?c29 ?k29 ?a30 ?l30 ?c30 ?k30 ?a31 ?l31 ?c31 ?k31 ?a32 ?l32 ?c32 ?k32 ?a33 ?l33 ?c33 ?k33 ?a34 ?l34 ?c34 ?k34 ?a35 ?l35 ?c35 ?k35 ?a36 ?l36 ?c36 ?k36 ?a37 ?l37 ?c37 ?k37 ?a38 ?l38 ?c38 ?k38 ?a39 ?l39 ?c39 ?k39 ?a40 ?l40 ?c40 ?k40 ?a41 ?l41 ?c41 ?k41 ?a42 ?l42 ?c42 ?k42 ?a43 ?l43 ?c43 ?k43 ?a44 ?l44 ?c44 ?k44 ?a45 ?l45 ?c45 ?k45 ?a46 ?l46 ?c46 ?k46 ?z_isinstance ?z_int ?z_bool ?z_abs ?z_len ?z_max ?z_min ?z_range ?z_tuple ?z_sum ?z_zip ?z_list ?z_enumerate ?z_sorted ?z_all ?z_ValueError ?a_ClackError ?a_Shut ?a_Course ?a_Together ?a_TooMany ?a_NotEven ?a_NoBall ?kp_Shut ?fi_Shut ?li_Shut ?ci_Shut ?ki_Shut ?sa_Shut ?kp_Course ?fi_Course ?li_Course ?ci_Course ?ki_Course ?sa_Course ?kp_Together ?fi_Together ?li_Together ?ci_Together ?ki_Together ?sa_Together ?xm_Shut ?na_Shut ?xm_Together ?na_Together ?xkT ?exT ?kt0 ?ktv ?kta ?hdl ?xkS ?exS ?mkC ?ifC ?pgC ?hdC ?poC ?nc_place_bottom ?nc_speed_bottom ?nc_tick ?nc_weights ?nc_tracks ?nc_low ?nc_high ?ur ?ug ?ui
  (case a0=>k_is)
  (case l0=>k_is)
  (case c0=>k_is)
  (case k0=>k_is)
  (case a1=>k_is)
  (case l1=>k_is)
  (case c1=>k_is)
  (case k1=>k_is)
  (case a2=>k_is)
  (case l2=>k_is)
  (case c2=>k_is)
  (case k2=>k_is)
  (case ld2=>k_is)
  (case a3=>k_is)
  (case l3=>k_is)
  (case c3=>k_is)
  (case k3=>k_is)
  (case a4=>k_is)
  (case l4=>k_is)
  (case c4=>k_is)
  (case k4=>k_is)
  (case a5=>k_is)
  (case l5=>k_is)
  (case c5=>k_is)
  (case k5=>k_is)
  (case a6=>k_is)
  (case l6=>k_is)
  (case c6=>k_is)
  (case k6=>k_is)
  (case a7=>k_is)
  (case l7=>k_is)
  (case c7=>k_is)
  (case k7=>k_is)
  (case a8=>k_is)
  (case l8=>k_is)
  (case c8=>k_is)
  (case k8=>k_is)
  (case a9=>k_is)
  (case l9=>k_is)
  (case c9=>k_is)
  (case k9=>k_is)
  (case a10=>k_is)
  (case l10=>k_is)
  (case c10=>k_is)
  (case k10=>k_is)
  (case a11=>k_is)
  (case l11=>k_is)
  (case c11=>k_is)
  (case k11=>k_is)
  (case a12=>k_is)
  (case l12=>k_is)
  (case c12=>k_is)
  (case k12=>k_is)
  (case a13=>k_is)
  (case l13=>k_is)
  (case c13=>k_is)
  (case k13=>k_is)
  (case a14=>k_is)
  (case l14=>k_is)
  (case c14=>k_is)
  (case k14=>k_is)
  (case a15=>k_is)
  (case l15=>k_is)
  (case c15=>k_is)
  (case k15=>k_is)
  (case a16=>k_is)
  (case l16=>k_is)
  (case c16=>k_is)
  (case k16=>k_is)
  (case a17=>k_is)
  (case l17=>k_is)
  (case c17=>k_is)
  (case k17=>k_is)
  (case a18=>k_is)
  (case l18=>k_is)
  (case c18=>k_is)
  (case k18=>k_is)
  (case a19=>k_is)
  (case l19=>k_is)
  (case c19=>k_is)
  (case k19=>k_is)
  (case a20=>k_is)
  (case l20=>k_is)
  (case c20=>k_is)
  (case k20=>k_is)
  (case a21=>k_is)
  (case l21=>k_is)
  (case c21=>k_is)
  (case k21=>k_is)
  (case a22=>k_is)
  (case l22=>k_is)
  (case c22=>k_is)
  (case k22=>k_is)
  (case a23=>k_is)
  (case l23=>k_is)
  (case c23=>k_is)
  (case k23=>k_is)
  (case a24=>k_is)
  (case l24=>k_is)
  (case c24=>k_is)
  (case k24=>k_is)
  (case a25=>k_is)
  (case l25=>k_is)
  (case c25=>k_is)
  (case k25=>k_is)
  (case a26=>k_is)
  (case l26=>k_is)
  (case c26=>k_is)
  (case k26=>k_is)
  (case a27=>k_is)
  (case l27=>k_is)
  (case c27=>k_is)
  (case k27=>k_is)
  (case a28=>k_is)
  (case l28=>k_is)
  (case c28=>k_is)
  (case k28=>k_is)
  (case a29=>k_is)
  (case l29=>k_is)
  (case c29=>k_is)
  (case k29=>k_is)
  (case a30=>k_is)
  (case l30=>k_is)
  (case c30=>k_is)
  (case k30=>k_is)
  (case a31=>k_is)
  (case l31=>k_is)
  (case c31=>k_is)
  (case k31=>k_is)
  (case a32=>k_is)
  (case l32=>k_is)
  (case c32=>k_is)
  (case k32=>k_is)
  (case a33=>k_is)
  (case l33=>k_is)
  (case c33=>k_is)
  (case k33=>k_is)
  (case a34=>k_is)
  (case l34=>k_is)
  (case c34=>k_is)
  (case k34=>k_is)
  (case a35=>k_is)
  (case l35=>k_is)
  (case c35=>k_is)
  (case k35=>k_is)
  (case a36=>k_is)
  (case l36=>k_is)
  (case c36=>k_is)
  (case k36=>k_is)
  (case a37=>k_is)
  (case l37=>k_is)
  (case c37=>k_is)
  (case k37=>k_is)
  (case a38=>k_is)
  (case l38=>k_is)
  (case c38=>k_is)
  (case k38=>k_is)
  (case a39=>k_is)
  (case l39=>k_is)
  (case c39=>k_is)
  (case k39=>k_is)
  (case a40=>k_is)
  (case l40=>k_is)
  (case c40=>k_is)
  (case k40=>k_is)
  (case a41=>k_is)
  (case l41=>k_is)
  (case c41=>k_is)
  (case k41=>k_is)
  (case a42=>k_is)
  (case l42=>k_is)
  (case c42=>k_is)
  (case k42=>k_is)
  (case a43=>k_is)
  (case l43=>k_is)
  (case c43=>k_is)
  (case k43=>k_is)
  (case a44=>k_is)
  (case l44=>k_is)
  (case c44=>k_is)
  (case k44=>k_is)
  (case a45=>k_is)
  (case l45=>k_is)
  (case c45=>k_is)
  (case k45=>k_is)
  (case a46=>k_is)
  (case l46=>k_is)
  (case c46=>k_is)
  (case k46=>k_is)
  (case z_isinstance=>k_is)
  (case z_int=>k_is)
  (case z_bool=>k_is)
  (case z_abs=>k_is)
  (case z_len=>k_is)
  (case z_max=>k_is)
  (case z_min=>k_is)
  (case z_range=>k_is)
  (case z_tuple=>k_is)
  (case z_sum=>k_is)
  (case z_zip=>k_is)
  (case z_list=>k_is)
  (case z_enumerate=>k_is)
  (case z_sorted=>k_is)
  (case z_all=>k_is)
  (case z_ValueError=>k_is)
  (case a_ClackError=>k_is)
  (case a_Shut=>k_is)
  (case a_Course=>k_is)
  (case a_Together=>k_is)
  (case a_TooMany=>k_is)
  (case a_NotEven=>k_is)
  (case a_NoBall=>k_is)
  (case kp_Shut=>k_is)
  (case fi_Shut=>k_is)
  (case li_Shut=>k_is)
  (case ci_Shut=>k_is)
  (case ki_Shut=>k_is)
  (case sa_Shut=>k_is)
  (case kp_Course=>k_is)
  (case fi_Course=>k_is)
  (case li_Course=>k_is)
  (case ci_Course=>k_is)
  (case ki_Course=>k_is)
  (case sa_Course=>k_is)
  (case kp_Together=>k_is)
  (case fi_Together=>k_is)
  (case li_Together=>k_is)
  (case ci_Together=>k_is)
  (case ki_Together=>k_is)
  (case sa_Together=>k_is)
  (case xm_Shut=>kernel_rfl)
  (case na_Shut=>k_is)
  (case xm_Together=>kernel_rfl)
  (case na_Together=>k_is)
  (case xkT=>kernel_rfl)
  (case exT=>kernel_rfl)
  (case kt0=>kernel_rfl)
  (case ktv=>kernel_rfl)
  (case kta=>kernel_rfl)
  (case hdl=>kernel_rfl)
  (case xkS=>kernel_rfl)
  (case exS=>kernel_rfl)
  (case mkC=>kernel_rfl)
  (case ifC=>kernel_rfl)
  (case pgC=>kernel_rfl)
  (case hdC=>kernel_rfl)
  (case poC=>kernel_rfl)
  (case nc_place_bottom=>k_is)
  (case nc_speed_bottom=>k_is)
  (case nc_tick=>k_is)
  (case nc_weights=>k_is)
  (case nc_tracks=>k_is)
  (case nc_low=>k_is)
  (case nc_high=>k_is)
  (case ur=>k_is)
  (case ug=>k_is)
  (case ui=>k_is)
end
