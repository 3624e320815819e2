import PyProof.Rows.All
import Wide.All
import OpenK.AllK
import Wide.FinOn
import Lean
import PyProof.EqAt
import PyProof.EqKinds
import PyProof.TupleCall
import PyProof.CompFree
import PyProof.Rows.SumAny
import PyProof.ZipIter
import PyProof.ConsumeWalk
import PySem.Challenge.RW_clackrow_k42_beginnings_refused
import KE.KSortTup
import KE.KDictSum
import PyProof.Sound
import KE.KLam
import PyProof.WalkInts
import PyProof.Rows.SeqCalls
import PyProof.Draws
import KE.KTryMore
set_option Elab.async false
set_option linter.all false
set_option maxRecDepth 100000
namespace L2
open PySem PySem.Spec PyProof.Rows
abbrev Key:=Sum Int Str
def zbN:Key->Value->Bool
 | .inl k,v=>Value.isInt k v
 | .inr x,v=>Value.isStrOf x v
def keyH (w:World):Key->Int
 | .inl k=>hashInt k
 | .inr x=>hashStr w x
theorem xu:∀{k:Key}{v:Value},zbN k v=true->(∃i t,k=Sum.inl i/\v=Value.int i t)\/(∃x t,k=Sum.inr x/\v=Value.str x t)
 | .inl i,v,h=>by
  obtain⟨t,e⟩:=Value.isInt_shape (k:=i) (v:=v) h
  exact .inl ⟨i,t,rfl,e⟩
 | .inr x,v,h=>by
  obtain⟨t,e⟩:=Value.isStrOf_shape (x:=x) (v:=v) h
  exact .inr ⟨x,t,rfl,e⟩
theorem zcu (a b:Int):decide ((Sum.inl a:Key)=Sum.inl b)=(a == b):=by
 by_cases e:a=b
 ·subst e;simp
 ·have h:¬(Sum.inl a:Key)=Sum.inl b:=λq=>e (Sum.inl.inj q)
  rw[decide_eq_false h]
  exact(beq_eq_false_iff_ne.mpr e).symm
theorem zcx (a b:Str):decide ((Sum.inr a:Key)=Sum.inr b)=decide (a=b):=by
 by_cases e:a=b
 ·subst e;simp
 ·have h:¬(Sum.inr a:Key)=Sum.inr b:=λq=>e (Sum.inr.inj q)
  rw[decide_eq_false h,decide_eq_false e]
theorem zcv (a:Int) (b:Str):decide ((Sum.inl a:Key)=Sum.inr b)=false:=decide_eq_false (λq=>nomatch q)
theorem zcw (a:Str) (b:Int):decide ((Sum.inr a:Key)=Sum.inl b)=false:=decide_eq_false (λq=>nomatch q)
def Xx (prog:Program) (w:World):PySem.KeyKind prog w Key where
 is:=zbN
 hash:=keyH w
 inj:=λv a b ha hb=>by
  rcases xu ha with⟨i,t,rfl,rfl⟩ | ⟨x,t,rfl,rfl⟩
  ·rcases xu hb with⟨j,u,rfl,e⟩ | ⟨y,u,rfl,e⟩
   ·injection e with e1 _;rw[e1]
   ·exact nomatch e
  ·rcases xu hb with⟨j,u,rfl,e⟩ | ⟨y,u,rfl,e⟩
   ·exact nomatch e
   ·injection e with e1 _;rw[e1]
 byValue:=λk v h=>by
  rcases xu h with⟨i,t,rfl,rfl⟩ | ⟨x,t,rfl,rfl⟩ <;> rfl
 pyHash:=λhv h=>by
  rcases xu hv with⟨i,t,rfl,rfl⟩ | ⟨x,t,rfl,rfl⟩
  ·exact wpAny_pyHash_int h
  ·exact wpAny_pyHash_str h
 eqBool:=λhu hv h=>by
  rcases xu hu with⟨i,t,rfl,rfl⟩ | ⟨x,t,rfl,rfl⟩
  ·rcases xu hv with⟨j,u,rfl,rfl⟩ | ⟨y,u,rfl,rfl⟩
   ·rw[zcu]at h;exact wpAny_eqBool_int h
   ·rw[zcv]at h;exact SeqAt.EqAt.int_str i t y u _ _ _ _ h
  ·rcases xu hv with⟨j,u,rfl,rfl⟩ | ⟨y,u,rfl,rfl⟩
   ·rw[zcw]at h;exact SeqAt.EqAt.str_int x t j u _ _ _ _ h
   ·rw[zcx]at h;exact wpAny_eqBool_str h
 «strs»:=λk x t v h=>by
  rcases xu h with⟨i,u,rfl,e⟩ | ⟨y,u,rfl,e⟩
  ·exact nomatch e
  ·injection e with e1 _
   subst e1
   cases v <;> rfl
end L2
namespace L2
open PySem PySem.Spec PyProof.Rows
inductive V where
 | non | bl (b:Bool) | int (i:Int) | str (x:Str) | byt (b:Array UInt8) | flt (b:UInt64) | ref (a:Addr) | ty (n:String)
 deriving DecidableEq
def xg:V->Value->Prop
 | .non,u=>u=Value.none
 | .bl b,u=>u=Value.bool b
 | .int i,u=>∃t,u=Value.int i t
 | .str x,u=>∃t,u=Value.str x t
 | .byt b,u=>∃t,u=Value.bytes b t
 | .flt b,u=>∃t,u=Value.float b t
 | .ref a,u=>u=Value.ref a
 | .ty n,u=>u=Value.type n
abbrev zP:List V->List Value->Prop:=Paired xg
theorem zP.length {xs:List V}{us:List Value}(r:zP xs us):xs.length=us.length:=Paired.length r
theorem zP.get:∀{xs:List V}{us:List Value}{i:Nat}{x:V},zP xs us->xs[i]? = some x->∃u,us[i]? = some u/\xg x u
 | _,_,_,_,.nil,e=>by simp at e
 | _,_,0,_,.cons r _,e=>by simp at e;subst e;exact⟨_,rfl,r⟩
 | _,_,i+1,x,.cons _ t,e=>by
  obtain⟨u,h1,h2⟩:=zP.get (i:=i) (x:=x) t (by simpa using e)
  exact⟨u,by simpa using h1,h2⟩
theorem zP.set {x:V}{u:Value}(r:xg x u):∀{xs:List V}{us:List Value}(i:Nat),zP xs us->zP (xs.set i x) (us.set i u)
 | _,_,_,.nil=>.nil
 | _,_,0,.cons _ t=>.cons r t
 | _,_,i+1,.cons q t=>.cons q (zP.set r i t)
theorem zP.append:∀{xs ys:List V}{us ws:List Value},zP xs us->zP ys ws->zP (xs++ys) (us++ws)
 | _,_,_,_,.nil,s=>s
 | _,_,_,_,.cons r t,s=>.cons r (zP.append t s)
theorem zP.take:∀{xs:List V}{us:List Value}(n:Nat),zP xs us->zP (xs.take n) (us.take n)
 | _,_,0,_=>.nil
 | _,_,_+1,.nil=>.nil
 | _,_,n+1,.cons r t=>.cons r (zP.take n t)
theorem zP.drop:∀{xs:List V}{us:List Value}(n:Nat),zP xs us->zP (xs.drop n) (us.drop n)
 | _,_,0,r=>r
 | _,_,_+1,.nil=>.nil
 | _,_,n+1,.cons _ t=>zP.drop n t
def Qs:Option V->Option Value->Prop
 | some v,some u=>xg v u
 | none,none=>True
 | _,_=>False
def KV {κ:Type}:List (κ×V)->List (κ×Value)->Prop:=Paired λ(p:κ×V) (q:κ×Value)=>p.1=q.1/\xg p.2 q.2
def kV:Key->V
 | .inl i=>.int i
 | .inr x=>.str x
inductive HO where
 | lst (xs:List V)
 | tup (xs:List V)
 | dK (kvs:List (Key×V)) | dT (kvs:List (List Key×V))
 | set (S:Int->Bool) (n:Nat)
 | ins (C dx:Addr) (fs:List (Str×V))
 | own (x:Addr)
 | xd (fs:List (Str×V))
 | met (f x:Addr)
 | rng (lo hi:Int)
 | frz (o:Obj) (u:HO)
 | tbl (ps:Array Value)
 | ext (φ:Heap->Prop)
abbrev Hp:=Addr->Option HO
def upd (H:Hp) (a:Addr) (o:HO):Hp:=λb=>if b=a then some o else H b
theorem zj {H:Hp}{a:Addr}{o:HO}:upd H a o a=some o:=by unfold upd;rw[if_pos rfl]
theorem zO {H:Hp}{a b:Addr}{o:HO}(h:b≠a):upd H a o b=H b:=by unfold upd;rw[if_neg h]
theorem zdF {H:Hp}{a b:Addr}{o u:HO}(h:H a=some o) (h':H b=some u) (d:o≠u):a≠b:=by
 intro e;subst e;rw[h]at h';exact d (Option.some.inj h')
theorem zU {H:Hp}{a b:Addr}{o:HO}(h:H a=some o) (h':H b=none):a≠b:=by
 intro e;subst e;rw[h]at h';cases h'
section
variable (P:Program) (w:World)
def xF (H:Hp) (h:Heap) (a:Addr):HO->Prop
 | .lst xs=>xs.length<=sizeLine/\∃(its:List Value) (n:Nat),zP xs its/\h.get? a=some { cls:=.type "list",data:=.seq its.toArray n }
 | .tup xs=>xs.length<=sizeLine/\∃its:List Value,zP xs its/\IsTup h a its.toArray
 | .dK kvs=>kvs.length<=sizeLine/\(a == sysModules)=false/\∃vs,KV kvs vs/\h.DictOf (Xx P w) a vs
 | .dT kvs=>kvs.length<=sizeLine/\(a == sysModules)=false/\∃xs:List (List Key×Addr×Value),
   Paired (λ(p:List Key×V) (q:List Key×Addr×Value)=>p.1=q.1/\H q.2.1=some (.tup (p.1.map kV))/\xg p.2 q.2.2) kvs xs ∧
   ∃o es ep,h.get? a=some o/\o.ExactDict/\o.data = .dict es ep/\es.toList=xs.map (entryOfKey (tupleKind (Xx P w)))/\(xs.map (·.1)).Nodup
 | .set S n=>h.SetOf (intKind P w) a S n
 | .ins C dx fs=>H dx=some (.own a)/\fs.length<=1000/\dx≠a/\h.get? a=some (PySem.W.instObj C dx) ∧
   ∃mA,h.Ns1 dx mA/\(∀f,Qs (fs.lookup f) (mA f))/\PySem.Within mA (fs.map (·.1))
 | .own _=>∃o,h.get? a=some o
 | .xd fs=>∃mA,h.Ns1 a mA/\∀f,Qs (fs.lookup f) (mA f)
 | .rng lo hi=>∃t u v,h.get? a=some { cls:=.type "range",data:=.fields #[.int lo t,.int hi u,.int 1 v] }
 | .frz o u=>h.get? a=some o/\xF H h a u
 | .tbl ps=>h.get? a=some { cls:=.none,data:=.fields ps }
 | .met f x=>h.get? a=some (PySem.W.methodObj (.ref f) (.ref x))
 | .ext φ=>φ h/\(∃o,h.get? a=some o)/\∀h1 h2:Heap,φ h1->(∀o,h1.get? a=some o->h2.get? a=some o)->φ h2
def HOk (H:Hp) (h:Heap):Prop:=∀a o,H a=some o->xF P w H h a o
end
section
variable {P:Program}{w:World}{H H':Hp}{h h':Heap}{a:Addr}{o:HO}
theorem xF.lt (x:xF P w H h a o):a<h.objs.size:=by
 cases o with
 | lst xs=>obtain⟨_,_,_,_,e⟩:=x;exact Heap.lt_size e
 | tup xs=>obtain⟨_,_,_,p⟩:=x;exact p.lt
 | dK kvs=>obtain⟨_,_,_,_,o,_,_,e,_⟩:=x;exact Heap.lt_size e
 | dT kvs=>obtain⟨_,_,_,_,o,_,_,e,_⟩:=x;exact Heap.lt_size e
 | set S n=>obtain⟨o,_,_,_,e,_⟩:=x;exact Heap.lt_size e
 | ins C dx fs=>obtain⟨_,_,_,e,_⟩:=x;exact Heap.lt_size e
 | own y=>obtain⟨_,e⟩:=x;exact Heap.lt_size e
 | xd fs=>obtain⟨_,⟨_,_,_,e,_⟩,_⟩:=x;exact Heap.lt_size e
 | rng lo hi=>obtain⟨_,_,_,e⟩:=x;exact Heap.lt_size e
 | frz ob u=>obtain⟨e,_⟩:=x;exact Heap.lt_size e
 | tbl ps=>exact Heap.lt_size (show h.get? a=some _ from x)
 | met f y=>exact Heap.lt_size (show h.get? a=some _ from x)
 | ext φ=>obtain⟨_,⟨_,e⟩,_⟩:=x;exact Heap.lt_size e
theorem Paired.mapP {α β:Type}{F G:α->β->Prop}:∀{l₁:List α}{l₂:List β},Paired F l₁ l₂->(∀a b,F a b->G a b)->Paired G l₁ l₂
 | _,_,.nil,_=>.nil
 | _,_,.cons r t,f=>.cons (f _ _ r) (Paired.mapP t f)
theorem xF.stay (x:xF P w H h a o) (k:∀b u,(b=a\/H b=some (.own a))->h.get? b=some u->h'.get? b=some u)
  (ho:∀b,H b=some (.own a)->H' b=some (.own a)) (ht:∀b xs,H b=some (.tup xs)->H' b=some (.tup xs)):xF P w H' h' a o:=by
 induction o with
 | lst xs=>obtain⟨z,its,n,r,e⟩:=x;exact⟨z,its,n,r,k _ _ (.inl rfl) e⟩
 | tup xs=>obtain⟨z,its,r,ob,e,c⟩:=x;exact⟨z,its,r,ob,k _ _ (.inl rfl) e,c⟩
 | dK kvs=>obtain⟨z,y,vs,r,ob,es,ep,e,c⟩:=x;exact⟨z,y,vs,r,ob,es,ep,k _ _ (.inl rfl) e,c⟩
 | dT kvs =>
  obtain⟨z,y,xs,r,ob,es,ep,e,c⟩:=x
  exact⟨z,y,xs,Paired.mapP r λp q z=>⟨z.1,ht _ _ z.2.1,z.2.2⟩,ob,es,ep,k _ _ (.inl rfl) e,c⟩
 | set S n=>obtain⟨ob,es,ep,t,e,c⟩:=x;exact⟨ob,es,ep,t,k _ _ (.inl rfl) e,c⟩
 | ins C dx fs =>
  obtain⟨d,z,ne,e,mA,⟨od,es,ep,e2,c⟩,r⟩:=x
  exact⟨ho _ d,z,ne,k _ _ (.inl rfl) e,mA,⟨od,es,ep,k _ _ (.inr d) e2,c⟩,r⟩
 | own y=>obtain⟨ob,e⟩:=x;exact⟨ob,k _ _ (.inl rfl) e⟩
 | xd fs=>obtain⟨mA,⟨od,es,ep,e,c⟩,r⟩:=x;exact⟨mA,⟨od,es,ep,k _ _ (.inl rfl) e,c⟩,r⟩
 | rng lo hi=>obtain⟨t,u,v,e⟩:=x;exact⟨t,u,v,k _ _ (.inl rfl) e⟩
 | frz ob u ih=>obtain⟨e,q⟩:=x;exact⟨k _ _ (.inl rfl) e,ih q⟩
 | tbl ps =>
  have e:h.get? a=some { cls:=.none,data:=.fields ps }:=x
  show h'.get? a=some { cls:=.none,data:=.fields ps }
  exact k a _ (.inl rfl) e
 | met f y =>
  have e:h.get? a=some (PySem.W.methodObj (.ref f) (.ref y)):=x
  show h'.get? a=some (PySem.W.methodObj (.ref f) (.ref y))
  exact k a _ (.inl rfl) e
 | ext φ=>obtain⟨p,⟨o,e⟩,st⟩:=x;exact⟨st _ _ p λo q=>k _ _ (.inl rfl) q,⟨o,k _ _ (.inl rfl) e⟩,st⟩
theorem HOk.lt (x:HOk P w H h) (e:H a=some o):a<h.objs.size:=(x a o e).lt
theorem HOk.fresh (x:HOk P w H h) (e:h.objs.size<=a):H a=none:=by
 cases q:H a with
 | none=>rfl
 | some u=>exact absurd (Nat.lt_of_lt_of_le (x.lt q) e) (Nat.lt_irrefl _)
theorem HOk.kept (x:HOk P w H h) (k:∀b u,h.get? b=some u->h'.get? b=some u):HOk P w H h':=λa o e =>
 (x a o e).stay (λb u _ q=>k b u q) (λ_ q=>q) λ_ _ q=>q
theorem HOk.laid (x:HOk P w H h) (k:∀b u,h.get? b=some u->h'.get? b=some u) (hp:h.objs.size<=a) (new:xF P w (upd H a o) h' a o):HOk P w (upd H a o) h':=λb u e=>by
 have hn:=x.fresh hp
 by_cases hb:b=a
 ·subst hb;rw[zj]at e;cases e;exact new
 ·rw[zO hb]at e
  exact(x b u e).stay (λc v _ q=>k c v q) (λc q=>by rw[zO (zU q hn)];exact q) λc xs q=>by rw[zO (zU q hn)];exact q
end
def Rd (H:Hp) (a:Addr) (u:HO):Prop:=H a=some u\/∃o,H a=some (.frz o u)
theorem Rd.ok {P:Program}{w:World}{H:Hp}{h:Heap}{a:Addr}{u:HO}(r:Rd H a u) (x:HOk P w H h):xF P w H h a u:=by
 rcases r with r | ⟨o,r⟩
 ·exact x a u r
 ·obtain⟨_,q⟩:=x a _ r
  exact q
def Mut:Option HO->Prop
 | some (.lst _)=>True
 | some (.dK _)=>True
 | some (.dT _)=>True
 | some (.set _ _)=>True
 | some (.ins _ _ _)=>True
 | some (.ext _)=>True
 | _=>False
section
variable {P:Program}{w:World}{H:Hp}{h h':Heap}{x e:Addr}{o':HO}
theorem HOk.write (ok:HOk P w H h) (mu:Mut (H x)) (he:e=x\/H e=some (.own x)) (k:∀b u,b≠e->h.get? b=some u->h'.get? b=some u) (heo:∃u,h'.get? e=some u)
  (new:xF P w (upd H x o') h' x o'):HOk P w (upd H x o') h':=λb u q=>by
 have nown:∀c y,H c=some (.own y)->c≠x:=λc y r z=>by subst z;rw[r]at mu;exact mu
 have ntup:∀c xs,H c=some (.tup xs)->c≠x:=λc xs r z=>by subst z;rw[r]at mu;exact mu
 by_cases hb:b=x
 ·subst hb;rw[zj]at q;cases q;exact new
 ·rw[zO hb]at q
  by_cases hbe:b=e
  ·have q':H b=some (.own x):=by
    rcases he with z | z
    ·exact absurd (hbe.trans z) hb
    ·rw[hbe];exact z
   rw[q]at q';cases q'
   obtain⟨v,hv⟩:=heo
   exact⟨v,by rw[hbe];exact hv⟩
  ·refine(ok b u q).stay (λc v hc r=>k c v ?_ r) (λc r=>by rw[zO (nown c b r)];exact r) λc xs r=>by rw[zO (ntup c xs r)];exact r
   rcases hc with rfl | hc
   ·exact hbe
   ·rintro rfl
    rcases he with z | z
    ·exact nown c b hc z
    ·rw[hc]at z;cases z;exact hb rfl
end
structure Un (fs ex:List Addr) (H H':Hp) (h h':Heap):Prop where
 keep:∀b o,h.get? b=some o->H b=none->b∉fs->b∉ex->h'.get? b=some o
 slot:∀b o,h.get? b=some o->H b=none->b∈fs->b∉ex->∃sl,h'.get? b=some { o with slots:=sl }
 free:∀b o,h.get? b=some o->H b=none->b∉ex->H' b=none
 there:∀b o,h.get? b=some o->b∉ex->∃o',h'.get? b=some o'
 tups:∀b xs,H b=some (.tup xs)->H' b=some (.tup xs)
 frzs:∀b o u,H b=some (.frz o u)->H' b=some (.frz o u)
 tbls:∀b ps,H b=some (.tbl ps)->∃more,H' b=some (.tbl (ps++more))
section
variable {fs fs' ex ex':List Addr}{H H1 H2:Hp}{h h1 h2 h':Heap}{a x e:Addr}{o:HO}
theorem Un.any (u:Un fs ex H H1 h h1){b:Addr}{ob:Obj}(q:h.get? b=some ob) (n:H b=none) (hx:b∉ex):∃sl,h1.get? b=some { ob with slots:=sl }:=by
 by_cases hb:b∈fs
 ·exact u.slot b ob q n hb hx
 ·exact⟨ob.slots,u.keep b ob q n hb hx⟩
theorem Un.kept (k:∀b u,h.get? b=some u->h'.get? b=some u):Un fs ex H H h h' :=
 ⟨λb ob q _ _ _=>k b ob q,λb ob q _ _ _=>⟨ob.slots,k b ob q⟩,λ_ _ _ n _=>n,λb ob q _=>⟨ob,k b ob q⟩,λ_ _ q=>q,λ_ _ _ q=>q,λ_ ps q=>⟨#[],by rw[q];simp⟩⟩
theorem Un.refl:Un fs ex H H h h:=Un.kept λ_ _ q=>q
theorem Un.laid (k:∀b u,h.get? b=some u->h'.get? b=some u) (hp:h.objs.size<=a) (hn:H a=none):Un fs ex H (upd H a o) h h' where
 keep:=λb u q _ _ _=>k b u q
 slot:=λb u q _ _ _=>⟨u.slots,k b u q⟩
 free:=λb u q n _=>by rw[zO (Nat.ne_of_lt (Nat.lt_of_lt_of_le (Heap.lt_size q) hp))];exact n
 there:=λb u q _=>⟨u,k b u q⟩
 tups:=λb xs q=>by rw[zO (zU q hn)];exact q
 frzs:=λb u xs q=>by rw[zO (zU q hn)];exact q
 tbls:=λb ps q=>⟨#[],by rw[zO (zU q hn),q];simp⟩
theorem Un.write (mu:Mut (H x)) (he:e=x\/H e=some (.own x)) (k:∀b u,b≠e->h.get? b=some u->h'.get? b=some u) (heo:∃u,h'.get? e=some u):Un fs ex H (upd H x o) h h':=by
 have hx:∀b,H b=none->b≠x:=λb n z=>by subst z;rw[n]at mu;exact mu
 have hb:∀b,H b=none->b≠e:=λb n z=>by
  subst z
  rcases he with r | r
  ·exact hx b n r
  ·rw[n]at r;cases r
 have hm:∀b u,H b=some u->¬Mut (some u)->b≠x:=λb u q nm z=>by subst z;rw[q]at mu;exact nm mu
 refine⟨λb u q n _ _=>k b u (hb b n) q,λb u q n _ _=>⟨u.slots,k b u (hb b n) q⟩,λb u q n _=>by rw[zO (hx b n)];exact n,λb u q _=>?_,
  λb xs q=>by rw[zO (hm b _ q λz=>z)];exact q,λb u xs q=>by rw[zO (hm b _ q λz=>z)];exact q,λb ps q=>⟨#[],by rw[zO (hm b _ q λz=>z),q];simp⟩⟩
 by_cases hbe:b=e
 ·subst hbe;exact heo
 ·exact⟨u,k b u hbe q⟩
end
def trk (h:Heap) (H:Hp):List Addr:=(List.range h.objs.size).filter λa=>(H a).isSome
def Xs (h:Heap) (H:Hp):Heap:=PySem.W.hideAll h (trk h H)
theorem VQ (h:Heap) (H:Hp):(Xs h H).objs.size=h.objs.size:=PySem.W.hideAll_size _ _
theorem JE {h:Heap}{H:Hp}{b:Addr}{o:Obj}(e:h.get? b=some o) (n:H b=none):(Xs h H).get? b=some o :=
 PySem.W.hideAll_get _ e λhm=>by
  have q:(H b).isSome=true:=(List.mem_filter.mp hm).2
  rw[n]at q;simp at q
theorem za2 {h:Heap}{H:Hp}{b:Addr}{o:Obj}(e:(Xs h H).get? b=some o):h.get? b=some o/\H b=none:=by
 have e':h.get? b=some o:=PySem.W.of_hideAll (trk h H) e
 refine⟨e',?_⟩
 cases q:H b with
 | none=>rfl
 | some x =>
  have hm:b∈trk h H:=List.mem_filter.mpr ⟨List.mem_range.mpr (Heap.lt_size e'),by simp[q]⟩
  have z:(Xs h H).get? b=none:=PySem.W.hideAll_none (trk h H) hm
  rw[z]at e;cases e
end L2
namespace L2
open PySem PySem.Spec PyProof.Rows
structure Mod (K:PySem.W.Frag) (mg:Str->Option Value) (base:Heap):Prop where
 kin:K.In base
 glob:base.Ns mainGlobals mg
 blt:∃mb,base.Ns builtinsNs mb/\∀x:Str,x≠"__name__"->mb x=bootBuiltins x
 nolimit:base.NoLimit
structure Cx where
 prog:Program
 w:World
 K:PySem.W.Frag
 mg:Str->Option Value
 base:Heap
 A:Around
 N:List Str
 s₀:Shared
 H₀:Hp
 env:Env
 outer:List Env
 stack:List Env
 ex:List Addr
 fn:Str->Bool
 calm:Bool
 pn:List (Addr×Obj)
 xe:Value->Shared->Prop
def frs (l:List Env):List Addr:=l.filterMap (·.frame)
abbrev Cx.fs (X:Cx):List Addr:=frs X.outer
def Vis (sc:Scope) (x:Str):Prop:=sc.names.lookup x=some .local ∨ sc.names.lookup x=some .cell\/sc.names.lookup x=some .free
def Loc (sc:Scope) (x:Str):Prop:=sc.names.lookup x=some .local ∨ sc.names.lookup x=some .cell
def Look (env:Env) (h:Heap) (m:Str->Option Value) (x:Str) (u:Value):Prop :=
 (env.kindOf x=some .local ∧ m x=some u)\/((env.kindOf x=some .cell\/env.kindOf x=some .free)/\∃c,env.cells.lookup x=some c/\h.IsCell c (some u))
structure Cx.Ok (X:Cx):Prop where
 mod:Mod X.K X.mg X.base
 kind:X.env.scope.kind = .function
 glob:X.env.globals=mainGlobals
 blt:X.env.builtins=builtinsNs
 above:X.s₀.heap.objs.size<=X.env.locals
 inj:∀x y c,X.env.cells.lookup x=some c->X.env.cells.lookup y=some c->x=y
 has:∀x,(X.env.kindOf x=some .cell\/X.env.kindOf x=some .free)->∃c,X.env.cells.lookup x=some c
 cab:∀x c,X.fn x=true->X.env.cells.lookup x=some c->X.s₀.heap.objs.size<=c
 hd:X.calm=true->X.A.handled=none
 frames:X.A.frames=some X.stack
 stk:X.stack=X.outer\/(X.stack=X.env::X.outer/\X.env.frame=some X.env.locals)
 exf:∀b∈X.ex,b≠X.env.locals/\∀x c,X.env.cells.lookup x=some c->c≠b
 bs:∀b o,X.base.get? b=some o->X.s₀.heap.get? b=some o/\X.H₀ b=none
 bsz:X.base.objs.size<=X.s₀.heap.objs.size
 noex:∀b o,X.base.get? b=some o->b∉X.ex
 exfs:∀b∈X.ex,b∉X.fs
 funs:X.s₀.heap.FunFrames X.base X.outer
 frf:∀b∈X.fs,X.H₀ b=none
structure Inv (X:Cx) (pins:List (Addr×Obj)) (σ:List (Option V)) (H:Hp) (s:Shared):Prop where
 ok:X.Ok
 os:s.os=X.s₀.os
 bare:AllBare s.gens
 base:Un X.fs X.ex X.H₀ H X.s₀.heap s.heap
 loc:∃m,s.heap.Ns X.env.locals m/\∀(i:Nat) (x:Str) (v:V),X.N[i]? = some x->σ[i]? = some (some v)->Vis X.env.scope x->∃u,xg v u/\Look X.env s.heap m x u
 cell:∀x c,X.env.cells.lookup x=some c->∃v,s.heap.IsCell c v
 free:H X.env.locals=none
 freeC:∀x c,X.env.cells.lookup x=some c->H c=none
 pin:∀p∈X.pn++pins,s.heap.get? p.1=some p.2/\H p.1=none/\p.1≠X.env.locals/\p.1∉X.fs/\∀v,p.2.data≠.cell v
 hok:HOk X.prog X.w H s.heap
 len:σ.length=X.N.length
section
variable {X:Cx}{pins:List (Addr×Obj)}{σ:List (Option V)}{H H':Hp}{s:Shared}{h':Heap}
theorem Cx.Ok.nofr (ok:X.Ok){b:Addr}{o:Obj}(e:X.base.get? b=some o):b∉X.fs:=λhb=>by
 have:=(ok.funs.mem hb).1
 rw[e]at this;cases this
theorem Inv.bs (I:Inv X pins σ H s):∀b o,X.base.get? b=some o->s.heap.get? b=some o/\H b=none:=λb o e =>
 ⟨I.base.keep b o (I.ok.bs b o e).1 (I.ok.bs b o e).2 (I.ok.nofr e) (I.ok.noex b o e),I.base.free b o (I.ok.bs b o e).1 (I.ok.bs b o e).2 (I.ok.noex b o e)⟩
theorem Inv.bk (I:Inv X pins σ H s):∀b o,X.base.get? b=some o->s.heap.get? b=some o:=λb o e=>(I.bs b o e).1
theorem Inv.mod (I:Inv X pins σ H s):Mod X.K X.mg X.base:=I.ok.mod
theorem Inv.kIn (I:Inv X pins σ H s):X.K.In s.heap:=I.ok.mod.kin.keeps I.bk
theorem Inv.lt (I:Inv X pins σ H s):X.env.locals<s.heap.objs.size:=let ⟨_,hn,_⟩:=I.loc;hn.lt
theorem Inv.sz (I:Inv X pins σ H s):X.s₀.heap.objs.size<=s.heap.objs.size:=Nat.le_trans I.ok.above (Nat.le_of_lt I.lt)
theorem Inv.nofs (I:Inv X pins σ H s){a:Addr}(h:s.heap.objs.size<=a):a∉X.fs:=λhb=>by
 obtain⟨_,o,ho,_⟩:=I.ok.funs.mem hb
 exact absurd (Nat.lt_of_lt_of_le (Heap.lt_size ho) (Nat.le_trans I.sz h)) (Nat.lt_irrefl _)
theorem Inv.cne (I:Inv X pins σ H s):∀x c,X.env.cells.lookup x=some c->c≠X.env.locals:=λx c e z=>by
 obtain⟨v,o,ho,hd⟩:=I.cell x c e
 obtain⟨m,⟨o',es,ep,ho',hd',_⟩,_⟩:=I.loc
 rw[z,ho']at ho;cases ho;rw[hd']at hd;cases hd
theorem Inv.funs (I:Inv X pins σ H s):s.heap.FunFrames X.base X.outer:=by
 have all:∀(l:List Env),(∀b∈frs l,b∈X.fs)->X.s₀.heap.FunFrames X.base l->s.heap.FunFrames X.base l:=by
  intro l
  induction l with
  | nil=>intro _ _;trivial
  | cons env r ih =>
   intro hs hl
   obtain⟨hk,⟨L,o,hf,hn,ho,hd⟩,hr⟩:=hl
   have hL:L∈X.fs:=hs L (by unfold frs;rw[List.filterMap_cons,hf];exact List.mem_cons_self)
   obtain⟨sl,e⟩:=I.base.slot L o ho (I.ok.frf L hL) hL λz=>I.ok.exfs L z hL
   exact⟨hk,⟨L,_,hf,hn,e,hd⟩,ih (λb hb=>hs b (by unfold frs;rw[List.filterMap_cons,hf];exact List.mem_cons_of_mem _ hb)) hr⟩
 exact all X.outer (λ_ hb=>hb) I.ok.funs
theorem Inv.stack (I:Inv X pins σ H s):s.heap.FunFrames X.base X.stack:=by
 rcases I.ok.stk with e | ⟨e,hf⟩
 ·rw[e];exact I.funs
 ·rw[e]
  obtain⟨m,hn,_⟩:=I.loc
  refine .cons (by rw[I.ok.kind];decide) hf hn ?_ I.funs
  exact Heap.get?_none_of_le (Nat.le_trans I.ok.bsz I.ok.above)
theorem Inv.stkSub (I:Inv X pins σ H s):∀b∈frs X.stack,b∈X.env.locals::X.fs:=λb hb=>by
 rcases I.ok.stk with e | ⟨e,hf⟩
 ·rw[e]at hb;exact List.mem_cons_of_mem _ hb
 ·rw[e]at hb
  unfold frs at hb
  rw[List.filterMap_cons,hf]at hb
  exact hb
theorem Inv.stkFree (I:Inv X pins σ H s):∀b∈frs X.stack,H b=none:=λb hb=>by
 rcases List.mem_cons.mp (I.stkSub b hb)with e | hb
 ·rw[e];exact I.free
 ·obtain⟨_,o,ho,_⟩:=I.ok.funs.mem hb
  exact I.base.free b o ho (I.ok.frf b hb) λz=>I.ok.exfs b z hb
theorem Inv.step {g':Array GenState}{t':Nat}{d':Drawn}{ch:List Addr}(I:Inv X pins σ H s)
  (hch:∀b∈ch,(b∈X.ex\/X.s₀.heap.objs.size<=b)/\b≠X.env.locals/\(∀x c,X.env.cells.lookup x=some c->c≠b)/\∀p∈X.pn++pins,p.1≠b)
  (keep:∀b o,b≠X.env.locals->b∉X.fs->b∉ch->s.heap.get? b=some o->H b=none->h'.get? b=some o)
  (slot:∀b o,b≠X.env.locals->b∈X.fs->b∉ch->s.heap.get? b=some o->H b=none->∃sl,h'.get? b=some { o with slots:=sl }) (free:∀b o,b∉ch->s.heap.get? b=some o->H b=none->H' b=none)
  (there:∀b o,b∉ch->s.heap.get? b=some o->∃o',h'.get? b=some o')
  (tups:∀b xs,H b=some (.tup xs)->H' b=some (.tup xs)) (frzs:∀b o u,H b=some (.frz o u)->H' b=some (.frz o u)) (tbls:∀b ps,H b=some (.tbl ps)->∃more,H' b=some (.tbl (ps++more)))
  (ns:∀m,s.heap.Ns X.env.locals m->h'.Ns X.env.locals m) (hok:HOk X.prog X.w H' h') (hg:AllBare g') :
  Inv X pins σ H' { s with heap:=h',gens:=g',drawn:=d',toks:=t' }:=by
 have neL:∀b o,X.s₀.heap.get? b=some o->b≠X.env.locals:=λb o e=>Nat.ne_of_lt (Nat.lt_of_lt_of_le (Heap.lt_size e) I.ok.above)
 have neC:∀b o,X.s₀.heap.get? b=some o->b∉X.ex->b∉ch:=λb o e hx hb=>by
  rcases(hch b hb).1 with z | z
  ·exact hx z
  ·exact absurd (Nat.lt_of_lt_of_le (Heap.lt_size e) z) (Nat.lt_irrefl _)
 have cellK:∀x c,X.env.cells.lookup x=some c->∀v,s.heap.IsCell c v->h'.IsCell c v:=λx c e v ⟨o,ho,hd⟩=>by
  have nch:c∉ch:=λz=>(hch c z).2.2.1 x c e rfl
  by_cases hc:c∈X.fs
  ·obtain⟨sl,q⟩:=slot c o (I.cne x c e) hc nch ho (I.freeC x c e)
   exact⟨_,q,hd⟩
  ·exact⟨o,keep c o (I.cne x c e) hc nch ho (I.freeC x c e),hd⟩
 refine⟨I.ok,I.os,hg,⟨λb o e n hb hx=>?_,λb o e n hb hx=>?_,λb o e n hx=>?_,λb o e hx=>?_,λb xs e=>tups b xs (I.base.tups b xs e),λb o xs e=>frzs b o xs (I.base.frzs b o xs e),λb ps e=>?_⟩,?_,λx c e=>?_,?_,λx c e=>?_,λp hp=>?_,hok,I.len⟩
 ·exact keep b o (neL b o e) hb (neC b o e hx) (I.base.keep b o e n hb hx) (I.base.free b o e n hx)
 ·obtain⟨sl,e1⟩:=I.base.slot b o e n hb hx
  obtain⟨sl',e2⟩:=slot b _ (neL b o e) hb (neC b o e hx) e1 (I.base.free b o e n hx)
  exact⟨sl',e2⟩
 ·obtain⟨o',e1⟩:=I.base.there b o e hx
  exact free b o' (neC b o e hx) e1 (I.base.free b o e n hx)
 ·obtain⟨o',e1⟩:=I.base.there b o e hx
  exact there b o' (neC b o e hx) e1
 ·obtain⟨m1,e1⟩:=I.base.tbls b ps e
  obtain⟨m2,e2⟩:=tbls b _ e1
  exact⟨m1++m2,by rw[e2,Array.append_assoc]⟩
 ·obtain⟨m,hn,hl⟩:=I.loc
  refine⟨m,ns m hn,λi x v e1 e2 e3=>?_⟩
  obtain⟨u,r,l⟩:=hl i x v e1 e2 e3
  refine⟨u,r,?_⟩
  rcases l with l | ⟨k,c,e,z⟩
  ·exact .inl l
  ·exact .inr ⟨k,c,e,cellK x c e _ z⟩
 ·obtain⟨v,z⟩:=I.cell x c e
  exact⟨v,cellK x c e v z⟩
 ·obtain⟨m,⟨o,_,_,ho,_⟩,_⟩:=I.loc
  exact free _ o (λz=>(hch _ z).2.1 rfl) ho I.free
 ·obtain⟨v,o,ho,hd⟩:=I.cell x c e
  exact free c o (λz=>(hch c z).2.2.1 x c e rfl) ho (I.freeC x c e)
 ·obtain⟨e,n,ne,nf,d⟩:=I.pin p hp
  have nch:p.1∉ch:=λz=>(hch p.1 z).2.2.2 p hp rfl
  exact⟨keep p.1 p.2 ne nf nch e n,free p.1 p.2 nch e n,ne,nf,d⟩
theorem Inv.un {t':Nat}(I:Inv X pins σ H s) (u:Un X.fs [] H H' s.heap h') (hok:HOk X.prog X.w H' h'):Inv X pins σ H' { s with heap:=h',toks:=t' }:=by
 obtain⟨m,⟨o,es,ep,ho,r⟩,_⟩:=id I.loc
 obtain⟨sl,hL⟩:=u.any ho I.free (by simp)
 exact I.step (g':=s.gens) (d':=s.drawn) (ch:=[]) (λ_ z=>nomatch z) (λb o _ hb _ e n=>u.keep b o e n hb (by simp)) (λb o _ hb _ e n=>u.slot b o e n hb (by simp)) (λb o _ e n=>u.free b o e n (by simp)) (λb o _ e=>u.there b o e (by simp)) u.tups u.frzs u.tbls (λm' hm=>by
  obtain⟨o',es',ep',ho',r'⟩:=hm
  rw[ho]at ho';cases ho'
  exact⟨_,es',ep',hL,r'⟩) hok I.bare
theorem Inv.call {g':Array GenState}{t':Nat}{d':Drawn}{ch:List Addr}(I:Inv X pins σ H s) (u:Un (frs X.stack) ch H H' s.heap h') (hok:HOk X.prog X.w H' h') (hg:AllBare g')
  (hch:∀b∈ch,(b∈X.ex\/X.s₀.heap.objs.size<=b)/\b≠X.env.locals/\(∀x c,X.env.cells.lookup x=some c->c≠b)/\∀p∈X.pn++pins,p.1≠b) :
  Inv X pins σ H' { s with heap:=h',gens:=g',drawn:=d',toks:=t' }:=by
 obtain⟨m,⟨o,es,ep,ho,r⟩,_⟩:=id I.loc
 obtain⟨sl,hL⟩:=u.any ho I.free λz=>(hch _ z).2.1 rfl
 exact I.step (ch:=ch) hch (λb o hL hb hc e n=>u.keep b o e n (λz=>(List.mem_cons.mp (I.stkSub b z)).elim hL hb) hc) (λb o _ _ hc e n=>u.any e n hc) (λb o hc e n=>u.free b o e n hc) (λb o hc e=>u.there b o e hc) u.tups u.frzs u.tbls (λm' hm=>by
  obtain⟨o',es',ep',ho',r'⟩:=hm
  rw[ho]at ho';cases ho'
  exact⟨_,es',ep',hL,r'⟩) hok hg
theorem Inv.turned {t':Nat}{it:Addr}(I:Inv X pins σ H s) (k:∀b o,b≠it->s.heap.get? b=some o->h'.get? b=some o) (hn:H it=none) (hL:it≠X.env.locals)
  (h1:it∈X.ex\/X.s₀.heap.objs.size<=it) (h2:∀x c,X.env.cells.lookup x=some c->c≠it) (h3:∀p∈X.pn++pins,p.1≠it):Inv X pins σ H { s with heap:=h',toks:=t' }:=by
 have nit:∀b u,H b=some u->b≠it:=λb u e z=>by rw[z,hn]at e;cases e
 refine I.step (g':=s.gens) (d':=s.drawn) (ch:=[it]) (λb hb=>?_) (λb o _ _ hc e _=>k b o (λz=>hc (by simp[z])) e) (λb o _ _ hc e _=>⟨o.slots,k b o (λz=>hc (by simp[z])) e⟩) (λ_ _ _ _ n=>n)
  (λb o hc e=>⟨o,k b o (λz=>hc (by simp[z])) e⟩) (λ_ _ e=>e) (λ_ _ _ e=>e) (λb ps e=>⟨#[],by rw[e];simp⟩) (λm hm=>?_) (λb u e=>?_) I.bare
 ·have e:b=it:=by simpa using hb
  subst e
  exact⟨h1,hL,h2,h3⟩
 ·obtain⟨o,es,ep,ho,r⟩:=hm
  exact⟨o,es,ep,k _ o (Ne.symm hL) ho,r⟩
 ·refine(I.hok b u e).stay (λc v hc q=>k c v ?_ q) (λ_ q=>q) λ_ _ q=>q
  rcases hc with z | z
  ·rw[z];exact nit b u e
  ·exact nit c _ z
theorem Inv.tok (I:Inv X pins σ H s) (t:Nat):Inv X pins σ H { s with toks:=t }:=I.un (h':=s.heap) (t':=t) Un.refl I.hok
theorem Inv.kept {t':Nat}(I:Inv X pins σ H s) (k:∀b u,s.heap.get? b=some u->h'.get? b=some u):Inv X pins σ H { s with heap:=h',toks:=t' }:=I.un (Un.kept k) (I.hok.kept k)
theorem Inv.laid {a:Addr}{o:HO}{t':Nat}(I:Inv X pins σ H s) (k:∀b u,s.heap.get? b=some u->h'.get? b=some u) (hp:s.heap.objs.size<=a) (new:xF X.prog X.w (upd H a o) h' a o) :
  Inv X pins σ (upd H a o) { s with heap:=h',toks:=t' }:=I.un (Un.laid k hp (I.hok.fresh hp)) (I.hok.laid k hp new)
theorem Inv.write {x e:Addr}{o:HO}{t':Nat}(I:Inv X pins σ H s) (mu:Mut (H x)) (he:e=x\/H e=some (.own x)) (k:∀b u,b≠e->s.heap.get? b=some u->h'.get? b=some u) (heo:∃u,h'.get? e=some u)
  (new:xF X.prog X.w (upd H x o) h' x o):Inv X pins σ (upd H x o) { s with heap:=h',toks:=t' }:=I.un (Un.write mu he k heo) (I.hok.write mu he k heo new)
theorem Inv.pins_of {pins':List (Addr×Obj)} (I:Inv X pins σ H s) (h:∀p∈pins',s.heap.get? p.1=some p.2/\H p.1=none/\p.1≠X.env.locals/\p.1∉X.fs/\∀v,p.2.data≠.cell v):Inv X pins' σ H s :=
 ⟨I.ok,I.os,I.bare,I.base,I.loc,I.cell,I.free,I.freeC,λp hp=>(List.mem_append.mp hp).elim (λz=>I.pin p (List.mem_append_left _ z)) (h p),I.hok,I.len⟩
theorem ZN {N:List Str}(hN:N.Nodup){i j:Nat}{x:Str}(a:N[i]? = some x) (b:N[j]? = some x):i=j:=by
 obtain⟨h1,e1⟩:=List.getElem?_eq_some_iff.mp a
 obtain⟨h2,e2⟩:=List.getElem?_eq_some_iff.mp b
 exact(List.getElem_inj hN).mp (e1.trans e2.symm)
theorem Xj {M:Model}{A:Around}{E:Value->Shared->Prop}{i:Nat}{x:Str}{v:V}{u:Value}{Q:Unit->Shared->Prop}(I:Inv X pins σ H s) (hN:X.N.Nodup) (hi:X.N[i]? = some x) (hx:Loc X.env.scope x) (r:xg v u)
  (h:∀s',Inv X pins (σ.set i (some v)) H s'->(∃a,Heap.SameBut a s.heap s'.heap/\(a=X.env.locals\/X.env.cells.lookup x=some a))->Q () s') (hf:X.fn x=true\/X.env.scope.names.lookup x=some .local := by first | exact .inl rfl | exact .inr rfl | assumption):wpAny M A (storeName X.env x u) Q E s:=by
 obtain⟨m,hn,hl⟩:=id I.loc
 have hcls:(X.env.scope.kind == .class || (X.env.scope.kind == .module&&X.env.locals != X.env.globals))=false:=by rw[I.ok.kind];rfl
 have hiσ:i<σ.length:=by rw[I.len];exact(List.getElem?_eq_some_iff.mp hi).1
 have cne:=I.cne
 have tracked:∀{a:Addr}{h':Heap},(∃o,s.heap.get? a=some o/\H a=none)->Heap.SameBut a s.heap h'->HOk X.prog X.w H h':=λ{a h'} ha hs b ob e=>by
  obtain⟨_,_,hfree⟩:=ha
  refine(I.hok b ob e).stay (λc w' hc q=>(hs.2 c ?_).trans q) (λ_ q=>q) λ_ _ q=>q
  rintro rfl
  rcases hc with rfl | hc
  ·rw[hfree]at e;cases e
  ·rw[hfree]at hc;cases hc
 rcases hx with hk | hk
 ·refine wpAny_storeName_local hk hn (λh' hn' hs=>?_) hcls
  obtain⟨oL,_,_,hoL,_⟩:=id hn
  refine h _ ⟨I.ok,I.os,I.bare,⟨λb o e n hb hx=>?_,λb o e n hb hx=>?_,I.base.free,λb o e hx=>?_,I.base.tups,I.base.frzs,I.base.tbls⟩,⟨_,hn',λj y v' e1 e2 e3=>?_⟩,λy c e=>?_,I.free,I.freeC,λp hp=>?_,tracked ⟨oL,hoL,I.free⟩ hs,by simpa using I.len⟩ ⟨_,hs,.inl rfl⟩
  ·exact(hs.2 b (Nat.ne_of_lt (Nat.lt_of_lt_of_le (Heap.lt_size e) I.ok.above))).trans (I.base.keep b o e n hb hx)
  ·obtain⟨sl,e1⟩:=I.base.slot b o e n hb hx
   exact⟨sl,(hs.2 b (Nat.ne_of_lt (Nat.lt_of_lt_of_le (Heap.lt_size e) I.ok.above))).trans e1⟩
  ·obtain⟨o',e1⟩:=I.base.there b o e hx
   exact⟨o',(hs.2 b (Nat.ne_of_lt (Nat.lt_of_lt_of_le (Heap.lt_size e) I.ok.above))).trans e1⟩
  ·by_cases hj:j=i
   ·subst hj
    rw[hi]at e1;cases e1
    rw[List.getElem?_set_self hiσ]at e2
    cases e2
    exact⟨u,r,.inl ⟨hk,by simp⟩⟩
   ·rw[List.getElem?_set_ne (Ne.symm hj)]at e2
    obtain⟨u',r',q⟩:=hl j y v' e1 e2 e3
    refine⟨u',r',?_⟩
    rcases q with⟨k,e⟩ | ⟨k,c,e,z⟩
    ·refine .inl ⟨k,?_⟩
     have:y≠x:=λe=>hj (ZN hN e1 (e ▸ hi))
     simp[this,e]
    ·exact .inr ⟨k,c,e,z.sameBut hs (cne y c e)⟩
  ·obtain⟨w',z⟩:=I.cell y c e
   exact⟨w',z.sameBut hs (cne y c e)⟩
  ·obtain⟨e,n,ne,nf,d⟩:=I.pin p hp
   exact⟨(hs.2 p.1 ne).trans e,n,ne,nf,d⟩
 ·have hfn:X.fn x=true:=by
   rcases hf with z | z
   ·exact z
   ·rw[z]at hk;cases hk
  obtain⟨c,hc⟩:=I.ok.has x (.inl hk)
  obtain⟨w',z⟩:=I.cell x c hc
  refine wpAny_storeName_cell I.ok.kind hk hc z (λh' hc' hs=>?_)
  obtain⟨oc,hoc,hocd⟩:=id z
  refine h { s with heap:=h' } ⟨I.ok,I.os,I.bare,⟨λb o e n hb hx=>?_,λb o e n hb hx=>?_,I.base.free,λb o e hx=>?_,I.base.tups,I.base.frzs,I.base.tbls⟩,⟨m,hn.sameBut hs (Ne.symm (cne x c hc)),λj y v' e1 e2 e3=>?_⟩,λy c' e=>?_,I.free,I.freeC,λp hp=>?_,tracked ⟨oc,hoc,I.freeC x c hc⟩ hs,by simpa using I.len⟩ ⟨c,hs,.inr hc⟩
  ·exact(hs.2 b (Nat.ne_of_lt (Nat.lt_of_lt_of_le (Heap.lt_size e) (I.ok.cab x c hfn hc)))).trans (I.base.keep b o e n hb hx)
  ·obtain⟨sl,e1⟩:=I.base.slot b o e n hb hx
   exact⟨sl,(hs.2 b (Nat.ne_of_lt (Nat.lt_of_lt_of_le (Heap.lt_size e) (I.ok.cab x c hfn hc)))).trans e1⟩
  ·obtain⟨o',e1⟩:=I.base.there b o e hx
   exact⟨o',(hs.2 b (Nat.ne_of_lt (Nat.lt_of_lt_of_le (Heap.lt_size e) (I.ok.cab x c hfn hc)))).trans e1⟩
  ·by_cases hj:j=i
   ·subst hj
    rw[hi]at e1;cases e1
    rw[List.getElem?_set_self hiσ]at e2
    cases e2
    exact⟨u,r,.inr ⟨.inl hk,c,hc,hc'⟩⟩
   ·rw[List.getElem?_set_ne (Ne.symm hj)]at e2
    obtain⟨u',r',q⟩:=hl j y v' e1 e2 e3
    refine⟨u',r',?_⟩
    rcases q with q | ⟨k,c',e,z'⟩
    ·exact .inl q
    ·refine .inr ⟨k,c',e,z'.sameBut hs ?_⟩
     rintro rfl
     exact hj (ZN hN e1 (I.ok.inj _ _ _ e hc ▸ hi))
  ·by_cases hcc:c'=c
   ·subst hcc;exact⟨_,hc'⟩
   ·obtain⟨w2,z2⟩:=I.cell y c' e
    exact⟨w2,z2.sameBut hs hcc⟩
  ·obtain⟨e,n,ne,nf,d⟩:=I.pin p hp
   refine⟨(hs.2 p.1 ?_).trans e,n,ne,nf,d⟩
   intro q
   rw[q,hoc]at e
   have q':oc=p.2:=Option.some.inj e
   exact d w' (by rw[<-q'];exact hocd)
theorem jr {M:Model}{A:Around}{E:Value->Shared->Prop}{i:Nat}{x:Str}{v:V}{u:Value}{Q:Unit->Shared->Prop}(I:Inv X pins σ H s) (hN:X.N.Nodup) (hi:X.N[i]? = some x) (hx:Loc X.env.scope x) (r:xg v u)
  (h:∀s',Inv X pins (σ.set i (some v)) H s'->Q () s') (hf:X.fn x=true\/X.env.scope.names.lookup x=some .local := by first | exact .inl rfl | exact .inr rfl | assumption):wpAny M A (storeName X.env x u) Q E s :=
 Xj I hN hi hx r (λs' I' _=>h s' I') hf
theorem Inv.call' {s':Shared}{ch:List Addr}(I:Inv X pins σ H s) (ho:s'.os=s.os) (u:Un (frs X.stack) ch H H' s.heap s'.heap) (hok:HOk X.prog X.w H' s'.heap) (hg:AllBare s'.gens)
  (hch:∀b∈ch,(b∈X.ex\/X.s₀.heap.objs.size<=b)/\b≠X.env.locals/\(∀x c,X.env.cells.lookup x=some c->c≠b)/\∀p∈X.pn++pins,p.1≠b):Inv X pins σ H' s':=by
 obtain⟨h',g',d',t',o'⟩:=s'
 have e:o'=s.os:=ho
 subst e
 exact I.call (g':=g') (t':=t') (d':=d') u hok hg hch
end
abbrev XK:=Value->Option Addr->Hp->Prop
abbrev St:=List (Option V)
abbrev VK:=V->Hp->Prop
abbrev TE:=St->Hp->VK->Prop
abbrev TT:=St->Hp->(Bool->Hp->Prop)->Prop
abbrev TA:=St->Hp->(List V->Hp->Prop)->Prop
structure vV where
 nx:St->Hp->Prop
 rt:VK
 bk:St->Hp->Prop:=λ_ _=>False
 ct:St->Hp->Prop:=λ_ _=>False
abbrev TS:=vV->St->Hp->Prop
def EP (X:Cx) (pins:List (Addr×Obj)) (σ:St) (Q:VK) (u:Value) (s':Shared):Prop:=∃v H',Inv X pins σ H' s'/\xg v u/\Q v H'
def TP (X:Cx) (pins:List (Addr×Obj)) (σ:St) (Q:Bool->Hp->Prop) (b:Bool) (s':Shared):Prop:=∃H',Inv X pins σ H' s'/\Q b H'
def AP (X:Cx) (pins:List (Addr×Obj)) (σ:St) (Q:List V->Hp->Prop) (us:List Value) (s':Shared):Prop:=∃vs H',Inv X pins σ H' s'/\zP vs us/\Q vs H'
def SP (X:Cx) (pins:List (Addr×Obj)) (D:vV) (f:Flow) (s':Shared):Prop :=
 match f with
 | .next=>∃σ' H',Inv X pins σ' H' s'/\D.nx σ' H'
 | .brk=>∃σ' H',Inv X pins σ' H' s'/\D.bk σ' H'
 | .cont=>∃σ' H',Inv X pins σ' H' s'/\D.ct σ' H'
 | .ret u=>∃v σ' H',Inv X pins σ' H' s'/\xg v u/\D.rt v H'
def PE (X:Cx) (e:Expr) (t:TE):Prop :=
 ∀(pins:List (Addr×Obj)) (s:Shared) (σ:St) (H:Hp) (Q:VK),Inv X pins σ H s->t σ H Q->wpAny (model X.prog X.w) X.A (eval e X.env) (EP X pins σ Q) X.xe s
def PT (X:Cx) (e:Expr) (t:TT):Prop :=
 ∀(pins:List (Addr×Obj)) (s:Shared) (σ:St) (H:Hp) (Q:Bool->Hp->Prop),Inv X pins σ H s->t σ H Q->wpAny (model X.prog X.w) X.A (isTrue e X.env (eval e X.env)) (TP X pins σ Q) X.xe s
def PW (X:Cx) (e:Expr) (t:TT):Prop :=
 ∀(whole:Sem Value) (pins:List (Addr×Obj)) (s:Shared) (σ:St) (H:Hp) (Q:Bool->Hp->Prop),Inv X pins σ H s->t σ H Q->wpAny (model X.prog X.w) X.A (isTrue e X.env whole) (TP X pins σ Q) X.xe s
theorem PW.pt {X:Cx}{e:Expr}{t:TT}(h:PW X e t):PT X e t:=h _
def PA (X:Cx) (es:List Expr) (t:TA):Prop :=
 ∀(pos:Pos) (pins:List (Addr×Obj)) (s:Shared) (σ:St) (H:Hp) (Q:List V->Hp->Prop),Inv X pins σ H s->t σ H Q->wpAny (model X.prog X.w) X.A (spliced (backTo pos (starEach es X.env))) (AP X pins σ Q) X.xe s
def PS (X:Cx) (st:Stmt) (t:TS):Prop :=
 ∀(pins:List (Addr×Obj)) (s:Shared) (σ:St) (H:Hp) (D:vV),Inv X pins σ H s->t D σ H->wpAny (model X.prog X.w) X.A (exec st X.env) (SP X pins D) X.xe s
def PSs (X:Cx) (st:List Stmt) (t:TS):Prop :=
 ∀(pins:List (Addr×Obj)) (s:Shared) (σ:St) (H:Hp) (D:vV),Inv X pins σ H s->t D σ H->wpAny (model X.prog X.w) X.A (execs st X.env) (SP X pins D) X.xe s
theorem thn {α:Type}{t:Sem α}{Q Q':α->Shared->Prop}{M:Model}{A:Around}{E:Value->Shared->Prop}{s:Shared}(h:wpAny M A t Q E s) (hQ:∀a s,Q a s->Q' a s):wpAny M A t Q' E s:=wpAny_mono h hQ λ_ _ x=>x
end L2
namespace L2
open PySem PySem.Spec PyProof.Rows
section
variable {X:Cx}
def zZ (i:Nat):TE:=λσ H Q=>∃v,σ[i]? = some (some v)/\Q v H
def tC (v:V):TE:=λ_ H Q=>Q v H
theorem zc7 {i:Nat}{x:Str}{pos:Pos}(hN:X.N[i]? = some x) (hv:Vis X.env.scope x) (hd:(x == ("__debug__":Str))=false:=by decide) (hcd:(x == ("__classdict__":Str))=false:=by decide):PE X (.Name x pos) (zZ i):=by
 intro pins s σ H Q I h
 obtain⟨v,e,h⟩:=h
 obtain⟨m,hn,hl⟩:=I.loc
 obtain⟨u,r,l⟩:=hl i x v hN e hv
 have fin:EP X pins σ Q u s:=⟨v,H,I,r,h⟩
 rcases l with⟨hk,hm⟩ | ⟨hk,c,hc,hcell⟩
 ·exact wpAny_Name (wpAny_loadName_local I.ok.kind hk hn hm fin) hd
 ·rcases hk with hk | hk
  ·exact wpAny_Name (wpAny_loadName_cell I.ok.kind hk hc hcell fin) hd
  ·exact wpAny_Name (wpAny_loadName_free I.ok.kind hk hc hcell fin hcd) hd
theorem zd {i j pos}:PE X (.Constant (.int i) j pos) (tC (.int i)):=λ_ _ _ H _ I h=>wpAny_Constant_int ⟨.int i,H,I.tok _,⟨_,rfl⟩,h⟩
theorem xq {b j pos}:PE X (.Constant (.bool b) j pos) (tC (.bl b)):=λ_ _ _ H _ I h=>Constant_bool ⟨.bl b,H,I,rfl,h⟩
theorem xo {j pos}:PE X (.Constant .none j pos) (tC .non):=λ_ _ _ H _ I h=>Constant_none ⟨.non,H,I,rfl,h⟩
theorem Xz {x j pos}:PE X (.Constant (.str x) j pos) (tC (.str x)):=λ_ _ _ H _ I h=>Calls.Constant_str ⟨.str x,H,I.tok _,⟨_,rfl⟩,h⟩
def Gl (X:Cx) (x:Str):Prop:=X.env.kindOf x=some .globalImplicit
theorem jy {E:Value->Shared->Prop}{pins:List (Addr×Obj)}{s:Shared}{σ:St}{H:Hp}{x:Str}{u:Value}{pos:Pos}{Q:Value->Shared->Prop}(I:Inv X pins σ H s) (hg:Gl X x) (hm:X.mg x=some u) (h:Q u s)
  (hd:(x == ("__debug__":Str))=false:=by decide):wpAny (model X.prog X.w) X.A (eval (.Name x pos) X.env) Q E s :=
 Calls.Name_function_global I.ok.kind hg (Calls.loadGlobal_global (by rw[I.ok.glob];exact I.mod.glob.keeps I.bk) hm h) hd
theorem Xv {E:Value->Shared->Prop}{pins:List (Addr×Obj)}{s:Shared}{σ:St}{H:Hp}{x:Str}{u:Value}{pos:Pos}{Q:Value->Shared->Prop}(I:Inv X pins σ H s) (hg:Gl X x) (hm:X.mg x=none) (hv:bootBuiltins x=some u) (h:Q u s)
  (hn:x≠"__name__":=by decide) (hd:(x == ("__debug__":Str))=false:=by decide):wpAny (model X.prog X.w) X.A (eval (.Name x pos) X.env) Q E s:=by
 obtain⟨mb,h1,h2⟩:=I.mod.blt
 exact Calls.Name_function_global I.ok.kind hg (Calls.loadGlobal_builtin (by rw[I.ok.glob];exact I.mod.glob.keeps I.bk) hm (by rw[I.ok.blt];exact h1.keeps I.bk) ((h2 x hn).trans hv) h) hd
theorem jB {x:Str}{v:V}{u:Value}{pos:Pos}(hg:Gl X x) (hm:X.mg x=some u) (r:xg v u) (hd:(x == ("__debug__":Str))=false:=by decide):PE X (.Name x pos) (tC v) :=
 λ_ _ _ H _ I h=>jy I hg hm ⟨v,H,I,r,h⟩ hd
theorem j1 {x:Str}{v:V}{u:Value}{pos:Pos}(hg:Gl X x) (hm:X.mg x=none) (hv:bootBuiltins x=some u) (r:xg v u) (hn:x≠"__name__":=by decide) (hd:(x == ("__debug__":Str))=false:=by decide):PE X (.Name x pos) (tC v) :=
 λ_ _ _ H _ I h=>Xv I hg hm hv ⟨v,H,I,r,h⟩ hn hd
variable {a b:Expr}{ta tb:TE}{pos:Pos}
variable {tA tB':TT}{rest:List Expr}
def tAnd (t u:TT):TT:=λσ H Q=>t σ H λc H1=>if c=true then u σ H1 Q else Q false H1
def tOr (t u:TT):TT:=λσ H Q=>t σ H λc H1=>if c=true then Q true H1 else u σ H1 Q
def tNot (t:TT):TT:=λσ H Q=>t σ H λc H1=>Q (!c) H1
theorem qk (ha:PT X a tA):PW X (.BoolOp .And [a] pos) tA:=by
 intro wh pins s σ H Q I h
 refine isTrue_and (thn (ha pins s σ H Q I h) λc s1 e=>?_)
 cases c with
 | true=>exact isTrue_and_nil e
 | false=>exact e
theorem jm (ha:PT X a tA):PW X (.BoolOp .Or [a] pos) tA:=by
 intro wh pins s σ H Q I h
 refine isTrue_or (thn (ha pins s σ H Q I h) λc s1 e=>?_)
 cases c with
 | false=>exact isTrue_or_nil e
 | true=>exact e
theorem vq (ha:PT X a tA) (hb:PW X (.BoolOp .And (b::rest) pos) tB'):PW X (.BoolOp .And (a::b::rest) pos) (tAnd tA tB'):=by
 intro wh pins s σ H Q I h
 refine isTrue_and (thn (ha pins s σ H _ I h) λc s1 ⟨H1,I1,q1⟩=>?_)
 cases c with
 | true=>exact hb wh pins s1 σ H1 Q I1 q1
 | false=>exact⟨H1,I1,q1⟩
theorem jJ (ha:PT X a tA) (hb:PW X (.BoolOp .Or (b::rest) pos) tB'):PW X (.BoolOp .Or (a::b::rest) pos) (tOr tA tB'):=by
 intro wh pins s σ H Q I h
 refine isTrue_or (thn (ha pins s σ H _ I h) λc s1 ⟨H1,I1,q1⟩=>?_)
 cases c with
 | true=>exact⟨H1,I1,q1⟩
 | false=>exact hb wh pins s1 σ H1 Q I1 q1
theorem vI (ha:PT X a tA):PT X (.UnaryOp .Not a pos) (tNot tA):=by
 intro pins s σ H Q I h
 exact isTrue_not (ha pins s σ H (λc H1=>Q (!c) H1) I h)
def zer (ta tb:TE):TE:=λσ H Q=>ta σ H λx H1=>∃c,x = .bl c/\if c=true then tb σ H1 Q else Q (.bl false) H1
def zdu (ta tb:TE):TE:=λσ H Q=>ta σ H λx H1=>∃c,x = .bl c/\if c=true then Q (.bl true) H1 else tb σ H1 Q
def zew (ta:TE):TE:=λσ H Q=>ta σ H λx H1=>∃c,x = .bl c/\Q (.bl (!c)) H1
theorem vo {op}{t:TE}(h:PE X a t):PE X (.BoolOp op [a] pos) t:=λpins s σ H Q I hw=>BoolOp_one (h pins s σ H Q I hw)
theorem qb (ha:PE X a ta) (hb:PE X (.BoolOp .And (b::rest) pos) tb):PE X (.BoolOp .And (a::b::rest) pos) (zer ta tb):=by
 intro pins s σ H Q I h
 refine BoolOp_and (thn (ha pins s σ H _ I h) λv s1 ⟨x,H1,I1,r1,q1⟩=>?_)
 obtain⟨c,rfl,q1⟩:=q1
 cases r1
 refine wpAny_truthy_bool ?_
 cases c with
 | true=>exact hb pins s1 σ H1 Q I1 q1
 | false=>exact⟨.bl false,H1,I1,rfl,q1⟩
theorem zd1 (ha:PE X a ta) (hb:PE X (.BoolOp .Or (b::rest) pos) tb):PE X (.BoolOp .Or (a::b::rest) pos) (zdu ta tb):=by
 intro pins s σ H Q I h
 refine BoolOp_or (thn (ha pins s σ H _ I h) λv s1 ⟨x,H1,I1,r1,q1⟩=>?_)
 obtain⟨c,rfl,q1⟩:=q1
 cases r1
 refine wpAny_truthy_bool ?_
 cases c with
 | false=>exact hb pins s1 σ H1 Q I1 q1
 | true=>exact⟨.bl true,H1,I1,rfl,q1⟩
theorem JY (ha:PE X a ta):PE X (.UnaryOp .Not a pos) (zew ta):=by
 intro pins s σ H Q I h
 refine UnaryOp_ (thn (ha pins s σ H _ I h) λv s1 ⟨x,H1,I1,r1,q1⟩=>?_)
 obtain⟨c,rfl,q1⟩:=q1
 cases r1
 exact not_of (wpAny_truthy_bool ⟨.bl (!c),H1,I1,rfl,q1⟩)
def tIf (t:TT) (ta tb:TE):TE:=λσ H Q=>t σ H λc H1=>if c=true then ta σ H1 Q else tb σ H1 Q
theorem j2 {c:Expr}(hc:PT X c tA) (ha:PE X a ta) (hb:PE X b tb):PE X (.IfExp c a b pos) (tIf tA ta tb):=by
 intro pins s σ H Q I h
 refine wpAny_IfExp (thn (hc pins s σ H _ I h) λd s1 ⟨H1,I1,q1⟩=>?_)
 cases d with
 | true=>exact ha pins s1 σ H1 Q I1 q1
 | false=>exact hb pins s1 σ H1 Q I1 q1
end
end L2
namespace L2
open PySem PySem.Spec PyProof.Rows
def SqL (K:PySem.W.Frag) (H:Hp) (a:Addr) (xs:List V):Prop :=
 Rd H a (.lst xs) ∨
  ∃(o:Obj) (its:Array Value) (n:Nat),K.lookup a=some o/\o.cls = .type "list"/\o.dict=none/\o.data = .seq its n/\its.size<=sizeLine/\zP xs its.toList
def SqT (K:PySem.W.Frag) (H:Hp) (a:Addr) (xs:List V):Prop :=
 Rd H a (.tup xs) ∨
  ∃(o:Obj) (its:Array Value) (n:Nat),K.lookup a=some o/\o.cls = .type "tuple"/\o.data = .seq its n/\its.size<=sizeLine/\zP xs its.toList
def absV:Value->Option V
 | .none=>some .non
 | .bool b=>some (.bl b)
 | .int i _=>some (.int i)
 | .str x _=>some (.str x)
 | .bytes b _=>some (.byt b)
 | .float b _=>some (.flt b)
 | .ref a=>some (.ref a)
 | .type n=>some (.ty n)
 | _=>none
theorem xg.abs {x:V}{u:Value}(r:xg x u):absV u=some x:=by
 cases x with
 | non=>cases r;rfl
 | bl _=>cases r;rfl
 | int _=>obtain⟨t,rfl⟩:=r;rfl
 | str _=>obtain⟨t,rfl⟩:=r;rfl
 | byt _=>obtain⟨t,rfl⟩:=r;rfl
 | flt _=>obtain⟨t,rfl⟩:=r;rfl
 | ref _=>cases r;rfl
 | ty _=>cases r;rfl
theorem xg.inj {x y:V}{u:Value}(r:xg x u) (q:xg y u):x=y:=Option.some.inj (r.abs.symm.trans q.abs)
theorem zP.inj:∀{xs ys:List V}{us:List Value},zP xs us->zP ys us->xs=ys
 | _,_,_,.nil,.nil=>rfl
 | _,_,_,.cons r t,.cons r' t'=>by rw[r.inj r',zP.inj t t']
section
variable {X:Cx}{pins:List (Addr×Obj)}{σ:St}{H:Hp}{s:Shared}{a:Addr}{xs ys:List V}
theorem SqL.of {K:PySem.W.Frag}(h:H a=some (.lst xs)):SqL K H a xs:=.inl (.inl h)
theorem SqT.of {K:PySem.W.Frag}(h:H a=some (.tup xs)):SqT K H a xs:=.inl (.inl h)
theorem Inv.list (I:Inv X pins σ H s) (h:SqL X.K H a xs):∃its:List Value,zP xs its/\PlainL s.heap a its.toArray/\xs.length<=sizeLine:=by
 rcases h with h | ⟨o,its,n,hk,hc,hd,hs,hz,r⟩
 ·obtain⟨z,its,n,r,e⟩:=h.ok I.hok
  exact⟨its,r,⟨_,n,e,rfl,rfl,rfl⟩,z⟩
 ·refine⟨its.toList,r,⟨o,n,I.kIn a o hk,hc,hd,by simpa using hs⟩,?_⟩
  have e:=r.length
  simp only[Array.length_toList]at e
  omega
theorem Inv.tuple (I:Inv X pins σ H s) (h:SqT X.K H a xs):∃its:List Value,zP xs its/\IsTup s.heap a its.toArray/\xs.length<=sizeLine:=by
 rcases h with h | ⟨o,its,n,hk,hc,hs,hz,r⟩
 ·obtain⟨z,its,r,p⟩:=h.ok I.hok
  exact⟨its,r,p,z⟩
 ·refine⟨its.toList,r,⟨o,I.kIn a o hk,hc,n,by simpa using hs⟩,?_⟩
  have e:=r.length
  simp only[Array.length_toList]at e
  omega
theorem Inv.list_inj (I:Inv X pins σ H s) (h:SqL X.K H a xs) (h':SqL X.K H a ys):xs=ys:=by
 obtain⟨its,r,⟨o,n,e,_,_,d⟩,_⟩:=I.list h
 obtain⟨its',r',⟨o',n',e',_,_,d'⟩,_⟩:=I.list h'
 rw[e]at e';cases e'
 rw[d]at d'
 injection d' with d1 _
 have:its=its':=by simpa using congrArg Array.toList d1
 subst this
 exact r.inj r'
theorem Inv.tuple_inj (I:Inv X pins σ H s) (h:SqT X.K H a xs) (h':SqT X.K H a ys):xs=ys:=by
 obtain⟨its,r,⟨o,e,_,n,d⟩,_⟩:=I.tuple h
 obtain⟨its',r',⟨o',e',_,n',d'⟩,_⟩:=I.tuple h'
 rw[e]at e';cases e'
 rw[d]at d'
 injection d' with d1 _
 have:its=its':=by simpa using congrArg Array.toList d1
 subst this
 exact r.inj r'
end
abbrev Cx.wish (X:Cx) (E:Value->Shared->Prop):Cx:={ X with xe:=E }
abbrev Cx.nox (X:Cx):Cx:=X.wish λ_ _=>False
theorem Cx.Ok.wish {X:Cx}(ok:X.Ok) (E:Value->Shared->Prop):(X.wish E).Ok :=
 ⟨ok.mod,ok.kind,ok.glob,ok.blt,ok.above,ok.inj,ok.has,ok.cab,ok.hd,ok.frames,ok.stk,ok.exf,ok.bs,ok.bsz,ok.noex,ok.exfs,ok.funs,ok.frf⟩
theorem Cx.Ok.unwish {X:Cx}{E:Value->Shared->Prop}(ok:(X.wish E).Ok):X.Ok :=
 ⟨ok.mod,ok.kind,ok.glob,ok.blt,ok.above,ok.inj,ok.has,ok.cab,ok.hd,ok.frames,ok.stk,ok.exf,ok.bs,ok.bsz,ok.noex,ok.exfs,ok.funs,ok.frf⟩
section
variable {X:Cx}{pins:List (Addr×Obj)}{σ:St}{H:Hp}{s:Shared}{E:Value->Shared->Prop}
theorem Inv.wish (I:Inv X pins σ H s) (E:Value->Shared->Prop):Inv (X.wish E) pins σ H s:=⟨I.ok.wish E,I.os,I.bare,I.base,I.loc,I.cell,I.free,I.freeC,I.pin,I.hok,I.len⟩
theorem Inv.unwish (I:Inv (X.wish E) pins σ H s):Inv X pins σ H s:=⟨I.ok.unwish,I.os,I.bare,I.base,I.loc,I.cell,I.free,I.freeC,I.pin,I.hok,I.len⟩
theorem SP.unwish {D:vV}{f:Flow}{s':Shared}(h:SP (X.wish E) pins D f s'):SP X pins D f s':=by
 cases f with
 | next=>obtain⟨σ',H',I,q⟩:=h;exact⟨σ',H',I.unwish,q⟩
 | brk=>obtain⟨σ',H',I,q⟩:=h;exact⟨σ',H',I.unwish,q⟩
 | cont=>obtain⟨σ',H',I,q⟩:=h;exact⟨σ',H',I.unwish,q⟩
 | ret u=>obtain⟨v,σ',H',I,r,q⟩:=h;exact⟨v,σ',H',I.unwish,r,q⟩
theorem PSs.nox {st:List Stmt}{t:TS}(h:PSs X.nox st t):PSs X st t:=λpins s σ H D I hw =>
 wpAny_mono (h pins s σ H D (I.wish _) hw) (λ_ _ q=>q.unwish) λ_ _ z=>False.elim z
end
section
variable {X:Cx}{st:Stmt}{rest:List Stmt}{t u:TS}{e:Expr}{te:TE}{pos:Pos}
def zce:TS:=λD σ H=>D.nx σ H
def Jb (t u:TS):TS:=λD σ H=>t { D with nx:=u D } σ H
theorem zI:PSs X [] zce:=λ_ _ σ H _ I h=>wpAny_execs_nil ⟨σ,H,I,h⟩
theorem zi (h1:PS X st t) (h2:PSs X rest u):PSs X (st::rest) (Jb t u):=by
 intro pins s σ H D I h
 refine wpAny_execs_cons (thn (h1 pins s σ H { D with nx:=u D } I h) λf s1 q=>?_)
 cases f with
 | next =>
  obtain⟨σ',H',I',q⟩:=q
  exact h2 pins s1 σ' H' D I' q
 | ret v=>exact q
 | brk=>exact q
 | cont=>exact q
theorem zn (h1:PS X st t):PSs X [st] t:=by
 intro pins s σ H D I h
 refine wpAny_execs_cons (thn (h1 pins s σ H D I h) λf s1 q=>?_)
 cases f with
 | next=>exact wpAny_execs_nil q
 | ret v=>exact q
 | brk=>exact q
 | cont=>exact q
theorem Inv.quiet {pins:List (Addr×Obj)}{σ:St}{H:Hp}{s:Shared}(I:Inv X pins σ H s):interactive X.env=false:=by simp[interactive,I.ok.kind]
def zes (te:TE):TS:=λD σ H=>te σ H λ_ H1=>D.nx σ H1
theorem xw (he:PE X e te) (hs:swapsWith e none pos.line X.env=pure false:=by rfl):PS X (.Expr e pos) (zes te):=by
 intro pins s σ H D I h
 exact wpAny_Expr_any (thn (he pins s σ H _ I h) λv s1 ⟨x,H1,I1,r1,q1⟩=>⟨σ,H1,I1,q1⟩) I.quiet hs
def zat (te:TE):TS:=λD σ H=>te σ H D.rt
theorem zD (he:PE X e te):PS X (.Return (some e) pos) (zat te):=by
 intro pins s σ H D I h
 exact wpAny_Return_some (thn (he pins s σ H _ I h) λv s1 ⟨x,H1,I1,r1,q1⟩=>⟨x,σ,H1,I1,r1,q1⟩)
def tIfS (c:TT) (t u:TS):TS:=λD σ H=>c σ H λb H1=>if b=true then t D σ H1 else u D σ H1
theorem zR {c:Expr}{a b:List Stmt}{tc:TT}(hc:PT X c tc) (ha:PSs X a t) (hb:PSs X b u):PS X (.If c a b pos) (tIfS tc t u):=by
 intro pins s σ H D I h
 refine wpAny_If (thn (hc pins s σ H _ I h) λd s1 ⟨H1,I1,q1⟩=>?_)
 cases d with
 | true=>exact ha pins s1 σ H1 D I1 q1
 | false=>exact hb pins s1 σ H1 D I1 q1
def zdt:TS:=λ_ _ _=>False
theorem xK {sts:List Stmt}:PSs X sts zdt:=λ_ _ _ _ _ _ h=>h.elim
end
abbrev TG:=V->St->Hp->(St->Hp->Prop)->Prop
abbrev TGs:=List V->St->Hp->(St->Hp->Prop)->Prop
def PG (X:Cx) (target:Expr) (t:TG):Prop :=
 ∀(pins:List (Addr×Obj)) (s:Shared) (σ:St) (H:Hp) (v:V) (u:Value) (Q:St->Hp->Prop),Inv X pins σ H s->xg v u->t v σ H Q →
  wpAny (model X.prog X.w) X.A (assign target X.env u) (λ_ s'=>∃σ' H',Inv X pins σ' H' s'/\Q σ' H') X.xe s
def PGs (X:Cx) (ts:List Expr) (t:TGs):Prop :=
 ∀(pins:List (Addr×Obj)) (s:Shared) (σ:St) (H:Hp) (vs:List V) (us:List Value) (Q:St->Hp->Prop),Inv X pins σ H s->zP vs us->t vs σ H Q →
  wpAny (model X.prog X.w) X.A (assignInOrder ((assignEach ts X.env).map (·.2)) us) (λ_ s'=>∃σ' H',Inv X pins σ' H' s'/\Q σ' H') X.xe s
abbrev zch:=V->V->V->Hp->(Hp->Prop)->Prop
def zdB (X:Cx) (t:zch):Prop :=
 ∀(pins:List (Addr×Obj)) (s:Shared) (σ:St) (H:Hp) (o i v:V) (ov iv u:Value) (Q:Hp->Prop),Inv X pins σ H s->xg o ov->xg i iv->xg v u->t o i v H Q →
  wpAny (model X.prog X.w) X.A (setItem ov iv u) (λ_ s'=>∃H',Inv X pins σ H' s'/\Q H') X.xe s
section
variable {X:Cx}{pos:Pos}
def zA (i:Nat):TG:=λv σ H Q=>Q (σ.set i (some v)) H
theorem zG {i:Nat}{x:Str}(hN:X.N.Nodup) (hi:X.N[i]? = some x) (hx:Loc X.env.scope x) (hf:X.fn x=true\/X.env.scope.names.lookup x=some .local := by first | exact .inl rfl | exact .inr rfl | assumption):PG X (.Name x pos) (zA i):=by
 intro pins s σ H v u Q I r h
 exact wpAny_assign_Name (jr I hN hi hx r (λs' I'=>⟨_,H,I',h⟩) hf)
def QE:TGs:=λvs σ H Q=>vs=[]/\Q σ H
def vL (t:TG) (u:TGs):TGs:=λvs σ H Q=>∃v r,vs=v::r/\t v σ H λσ' H'=>u r σ' H' Q
theorem xZ:PGs X [] QE:=by
 intro pins s σ H vs us Q I r h
 obtain⟨e,h⟩:=h
 subst e
 cases r
 exact assignInOrder_nil ⟨σ,H,I,h⟩
theorem zM {e:Expr}{es:List Expr}{t:TG}{u:TGs}(h1:PG X e t) (h2:PGs X es u)
  (hs:(assignEach (e::es) X.env).map (·.2)=assign e X.env::(assignEach es X.env).map (·.2):=by rfl):PGs X (e::es) (vL t u):=by
 intro pins s σ H vs us Q I r h
 obtain⟨v,vr,e1,h⟩:=h
 subst e1
 cases r with
 | cons r rr =>
  rw[hs]
  refine assignInOrder_cons (thn (h1 pins s σ H _ _ _ I r h) λ_ s1 ⟨σ1,H1,I1,q1⟩=>?_)
  exact h2 pins s1 σ1 H1 _ _ Q I1 rr q1
def XZ (K:PySem.W.Frag) (n:Nat) (t:TGs):TG:=λv σ H Q=>∃a xs,v = .ref a/\SqT K H a xs/\xs.length=n/\t xs σ H Q
theorem jk {es:List Expr}{k:Nat}{t:TGs}{n:Nat}(hc:X.calm=true) (h:PGs X es t)
  (hn:(assignEach es X.env).length=n:=by rfl) (hst:(assignEach es X.env).findIdx? (·.1)=none:=by rfl):PG X (.Tuple es k pos) (XZ X.K n t):=by
 intro pins s σ H v u Q I r hw
 obtain⟨a,xs,e1,hq,hl,hw⟩:=hw
 subst e1
 cases r
 obtain⟨its,rv,ht,hz⟩:=I.tuple hq
 refine assign_Tuple_tuple (I.ok.hd hc) ht (by simp[hn,<-hl,rv.length]) hst λh' hx=>?_
 have I1:Inv X pins σ H { s with heap:=h' }:=I.kept (t':=s.toks) λb o e=>hx b o (Nat.ne_of_lt (Heap.lt_size e)) e
 exact h pins _ σ H xs _ Q I1 (by simpa using rv) hw
def gSub (to ti:TE) (t:zch):TG:=λv σ H Q=>to σ H λo H1=>ti σ H1 λi H2=>t o i v H2 λH3=>Q σ H3
theorem ZP {o i:Expr}{to ti:TE}{t:zch}(ho:PE X o to) (hi:PE X i ti) (hs:zdB X t)
  (ha:∀v,assign (.Subscript o i pos) X.env v=(do
   let ov <-holding [v] (eval o X.env)
   let iv <-holding [v,ov] (eval i X.env)
   standAt pos
   holding [v,ov,iv] (setItem ov iv v)
   release [v,ov,iv] []):=by intro _;rfl):PG X (.Subscript o i pos) (gSub to ti t):=by
 intro pins s σ H v u Q I r h
 rw[ha]
 refine wpAny_bind (wpAny_holding (thn (ho pins s σ H _ I h) λov s1 ⟨x,H1,I1,r1,q1⟩=>?_))
 refine wpAny_bind (wpAny_holding (thn (hi pins s1 σ H1 _ I1 q1) λiv s2 ⟨y,H2,I2,r2,q2⟩=>?_))
 refine wpAny_bind (wpAny_standAt (wpAny_bind (wpAny_holding (thn (hs pins s2 σ H2 x y v ov iv u _ I2 r1 r2 r q2) λ_ s3 ⟨H3,I3,q3⟩=>?_))))
 exact wpAny_release ⟨σ,H3,I3,q3⟩
def zas (te:TE) (g:TG):TS:=λD σ H=>te σ H λx H1=>g x σ H1 D.nx
theorem ja {tg e:Expr}{te:TE}{g:TG}(he:PE X e te) (hg:PG X tg g) (hs:swapsWithSole [tg] e pos.line X.env=pure false:=by rfl) (hw:swappedStores [tg] e X.env=pure none:=by rfl)
  (h1:(assignEach [tg] X.env).map (·.2)=[assign tg X.env]:=by rfl):PS X (.Assign [tg] e pos) (zas te g):=by
 intro pins s σ H D I h
 refine wpAny_Assign_stores (thn (he pins s σ H _ I h) λv s1 ⟨x,H1,I1,r1,q1⟩=>?_) hs hw
 rw[h1]
 exact thn (hg pins s1 σ H1 x v _ I1 r1 q1) λ_ s2 q=>q
theorem zE {i:Nat}{x:Str}{e:Expr}{te:TE}{pos':Pos}(hN:X.N.Nodup) (hi:X.N[i]? = some x) (hx:Loc X.env.scope x) (he:PE X e te) (hs:swapsWith e (some (.Name x pos')) pos.line X.env=pure false:=by rfl) (hf:X.fn x=true\/X.env.scope.names.lookup x=some .local := by first | exact .inl rfl | exact .inr rfl | assumption) :
  PS X (.Assign [.Name x pos'] e pos) (zas te (zA i)):=by
 intro pins s σ H D I h
 refine wpAny_Assign_Name (thn (he pins s σ H _ I h) λv s1 ⟨y,H1,I1,r1,q1⟩=>?_) hs
 exact jr I1 hN hi hx r1 (λs2 I2=>⟨_,H1,I2,q1⟩) hf
def tPar (i j:Nat) (ta:TA):TS:=λD σ H=>ta σ H λvs H1=>∃v w,vs=[v,w]/\D.nx ((σ.set i (some v)).set j (some w)) H1
theorem Zc {i j:Nat}{x y:Str}{a b:Expr}{ta:TA}{px py pt:Pos} {kt k2 pt2} (hc:X.calm=true) (hN:X.N.Nodup) (hi:X.N[i]? = some x) (hj:X.N[j]? = some y) (hij:i≠j)
  (hx:X.env.scope.names.lookup x=some .local) (hy:X.env.scope.names.lookup y=some .local) (ha:PA X [a,b] ta)
  (hw:swappedStores [.Tuple [.Name x px,.Name y py] kt pt] (.Tuple [a,b] k2 pt2) X.env=pure (some [x,y]))
  (hs:swapsWithSole [.Tuple [.Name x px,.Name y py] kt pt] (.Tuple [a,b] k2 pt2) pos.line X.env=pure false:=by rfl) :
  PS X (.Assign [.Tuple [.Name x px,.Name y py] kt pt] (.Tuple [a,b] k2 pt2) pos) (tPar i j ta):=by
 intro pins s σ H D I h
 rw[exec_Assign_arm]
 refine wpAny_bind (wpAny_standAt ?_)
 rw[hs]
 refine wpAny_bind (wpAny_pure ?_)
 rw[if_neg (by decide)]
 refine wpAny_bind (Tuple_ (thn (ha _ pins s σ H _ I h) λus s1 ⟨vs,H1,I1,r1,q1⟩=>?_))
 obtain⟨v,w,e1,q1⟩:=q1
 subst e1
 obtain⟨u1,u2,rfl,rv,rw'⟩:∃u1 u2,us=[u1,u2]/\xg v u1/\xg w u2:=by
  cases r1 with
  | cons p q =>
   cases q with
   | cons p' q' =>
    cases q'
    exact⟨_,_,rfl,p,p'⟩
 refine wpAny_newObj_type ?_ (by show 2<=sizeLine;decide)
 have I2:Inv X pins σ H1 { s1 with heap:=s1.heap.push { cls:=.type "tuple",data:=.seq [u1,u2].toArray } }:=I1.kept (t':=s1.toks) λb o e=>Heap.get?_push_of_some _ e
 rw[hw]
 refine wpAny_bind (wpAny_pure ?_)
 show wpAny (model X.prog X.w) X.A (do rule "assign.swapped-stores";let items <-unpackItems (.ref s1.heap.objs.size) 2 none;assignInOrder [λv=>bindName X.env y v,λv=>bindName X.env x v] items.reverse;pure Flow.next) _ _ _
 refine wpAny_bind (wpAny_rule (wpAny_bind (unpackItems_tuple (items:=#[u1,u2]) (I.ok.hd hc) (IsTup.new s1.heap _) λh' hx'=>?_)))
 have I3:=I2.kept (h':=h') (t':=s1.toks) λb o e=>hx' b o (Nat.ne_of_lt (Heap.lt_size e)) e
 show wpAny _ _ (assignInOrder [λv=>bindName X.env y v,λv=>bindName X.env x v] [u2,u1] >>= λ_=>pure Flow.next) _ _ _
 refine wpAny_bind (assignInOrder_cons (wpAny_bindName (jr I3 hN hj (.inl hy) rw' (λs2 I4=>?_) (.inr hy))))
 refine assignInOrder_cons (wpAny_bindName (jr I4 hN hi (.inl hx) rv (λs3 I5=>assignInOrder_nil (wpAny_pure ?_)) (.inr hx)))
 rw[List.set_comm _ _ (Ne.symm hij)]at I5
 exact⟨_,H1,I5,q1⟩
end
section
variable {X:Cx}{pos:Pos}
def zav (c:TT) (tb:TS):TS:=λD σ H=>∃W:Nat->St->Hp->Prop,(∃m,W m σ H)/\∀m σ H,W m σ H →
 c σ H λb H1=>if b=true then ∃N:St->Hp->Prop,(∀σ' H',N σ' H'->∃m',m'<m/\W m' σ' H')/\tb { D with nx:=N,ct:=N,bk:=D.nx } σ H1 else D.nx σ H1
theorem Qd {c:Expr}{body:List Stmt}{tc:TT}{tb:TS}(hp:PassesOwn (model X.prog X.w) X.A X.env X.xe) (hc:PT X c tc) (hb:PSs X body tb):PS X (.While c body [] pos) (zav tc tb):=by
 intro pins s σ H D I h
 obtain⟨W,⟨m0,w0⟩,turn⟩:=h
 refine wpAny_While (codeAny_whileLoop (λn s'=>∃σ' H',Inv X pins σ' H' s'/\W n σ' H') ?_ m0 ⟨σ,H,I,w0⟩)
 rintro n s1 ⟨σ1,H1,I1,w1⟩
 refine wpAny_passesOwn hp (thn (hc pins s1 σ1 H1 _ I1 (turn n σ1 H1 w1)) λb s2 ⟨H2,I2,q2⟩=>?_)
 cases b with
 | true =>
  obtain⟨N,hN,q2⟩:=q2
  rw[if_pos rfl]
  refine wpAny_passesOwn hp (thn (hb pins s2 σ1 H2 _ I2 q2) λf s3 q3=>?_)
  cases f with
  | next =>
   obtain⟨σ3,H3,I3,n3⟩:=q3
   obtain⟨m',hm,w3⟩:=hN σ3 H3 n3
   exact⟨m',hm,σ3,H3,I3,w3⟩
  | cont =>
   obtain⟨σ3,H3,I3,n3⟩:=q3
   obtain⟨m',hm,w3⟩:=hN σ3 H3 n3
   exact⟨m',hm,σ3,H3,I3,w3⟩
  | brk=>exact q3
  | ret v=>exact q3
 | false =>
  rw[if_neg Bool.false_ne_true]
  exact wpAny_execs_nil ⟨σ1,H2,I2,q2⟩
end
structure It where
 go:Nat->Hp->Prop
 yld:Nat->Hp->V->Hp->Prop
 stop:Nat->Hp->Prop
def Zz (X:Cx) (pins:List (Addr×Obj)) (H:Hp) (b:Addr):Prop :=
 H b=none/\b≠X.env.locals/\b∉X.fs/\(b∈X.ex\/X.s₀.heap.objs.size<=b)/\(∀x c,X.env.cells.lookup x=some c->c≠b)/\∀p∈X.pn++pins,p.1≠b
theorem Inv.fpOk {X:Cx}{pins:List (Addr×Obj)}{σ:St}{H H':Hp}{s:Shared}{b:Addr}(I:Inv X pins σ H s) (hb:s.heap.objs.size<=b) (hn:H' b=none):Zz X pins H' b:=by
 refine⟨hn,Nat.ne_of_gt (Nat.lt_of_lt_of_le I.lt hb),I.nofs hb,.inr (Nat.le_trans I.sz hb),λx c e z=>?_,λp hp z=>?_⟩
 ·obtain⟨v,q⟩:=I.cell x c e
  exact absurd (Nat.lt_of_lt_of_le q.lt (by rw[z];exact hb)) (Nat.lt_irrefl _)
 ·exact absurd (Nat.lt_of_lt_of_le (Heap.lt_size (I.pin p hp).1) (by rw[z];exact hb)) (Nat.lt_irrefl _)
structure zaG (P:Program) (w:World) (K:PySem.W.Frag) (tg:Expr) (J:It) (fp:List Addr) (it:Addr) (tn:Nat->Heap->Prop):Prop where
 mem:it∈fp
 obj:∀i h,tn i h->∀b∈fp,∃o,h.get? b=some o/\∀v,o.data≠.cell v
 keep:∀i h h',tn i h->(∀b∈fp,∀o,h.get? b=some o->h'.get? b=some o)->tn i h'
 item:∀(X:Cx),X.prog=P->X.w=w->X.K=K->X.calm=true->∀(i:Nat) (pins:List (Addr×Obj)) (s:Shared) (σ:St) (H:Hp) (E:Value->Shared->Prop),Inv X pins σ H s->(∀b∈fp,Zz X pins H b)->tn i s.heap->J.go i H →
  wpAny (model P w) X.A (pyNext (.ref it)) (λr s1=>∃u,r=some u ∧
   wpAny (model P w) X.A (letOwnedTupleGo tg (.ref it) u) (λ_ s2=>∃x H',Inv X pins σ H' s2/\xg x u/\J.yld i H x H'/\tn (i+1) s2.heap/\∀b∈fp,H' b=none) E s1) E s
 done:∀(X:Cx),X.prog=P->X.w=w->X.K=K->X.calm=true->∀(i:Nat) (pins:List (Addr×Obj)) (s:Shared) (σ:St) (H:Hp) (E:Value->Shared->Prop),Inv X pins σ H s->(∀b∈fp,Zz X pins H b)->tn i s.heap->J.stop i H →
  wpAny (model P w) X.A (pyNext (.ref it)) (λr s1=>r=none/\Inv X pins σ H s1) E s
 self:∀(A:Around) (i:Nat) (s:Shared) (Q:Value->Shared->Prop) (E:Value->Shared->Prop),tn i s.heap->Q (.ref it) s->wpAny (model P w) A (pyIter (.ref it)) Q E s
abbrev TI:=St->Hp->(It->Hp->Prop)->Prop
def PIE (X:Cx) (pins:List (Addr×Obj)) (σ:St) (tg:Expr) (R:It->Hp->Prop) (itv:Value) (s2:Shared):Prop :=
 ∃(it:Addr) (fp:List Addr) (tn:Nat->Heap->Prop) (J:It) (H':Hp),itv = .ref it/\Inv X pins σ H' s2/\zaG X.prog X.w X.K tg J fp it tn/\tn 0 s2.heap/\(∀b∈fp,Zz X pins H' b)/\R J H'
def PI (X:Cx) (tg iter:Expr) (wi:TI):Prop :=
 ∀(pins:List (Addr×Obj)) (s:Shared) (σ:St) (H:Hp) (R:It->Hp->Prop),Inv X pins σ H s->wi σ H R →
  wpAny (model X.prog X.w) X.A (eval iter X.env) (λv s1=>wpAny (model X.prog X.w) X.A (pyIter v) (PIE X pins σ tg R) X.xe s1) X.xe s
theorem JD {M:Model}{A:Around}{E:Value->Shared->Prop}{s:Shared}{tg:Expr}{it:Addr}{u:Value}{o:Obj}{n:String}{vs:Array Value}{Q:Unit->Shared->Prop}(ho:s.heap.get? it=some o) (hc:o.cls = .type n) (hd:o.data = .fields vs)
  (hn:["enumerate","zip","dict_itemiterator","dict_reverseitemiterator","odict_iterator","itertools.zip_longest","itertools.pairwise"].contains n=false) (hQ:Q () s):wpAny M A (letOwnedTupleGo tg (.ref it) u) Q E s:=by
 unfold letOwnedTupleGo
 cases tg <;> first
  | exact wpAny_pure hQ
  | (cases u <;> first
    | exact wpAny_pure hQ
    | (refine wpAny_bind (wpAny_load ho ?_)
       rw[hc,hd]
       show wpAny M A (if(["enumerate","zip","dict_itemiterator","dict_reverseitemiterator","odict_iterator","itertools.zip_longest","itertools.pairwise"].contains n&&vs[0]? == some (rawInt _))=true then _ else _) Q E s
       rw[if_neg (by intro h;rw[hn,Bool.false_and]at h;cases h)]
       exact wpAny_pure hQ))
def Itl (K:PySem.W.Frag) (a:Addr):It :=
 ⟨λi H=>∃xs x,SqL K H a xs/\xs[i]? = some x,λi H x H'=>H'=H/\∀xs,SqL K H a xs->xs[i]? = some x,λi H=>∃xs,SqL K H a xs/\xs.length<=i⟩
def Itt (K:PySem.W.Frag) (a:Addr):It :=
 ⟨λi H=>∃xs x,SqT K H a xs/\xs[i]? = some x,λi H x H'=>H'=H/\∀xs,SqT K H a xs->xs[i]? = some x,λi H=>∃xs,SqT K H a xs/\xs.length<=i⟩
def Itr (lo:Int) (n:Nat):It:=⟨λi _=>i<n,λi H x H'=>H'=H/\x = .int (lo+i),λi _=>n<=i⟩
theorem Jd {P:Program}{w:World}{K:PySem.W.Frag}{tg:Expr}(a it:Addr):zaG P w K tg (Itl K a) [it] it (λi h=>h.IsListIter it a i) where
 mem:=by simp
 obj:=λi h st b hb=>by
  have e:b=it:=by simpa using hb
  subst e
  obtain⟨o,e,c,d⟩:=st
  exact⟨o,e,λv z=>by rw[d]at z;cases z⟩
 keep:=λi h h' st k=>st.at λo e=>k it (by simp) o e
 item:=by
  intro X hP hw hK hc i pins s σ H E I hf st hg
  subst hP hw hK
  obtain⟨xs,x,hq,hx⟩:=hg
  obtain⟨its,rv,p,hz⟩:=I.list hq
  obtain⟨u,hu,ru⟩:=rv.get hx
  obtain⟨f0,f1,f2,f3,f4,f5⟩:=hf it (by simp)
  refine wpAny_pyNext_list_item st p.isList (x:=u) (by simpa using hu) λh' st' sb=>?_
  have I1:Inv X pins σ H { s with heap:=h' }:=I.turned (t':=s.toks) (λb o hb e=>(sb.2 b hb).trans e) f0 f1 f3 f4 f5
  obtain⟨o,e,c,d⟩:=id st'
  exact⟨u,rfl,JD (s:={ s with heap:=h' }) e c d (by decide) ⟨x,H,I1,ru,⟨rfl,λys hy=>by rw[I.list_inj hy hq];exact hx⟩,st',λb hb=>(hf b hb).1⟩⟩
 done:=by
  intro X hP hw hK hc i pins s σ H E I hf st hg
  subst hP hw hK
  obtain⟨xs,hq,hx⟩:=hg
  obtain⟨its,rv,p,hz⟩:=I.list hq
  obtain⟨f0,f1,f2,f3,f4,f5⟩:=hf it (by simp)
  have hl:=rv.length
  exact wpAny_pyNext_list_end (I.ok.hd hc) st p.isList (by simp;omega) λh' eb=>⟨rfl,I.turned (t':=s.toks) (λb o hb e=>eb b o hb e) f0 f1 f3 f4 f5⟩
 self:=λ_ _ _ _ _ st h=>wpAny_pyIter_listiter st h
theorem QY {P:Program}{w:World}{K:PySem.W.Frag}{tg:Expr}(a it:Addr):zaG P w K tg (Itt K a) [it] it (λi h=>h.IsTupleIter it a i) where
 mem:=by simp
 obj:=λi h st b hb=>by
  have e:b=it:=by simpa using hb
  subst e
  obtain⟨o,e,c,d⟩:=st
  exact⟨o,e,λv z=>by rw[d]at z;cases z⟩
 keep:=λi h h' st k=>st.at λo e=>k it (by simp) o e
 item:=by
  intro X hP hw hK hc i pins s σ H E I hf st hg
  subst hP hw hK
  obtain⟨xs,x,hq,hx⟩:=hg
  obtain⟨its,rv,p,hz⟩:=I.tuple hq
  obtain⟨u,hu,ru⟩:=rv.get hx
  obtain⟨f0,f1,f2,f3,f4,f5⟩:=hf it (by simp)
  refine wpAny_pyNext_tuple_item st (show s.heap.IsTuple a its.toArray from p) (x:=u) (by simpa using hu) λh' st' sb=>?_
  have I1:Inv X pins σ H { s with heap:=h' }:=I.turned (t':=s.toks) (λb o hb e=>(sb.2 b hb).trans e) f0 f1 f3 f4 f5
  obtain⟨o,e,c,d⟩:=id st'
  exact⟨u,rfl,JD (s:={ s with heap:=h' }) e c d (by decide) ⟨x,H,I1,ru,⟨rfl,λys hy=>by rw[I.tuple_inj hy hq];exact hx⟩,st',λb hb=>(hf b hb).1⟩⟩
 done:=by
  intro X hP hw hK hc i pins s σ H E I hf st hg
  subst hP hw hK
  obtain⟨xs,hq,hx⟩:=hg
  obtain⟨its,rv,p,hz⟩:=I.tuple hq
  obtain⟨f0,f1,f2,f3,f4,f5⟩:=hf it (by simp)
  have hl:=rv.length
  exact wpAny_pyNext_tuple_end (I.ok.hd hc) st (show s.heap.IsTuple a its.toArray from p) (by simp;omega) λh' eb=>⟨rfl,I.turned (t':=s.toks) (λb o hb e=>eb b o hb e) f0 f1 f3 f4 f5⟩
 self:=λ_ _ _ _ _ st h=>wpAny_pyIter_tupleiter st h
theorem QX {P:Program}{w:World}{K:PySem.W.Frag}{tg:Expr}(it:Addr) (lo:Int) (n:Nat):zaG P w K tg (Itr lo n) [it] it (λi h=>IsRangeIter h it (lo+(i:Nat)*1) ((n:Int) - (i:Nat)) 1) where
 mem:=by simp
 obj:=λi h st b hb=>by
  have e:b=it:=by simpa using hb
  subst e
  exact⟨_,st,λv z=>by
   have z':Data.fields _=Data.cell v:=z
   cases z'⟩
 keep:=λi h h' st k=>k it (by simp) _ st
 item:=by
  intro X hP hw hK hc i pins s σ H E I hf st hg
  subst hP hw hK
  obtain⟨f0,f1,f2,f3,f4,f5⟩:=hf it (by simp)
  have W:=Walks.range (prog:=X.prog) (w:=X.w) (I.ok.hd hc) it lo 1 n
  refine W.item i s _ _ hg st λv h' tk hv st' kk=>?_
  obtain⟨t,rfl⟩:=hv
  have I1:Inv X pins σ H { s with heap:=h',toks:=tk }:=I.turned (λb o hb e=>kk b o (by simpa using hb) e) f0 f1 f3 f4 f5
  refine⟨_,rfl,JD (s:={ s with heap:=h',toks:=tk }) (n:="range_iterator") st' rfl rfl (by decide) ⟨.int (lo+i),H,I1,⟨t,?_⟩,⟨rfl,rfl⟩,st',λb hb=>(hf b hb).1⟩⟩
  rw[Int.mul_one]
 done:=by
  intro X hP hw hK hc i pins s σ H E I hf st hg
  subst hP hw hK
  obtain⟨f0,f1,f2,f3,f4,f5⟩:=hf it (by simp)
  exact wpAny_pyNext_range_end (I.ok.hd hc) st (by have:n<=i:=hg;omega) λh' eb=>⟨rfl,I.turned (t':=s.toks) (λb o hb e=>eb b o hb e) f0 f1 f3 f4 f5⟩
 self:=λ_ _ _ _ _ st h=>wpAny_pyIter_rangeiter st h
end L2
namespace L2
open PySem PySem.Spec PyProof.Rows
section
variable {X:Cx}{tg:Expr}
def zbM (K:PySem.W.Frag) (tl:TE):TI:=λσ H R=>tl σ H λx H1=>∃a,x = .ref a/\(∃xs,SqL K H1 a xs)/\R (Itl K a) H1
def zaV (K:PySem.W.Frag) (tl:TE):TI:=λσ H R=>tl σ H λx H1=>∃a,x = .ref a/\(∃xs,SqT K H1 a xs)/\R (Itt K a) H1
theorem xR {l:Expr}{tl:TE}(hl:PE X l tl):PI X tg l (zbM X.K tl):=by
 intro pins s σ H R I h
 refine thn (hl pins s σ H _ I h) λv s1 ⟨x,H1,I1,r1,q1⟩=>?_
 obtain⟨a,e,⟨xs,hq⟩,q⟩:=q1
 subst e
 cases r1
 obtain⟨its,rv,p,hz⟩:=I1.list hq
 refine wpAny_pyIter_list p.isList ?_
 refine⟨s1.heap.objs.size,[s1.heap.objs.size],_,_,H1,rfl,I1.kept (t':=s1.toks) λb o e=>Heap.get?_push_of_some _ e,Jd a _,⟨_,Heap.get?_push_size _ rfl,rfl,rfl⟩,λb hb=>?_,q⟩
 have e:b=s1.heap.objs.size:=by simpa using hb
 subst e
 exact I1.fpOk (Nat.le_refl _) (I1.hok.fresh (Nat.le_refl _))
theorem vH {l:Expr}{tl:TE}(hl:PE X l tl):PI X tg l (zaV X.K tl):=by
 intro pins s σ H R I h
 refine thn (hl pins s σ H _ I h) λv s1 ⟨x,H1,I1,r1,q1⟩=>?_
 obtain⟨a,e,⟨xs,hq⟩,q⟩:=q1
 subst e
 cases r1
 obtain⟨its,rv,p,hz⟩:=I1.tuple hq
 refine wpAny_pyIter_tuple (show s1.heap.IsTuple a its.toArray from p) ?_
 refine⟨s1.heap.objs.size,[s1.heap.objs.size],_,_,H1,rfl,I1.kept (t':=s1.toks) λb o e=>Heap.get?_push_of_some _ e,QY a _,⟨_,Heap.get?_push_size _ rfl,rfl,rfl⟩,λb hb=>?_,q⟩
 have e:b=s1.heap.objs.size:=by simpa using hb
 subst e
 exact I1.fpOk (Nat.le_refl _) (I1.hok.fresh (Nat.le_refl _))
theorem J3 {pins:List (Addr×Obj)}{σ:St}{H:Hp}{s:Shared}{R:It->Hp->Prop}{E:Value->Shared->Prop}{lo hi:Int}{t u v:Tok}{tk:Nat}(I:Inv X pins σ H s) (h1 : -(2^62)<=lo) (h2:lo<2^62) (h3 : -(2^62)<=hi) (h4:hi<2^62)
  (q:R (Itr lo (hi - lo).toNat) H):wpAny (model X.prog X.w) X.A (pyIter (.ref s.heap.objs.size)) (PIE X pins σ tg R) E { s with heap:=s.heap.push { cls:=.type "range",data:=.fields #[.int lo t,.int hi u,.int 1 v] },toks:=tk }:=by
 refine wpAny_pyIter_range (IsRange.new ..) (small_one h1 h2 h3 h4) ?_
 have I1:Inv X pins σ H { s with heap:=s.heap.push { cls:=.type "range",data:=.fields #[.int lo t,.int hi u,.int 1 v] },toks:=tk }:=I.kept λb o e=>Heap.get?_push_of_some _ e
 refine⟨(s.heap.push { cls:=.type "range",data:=.fields #[.int lo t,.int hi u,.int 1 v] }).objs.size,[(s.heap.push { cls:=.type "range",data:=.fields #[.int lo t,.int hi u,.int 1 v] }).objs.size],_,_,H,rfl,
  I1.kept (t':=tk) λb o e=>Heap.get?_push_of_some _ e,QX _ lo (hi - lo).toNat,?_,λb hb=>?_,q⟩
 ·have e1:lo+((0:Nat):Int)*1=lo:=by simp
  have e2:(((hi - lo).toNat:Nat):Int) - ((0:Nat):Int)=Builtin.Range.rangeSize lo hi 1:=by rw[rangeSize_one];split <;> omega
  show IsRangeIter _ _ (lo+((0:Nat):Int)*1) ((((hi - lo).toNat:Nat):Int) - ((0:Nat):Int)) 1
  rw[e1,e2]
  exact Heap.get?_push_size _ rfl
 ·have e:b=(s.heap.push { cls:=.type "range",data:=.fields #[.int lo t,.int hi u,.int 1 v] }).objs.size:=by simpa using hb
  subst e
  exact I1.fpOk (Nat.le_refl _) (I1.hok.fresh (Nat.le_refl _))
def zdE (ta:TA):TI:=λσ H R=>ta σ H λvs H1=>∃j:Int,vs=[.int j] ∧ -(2^62)<=j/\j<2^62/\R (Itr 0 j.toNat) H1
theorem jC {a:Expr}{ta:TA}{p pos:Pos}(hg:Gl X "range") (hm:X.mg "range" = none) (ha:PA X [a] ta) (hs:starEach [a] X.env=[(false,eval a X.env)]:=by rfl):PI X tg (.Call (.Name "range" p) [a] [] pos) (zdE ta):=by
 intro pins s σ H R I h
 refine Call_ (Xv I hg hm boot_range (PyProof.Rows.callWith_type1 (thn (ha pos pins s σ H _ I h) λus s1 ⟨vs,H1,I1,r1,q1⟩=>?_) hs rfl))
 obtain⟨j,e,q1,q2,q⟩:=q1
 subst e
 cases r1 with
 | cons r rr =>
  cases rr
  obtain⟨t,rfl⟩:=r
  exact call_range_1 (J3 I1 (by omega) (by omega) q1 q2 (by simpa using q))
def zds (wi:TI) (g:TG) (tb:TS):TS:=λD σ H=>wi σ H λJ H1=>∃W:Nat->Nat->St->Hp->Prop,(∃m,W 0 m σ H1)/\∀i m σ H,W i m σ H →
 (J.stop i H/\D.nx σ H)\/(J.go i H/\∃N:St->Hp->Prop,(∀σ' H',N σ' H'->∃m',m'<m/\W (i+1) m' σ' H')/\∀x H',J.yld i H x H'->g x σ H' λσ2 H2=>tb { D with nx:=N,ct:=N,bk:=D.nx } σ2 H2)
def Zb (fp:List Addr) (h:Heap):List (Addr×Obj):=fp.filterMap λb=>(h.get? b).map λo=>(b,o)
theorem qp {fp:List Addr}{h:Heap}{b:Addr}{o:Obj}(hb:b∈fp) (e:h.get? b=some o):(b,o)∈Zb fp h:=List.mem_filterMap.mpr ⟨b,hb,by rw[e];rfl⟩
theorem V4 {fp:List Addr}{h:Heap}{p:Addr×Obj}(hp:p∈Zb fp h):p.1∈fp/\h.get? p.1=some p.2:=by
 obtain⟨b,hb,e⟩:=List.mem_filterMap.mp hp
 cases q:h.get? b with
 | none=>rw[q]at e;cases e
 | some o =>
  rw[q]at e
  have e':(b,o)=p:=Option.some.inj e
  subst e'
  exact⟨hb,q⟩
theorem Inv.pinned {pins:List (Addr×Obj)}{σ:St}{H:Hp}{s:Shared}{fp:List Addr}(I:Inv X pins σ H s) (hf:∀b∈fp,Zz X pins H b) (ho:∀b∈fp,∃o,s.heap.get? b=some o/\∀v,o.data≠.cell v):Inv X (pins++Zb fp s.heap) σ H s :=
 I.pins_of λp hp=>(List.mem_append.mp hp).elim (λz=>I.pin p (List.mem_append_right _ z)) λz=>by
  obtain⟨hb,e⟩:=V4 z
  obtain⟨f0,f1,f2,_⟩:=hf p.1 hb
  obtain⟨o,e',d⟩:=ho p.1 hb
  rw[e]at e';cases e'
  exact⟨e,f0,f1,f2,d⟩
theorem Inv.unpinned {pins pl:List (Addr×Obj)}{σ:St}{H:Hp}{s:Shared}(I:Inv X (pins++pl) σ H s):Inv X pins σ H s:=I.pins_of λp hp=>I.pin p (List.mem_append_right _ (List.mem_append_left _ hp))
theorem jb {iter:Expr}{body:List Stmt}{wi:TI}{g:TG}{tb:TS}{pos:Pos}(hp:PassesOwn (model X.prog X.w) X.A X.env X.xe) (hc:X.calm=true) (hi:PI X tg iter wi) (hg:PG X tg g) (hb:PSs X body tb)
  (hs:∀x,foldedSetIterable iter X.env x=pure x:=by intro _;rfl):PS X (.For tg iter body [] pos) (zds wi g tb):=by
 intro pins s σ H D I h
 refine wpAny_For (thn (hi pins s σ H _ I h) λv s1 h1=>thn h1 λitv s2 h2=>?_) hs
 obtain⟨it,fp,tn,J,H2,e,I2,T,st2,f2,W,⟨m0,w0⟩,turn⟩:=h2
 subst e
 have stat:∀{H':Hp},(∀b∈fp,H' b=none)->∀b∈fp,Zz X pins H' b:=λhn b hb=>⟨hn b hb,(f2 b hb).2⟩
 refine codeAny_forLoop_any (λn s'=>∃i σ' H',Inv X pins σ' H' s'/\tn i s'.heap/\(∀b∈fp,H' b=none)/\W i n σ' H') ?_ m0 ⟨0,σ,H2,I2,st2,λb hb=>(f2 b hb).1,w0⟩
 rintro n s3 ⟨i,σ3,H3,I3,st3,fr3,w3⟩
 rcases turn i n σ3 H3 w3 with⟨stop,qn⟩ | ⟨go,N,hN,step⟩
 ·refine wpAny_passesOwn hp (thn (T.done X rfl rfl rfl hc i pins s3 σ3 H3 X.xe I3 (stat fr3) st3 stop) λr s4 ⟨hr,I4⟩=>?_)
  subst hr
  exact wpAny_execs_nil ⟨σ3,H3,I4,qn⟩
 ·refine wpAny_passesOwn hp (thn (T.item X rfl rfl rfl hc i pins s3 σ3 H3 X.xe I3 (stat fr3) st3 go) λr s4 ⟨u,hr,h4⟩=>?_)
  subst hr
  refine wpAny_passesOwn hp (thn h4 λ_ s5 ⟨x,H5,I5,r5,y5,st5,fr5⟩=>?_)
  have I5':=I5.pinned (stat fr5) (T.obj _ _ st5)
  refine wpAny_passesOwn hp (thn (hg _ s5 σ3 H5 x u _ I5' r5 (step x H5 y5)) λ_ s6 ⟨σ6,H6,I6,q6⟩=>?_)
  refine wpAny_passesOwn hp (thn (hb _ s6 σ6 H6 _ I6 q6) λf s7 q7=>?_)
  have again:∀{σ7:St}{H7:Hp},Inv X (pins++Zb fp s5.heap) σ7 H7 s7->N σ7 H7->∃m,m<n/\∃i σ' H',Inv X pins σ' H' s7/\tn i s7.heap/\(∀b∈fp,H' b=none)/\W i m σ' H':=λ{σ7 H7} I7 n7=>by
   obtain⟨m',hm,w7⟩:=hN σ7 H7 n7
   refine⟨m',hm,i+1,σ7,H7,I7.unpinned,T.keep _ _ _ st5 λb hb o e=>(I7.pin (b,o) (List.mem_append_right _ (List.mem_append_right _ (qp hb e)))).1,λb hb=>?_,w7⟩
   obtain⟨o,e,d⟩:=T.obj _ _ st5 b hb
   exact(I7.pin (b,o) (List.mem_append_right _ (List.mem_append_right _ (qp hb e)))).2.1
  cases f with
  | next=>obtain⟨σ7,H7,I7,n7⟩:=q7;exact again I7 n7
  | cont=>obtain⟨σ7,H7,I7,n7⟩:=q7;exact again I7 n7
  | brk=>obtain⟨σ7,H7,I7,q7⟩:=q7;exact⟨σ7,H7,I7.unpinned,q7⟩
  | ret v=>obtain⟨x7,σ7,H7,I7,r7,q7⟩:=q7;exact⟨x7,σ7,H7,I7.unpinned,r7,q7⟩
end
theorem ZH {K:PySem.W.Frag}{a:Addr}{xs:List V}{g:TG}{tb:TS}{D:vV}{σ:St}{H:Hp}(Pv:Nat->St->Hp->Prop) (h0:Pv 0 σ H) (hl:∀i σ H,i<=xs.length->Pv i σ H->SqL K H a xs)
  (hs:∀i x σ H,xs[i]? = some x->Pv i σ H->g x σ H λσ2 H2=>tb { D with nx:=Pv (i+1),ct:=Pv (i+1),bk:=D.nx } σ2 H2) (hd:∀σ H,Pv xs.length σ H->D.nx σ H) :
  ∃W:Nat->Nat->St->Hp->Prop,(∃m,W 0 m σ H)/\∀i m σ H,W i m σ H →
   ((Itl K a).stop i H/\D.nx σ H)\/((Itl K a).go i H/\∃N:St->Hp->Prop,(∀σ' H',N σ' H'->∃m',m'<m/\W (i+1) m' σ' H')/\∀x H',(Itl K a).yld i H x H'->g x σ H' λσ2 H2=>tb { D with nx:=N,ct:=N,bk:=D.nx } σ2 H2):=by
 refine⟨λi m σ H=>m=xs.length - i/\i<=xs.length/\Pv i σ H,⟨xs.length,by simp,Nat.zero_le _,h0⟩,?_⟩
 rintro i m σ H ⟨rfl,hi,p⟩
 have q:=hl i σ H hi p
 by_cases hlt:i<xs.length
 ·refine .inr ⟨⟨xs,xs[i],q,by simp[hlt]⟩,Pv (i+1),λσ' H' p'=>⟨xs.length - (i+1),by omega,rfl,hlt,p'⟩,λx H' y=>?_⟩
  obtain⟨e,y⟩:=y
  subst e
  exact hs i x σ _ (y xs q) p
 ·have e:i=xs.length:=by omega
  subst e
  exact .inl ⟨⟨xs,q,Nat.le_refl _⟩,hd σ H p⟩
theorem Vi {K:PySem.W.Frag}{a:Addr}{xs:List V}{g:TG}{tb:TS}{D:vV}{σ:St}{H:Hp}(Pv:Nat->St->Hp->Prop) (h0:Pv 0 σ H) (hl:∀i σ H,i<=xs.length->Pv i σ H->SqT K H a xs)
  (hs:∀i x σ H,xs[i]? = some x->Pv i σ H->g x σ H λσ2 H2=>tb { D with nx:=Pv (i+1),ct:=Pv (i+1),bk:=D.nx } σ2 H2) (hd:∀σ H,Pv xs.length σ H->D.nx σ H) :
  ∃W:Nat->Nat->St->Hp->Prop,(∃m,W 0 m σ H)/\∀i m σ H,W i m σ H →
   ((Itt K a).stop i H/\D.nx σ H)\/((Itt K a).go i H/\∃N:St->Hp->Prop,(∀σ' H',N σ' H'->∃m',m'<m/\W (i+1) m' σ' H')/\∀x H',(Itt K a).yld i H x H'->g x σ H' λσ2 H2=>tb { D with nx:=N,ct:=N,bk:=D.nx } σ2 H2):=by
 refine⟨λi m σ H=>m=xs.length - i/\i<=xs.length/\Pv i σ H,⟨xs.length,by simp,Nat.zero_le _,h0⟩,?_⟩
 rintro i m σ H ⟨rfl,hi,p⟩
 have q:=hl i σ H hi p
 by_cases hlt:i<xs.length
 ·refine .inr ⟨⟨xs,xs[i],q,by simp[hlt]⟩,Pv (i+1),λσ' H' p'=>⟨xs.length - (i+1),by omega,rfl,hlt,p'⟩,λx H' y=>?_⟩
  obtain⟨e,y⟩:=y
  subst e
  exact hs i x σ _ (y xs q) p
 ·have e:i=xs.length:=by omega
  subst e
  exact .inl ⟨⟨xs,q,Nat.le_refl _⟩,hd σ H p⟩
theorem jx {lo:Int}{n:Nat}{g:TG}{tb:TS}{D:vV}{σ:St}{H:Hp}(Pv:Nat->St->Hp->Prop) (h0:Pv 0 σ H)
  (hs:∀i σ H,i<n->Pv i σ H->g (.int (lo+i)) σ H λσ2 H2=>tb { D with nx:=Pv (i+1),ct:=Pv (i+1),bk:=D.nx } σ2 H2) (hd:∀σ H,Pv n σ H->D.nx σ H) :
  ∃W:Nat->Nat->St->Hp->Prop,(∃m,W 0 m σ H)/\∀i m σ H,W i m σ H →
   ((Itr lo n).stop i H/\D.nx σ H)\/((Itr lo n).go i H/\∃N:St->Hp->Prop,(∀σ' H',N σ' H'->∃m',m'<m/\W (i+1) m' σ' H')/\∀x H',(Itr lo n).yld i H x H'->g x σ H' λσ2 H2=>tb { D with nx:=N,ct:=N,bk:=D.nx } σ2 H2):=by
 refine⟨λi m σ H=>m=n - i/\i<=n/\Pv i σ H,⟨n,by simp,Nat.zero_le _,h0⟩,?_⟩
 rintro i m σ H ⟨rfl,hi,p⟩
 by_cases hlt:i<n
 ·refine .inr ⟨hlt,Pv (i+1),λσ' H' p'=>⟨n - (i+1),by omega,rfl,hlt,p'⟩,λx H' y=>?_⟩
  obtain⟨e,y⟩:=y
  subst e y
  exact hs i σ _ hlt p
 ·have e:i=n:=by omega
  subst e
  exact .inl ⟨Nat.le_refl _,hd σ H p⟩
theorem Qq {c:TT}{tb:TS}{D:vV}{σ:St}{H:Hp}(Pv:St->Hp->Prop) (μ:St->Hp->Nat) (h0:Pv σ H)
  (hs:∀σ H,Pv σ H->c σ H λb H1=>if b=true then tb { D with nx:=λσ' H'=>Pv σ' H'/\μ σ' H'<μ σ H,ct:=λσ' H'=>Pv σ' H'/\μ σ' H'<μ σ H,bk:=D.nx } σ H1 else D.nx σ H1)
  (mono:∀σ H Q Q',(∀b H1,Q b H1->Q' b H1)->c σ H Q->c σ H Q'):zav c tb D σ H:=by
 refine⟨λm σ H=>m=μ σ H/\Pv σ H,⟨_,rfl,h0⟩,?_⟩
 rintro m σ H ⟨rfl,p⟩
 refine mono σ H _ _ (λb H1 q=>?_) (hs σ H p)
 cases b with
 | true=>exact⟨_,λσ' H' ⟨p',l⟩=>⟨_,l,rfl,p'⟩,q⟩
 | false=>exact q
end L2
namespace L2
open PySem PySem.Spec PyProof.Rows
abbrev R2:=V->V->Hp->VK->Prop
def OpR (X:Cx) (f:Value->Value->Sem Value) (r:R2):Prop :=
 ∀(pins:List (Addr×Obj)) (s:Shared) (σ:St) (H:Hp) (x y:V) (v u:Value) (Q:VK),Inv X pins σ H s->xg x v->xg y u->r x y H Q →
  wpAny (model X.prog X.w) X.A (f v u) (EP X pins σ Q) X.xe s
def UnR (X:Cx) (f:Value->Sem Value) (r:V->Hp->VK->Prop):Prop :=
 ∀(pins:List (Addr×Obj)) (s:Shared) (σ:St) (H:Hp) (x:V) (v:Value) (Q:VK),Inv X pins σ H s->xg x v->r x H Q →
  wpAny (model X.prog X.w) X.A (f v) (EP X pins σ Q) X.xe s
def vg (X:Cx) (f:Value) (r:List V->Hp->VK->Prop):Prop :=
 ∀(pins:List (Addr×Obj)) (s:Shared) (σ:St) (H:Hp) (xs:List V) (us:List Value) (Q:VK),Inv X pins σ H s->zP xs us->r xs H Q →
  wpAny (model X.prog X.w) X.A (call f us) (EP X pins σ Q) X.xe s
def TruR (X:Cx) (r:V->Hp->(Bool->Hp->Prop)->Prop):Prop :=
 ∀(pins:List (Addr×Obj)) (s:Shared) (σ:St) (H:Hp) (x:V) (v:Value) (Q:Bool->Hp->Prop),Inv X pins σ H s->xg x v->r x H Q →
  wpAny (model X.prog X.w) X.A (truthy v) (TP X pins σ Q) X.xe s
def tOp (r:R2) (ta tb:TE):TE:=λσ H Q=>ta σ H λx H1=>tb σ H1 λy H2=>r x y H2 Q
def tUn (r:V->Hp->VK->Prop) (ta:TE):TE:=λσ H Q=>ta σ H λx H1=>r x H1 Q
def rI (C:Int->Int->Prop) (g:Int->Int->V):R2:=λx y H Q=>∃i j,x = .int i/\y = .int j/\C i j/\Q (g i j) H
def rI0 (g:Int->Int->V):R2:=λx y H Q=>∃i j,x = .int i/\y = .int j/\Q (g i j) H
def rU (g:Int->V):V->Hp->VK->Prop:=λx H Q=>∃i,x = .int i/\Q (g i) H
section
variable {X:Cx}{a b c:Expr}{ta tb tc:TE}{pos:Pos}
theorem zcm (ha:PE X a ta) (hb:PE X b tb){pins:List (Addr×Obj)}{s:Shared}{σ:St}{H:Hp}{R:V->V->Hp->Prop}(I:Inv X pins σ H s)
  (h:ta σ H λx H1=>tb σ H1 λy H2=>R x y H2){Q:Value->Shared->Prop}{f:Value->Value->Sem Value}
  (hf:∀v u s2 x y H2,Inv X pins σ H2 s2->xg x v->xg y u->R x y H2->wpAny (model X.prog X.w) X.A (f v u) Q X.xe s2) :
  wpAny (model X.prog X.w) X.A (eval a X.env) (λv s₁=>wpAny (model X.prog X.w) X.A (eval b X.env) (λu s₂=>wpAny (model X.prog X.w) X.A (f v u) Q X.xe s₂) X.xe s₁) X.xe s:=by
 refine thn (ha pins s σ H _ I h) λv s1 ⟨x,H1,I1,r1,q1⟩=>?_
 refine thn (hb pins s1 σ H1 _ I1 q1) λu s2 ⟨y,H2,I2,r2,q2⟩=>?_
 exact hf v u s2 x y H2 I2 r1 r2 q2
theorem zt {op:Operator}{r:R2}(ho:OpR X (binaryOp op) r) (ha:PE X a ta) (hb:PE X b tb):PE X (.BinOp a op b pos) (tOp r ta tb):=by
 intro pins s σ H Q I h
 exact wpAny_BinOp (zcm ha hb I h λv u s2 x y H2 I2 rx ry q=>ho pins s2 σ H2 x y v u Q I2 rx ry q)
theorem vO {op:UnaryOp}{r:V->Hp->VK->Prop}(ho:UnR X (unaryOp op) r) (ha:PE X a ta):PE X (.UnaryOp op a pos) (tUn r ta):=by
 intro pins s σ H Q I h
 exact UnaryOp_ (thn (ha pins s σ H _ I h) λv s1 ⟨x,H1,I1,r1,q1⟩=>ho pins s1 σ H1 x v Q I1 r1 q1)
theorem opI {f:Value->Value->Sem Value}{C:Int->Int->Prop}{g:Int->Int->Int}
  (rule:∀(i j:Int) (t u:Tok) (s:Shared) (Q:Value->Shared->Prop) (E:Value->Shared->Prop),C i j->Q (.int (g i j) s.toks) { s with toks:=s.toks+1 }->wpAny (model X.prog X.w) X.A (f (.int i t) (.int j u)) Q E s) :
  OpR X f (rI C λi j=>.int (g i j)):=by
 intro pins s σ H x y v u Q I rx ry h
 obtain⟨i,j,rfl,rfl,hc,q⟩:=h
 obtain⟨t,rfl⟩:=rx
 obtain⟨t',rfl⟩:=ry
 exact rule i j t t' s _ _ hc ⟨.int (g i j),H,I.tok _,⟨_,rfl⟩,q⟩
theorem zdZ {f:Value->Value->Sem Value}{g:Int->Int->Int}
  (rule:∀(i j:Int) (t u:Tok) (s:Shared) (Q:Value->Shared->Prop) (E:Value->Shared->Prop),Q (.int (g i j) s.toks) { s with toks:=s.toks+1 }->wpAny (model X.prog X.w) X.A (f (.int i t) (.int j u)) Q E s) :
  OpR X f (rI0 λi j=>.int (g i j)):=by
 intro pins s σ H x y v u Q I rx ry h
 obtain⟨i,j,rfl,rfl,q⟩:=h
 obtain⟨t,rfl⟩:=rx
 obtain⟨t',rfl⟩:=ry
 exact rule i j t t' s _ _ ⟨.int (g i j),H,I.tok _,⟨_,rfl⟩,q⟩
theorem zc4 {f:Value->Value->Sem Value}{g:Int->Int->Bool}
  (rule:∀(i j:Int) (t u:Tok) (s:Shared) (Q:Value->Shared->Prop) (E:Value->Shared->Prop),Q (.bool (g i j)) s->wpAny (model X.prog X.w) X.A (f (.int i t) (.int j u)) Q E s) :
  OpR X f (rI0 λi j=>.bl (g i j)):=by
 intro pins s σ H x y v u Q I rx ry h
 obtain⟨i,j,rfl,rfl,q⟩:=h
 obtain⟨t,rfl⟩:=rx
 obtain⟨t',rfl⟩:=ry
 exact rule i j t t' s _ _ ⟨.bl (g i j),H,I,rfl,q⟩
def CDiv (i j:Int):Prop:=0<j/\j<1073741824
def CPow (i j:Int):Prop:=0<=j/\j<=1000000/\i.natAbs<2^64
def zcf (i j:Int):Prop:=(-(2^64)<i/\i<2^64)\/(-(2^64)<j/\j<2^64)
theorem zcf.ok {i j:Int}(h:zcf i j):IntMulOk i j:=by
 rcases h with⟨h1,h2⟩ | ⟨h1,h2⟩
 ·exact .of_left (intBits_le_64 h1 h2)
 ·exact .of_right (intBits_le_64 h1 h2)
theorem z8:OpR X (binaryOp .Add) (rI0 λi j=>.int (i+j)):=zdZ λ_ _ _ _ _ _ _ q=>add_int q
theorem xH:OpR X (binaryOp .Sub) (rI0 λi j=>.int (i - j)):=zdZ λ_ _ _ _ _ _ _ q=>sub_int q
theorem QP:OpR X (binaryOp .Mult) (rI zcf λi j=>.int (i*j)):=opI λ_ _ _ _ _ _ _ hc q=>mul_int q hc.ok
theorem Vo:OpR X (binaryOp .FloorDiv) (rI CDiv λi j=>.int (i/j)):=opI λi j _ _ _ _ _ hc q=>by
 have h1:(0:Int)<j:=hc.1
 have h2:j<1073741824:=hc.2
 exact floordiv_int (by omega) (by rw[Int.fdiv_eq_ediv_of_nonneg i (by omega)];exact q) (.inl (PyProof.noPylong_small (by omega)))
theorem vk:OpR X (binaryOp .Mod) (rI (λ_ j=>0<j) λi j=>.int (i % j)):=opI λi j _ _ _ _ _ hc q=>by
 have h1:(0:Int)<j:=hc
 exact mod_int' (by omega) (by rw[Int.fmod_eq_emod_of_nonneg i (by omega)];exact q)
theorem vm:OpR X (binaryOp .Pow) (rI CPow λi j=>.int (i^j.toNat)):=opI λ_ _ _ _ _ _ _ hc q=>pow_int_small hc.1 hc.2.1 hc.2.2 q
theorem unI {f:Value->Sem Value}{g:Int->Int}
  (rule:∀(i:Int) (t:Tok) (s:Shared) (Q:Value->Shared->Prop) (E:Value->Shared->Prop),Q (.int (g i) s.toks) { s with toks:=s.toks+1 }->wpAny (model X.prog X.w) X.A (f (.int i t)) Q E s) :
  UnR X f (rU λi=>.int (g i)):=by
 intro pins s σ H x v Q I rx h
 obtain⟨i,rfl,q⟩:=h
 obtain⟨t,rfl⟩:=rx
 exact rule i t s _ _ ⟨.int (g i),H,I.tok _,⟨_,rfl⟩,q⟩
theorem qI:UnR X (unaryOp .USub) (rU λi=>.int (-i)):=unI λ_ _ _ _ _ q=>neg_int q
end
def zeb:V->V->Bool
 | .non,.non=>true | .non,.int _=>true | .int _,.non=>true | .non,.bl _=>true | .bl _,.non=>true | .non,.str _=>true | .str _,.non=>true
 | .int _,.int _=>true | .bl _,.bl _=>true | .str _,.str _=>true | .byt _,.byt _=>true
 | .int _,.str _=>true | .str _,.int _=>true | .bl _,.str _=>true | .str _,.bl _=>true
 | _,_=>false
def rEq:R2:=λx y H Q=>zeb x y=true/\Q (.bl (decide (x=y))) H
def rNe:R2:=λx y H Q=>zeb x y=true/\Q (.bl (!decide (x=y))) H
theorem Ve {i j:Int}:decide (V.int i=V.int j)=(i == j):=by
 rw[Bool.eq_iff_iff]
 simp
theorem Jw {i j:Bool}:decide (V.bl i=V.bl j)=(i == j):=by
 rw[Bool.eq_iff_iff]
 simp
theorem Vf {i j:Str}:decide (V.str i=V.str j)=(i == j):=by
 rw[Bool.eq_iff_iff]
 simp
theorem Vd {i j:Array UInt8}:decide (V.byt i=V.byt j)=(i.toList == j.toList):=by
 rw[Bool.eq_iff_iff]
 cases i
 cases j
 simp
section
variable {X:Cx}{a b c:Expr}{ta tb tc:TE}{pos:Pos}
theorem zV {pins:List (Addr×Obj)}{σ:St}{H:Hp}{s:Shared}{Q:VK}{k k':Bool}(I:Inv X pins σ H s) (q:Q (.bl k) H) (e:k=k'):EP X pins σ Q (.bool k') s:=by
 subst e
 exact⟨.bl k,H,I,rfl,q⟩
theorem qN:OpR X (compareOp .Eq) rEq:=by
 intro pins s σ H x y v u Q I rx ry h
 obtain⟨hs,q⟩:=h
 cases x with
 | non =>
  cases rx
  cases y with
  | non=>cases ry;exact PySem.EqNone.eq_none_none (zV I q (by simp))
  | bl j=>cases ry;exact PySem.EqNone.eq_none_bool (zV I q (by simp))
  | int j=>obtain⟨t',rfl⟩:=ry;exact PySem.EqNone.eq_none_int (zV I q (by simp))
  | str j=>obtain⟨t',rfl⟩:=ry;exact PySem.EqNone.eq_none_str (zV I q (by simp))
  | _=>exact absurd (show false=true from hs) Bool.false_ne_true
 | bl i =>
  cases rx
  cases y with
  | non=>cases ry;exact PySem.EqNone.eq_bool_none (zV I q (by simp))
  | bl j=>cases ry;exact eq_bool (zV I q Jw)
  | str j=>obtain⟨t',rfl⟩:=ry;exact PySem.EqMixed.eq_bool_str (zV I q (by simp))
  | _=>exact absurd (show false=true from hs) Bool.false_ne_true
 | int i =>
  obtain⟨t,rfl⟩:=rx
  cases y with
  | non=>cases ry;exact PySem.EqNone.eq_int_none (zV I q (by simp))
  | int j=>obtain⟨t',rfl⟩:=ry;exact eq_int (zV I q Ve)
  | str j=>obtain⟨t',rfl⟩:=ry;exact PySem.EqMixed.eq_int_str (zV I q (by simp))
  | _=>exact absurd (show false=true from hs) Bool.false_ne_true
 | str i =>
  obtain⟨t,rfl⟩:=rx
  cases y with
  | non=>cases ry;exact PySem.EqNone.eq_str_none (zV I q (by simp))
  | bl j=>cases ry;exact PySem.EqMixed.eq_str_bool (zV I q (by simp))
  | int j=>obtain⟨t',rfl⟩:=ry;exact PySem.EqMixed.eq_str_int (zV I q (by simp))
  | str j=>obtain⟨t',rfl⟩:=ry;exact eq_str (zV I q Vf)
  | _=>exact absurd (show false=true from hs) Bool.false_ne_true
 | byt i =>
  obtain⟨t,rfl⟩:=rx
  cases y with
  | byt j=>obtain⟨t',rfl⟩:=ry;exact PySem.W.eq_bytes (zV I q Vd)
  | _=>exact absurd (show false=true from hs) Bool.false_ne_true
 | _=>cases y <;> exact absurd (show false=true from hs) Bool.false_ne_true
theorem zd0:OpR X (compareOp .NotEq) rNe:=by
 intro pins s σ H x y v u Q I rx ry h
 obtain⟨hs,q⟩:=h
 cases x with
 | non =>
  cases rx
  cases y with
  | non=>cases ry;exact PySem.EqNone.ne_none_none (zV I q (by simp))
  | bl j=>cases ry;exact PySem.EqNone.ne_none_bool (zV I q (by simp))
  | int j=>obtain⟨t',rfl⟩:=ry;exact PySem.EqNone.ne_none_int (zV I q (by simp))
  | str j=>obtain⟨t',rfl⟩:=ry;exact PySem.EqNone.ne_none_str (zV I q (by simp))
  | _=>exact absurd (show false=true from hs) Bool.false_ne_true
 | bl i =>
  cases rx
  cases y with
  | non=>cases ry;exact PySem.EqNone.ne_bool_none (zV I q (by simp))
  | bl j=>cases ry;exact ne_bool (zV I q (congrArg not Jw))
  | str j=>obtain⟨t',rfl⟩:=ry;exact PySem.EqMixed.ne_bool_str (zV I q (by simp))
  | _=>exact absurd (show false=true from hs) Bool.false_ne_true
 | int i =>
  obtain⟨t,rfl⟩:=rx
  cases y with
  | non=>cases ry;exact PySem.EqNone.ne_int_none (zV I q (by simp))
  | int j=>obtain⟨t',rfl⟩:=ry;exact ne_int (zV I q (congrArg not Ve))
  | str j=>obtain⟨t',rfl⟩:=ry;exact PySem.EqMixed.ne_int_str (zV I q (by simp))
  | _=>exact absurd (show false=true from hs) Bool.false_ne_true
 | str i =>
  obtain⟨t,rfl⟩:=rx
  cases y with
  | non=>cases ry;exact PySem.EqNone.ne_str_none (zV I q (by simp))
  | bl j=>cases ry;exact PySem.EqMixed.ne_str_bool (zV I q (by simp))
  | int j=>obtain⟨t',rfl⟩:=ry;exact PySem.EqMixed.ne_str_int (zV I q (by simp))
  | str j=>obtain⟨t',rfl⟩:=ry;exact ne_str (zV I q (congrArg not Vf))
  | _=>exact absurd (show false=true from hs) Bool.false_ne_true
 | byt i =>
  obtain⟨t,rfl⟩:=rx
  cases y with
  | byt j=>obtain⟨t',rfl⟩:=ry;exact PySem.W.ne_bytes (zV I q (congrArg not Vd))
  | _=>exact absurd (show false=true from hs) Bool.false_ne_true
 | _=>cases y <;> exact absurd (show false=true from hs) Bool.false_ne_true
theorem jg:OpR X (compareOp .Lt) (rI0 λi j=>.bl (decide (i<j))):=zc4 λ_ _ _ _ _ _ _ q=>lt_int q
theorem Xi:OpR X (compareOp .LtE) (rI0 λi j=>.bl (decide (i<=j))):=zc4 λ_ _ _ _ _ _ _ q=>le_int q
theorem jZ:OpR X (compareOp .Gt) (rI0 λi j=>.bl (decide (j<i))):=zc4 λ_ _ _ _ _ _ _ q=>gt_int q
theorem vG:OpR X (compareOp .Is) (λx y H Q=>y = .non/\Q (.bl (decide (x = .non))) H):=by
 intro pins s σ H x y v u Q I rx ry h
 obtain⟨rfl,q⟩:=h
 cases ry
 refine is_none_gen (zV I q ?_)
 cases x <;> first
  | (cases rx;rfl)
  | (obtain⟨t,rfl⟩:=rx;rfl)
theorem v7:OpR X (compareOp .IsNot) (λx y H Q=>y = .non/\Q (.bl (!decide (x = .non))) H):=by
 intro pins s σ H x y v u Q I rx ry h
 obtain⟨rfl,q⟩:=h
 cases ry
 refine isnot_none_gen (zV I q ?_)
 cases x <;> first
  | (cases rx;rfl)
  | (obtain⟨t,rfl⟩:=rx;rfl)
theorem zF (b:Expr){op:CmpOp}(h:op≠.In:=by decide) (h2:op≠.NotIn:=by decide):behindInMarks op b=false:=by
 have e1:(op == CmpOp.In)=false:=by cases op <;> first | rfl | exact absurd rfl h
 have e2:(op == CmpOp.NotIn)=false:=by cases op <;> first | rfl | exact absurd rfl h2
 cases b <;> simp[behindInMarks,e1,e2]
theorem qQ {op:CmpOp}{r:R2}(ho:OpR X (compareOp op) r) (ha:PE X a ta) (hb:PE X b tb) (hm:behindInMarks op b=false):PE X (.Compare a [op] [b] pos) (tOp r ta tb):=by
 intro pins s σ H Q I h
 exact wpAny_Compare1 (zcm ha hb I h λv u s2 x y H2 I2 rx ry q=>ho pins s2 σ H2 x y v u Q I2 rx ry q) hm
def Vy (t:TE):TT:=λσ H Q=>t σ H λx H'=>∃k,x = .bl k/\Q k H'
theorem zC {op:CmpOp}{r:R2}(ho:OpR X (compareOp op) r) (ha:PE X a ta) (hb:PE X b tb) (hm:behindInMarks op b=false):PT X (.Compare a [op] [b] pos) (Vy (tOp r ta tb)):=by
 intro pins s σ H Q I h
 refine wpAny_isTrue_Compare1 (thn (ha pins s σ H _ I h) λv s1 ⟨x,H1,I1,r1,q1⟩=>thn (hb pins s1 σ H1 _ I1 q1) λu s2 ⟨y,H2,I2,r2,q2⟩ =>
  thn (ho pins s2 σ H2 x y v u _ I2 r1 r2 q2) λc s3 ⟨z,H3,I3,r3,k,e,q3⟩=>?_) hm
 subst e
 cases r3
 exact wpAny_truthy_bool ⟨H3,I3,q3⟩
def zdr (r r':R2) (ta tb tc:TE):TE:=λσ H Q=>ta σ H λx H1=>tb σ H1 λy H2=>r x y H2 λz H3=>∃k,z = .bl k ∧
 (if k=true then tc σ H3 λw' H4=>r' y w' H4 Q else Q (.bl false) H3)
theorem ZQ {op op':CmpOp}{r r':R2}(ho:OpR X (compareOp op) r) (ho':OpR X (compareOp op') r') (ha:PE X a ta) (hb:PE X b tb) (hc:PE X c tc)
  (hm:lastMarks [op,op'] [b,c]=false:=by with_unfolding_all rfl):PT X (.Compare a [op,op'] [b,c] pos) (Vy (zdr r r' ta tb tc)):=by
 intro pins s σ H Q I h
 refine isTrue_chain (thn (ha pins s σ H _ I h) λv s1 ⟨x,H1,I1,r1,q1⟩=>test_link (thn (hb pins s1 σ H1 _ I1 q1) λu s2 ⟨y,H2,I2,r2,q2⟩ =>
  thn (ho pins s2 σ H2 x y v u _ I2 r1 r2 q2) λd s3 ⟨z,H3,I3,r3,k,e,q3⟩=>?_)) hm
 subst e
 cases r3
 refine wpAny_truthy_bool ?_
 cases k with
 | false =>
  obtain⟨k',e',q'⟩:=q3
  cases e'
  exact ite_ff ⟨H3,I3,q'⟩
 | true =>
  refine ite_tt (test_last (thn (hc pins s3 σ H3 _ I3 q3) λw' s4 ⟨z',H4,I4,r4,q4⟩=>thn (ho' pins s4 σ H4 y z' u w' _ I4 r2 r4 q4) λd' s5 ⟨z2,H5,I5,r5,k2,e2,q5⟩=>?_))
  subst e2
  cases r5
  exact wpAny_truthy_bool ⟨H5,I5,q5⟩
def zaF (K:PySem.W.Frag) (x:V) (H:Hp) (k:Bool):Prop :=
 match x with
 | .non=>k=false
 | .bl b=>k=b
 | .int i=>k=(i != 0)
 | .str y=>y.length<=sizeLine/\k=((y.length:Int) != 0)
 | .byt y=>y.size<=sizeLine/\k=((y.size:Int) != 0)
 | .ref p=>(∃xs,SqL K H p xs/\k = !xs.isEmpty)\/(∃xs,SqT K H p xs/\k = !xs.isEmpty)\/∃kvs,H p=some (.dK kvs)/\k = !kvs.isEmpty
 | _=>False
theorem QH {κ:Type}{kvs:List (κ×V)}{vs:List (κ×Value)} (r:KV kvs vs):(!vs.isEmpty) = !kvs.isEmpty:=by
 cases r <;> rfl
theorem ZI {xs:List V}{its:List Value}(r:zP xs its):(!its.toArray.isEmpty) = !xs.isEmpty:=by
 cases r <;> simp
theorem ZM:(sizeLine:Nat)<2^63:=by rw[sizeLine_eq];decide
theorem zdw:TruR X (λx H Q=>∃k,zaF X.K x H k/\Q k H):=by
 intro pins s σ H x v Q I rx h
 obtain⟨k,e,q⟩:=h
 have hl:=ZM
 have hs:sizeLine=16777216:=sizeLine_eq
 cases x with
 | non =>
  cases rx
  have e':k=false:=e
  subst e'
  exact truthy_none ⟨H,I,q⟩
 | bl b =>
  cases rx
  have e':k=b:=e
  subst e'
  exact wpAny_truthy_bool ⟨H,I,q⟩
 | int i =>
  obtain⟨t,rfl⟩:=rx
  have e':k=(i != 0):=e
  subst e'
  exact PySem.P.truthy_int ⟨H,I,q⟩
 | str y =>
  obtain⟨t,rfl⟩:=rx
  obtain⟨hy,e'⟩:y.length<=sizeLine/\k=((y.length:Int) != 0):=e
  subst e'
  exact PySem.P.truthy_str (by omega) ⟨H,I.tok _,q⟩
 | byt y =>
  obtain⟨t,rfl⟩:=rx
  obtain⟨hy,e'⟩:y.size<=sizeLine/\k=((y.size:Int) != 0):=e
  subst e'
  exact PySem.W.truthy_bytes (by omega) ⟨H,I.tok _,q⟩
 | ref p =>
  cases rx
  have e':(∃xs,SqL X.K H p xs/\k = !xs.isEmpty)\/(∃xs,SqT X.K H p xs/\k = !xs.isEmpty)\/∃kvs,H p=some (.dK kvs)/\k = !kvs.isEmpty:=e
  rcases e' with⟨xs,hx,e'⟩ | ⟨xs,hx,e'⟩ | ⟨kvs,hx,e'⟩
  ·subst e'
   obtain⟨its,r,pl,hz⟩:=I.list hx
   have hlen:=r.length
   exact wpAny_truthy_list pl.isList (by simp only[List.size_toArray];omega) ⟨H,I.tok _,by rw[ZI r];exact q⟩
  ·subst e'
   obtain⟨its,r,pl,hz⟩:=I.tuple hx
   have hlen:=r.length
   exact truthy_tuple pl (by simp only[List.size_toArray];omega) ⟨H,I.tok _,by rw[ZI r];exact q⟩
  ·subst e'
   obtain⟨hz,hS,vs,r,m⟩:kvs.length<=sizeLine/\(p == sysModules)=false/\∃vs,KV kvs vs/\s.heap.DictOf (Xx X.prog X.w) p vs:=I.hok p _ hx
   have hlen:kvs.length=vs.length:=Paired.length r
   exact wpAny_truthy_dict hS m (by omega) ⟨H,I.tok _,by rw[QH r];exact q⟩
 | _=>exact(show False from e).elim
theorem xj (ha:PE X a ta) (he:∀whole,isTrue a X.env whole=(do let v <-whole;standAt a.pos;holding [v] (truthy v))) :
  PT X a (λσ H Q=>ta σ H λx H'=>∃k,zaF X.K x H' k/\Q k H'):=by
 intro pins s σ H Q I h
 exact isTrue_plain (thn (ha pins s σ H _ I h) λv s1 ⟨x,H1,I1,r1,q1⟩=>zdw pins s1 σ H1 x v Q I1 r1 q1) (he _)
theorem Zm {x:V}{us:List Value}(r:zP [x] us):∃u,us=[u]/\xg x u:=by
 cases r with
 | cons r1 r2=>cases r2;exact⟨_,rfl,r1⟩
theorem Qp {x y:V}{us:List Value}(r:zP [x,y] us):∃u w',us=[u,w']/\xg x u/\xg y w':=by
 cases r with
 | cons r1 r2 =>
  cases r2 with
  | cons r3 r4=>cases r4;exact⟨_,_,rfl,r1,r3⟩
theorem vi:vg X (.builtin "abs") (λxs H Q=>∃i,xs=[.int i]/\Q (.int (if i<0 then -i else i)) H):=by
 intro pins s σ H xs us Q I r h
 obtain⟨i,rfl,q⟩:=h
 obtain⟨u,rfl,t,rfl⟩:=Zm r
 exact call_abs_int λu tk=>⟨.int (if i<0 then -i else i),H,I.tok _,⟨_,rfl⟩,q⟩
theorem Xb (hc:X.calm=true):vg X (.builtin "max") (λxs H Q=>∃i j,xs=[.int i,.int j]/\Q (.int (if j>i then j else i)) H):=by
 intro pins s σ H xs us Q I r h
 obtain⟨i,j,rfl,q⟩:=h
 obtain⟨u,w',rfl,⟨t,rfl⟩,⟨t',rfl⟩⟩:=Qp r
 refine max_two_ints (I.ok.hd hc) λh' tk k=>⟨_,H,I.kept k,?_,q⟩
 by_cases hj:j>i
 ·rw[if_pos hj,if_pos hj];exact⟨_,rfl⟩
 ·rw[if_neg hj,if_neg hj];exact⟨_,rfl⟩
theorem VI (hc:X.calm=true):vg X (.builtin "min") (λxs H Q=>∃i j,xs=[.int i,.int j]/\Q (.int (if j<i then j else i)) H):=by
 intro pins s σ H xs us Q I r h
 obtain⟨i,j,rfl,q⟩:=h
 obtain⟨u,w',rfl,⟨t,rfl⟩,⟨t',rfl⟩⟩:=Qp r
 refine min_two_ints (I.ok.hd hc) λh' tk k=>⟨_,H,I.kept k,?_,q⟩
 by_cases hj:j<i
 ·rw[if_pos hj,if_pos hj];exact⟨_,rfl⟩
 ·rw[if_neg hj,if_neg hj];exact⟨_,rfl⟩
theorem VH:vg X (.type "int") (λxs H Q=>(∃i,xs=[.int i]/\Q (.int i) H)\/∃k,xs=[.bl k]/\Q (.int (if k then 1 else 0)) H):=by
 intro pins s σ H xs us Q I r h
 rcases h with⟨i,rfl,q⟩ | ⟨k,rfl,q⟩
 ·obtain⟨u,rfl,t,rfl⟩:=Zm r
  exact call_int_int ⟨.int i,H,I,⟨_,rfl⟩,q⟩
 ·obtain⟨u,rfl,r1⟩:=Zm r
  cases r1
  exact call_int_bool ⟨.int (if k then 1 else 0),H,I.tok _,⟨_,rfl⟩,q⟩
end
end L2
namespace L2
open PySem PySem.Spec PyProof.Rows
structure VE (h:Heap) (x dx C:Addr) (mA:Str->Option Value):Prop where
 obj:h.get? x=some (PySem.W.instObj C dx)
 ns:h.Ns1 dx mA
 ne:dx≠x
theorem VZ {h:Heap}{dx:Addr}{mA:Str->Option Value}(n:h.Ns1 dx mA):∃od,h.get? dx=some od/\∀name,PySem.W.lookIn name od=some (mA name):=by
 obtain⟨o,es,ep,ho,hd,hk,_,hm⟩:=n
 refine⟨o,ho,λname=>?_⟩
 have e:=hm name
 unfold nsFind findBy at e
 rw[<-Array.find?_toList]at e
 unfold PySem.W.lookIn
 rw[hd]
 dsimp only
 split
 ·rename_i y q
  rw[q]at e
  exact congrArg some e
 ·rename_i q
  rw[q]at e
  have a:es.toList.any (·.refKey)=false:=by
   rw[List.any_eq_false]
   intro y hy
   obtain⟨z,t,hkey⟩:=hk y (Array.mem_toList_iff.mp hy)
   simp[DictEntry.refKey,hkey]
  have a':¬es.toList.any (·.refKey)=true:=by rw[a];exact Bool.false_ne_true
  rw[if_neg a']
  exact congrArg some e
theorem VE.look {h:Heap}{x dx C:Addr}{mA:Str->Option Value}(I:VE h x dx C mA):∃od,PySem.W.InstAt h x (PySem.W.instObj C dx) C (some od)/\∀name,PySem.W.lookIn name od=some (mA name) :=
 let ⟨od,ho,hl⟩:=VZ I.ns
 ⟨od,⟨I.obj,rfl,rfl,ho⟩,hl⟩
section
variable {prog:Program}{w:World}{A:Around}{E:Value->Shared->Prop}{s:Shared}{K:PySem.W.Frag}{x dx C f:Addr}{mA:Str->Option Value}{name:Str}{v:Value}
theorem zaU {expr:Bool}{Q:Value->Shared->Prop}(X:K.In s.heap) (I:VE s.heap x dx C mA) (hg:PySem.W.plainGet K C name=true) (hh:PySem.W.hasDictIn K C=true)
  (ha:PySem.W.findIn K (.ref C) name=some none) (hv:mA name=some v) (hv':PySem.W.handedIn v=true) (h:Q v { s with toks:=s.toks+1 }) :
  wpAny (model prog w) A (getAttr (.ref x) name expr) Q E s:=by
 obtain⟨od,J,hl⟩:=I.look
 exact PySem.W.get_value X J (PySem.W.plainGet_of hg).1 (PySem.W.findObj_own hh ha rfl (by rw[hl,hv])) hv' h
theorem zbx {ns:List Str}{Q:Unit->Shared->Prop}(X:K.In s.heap) (I:VE s.heap x dx C mA)
  (hs:PySem.W.findIn K (.ref C) "__setattr__" = some (some (.builtin "object.__setattr__"))) (hp:PySem.W.plainOver K C=true) (ht:PySem.W.takerIn K C name=some none) (hh:PySem.W.hasDictIn K C=true)
  (hw:PySem.Within mA ns) (hsz:ns.length<=sizeLine)
  (h:∀h',VE h' x dx C (λy=>if y=name then some v else mA y)->Heap.SameBut dx s.heap h'->Q () { s with heap:=h',toks:=s.toks+2 }) :
  wpAny (model prog w) A (setAttr (.ref x) name v) Q E s:=by
 obtain⟨od,J,hl⟩:=I.look
 refine PySem.W.set_plain X J hs (PySem.W.osa_open (s:={ s with toks:=s.toks+1 }) (r:=none) X J hp ht λb=>?_)
 obtain⟨cd,hc,hd'⟩:=PySem.W.any_some hh
 have hx:s.heap.get? x=some ⟨.ref C,some dx,.plain,#[]⟩:=I.obj
 refine wpAny_bind (wpAny_pure (wpAny_bind (wpAny_bind (wpAny_loadPart hx (wpAny_bind (PySem.W.Looks.here (s:={ s with toks:=s.toks+1 }) (PySem.W.looks_clsIn X hc) ?_))))))
 rw[hd']
 refine wpAny_pure (a:=some dx) (wpAny_bind (wpAny_pure (wpAny_bind ?_)))
 refine wpAny_nsSet1 (s:={ s with toks:=s.toks+1 }) I.ns λh' hn2 hs2=>?_
 obtain⟨oD,esD,epD,hoD,hdD,hcD⟩:=hn2.count (PySem.Within.cons name v hw)
 refine wpAny_bind (wpAny_lookBehind hoD (by rw[hdD];exact pastItsLine_dict (Nat.le_trans hcD (by rw[List.length_cons];omega))) ?_)
 exact wpAny_pure (h _ ⟨(hs2.2 _ (Ne.symm I.ne)).trans I.obj,hn2,I.ne⟩ hs2)
theorem JM {R:Result->Shared->Prop}{vs:List Value}{kw:List (Str×Value)} (X:K.In s.heap) (hm:PySem.W.makesIn K C=true)
  (hi:PySem.W.findIn K (.ref C) "__init__" = some (some (.ref f))) (hf:PySem.W.typeIn K (.ref f)=some (.type "function"))
  (h:codeAny (model prog w) (A.under (.builtin "type.__call__" ⟨.ref C::vs,kw⟩)) (.call (.ref f) ⟨.ref (s.heap.objs.size+1)::vs,kw⟩) (PySem.W.InitBack (s.heap.objs.size+1) R)
   { s with heap:=(s.heap.push PySem.W.emptyDict).push (PySem.W.instObj C s.heap.objs.size) }) :
  codeAny (model prog w) A (.call (.ref C) ⟨vs,kw⟩) R s:=by
 obtain⟨hh,g,d,t,os⟩:=s
 exact PySem.W.make_core (PySem.W.makes_of X hm) (PySem.W.looks_findIn X hi) (λself=>PySem.W.bind_fn X self hf) (.inl rfl) h
end
def vP (f:Str) (v:V):List (Str×V)->List (Str×V)
 | []=>[(f,v)]
 | (g,x)::r=>if g=f then(g,v)::r else(g,x)::vP f v r
theorem Zl (f g:Str) (v:V):∀fs:List (Str×V),(vP f v fs).lookup g=if g=f then some v else fs.lookup g
 | []=>by
  show List.lookup g [(f,v)]=_
  by_cases h:g=f
  ·have hb:(g == f)=true:=beq_iff_eq.mpr h
   simp only[List.lookup,hb,if_pos h]
  ·have hb:(g == f)=false:=beq_eq_false_iff_ne.mpr h
   simp only[List.lookup,hb,if_neg h]
 | (k,x)::r=>by
  have ih:=Zl f g v r
  rw[show vP f v ((k,x)::r)=(if k=f then(k,v)::r else(k,x)::vP f v r)from rfl]
  by_cases hk:k=f
  ·rw[if_pos hk]
   by_cases h:g=k
   ·have hb:(g == k)=true:=beq_iff_eq.mpr h
    simp only[List.lookup,hb,if_pos (h.trans hk)]
   ·have hb:(g == k)=false:=beq_eq_false_iff_ne.mpr h
    simp only[List.lookup,hb,if_neg (λe:g=f=>h (e.trans hk.symm))]
  ·rw[if_neg hk]
   by_cases h:g=k
   ·have hb:(g == k)=true:=beq_iff_eq.mpr h
    simp only[List.lookup,hb,if_neg (λe:g=f=>hk (h.symm.trans e))]
   ·have hb:(g == k)=false:=beq_eq_false_iff_ne.mpr h
    simp only[List.lookup,hb]
    exact ih
theorem j9 (f:Str) (v:V):∀fs:List (Str×V),f∈(vP f v fs).map (·.1)/\∀g,g∈fs.map (·.1)->g∈(vP f v fs).map (·.1)
 | []=>⟨by simp[vP],λg h=>by simp at h⟩
 | (k,x)::r=>by
  obtain⟨i1,i2⟩:=j9 f v r
  rw[show vP f v ((k,x)::r)=(if k=f then(k,v)::r else(k,x)::vP f v r)from rfl]
  by_cases hk:k=f
  ·rw[if_pos hk]
   subst hk
   exact⟨by simp,λg h=>by simpa using h⟩
  ·rw[if_neg hk]
   refine⟨?_,λg h=>?_⟩
   ·rw[List.map_cons]
    exact List.mem_cons_of_mem _ i1
   ·rw[List.map_cons]at h ⊢
    rcases List.mem_cons.mp h with e | e
    ·exact List.mem_cons.mpr (.inl e)
    ·exact List.mem_cons_of_mem _ (i2 g e)
theorem Zk (f:Str) (v:V):∀fs:List (Str×V),(vP f v fs).length<=fs.length+1
 | []=>by simp[vP]
 | (k,x)::r=>by
  have ih:=Zk f v r
  rw[show vP f v ((k,x)::r)=(if k=f then(k,v)::r else(k,x)::vP f v r)from rfl]
  by_cases hk:k=f
  ·rw[if_pos hk,List.length_cons,List.length_cons];omega
  ·rw[if_neg hk,List.length_cons,List.length_cons];omega
theorem Qs.some_of {v:V}{o:Option Value}(r:Qs (some v) o):∃u,o=some u/\xg v u:=by
 cases o with
 | none=>exact(show False from r).elim
 | some u=>exact⟨u,rfl,r⟩
theorem VP {v:V}{u:Value}(r:xg v u):PySem.W.handedIn u=true:=by
 cases v with
 | non=>cases(show u=Value.none from r);rfl
 | bl b=>cases(show u=Value.bool b from r);rfl
 | int i=>obtain⟨t,e⟩:=(show ∃t,u=Value.int i t from r);cases e;rfl
 | str x=>obtain⟨t,e⟩:=(show ∃t,u=Value.str x t from r);cases e;rfl
 | byt b=>obtain⟨t,e⟩:=(show ∃t,u=Value.bytes b t from r);cases e;rfl
 | flt b=>obtain⟨t,e⟩:=(show ∃t,u=Value.float b t from r);cases e;rfl
 | ref a=>cases(show u=Value.ref a from r);rfl
 | ty n=>cases(show u=Value.type n from r);rfl
section
variable {P:Program}{w:World}{H H':Hp}{h h':Heap}{a C dx:Addr}{fs fs':List (Str×V)}
theorem Xt (hok:HOk P w H h) (e:H a=some (.ins C dx fs)):∃mA,VE h a dx C mA/\(∀f,Qs (fs.lookup f) (mA f))/\PySem.Within mA (fs.map (·.1))/\fs.length<=1000/\H dx=some (.own a):=by
 obtain⟨d,z,ne,ob,mA,n,r,q⟩:=(show xF P w H h a (.ins C dx fs)from hok a _ e)
 exact⟨mA,⟨ob,n,ne⟩,r,q,z,d⟩
end
structure Cls (K:PySem.W.Frag) (C:Addr):Prop where
 pg:PySem.W.plainGet K C Str.empty=true
 hd:PySem.W.hasDictIn K C=true
 po:PySem.W.plainOver K C=true
 sa:PySem.W.findIn K (.ref C) "__setattr__" = some (some (.builtin "object.__setattr__"))
theorem Cls.get {K:PySem.W.Frag}{C:Addr}(c:Cls K C) (f:Str):PySem.W.plainGet K C f=true:=c.pg
def xO (K:PySem.W.Frag) (C:Addr) (f:Str):Prop:=PySem.W.findIn K (.ref C) f=some none
theorem xO.taker {K:PySem.W.Frag}{C:Addr}{f:Str}(n:xO K C f):PySem.W.takerIn K C f=some none:=by
 unfold PySem.W.takerIn
 rw[show PySem.W.findIn K (.ref C) f=some none from n]
 rfl
section
variable {X:Cx}{pins:List (Addr×Obj)}{σ:St}{H:Hp}{s:Shared}{a C dx:Addr}{fs:List (Str×V)}{f:Str}{v:V}{A:Around}{E:Value->Shared->Prop}
theorem QF {b:Bool}{Q:Value->Shared->Prop}(I:Inv X pins σ H s) (e:H a=some (.ins C dx fs)) (c:Cls X.K C) (n:xO X.K C f) (l:fs.lookup f=some v)
  (h:∀u s',Inv X pins σ H s'->xg v u->Q u s'):wpAny (model X.prog X.w) A (getAttr (.ref a) f b) Q E s:=by
 obtain⟨mA,O,r,_,_,_⟩:=Xt I.hok e
 obtain⟨u,hu,ru⟩:=Qs.some_of (v:=v) (o:=mA f) (by rw[<-l];exact r f)
 exact zaU I.kIn O (c.get f) c.hd n hu (VP ru) (h u _ (I.tok _) ru)
theorem QT {y:V}{u:Value}{Q:Unit->Shared->Prop}(I:Inv X pins σ H s) (e:H a=some (.ins C dx fs)) (c:Cls X.K C) (n:xO X.K C f) (hl:fs.length<1000) (ry:xg y u)
  (h:∀s',Inv X pins σ (upd H a (.ins C dx (vP f y fs))) s'->Q () s'):wpAny (model X.prog X.w) A (setAttr (.ref a) f u) Q E s:=by
 obtain⟨mA,O,r,wi,_,ho⟩:=Xt I.hok e
 have hz:(fs.map (·.1)).length<=sizeLine:=by rw[List.length_map,sizeLine_eq];omega
 refine zbx I.kIn O c.sa c.po n.taker c.hd wi hz λh' O' sb=>h _ ?_
 have hd:∃o,h'.get? dx=some o:=let ⟨o,_,_,e',_⟩:=O'.ns;⟨o,e'⟩
 refine I.write (x:=a) (e:=dx) (by rw[e];exact True.intro) (.inr ho) (λb q hb z=>(sb.2 b hb).trans z) hd ?_
 refine⟨by rw[zO O.ne];exact ho,?_,O.ne,O'.obj,_,O'.ns,λg=>?_,λg hg=>?_⟩
 ·have:=Zk f y fs;omega
 ·show Qs ((vP f y fs).lookup g) (if g=f then some u else mA g)
  rw[Zl]
  by_cases q:g=f
  ·rw[if_pos q,if_pos q];exact ry
  ·rw[if_neg q,if_neg q];exact r g
 ·by_cases q:g=f
  ·rw[q];exact(j9 f y fs).1
  ·refine(j9 f y fs).2 g (wi g λz=>hg ?_)
   show (if g=f then some u else mA g)=none
   rw[if_neg q];exact z
theorem Inv.made (I:Inv X pins σ H s):Inv X pins σ (upd (upd H s.heap.objs.size (.own (s.heap.objs.size+1))) (s.heap.objs.size+1) (.ins C s.heap.objs.size []))
  { s with heap:=(s.heap.push PySem.W.emptyDict).push (PySem.W.instObj C s.heap.objs.size) }:=by
 have e1:(s.heap.push PySem.W.emptyDict).get? s.heap.objs.size=some PySem.W.emptyDict:=Heap.get?_push_size s.heap rfl
 have e2:((s.heap.push PySem.W.emptyDict).push (PySem.W.instObj C s.heap.objs.size)).get? (s.heap.objs.size+1)=some (PySem.W.instObj C s.heap.objs.size):=by
  have:=Heap.get?_push_size (s.heap.push PySem.W.emptyDict) (o:=PySem.W.instObj C s.heap.objs.size) rfl
  rwa [Heap.size_push]at this
 have e3:(s.heap.push PySem.W.emptyDict).Ns s.heap.objs.size (λ_=>none):=⟨PySem.W.emptyDict,#[],_,e1,rfl,(λe he=>absurd he (by simp)),λ_=>rfl⟩
 have I1:=I.laid (a:=s.heap.objs.size) (o:=.own (s.heap.objs.size+1)) (h':=s.heap.push PySem.W.emptyDict) (t':=s.toks) (λb u q=>Heap.get?_push_of_some _ q) (Nat.le_refl _) ⟨_,e1⟩
 refine I1.laid (a:=s.heap.objs.size+1) (o:=.ins C s.heap.objs.size []) (t':=s.toks) (λb u q=>Heap.get?_push_of_some _ q) (Nat.le_of_eq (Heap.size_push _ _)) ?_
 have ne:s.heap.objs.size≠s.heap.objs.size+1:=Nat.ne_of_lt (Nat.lt_succ_self _)
 refine⟨by rw[zO ne,zj],Nat.zero_le _,ne,e2,λ_=>none,(Heap.Ns1.of_empty e3).at λo q=>Heap.get?_push_of_some _ q,λ_=>True.intro,λy hy=>absurd rfl hy⟩
theorem zaI {prog:Program}{w:World}{env:Env}{e:Expr}{f:Str}{pos:Pos}{s:Shared}{Q:Value->Shared->Prop}(hb:attributeBase e f env (eval e env)=eval e env)
  (h:wpAny (model prog w) A (eval e env) (λo s₁=>wpAny (model prog w) A (getAttr o f true) Q E s₁) E s):wpAny (model prog w) A (eval (.Attribute e f pos) env) Q E s :=
 Attribute_any_ h (by rw[arm_eval_Attribute,hb])
end
def zet (K:PySem.W.Frag) (ta:TE) (f:Str):TE:=λσ H Q=>ta σ H λx H1=>∃a C dx fs v,x = .ref a/\H1 a=some (.ins C dx fs)/\Cls K C/\xO K C f/\fs.lookup f=some v/\Q v H1
def zdd (K:PySem.W.Frag) (ta tv:TE) (f:Str):TS:=λD σ H=>tv σ H λy H1=>ta σ H1 λx H2=>∃a C dx fs,x = .ref a/\H2 a=some (.ins C dx fs)/\Cls K C/\xO K C f/\fs.length<1000 ∧
 D.nx σ (upd H2 a (.ins C dx (vP f y fs)))
section
variable {X:Cx}{o e value:Expr}{f:Str}{pos pos' tpos:Pos}{ta tv:TE}
theorem qK (he:PE X e ta) (hb:attributeBase e f X.env (eval e X.env)=eval e X.env):PE X (.Attribute e f pos) (zet X.K ta f):=by
 intro pins s σ H Q I h
 refine zaI hb (thn (he pins s σ H _ I h) λu s1 ⟨x,H1,I1,rx,a,C,dx,fs,v,ex,ea,c,n,l,q⟩=>?_)
 subst ex
 obtain rfl:u=Value.ref a:=rx
 exact QF I1 ea c n l λu' s2 I2 ru=>⟨v,H1,I2,ru,q⟩
theorem jM (ha:PE X o ta) (hv:PE X value tv) (hs:swapsWith value (some (.Attribute o f pos')) pos.line X.env=pure false):PS X (.Assign [.Attribute o f pos'] value pos) (zdd X.K ta tv f):=by
 intro pins s σ H D I h
 refine plainObj_wpAny_Assign_Attribute (thn (hv pins s σ H _ I h) λu s1 ⟨y,H1,I1,ry,q⟩=>thn (ha pins s1 σ H1 _ I1 q) λov s2 ⟨x,H2,I2,rx,a,C,dx,fs,ex,ea,c,n,l,q2⟩=>?_) hs
 subst ex
 obtain rfl:ov=Value.ref a:=rx
 exact QT I2 ea c n l ry λs3 I3=>⟨σ,_,I3,q2⟩
end
section
variable {X:Cx}{pins:List (Addr×Obj)}{σ:St}{H:Hp}{s:Shared}{A:Around}{E:Value->Shared->Prop}{Q:Value->Shared->Prop}{c:Value}{b:Bool}
inductive j7 (K:PySem.W.Frag) (H:Hp):V->Value->Prop where
 | non:j7 K H .non (.type "NoneType")
 | bl (x:Bool):j7 K H (.bl x) (.type "bool")
 | int (i:Int):j7 K H (.int i) (.type "int")
 | str (x:Str):j7 K H (.str x) (.type "str")
 | flt (x:UInt64):j7 K H (.flt x) (.type "float")
 | lst {a:Addr}{xs:List V}(e:H a=some (.lst xs)):j7 K H (.ref a) (.type "list")
 | frz {a:Addr}{o:Obj}{xs:List V}(e:H a=some (.frz o (.lst xs))):j7 K H (.ref a) (.type "list")
 | tup {a:Addr}{xs:List V}(e:H a=some (.tup xs)):j7 K H (.ref a) (.type "tuple")
 | dK {a:Addr}{kvs:List (Key×V)} (e:H a=some (.dK kvs)):j7 K H (.ref a) (.type "dict")
 | dT {a:Addr}{kvs:List (List Key×V)} (e:H a=some (.dT kvs)):j7 K H (.ref a) (.type "dict")
 | ins {a C dx:Addr}{fs:List (Str×V)} (e:H a=some (.ins C dx fs)) (cl:Cls K C) (ha:PySem.W.findIn K (.ref C) "__class__" = some (some (.builtin "object.__class__")))
   (hn:PySem.W.specialIn K (.builtin "object.__class__") "__get__" = some (some (.builtin "getset_descriptor.__get__"))) (htk:PySem.W.takesIn K (.builtin "object.__class__")=some true)
   (hm:PySem.W.mroIn K C (.type "object")=some true):j7 K H (.ref a) (.ref C)
theorem VS {x:V}{u t:Value}(I:Inv X pins σ H s) (rx:xg x u) (ty:j7 X.K H x t) (e:PySem.W.kitOne X.K t c=some b) (h:∀tk,Q (.bool b) { s with toks:=tk }) :
  wpAny (model X.prog X.w) A (call (.builtin "isinstance") [u,c]) Q E s:=by
 cases ty with
 | non=>cases(show u=Value.none from rx);exact PySem.W.kia_one PySem.W.kitx_none I.kIn True.intro e (λz=>nomatch z) h
 | bl y=>cases(show u=Value.bool y from rx);exact PySem.W.kia_one PySem.W.kitx_bool I.kIn True.intro e (λz=>nomatch z) h
 | int i=>obtain⟨t,q⟩:=(show ∃t,u=Value.int i t from rx);cases q;exact PySem.W.kia_one PySem.W.kitx_int I.kIn True.intro e (λz=>nomatch z) h
 | str y=>obtain⟨t,q⟩:=(show ∃t,u=Value.str y t from rx);cases q;exact PySem.W.kia_one PySem.W.kitx_str I.kIn True.intro e (λz=>nomatch z) h
 | flt y=>obtain⟨t,q⟩:=(show ∃t,u=Value.float y t from rx);cases q;exact PySem.W.kia_one PySem.W.kitx_float I.kIn True.intro e (λz=>nomatch z) h
 | @lst a xs ea =>
  cases(show u=Value.ref a from rx)
  obtain⟨_,_,n,_,h1⟩:=(show xF X.prog X.w H s.heap a (.lst xs)from I.hok a _ ea)
  exact PySem.W.kia_one PySem.W.kitx_list I.kIn ⟨_,h1,rfl⟩ e (λz=>nomatch z) h
 | @frz a ob xs ea =>
  cases(show u=Value.ref a from rx)
  obtain⟨_,_,_,n,_,h1⟩:=(show xF X.prog X.w H s.heap a (.frz ob (.lst xs))from I.hok a _ ea)
  exact PySem.W.kia_one PySem.W.kitx_list I.kIn ⟨_,h1,rfl⟩ e (λz=>nomatch z) h
 | @tup a xs ea =>
  cases(show u=Value.ref a from rx)
  obtain⟨_,_,_,p⟩:=(show xF X.prog X.w H s.heap a (.tup xs)from I.hok a _ ea)
  obtain⟨o,h1,h2,_⟩:=p
  exact PySem.W.kia_one PySem.W.kitx_tuple I.kIn ⟨o,h1,h2⟩ e (λz=>nomatch z) h
 | @dK a kvs ea =>
  cases(show u=Value.ref a from rx)
  obtain⟨_,_,vs,_,p⟩:=(show xF X.prog X.w H s.heap a (.dK kvs)from I.hok a _ ea)
  obtain⟨o,es,ep,h1,h2,_⟩:=p
  exact PySem.W.kia_one PySem.W.kitx_dict I.kIn ⟨o,h1,h2.1⟩ e (λz=>nomatch z) h
 | @dT a kvs ea =>
  cases(show u=Value.ref a from rx)
  obtain⟨_,_,xs,_,o,es,ep,h1,h2,_⟩:=(show xF X.prog X.w H s.heap a (.dT kvs)from I.hok a _ ea)
  exact PySem.W.kia_one PySem.W.kitx_dict I.kIn ⟨o,h1,h2.1⟩ e (λz=>nomatch z) h
 | @ins a C dx fs ea cl ha hn htk hm =>
  cases(show u=Value.ref a from rx)
  obtain⟨mA,O,_⟩:=Xt I.hok ea
  obtain⟨od,J,_⟩:=O.look
  exact PySem.W.kia_one (PySem.W.kitx_own (cl.get _) cl.hd ha hn htk hm) I.kIn J e (λz=>nomatch z) h
end
end L2
namespace L2
open PySem PySem.Spec PyProof.Rows
structure zX (k:Nat) (A:Around):Prop where
 hd:A.handled=none
 dp:A.depth+3*k+5<recursionLimit
 un:A.units+16*k+200<cLine
theorem zX.mono {j k:Nat}{A:Around}(r:zX k A) (h:j<=k):zX j A:=⟨r.hd,by have:=r.dp;omega,by have:=r.un;omega⟩
theorem zX.deeper {k:Nat}{A:Around}(r:zX (k+1) A) (env:Env):zX k (A.deeper env) :=
 ⟨r.hd,by have:=r.dp;show A.depth+1+3*k+5<_;omega,by have:=r.un;show A.units+3+16*k+200<_;omega⟩
theorem QJ {A:Around}{C:Addr}{us:List Value}{kw:List (Str×Value)}:(A.under (.builtin "type.__call__" ⟨.ref C::us,kw⟩)).depth=A.depth+1:=by
 first | rfl | simp[Around.under,Code.weight,Code.isCreation,Code.isGuard,Code.isCaller,Code.frames,Code.isFrame,guardIds]
theorem QK {A:Around}{C:Addr}{us:List Value}{kw:List (Str×Value)}:(A.under (.builtin "type.__call__" ⟨.ref C::us,kw⟩)).units=A.units+1:=by
 first | rfl | simp[Around.under,Code.cUnits,Code.frames,Code.isFrame]
theorem zX.make {k:Nat}{A:Around}(r:zX (k+1) A) (C:Addr) (us:List Value) (kw:List (Str×Value)):zX k (A.under (.builtin "type.__call__" ⟨.ref C::us,kw⟩)) :=
 ⟨r.hd,by have:=r.dp;rw[QJ];omega,by have:=r.un;rw[QK];omega⟩
theorem zX.depth {k:Nat}{A:Around}(r:zX k A):A.depth<recursionLimit:=by have:=r.dp;omega
theorem zX.units {k:Nat}{A:Around}(r:zX k A):A.units+64<cLine:=by have:=r.un;omega
def jh:TA:=λ_ H Q=>Q [] H
def xr (ta:TE) (tr:TA):TA:=λσ H Q=>ta σ H λx H1=>tr σ H1 λxs H2=>Q (x::xs) H2
section
variable {X:Cx}{e:Expr}{es:List Expr}{te:TE}{t:TA}{pos:Pos}
theorem ze:PA X [] jh:=λ_ _ _ _ H Q I h=>Calls.spliced_nil ⟨[],H,I,.nil,h⟩
theorem za (ha:PE X e te) (hr:PA X es t) (hs:starEach (e::es) X.env=(false,eval e X.env)::starEach es X.env:=by rfl):PA X (e::es) (xr te t):=by
 intro pos pins s σ H Q I h
 rw[hs]
 show wpAny _ _ (spliced ((false,eval e X.env)::backTo pos (starEach es X.env))) _ _ s
 refine Calls.spliced_cons (thn (ha pins s σ H _ I h) λu s1 ⟨x,H1,I1,r1,q1⟩=>?_)
 exact thn (hr pos pins s1 σ H1 _ I1 q1) λus s2 ⟨xs,H2,I2,r2,q2⟩=>⟨x::xs,H2,I2,.cons r1 r2,q2⟩
def zau (t:TA):TE:=λσ H Q=>t σ H λxs H1=>xs.length<=sizeLine/\∀p,H1 p=none->Q (.ref p) (upd H1 p (.tup xs))
def zeu (t:TA):TE:=λσ H Q=>t σ H λxs H1=>xs.length<=sizeLine/\∀p,H1 p=none->Q (.ref p) (upd H1 p (.lst xs))
theorem zL {x1} (h:PA X es t):PE X (.Tuple es x1 pos) (zau t):=by
 intro pins s σ H Q I hq
 refine wpAny_Tuple_spliced (thn (h pos pins s σ H _ I hq) λus s1 ⟨xs,H1,I1,r,z,q⟩=>⟨by rw[<-r.length];exact z,?_⟩)
 have hf:H1 s1.heap.objs.size=none:=I1.hok.fresh (Nat.le_refl _)
 refine⟨.ref s1.heap.objs.size,upd H1 s1.heap.objs.size (.tup xs),I1.laid (t':=s1.toks) (λb u e=>Heap.get?_push_of_some _ e) (Nat.le_refl _) ?_,rfl,q _ hf⟩
 exact⟨z,us,r,⟨_,Heap.get?_push_size _ rfl,rfl,_,rfl⟩⟩
theorem xl (h:PA X es t):PE X (.List es pos) (zeu t):=by
 intro pins s σ H Q I hq
 refine wpAny_List_spliced (thn (h pos pins s σ H _ I hq) λus s1 ⟨xs,H1,I1,r,z,q⟩=>⟨by rw[<-r.length];exact z,?_⟩)
 have hf:H1 s1.heap.objs.size=none:=I1.hok.fresh (Nat.le_refl _)
 refine⟨.ref s1.heap.objs.size,upd H1 s1.heap.objs.size (.lst xs),I1.laid (t':=s1.toks) (λb u e=>Heap.get?_push_of_some _ e) (Nat.le_refl _) ?_,rfl,q _ hf⟩
 exact⟨z,us,0,r,Heap.get?_push_size _ rfl⟩
end
abbrev Sp:=List V->Hp->VK->XK->Prop
abbrev CXT:=List Env->Hp->Shared->XK->Value->Shared->Prop
structure Qr (P:Program) (w:World) (K:PySem.W.Frag) (mg:Str->Option Value) (base:Heap) (A:Around) (outer:List Env) (s:Shared) (H:Hp):Prop where
 frames:A.frames=some outer
 mod:Mod K mg base
 bs:∀b o,base.get? b=some o->s.heap.get? b=some o/\H b=none
 bsz:base.objs.size<=s.heap.objs.size
 funs:s.heap.FunFrames base outer
 frf:∀b∈frs outer,H b=none
 hok:HOk P w H s.heap
 bare:AllBare s.gens
def CE (outer:List Env) (P:Program) (w:World) (H:Hp) (s:Shared) (Q:VK) (u:Value) (s':Shared):Prop :=
 ∃v H',s'.os=s.os/\AllBare s'.gens/\Un (frs outer) [] H H' s.heap s'.heap/\HOk P w H' s'.heap/\xg v u/\Q v H'
def CR (CX:CXT) (outer:List Env) (P:Program) (w:World) (H:Hp) (s:Shared) (Q:VK) (E:XK) (r:Result) (s':Shared):Prop :=
 match r with
 | .ok (.ret u)=>CE outer P w H s Q u s'
 | .ok _=>False
 | .error e=>CX outer H s E e s'
structure jH (P:Program) (w:World) (K:PySem.W.Frag) (mg:Str->Option Value) (base:Heap) (CX:CXT) (k:Nat) (f:Addr) (fd:FuncData) (ps:List Str) (sp:Sp):Prop where
 len:∀vs H Q E,sp vs H Q E->vs.length=ps.length
 run:∀(A:Around) (outer:List Env) (s:Shared) (H:Hp) (args:Args) (us:List Value) (vs:List V) (Q:VK) (E:XK),zX k A->Qr P w K mg base A outer s H->BindsTo s fd args (ps.zip us)->zP vs us->sp vs H Q E →
  codeAny (model P w) A (.call (.ref f) args) (CR CX outer P w H s Q E) s
theorem Qr.make {P:Program}{w:World}{K:PySem.W.Frag}{mg:Str->Option Value}{base:Heap}{A:Around}{outer:List Env}{s:Shared}{H:Hp}(e:Qr P w K mg base A outer s H) (C:Addr) (us:List Value) (kw:List (Str×Value)) :
  Qr P w K mg base (A.under (.builtin "type.__call__" ⟨.ref C::us,kw⟩)) outer s H:=⟨by first | exact e.frames | (simpa [Around.under,Code.envs,Code.isFrame,pushEnvs]using e.frames),e.mod,e.bs,e.bsz,e.funs,e.frf,e.hok,e.bare⟩
section
variable {X:Cx}{pins:List (Addr×Obj)}{σ:St}{H:Hp}{s s':Shared}
theorem Inv.env0 (I:Inv X pins σ H s):Qr X.prog X.w X.K X.mg X.base X.A X.stack s H :=
 ⟨I.ok.frames,I.ok.mod,I.bs,Nat.le_trans I.ok.bsz I.sz,I.stack,I.stkFree,I.hok,I.bare⟩
theorem Inv.after {Q:VK}{u:Value}(I:Inv X pins σ H s) (h:CE X.stack X.prog X.w H s Q u s'):EP X pins σ Q u s':=by
 obtain⟨v,H',os,bare,un,hok,r,q⟩:=h
 obtain⟨hh,g,d,t,os'⟩:=s'
 obtain rfl:os'=s.os:=os
 exact⟨v,H',I.call (h':=hh) (g':=g) (d':=d) (t':=t) (ch:=[]) un hok bare (λb z=>absurd z (by simp)),r,q⟩
end
def jt (sp:Sp) (dvs:List V) (E:XK) (t:TA):TE:=λσ H Q=>t σ H λvs H1=>sp (vs++dvs) H1 Q E
def zev (C:Addr) (sp:Sp) (dvs:List V) (E:XK) (t:TA):TE:=λσ H Q=>t σ H λvs H1=>∀x dx,H1 x=none->H1 dx=none->dx≠x →
 sp (.ref x::(vs++dvs)) (upd (upd H1 dx (.own x)) x (.ins C dx [])) (λv H2=>v = .non/\Q (.ref x) H2) E
def jf (K:PySem.W.Frag) (fd:FuncData) (ps:List Str) (ds:List Value):Prop :=
 ∀(s:Shared) (us:List Value),K.In s.heap->(us++ds).length=ps.length->BindsTo s fd ⟨us,[]⟩ (ps.zip (us++ds))
theorem jf.all {K:PySem.W.Frag}{fd:FuncData}{ps:List Str}(h:∀us:List Value,us.length=ps.length->bindArgs fd ⟨us,[]⟩=pure (ps.zip us)):jf K fd ps []:=λs us _ hl=>by
 rw[List.append_nil]at hl ⊢
 exact .of_eq (h us hl)
def ZA (CX:CXT) (X:Cx) (E:XK):Prop:=∀(pins:List (Addr×Obj)) (σ:St) (H:Hp) (s:Shared) (e:Value) (s':Shared),Inv X pins σ H s->CX X.stack H s E e s'->X.xe e s'
section
variable {X:Cx}{CX:CXT}{k:Nat}{f C:Addr}{fd:FuncData}{ps:List Str}{sp:Sp}{dvs:List V}{ds:List Value}{E:XK}{x m:Str}{p pos apos:Pos}{e o:Expr}{es:List Expr}{ta:TE}{t:TA}
theorem zdc {pins:List (Addr×Obj)}{σ:St}{H:Hp}{s:Shared}{Q:VK}{us:List Value}{vs:List V}(F:jH X.prog X.w X.K X.mg X.base CX k f fd ps sp) (hr:zX k X.A) (hb:jf X.K fd ps ds) (hd:zP dvs ds) (hx:ZA CX X E)
  (I:Inv X pins σ H s) (r:zP vs us) (h:sp (vs++dvs) H Q E):wpAny (model X.prog X.w) X.A (call (.ref f) us) (EP X pins σ Q) X.xe s:=by
 have r2:zP (vs++dvs) (us++ds):=r.append hd
 have hl:(us++ds).length=ps.length:=by rw[<-r2.length];exact F.len _ _ _ _ h
 refine wpAny_call (codeAny_mono (F.run X.A X.stack s H ⟨us,[]⟩ (us++ds) (vs++dvs) Q E hr I.env0 (hb s us I.kIn hl) r2 h) λr s' hq=>?_)
 cases r with
 | error e=>exact hx pins σ H s e s' I hq
 | ok fl =>
  cases fl with
  | ret u=>exact I.after hq
  | next=>exact False.elim hq
  | brk=>exact False.elim hq
  | cont=>exact False.elim hq
theorem zbj (F:jH X.prog X.w X.K X.mg X.base CX k f fd ps sp) (hr:zX k X.A) (hg:Gl X x) (hm:X.mg x=some (.ref f)) (hk:PySem.W.keepIn X.K (.ref f)=true) (hb:jf X.K fd ps ds) (hd:zP dvs ds) (hx:ZA CX X E)
  (ha:PA X (e::es) t) (hdb:(x == ("__debug__":Str))=false:=by decide) (he:starEach (e::es) X.env=(false,eval e X.env)::starEach es X.env:=by rfl) (hpl:(backTo pos (starEach es X.env)).any (·.1)=false:=by rfl) :
  PE X (.Call (.Name x p) (e::es) [] pos) (jt sp dvs E t):=by
 intro pins s σ H Q I h
 refine wpAny_Call_Name_kw (jy I hg hm ?_ hdb)
 refine PySem.W.callWith_K (h₀:=X.base) I.ok.mod.kin hk (thn (ha pos pins s σ H _ I h) λus s1 ⟨vs,H1,I1,r,q⟩=>⟨I1.kIn,?_⟩) he hpl
 exact zdc F hr hb hd hx I1 r q
structure Mk (K:PySem.W.Frag) (C f:Addr):Prop where
 makes:PySem.W.makesIn K C=true
 init:PySem.W.findIn K (.ref C) "__init__" = some (some (.ref f))
 fn:PySem.W.isFn K (.ref f)=true
 kp:PySem.W.keepIn K (.ref C)=true
theorem J8 {pins:List (Addr×Obj)}{σ:St}{H:Hp}{s:Shared}{Q:VK}{us:List Value}{vs:List V}(M:Mk X.K C f) (F:jH X.prog X.w X.K X.mg X.base CX k f fd ps sp) (hr:zX (k+1) X.A) (hb:jf X.K fd ps ds) (hd:zP dvs ds)
  (hx:ZA CX X E) (I:Inv X pins σ H s) (r:zP vs us)
  (h:∀x dx,H x=none->H dx=none->dx≠x->sp (.ref x::(vs++dvs)) (upd (upd H dx (.own x)) x (.ins C dx [])) (λv H2=>v = .non/\Q (.ref x) H2) E) :
  wpAny (model X.prog X.w) X.A (call (.ref C) us) (EP X pins σ Q) X.xe s:=by
 have hq:=h (s.heap.objs.size+1) s.heap.objs.size (I.hok.fresh (Nat.le_succ _)) (I.hok.fresh (Nat.le_refl _)) (Nat.ne_of_lt (Nat.lt_succ_self _))
 have I2:=Inv.made (C:=C) I
 have r2:zP (V.ref (s.heap.objs.size+1)::(vs++dvs)) (Value.ref (s.heap.objs.size+1)::(us++ds)):=.cons rfl (r.append hd)
 have hl:(Value.ref (s.heap.objs.size+1)::us++ds).length=ps.length:=by
  have e:=r2.length
  rw[F.len _ _ _ _ hq]at e
  exact e.symm
 refine wpAny_call (JM (f:=f) I.kIn M.makes M.init (beq_iff_eq.mp M.fn) (codeAny_mono (F.run _ X.stack _ _ ⟨Value.ref (s.heap.objs.size+1)::us,[]⟩ (Value.ref (s.heap.objs.size+1)::(us++ds)) _ _ E (hr.make C us [])
  (I2.env0.make C us []) (hb _ (Value.ref (s.heap.objs.size+1)::us) I2.kIn hl) r2 hq) λr s' hq'=>?_))
 cases r with
 | error e=>exact hx pins σ _ _ e s' I2 hq'
 | ok fl =>
  cases fl with
  | ret u =>
   obtain⟨v,H',I3,rv,ev,q3⟩:=I2.after hq'
   subst ev
   exact⟨rv,⟨V.ref (s.heap.objs.size+1),H',I3,rfl,q3⟩⟩
  | next=>exact False.elim hq'
  | brk=>exact False.elim hq'
  | cont=>exact False.elim hq'
theorem zbl (M:Mk X.K C f) (F:jH X.prog X.w X.K X.mg X.base CX k f fd ps sp) (hr:zX (k+1) X.A) (hg:Gl X x) (hm:X.mg x=some (.ref C)) (hb:jf X.K fd ps ds) (hd:zP dvs ds) (hx:ZA CX X E)
  (ha:PA X (e::es) t) (hdb:(x == ("__debug__":Str))=false:=by decide) (he:starEach (e::es) X.env=(false,eval e X.env)::starEach es X.env:=by rfl) (hpl:(backTo pos (starEach es X.env)).any (·.1)=false:=by rfl) :
  PE X (.Call (.Name x p) (e::es) [] pos) (zev C sp dvs E t):=by
 intro pins s σ H Q I h
 refine wpAny_Call_Name_kw (jy I hg hm ?_ hdb)
 refine PySem.W.callWith_K (h₀:=X.base) I.ok.mod.kin M.kp (thn (ha pos pins s σ H _ I h) λus s1 ⟨vs,H1,I1,r,q⟩=>⟨I1.kIn,?_⟩) he hpl
 exact J8 M F hr hb hd hx I1 r q
end
structure zB (N P:List Str) (sc:Scope):Prop where
 kind:sc.kind = .function
 co:sc.isCoroutine=false
 gen:sc.isGenerator=false
 nd:N.Nodup
 pre:N.take P.length=P
 par:∀x∈P,sc.names.lookup x=some .local ∨ sc.names.lookup x=some .cell
 nofree:∀y∈sc.names,y.2≠.free
theorem Xa {kindOf:Str->Option NameKind}{x:Str}:∀{binds:List (Str×Value)}{m:Str->Option Value},(∀v,(x,v)∉binds)->bindL kindOf binds m x=m x
 | [],_,_=>rfl
 | (n,v)::r,m,h=>by
  unfold bindL
  rw[Xa λw hw=>h w (List.mem_cons_of_mem _ hw)]
  split
  ·have:x≠n:=by rintro rfl;exact h v List.mem_cons_self
   simp[this]
  ·rfl
theorem Z8 {kindOf:Str->Option NameKind}{x:Str}:∀{binds:List (Str×Value)}{m:Str->Option Value},(∀v,(x,v)∉binds)->bindC kindOf binds m x=m x
 | [],_,_=>rfl
 | (n,v)::r,m,h=>by
  unfold bindC
  rw[Z8 λw hw=>h w (List.mem_cons_of_mem _ hw)]
  split
  ·rfl
  ·have:x≠n:=by rintro rfl;exact h v List.mem_cons_self
   simp[this]
theorem Z9 {kindOf:Str->Option NameKind}{x:Str}{v:Value}:∀{P:List Str}{vs:List Value}{i:Nat}{m:Str->Option Value},P.Nodup->P[i]? = some x->vs[i]? = some v->kindOf x=some .local →
  bindL kindOf (P.zip vs) m x=some v
 | [],_,_,_,_,h,_,_=>by simp at h
 | _::_,[],_,_,_,_,h,_=>by simp at h
 | p::P,w::vs,0,m,nd,h1,h2,hk=>by
  simp at h1 h2;subst h1;subst h2
  show bindL kindOf ((p,w)::P.zip vs) m p=_
  unfold bindL
  rw[Xa λv hv=>(List.nodup_cons.mp nd).1 (List.of_mem_zip hv).1,if_pos hk]
  simp
 | p::P,w::vs,i+1,m,nd,h1,h2,hk=>by
  show bindL kindOf ((p,w)::P.zip vs) m x=_
  unfold bindL
  exact Z9 (i:=i) (List.nodup_cons.mp nd).2 (by simpa using h1) (by simpa using h2) hk
theorem Z7 {kindOf:Str->Option NameKind}{x:Str}{v:Value}:∀{P:List Str}{vs:List Value}{i:Nat}{m:Str->Option Value},P.Nodup->P[i]? = some x->vs[i]? = some v->kindOf x≠some .local →
  bindC kindOf (P.zip vs) m x=some v
 | [],_,_,_,_,h,_,_=>by simp at h
 | _::_,[],_,_,_,_,h,_=>by simp at h
 | p::P,w::vs,0,m,nd,h1,h2,hk=>by
  simp at h1 h2;subst h1;subst h2
  show bindC kindOf ((p,w)::P.zip vs) m p=_
  unfold bindC
  rw[Z8 λv hv=>(List.nodup_cons.mp nd).1 (List.of_mem_zip hv).1,if_neg hk]
  simp
 | p::P,w::vs,i+1,m,nd,h1,h2,hk=>by
  show bindC kindOf ((p,w)::P.zip vs) m x=_
  unfold bindC
  exact Z7 (i:=i) (List.nodup_cons.mp nd).2 (by simpa using h1) (by simpa using h2) hk
def jq (N:List Str) (vs:List V):St:=vs.map some++List.replicate (N.length - vs.length) none
def jI (CX:CXT) (P:Program) (w:World) (K:PySem.W.Frag) (mg:Str->Option Value) (base:Heap) (N:List Str) (qual:Str) (scope:Scope) (f:Addr) (cd:Value) (A:Around) (outer:List Env) (s:Shared) (H:Hp) (E:XK):Cx where
 prog:=P
 w:=w
 K:=K
 mg:=mg
 base:=base
 A:=A.deeper (envOfC qual scope s.heap.objs.size f cd)
 N:=N
 s₀:=s
 H₀:=H
 env:=envOfC qual scope s.heap.objs.size f cd
 outer:=outer
 stack:=envOfC qual scope s.heap.objs.size f cd::outer
 ex:=[]
 calm:=true
 fn:=λ_=>true
 pn:=[]
 xe:=λe s'=>wpAny (model P w) (A.deeper (envOfC qual scope s.heap.objs.size f cd)) (leaving (envOfC qual scope s.heap.objs.size f cd) e) (λ_ s''=>CX outer H s E e s'') (λe' s''=>CX outer H s E e' s'') s'
theorem XX {sc:Scope}{n:Nat}{x:Str}(h:sc.names.lookup x=some .cell):∃c,(cellsFrom n sc.names []).lookup x=some c:=by
 have q:=PySem.W.cellsFrom_some sc.names n [] (.inl h)
 exact Option.isSome_iff_exists.mp q
theorem VR {CX:CXT}{P:Program}{w:World}{K:PySem.W.Frag}{mg:Str->Option Value}{base:Heap}{N ps:List Str}{qual:Str}{scope:Scope}{f:Addr}{cd:Value}{A:Around}{outer:List Env}{s s1:Shared}{H:Hp}{E:XK}{us:List Value}{vs:List V}
  (S:zB N ps scope) (hd:A.handled=none) (e0:Qr P w K mg base A outer s H) (hl:vs.length=ps.length) (r:zP vs us)
  (x:InCallC s s.heap.objs.size (bindL (envOfC qual scope s.heap.objs.size f cd).kindOf (ps.zip us) λ_=>none) (cellsFrom (s.heap.objs.size+1) scope.names []) (bindC (envOfC qual scope s.heap.objs.size f cd).kindOf (ps.zip us) λ_=>none) s1) :
  Inv (jI CX P w K mg base N qual scope f cd A outer s H E) [] (jq N vs) H s1:=by
 have hpl:ps.length<=N.length:=by have:=congrArg List.length S.pre;rw[List.length_take]at this;omega
 obtain⟨h1,tk,rfl,hk⟩:=x.done
 have noA:∀b:Addr,b∉(jI CX P w K mg base N qual scope f cd A outer s H E).ex:=λb z=>absurd (show b∈([]:List Addr)from z) (by simp)
 refine⟨⟨e0.mod,S.kind,rfl,rfl,Nat.le_refl _,λy z c h1 h2=>?_,λy hy=>?_,λy c _ h=>?_,λ_=>hd,Around.frames_deeper e0.frames,.inr ⟨rfl,rfl⟩,λb z=>absurd z (noA b),e0.bs,e0.bsz,λb _ _=>noA b,λb z=>absurd z (noA b),e0.funs,e0.frf⟩,
  rfl,e0.bare,Un.kept hk,⟨_,x.toInCall.ns,λi y v h1 h2 h3=>?_⟩,λy c h=>⟨_,x.cell y c h⟩,e0.hok.fresh (Nat.le_refl _),λy c h=>?_,λp hp=>absurd (show p∈([]:List (Addr×Obj))from hp) (by simp),e0.hok.kept hk,?_⟩
 ·exact name_of_addr x.apart (PySem.mem_of_lookup h1) (PySem.mem_of_lookup h2)
 ·have hy:scope.names.lookup y=some .cell\/scope.names.lookup y=some .free:=hy
  rcases hy with hy | hy
  ·exact XX hy
  ·exact absurd rfl (S.nofree _ (PySem.mem_of_lookup hy))
 ·exact Nat.le_of_lt (x.above y c (PySem.mem_of_lookup h))
 ·have hi:i<vs.length:=by
   unfold jq at h2
   by_cases hi:i<vs.length
   ·exact hi
   ·rw[List.getElem?_append_right (by simpa using hi)]at h2
    rw[List.getElem?_replicate]at h2
    split at h2 <;> cases h2
  have ha:vs[i]? = some v:=by
   unfold jq at h2
   rw[List.getElem?_append_left (by simpa using hi),List.getElem?_map]at h2
   cases e:vs[i]? with
   | none=>rw[e]at h2;cases h2
   | some a=>rw[e]at h2;cases h2;rfl
  obtain⟨u,hu,rv⟩:=r.get ha
  have hp:ps[i]? = some y:=by
   rw[<-S.pre,List.getElem?_take_of_lt (by omega)];exact h1
  have ndP:ps.Nodup:=by rw[<-S.pre];exact S.nd.sublist (List.take_sublist _ _)
  refine⟨u,rv,?_⟩
  rcases S.par y (List.mem_of_getElem? hp)with k | k
  ·exact .inl ⟨k,Z9 ndP hp hu k⟩
  ·obtain⟨c,e⟩:=XX (n:=s.heap.objs.size+1) k
   refine .inr ⟨.inl k,c,e,?_⟩
   have q:=x.cell y c e
   rw[Z7 ndP hp hu (by show scope.names.lookup y≠_;rw[k];decide)]at q
   exact q
 ·exact e0.hok.fresh (Nat.le_of_lt (x.above y c (PySem.mem_of_lookup h)))
 ·unfold jq
  show _=N.length
  rw[List.length_append,List.length_map,List.length_replicate]
  omega
theorem JA {CX:CXT}{P:Program}{w:World}{K:PySem.W.Frag}{mg:Str->Option Value}{base:Heap}{k:Nat}{f:Addr}{name qual:Str}{params:Arguments}{body:List Stmt}{scope:Scope}{dV kV doc pm cdv ct oc:Value}{an od:Option Addr}
  {osl:Array (Option Value)}{N ps:List Str}{sp:Sp}(lk:K.lookup f=some ⟨oc,od,.func (PySem.W.fnOf name qual params body scope dV kV doc pm an cdv ct),osl⟩) (hcd:PySem.W.codeIn K cdv qual=true) (S:zB N ps scope)
  (len:∀vs H Q E,sp vs H Q E->vs.length=ps.length)
  (hbody:∀(A:Around) (outer:List Env) (s:Shared) (H:Hp) (vs:List V) (Q:VK) (E:XK),zX k (A.deeper (envOfC qual scope s.heap.objs.size f cdv))->sp vs H Q E →
   ∃t,PSs (jI CX P w K mg base N qual scope f cdv A outer s H E) body t/\t { nx:=λ_ H'=>Q .non H',rt:=Q } (jq N vs) H) :
  jH P w K mg base CX (k+1) f (PySem.W.fnOf name qual params body scope dV kV doc pm an cdv ct) ps sp:=by
 refine⟨len,λA outer s H args us vs Q E hr e0 hb r hsp=>?_⟩
 have hl:=len _ _ _ _ hsp
 have KX:K.In s.heap:=e0.mod.kin.keeps λb o e=>(e0.bs b o e).1
 have lim:s.heap.NoLimit:=e0.mod.nolimit.keeps λb o e=>(e0.bs b o e).1
 have hkind:∀y∈ps.zip us,scope.names.lookup y.1=some .local ∨ (scope.names.lookup y.1=some .cell/\((cellsFrom (s.heap.objs.size+1) scope.names []).lookup y.1).isSome=true):=λ⟨n,v⟩ hy=>by
  rcases S.par n (List.of_mem_zip hy).1 with q | q
  ·exact .inl q
  ·exact .inr ⟨q,PySem.W.cellsFrom_some _ _ _ (.inl q)⟩
 refine codeAny_call_function hr.depth (KX _ _ lk) rfl S.co S.gen rfl (PySem.W.codeRec_of KX hcd) (hb _ _ _ _ ?_)
 refine wpAny_newFunctionEnv_cells S.kind hkind λenv he s1 x=>?_
 subst he
 refine⟨lim.keeps x.toInCall.keep,codeAny_func ?_⟩
 obtain⟨t,ht,hq⟩:=hbody A outer s H vs Q E (hr.deeper _) hsp
 have I:Inv (jI CX P w K mg base N qual scope f cdv A outer s H E) [] (jq N vs) H s1:=VR S hr.hd e0 hl r x
 refine wpAny_mono (ht [] s1 (jq N vs) H _ I hq) (λfl s' hs=>?_) λe s' hs=>hs
 have fin:∀{σ':St}{H':Hp}{v:V}{u:Value},Inv (jI CX P w K mg base N qual scope f cdv A outer s H E) [] σ' H' s'->xg v u->Q v H'->CE outer P w H s Q u s' :=
  λ{σ' H' v u} J rv q=>⟨v,H',J.os,J.bare,J.base,J.hok,rv,q⟩
 cases fl with
 | ret u =>
  obtain⟨v,σ',H',J,rv,q⟩:=hs
  exact fin J rv q
 | next =>
  obtain⟨σ',H',J,q⟩:=hs
  exact fin (v:=V.non) (u:=Value.none) J rfl q
 | brk =>
  obtain⟨_,_,_,q⟩:=hs
  exact False.elim q
 | cont =>
  obtain⟨_,_,_,q⟩:=hs
  exact False.elim q
end L2
namespace L2
open PySem PySem.Spec PyProof.Rows
section
variable {X:Cx}{x:Str}{p pos:Pos}{e:Expr}{es:List Expr}{t:TA}{id T:String}{r:List V->Hp->VK->Prop}
def tCB (r:List V->Hp->VK->Prop) (t:TA):TE:=λσ H Q=>t σ H λvs H1=>r vs H1 Q
theorem zH (hc:vg X (.builtin id) r) (hg:Gl X x) (hm:X.mg x=none) (hv:bootBuiltins x=some (.builtin id)) (ha:PA X (e::es) t) (hn:x≠"__name__":=by decide) (hdb:(x == ("__debug__":Str))=false:=by decide)
  (he:starEach (e::es) X.env=(false,eval e X.env)::starEach es X.env:=by rfl) (hpl:(backTo pos (starEach es X.env)).any (·.1)=false:=by rfl):PE X (.Call (.Name x p) (e::es) [] pos) (tCB r t):=by
 intro pins s σ H Q I h
 refine wpAny_Call_Name_kw (Xv I hg hm hv ?_ hn hdb)
 exact PyProof.Rows.callWith_builtin1 (thn (ha pos pins s σ H _ I h) λus s1 ⟨vs,H1,I1,r1,q1⟩=>hc pins s1 σ H1 vs us Q I1 r1 q1) he hpl
theorem jA (hc:vg X (.type T) r) (hg:Gl X x) (hm:X.mg x=none) (hv:bootBuiltins x=some (.type T)) (ha:PA X (e::es) t) (hn:x≠"__name__":=by decide) (hdb:(x == ("__debug__":Str))=false:=by decide)
  (he:starEach (e::es) X.env=(false,eval e X.env)::starEach es X.env:=by rfl) (hpl:(backTo pos (starEach es X.env)).any (·.1)=false:=by rfl):PE X (.Call (.Name x p) (e::es) [] pos) (tCB r t):=by
 intro pins s σ H Q I h
 refine wpAny_Call_Name_kw (Xv I hg hm hv ?_ hn hdb)
 exact PyProof.Rows.callWith_type1 (thn (ha pos pins s σ H _ I h) λus s1 ⟨vs,H1,I1,r1,q1⟩=>hc pins s1 σ H1 vs us Q I1 r1 q1) he hpl
end
end L2
namespace HT
open PySem PyProof.Rows
section
variable {prog:Program}{w:World}{A:Around}{E:Value->Shared->Prop}{s:Shared}
theorem cat_tup {t b:Addr}{vs ws:List Value}{Q:Value->Shared->Prop}(ht:IsTup s.heap t vs.toArray) (hb:IsTup s.heap b ws.toArray) (hv:vs≠[])
  (h1:ws=[]->Q (.ref t) s) (h2:ws≠[]->Q (.ref s.heap.objs.size) { s with heap:=s.heap.push { cls:=.type "tuple",data:=.seq (vs++ws).toArray } })
  (hsz:vs.length+ws.length<=sizeLine):wpAny (model prog w) A (binaryOp .Add (.ref t) (.ref b)) Q E s:=by
 obtain⟨⟨cls,dd,data,sl⟩,ho,hc,n,hd⟩:=id ht
 obtain⟨⟨cls2,dd2,data2,sl2⟩,ho2,hc2,n2,hd2⟩:=id hb
 simp only at hc hd hc2 hd2
 subst hc hd hc2 hd2
 have e:vs.toArray++ws.toArray=(vs++ws).toArray:=by simp
 by_cases hw:ws=[]
 ·exact concat_meets ⟨_,ho,rfl⟩ ⟨_,ho2,rfl⟩ noFill_tuple_add seq_tuple_add PySem.F.slot_tuple_add PySem.F.entry_tuple_add (PySem.F.args_tuple_add_2 _ _)
   (tuple_addW1 t b vs.toArray ws.toArray n n2 dd dd2 sl sl2 (by simpa using hv) (by simp[hw])) ⟨ho,ho2,h1 hw⟩
 ·refine concat_meets ⟨_,ho,rfl⟩ ⟨_,ho2,rfl⟩ noFill_tuple_add seq_tuple_add PySem.F.slot_tuple_add PySem.F.entry_tuple_add (PySem.F.args_tuple_add_2 _ _)
   (tuple_addW2 t b vs.toArray ws.toArray n n2 dd dd2 sl sl2 (by simpa using hv) (by simpa using hw) (by rw[List.size_toArray,List.size_toArray];exact hsz)) ⟨ho,ho2,?_⟩
  rw[e]
  exact h2 hw
def sIx (n d:Nat):Option Int->Nat
 | none=>d
 | some v=>if v<0 then(v+(n:Int)).toNat else min v.toNat n
theorem sIx_none (n d:Nat):sIx n d none=d:=rfl
theorem sIx_nat (n d k:Nat):sIx n d (some (k:Int))=min k n:=by
 show (if(k:Int)<0 then((k:Int)+(n:Int)).toNat else min (k:Int).toNat n)=min k n
 rw[if_neg (by omega),Int.toNat_natCast]
theorem zde (n d:Nat) (hd:d<=n) (o:Option Int):sIx n d o<=n:=by
 cases o with
 | none=>exact hd
 | some v =>
  show (if v<0 then(v+(n:Int)).toNat else min v.toNat n)<=n
  by_cases hv:v<0
  ·rw[if_pos hv];omega
  ·rw[if_neg hv];exact Nat.min_le_right _ _
theorem Vb (v:Int) (n d:Nat):(if v<0 then max (v+(n:Int)) 0 else min v (n:Int))=((sIx n d (some v):Nat):Int):=by
 show (if v<0 then max (v+(n:Int)) 0 else min v (n:Int))=(((if v<0 then(v+(n:Int)).toNat else min v.toNat n):Nat):Int)
 by_cases hv:v<0
 ·simp only[if_pos hv];omega
 ·simp only[if_neg hv];omega
theorem Qt (lo hi:Option Int) (n:Nat):Builtin.Slice.sliceAdjust lo hi 1 (n:Int)=(((sIx n 0 lo:Nat):Int),((sIx n n hi:Nat):Int)):=by
 have h1:¬((1:Int)<0):=by omega
 unfold Builtin.Slice.sliceAdjust
 simp only[h1,if_false]
 refine Prod.ext ?_ ?_
 ·cases lo with
  | none=>rfl
  | some v=>exact Vb v n 0
 ·cases hi with
  | none=>rfl
  | some v=>exact Vb v n n
theorem QR (i j:Nat):Builtin.Slice.slicePlaces (i:Int) (j:Int) 1=j - i:=by
 unfold Builtin.Slice.slicePlaces
 have h1:(1:Int)>0:=by omega
 simp only[h1,if_true,Int.ediv_one]
 split <;> omega
theorem ZS {v:Value}{o:Option Int}{Q:Option Int->Shared->Prop}(p:IsPart v o) (h:Q o s):wpAny (model prog w) A (Builtin.Slice.slicePartIndex v) Q E s:=by
 cases p with
 | none=>exact slicePart_none h
 | int i t=>exact slicePart_int h
theorem vU {sl:Addr}{vl vu:Value}{lo hi:Option Int}{n:Nat}{Q:Int×Int×Nat->Shared->Prop}(hs:s.heap.IsSliceOf sl vl vu .none) (pl:IsPart vl lo) (pu:IsPart vu hi)
  (h:Q (((sIx n 0 lo:Nat):Int),1,sIx n n hi - sIx n 0 lo) s):wpAny (model prog w) A (Builtin.Slice.sliceApplied (.ref sl) (pure (n:Int))) Q E s:=by
 obtain⟨os,hos,hcs,hds⟩:=id hs
 unfold Builtin.Slice.sliceApplied Builtin.Slice.sliceFields
 refine wpAny_bind (wpAny_bind (wpAny_field hos hds (x:=vl) rfl (wpAny_bind (wpAny_field hos hds (x:=vu) rfl (wpAny_bind (wpAny_field hos hds (x:=.none) rfl (wpAny_pure ?_)))))))
 refine wpAny_bind (slicePart_none ?_)
 show wpAny _ _ (if((1:Int) == 0)=true then _ else _) _ _ s
 rw[if_neg (by decide)]
 refine wpAny_bind (ZS pl (wpAny_bind (ZS pu (wpAny_bind (wpAny_pure ?_)))))
 show wpAny _ _ (match Builtin.Slice.sliceAdjust lo hi 1 (n:Int)with | (lo,hi)=>pure (lo,(1:Int),Builtin.Slice.slicePlaces lo hi 1)) _ _ s
 rw[Qt lo hi n]
 show wpAny _ _ (pure (((sIx n 0 lo:Nat):Int),(1:Int),Builtin.Slice.slicePlaces ((sIx n 0 lo:Nat):Int) ((sIx n n hi:Nat):Int) 1)) _ _ s
 rw[QR]
 exact wpAny_pure h
theorem JZ (xs:Array Value) (i k:Nat):((List.range k).filterMap λ(m:Nat)=>xs[((i:Int)+(m:Int)*1).toNat]?).toArray=((xs.toList.drop i).take k).toArray:=by
 have e:(λ(m:Nat)=>xs[((i:Int)+(m:Int)*1).toNat]?)=λm=>xs[i+m]?:=by
  funext m
  have:((i:Int)+(m:Int)*1).toNat=i+m:=by omega
  rw[this]
 rw[e]
 have:=pick_run xs i k
 rw[List.filterMap_map]at this
 have e2:((λx=>xs[x]?) ∘ λx=>i+x)=λm=>xs[i+m]?:=rfl
 rw[e2]at this
 rw[this]
theorem getItem_tuple_cut {t sl:Addr}{items:Array Value}{vl vu:Value}{lo hi:Option Int}{Q:Value->Shared->Prop}(ht:IsTup s.heap t items) (hs:s.heap.IsSliceOf sl vl vu .none) (pl:IsPart vl lo) (pu:IsPart vu hi)
  (hw:¬(sIx items.size 0 lo=0/\sIx items.size items.size hi=items.size))
  (h:Q (.ref s.heap.objs.size) { s with heap:=s.heap.push { cls:=.type "tuple",data:=.seq ((items.toList.drop (sIx items.size 0 lo)).take (sIx items.size items.size hi - sIx items.size 0 lo)).toArray } })
  (hsz:items.size<=sizeLine):wpAny (model prog w) A (getItem (.ref t) (.ref sl)) Q E s:=by
 have htake:sizeOk (.seq ((items.toList.drop (sIx items.size 0 lo)).take (sIx items.size items.size hi - sIx items.size 0 lo)).toArray):=by
  show ((items.toList.drop (sIx items.size 0 lo)).take (sIx items.size items.size hi - sIx items.size 0 lo)).toArray.size<=sizeLine
  rw[List.size_toArray,List.length_take,List.length_drop,Array.length_toList]
  omega
 have hj:sIx items.size items.size hi<=items.size:=zde _ _ (Nat.le_refl _) hi
 obtain⟨os,hos,hcs,hds⟩:=id hs
 have hTs:s.TypeIs (.ref sl) "slice":=⟨os,hos,hcs⟩
 unfold getItem
 try with_reducible refine wpAny_holding ?_
 first | refine wpAny_bind (wpAny_pure ?_) | skip
 refine wpAny_bind (wpAny_sequenceKey ht.typeIs (by decide) ?_)
 refine wpAny_bind (wpAny_callSpecial?_slot (name:=Str.ofString "__getitem__") ht.typeIs PyProof.Rows.slot_tuple_getitem
  (wpAny_call_entry PyProof.Rows.slot_tuple_getitem ht.typeIs entry_tuple_getitem ?_ (args_tuple_getitem _ _)))
 show wpAny _ _ (Builtin.Tuple.tupleItemsOf (.ref t) >>= _) _ _ s
 refine wpAny_bind (tupleItemsOf_ ht ?_)
 refine wpAny_bind (wpAny_typeOf hTs ?_)
 rw[if_pos (by decide)]
 refine wpAny_bind (vU hs pl pu ?_)
 have hno:¬((((sIx items.size 0 lo:Nat):Int) == 0&&(1:Int) == 1&&(sIx items.size items.size hi - sIx items.size 0 lo) == items.size)=true):=by
  intro q
  rw[Bool.and_eq_true,Bool.and_eq_true]at q
  have q1:((sIx items.size 0 lo:Nat):Int)=0:=eq_of_beq q.1.1
  have q2:sIx items.size items.size hi - sIx items.size 0 lo=items.size:=eq_of_beq q.2
  exact hw ⟨by omega,by omega⟩
 show wpAny _ _ (if(((sIx items.size 0 lo:Nat):Int) == 0&&(1:Int) == 1&&(sIx items.size items.size hi - sIx items.size 0 lo) == items.size)=true then _ else _) _ _ s
 rw[if_neg hno,JZ]
 first
  | exact wpAny_bind (m:=Builtin.Tuple.tupleExact _) (wpAny_newObj_type (wpAny_pure ⟨_,rfl,wpAny_pure h⟩) htake)
  | exact wpAny_bind (m:=Builtin.Tuple.tupleExact _) (wpAny_newObj_type (wpAny_bind (wpAny_pure (wpAny_pure ⟨_,rfl,wpAny_pure h⟩))) htake)
  | exact wpAny_bind (wpAny_bind (m:=Builtin.Tuple.tupleExact _) (wpAny_newObj_type (wpAny_pure (wpAny_pure ⟨_,rfl,wpAny_pure h⟩)) htake))
  | exact wpAny_bind (wpAny_bind (m:=Builtin.Tuple.tupleExact _) (wpAny_newObj_type (wpAny_pure ⟨_,rfl,wpAny_pure h⟩) htake))
end
end HT
namespace L2
open PySem PySem.Spec PyProof.Rows
abbrev TO:=St->Hp->(Option Int->Hp->Prop)->Prop
def PO (X:Cx) (e:Option Expr) (t:TO):Prop :=
 ∀(pins:List (Addr×Obj)) (s:Shared) (σ:St) (H:Hp) (Q:Option Int->Hp->Prop),Inv X pins σ H s->t σ H Q →
  wpAny (model X.prog X.w) X.A (evalPart e X.env) (λu s'=>∃o H',Inv X pins σ H' s'/\IsPart u o/\Q o H') X.xe s
def zbE:TO:=λ_ H Q=>Q none H
def zex (t:TE):TO:=λσ H Q=>t σ H λx H1=>∃i,x = .int i/\Q (some i) H1
theorem QG {ns:List Int}:∀{us:List Value},zP (ns.map V.int) us->IntsAre us ns:=by
 induction ns with
 | nil=>intro us r;rw[List.map_nil]at r;cases r;exact .nil
 | cons n ns ih =>
  intro us r
  rw[List.map_cons]at r
  cases r with
  | cons r1 r2 =>
   obtain⟨t,e⟩:=r1
   subst e
   exact .cons n t (ih r2)
section
variable {X:Cx}{e:Expr}{te:TE}{lo hi:Option Expr}{tl th:TO}{pos p2:Pos}
theorem v8:PO X none zbE:=by
 intro pins s σ H Q I h
 rw[evalPart_none]
 exact wpAny_pure ⟨none,H,I,.none,h⟩
theorem v9 (h:PE X e te):PO X (some e) (zex te):=by
 intro pins s σ H Q I hw
 rw[evalPart_some]
 refine thn (h pins s σ H _ I hw) λu s1 ⟨x,H1,I1,r1,q1⟩=>?_
 obtain⟨i,rfl,q⟩:=q1
 obtain⟨t,rfl⟩:=r1
 exact⟨some i,H1,I1,.int i t,q⟩
def SlR (X:Cx) (r:V->Option Int->Option Int->Hp->VK->Prop):Prop :=
 ∀(pins:List (Addr×Obj)) (s:Shared) (σ:St) (H:Hp) (x:V) (v vl vu:Value) (lo hi:Option Int) (sl:Addr) (Q:VK),Inv X pins σ H s->xg x v->s.heap.IsSliceOf sl vl vu .none->IsPart vl lo->IsPart vu hi->r x lo hi H Q →
  ∃T id,typeLookup (.type T) "__getitem__" = pure (some (.builtin id))/\s.TypeIs v T/\wpAny (model X.prog X.w) X.A (getItem v (.ref sl)) (EP X pins σ Q) X.xe s
theorem SlR.or {r r':V->Option Int->Option Int->Hp->VK->Prop}(h:SlR X r) (h':SlR X r'):SlR X (λx lo hi H Q=>r x lo hi H Q\/r' x lo hi H Q):=by
 intro pins s σ H x v vl vu lo hi sl Q I rx hs pl pu q
 rcases q with q | q
 ·exact h pins s σ H x v vl vu lo hi sl Q I rx hs pl pu q
 ·exact h' pins s σ H x v vl vu lo hi sl Q I rx hs pl pu q
def tSl (r:V->Option Int->Option Int->Hp->VK->Prop) (te:TE) (tl th:TO):TE:=λσ H Q=>te σ H λx H1=>tl σ H1 λl H2=>th σ H2 λu H3=>r x l u H3 Q
theorem vp {r:V->Option Int->Option Int->Hp->VK->Prop}(hr:SlR X r) (he:PE X e te) (hl:PO X lo tl) (hu:PO X hi th):PE X (.Subscript e (.Slice lo hi none p2) pos) (tSl r te tl th):=by
 intro pins s σ H Q I h
 refine Subscript_ (thn (he pins s σ H _ I h) λv s1 ⟨x,H1,I1,r1,q1⟩=>?_)
 refine wpAny_Slice (thn (hl pins s1 σ H1 _ I1 q1) λvl s2 ⟨l,H2,I2,pl,q2⟩=>thn (hu pins s2 σ H2 _ I2 q2) λvu s3 ⟨u,H3,I3,pu,q3⟩=>?_)
 rw[evalPart_none]
 refine wpAny_pure ?_
 have I4:Inv X pins σ H3 { s3 with heap:=s3.heap.push { cls:=.type "slice",data:=.fields #[vl,vu,.none] } }:=I3.kept (t':=s3.toks) λb ob q=>Heap.get?_push_of_some _ q
 obtain⟨T,id,hT,ht,hg⟩:=hr pins { s3 with heap:=s3.heap.push { cls:=.type "slice",data:=.fields #[vl,vu,.none] } } σ H3 x v vl vu l u s3.heap.objs.size Q I4 r1 (Heap.IsSliceOf.new ..) pl pu q3
 show wpAny (model X.prog X.w) X.A (subscriptTail e (.Slice lo hi none p2) v (.ref s3.heap.objs.size)) (EP X pins σ Q) X.xe { s3 with heap:=s3.heap.push { cls:=.type "slice",data:=.fields #[vl,vu,.none] } }
 exact tail_any (ops:=[.ref s3.heap.objs.size,v]) ht hT hg (by with_unfolding_all rfl)
def ji (xs:List V) (lo hi:Option Int):List V:=(xs.drop (HT.sIx xs.length 0 lo)).take (HT.sIx xs.length xs.length hi - HT.sIx xs.length 0 lo)
theorem Zj (xs:List V) (lo hi:Option Int):(ji xs lo hi).length<=xs.length:=by
 unfold ji
 rw[List.length_take,List.length_drop]
 omega
def zd5 (K:PySem.W.Frag):V->Option Int->Option Int->Hp->VK->Prop:=λx lo hi H Q=>∃a xs,x = .ref a/\SqT K H a xs ∧
 ¬(HT.sIx xs.length 0 lo=0/\HT.sIx xs.length xs.length hi=xs.length)/\∀p,H p=none->Q (.ref p) (upd H p (.tup (ji xs lo hi)))
theorem Zh:SlR X (zd5 X.K):=by
 intro pins s σ H x v vl vu lo hi sl Q I rx hs pl pu h
 obtain⟨a,xs,rfl,hx,hw,q⟩:=h
 cases rx
 obtain⟨its,r,ht,hz⟩:=I.tuple hx
 have hlen:its.toArray.size=xs.length:=by rw[List.size_toArray];exact r.length.symm
 refine⟨"tuple",_,PyProof.Rows.slot_tuple_getitem.lookup,ht.typeIs,?_⟩
 refine HT.getItem_tuple_cut ht hs pl pu (by rw[hlen];exact hw) ?_ (by rw[hlen];exact hz)
 rw[hlen]
 refine⟨.ref s.heap.objs.size,_,I.laid (t':=s.toks) (o:=.tup (ji xs lo hi)) (λb ob q=>Heap.get?_push_of_some _ q) (Nat.le_refl _) ?_,rfl,q _ (I.hok.fresh (Nat.le_refl _))⟩
 exact⟨Nat.le_trans (Zj xs lo hi) hz,_,(r.drop (HT.sIx xs.length 0 lo)).take (HT.sIx xs.length xs.length hi - HT.sIx xs.length 0 lo),IsTup.new _ _⟩
def zd3 (K:PySem.W.Frag):R2:=λx y H Q=>∃a b xs ys,x = .ref a/\y = .ref b/\SqT K H a xs/\SqT K H b ys/\xs≠[]/\xs.length+ys.length<=sizeLine ∧
 (ys=[]->Q (.ref a) H)/\(ys≠[]->∀p,H p=none->Q (.ref p) (upd H p (.tup (xs++ys))))
theorem zP.nil_iff {xs:List V}{us:List Value}(r:zP xs us):us=[]↔xs=[]:=by
 cases r with
 | nil=>simp
 | cons _ _=>simp
theorem zbh:OpR X (binaryOp .Add) (zd3 X.K):=by
 intro pins s σ H x y v u Q I rx ry h
 obtain⟨a,b,xs,ys,rfl,rfl,ha,hb,hx,hz,q1,q2⟩:=h
 cases rx
 cases ry
 obtain⟨its,r1,p1,_⟩:=I.tuple ha
 obtain⟨its2,r2,p2,_⟩:=I.tuple hb
 refine HT.cat_tup p1 p2 (λz=>hx (r1.nil_iff.mp z)) (λz=>⟨.ref a,H,I,rfl,q1 (r2.nil_iff.mp z)⟩) (λz=>?_) (by rw[<-r1.length,<-r2.length];exact hz)
 refine⟨.ref s.heap.objs.size,_,I.laid (t':=s.toks) (o:=.tup (xs++ys)) (λb ob q=>Heap.get?_push_of_some _ q) (Nat.le_refl _) ?_,rfl,q2 (λw=>z (r2.nil_iff.mpr w)) _ (I.hok.fresh (Nat.le_refl _))⟩
 exact⟨by rw[List.length_append];exact hz,_,r1.append r2,IsTup.new _ _⟩
end
end L2
namespace L2
open PySem PySem.Spec PyProof.Rows
def ixN (n:Nat) (i:Int):Option Nat:=if 0<=i then(if i<n then some i.toNat else none)else if -(n:Int)<=i then some (i+n).toNat else none
def atI {α:Type}(xs:List α) (i:Int):Option α:=(ixN xs.length i).bind λj=>xs[j]?
theorem Vl {n:Nat}{i:Int}{j:Nat}(h:ixN n i=some j):seqIndex? i n=some j/\j<n ∧ -(n:Int)<=i/\i<n:=by
 unfold ixN at h
 by_cases h0:0<=i
 ·rw[if_pos h0]at h
  by_cases h1:i<n
  ·rw[if_pos h1]at h
   have e:i.toNat=j:=Option.some.inj h
   exact⟨by rw[seqIndex_of h0 h1,e],by omega,by omega,h1⟩
  ·rw[if_neg h1]at h;cases h
 ·rw[if_neg h0]at h
  by_cases h1 : -(n:Int)<=i
  ·rw[if_pos h1]at h
   have e:(i+n).toNat=j:=Option.some.inj h
   exact⟨by rw[seqIndex_neg (by omega) h1,e],by omega,h1,by omega⟩
  ·rw[if_neg h1]at h;cases h
theorem Q7 {α:Type}{xs:List α}{i:Int}{v:α}(h:atI xs i=some v):∃j,seqIndex? i xs.length=some j/\xs[j]? = some v/\j<xs.length ∧ -(xs.length:Int)<=i/\i<xs.length:=by
 unfold atI at h
 cases e:ixN xs.length i with
 | none=>rw[e]at h;cases h
 | some j =>
  rw[e]at h
  obtain⟨h1,h2,h3,h4⟩:=Vl e
  exact⟨j,h1,h,h2,h3,h4⟩
theorem vX {α:Type}{xs:List α}{j:Nat}{v:α}(h:xs[j]? = some v):atI xs (j:Int)=some v:=by
 have hj:j<xs.length:=(List.getElem?_eq_some_iff.mp h).1
 have e:ixN xs.length (j:Int)=some j:=by
  unfold ixN
  rw[if_pos (by omega),if_pos (by omega)];simp
 unfold atI;rw[e];exact h
def Q0 (b:Expr):Prop:=∀o i,subscripted b false o i=operate [o,i] (getItem o i)
def IxR (X:Cx) (r:R2):Prop :=
 ∀(value slice:Expr) (pins:List (Addr×Obj)) (s:Shared) (σ:St) (H:Hp) (x y:V) (v u:Value) (Q:VK),Inv X pins σ H s->xg x v->xg y u->r x y H Q →
  subscripted slice false v u=operate [v,u] (getItem v u)->wpAny (model X.prog X.w) X.A (subscriptTail value slice v u) (EP X pins σ Q) X.xe s
def MtR (X:Cx) (id:String) (r:V->List V->Hp->VK->Prop):Prop :=
 ∀(pins:List (Addr×Obj)) (s:Shared) (σ:St) (H:Hp) (x:V) (xs:List V) (v:Value) (us:List Value) (Q:VK),Inv X pins σ H s->xg x v->zP xs us->r x xs H Q →
  wpAny (model X.prog X.w) X.A (call (.builtin id) (v::us)) (EP X pins σ Q) X.xe s
section
variable {X:Cx}{a b:Expr}{ta tb:TE}{pos:Pos}
theorem zo {r:R2}(hr:IxR X r) (ha:PE X a ta) (hb:PE X b tb) (hs:Q0 b):PE X (.Subscript a b pos) (tOp r ta tb):=by
 intro pins s σ H Q I h
 exact Subscript_ (zcm ha hb I h λv u s2 x y H2 I2 rx ry q=>hr a b pins s2 σ H2 x y v u Q I2 rx ry q (hs _ _))
def rIxL (K:PySem.W.Frag):R2:=λx y H Q=>∃p xs i v,x = .ref p/\y = .int i/\SqL K H p xs/\atI xs i=some v/\Q v H
def vt (K:PySem.W.Frag):R2:=λx y H Q=>∃p xs i v,x = .ref p/\y = .int i/\SqT K H p xs/\atI xs i=some v/\Q v H
theorem zS:IxR X (rIxL X.K):=by
 intro value slice pins s σ H x y v u Q I rx ry h hs
 obtain⟨p,xs,i,z,rfl,rfl,hq,he,q⟩:=h
 cases rx
 obtain⟨t,rfl⟩:=ry
 obtain⟨its,r,pl,hz⟩:=I.list hq
 obtain⟨j,h1,h2,h3,h4,h5⟩:=Q7 he
 obtain⟨w,ew,rw'⟩:=r.get h2
 have hl:=r.length
 have hn:=ZM
 have fin:EP X pins σ Q w s:=⟨z,H,I,rw',q⟩
 by_cases h0:0<=i
 ·have hj:i.toNat=j:=by
   rw[seqIndex_of h0 h5]at h1
   exact Option.some.inj h1
  exact item_listR pl.isList h0 (by omega) (by rw[hj];simpa using ew) fin hs
 ·have hj:(i+(its.toArray.size:Int)).toNat=j:=by
   rw[seqIndex_neg (by omega) h4]at h1
   rw[List.size_toArray,<-hl]
   exact Option.some.inj h1
  exact subscriptTail_builtinR (x:=w) pl.isList.typeIs slot_list_getitem.lookup
   (wpAny_getItem_list_neg (Q:=λr s'=>r=w/\EP X pins σ Q r s') pl.isList (by omega) (by rw[List.size_toArray] <;> omega) (by omega) (by rw[hj];simpa using ew) ⟨rfl,fin⟩) hs
theorem zm:IxR X (vt X.K):=by
 intro value slice pins s σ H x y v u Q I rx ry h hs
 obtain⟨p,xs,i,z,rfl,rfl,hq,he,q⟩:=h
 cases rx
 obtain⟨t,rfl⟩:=ry
 obtain⟨its,r,pl,hz⟩:=I.tuple hq
 obtain⟨j,h1,h2,h3,h4,h5⟩:=Q7 he
 obtain⟨w,ew,rw'⟩:=r.get h2
 have hl:=r.length
 have hn:=ZM
 have fin:EP X pins σ Q w s:=⟨z,H,I,rw',q⟩
 exact subscriptTail_builtinR (x:=w) pl.typeIs slot_tuple_getitem.lookup
  (getItem_tuple (j:=j) (Q:=λr s'=>r=w/\EP X pins σ Q r s') pl (by omega) (by omega) (by rw[List.size_toArray,<-hl];exact h1) (by simpa using ew) ⟨rfl,fin⟩) hs
theorem QL (its:List Value) (n j:Nat) (u:Value):Obj.mapSeq (·.setIfInBounds j u) { cls:=.type "list",data:=.seq its.toArray n } = { cls:=.type "list",data:=.seq (its.set j u).toArray n }:=by
 simp[Obj.mapSeq]
theorem Inv.lst {pins:List (Addr×Obj)}{σ:St}{H:Hp}{s:Shared}{p:Addr}{xs:List V}(I:Inv X pins σ H s) (h:H p=some (.lst xs)) :
  ∃(its:List Value) (n:Nat),zP xs its/\s.heap.get? p=some { cls:=.type "list",data:=.seq its.toArray n }/\xs.length<=sizeLine:=by
 obtain⟨z,its,n,r,e⟩:=I.hok p _ h
 exact⟨its,n,r,e,z⟩
theorem Inv.lstUpd {pins:List (Addr×Obj)}{σ:St}{H:Hp}{s:Shared}{p:Addr}{xs ys:List V}{its its':List Value}{n n':Nat}{f:Obj->Obj}(I:Inv X pins σ H s) (h:H p=some (.lst xs))
  (ho:s.heap.get? p=some { cls:=.type "list",data:=.seq its.toArray n }) (hf:f { cls:=.type "list",data:=.seq its.toArray n } = { cls:=.type "list",data:=.seq its'.toArray n' }) (r:zP ys its') (hz:ys.length<=sizeLine) (t:Nat) :
  Inv X pins σ (upd H p (.lst ys)) { s with heap:=s.heap.update p f,toks:=t }:=by
 have e:(s.heap.update p f).get? p=some { cls:=.type "list",data:=.seq its'.toArray n' }:=by
  rw[Heap.get?_update_self f ho (by rw[hf] <;> rfl),hf]
 refine I.write (x:=p) (e:=p) (by rw[h];trivial) (.inl rfl) (λb u hb q=>(Heap.get?_update_other _ _ (Ne.symm hb)).trans q) ⟨_,e⟩ ?_
 exact⟨hz,its',n',r,e⟩
def zd4:V->V->V->Hp->(Hp->Prop)->Prop:=λo i v H Q=>∃p xs k j,o = .ref p/\i = .int k/\H p=some (.lst xs)/\ixN xs.length k=some j/\Q (upd H p (.lst (xs.set j v)))
theorem jp:zdB X zd4:=by
 intro pins s σ H o i v ov iv u Q I ro ri rv h
 obtain⟨p,xs,k,j,rfl,rfl,hp,hj,q⟩:=h
 cases ro
 obtain⟨t,rfl⟩:=ri
 obtain⟨its,n,r,ho,hz⟩:=I.lst hp
 obtain⟨h1,h2,h3,h4⟩:=Vl hj
 have hl:=r.length
 have hn:=ZM
 have I':Inv X pins σ (upd H p (.lst (xs.set j v))) { s with heap:=s.heap.update p (Obj.mapSeq (·.setIfInBounds j u)) } :=
  I.lstUpd hp ho (QL its n j u) (r.set rv j) (by rw[List.length_set];exact hz) s.toks
 by_cases h0:0<=k
 ·have hk:k.toNat=j:=by
   rw[seqIndex_of h0 h4]at h1
   exact Option.some.inj h1
  exact PySem.W.ki_setAt ho h0 (by omega) (by rw[List.size_toArray,<-hl];exact h4) (by rw[hk];exact⟨_,I',q⟩)
 ·have hk:(k+(its.toArray.size:Int)).toNat=j:=by
   rw[seqIndex_neg (by omega) h3]at h1
   rw[List.size_toArray,<-hl]
   exact Option.some.inj h1
  exact PySem.W.ki_setBack ho (by omega) (by rw[List.size_toArray,<-hl];exact h3) (by omega) (by rw[hk];exact⟨_,I',q⟩)
theorem XL (lo hi:Option Int) (n:Nat):(sliceBounds lo hi none n).1=((HT.sIx n 0 lo:Nat):Int)/\(sliceBounds lo hi none n).2.1=((HT.sIx n n hi:Nat):Int)/\(sliceBounds lo hi none n).2.2=1:=by
 refine⟨?_,?_,rfl⟩
 ·cases lo with
  | none=>simp[sliceBounds,HT.sIx]
  | some i =>
   simp only[sliceBounds,HT.sIx,Option.getD_none,show (1:Int)>0 by decide,if_true]
   by_cases h:i<0
   ·simp only[h,if_true] <;> omega
   ·simp only[h,if_false] <;> omega
 ·cases hi with
  | none=>simp[sliceBounds,HT.sIx]
  | some i =>
   simp only[sliceBounds,HT.sIx,Option.getD_none,show (1:Int)>0 by decide,if_true]
   by_cases h:i<0
   ·simp only[h,if_true] <;> omega
   ·simp only[h,if_false] <;> omega
theorem Z0 (its:List Value) (lo hi:Option Int):slicePick its.toArray lo hi none=((its.drop (HT.sIx its.length 0 lo)).take (HT.sIx its.length its.length hi - HT.sIx its.length 0 lo)).toArray:=by
 obtain⟨h1,h2,h3⟩:=XL lo hi its.toArray.size
 unfold slicePick
 rw[h1,h2,h3]
 simp only[sliceRange_one,pick_run,List.size_toArray] <;> rfl
def rSlL (K:PySem.W.Frag):V->Option Int->Option Int->Hp->VK->Prop:=λx lo hi H Q=>∃a xs,x = .ref a/\SqL K H a xs/\∀p,H p=none->Q (.ref p) (upd H p (.lst (ji xs lo hi)))
theorem zby:SlR X (rSlL X.K):=by
 intro pins s σ H x v vl vu lo hi sl Q I rx hs pl pu h
 obtain⟨a,xs,rfl,hx,q⟩:=h
 cases rx
 obtain⟨its,r,ht,hz⟩:=I.list hx
 have hlen:=r.length
 refine⟨"list",_,slot_list_getitem.lookup,ht.isList.typeIs,?_⟩
 refine wpAny_getItem_list_slice ht.isList hs pl pu .none (by simp) ?_ (by rw[List.size_toArray] <;> omega)
 rw[Z0,<-hlen]
 refine⟨.ref s.heap.objs.size,_,I.laid (t':=s.toks) (o:=.lst (ji xs lo hi)) (λb ob q=>Heap.get?_push_of_some _ q) (Nat.le_refl _) ?_,rfl,q _ (I.hok.fresh (Nat.le_refl _))⟩
 exact⟨Nat.le_trans (Zj xs lo hi) hz,_,0,(r.drop (HT.sIx xs.length 0 lo)).take (HT.sIx xs.length xs.length hi - HT.sIx xs.length 0 lo),Heap.get?_push_size _ rfl⟩
theorem zN:vg X (.builtin "len") (λxs H Q=>∃p ys,xs=[.ref p]/\(SqL X.K H p ys\/SqT X.K H p ys)/\Q (.int ys.length) H):=by
 intro pins s σ H xs us Q I r h
 obtain⟨p,ys,rfl,hq,q⟩:=h
 obtain⟨u,rfl,rx⟩:=Zm r
 cases rx
 have hn:=ZM
 rcases hq with hq | hq
 ·obtain⟨its,r',pl,hz⟩:=I.list hq
  have hlen:=r'.length
  exact Calls.call_len_list pl.isList (by simp only[List.size_toArray] <;> omega) ⟨.int ys.length,H,I.tok _,⟨s.toks+1,by rw[List.size_toArray,hlen]⟩,q⟩
 ·obtain⟨its,r',pl,hz⟩:=I.tuple hq
  have hlen:=r'.length
  exact len_tuple pl (by simp only[List.size_toArray] <;> omega) ⟨.int ys.length,H,I.tok _,⟨s.toks+1,by rw[List.size_toArray,hlen]⟩,q⟩
theorem jQ:vg X (.type "list") (λxs H Q=>∃p ys,xs=[.ref p]/\(SqL X.K H p ys\/SqT X.K H p ys)/\∀l,H l=none->Q (.ref l) (upd H l (.lst ys))):=by
 intro pins s σ H xs us Q I r h
 obtain⟨p,ys,rfl,hq,q⟩:=h
 obtain⟨u,rfl,rx⟩:=Zm r
 cases rx
 have fin:∀(its:List Value),zP ys its->ys.length<=sizeLine->∀(h':Heap) (c':Nat),(∀b o',s.heap.get? b=some o'->h'.get? b=some o') →
   h'.get? s.heap.objs.size=some { cls:=.type "list",dict:=none,data:=.seq its.toArray c',slots:=#[] }->EP X pins σ Q (.ref s.heap.objs.size) { s with heap:=h' }:=λits r' hz h' c' kp e =>
  ⟨.ref s.heap.objs.size,_,I.laid (t':=s.toks) kp (Nat.le_refl _) (show xF X.prog X.w _ h' _ (.lst ys)from⟨hz,its,c',r',e⟩),rfl,q _ (I.hok.fresh (Nat.le_refl _))⟩
 rcases hq with hq | hq
 ·obtain⟨its,r',pl,hz⟩:=I.list hq
  have hlen:=r'.length
  obtain⟨o,ho,hc,n,hd⟩:=pl.isList
  exact call_list_seq p (.inl rfl) ho hc hd (λh' c' kp e=>fin its r' hz h' c' kp e) (by simp only[List.size_toArray] <;> omega)
 ·obtain⟨its,r',pl,hz⟩:=I.tuple hq
  have hlen:=r'.length
  obtain⟨o,ho,hc,n,hd⟩:=pl
  exact call_list_seq p (.inr rfl) ho hc hd (λh' c' kp e=>fin its r' hz h' c' kp e) (by simp only[List.size_toArray] <;> omega)
theorem ZY:vg X (.type "tuple") (λxs H Q=>∃p ys,xs=[.ref p]/\((SqL X.K H p ys/\∀l,H l=none->Q (.ref l) (upd H l (.tup ys)))\/(SqT X.K H p ys/\Q (.ref p) H))):=by
 intro pins s σ H xs us Q I r h
 obtain⟨p,ys,rfl,h⟩:=h
 obtain⟨u,rfl,rx⟩:=Zm r
 cases rx
 rcases h with⟨hq,q⟩ | ⟨hq,q⟩
 ·obtain⟨its,r',pl,hz⟩:=I.list hq
  have hlen:=r'.length
  refine call_tuple_list pl.isList (λh' kp=>?_) (by simp only[List.size_toArray] <;> omega)
  have I1:Inv X pins σ H { s with heap:=h' }:=I.kept (t':=s.toks) kp
  have I2:Inv X pins σ (upd H h'.objs.size (.tup ys)) { s with heap:=h'.push { cls:=.type "tuple",data:=.seq its.toArray } } :=
   I1.laid (t':=s.toks) (λb o e=>Heap.get?_push_of_some _ e) (Nat.le_refl _) (show xF X.prog X.w _ _ _ (.tup ys)from⟨hz,its,r',IsTup.new _ _⟩)
  exact⟨.ref h'.objs.size,_,I2,rfl,q _ (I1.hok.fresh (Nat.le_refl _))⟩
 ·obtain⟨its,r',pl,hz⟩:=I.tuple hq
  exact call_tuple_same pl ⟨.ref p,H,I,rfl,q⟩
def tyV (K:PySem.W.Frag) (T:String) (x:V) (H:Hp):Prop:=match x with
 | .str _=>T = "str"
 | .int _=>T = "int"
 | .ref p=>(T = "list"/\∃xs,SqL K H p xs)\/(T = "tuple"/\∃o,K.lookup p=some o/\o.cls = .type "tuple"/\o.dict=none) ∨
   (T = "dict"/\((∃kvs,H p=some (.dK kvs))\/∃kvs,H p=some (.dT kvs)))\/(T = "set"/\∃S n,H p=some (.set S n))
 | _=>False
theorem zdx {pins:List (Addr×Obj)}{σ:St}{H:Hp}{s:Shared}{T:String}{x:V}{v:Value}(I:Inv X pins σ H s) (r:xg x v) (ty:tyV X.K T x H) :
  s.TypeIs v T/\∀a,v = .ref a->∃ob,s.heap.get? a=some ob/\ob.dict=none:=by
 cases x with
 | str z =>
  obtain⟨t,rfl⟩:=r
  cases(show T = "str" from ty)
  exact⟨typeIs_str s z t,λ_ e=>nomatch e⟩
 | int i =>
  obtain⟨t,rfl⟩:=r
  cases(show T = "int" from ty)
  exact⟨typeIs_int s i t,λ_ e=>nomatch e⟩
 | ref p =>
  cases r
  rcases ty with⟨rfl,xs,hq⟩ | ⟨rfl,o,hk,hc,hd⟩ | ⟨rfl,hk⟩ | ⟨rfl,S,n,hk⟩
  ·obtain⟨its,_,pl,_⟩:=I.list hq
   refine⟨pl.isList.typeIs,λa e=>?_⟩
   cases e
   obtain⟨o,n,e,c,hd,_⟩:=pl
   exact⟨o,e,hd⟩
  ·refine⟨⟨o,I.kIn p o hk,hc⟩,λa e=>?_⟩
   cases e
   exact⟨o,I.kIn _ o hk,hd⟩
  ·have z:∃o,s.heap.get? p=some o/\o.ExactDict:=by
    rcases hk with⟨kvs,hk⟩ | ⟨kvs,hk⟩
    ·obtain⟨_,_,_,_,o,_,_,e,ex,_⟩:=I.hok p _ hk
     exact⟨o,e,ex⟩
    ·obtain⟨_,_,_,_,o,_,_,e,ex,_⟩:=I.hok p _ hk
     exact⟨o,e,ex⟩
   obtain⟨o,e,ex⟩:=z
   refine⟨⟨o,e,ex.1⟩,λa e2=>?_⟩
   cases e2
   exact⟨o,e,ex.2.1⟩
  ·obtain⟨o,_,_,_,e,ex,_⟩:=I.hok p _ hk
   refine⟨⟨o,e,ex.1⟩,λa e2=>?_⟩
   cases e2
   exact⟨o,e,ex.2.1⟩
 | _=>exact False.elim ty
def tBM (K:PySem.W.Frag) (T:String) (r:V->List V->Hp->VK->Prop) (to:TE) (t:TA):TE:=λσ H Q=>to σ H λx H1=>tyV K T x H1/\t σ H1 λxs H2=>r x xs H2 Q
variable {o e:Expr}{es:List Expr}{to:TE}{t:TA}{name:Str}{apos cpos:Pos}{T id:String}{r:V->List V->Hp->VK->Prop}
theorem JX (pa:PlainAttrs T) (slot:Slot T name id) (hty:typeOf (.builtin id)=pure (.type "method_descriptor")) (hm:MtR X id r) (ho:PE X o to) (ha:PA X (e::es) t)
  (hbase:attributeBase o name X.env (eval o X.env)=eval o X.env:=by rfl)
  (hfew:((backTo cpos (starEach (e::es) X.env)).all (λx=>!x.1)&&(backToKw cpos (keywordEach [] X.env)).all (λx=>x.1.isSome)
   && decide ((e::es).length+([]:List Keyword).length+(if([]:List Keyword).isEmpty then 0 else 1)<30))=true:=by rfl)
  (hline:(apos.endLine == cpos.line)=true:=by rfl) (hs:starEach (e::es) X.env=(false,eval e X.env)::starEach es X.env:=by rfl) (hplain:(backTo cpos (starEach es X.env)).any (·.1)=false:=by rfl) :
  PE X (.Call (.Attribute o name apos) (e::es) [] cpos) (tBM X.K T r to t):=by
 intro pins s σ H Q I h
 refine wpAny_Call_method_late hbase hfew hline rfl (thn (ho pins s σ H _ I h) λv s1 ⟨x,H1,I1,r1,ty,q1⟩=>?_)
 obtain⟨h1,h2⟩:=zdx I1 r1 ty
 refine⟨T,id,pa,slot,hty,h1,h2,?_⟩
 have hA:=ha cpos pins s1 σ H1 _ I1 q1
 rw[hs]at hA ⊢
 refine Calls.callWith_builtin (by show (false || (backTo cpos (starEach es X.env)).any (·.1))=false;rw[hplain] <;> rfl) (Calls.evalArgs_plain ?_)
 exact thn hA λus s2 ⟨vs,H2,I2,r2,q2⟩=>hm pins s2 σ H2 x vs v us Q I2 r1 r2 q2
end
end L2
namespace L2
open PySem PySem.Spec PyProof.Rows
def MtM (X:Cx) (id:String) (r:V->List V->Hp->VK->Prop):Prop :=
 ∀(pins:List (Addr×Obj)) (s:Shared) (σ:St) (H:Hp) (x:V) (xs:List V) (v:Value) (us:List Value) (Q:VK),Inv X pins σ H s->xg x v->zP xs us->r x xs H Q →
  wpAny (model X.prog X.w) X.A (call (.builtin id) (v::us)) (EP X pins σ Q) X.xe s
theorem zP.one:∀{x:V}{us:List Value},zP [x] us->∃u,us=[u]/\xg x u
 | _,_,.cons r .nil=>⟨_,rfl,r⟩
section
variable {X:Cx}{pins:List (Addr×Obj)}{σ:St}{H:Hp}{s:Shared}{l b:Addr}{xs ys zs:List V}
theorem Inv.lset {its its':List Value}{n:Nat}{f:Array Value->Array Value}{t':Nat}(I:Inv X pins σ H s) (hH:H l=some (.lst xs))
  (e:s.heap.get? l=some { cls:=.type "list",data:=.seq its.toArray n }) (hf:f its.toArray=its'.toArray) (hv:zP ys its') (hz:ys.length<=sizeLine) :
  Inv X pins σ (upd H l (.lst ys)) { s with heap:=s.heap.update l (Obj.mapSeq f),toks:=t' }:=by
 have q:=PySem.IsL.update e f
 rw[hf]at q
 refine I.write (x:=l) (e:=l) (by rw[hH];exact trivial) (.inl rfl) (λb' u hb hu=>(Heap.get?_update_other s.heap (Obj.mapSeq f) (Ne.symm hb)).trans hu) ⟨_,q⟩ ?_
 exact⟨hz,its',_,hv,q⟩
theorem Inv.lnew {its:List Value}{t':Nat}(I:Inv X pins σ H s) (hv:zP ys its) (hz:ys.length<=sizeLine) :
  Inv X pins σ (upd H s.heap.objs.size (.lst ys)) { s with heap:=s.heap.push { cls:=.type "list",data:=.seq its.toArray },toks:=t' } :=
 I.laid (λ_ _ q=>Heap.get?_push_of_some _ q) (Nat.le_refl _) ⟨hz,its,0,hv,Heap.get?_push_size _ rfl⟩
theorem Inv.fresh (I:Inv X pins σ H s):H s.heap.objs.size=none:=I.hok.fresh (Nat.le_refl _)
theorem Inv.lstM (I:Inv X pins σ H s) (hH:H l=some (.lst xs)):xs.length<=sizeLine/\∃(its:List Value) (n:Nat),zP xs its/\xs.length=its.length/\s.heap.get? l=some { cls:=.type "list",data:=.seq its.toArray n }:=by
 obtain⟨z,its,n,r,e⟩:=I.hok l _ hH
 exact⟨z,its,n,r,r.length,e⟩
end
section
variable {X:Cx}
def Vq:V->List V->Hp->VK->Prop:=λx vs H Q=>∃l xs y,x = .ref l/\vs=[y]/\H l=some (.lst xs)/\xs.length<sizeLine/\Q .non (upd H l (.lst (xs++[y])))
theorem jz:MtM X "list.append" Vq:=by
 intro pins s σ H x vs v us Q I rx rv h
 obtain⟨l,xs,y,rfl,rfl,hH,hz,q⟩:=h
 cases rx
 obtain⟨u,rfl,ru⟩:=rv.one
 obtain⟨z,its,n,r,hl,e⟩:=I.lstM hH
 refine call_meets F.slot_list_append ⟨_,e,rfl⟩ F.entry_list_append (F.args_list_append_2 _ _) (PySem.list_append l its.toArray n u (by rw[List.size_toArray];omega)) ⟨e,?_⟩
 refine⟨.non,_,I.lset (its':=its++[u]) hH e (by simp) (r.append (.cons ru .nil)) ?_,rfl,q⟩
 rw[List.length_append,List.length_singleton]
 omega
def rCat:R2:=λx y H Q=>∃l b xs zs,x = .ref l/\y = .ref b/\H l=some (.lst xs)/\H b=some (.lst zs)/\xs.length+zs.length<=sizeLine/\∀p,H p=none->Q (.ref p) (upd H p (.lst (xs++zs)))
theorem zc5:OpR X (binaryOp .Add) rCat:=by
 intro pins s σ H x y v u Q I rx ry h
 obtain⟨l,b,xs,zs,rfl,rfl,hH,hB,hz,q⟩:=h
 cases rx
 cases ry
 obtain⟨z,its,n,r,hl,e⟩:=I.lstM hH
 obtain⟨z2,its2,n2,r2,hl2,e2⟩:=I.lstM hB
 refine PySem.P.add_list e e2 ?_ (by rw[List.size_toArray,List.size_toArray];omega)
 have ea:its.toArray++its2.toArray=(its++its2).toArray:=by simp
 rw[ea]
 exact⟨.ref _,_,I.lnew (t':=s.toks) (r.append r2) (by rw[List.length_append];omega),rfl,q _ I.fresh⟩
end
end L2
namespace Att
open PySem PySem.W PySem.Calls PyProof.Rows
theorem Zn {P:Params}{h:Heap}:∀(ns:List Int) (vs:List Value),WellAll P h vs (ns.map WData.int)->IntsAre vs ns:=by
 intro ns
 induction ns with
 | nil =>
  intro vs w
  rw[List.map_nil]at w
  cases w
  exact .nil
 | cons n ns ih =>
  intro vs w
  rw[List.map_cons]at w
  cases w with
  | cons a b =>
   cases a
   exact .cons _ _ (ih _ b)
theorem V8 {l:OpenLaw}{n:Nat}(hn:l.most=some n){P:Params}{h:Heap}{args:List WData}{vals:List Value}
  (hpre:l.row.toRowW.claim.pre args=true) (hwl:WellAll P h vals args) :
  ∃a vs ns,vals=[Value.ref a]/\args=[WData.list (ns.map WData.int)]/\h.get? a=some { cls:=.type "list",data:=.seq vs.toArray }/\IntsAre vs ns/\ns.length<=n:=by
 have hsh:WShape.hasAll [] args [.list .int]=true:=(pre_splitW hpre).1
 have hc:l.pre.holds [] { args:=args } = true:=(pre_splitW hpre).2
 obtain⟨d,r,rfl,h1,h2⟩:=hasAllW_cons hsh
 obtain rfl:=hasAllW_nil h2
 obtain⟨xs,rfl,h3⟩:=hasW_list h1
 obtain⟨ns,rfl⟩:=items_int h3
 have hlen:ns.length<=n:=by
  unfold OpenLaw.pre at hc
  have h4:(WTm.not (.lt (.lit (.int (n:Int))) (.len (.arg 0)))).holds [] { args:=[.list (ns.map .int)] } = true:=by
   have h4:=(holds_andW hc).1
   rw[hn]at h4
   exact h4
  have h5:=condW_of h4 (w_not (w_lt w_lit (w_len_list (w_arg rfl))))
  rw[List.length_map]at h5
  refine Nat.le_of_not_lt λq=>?_
  have q':(n:Int)<((ns.length:Nat):Int):=by omega
  first
   | (rw[decide_eq_true q']at h5;exact absurd h5 (by decide))
   | (simp at h5;omega)
 cases hwl with
 | cons w1 w2 =>
  cases w2
  cases w1 with
  | list ho hall=>exact⟨_,_,ns,rfl,rfl,ho,Zn ns _ hall,hlen⟩
theorem V5 (l:OpenLaw) (args:List WData):l.row.toRowW.claim.post args (.bool true) args=true :=
 postW_of (r:=l.row.toRowW) (X:=(true == true))
  (show WShape.has [] (.bool true) .bool=true by first | rfl | decide | simp[WShape.has,WShape.arms,WShape.armsAll])
  (show (WTm.eq .res (.lit (.bool true))).value [] { args:=args,res:=some (.bool true),after:=args } = some (.bool (true == true))from w_eq_bool (w_res rfl) w_lit) rfl
theorem attach_call {l:OpenLaw}{n:Nat}{q:Program}{loose:List Str}{XP:(Str->Option Value)->Heap->Prop}{YP:World->Heap->Prop}{d:DefRec}
  (hn:l.most=some n) (hdf:d.params.defaults=[])
  (call:∀(w:World) (s₀ s₁:Shared) (mg mb:Str->Option Value) (fa:Addr) (o:Obj) (pm cd doc:Value) (a:Addr) (vs:List Value) (ns:List Int),
   Ground q loose [] XP w s₀ mg mb s₁.heap->YP w s₁.heap →
   s₁.heap.get? fa=some o->o.data = .func (docDef d.name d.params d.body d.scope pm cd doc)->s₁.heap.CodeRec cd d.name->mg d.name=some (.ref fa) →
   s₁.heap.get? a=some { cls:=.type "list",data:=.seq vs.toArray }->IntsAre vs ns->ns.length<=n->s₁.gens = #[] →
   codeAny (model l.prog w) callerA (.call (.ref fa) ⟨[.ref a],[]⟩) (λr s'=>r = .ok (.ret (.bool true))/\OldK s₁.heap s'.heap/\s'.os=s₁.os/\AllBare s'.gens) s₁) :
  WalkO q loose XP YP l.row.toRowW d [] (λf vs=>PySem.call f vs):=by
 intro w s₀ s₁ mg mb G Y fa o pm cd doc dV kV ho hd hcd hD hmg hg args vals as hpre hlay hrd hwl hlo
 obtain rfl:dV = .none:=Dflts.none hD hdf
 obtain rfl:kV = .none:=Dflts.noKw hD
 obtain⟨a,vs,ns,rfl,rfl,hobj,hints,hlen⟩:=V8 hn hpre hwl
 refine enter_call (codeAny_mono (call w s₀ s₁ mg mb fa o pm cd doc a vs ns G Y ho (fd_plain hd) hcd hmg hobj hints hlen hg) λr s' hq=>?_)
 obtain⟨rfl,h2,h3,h4⟩:=hq
 exact⟨.inl ⟨.bool true,.bool true,[],rfl,λ_=>rfl,.bool true,V5 l _,λ_=>⟨List.Pairwise.nil,λ_ hm=>(nomatch hm)⟩⟩,h2,h3,h4⟩
end Att
namespace L2
open PySem PySem.Spec PyProof.Rows
theorem Xm:∀{vs:List Value}{ns:List Int},IntsAre vs ns->zP (ns.map V.int) vs
 | _,_,.nil=>.nil
 | _,_,.cons n t h=>.cons ⟨t,rfl⟩ (Xm h)
def zcg (H:Hp):Prop:=∀b,H b=none\/∃o xs,H b=some (.frz o (.lst xs))
theorem JH {P:Program}{w:World}{K:PySem.W.Frag}{mg mb:Str->Option Value}{CX:CXT}{k:Nat}{fa a:Addr}{fd:FuncData}{x:Str}{sp:Sp}{s₁:Shared}{vs:List Value}{ns:List Int}
  (KX:K.In s₁.heap) (hns:s₁.heap.Ns mainGlobals mg) (hb:s₁.heap.Ns builtinsNs mb) (hbb:∀x:Str,x≠"__name__"->mb x=bootBuiltins x) (hlim:s₁.heap.NoLimit) (hg:s₁.gens = #[])
  (ha:s₁.heap.get? a=some { cls:=.type "list",data:=.seq vs.toArray }) (hi:IntsAre vs ns) (hl:ns.length<=sizeLine) (hr:zX k callerA)
  (F:∀base:Heap,K.In base->base.Ns mainGlobals mg->jH P w K mg base CX k fa fd [x] sp) (hbind:∀(s:Shared) (u:Value),BindsTo s fd ⟨[u],[]⟩ [(x,u)])
  (hsp:∀H:Hp,zcg H->SqL K H a (ns.map V.int)->sp [.ref a] H (λv _=>v = .bl true) λ_ _ _=>False)
  (hCX:∀H e s',CX [] H s₁ (λ_ _ _=>False) e s'->False) :
  codeAny (model P w) callerA (.call (.ref fa) ⟨[.ref a],[]⟩) (λr s'=>r = .ok (.ret (.bool true))/\OldK s₁.heap s'.heap/\s'.os=s₁.os/\AllBare s'.gens) s₁:=by
 have rv:=Xm hi
 have lenV:=hi.length
 have core:∀H:Hp,zcg H->SqL K H a (ns.map V.int)->HOk P w H s₁.heap->(∀b,H b≠none->b=a)->(H a≠none->K.lookup a=none) →
   codeAny (model P w) callerA (.call (.ref fa) ⟨[.ref a],[]⟩) (λr s'=>r = .ok (.ret (.bool true))/\OldK s₁.heap s'.heap/\s'.os=s₁.os/\AllBare s'.gens) s₁:=by
  intro H hO hS hok hA hK
  have base_of:∀{b:Addr}{o:Obj},s₁.heap.get? b=some o->H b=none->(Xs s₁.heap H).get? b=some o:=λe n=>JE e n
  have noA:∀{b:Addr}{o:Obj}{es:Array DictEntry}{ep:Nat},s₁.heap.get? b=some o->o.data = .dict es ep->H b=none:=λ{b o es ep} e d=>by
   cases q:H b with
   | none=>rfl
   | some u =>
    have e':b=a:=hA b (by rw[q];simp)
    subst e'
    rw[ha]at e;cases e
    have d':Data.seq vs.toArray _=Data.dict es ep:=d
    cases d'
  have nsK:∀{b:Addr}{m:Str->Option Value},s₁.heap.Ns b m->(Xs s₁.heap H).Ns b m:=λ{b m} ⟨o,es,ep,e,d,r⟩=>⟨o,es,ep,base_of e (noA e d),d,r⟩
  have hKb:K.In (Xs s₁.heap H):=λb o e=>base_of (KX b o e) (by
   cases q:H b with
   | none=>rfl
   | some u =>
    have e':b=a:=hA b (by rw[q];simp)
    subst e'
    rw[hK (by rw[q];simp)]at e;cases e)
  have hM:Mod K mg (Xs s₁.heap H):=⟨hKb,nsK hns,⟨mb,nsK hb,hbb⟩,let ⟨mc,h1,h2⟩:=hlim;⟨mc,nsK h1,h2⟩⟩
  have e0:Qr P w K mg (Xs s₁.heap H) callerA [] s₁ H:=⟨rfl,hM,λb o e=>za2 e,Nat.le_of_eq (VQ _ _),trivial,λb hb=>absurd (show b∈([]:List Addr)from hb) (by simp),hok,.of_eq hg⟩
  refine codeAny_mono ((F _ hKb (nsK hns)).run callerA [] s₁ H ⟨[.ref a],[]⟩ [.ref a] [.ref a] _ _ hr e0 (hbind s₁ (.ref a)) (.cons rfl .nil) (hsp H hO hS)) λr s' h=>?_
  cases r with
  | error e=>exact(hCX H e s' h).elim
  | ok fl =>
   cases fl with
   | next=>exact False.elim h
   | brk=>exact False.elim h
   | cont=>exact False.elim h
   | ret u =>
    obtain⟨v,H',os,bare,un,hok',r',q⟩:=h
    have q':v = .bl true:=q
    subst q'
    obtain rfl:u=Value.bool true:=r'
    refine⟨rfl,OldK.of_keep λb o e=>?_,os,bare⟩
    cases q:H b with
    | none=>exact un.keep b o e q (by intro z;exact absurd (show b∈([]:List Addr)from z) (by simp)) (by simp)
    | some u =>
     rcases hO b with z | ⟨ob,xs,z⟩
     ·rw[q]at z;cases z
     ·have z2:=un.frzs b ob _ z
      obtain⟨e1,_⟩:=hok b _ z
      obtain⟨e2,_⟩:=hok' b _ z2
      rw[e]at e1;cases e1
      exact e2
 cases hk:K.lookup a with
 | some o =>
  have e:=KX a o hk
  rw[ha]at e
  cases e
  refine core (λ_=>none) (λ_=>.inl rfl) (.inr ⟨_,vs.toArray,_,hk,rfl,rfl,rfl,by rw[List.size_toArray,lenV];exact hl,by simpa using rv⟩) (λb u z=>by have z':(none:Option HO)=some u:=z;cases z') (λb z=>absurd rfl z) λz=>absurd rfl z
 | none =>
  refine core (λb=>if b=a then some (.frz { cls:=.type "list",data:=.seq vs.toArray } (.lst (ns.map V.int)))else none) (λb=>?_) (.inl (.inr ⟨{ cls:=.type "list",data:=.seq vs.toArray },if_pos rfl⟩)) (λb u z=>?_) (λb z=>?_) λ_=>hk
  ·by_cases hb:b=a
   ·exact .inr ⟨_,_,if_pos hb⟩
   ·exact .inl (if_neg hb)
  ·by_cases hb:b=a
   ·have z':=(if_pos hb).symm.trans z
    cases z'
    subst hb
    exact⟨ha,by rw[List.length_map];exact hl,vs,_,rv,ha⟩
   ·have z':=(if_neg hb).symm.trans z
    cases z'
  ·by_cases hb:b=a
   ·exact hb
   ·exact absurd (if_neg hb) z
end L2
namespace L2
open PySem PySem.Spec PyProof.Rows
theorem zbF {l:PySem.W.OpenLaw}{n k:Nat}{q:Program}{loose:List Str}{XP:(Str->Option Value)->Heap->Prop}{YP:World->Heap->Prop}{d:DefRec}{K:Params->PySem.W.Frag}{CX:World->CXT}{sp:World->Sp}{x:Str}
  (hn:l.most=some n) (hn2:n<=sizeLine) (hdf:d.params.defaults=[]) (hr:zX k callerA)
  (hY:∀(w:World) (h:Heap),YP w h->(K w.params).In h)
  (F:∀(w:World) (mg:Str->Option Value) (fa:Addr) (h:Heap),(K w.params).In h->h.Ns mainGlobals mg->mg d.name=some (.ref fa) →
   ∃fd:FuncData,(∀(s:Shared) (u:Value),BindsTo s fd ⟨[u],[]⟩ [(x,u)]) ∧
    ∀base:Heap,(K w.params).In base->base.Ns mainGlobals mg->jH l.prog w (K w.params) mg base (CX w) k fa fd [x] (sp w))
  (hsp:∀(w:World) (H:Hp) (a:Addr) (ns:List Int),ns.length<=n->zcg H->SqL (K w.params) H a (ns.map V.int)->sp w [.ref a] H (λv _=>v = .bl true) λ_ _ _=>False)
  (hCX:∀(w:World) (H:Hp) (s:Shared) (e:Value) (s':Shared),CX w [] H s (λ_ _ _=>False) e s'->False) :
  PySem.W.WalkO q loose XP YP l.row.toRowW d [] (λf vs=>PySem.call f vs):=by
 refine Att.attach_call hn hdf λw s₀ s₁ mg mb fa o pm cd doc a vs ns G Y ho hd hcd hmg hobj hints hlen hg=>?_
 have KX:=hY w _ Y
 obtain⟨fd,hb,hF⟩:=F w mg fa _ KX G.T.g hmg
 exact JH KX G.T.g G.T.b G.T.builtins G.T.nolimit hg hobj hints (Nat.le_trans hlen hn2) hr hF hb (λH hO hS=>hsp w H a ns hlen hO hS) λH e s'=>hCX w H s₁ e s'
end L2
namespace L2
open PySem PySem.Spec PyProof.Rows
def zaW (s:Stmt) (j:Nat):Stmt:=match s with
 | .ClassDef _ _ _ body _ _ _ _ _ _ _=>body.getD j (.Pass ⟨0,0,0,0⟩)
 | _=>.Pass ⟨0,0,0,0⟩
def zy (s:Stmt):Arguments:=match s with
 | .FunctionDef _ a _ _ _ _ _ _ _ _=>a
 | _=>{ posonlyargs:=[],args:=[],vararg:=none,kwonlyargs:=[],kw_defaults:=[],kwarg:=none,defaults:=[] }
def zv (s:Stmt):List Stmt:=match s with
 | .FunctionDef _ _ b _ _ _ _ _ _ _=>b
 | _=>[]
def zh (s:Stmt):Scope:=match s with
 | .FunctionDef _ _ _ _ _ _ sc _ _ _=>sc
 | _=>{ kind:=.function,names:=[],isGenerator:=false,isCoroutine:=false }
abbrev CX0:CXT:=λ_ _ _ _ _ _=>False
abbrev E0:XK:=λ_ _ _=>False
theorem zbP {X:Cx}:ZA CX0 X E0:=λ_ _ _ _ _ _ _ h=>h.elim
structure Fun (K:PySem.W.Frag) (x qual:Str) (st:Stmt) (f:Addr) (fd:FuncData):Prop where
 ex:∃(oc:Value) (od:Option Addr) (kV doc pm:Value) (an:Option Addr) (cdv ct:Value) (osl:Array (Option Value)),
  fd=PySem.W.fnOf x qual (zy st) (zv st) (zh st) .none kV doc pm an cdv ct/\K.lookup f=some ⟨oc,od,.func fd,osl⟩/\PySem.W.codeIn K cdv qual=true
 kp:PySem.W.keepIn K (.ref f)=true
section
variable {P:Program}{w:World}{K:PySem.W.Frag}{mg:Str->Option Value}{base:Heap}
theorem Fun.ok {x qual:Str}{st:Stmt}{f:Addr}{fd:FuncData}{N ps:List Str}{k:Nat}{sp:Sp}(F:Fun K x qual st f fd) (S:zB N ps (zh st)) (len:∀vs H Q E,sp vs H Q E->vs.length=ps.length)
  (hbody:∀(cdv:Value) (A:Around) (outer:List Env) (s:Shared) (H:Hp) (vs:List V) (Q:VK) (E:XK),zX k (A.deeper (envOfC qual (zh st) s.heap.objs.size f cdv))->sp vs H Q E →
   ∃t,PSs (jI CX0 P w K mg base N qual (zh st) f cdv A outer s H E).nox (zv st) t/\t { nx:=λ_ H'=>Q .non H',rt:=Q } (jq N vs) H):jH P w K mg base CX0 (k+1) f fd ps sp:=by
 obtain⟨oc,od,kV,doc,pm,an,cdv,ct,osl,rfl,lk,hcd⟩:=F.ex
 refine JA lk hcd S len λA outer s H vs Q E hr hsp=>?_
 obtain⟨t,h,q⟩:=hbody cdv A outer s H vs Q E hr hsp
 exact⟨t,h.nox,q⟩
theorem Fun.binds {x qual:Str}{st:Stmt}{f:Addr}{fd:FuncData}{ps:List Str}(F:Fun K x qual st f fd)
  (h:∀(kV doc pm:Value) (an:Option Addr) (cdv ct:Value) (us:List Value),us.length=ps.length->bindArgs (PySem.W.fnOf x qual (zy st) (zv st) (zh st) .none kV doc pm an cdv ct) ⟨us,[]⟩=pure (ps.zip us)):jf K fd ps []:=by
 obtain⟨oc,od,kV,doc,pm,an,cdv,ct,osl,rfl,lk,hcd⟩:=F.ex
 exact .all (h kV doc pm an cdv ct)
theorem JC {x qual:Str}{st:Stmt}{f:Addr}{oc:Value}{od an:Option Addr}{osl:Array (Option Value)}{kV doc pm cdv ct:Value}(l:K.lookup f=some ⟨oc,od,.func (PySem.W.fnOf x qual (zy st) (zv st) (zh st) .none kV doc pm an cdv ct),osl⟩)
  (c:PySem.W.codeIn K cdv qual=true) (k:PySem.W.keepIn K (.ref f)=true):Fun K x qual st f (PySem.W.fnOf x qual (zy st) (zv st) (zh st) .none kV doc pm an cdv ct):=⟨⟨oc,od,kV,doc,pm,an,cdv,ct,osl,rfl,l,c⟩,k⟩
end
theorem jG {n:Nat}(h:n<=1000):n<sizeLine:=Nat.lt_of_le_of_lt h (by decide)
section
variable {X:Cx}
theorem pv (i:Nat){x:Str}{pos:Pos}(hN:X.N[i]? = some x:=by rfl) (hv:Vis X.env.scope x:=by first | exact Or.inl rfl | exact Or.inr (Or.inl rfl) | exact Or.inr (Or.inr rfl)) (hd:(x == ("__debug__":Str))=false:=by decide)
  (hcd:(x == ("__classdict__":Str))=false:=by decide):PE X (.Name x pos) (zZ i):=zc7 hN hv hd hcd
end
theorem xb {A B:Prop}(h:B):if false=true then A else B:=by
 rw[if_neg Bool.false_ne_true]
 exact h
theorem xk {A B:Prop}(h:A):if true=true then A else B:=by
 rw[if_pos rfl]
 exact h
theorem xQ {c A B:Prop} [Decidable c] (h1:c->A) (h2:¬c->B):if c then A else B:=by
 by_cases h:c
 ·rw[if_pos h]
  exact h1 h
 ·rw[if_neg h]
  exact h2 h
def zr (H H':Hp):Prop:=∀b o,H b=some o->H' b=some o
theorem zr.refl (H:Hp):zr H H:=λ_ _ h=>h
theorem zr.trans {H H1 H2:Hp}(a:zr H H1) (b:zr H1 H2):zr H H2:=λc o h=>b c o (a c o h)
theorem zr.seq {K:PySem.W.Frag}{H H':Hp}{a:Addr}{xs:List V}(e:zr H H') (h:SqL K H a xs):SqL K H' a xs:=by
 rcases h with(h | ⟨o,h⟩) | h
 ·exact .inl (.inl (e _ _ h))
 ·exact .inl (.inr ⟨o,e _ _ h⟩)
 ·exact .inr h
end L2
set_option Elab.async false
set_option linter.all false
set_option maxRecDepth 100000
namespace L2
open PySem PySem.Spec PyProof.Rows
section
variable {prog:Program}{w:World}{A:Around}{R:Result->Shared->Prop}{s:Shared}
theorem jS {elt target iter:Expr}{ifs:List Expr}{scope:Scope}{pos:Pos}{it acc:Value}{env:Env}(I:Nat->Shared->Prop)
  (turn:∀n s,I n s->wpAny (model prog w) A (pyNext it) (λr s₁=>match r with
   | none=>R (.ok .next) s₁
   | some v=>wpAny (model prog w) A (letOwnedTupleGo target it v) (λ_ s₀=>wpAny (model prog w) A (assign target env v) (λ_ s₂ =>
     wpAny (model prog w) A (forIn ifs true λc r=>if r=true then do let ok <-isTrue c env (eval c env);pure (ForInStep.yield ok)else pure (ForInStep.yield r)) (λok s₃ =>
      if ok=true then wpAny (model prog w) A (eval elt env) (λx s₄ =>
       wpAny (model prog w) A (call (.builtin "list.append") [acc,x]) (λ_ s₅=>∃m,m<n/\I m s₅) (λ_ _=>False) s₄) (λ_ _=>False) s₃
      else ∃m,m<n/\I m s₃) (λ_ _=>False) s₂) (λ_ _=>False) s₀) (λ_ _=>False) s₁) (λ_ _=>False) s)
  (n:Nat) (h:I n s) :
  codeAny (model prog w) A (.compLoop (.ListComp elt [⟨target,iter,ifs,0⟩] scope pos) 0 it acc env) R s:=by
 refine codeAny_loop rfl I (λn s hI=>?_) n h
 show wpAny _ A ((compTurn (.ListComp elt [⟨target,iter,ifs,0⟩] scope pos) 0 it acc env).onRaise (λx=>do noteFrame x env;theTreesLotGoes x)) _ _ s
 refine wpAny_noted ?_
 rw[compTurn_list]
 have no:∀{X:Prop},∀(e:Value) (s':Shared),(λ_ _=>False:Value->Shared->Prop) e s'->X:=λ_ _ z=>False.elim z
 refine wpAny_bind (wpAny_standAt (wpAny_bind (wpAny_mono (turn n s hI) (λr s₁ h₁=>?_) λe s'=>no e s')))
 cases r with
 | none=>exact wpAny_pure h₁
 | some v =>
  refine wpAny_bind (wpAny_mono h₁ (λ_ s₀ h₀=>?_) λe s'=>no e s')
  refine wpAny_bind (wpAny_mono h₀ (λ_ s₂ h₂=>wpAny_bind (wpAny_mono h₂ (λok s₃ h₃=>?_) λe s'=>no e s')) λe s'=>no e s')
  cases ok with
  | false=>exact wpAny_pure ⟨rfl,h₃⟩
  | true =>
   exact wpAny_bind (wpAny_bind (wpAny_mono h₃ (λx s₄ h₄=>wpAny_bind (wpAny_mono h₄ (λ_ s₅ h₅=>wpAny_pure (wpAny_pure ⟨rfl,h₅⟩)) λe s'=>no e s')) λe s'=>no e s'))
end
def qo (X:Cx) (NB:List Str) (scope:Scope) (s3:Shared) (H3:Hp) (fp:List Addr):Cx :=
 { X with N:=NB,s₀:=s3,H₀:=H3,env:=compEnv scope s3.heap.objs.size X.env,outer:=X.stack,stack:=X.stack,ex:=fp,fn:=λ_=>true,pn:=[],xe:=λ_ _=>False }
def PTs (X:Cx) (ifs:List Expr) (t:TT):Prop :=
 ∀(pins:List (Addr×Obj)) (s:Shared) (σ:St) (H:Hp) (Q:Bool->Hp->Prop),Inv X pins σ H s->t σ H Q →
  wpAny (model X.prog X.w) X.A (forIn ifs true λc r=>if r=true then do let ok <-isTrue c X.env (eval c X.env);pure (ForInStep.yield ok)else pure (ForInStep.yield r)) (TP X pins σ Q) X.xe s
theorem xI {X:Cx}:PTs X [] (λ_ H Q=>Q true H):=λ_ _ _ H _ I h=>wpAny_tests_nil ⟨H,I,h⟩
theorem XD {X:Cx}{c:Expr}{t:TT}(h:PT X c t):PTs X [c] t:=λpins s σ H Q I q=>wpAny_tests_one (h pins s σ H Q I q)
def Vx (n:Nat) (wi:TI) (g:TG) (tt:TT) (te:TE):TE:=λσ H Q=>wi σ H λJ H1=>∀D,H1 D=none->∃W:Nat->Nat->Hp->List V->Prop,(∃m,W 0 m (upd H1 D (.lst [])) []) ∧
 ∀i m H2 ys,W i m H2 ys->H2 D=some (.lst ys)->(J.stop i H2/\Q (.ref D) H2) ∨
  (J.go i H2/\∀σB x H3,σB.length=n->J.yld i H2 x H3->g x σB H3 λσ4 H4=>tt σ4 H4 λb H5=>if b=true then te σ4 H5 (λv H6=>H6 D=some (.lst ys)/\ys.length<sizeLine/\∃m',m'<m/\W (i+1) m' (upd H6 D (.lst (ys++[v]))) (ys++[v]))
   else H5 D=some (.lst ys)/\∃m',m'<m/\W (i+1) m' H5 ys)
theorem vD {X:Cx}{elt tg iter:Expr}{ifs:List Expr}{scope:Scope}{pos:Pos}{NB:List Str}{wi:TI}{g:TG}{tt:TT}{te:TE}
  (hc:X.calm=true) (hfree:∀x∈scope.names,x.2≠.free) (hcell:∀x∈scope.names,x.2≠.cell) (hkind:scope.kind = .function) (hnames:∀x∈scope.names,x.2 = .local → scope.names.lookup x.1=some .local)
  (hi:PI X tg iter wi) (hb:∀s3 H3 fp,PG (qo X NB scope s3 H3 fp) tg g/\PTs (qo X NB scope s3 H3 fp) ifs tt/\PE (qo X NB scope s3 H3 fp) elt te)
  (hs:∀x,foldedSetIterable iter X.env x=pure x:=by intro _;rfl) :
  PE X (.ListComp elt [⟨tg,iter,ifs,0⟩] scope pos) (Vx NB.length wi g tt te):=by
 intro pins s σ H Q I h
 refine wpAny_ListComp hfree hkind hnames (thn (hi pins s σ H _ I h) λv s1 h1=>thn h1 λitv s2 h2=>?_) hs
 obtain⟨it,fp,tn,J,H2,e,I2,T,st2,f2,q2⟩:=h2
 subst e
 have hf2:H2 s2.heap.objs.size=none:=I2.hok.fresh (Nat.le_refl _)
 obtain⟨W,⟨m0,w0⟩,turn⟩:=q2 _ hf2
 refine wpAny_newObj_type (hd:=by size_fits) ?_
 have I3:Inv X pins σ (upd H2 s2.heap.objs.size (.lst [])) { s2 with heap:=s2.heap.push { cls:=.type "list",dict:=none,data:=.seq ([]:List Value).toArray } } :=
  I2.laid (t':=s2.toks) (λb u e=>Heap.get?_push_of_some _ e) (Nat.le_refl _) ⟨by decide,[],0,.nil,Heap.get?_push_size _ rfl⟩
 generalize hD:s2.heap.objs.size=D at *
 generalize hs3:({ s2 with heap:=s2.heap.push { cls:=.type "list",dict:=none,data:=.seq ([]:List Value).toArray } }:Shared)=s3 at *
 generalize hH3:upd H2 D (.lst [])=H3 at *
 have h3D:H3 D=some (.lst []):=by rw[<-hH3];exact zj
 have fpD:∀b∈fp,b≠D:=λb hb=>by
  obtain⟨o,e,_⟩:=T.obj _ _ st2 b hb
  rw[<-hD];exact Nat.ne_of_lt (Heap.lt_size e)
 have k23:∀b u,s2.heap.get? b=some u->s3.heap.get? b=some u:=λb u e=>by rw[<-hs3];exact Heap.get?_push_of_some _ e
 have st3:tn 0 s3.heap:=T.keep _ _ _ st2 λb _ o e=>k23 b o e
 have f3:∀b∈fp,Zz X pins H3 b:=λb hb=>⟨by rw[<-hH3,zO (fpD b hb)];exact(f2 b hb).1,(f2 b hb).2⟩
 refine wpAny_newFunctionEnv hcell (by intro y hy;simp at hy) (λh4 hns4 hsb4=>?_) hkind
 have k34:∀b u,s3.heap.get? b=some u->h4.get? b=some u:=λb u e=>hsb4.extBut b u (Nat.ne_of_lt (Heap.lt_size e)) (Heap.get?_push_of_some _ e)
 have okB:(qo X NB scope s3 H3 fp).Ok:=by
  refine⟨I3.ok.mod,hkind,I3.ok.glob,I3.ok.blt,Nat.le_refl _,λx y c e _=>?_,λx e=>?_,λx c _ e=>?_,I3.ok.hd,I3.ok.frames,.inl rfl,λb hb=>⟨?_,λx c e=>?_⟩,I3.bs,Nat.le_trans I3.ok.bsz I3.sz,λb o e hb=>?_,λb hb z=>?_,I3.stack,I3.stkFree⟩
  ·exact absurd (show ([]:List (Str×Addr)).lookup x=some c from e) (by simp)
  ·have e':scope.names.lookup x=some .cell\/scope.names.lookup x=some .free:=e
   rcases e' with e' | e'
   ·exact absurd rfl (hcell _ (PySem.mem_of_lookup e'))
   ·exact absurd rfl (hfree _ (PySem.mem_of_lookup e'))
  ·exact absurd (show ([]:List (Str×Addr)).lookup x=some c from e) (by simp)
  ·obtain⟨o,e,_⟩:=T.obj _ _ st3 b hb
   exact Nat.ne_of_lt (Heap.lt_size e)
  ·exact absurd (show ([]:List (Str×Addr)).lookup x=some c from e) (by simp)
  ·obtain⟨_,_,_,z,_⟩:=f3 b hb
   rcases z with z | z
   ·exact I3.ok.noex b o e z
   ·exact absurd (Nat.lt_of_lt_of_le (Heap.lt_size e) (Nat.le_trans I3.ok.bsz z)) (Nat.lt_irrefl _)
  ·obtain⟨_,z1,z2,_⟩:=f3 b hb
   rcases List.mem_cons.mp (I3.stkSub b z)with e | e
   ·exact z1 e
   ·exact z2 e
 have IB:Inv (qo X NB scope s3 H3 fp) [] (List.replicate NB.length none) H3 { s3 with heap:=h4,toks:=s3.toks+([]:List (Str×Value)).length }:=by
  refine⟨okB,rfl,I3.bare,Un.kept k34,⟨_,hns4,λi x v _ e _=>?_⟩,λx c e=>?_,I3.hok.fresh (Nat.le_refl _),λx c e=>?_,λp hp=>?_,I3.hok.kept k34,by simp[qo]⟩
  ·rw[List.getElem?_replicate]at e
   split at e <;> cases e
  ·exact absurd (show ([]:List (Str×Addr)).lookup x=some c from e) (by simp)
  ·exact absurd (show ([]:List (Str×Addr)).lookup x=some c from e) (by simp)
  ·exact absurd (show p∈([]:List (Addr×Obj))from hp) (by simp)
 have st4:tn 0 h4:=T.keep _ _ _ st3 λb _ o e=>k34 b o e
 have C_ne:∀b∈fp,b≠s3.heap.objs.size:=λb hb=>(okB.exf b hb).1
 have stat:∀{H':Hp},(∀b∈fp,H' b=none)->∀b∈fp,Zz (qo X NB scope s3 H3 fp) [] H' b:=λhn b hb =>
  ⟨hn b hb,C_ne b hb,okB.exfs b hb,.inl hb,λx c e=>absurd (show ([]:List (Str×Addr)).lookup x=some c from e) (by simp),λp hp=>absurd (show p∈([]:List (Addr×Obj))from hp) (by simp)⟩
 obtain⟨hg,ht,he⟩:=hb s3 H3 fp
 have fin:∀{σ':St}{H':Hp}{s':Shared},Inv (qo X NB scope s3 H3 fp) [] σ' H' s'->Q (.ref D) H' →
   ∃m,s'.heap.Ns s3.heap.objs.size m/\∀h',Heap.SameBut s3.heap.objs.size s'.heap h'->EP X pins σ Q (.ref D) { s' with heap:=h' }:=λ{σ' H' s'} J q=>by
  obtain⟨m,hm,_⟩:=J.loc
  refine⟨m,hm,λh' sb=>⟨.ref D,H',?_,rfl,q⟩⟩
  have neC:∀b o,s3.heap.get? b=some o->b≠s3.heap.objs.size:=λb o e=>Nat.ne_of_lt (Heap.lt_size e)
  have hfr:H' s3.heap.objs.size=none:=J.free
  have up:∀b o,b≠s3.heap.objs.size->s'.heap.get? b=some o->h'.get? b=some o:=λb o hb e=>(sb.2 b hb).trans e
  have hok':HOk X.prog X.w H' h':=λb ob e=>(J.hok b ob e).stay (λc w' hc q=>up c w' (by
   rintro rfl
   rcases hc with rfl | hc
   ·rw[hfr]at e;cases e
   ·rw[hfr]at hc;cases hc) q) (λ_ q=>q) λ_ _ q=>q
  have u:Un (frs X.stack) fp H3 H' s3.heap h' :=
   ⟨λb o e n hb hx=>up b o (neC b o e) (J.base.keep b o e n hb hx),λb o e n hb hx=>by
    obtain⟨sl,e'⟩:=J.base.slot b o e n hb hx
    exact⟨sl,up b _ (neC b o e) e'⟩,J.base.free,λb o e hx=>by
    obtain⟨o',e'⟩:=J.base.there b o e hx
    exact⟨o',up b _ (neC b o e) e'⟩,J.base.tups,J.base.frzs,J.base.tbls⟩
  refine I3.call' (s':={ s' with heap:=h' }) (ch:=fp) J.os u hok' J.bare λb hb=>?_
  obtain⟨z0,z1,z2,z3,z4,z5⟩:=f3 b hb
  exact⟨z3,z1,z4,z5⟩
 have loop:∀s5:Shared,s5 = { s3 with heap:=h4,toks:=s3.toks+([]:List (Str×Value)).length } →
   codeAny (model X.prog X.w) X.A (.compLoop (.ListComp elt [⟨tg,iter,ifs,0⟩] scope pos) 0 (.ref it) (.ref D) (compEnv scope s3.heap.objs.size X.env))
    (λr s'=>∃m,s'.heap.Ns s3.heap.objs.size m/\∀h',Heap.SameBut s3.heap.objs.size s'.heap h' →
     match r with | .ok _=>EP X pins σ Q (.ref D) { s' with heap:=h' } | .error x=>wpAny (model X.prog X.w) X.A (passOn "comprehension.variables-let-go" x (compEnv scope s3.heap.objs.size X.env)) (EP X pins σ Q) X.xe { s' with heap:=h' }) s5:=by
  rintro s5 rfl
  refine jS (λn s'=>∃i σ' H' ys,Inv (qo X NB scope s3 H3 fp) [] σ' H' s'/\tn i s'.heap/\(∀b∈fp,H' b=none)/\H' D=some (.lst ys)/\W i n H' ys) ?_ m0
   ⟨0,_,H3,[],IB,st4,λb hb=>(f3 b hb).1,h3D,by rw[<-hH3]at *;exact w0⟩
  rintro n s6 ⟨i,σ6,H6,ys,I6,st6,fr6,hD6,w6⟩
  rcases turn i n H6 ys w6 hD6 with⟨stop,qn⟩ | ⟨go,step⟩
  ·refine thn (T.done (qo X NB scope s3 H3 fp) rfl rfl rfl hc i [] s6 σ6 H6 _ I6 (stat fr6) st6 stop) λr s7 ⟨hr,I7⟩=>?_
   subst hr
   exact fin I7 qn
  ·refine thn (T.item (qo X NB scope s3 H3 fp) rfl rfl rfl hc i [] s6 σ6 H6 _ I6 (stat fr6) st6 go) λr s7 ⟨u,hr,h7⟩=>?_
   subst hr
   refine thn h7 λ_ s8 ⟨x,H8,I8,r8,y8,st8,fr8⟩=>?_
   have I8':=I8.pinned (stat fr8) (T.obj _ _ st8)
   have again:∀{σ9:St}{H9:Hp}{s9:Shared}{zs:List V}{m':Nat},Inv (qo X NB scope s3 H3 fp) ([]++Zb fp s8.heap) σ9 H9 s9->H9 D=some (.lst zs)->m'<n->W (i+1) m' H9 zs →
     ∃m,m<n/\∃i σ' H' ys,Inv (qo X NB scope s3 H3 fp) [] σ' H' s9/\tn i s9.heap/\(∀b∈fp,H' b=none)/\H' D=some (.lst ys)/\W i m H' ys:=λ{σ9 H9 s9 zs m'} I9 hz hm w9=>by
    refine⟨m',hm,i+1,σ9,H9,zs,I9.unpinned,T.keep _ _ _ st8 λb hb o e=>(I9.pin (b,o) (List.mem_append_right _ (List.mem_append_right _ (qp hb e)))).1,λb hb=>?_,hz,w9⟩
    obtain⟨o,e,d⟩:=T.obj _ _ st8 b hb
    exact(I9.pin (b,o) (List.mem_append_right _ (List.mem_append_right _ (qp hb e)))).2.1
   refine thn (hg _ s8 σ6 H8 x u _ I8' r8 (step σ6 x H8 I6.len y8)) λ_ s9 ⟨σ9,H9,I9,q9⟩=>?_
   refine thn (ht _ s9 σ9 H9 _ I9 q9) λok s10 ⟨H10,I10,q10⟩=>?_
   cases ok with
   | false =>
    rw[if_neg (by decide)]at q10 ⊢
    obtain⟨hz,m',hm,w'⟩:=q10
    exact again I10 hz hm w'
   | true =>
    rw[if_pos rfl]at q10 ⊢
    refine thn (he _ s10 σ9 H10 _ I10 q10) λy s11 ⟨v,H11,I11,r11,hz,hlen,m',hm,w'⟩=>?_
    refine thn (jz _ s11 σ9 H11 (.ref D) [v] (.ref D) [y] (λ_ H12=>H12=upd H11 D (.lst (ys++[v]))) I11 rfl (.cons r11 .nil) ⟨D,ys,v,rfl,rfl,hz,hlen,rfl⟩) λ_ s12 ⟨_,H12,I12,_,e12⟩=>?_
    subst e12
    exact again I12 zj hm w'
 exact codeAny_compStart_list (loop _ rfl) (T.self X.A 0 _ _ _ st4 (loop _ rfl))
end L2
set_option Elab.async false
set_option linter.all false
set_option maxRecDepth 100000
namespace L2
open PySem PySem.Spec PyProof.Rows
mutual
inductive RdD (H:Hp):V->PyData->Prop
 | non:RdD H .non .none
 | bl (b:Bool):RdD H (.bl b) (.bool b)
 | int (i:Int):RdD H (.int i) (.int i)
 | str (x:Str):RdD H (.str x) (.str x)
 | tup {a:Addr}{xs:List V}{ds:List PyData}:H a=some (.tup xs)->ZV H xs ds->RdD H (.ref a) (.tuple ds)
 | lst {a:Addr}{xs:List V}{ds:List PyData}:H a=some (.lst xs)->ZV H xs ds->RdD H (.ref a) (.list ds)
inductive ZV (H:Hp):List V->List PyData->Prop
 | nil:ZV H [] []
 | cons {x:V}{d:PyData}{xs:List V}{ds:List PyData}:RdD H x d->ZV H xs ds->ZV H (x::xs) (d::ds)
end
section
variable {X:Cx}{pins:List (Addr×Obj)}{σ:St}{H:Hp}{s:Shared}
mutual
theorem RdD.reads (I:Inv X pins σ H s):∀{x:V}{d:PyData},RdD H x d->∀{u:Value},xg x u->∃as,Reads s.heap u d as
 | _,_,.non,u,r=>by cases(show u=Value.none from r);exact⟨_,.none⟩
 | _,_,.bl b,u,r=>by cases(show u=Value.bool b from r);exact⟨_,.bool b⟩
 | _,_,.int i,u,r=>by obtain⟨t,e⟩:=(show ∃t,u=Value.int i t from r);subst e;exact⟨_,.int i t⟩
 | _,_,.str x,u,r=>by obtain⟨t,e⟩:=(show ∃t,u=Value.str x t from r);subst e;exact⟨_,.str x t⟩
 | _,_,@RdD.tup _ a xs ds e h,u,r=>by
  cases(show u=Value.ref a from r)
  obtain⟨_,its,rv,o,h1,h2,n,h3⟩:=(show xF X.prog X.w H s.heap a (.tup xs)from I.hok a _ e)
  obtain⟨as,ra⟩:=ZV.reads I h rv
  exact⟨_,.tuple h1 h2 h3 (by simpa using ra)⟩
 | _,_,@RdD.lst _ a xs ds e h,u,r=>by
  cases(show u=Value.ref a from r)
  obtain⟨_,its,n,rv,h1⟩:=(show xF X.prog X.w H s.heap a (.lst xs)from I.hok a _ e)
  obtain⟨as,ra⟩:=ZV.reads I h rv
  exact⟨_,.list h1 rfl rfl (by simpa using ra)⟩
theorem ZV.reads (I:Inv X pins σ H s):∀{xs:List V}{ds:List PyData},ZV H xs ds->∀{us:List Value},zP xs us->∃as,ReadsAll s.heap us ds as
 | _,_,.nil,us,r=>by cases r;exact⟨_,.nil⟩
 | _,_,.cons h t,us,r=>by
  cases r with
  | cons r1 r2 =>
   obtain⟨a1,q1⟩:=RdD.reads I h r1
   obtain⟨a2,q2⟩:=ZV.reads I t r2
   exact⟨_,.cons q1 q2⟩
end
end
def rEqD:R2:=λx y H Q=>∃d e,RdD H x d/\RdD H y e/\SeqAt.shaped d=true/\SeqAt.shaped e=true/\Q (.bl (PyData.eqv d e)) H
def zda:R2:=λx y H Q=>∃d e,RdD H x d/\RdD H y e/\SeqAt.shaped d=true/\SeqAt.shaped e=true/\Q (.bl (!PyData.eqv d e)) H
section
variable {X:Cx}
theorem Xy (hu:X.A.units+64<cLine):OpR X (compareOp .Eq) rEqD:=by
 intro pins s σ H x y v u Q I rx ry h
 obtain⟨d,e,hd,he,s1,s2,q⟩:=h
 obtain⟨as,r1⟩:=hd.reads I rx
 obtain⟨bs,r2⟩:=he.reads I ry
 exact eq_dataH r1 r2 s1 s2 hu ⟨.bl _,H,I,rfl,q⟩
theorem Za (hu:X.A.units+64<cLine):OpR X (compareOp .NotEq) zda:=by
 intro pins s σ H x y v u Q I rx ry h
 obtain⟨d,e,hd,he,s1,s2,q⟩:=h
 obtain⟨as,r1⟩:=hd.reads I rx
 obtain⟨bs,r2⟩:=he.reads I ry
 exact ne_dataH r1 r2 s1 s2 hu ⟨.bl _,H,I,rfl,q⟩
def Bd (n:Nat) (i:Int):Prop:=i.natAbs<2^n
theorem Bd.mono {m n:Nat}{i:Int}(h:Bd m i) (l:m<=n):Bd n i:=Nat.lt_of_lt_of_le h (Nat.pow_le_pow_right (by decide) l)
theorem Bd.bits {n:Nat}{i:Int}(h:Bd n i):Builtin.Int.intBits i<=n:=intBits_le_iff.mpr h
theorem Bd.of_bits {n:Nat}{i:Int}(h:Builtin.Int.intBits i<=n):Bd n i:=intBits_le_iff.mp h
theorem Bd.mul {m n:Nat}{i j:Int}(h:Bd m i) (k:Bd n j):Bd (m+n) (i*j):=.of_bits (intBits_mul_le h.bits k.bits)
theorem Bd.add {m n:Nat}{i j:Int}(h:Bd m i) (k:Bd n j):Bd (max m n+1) (i+j):=.of_bits (intBits_add_le h.bits k.bits)
theorem Bd.neg {n:Nat}{i:Int}(h:Bd n i):Bd n (-i):=by unfold Bd;rw[Int.natAbs_neg];exact h
theorem Bd.sub {m n:Nat}{i j:Int}(h:Bd m i) (k:Bd n j):Bd (max m n+1) (i - j):=by rw[Int.sub_eq_add_neg];exact h.add k.neg
def Z4 (i j:Int):Prop:=Bd 1000000 i/\Bd 1000000 j
theorem zJ:OpR X (binaryOp .Mult) (rI Z4 λi j=>.int (i*j)):=opI λ_ _ _ _ _ _ _ hc q=>mul_int q (IntMulOk.of_le hc.1.bits hc.2.bits (by decide))
def XV (i j:Int):Prop:=j≠0/\Bd 8900 j
theorem qj:OpR X (binaryOp .FloorDiv) (rI XV λi j=>.int (i.fdiv j)):=opI λ_ j _ _ _ _ _ hc q=>floordiv_int hc.1 q (.inl (PyProof.noPylong_of_log2 (by
 have h1:j.natAbs≠0:=λz=>hc.1 (Int.natAbs_eq_zero.mp z)
 have h2:j.natAbs<2^9000:=Nat.lt_of_lt_of_le hc.2 (Nat.pow_le_pow_right (by decide) (by decide))
 exact(Nat.log2_lt h1).mpr h2)))
theorem vC:vg X (.builtin "isinstance") (λxs H Q=>∃x t n b,xs=[x,.ty n]/\j7 X.K H x t/\PySem.W.kitOne X.K t (.type n)=some b/\Q (.bl b) H):=by
 intro pins s σ H xs us Q I r h
 obtain⟨x,t,n,b,rfl,ty,e,q⟩:=h
 obtain⟨u,w',rfl,r1,r2⟩:=Qp r
 cases(show w'=Value.type n from r2)
 exact VS I r1 ty e λtk=>⟨.bl b,H,I.tok tk,rfl,q⟩
end
end L2
set_option Elab.async false
set_option linter.all false
set_option maxRecDepth 100000
namespace HT
open PySem PySem.Spec PyProof.Rows L2
end HT
namespace L2
open PySem PySem.Spec PyProof.Rows
end L2
namespace KM
theorem X0 {a b:Int}(ha:0<=a) (hb:0<b):Int.gcd b (a % b)=Int.gcd a b:=by
 obtain⟨m,rfl⟩:=Int.eq_ofNat_of_zero_le ha
 obtain⟨n,rfl⟩:=Int.eq_ofNat_of_zero_le (Int.le_of_lt hb)
 rw[<-Int.natCast_emod,Int.gcd_comm (m:Int)]
 show Nat.gcd n (m % n)=Nat.gcd n m
 rw[Nat.gcd_comm n (m % n)]
 exact(Nat.gcd_rec n m).symm
theorem zT (q:Rat):(q.den:Int)≠0:=by have:=q.den_nz;omega
theorem den_pos (q:Rat):(0:Int)<q.den:=by have:=q.den_nz;omega
def dv (t b:Int):Int:=if b<0 then -(Int.gcd t b:Int)else(Int.gcd t b:Int)
theorem zaS {t b:Int}(hb:b≠0):0<Int.gcd t b:=Int.gcd_pos_of_ne_zero_right _ hb
theorem zbK {t b:Int}(hb:b≠0):dv t b≠0:=by
 have:=zaS (t:=t) hb
 unfold dv;split <;> omega
theorem zcq {t b:Int}:(dv t b).natAbs=Int.gcd t b:=by
 unfold dv;split <;> omega
theorem zbJ {t b:Int}(hb:b≠0):(dv t b).natAbs<=b.natAbs:=by
 rw[zcq];exact Nat.le_of_dvd (by omega) (Int.gcd_dvd_natAbs_right t b)
theorem QC {t b:Int}(hb:b≠0):t.fdiv (dv t b)=(Rat.divInt t b).num:=by
 rw[Rat.num_divInt,Int.gcd_comm b t]
 have h1:((Int.gcd t b:Nat):Int) ∣ t:=Int.gcd_dvd_left ..
 unfold dv
 split
 ·rename_i h
  rw[Int.fdiv_eq_ediv_of_dvd (Int.neg_dvd.mpr h1),Int.ediv_neg,Int.sign_eq_neg_one_of_neg h]
  rw[show (-1*t) = -t by omega,Int.neg_ediv_of_dvd h1]
 ·rename_i h
  rw[Int.fdiv_eq_ediv_of_dvd h1,Int.sign_eq_one_of_pos (by omega),Int.one_mul]
theorem Jx {t b:Int}(hb:b≠0):b.fdiv (dv t b)=((Rat.divInt t b).den:Int):=by
 rw[Rat.den_divInt,if_neg hb,Int.gcd_comm b t]
 have h1:((Int.gcd t b:Nat):Int) ∣ b:=Int.gcd_dvd_right ..
 have h2:Int.gcd t b ∣ b.natAbs:=Int.gcd_dvd_natAbs_right t b
 unfold dv
 split
 ·rename_i h
  rw[Int.fdiv_eq_ediv_of_dvd (Int.neg_dvd.mpr h1),Int.ediv_neg]
  rw[Int.natCast_ediv,show ((b.natAbs:Nat):Int) = -b by omega,Int.neg_ediv_of_dvd h1]
 ·rename_i h
  rw[Int.fdiv_eq_ediv_of_dvd h1,Int.natCast_ediv,show ((b.natAbs:Nat):Int)=b by omega]
theorem JP {t b:Int}(hb:b≠0):(Rat.divInt t b).num.natAbs<=t.natAbs:=by
 rw[<-QC hb]
 have:t.fdiv (dv t b) ∣ t:=by
  have h1:dv t b ∣ t:=by
   unfold dv;split
   ·exact Int.neg_dvd.mpr (Int.gcd_dvd_left ..)
   ·exact Int.gcd_dvd_left ..
  obtain⟨c,hc⟩:=h1
  rw[Int.fdiv_eq_ediv_of_dvd ⟨c,hc⟩]
  refine⟨dv t b,?_⟩
  exact(Int.ediv_mul_cancel ⟨c,hc⟩).symm
 by_cases h0:t=0
 ·subst h0;simp
 ·exact Nat.le_of_dvd (by omega) (Int.natAbs_dvd_natAbs.mpr this)
theorem vZ {t b:Int}(hb:b≠0):(Rat.divInt t b).den<=b.natAbs:=by
 rw[Rat.den_divInt,if_neg hb];exact Nat.div_le_self _ _
theorem XA (a b:Rat):Rat.divInt (a.num*b.den+b.num*a.den) (a.den*b.den)=a+b:=by
 rw[Rat.add_def',<-Rat.divInt_ofNat];simp
theorem ZT (a b:Rat):Rat.divInt (a.num*b.num) (a.den*b.den)=a*b:=by
 rw[Rat.mul_def',<-Rat.divInt_ofNat];simp
theorem j0 (a b:Rat):Rat.divInt (a.num*b.den) (a.den*b.num)=a/b:=by
 rw[Rat.div_def,Rat.inv_def,<-Rat.divInt_mul_divInt,Rat.num_divInt_den]
theorem jV (a b:Rat):a.num*b.den<b.num*a.den↔a<b:=(Rat.lt_iff a b).symm
theorem QN (n:Int):Rat.divInt n 1=(n:Rat):=by simpa using Rat.num_divInt_den (n:Rat)
theorem Vk (n:Int):(n:Rat).num=n:=Rat.num_intCast n
theorem Vj (n:Int):(n:Rat).den=1:=Rat.den_intCast n
structure vf where
 pl:Rat
 sp:Rat
 wt:Int
end KM
set_option Elab.async false
set_option linter.all false
set_option maxRecDepth 100000
namespace L2
open PySem PySem.Spec PyProof.Rows
structure Cal (P:Program) (w:World) (K:PySem.W.Frag) (mg:Str->Option Value) (base:Heap) (x:Str) (k:Nat) (ps:List Str) (dvs:List V) (sp:Sp):Prop where
 ex:∃f fd ds,jH P w K mg base CX0 k f fd ps sp/\mg x=some (.ref f)/\PySem.W.keepIn K (.ref f)=true/\jf K fd ps ds/\zP dvs ds
theorem zw {X:Cx}{x:Str}{k:Nat}{ps:List Str}{dvs:List V}{sp:Sp}{p pos:Pos}{e:Expr}{es:List Expr}{t:TA}
  (c:Cal X.prog X.w X.K X.mg X.base x k ps dvs sp) (hr:zX k X.A) (ha:PA X (e::es) t) (hg:Gl X x:=by rfl) (hdb:(x == ("__debug__":Str))=false:=by decide)
  (he:starEach (e::es) X.env=(false,eval e X.env)::starEach es X.env:=by rfl) (hpl:(backTo pos (starEach es X.env)).any (·.1)=false:=by rfl) :
  PE X (.Call (.Name x p) (e::es) [] pos) (jt sp dvs E0 t):=by
 obtain⟨f,fd,ds,F,hm,hk,hb,hd⟩:=c.ex
 exact zbj F hr hg hm hk hb hd zbP ha hdb he hpl
structure Df (K:PySem.W.Frag) (mg:Str->Option Value) (x:Str) (st:Stmt) (ps:List Str) (dvs:List V):Prop where
 ex:∃(f:Addr) (oc:Value) (od:Option Addr) (dV kV doc pm:Value) (an:Option Addr) (cdv ct:Value) (osl:Array (Option Value)) (ds:List Value),
  K.lookup f=some ⟨oc,od,.func (PySem.W.fnOf x x (zy st) (zv st) (zh st) dV kV doc pm an cdv ct),osl⟩/\PySem.W.codeIn K cdv x=true/\PySem.W.keepIn K (.ref f)=true/\mg x=some (.ref f) ∧
  zP dvs ds/\jf K (PySem.W.fnOf x x (zy st) (zv st) (zh st) dV kV doc pm an cdv ct) ps ds
section
variable {P:Program}{w:World}{K:PySem.W.Frag}{mg:Str->Option Value}{base:Heap}
theorem Df.cal {x:Str}{st:Stmt}{N ps:List Str}{dvs:List V}{k:Nat}{sp:Sp}(D:Df K mg x st ps dvs) (S:zB N ps (zh st)) (len:∀vs H Q E,sp vs H Q E->vs.length=ps.length)
  (hbody:∀(f:Addr) (cdv:Value) (A:Around) (outer:List Env) (s:Shared) (H:Hp) (vs:List V) (Q:VK) (E:XK),zX k (A.deeper (envOfC x (zh st) s.heap.objs.size f cdv))->sp vs H Q E →
   ∃t,PSs (jI CX0 P w K mg base N x (zh st) f cdv A outer s H E).nox (zv st) t/\t { nx:=λ_ H'=>Q .non H',rt:=Q } (jq N vs) H):Cal P w K mg base x (k+1) ps dvs sp:=by
 obtain⟨f,oc,od,dV,kV,doc,pm,an,cdv,ct,osl,ds,lk,hcd,hk,hm,hv,hb⟩:=D.ex
 refine⟨⟨f,_,ds,JA lk hcd S len λA outer s H vs Q E hr hsp=>?_,hm,hk,hb,hv⟩⟩
 obtain⟨t,h,q⟩:=hbody f cdv A outer s H vs Q E hr hsp
 exact⟨t,h.nox,q⟩
theorem zQ {x:Str}{st:Stmt}{ps:List Str}{f:Addr}{oc:Value}{od an:Option Addr}{osl:Array (Option Value)}{dV kV doc pm cdv ct:Value}
  (l:K.lookup f=some ⟨oc,od,.func (PySem.W.fnOf x x (zy st) (zv st) (zh st) dV kV doc pm an cdv ct),osl⟩) (c:PySem.W.codeIn K cdv x=true) (k:PySem.W.keepIn K (.ref f)=true) (m:mg x=some (.ref f))
  (hb:∀us:List Value,us.length=ps.length->bindArgs (PySem.W.fnOf x x (zy st) (zv st) (zh st) dV kV doc pm an cdv ct) ⟨us,[]⟩=pure (ps.zip us)):Df K mg x st ps [] :=
 ⟨⟨f,oc,od,dV,kV,doc,pm,an,cdv,ct,osl,[],l,c,k,m,.nil,.all hb⟩⟩
end
def rp (q:Rat):List V:=[.int q.num,.int (q.den:Int)]
def zu (H:Hp) (p:Addr) (q:Rat):Prop:=H p=some (.tup (rp q))
theorem zu.same {H H':Hp}{p:Addr}{q:Rat}(h:zu H p q) (e:zr H H'):zu H' p q:=e _ _ h
def Sz (n:Nat) (q:Rat):Prop:=Bd n q.num/\Bd n (q.den:Int)
theorem Sz.mono {m n:Nat}{q:Rat}(h:Sz m q) (l:m<=n):Sz n q:=⟨h.1.mono l,h.2.mono l⟩
theorem Bd.of_le {n:Nat}{i j:Int}(h:i.natAbs<=j.natAbs) (b:Bd n j):Bd n i:=Nat.lt_of_le_of_lt h b
theorem Sz.divInt {n:Nat}{t b:Int}(hb:b≠0) (h1:Bd n t) (h2:Bd n b):Sz n (Rat.divInt t b) :=
 ⟨h1.of_le (KM.JP hb),h2.of_le (by have:=KM.vZ (t:=t) hb;omega)⟩
theorem Sz.add {m n:Nat}{x y:Rat}(h:Sz m x) (k:Sz n y):Sz (m+n+1) (x+y):=by
 rw[<-KM.XA]
 refine .divInt (Int.mul_ne_zero (KM.zT x) (KM.zT y)) ?_ ((h.2.mul k.2).mono (by omega))
 exact((h.1.mul k.2).add (k.1.mul h.2)).mono (by omega)
theorem Sz.mul {m n:Nat}{x y:Rat}(h:Sz m x) (k:Sz n y):Sz (m+n) (x*y):=by
 rw[<-KM.ZT]
 exact .divInt (Int.mul_ne_zero (KM.zT x) (KM.zT y)) (h.1.mul k.1) (h.2.mul k.2)
theorem Sz.int {n:Nat}{i:Int}(h:Bd n i) (hn:1<=n):Sz n (i:Rat):=by
 refine⟨by rw[KM.Vk];exact h,?_⟩
 rw[KM.Vj]
 exact Bd.mono (m:=1) (show (1:Int).natAbs<2^1 by decide) hn
theorem V9 (q:Rat):SeqAt.shaped (.tuple [.int q.num,.int (q.den:Int)])=true:=rfl
theorem zu.rd {H:Hp}{p:Addr}{q:Rat}(h:zu H p q):RdD H (.ref p) (.tuple [.int q.num,.int (q.den:Int)]):=.tup h (.cons (.int _) (.cons (.int _) .nil))
theorem zcr (x y:Rat):PyData.eqv (.tuple [.int x.num,.int (x.den:Int)]) (.tuple [.int y.num,.int (y.den:Int)])=decide (x=y):=by
 simp only[PyData.eqv,PyData.eqvAll,Bool.and_true]
 rw[Bool.eq_iff_iff]
 simp only[Bool.and_eq_true,beq_iff_eq,decide_eq_true_eq]
 constructor
 ·rintro ⟨h1,h2⟩;exact Rat.ext h1 (by omega)
 ·rintro rfl;exact⟨rfl,rfl⟩
def xX:Sp:=λvs H Q _=>∃t b,vs=[.int t,.int b]/\b≠0/\Bd 8900 b/\∀p H',zr H H'->zu H' p (Rat.divInt t b)->Q (.ref p) H'
def xJ (C:Rat->Rat->Prop) (f:Rat->Rat->Rat):Sp:=λvs H Q _=>∃p q x y,vs=[.ref p,.ref q]/\zu H p x/\zu H q y/\C x y/\∀r H',zr H H'->zu H' r (f x y)->Q (.ref r) H'
def Sz2 (x y:Rat):Prop:=Sz 4000 x/\Sz 4000 y
theorem at0 {α:Type}(a b:α):atI [a,b] 0=some a:=rfl
theorem at1 {α:Type}(a b:α):atI [a,b] 1=some b:=rfl
theorem zr.upd {H:Hp}{p:Addr}{o:HO}(h:H p=none):zr H (upd H p o):=λb u e=>by rw[zO (zU e h)];exact e
end L2
set_option Elab.async false
set_option linter.all false
set_option maxRecDepth 100000
namespace L2
open PySem PySem.Spec PyProof.Rows
def TrX (h B:Heap) (e:Addr) (cls a0:Value) (dct:Option Addr) (fl:Value):Prop :=
 ∃oe vs T oT ts,h.get? e=some oe/\oe.cls=cls/\oe.dict=dct/\oe.data = .fields vs/\vs[0]? = some a0/\vs[1]? = some (.ref T)/\B.get? T=none/\T≠e/\h.get? T=some oT/\oT.data = .fields ts/\ts[3]? = some fl
theorem V1 (o:Obj) (f:Array Value->Array Value):(Obj.mapFields f o).dict=o.dict:=by
 unfold Obj.mapFields;split <;> rfl
section
variable {M:Model}{A:Around}{E:Value->Shared->Prop}{s:Shared}{B:Heap}{env:Env}{outer l:List Env}{L e:Addr}{oe:Obj}{vs:Array Value}{a0 cls fl:Value}{dct:Option Addr}{Q:Unit->Shared->Prop}
theorem Vg {head:Value}{hadNext:Bool}(hfr:A.frames=some (env::outer)) (hl:s.heap.FunFrames B (env::outer)) (hf:env.frame=some L) (he:s.heap.get? e=some oe) (hB:B.StaysIn s.heap) (hn:B.get? e=none) (hd:oe.data = .fields vs) (hz:1<vs.size) (h0:vs[0]? = some a0)
  (q:∀h',B.StaysIn h'->h'.FunFrames B (env::outer)->TrX h' B e oe.cls a0 oe.dict (rawInt L)->s.heap.UpToSlots h'->Q () { s with heap:=h' }) :
  wpAny M A (do let a <-frameOf env;let pl <-entryPlaceOf L hadNext;let b <-EntryCells.newEntry head a .none (rawInt L) .none pl;setField (.ref e) 1 b) Q E s:=by
 have nf:e∉(env::outer).filterMap (·.frame):=λm=>by
  obtain⟨_,o,ho,hnf⟩:=hl.mem m
  rw[he]at ho;cases ho;exact hnf vs hd
 refine wpAny_bind (wpAny_frameOf_fun hfr hl hf λg1 k1=>wpAny_bind (wpAny_entryPlaceOf λpl hpl=>?_))
 unfold EntryCells.newEntry newFields
 have e1:g1.get? e=some oe:=(k1.2.1 e nf).trans he
 have B1:B.StaysIn g1:=λb o z=>(k1.2.1 b λm=>by rw[(hl.mem m).1]at z;cases z).trans (hB b o z)
 have fr:g1.objs.size≠e:=Nat.ne_of_gt (Heap.lt_size e1)
 have d3:=Obj.data_mapFields hd (·.setIfInBounds 1 (Value.ref g1.objs.size))
 refine wpAny_bind (wpAny_newObj_type (wpAny_setField (Heap.get?_push_of_some _ e1) hd hz (q _ (λb o z=>?_) (hl.of_keeps λb o hb nn=>?_) ?_ λb o hb nn=>?_)) (hpl.sizeOk5 _ _ _ _ _))
 ·have ne:e≠b:=λr=>by rw[<-r,hn]at z;cases z
  rw[Heap.get?_update_other _ _ ne]
  exact Heap.get?_push_of_some _ (B1 b o z)
 ·obtain⟨sl,z⟩:=k1.2.2 b o hb
  have ne:e≠b:=λr=>by rw[<-r,he]at hb;cases hb;exact nn vs hd
  exact⟨{ o with slots:=sl },by rw[Heap.get?_update_other _ _ ne];exact Heap.get?_push_of_some _ z,rfl⟩
 ·refine⟨_,_,g1.objs.size,_,_,Heap.get?_update_self _ (Heap.get?_push_of_some _ e1) (Obj.isFreed_of_fields d3),Obj.cls_mapFields _ _,V1 _ _,d3,?_,by simp[hz],B1.fresh,fr,(Heap.get?_update_other _ _ (Ne.symm fr)).trans (Heap.get?_push_size g1 rfl),rfl,?_⟩
  ·rw[Array.getElem?_setIfInBounds_ne (by decide)];exact h0
  ·first | (simp;done) | (rcases hpl with rfl | ⟨_,_,_,_,_,_,_,rfl⟩ <;> simp)
 ·obtain⟨sl,z⟩:=k1.2.2 b o hb
  have ne:e≠b:=λr=>by rw[<-r,he]at hb;cases hb;exact nn vs hd
  exact⟨sl,by rw[Heap.get?_update_other _ _ ne];exact Heap.get?_push_of_some _ z⟩
theorem QM (hfr:A.frames=some (env::outer)) (hl:s.heap.FunFrames B (env::outer)) (hf:env.frame=some L) (he:s.heap.get? e=some oe) (hB:B.StaysIn s.heap) (hn:B.get? e=none) (hd:oe.data = .fields vs) (h1:vs[1]? = some .none) (h0:vs[0]? = some a0)
  (q:∀h',B.StaysIn h'->h'.FunFrames B (env::outer)->TrX h' B e oe.cls a0 oe.dict (rawInt L)->s.heap.UpToSlots h'->Q () { s with heap:=h' }):wpAny M A (noteFrame (.ref e) env) Q E s:=by
 unfold noteFrame
 simp only[hf]
 refine wpAny_bind (wpAny_field he hd h1 ?_)
 rw[if_neg (by decide)]
 exact Vg hfr hl hf he hB hn hd (Array.getElem?_eq_some_iff.mp h1).1 h0 q
theorem V3 (hfr:A.frames=some (env::outer)) (hl:s.heap.FunFrames B (env::outer)) (hf:env.frame=some L) (ht:TrX s.heap B e cls a0 dct .none) (hB:B.StaysIn s.heap) (hn:B.get? e=none)
  (q:∀h',B.StaysIn h'->h'.FunFrames B (env::outer)->TrX h' B e cls a0 dct (rawInt L)->s.heap.UpToSlots h'->Q () { s with heap:=h' }):wpAny M A (noteFrame (.ref e) env) Q E s:=by
 obtain⟨oe,vs,T,oT,ts,he,rfl,rfl,hd,h0,h1,nT,Te,hT,dT,h3⟩:=ht
 unfold noteFrame
 simp only[hf]
 refine wpAny_bind (wpAny_field he hd h1 ?_)
 rw[if_pos (show (Value.ref T != Value.none)=true from by simp)]
 refine wpAny_bind (wpAny_field hT dT h3 ?_)
 rw[if_neg (show ¬((Value.none == rawInt L)=true)from by simp[rawInt])]
 have oth:∀b,b≠T->(s.heap.update T (Obj.mapFields (·.setIfInBounds 3 Value.none))).get? b=s.heap.get? b:=λb hb=>Heap.get?_update_other _ _ (Ne.symm hb)
 have nr:∀b o,s.heap.get? b=some o->(∀vs,o.data≠.fields vs)->b≠T:=λb o hb nn r=>by rw[r,hT]at hb;cases hb;exact nn ts dT
 refine wpAny_bind (wpAny_setField hT dT (Array.getElem?_eq_some_iff.mp h3).1 (Vg hfr (hl.of_keeps λb o hb nn=>⟨o,(oth b (nr b o hb nn)).trans hb,rfl⟩) hf ((oth e (Ne.symm Te)).trans he) (λb o z=>(oth b λr=>by rw[r,nT]at z;cases z).trans (hB b o z)) hn hd (Array.getElem?_eq_some_iff.mp h1).1 h0 λh' x1 x2 x3 x4=>q h' x1 x2 x3 λb o hb nn=>x4 b o ((oth b (nr b o hb nn)).trans hb) nn))
theorem Jy (hB:B.StaysIn s.heap) (hl:s.heap.FunFrames B l) (ht:TrX s.heap B e cls a0 dct fl)
  (q:∀h',B.StaysIn h'->h'.FunFrames B l->TrX h' B e cls a0 dct .none->s.heap.UpToSlots h'->Q () { s with heap:=h' }):wpAny M A (setFlight (.ref e) none) Q E s:=by
 obtain⟨oe,vs,T,oT,ts,he,hc,hdc,hd,h0,h1,nT,Te,hT,dT,h3⟩:=ht
 have z3:3<ts.size:=(Array.getElem?_eq_some_iff.mp h3).1
 have oth:∀b,b≠T->(s.heap.update T (Obj.mapFields (·.setIfInBounds 3 ((none:Option Addr).elim Value.none λf=>rawInt f)))).get? b=s.heap.get? b:=λb hb=>Heap.get?_update_other _ _ (Ne.symm hb)
 have nr:∀b o,s.heap.get? b=some o->(∀vs,o.data≠.fields vs)->b≠T:=λb o hb nn r=>by rw[r,hT]at hb;cases hb;exact nn ts dT
 unfold setFlight
 refine wpAny_bind (wpAny_field he hd h1 ?_)
 rw[if_pos (show (Value.ref T != Value.none)=true from by simp)]
 exact wpAny_setField hT dT z3 (q _ (λb o z=>(oth b λr=>by rw[r,nT]at z;cases z).trans (hB b o z)) (hl.of_keeps λb o hb nn=>⟨o,(oth b (nr b o hb nn)).trans hb,rfl⟩)
  ⟨oe,vs,T,_,_,(oth e (Ne.symm Te)).trans he,hc,hdc,hd,h0,h1,nT,Te,Heap.get?_update_self _ hT (Obj.isFreed_of_fields (Obj.data_mapFields dT _)),Obj.data_mapFields dT _,by simp[z3]⟩ λb o hb nn=>⟨o.slots,(oth b (nr b o hb nn)).trans hb⟩)
end
def FlX (B:Heap) (l:List Env) (e:Addr) (cls a0:Value) (dct:Option Addr) (h:Heap):Prop:=B.StaysIn h/\B.get? e=none/\h.FunFrames B l/\TrX h B e cls a0 dct .none
def HeX (B:Heap) (l:List Env) (e:Addr) (cls a0:Value) (dct:Option Addr) (h:Heap):Prop:=B.StaysIn h/\B.get? e=none/\h.FunFrames B l/\∃fl,TrX h B e cls a0 dct fl
section
variable {M:Model}{A:Around}{E:Value->Shared->Prop}{s:Shared}{B h:Heap}{env:Env}{outer l:List Env}{L e:Addr}{a0 cls:Value}{dct:Option Addr}{Q:Unit->Shared->Prop}
theorem FlX.held (x:FlX B l e cls a0 dct h):HeX B l e cls a0 dct h:=⟨x.1,x.2.1,x.2.2.1,_,x.2.2.2⟩
theorem FlX.there (x:FlX B l e cls a0 dct h):∃ob,h.get? e=some ob/\ob.cls=cls:=by
 obtain⟨_,_,_,oe,_,_,_,_,he,hc,_⟩:=x
 exact⟨oe,he,hc⟩
theorem FlX.first (x:FlX B l e cls a0 dct h):∃oe vs,h.get? e=some oe/\oe.cls=cls/\oe.dict=dct/\oe.data = .fields vs:=by
 obtain⟨_,_,_,oe,vs,_,_,_,he,hc,hdc,hd,_⟩:=x
 exact⟨oe,vs,he,hc,hdc,hd⟩
theorem Vm (hfr:A.frames=some (env::outer)) (hf:env.frame=some L) (x:FlX B (env::outer) e cls a0 dct s.heap) (q:∀h',HeX B (env::outer) e cls a0 dct h'->s.heap.UpToSlots h'->Q () { s with heap:=h' }):wpAny M A (noteFrame (.ref e) env) Q E s :=
 V3 hfr x.2.2.1 hf x.2.2.2 x.1 x.2.1 λh' x1 x2 x3 x4=>q h' ⟨x1,x.2.1,x2,_,x3⟩ x4
theorem Zt (x:HeX B l e cls a0 dct s.heap) (q:∀h',FlX B l e cls a0 dct h'->s.heap.UpToSlots h'->Q () { s with heap:=h' }):wpAny M A (setFlight (.ref e) none) Q E s:=by
 obtain⟨x1,x2,x3,fl,x4⟩:=x
 exact Jy x1 x3 x4 λh' y1 y2 y3 y4=>q h' ⟨y1,x2,y2,y3⟩ y4
theorem JI (hfr:A.frames=some (env::outer)) (hf:env.frame=some L) (x:FlX B (env::outer) e cls a0 dct s.heap) (q:∀h',FlX B outer e cls a0 dct h'->s.heap.UpToSlots h'->Q () { s with heap:=h' }):wpAny M A (leaving env (.ref e)) Q E s:=by
 unfold leaving
 refine wpAny_bind (Vm hfr hf x λh' y up=>Zt (s:={ s with heap:=h' }) y λh2 z up2=>?_)
 obtain⟨z1,z2,⟨_,_,z3⟩,z4⟩:=z
 exact q h2 ⟨z1,z2,z3,z4⟩ (up.trans up2)
theorem QI {args:List Value}(hfr:A.frames=some (env::outer)) (hf:env.frame=some L) (hB:B.StaysIn h) (hl:h.FunFrames B (env::outer)) (hx:Heap.MadeExcOf h s.heap e cls args)
  (q:∀h' t,FlX B outer e cls (.ref t) none h'->s.heap.UpToSlots h'->Q () { s with heap:=h' }):wpAny M A (leaving env (.ref e)) Q E s:=by
 obtain⟨t,he,_,_⟩:=hx.there
 have hn:B.get? e=none:=by
  cases z:B.get? e with
  | none=>rfl
  | some o=>have:=hB e o z;rw[hx.new]at this;cases this
 unfold leaving
 refine wpAny_bind (QM (a0:=.ref t) hfr (hl.of_keeps λb o hb _=>⟨o,hx.keeps b o hb,rfl⟩) hf he (λb o z=>hx.keeps b o (hB b o z)) hn rfl rfl rfl λh' x1 x2 x3 x4=>?_)
 refine Zt (s:={ s with heap:=h' }) ⟨x1,hn,x2,_,x3⟩ λh2 z up2=>?_
 obtain⟨z1,z2,⟨_,_,z3⟩,z4⟩:=z
 exact q h2 t ⟨z1,z2,z3,z4⟩ (x4.trans up2)
end
end L2
set_option Elab.async false
set_option linter.all false
set_option maxRecDepth 100000
namespace L2
open PySem PySem.Spec PyProof.Rows
structure Fly (P:Program) (w:World) (l:List Env) (H:Hp) (s:Shared) (C:Addr) (H':Hp) (a:Addr) (s':Shared) (B:Heap) (a0:Value) (dct:Option Addr):Prop where
 os:s'.os=s.os
 bare:AllBare s'.gens
 un:Un (frs l) [] H H' s.heap s'.heap
 hok:HOk P w H' s'.heap
 fly:FlX B l a (.ref C) a0 dct s'.heap
 kb:∀b o,s.heap.get? b=some o->b∉frs l->(∃o',B.get? b=some o')/\(H b=none->B.get? b=some o)
 kt:∀b u,H' b=some u->∃o,B.get? b=some o
abbrev CX1 (P:Program) (w:World):CXT:=λouter H s E e s'=>∃a C H' B a0 dct,e = .ref a/\Fly P w outer H s C H' a s' B a0 dct/\E (.ref C) dct H'
section
variable {P:Program}{w:World}{H H':Hp}{h h' B:Heap}{a:Addr}{o:HO}
theorem xF.obj (x:xF P w H h a o):∃u,h.get? a=some u:=by
 cases o with
 | lst xs=>obtain⟨_,_,_,_,e⟩:=x;exact⟨_,e⟩
 | tup xs=>obtain⟨_,_,_,ob,e,_⟩:=x;exact⟨_,e⟩
 | dK kvs=>obtain⟨_,_,_,_,o,_,_,e,_⟩:=x;exact⟨_,e⟩
 | dT kvs=>obtain⟨_,_,_,_,o,_,_,e,_⟩:=x;exact⟨_,e⟩
 | set S n=>obtain⟨o,_,_,_,e,_⟩:=x;exact⟨_,e⟩
 | ins C dx fs=>obtain⟨_,_,_,e,_⟩:=x;exact⟨_,e⟩
 | own y=>obtain⟨_,e⟩:=x;exact⟨_,e⟩
 | xd fs=>obtain⟨_,⟨_,_,_,e,_⟩,_⟩:=x;exact⟨_,e⟩
 | rng lo hi=>obtain⟨_,_,_,e⟩:=x;exact⟨_,e⟩
 | frz ob u=>obtain⟨e,_⟩:=x;exact⟨_,e⟩
 | tbl ps=>exact⟨_,(show h.get? a=some _ from x)⟩
 | met f y=>exact⟨_,(show h.get? a=some _ from x)⟩
 | ext φ=>obtain⟨_,⟨_,e⟩,_⟩:=x;exact⟨_,e⟩
theorem JF (x:HOk P w H h) (k1:B.StaysIn h) (k2:B.StaysIn h') (kt:∀b u,H b=some u->∃o,B.get? b=some o):HOk P w H h':=λa o e =>
 (x a o e).stay (λb u hb q=>by
  have ht:∃v,H b=some v:=by
   rcases hb with rfl | hb
   ·exact⟨_,e⟩
   ·exact⟨_,hb⟩
  obtain⟨v,hv⟩:=ht
  obtain⟨ob,hob⟩:=kt b v hv
  rw[k1 b ob hob]at q;cases q;exact k2 b _ hob) (λ_ q=>q) λ_ _ q=>q
end
section
variable {P:Program}{w:World}{l:List Env}{H H':Hp}{s s':Shared}{C a:Addr}{B h':Heap}{a0:Value}{dct:Option Addr}
theorem Fly.move (F:Fly P w l H s C H' a s' B a0 dct) (fl:FlX B l a (.ref C) a0 dct h') (up:s'.heap.UpToSlots h'):Fly P w l H s C H' a { s' with heap:=h' } B a0 dct where
 os:=F.os
 bare:=F.bare
 un:={
  keep:=λb o q n hb _=>fl.1 b o ((F.kb b o q hb).2 n)
  slot:=λb o q n hb hx=>by
   obtain⟨sl,e⟩:=F.un.slot b o q n hb hx
   obtain⟨_,o',ho',hd⟩:=F.fly.2.2.1.mem hb
   have z:some o'=some { o with slots:=sl }:=ho'.symm.trans e
   cases z
   obtain⟨sl',e'⟩:=up b _ e hd
   exact⟨sl',e'⟩
  free:=F.un.free
  there:=λb o q _=>by
   by_cases hb:b∈frs l
   ·obtain⟨_,o',ho',_⟩:=fl.2.2.1.mem hb
    exact⟨o',ho'⟩
   ·obtain⟨o',ho'⟩:=(F.kb b o q hb).1
    exact⟨o',fl.1 b o' ho'⟩
  tups:=F.un.tups
  frzs:=F.un.frzs
  tbls:=F.un.tbls }
 hok:=JF F.hok F.fly.1 fl.1 F.kt
 fly:=fl
 kb:=F.kb
 kt:=F.kt
theorem Fly.untracked (F:Fly P w l H s C H' a s' B a0 dct):H' a=none:=by
 cases q:H' a with
 | none=>rfl
 | some u =>
  obtain⟨o,e⟩:=F.kt a u q
  rw[F.fly.2.1]at e;cases e
end
section
variable {X:Cx}{pins:List (Addr×Obj)}{σ:St}{H H':Hp}{s:Shared}
theorem Inv.notfr (I:Inv X pins σ H s){b:Addr}{o:Obj}(e:X.s₀.heap.get? b=some o) (hb:b∉X.fs):b∉frs X.stack:=λz=>by
 rcases List.mem_cons.mp (I.stkSub b z)with r | r
 ·exact absurd (Nat.lt_of_lt_of_le (Heap.lt_size e) I.ok.above) (by rw[r];exact Nat.lt_irrefl _)
 ·exact hb r
theorem Jz {g:Array GenState}{d:Drawn}{t:Nat}{C a:Addr}{B h1 h':Heap}{a0:Value}{dct:Option Addr}(I:Inv X pins σ H s) (hex:X.ex=[]) (hfr:∀b∈X.fs,b∈frs X.stack) (u:Un (frs X.stack) [] H H' s.heap h1)
  (kb:∀b o,s.heap.get? b=some o->b∉frs X.stack->(∃o',B.get? b=some o')/\(H b=none->B.get? b=some o)) (kt:∀b u,H' b=some u->∃o,B.get? b=some o)
  (hok:HOk X.prog X.w H' h1) (k1:B.StaysIn h1) (hfun:h1.FunFrames B X.stack) (up:h1.UpToSlots h') (fl:FlX B X.outer a (.ref C) a0 dct h') (hg:AllBare g) :
  Fly X.prog X.w X.outer X.H₀ X.s₀ C H' a { s with heap:=h',gens:=g,drawn:=d,toks:=t } B a0 dct where
 os:=I.os
 bare:=hg
 un:={
  keep:=λb o q n hb hx=>by
   have hx':b∉X.ex:=by rw[hex];exact hx
   exact fl.1 b o ((kb b o (I.base.keep b o q n hb hx') (I.notfr q hb)).2 (I.base.free b o q n hx'))
  slot:=λb o q n hb hx=>by
   have hx':b∉X.ex:=by rw[hex];exact hx
   obtain⟨sl,e⟩:=I.base.slot b o q n hb hx'
   obtain⟨sl1,e1⟩:=u.slot b _ e (I.base.free b o q n hx') (hfr b hb) hx
   obtain⟨_,o',ho',hd⟩:=hfun.mem (hfr b hb)
   have z:=ho'.symm.trans e1
   cases z
   obtain⟨sl2,e2⟩:=up b _ e1 hd
   exact⟨sl2,e2⟩
  free:=λb o q n hx=>by
   have hx':b∉X.ex:=by rw[hex];exact hx
   obtain⟨o',e⟩:=I.base.there b o q hx'
   exact u.free b o' e (I.base.free b o q n hx') hx
  there:=λb o q hx=>by
   have hx':b∉X.ex:=by rw[hex];exact hx
   by_cases hb:b∈X.fs
   ·obtain⟨_,o',ho',_⟩:=fl.2.2.1.mem hb
    exact⟨o',ho'⟩
   ·obtain⟨o',e⟩:=I.base.there b o q hx'
    obtain⟨o2,e2⟩:=(kb b o' e (I.notfr q hb)).1
    exact⟨o2,fl.1 b o2 e2⟩
  tups:=λb xs q=>u.tups b xs (I.base.tups b xs q)
  frzs:=λb o xs q=>u.frzs b o xs (I.base.frzs b o xs q)
  tbls:=λb ps q=>by
   obtain⟨m1,e1⟩:=I.base.tbls b ps q
   obtain⟨m2,e2⟩:=u.tbls b _ e1
   exact⟨m1++m2,by rw[e2,Array.append_assoc]⟩ }
 hok:=JF hok k1 fl.1 kt
 fly:=fl
 kb:=λb o q hb=>by
  have hx':b∉X.ex:=by rw[hex];exact List.not_mem_nil
  obtain⟨o',e⟩:=I.base.there b o q hx'
  have z:=kb b o' e (I.notfr q hb)
  exact⟨z.1,λn=>(kb b o (I.base.keep b o q n hb hx') (I.notfr q hb)).2 (I.base.free b o q n hx')⟩
 kt:=kt
end
abbrev XJ:=Addr->Option Addr->St->Hp->Prop
def QZ (X:Cx) (J:XJ):Prop:=∀(pins:List (Addr×Obj)) (σ:St) (H:Hp) (s:Shared) (a C:Addr) (H':Hp) (s':Shared) (B:Heap) (a0:Value) (dct:Option Addr),
 Inv X pins σ H s->Fly X.prog X.w X.stack H s C H' a s' B a0 dct->J C dct σ H'->X.xe (.ref a) s'
def XU (X:Cx) (J:XJ):Prop:=∀(pins:List (Addr×Obj)) (σ:St) (H:Hp) (s:Shared) (h':Heap) (a C:Addr) (us:List Value),
 Inv X pins σ H s->Heap.MadeExcOf s.heap h' a (.ref C) us->J C none σ H->X.xe (.ref a) { s with heap:=h' }
def EJ (E:XK):XJ:=λC d _ H'=>E (.ref C) d H'
section
variable {P:Program}{w:World}{K:PySem.W.Frag}{mg:Str->Option Value}{base:Heap}{N:List Str}{qual:Str}{scope:Scope}{f:Addr}{cd:Value}{A:Around}{outer:List Env}{s:Shared}{H:Hp}{E:XK}
theorem ju:QZ (jI (CX1 P w) P w K mg base N qual scope f cd A outer s H E) (EJ E):=by
 intro pins σ H1 s1 a C H' s' B a0 dct I F q
 obtain⟨hh,g,d,t,os'⟩:=s'
 have e:os'=s1.os:=F.os
 subst e
 refine JI (L:=s.heap.objs.size) I.ok.frames rfl F.fly λh' fl up=>?_
 refine⟨a,C,H',B,a0,dct,rfl,?_,q⟩
 have z:=Jz (g:=g) (d:=d) (t:=t) I rfl (λb hb=>List.mem_cons_of_mem _ hb) F.un F.kb F.kt F.hok F.fly.1 F.fly.2.2.1 up fl F.bare
 exact z
theorem qO:XU (jI (CX1 P w) P w K mg base N qual scope f cd A outer s H E) (EJ E):=by
 intro pins σ H1 s1 h1 a C us I hx q
 have hin:∀b o,s1.heap.get? b=some o->b∉frs (jI (CX1 P w) P w K mg base N qual scope f cd A outer s H E).stack →
   (PySem.W.hideAll s1.heap (frs (jI (CX1 P w) P w K mg base N qual scope f cd A outer s H E).stack)).get? b=some o:=λb o e n=>PySem.W.hideAll_get _ e n
 have hst:(PySem.W.hideAll s1.heap (frs (jI (CX1 P w) P w K mg base N qual scope f cd A outer s H E).stack)).StaysIn s1.heap:=λb o q=>PySem.W.of_hideAll _ q
 have hff:s1.heap.FunFrames (PySem.W.hideAll s1.heap (frs (jI (CX1 P w) P w K mg base N qual scope f cd A outer s H E).stack)) (jI (CX1 P w) P w K mg base N qual scope f cd A outer s H E).stack :=
  PySem.W.funFrames_hide I.stack λenv he b hb=>List.mem_filterMap.mpr ⟨env,he,hb⟩
 refine QI (L:=s.heap.objs.size) (h:=s1.heap) (s:={ s1 with heap:=h1 }) I.ok.frames rfl hst hff hx λh' t fl up=>?_
 have z:=Jz (g:=s1.gens) (d:=s1.drawn) (t:=s1.toks) (h1:=h1) I rfl (λb hb=>List.mem_cons_of_mem _ hb) (Un.kept hx.keeps) (λb o e n=>⟨⟨o,hin b o e n⟩,λ_=>hin b o e n⟩)
  (λb u e=>by
   obtain⟨o,ho⟩:=(I.hok b u e).obj
   exact⟨o,hin b o ho λz=>by rw[I.stkFree b z]at e;cases e⟩) (I.hok.kept hx.keeps) (λb o e=>hx.keeps b o (hst b o e)) (hff.of_keeps λb o e _=>⟨o,hx.keeps b o e,rfl⟩) up fl I.bare
 exact⟨a,C,H1,_,_,_,rfl,z,q⟩
end
def zdq (sp:Sp) (dvs:List V) (J:XJ) (t:TA):TE:=λσ H Q=>t σ H λvs H1=>sp (vs++dvs) H1 Q λc d H'=>∃C,c = .ref C/\J C d σ H'
structure jO (P:Program) (w:World) (K:PySem.W.Frag) (mg:Str->Option Value) (base:Heap) (x:Str) (k:Nat) (ps:List Str) (dvs:List V) (sp:Sp):Prop where
 ex:∃f fd ds,jH P w K mg base (CX1 P w) k f fd ps sp/\mg x=some (.ref f)/\PySem.W.keepIn K (.ref f)=true/\jf K fd ps ds/\zP dvs ds
section
variable {X:Cx}{k:Nat}{f:Addr}{fd:FuncData}{ps:List Str}{sp:Sp}{dvs:List V}{ds:List Value}{J:XJ}{x:Str}{p pos:Pos}{e:Expr}{es:List Expr}{t:TA}
theorem zbo {pins:List (Addr×Obj)}{σ:St}{H:Hp}{s:Shared}{Q:VK}{us:List Value}{vs:List V}(F:jH X.prog X.w X.K X.mg X.base (CX1 X.prog X.w) k f fd ps sp) (hr:zX k X.A) (hb:jf X.K fd ps ds) (hd:zP dvs ds) (hx:QZ X J)
  (I:Inv X pins σ H s) (r:zP vs us) (h:sp (vs++dvs) H Q λc d H'=>∃C,c = .ref C/\J C d σ H'):wpAny (model X.prog X.w) X.A (call (.ref f) us) (EP X pins σ Q) X.xe s:=by
 have r2:zP (vs++dvs) (us++ds):=r.append hd
 have hl:(us++ds).length=ps.length:=by rw[<-r2.length];exact F.len _ _ _ _ h
 refine wpAny_call (codeAny_mono (F.run X.A X.stack s H ⟨us,[]⟩ (us++ds) (vs++dvs) Q _ hr I.env0 (hb s us I.kIn hl) r2 h) λr s' hq=>?_)
 cases r with
 | error e =>
  obtain⟨a,C,H',B,a0,dct,rfl,F,C',hC,q⟩:=hq
  cases hC
  exact hx pins σ H s a C H' s' B a0 dct I F q
 | ok fl =>
  cases fl with
  | ret u=>exact I.after hq
  | next=>exact False.elim hq
  | brk=>exact False.elim hq
  | cont=>exact False.elim hq
theorem Qc (c:jO X.prog X.w X.K X.mg X.base x k ps dvs sp) (hr:zX k X.A) (hx:QZ X J) (ha:PA X (e::es) t) (hg:Gl X x:=by rfl) (hdb:(x == ("__debug__":Str))=false:=by decide)
  (he:starEach (e::es) X.env=(false,eval e X.env)::starEach es X.env:=by rfl) (hpl:(backTo pos (starEach es X.env)).any (·.1)=false:=by rfl) :
  PE X (.Call (.Name x p) (e::es) [] pos) (zdq sp dvs J t):=by
 obtain⟨f,fd,ds,F,hm,hk,hb,hd⟩:=c.ex
 intro pins s σ H Q I h
 refine wpAny_Call_Name_kw (jy I hg hm ?_ hdb)
 refine PySem.W.callWith_K (h₀:=X.base) I.ok.mod.kin hk (thn (ha pos pins s σ H _ I h) λus s1 ⟨vs,H1,I1,r,q⟩=>⟨I1.kIn,?_⟩) he hpl
 exact zbo F hr hb hd hx I1 r q
end
section
variable {P:Program}{w:World}{K:PySem.W.Frag}{mg:Str->Option Value}{base:Heap}
theorem Df.cal1 {x:Str}{st:Stmt}{N ps:List Str}{dvs:List V}{k:Nat}{sp:Sp}(D:Df K mg x st ps dvs) (S:zB N ps (zh st)) (len:∀vs H Q E,sp vs H Q E->vs.length=ps.length)
  (hbody:∀(f:Addr) (cdv:Value) (A:Around) (outer:List Env) (s:Shared) (H:Hp) (vs:List V) (Q:VK) (E:XK),zX k (A.deeper (envOfC x (zh st) s.heap.objs.size f cdv))->sp vs H Q E →
   ∃t,PSs (jI (CX1 P w) P w K mg base N x (zh st) f cdv A outer s H E) (zv st) t/\t { nx:=λ_ H'=>Q .non H',rt:=Q } (jq N vs) H):jO P w K mg base x (k+1) ps dvs sp:=by
 obtain⟨f,oc,od,dV,kV,doc,pm,an,cdv,ct,osl,ds,lk,hcd,hk,hm,hv,hb⟩:=D.ex
 exact⟨⟨f,_,ds,JA lk hcd S len λA outer s H vs Q E hr hsp=>hbody f cdv A outer s H vs Q E hr hsp,hm,hk,hb,hv⟩⟩
end
end L2
set_option Elab.async false
set_option linter.all false
set_option maxRecDepth 100000
namespace L2
open PySem PySem.Spec PyProof.Rows
def zdv (C:Addr) (J:XJ) (t:TA):TS:=λ_ σ H=>t σ H λvs H1=>vs.length<=sizeLine/\J C none σ H1
section
variable {X:Cx}{J:XJ}{x:Str}{C:Addr}{bmB bmN:List Value}{newId Bn inN B nid initId:String}{np cpos pos:Pos}{e:Expr}{es:List Expr}{t:TA}
theorem j4 (O:OwnCls x C bmB newId X.mg X.base) (Fn:ExcBaseFacts Bn newId inN bmN) (hBn:bmB.contains (.type Bn)=true) (FB:ExcBaseFacts B nid initId bmB) (hh:X.A.handled=none) (hJ:XU X J) (ha:PA X (e::es) t)
  (hg:Gl X x:=by rfl) (hd:(x == ("__debug__":Str))=false:=by decide)
  (he:starEach (e::es) X.env=(false,eval e X.env)::starEach es X.env:=by rfl) (hpl:(backTo cpos (starEach (e::es) X.env)).any (·.1)=false:=by rfl) :
  PS X (.Raise (some (.Call (.Name x np) (e::es) [] cpos)) none pos) (zdv C J t):=by
 intro pins s σ H D I h
 obtain⟨tl,N,nm,q,bs,hdct,sn,sub,ab,col,dd,k0,k1,k2,k3,k5,mN,hC,hN,hni,T⟩:=O.obj
 refine wpAny_Raise_call_subU (C:=C) (N:=N) (bm:=tl) (nm:=nm) (q:=q) (bs:=bs) (hdct:=hdct) (sn:=sn) (sub:=sub) (ab:=ab) (col:=col) (dd:=dd) (k0:=k0) (k1:=k1) (k2:=k2) (k3:=k3) (k5:=k5) Fn hBn FB (mN:=mN) (T.hasType FB.hasBase) hh hpl hni (jy I hg O.bound ⟨rfl,?_⟩ hd)
 have hw:=ha cpos pins s σ H _ I h
 rw[he]at hw ⊢
 exact Calls.evalArgs_plain (wpAny_mono hw (λvs s2 ⟨ws,H1,I1,r,z,q⟩=>⟨rfl,by rw[<-r.length];exact z,I1.bk _ _ hC,hN.keeps I1.bk,T.keeps I1.bk,λh' e hm=>hJ pins σ H1 s2 h' e C vs I1 hm q⟩) λ_ _ y=>y)
end
section
variable {X:Cx}{pins:List (Addr×Obj)}{σ:St}{H:Hp}{s:Shared}
theorem Zs {M:Model}{A:Around}{E:Value->Shared->Prop}{i:Nat}{n:Str}{pos:Pos}{Q:Unit->Shared->Prop}(I:Inv X pins σ H s) (hN:X.N.Nodup) (hi:X.N[i]? = some n) (hk:X.env.kindOf n=some .local)
  (h:∀s',Inv X pins (σ.set i none) H s'->Q () s'):wpAny M A (do bindName X.env n .none;unbindBehindTheSuite X.env n pos) Q E s:=by
 obtain⟨m,hn,hl⟩:=id I.loc
 have hcls:(X.env.scope.kind == .class || (X.env.scope.kind == .module&&X.env.locals != X.env.globals))=false:=by rw[I.ok.kind];rfl
 have hiσ:i<σ.length:=by rw[I.len];exact(List.getElem?_eq_some_iff.mp hi).1
 have neL:∀b o,X.s₀.heap.get? b=some o->b≠X.env.locals:=λb o e=>Nat.ne_of_lt (Nat.lt_of_lt_of_le (Heap.lt_size e) I.ok.above)
 refine wpAny_nameGoes_keeps hk hn hcls λh' v hn' hs=>h _ ⟨I.ok,I.os,I.bare,⟨λb o e n hb hx=>(hs.2 b (neL b o e)).trans (I.base.keep b o e n hb hx),λb o e n hb hx=>?_,I.base.free,λb o e hx=>?_,I.base.tups,I.base.frzs,I.base.tbls⟩,
  ⟨_,hn',λj y v' e1 e2 e3=>?_⟩,λy c e=>?_,I.free,I.freeC,λp hp=>?_,λb ob e=>?_,by simpa using I.len⟩
 ·obtain⟨sl,e1⟩:=I.base.slot b o e n hb hx
  exact⟨sl,(hs.2 b (neL b o e)).trans e1⟩
 ·obtain⟨o',e1⟩:=I.base.there b o e hx
  exact⟨o',(hs.2 b (neL b o e)).trans e1⟩
 ·by_cases hj:j=i
  ·subst hj
   rw[List.getElem?_set_self hiσ]at e2
   cases e2
  ·rw[List.getElem?_set_ne (Ne.symm hj)]at e2
   obtain⟨u',r',q⟩:=hl j y v' e1 e2 e3
   refine⟨u',r',?_⟩
   rcases q with⟨k,e⟩ | ⟨k,c,e,z⟩
   ·refine .inl ⟨k,?_⟩
    have:y≠n:=λe=>hj (ZN hN e1 (e ▸ hi))
    simp[this,e]
   ·exact .inr ⟨k,c,e,z.sameBut hs (I.cne y c e)⟩
 ·obtain⟨w',z⟩:=I.cell y c e
  exact⟨w',z.sameBut hs (I.cne y c e)⟩
 ·obtain⟨e,n,ne,nf,d⟩:=I.pin p hp
  exact⟨(hs.2 p.1 ne).trans e,n,ne,nf,d⟩
 ·refine(I.hok b ob e).stay (λc w' hc q=>(hs.2 c λz=>?_).trans q) (λ_ q=>q) λ_ _ q=>q
  subst z
  rcases hc with rfl | hc
  ·rw[I.free]at e;cases e
  ·rw[I.free]at hc;cases hc
end
abbrev Cx.tried (X:Cx) (pins:List (Addr×Obj)) (W:Value->Shared->Prop):Cx:={ X with pn:=X.pn++pins,xe:=W }
abbrev Cx.suite (X:Cx) (pins:List (Addr×Obj)) (a:Addr) (oe:Obj):Cx:={ X with A:=X.A.mark (some (.ref a)),calm:=false,pn:=X.pn++(pins++[(a,oe)]),xe:=λ_ _=>False }
abbrev Cx.testing (X:Cx) (a:Addr):Cx:={ X with A:=X.A.mark (some (.ref a)),calm:=false }
section
variable {X:Cx}{pins:List (Addr×Obj)}{σ:St}{H:Hp}{s:Shared}
theorem Inv.tried (I:Inv X pins σ H s) (W:Value->Shared->Prop):Inv (X.tried pins W) [] σ H s :=
 ⟨⟨I.ok.mod,I.ok.kind,I.ok.glob,I.ok.blt,I.ok.above,I.ok.inj,I.ok.has,I.ok.cab,I.ok.hd,I.ok.frames,I.ok.stk,I.ok.exf,I.ok.bs,I.ok.bsz,I.ok.noex,I.ok.exfs,I.ok.funs,I.ok.frf⟩,
  I.os,I.bare,I.base,I.loc,I.cell,I.free,I.freeC,λp hp=>I.pin p (by rw[List.append_nil]at hp;exact hp),I.hok,I.len⟩
theorem Inv.untried {pins':List (Addr×Obj)}{W:Value->Shared->Prop}(ok:X.Ok) (I:Inv (X.tried pins W) pins' σ H s):Inv X pins σ H s :=
 ⟨ok,I.os,I.bare,I.base,I.loc,I.cell,I.free,I.freeC,λp hp=>I.pin p (List.mem_append_left _ hp),I.hok,I.len⟩
theorem Inv.test (I:Inv X pins σ H s) (a:Addr):Inv (X.testing a) pins σ H s :=
 ⟨⟨I.ok.mod,I.ok.kind,I.ok.glob,I.ok.blt,I.ok.above,I.ok.inj,I.ok.has,I.ok.cab,(λh=>nomatch h),I.ok.frames,I.ok.stk,I.ok.exf,I.ok.bs,I.ok.bsz,I.ok.noex,I.ok.exfs,I.ok.funs,I.ok.frf⟩,
  I.os,I.bare,I.base,I.loc,I.cell,I.free,I.freeC,I.pin,I.hok,I.len⟩
theorem Inv.suite {a:Addr}{oe:Obj}{vs:Array Value}(I:Inv X pins σ H s) (e:s.heap.get? a=some oe) (hd:oe.data = .fields vs) (hn:H a=none):Inv (X.suite pins a oe) [] σ H s :=
 ⟨⟨I.ok.mod,I.ok.kind,I.ok.glob,I.ok.blt,I.ok.above,I.ok.inj,I.ok.has,I.ok.cab,(λh=>nomatch h),I.ok.frames,I.ok.stk,I.ok.exf,I.ok.bs,I.ok.bsz,I.ok.noex,I.ok.exfs,I.ok.funs,I.ok.frf⟩,
  I.os,I.bare,I.base,I.loc,I.cell,I.free,I.freeC,(λp hp=>by
   rw[List.append_nil]at hp
   have hp':p∈X.pn++pins\/p∈[(a,oe)]:=by
    rcases List.mem_append.mp hp with z | z
    ·exact .inl (List.mem_append_left _ z)
    ·rcases List.mem_append.mp z with z | z
     ·exact .inl (List.mem_append_right _ z)
     ·exact .inr z
   rcases hp' with z | z
   ·exact I.pin p z
   ·obtain rfl:p=(a,oe):=by simpa using z
    refine⟨e,hn,λq=>?_,λq=>?_,λv q=>?_⟩
    ·obtain⟨m,⟨o,es,ep,ho,hd',_⟩,_⟩:=I.loc
     rw[<-show a=X.env.locals from q,e]at ho
     cases ho
     rw[hd]at hd';cases hd'
    ·obtain⟨_,o,ho,hnf⟩:=I.funs.mem q
     rw[show s.heap.get? a=some oe from e]at ho
     cases ho
     exact hnf vs hd
    ·have q':oe.data = .cell v:=q
     rw[hd]at q';cases q'),I.hok,I.len⟩
theorem Inv.unsuite {a:Addr}{oe:Obj}(ok:X.Ok) (I:Inv (X.suite pins a oe) [] σ H s):Inv X pins σ H s :=
 ⟨ok,I.os,I.bare,I.base,I.loc,I.cell,I.free,I.freeC,λp hp=>I.pin p (by
  rw[List.append_nil]
  rcases List.mem_append.mp hp with z | z
  ·exact List.mem_append_left _ z
  ·exact List.mem_append_right _ (List.mem_append_left _ z)),I.hok,I.len⟩
end
def vV.gone (i:Nat) (D:vV):vV:={ nx:=λσ H=>D.nx (σ.set i none) H,rt:=D.rt,bk:=λσ H=>D.bk (σ.set i none) H,ct:=λσ H=>D.ct (σ.set i none) H }
def tTry (i:Nat) (C:Addr) (tb:XJ->TS) (ts:Addr->Option Addr->TS):TS:=λD σ H =>
 tb (λC' d σ' H'=>C'=C/\∀a,H' a=none->ts a d (D.gone i) (σ'.set i (some (.ref a))) H') D σ H
end L2
set_option Elab.async false
set_option linter.all false
set_option maxRecDepth 100000
namespace L2
open PySem PySem.Spec PyProof.Rows PySem.W
section
variable {prog:Program}{w:World}{A:Around}{E:Value->Shared->Prop}{s:Shared}{K:PySem.W.Frag}{x D:Addr}{ox:Obj}{od:Option Obj}
theorem Qv {M:Model}{nameV:Value}{Q:Unit->Shared->Prop}(X:K.In s.heap) (I:InstAt s.heap x ox D od) (hb:subIn K (.ref D) (.type "BaseException")=some true) (q:Q () s):wpAny M A (checkBuiltinCall "BaseException.__getattribute__" ⟨[.ref x,nameV],[]⟩) Q E s:=by
 have k1:builtinKind "BaseException.__getattribute__" = some .slot:=by decide +kernel
 have k2:splitId "BaseException.__getattribute__" = some ("BaseException","__getattribute__"):=by decide +kernel
 have k3:=F.args_bexc_ga (.ref x) nameV
 have L:Looks M s.heap (isInstance (.ref x) (.type "BaseException")) true:=(I.type (M:=M)).andThen (looks_subIn X hb)
 obtain⟨hh,g,d,t,os⟩:=s
 simp only[checkBuiltinCall,k1,k2]
 refine wpAny_bind (L.at ?_)
 repeat (any_goals (first | assumption | wp_step))
theorem zaO {Q:Option Value->Shared->Prop}(X:K.In s.heap) (I:InstAt s.heap x ox D od) (hga:findIn K (.ref D) "__getattribute__" = some (some (.builtin "BaseException.__getattribute__"))) (hno:findIn K (.ref D) "__getattr__" = some none)
  (hb:subIn K (.ref D) (.type "BaseException")=some true) (hf:findObj K D od "__class__" = some (.bind (.builtin "getset_descriptor.__get__") (.builtin "object.__class__"))) (hm:mroIn K D (.type "object")=some true)
  (h:Q (some (.ref D)) { s with toks:=s.toks+1 }):wpAny (model prog w) A (getAttr? (.ref x) "__class__") Q E s:=by
 have L0:=I.type (M:=model prog w)
 have L1:=looks_findIn (M:=model prog w) X hga
 have L2:=looks_findIn (M:=model prog w) X hno
 have L3:=looks_find (M:=model prog w) X I hf
 have GA:=F.attr_ValueError.ga
 obtain⟨hh,g,d,t,os⟩:=s
 unfold getAttr? getAttrBy? getAttrBy
 refine wpAny_bind (wpAny_mkText (wpAny_bind (wpAny_attempt (wpAny_holding (wpAny_bind (L0.at (wpAny_bind (L1.at ?_))))))))
 dsimp only
 rw[if_neg (show ¬((onTheHeap (.ref D)&&Value.builtin "BaseException.__getattribute__" == Value.builtin "object.__getattribute__")=true) by
  rw[show (Value.builtin "BaseException.__getattribute__" == Value.builtin "object.__getattribute__")=false by decide +kernel];simp)]
 unfold getAttrByItsOwn
 refine wpAny_bind (?_:wpAny _ _ (typeLookup (.ref D) "__getattr__") _ _ _)
 refine L2.at ?_
 refine wpAny_bind (wpAny_attempt (wpAny_holding (?_:wpAny _ _ (boundAndCalled (.builtin "BaseException.__getattribute__") (.ref x) _) _ _ _)))
 unfold boundAndCalled
 refine wpAny_bind (wpAny_of_eq (GA.bind _) ?_)
 refine wpAny_call (codeAny_call_builtin GA.plain F.entry_bexc_ga (Qv X I hb ?_))
 unfold Builtin.«object.__getattribute__»
 refine wpAny_bind (wpAny_pure (wpAny_bind (wpAny_pure (wpAny_bind (L0.at (wpAny_bind (L3.at ?_)))))))
 show wpAny _ _ (holding [Value.builtin "object.__class__"] (call (.builtin "getset_descriptor.__get__") [.builtin "object.__class__",.ref x,.ref D]) >>= ret) _ _ _
 refine wpAny_bind (wpAny_holding (wpAny_call (class_get (s:=⟨hh,g,d,t+1,os⟩) (ox:=ox) (od:=od) X I hm ?_)))
 refine wpAny_pure ?_
 exact wpAny_pure (wpAny_pure h)
theorem VO {name:Str}{a g:Value}(hc:(clsIn K D).isSome=true) (ha:findIn K (.ref D) name=some (some a)) (hg:specialIn K a "__get__" = some (some g)) (ht:takesIn K a=some true):findObj K D od name=some (.bind g a):=by
 obtain⟨cd,e⟩:=Option.isSome_iff_exists.mp hc
 unfold findObj;rw[e,Option.bind_some,ha,Option.bind_some]
 simp[hg,ht]
structure VD (K:PySem.W.Frag) (D:Addr):Prop where
 ga:findIn K (.ref D) "__getattribute__" = some (some (.builtin "BaseException.__getattribute__"))
 no:findIn K (.ref D) "__getattr__" = some none
 bx:subIn K (.ref D) (.type "BaseException")=some true
 ob:mroIn K D (.type "object")=some true
 ds:hasDictIn K D=true
 ca:findIn K (.ref D) "__class__" = some (some (.builtin "object.__class__"))
 sp:specialIn K (.builtin "object.__class__") "__get__" = some (some (.builtin "getset_descriptor.__get__"))
 tk:takesIn K (.builtin "object.__class__")=some true
theorem X8 (Z:VD K D):KitX K (.ref x) (.ref D) (λh=>∃ox od,InstAt h x ox D od) where
 ty:=λ_ _ _ ⟨_,_,I⟩=>I.type
 it:=λ_ _ X _=>by
  obtain⟨cdD,hcD,_⟩:=any_some Z.ds
  unfold clsIn at hcD
  split at hcD
  case h_1 c' d' cd' sl' ho =>
   intro A' Q' E' s' k q
   unfold isType loadHead
   exact wpAny_bind (wpAny_loadPart (k _ _ (X _ _ ho)) (wpAny_pure q))
  case h_2=>cases hcD
 ne:=λh tp dd its n sl X htp=>by
  obtain⟨cdD,hcD,_⟩:=any_some Z.ds
  refine Bool.eq_false_iff.mpr λq=>?_
  have e:D=tp:=Value.ref.inj (beq_iff_eq.mp q)
  subst e
  unfold clsIn at hcD
  split at hcD
  case h_1 c' d' cd' sl' ho=>exact nomatch (X _ _ ho).symm.trans htp
  case h_2=>cases hcD
 ca:=λX ⟨_,od,I⟩ k=>zaO X I Z.ga Z.no Z.bx (VO (by obtain⟨cd,hc,_⟩:=any_some Z.ds;rw[hc];rfl) Z.ca Z.sp Z.tk) Z.ob k
end
end L2
set_option Elab.async false
set_option linter.all false
set_option maxRecDepth 100000
namespace L2
open PySem PySem.Spec PyProof.Rows
def vz (σ:St) (js:List Nat):St:=js.map λj=>(σ[j]?).getD none
inductive jP (X:Cx) (scope:Scope) (cl:List (Str×Addr)):List Str->List Nat->Prop
 | nil:jP X scope cl [] []
 | cons {x:Str}{j:Nat}{r:List Str}{js:List Nat}:X.N[j]? = some x->X.env.kindOf x=some .cell->(relabel scope X.env).names.lookup x=some .cell->(∃c,cl.lookup x=some c)->jP X scope cl r js->jP X scope cl (x::r) (j::js)
section
variable {X:Cx}{scope:Scope}{cl:List (Str×Addr)}
theorem jP.length:∀{r:List Str}{js:List Nat},jP X scope cl r js->r.length=js.length
 | _,_,.nil=>rfl
 | _,_,.cons _ _ _ _ t=>by rw[List.length_cons,List.length_cons,jP.length t]
theorem jP.get:∀{r:List Str}{js:List Nat}{k:Nat}{x:Str},jP X scope cl r js->r[k]? = some x->∃j,js[k]? = some j/\X.N[j]? = some x/\X.env.kindOf x=some .cell/\(relabel scope X.env).names.lookup x=some .cell/\∃c,cl.lookup x=some c
 | _,_,_,_,.nil,e=>by simp at e
 | _,_,0,_,.cons h1 h2 h3 h4 _,e=>by
  simp at e;subst e
  exact⟨_,rfl,h1,h2,h3,h4⟩
 | _,_,k+1,x,.cons _ _ _ _ t,e=>by
  obtain⟨j,r⟩:=jP.get (k:=k) t (by simpa using e)
  exact⟨j,by simpa using r⟩
theorem jP.has {r:List Str}{js:List Nat}(h:jP X scope cl r js){x:Str}(hx:x∈r):∃c,cl.lookup x=some c:=by
 obtain⟨k,hk⟩:=List.getElem?_of_mem hx
 obtain⟨_,_,_,_,_,z⟩:=h.get hk
 exact z
end
def xp (X:Cx) (NB FR:List Str) (scope:Scope) (cl:List (Str×Addr)) (s3:Shared) (H3:Hp) (fp:List Addr):Cx :=
 { X with N:=NB++FR,s₀:=s3,H₀:=H3,env:=compEnvC scope cl s3.heap.objs.size X.env,outer:=X.stack,stack:=X.stack,ex:=fp,fn:=λ_=>false,pn:=[],xe:=λ_ _=>False }
def XO (n:Nat) (js:List Nat) (wi:TI) (g:TG) (tt:TT) (te:TE):TE:=λσ H Q=>wi σ H λJ H1=>∀D,H1 D=none->∃W:Nat->Nat->Hp->List V->Prop,(∃m,W 0 m (upd H1 D (.lst [])) []) ∧
 ∀i m H2 ys,W i m H2 ys->H2 D=some (.lst ys)->(J.stop i H2/\Q (.ref D) H2) ∨
  (J.go i H2/\∀zs x H3,zs.length=n->J.yld i H2 x H3->g x (zs++vz σ js) H3 λσ4 H4=>σ4.drop n=vz σ js/\tt σ4 H4 λb H5 =>
   if b=true then te σ4 H5 (λv H6=>H6 D=some (.lst ys)/\ys.length<sizeLine/\∃m',m'<m/\W (i+1) m' (upd H6 D (.lst (ys++[v]))) (ys++[v]))
   else H5 D=some (.lst ys)/\∃m',m'<m/\W (i+1) m' H5 ys)
theorem Qf {scope:Scope}{env:Env}{FR:List Str}{x:Str}(h:(relabel scope env).names.all (λy=>!(y.2 == .cell || y.2 == .free) || FR.contains y.1)=true)
  (e:(relabel scope env).names.lookup x=some .cell\/(relabel scope env).names.lookup x=some .free):x∈FR:=by
 have key:∀k:NameKind,(k == .cell || k == .free)=true->(x,k)∈(relabel scope env).names->x∈FR:=λk hk hm=>by
  have z:=List.all_eq_true.mp h _ hm
  simp only[hk,Bool.not_true,Bool.false_or,List.contains_iff_mem]at z
  exact z
 rcases e with e | e
 ·exact key .cell rfl (PySem.mem_of_lookup e)
 ·exact key .free rfl (PySem.mem_of_lookup e)
theorem Xd {X:Cx}{elt tg iter:Expr}{ifs:List Expr}{scope:Scope}{cl:List (Str×Addr)}{pos:Pos}{NB FR:List Str}{js:List Nat}{wi:TI}{g:TG}{tt:TT}{te:TE}{Q:VK}{RR:Value->Addr->Result->Shared->Prop}
  {pins:List (Addr×Obj)}{s:Shared}{σ:St}{H:Hp}(hc:X.calm=true) (hcl:∀x c,cl.lookup x=some c->X.env.cells.lookup x=some c) (hcap:jP X scope cl FR js)
  (hnm:(relabel scope X.env).names.all (λy=>!(y.2 == .cell || y.2 == .free) || FR.contains y.1)=true) (hcell:∀x∈scope.names,x.2≠.cell) (hkind:scope.kind = .function)
  (hi:PI X tg iter wi) (hb:∀s3 H3 fp,PG (xp X NB FR scope cl s3 H3 fp) tg g/\PTs (xp X NB FR scope cl s3 H3 fp) ifs tt/\PE (xp X NB FR scope cl s3 H3 fp) elt te)
  (I:Inv X pins σ H s) (h:XO NB.length js wi g tt te σ H Q)
  (hRR:∀D C H' s',Inv X pins σ H' s'->Zz X pins H' C->(∃m,s'.heap.Ns C m)->Q (.ref D) H'->RR (.ref D) C (.ok .next) s') :
  wpAny (model X.prog X.w) X.A (eval iter X.env) (λv s1=>wpAny (model X.prog X.w) X.A (pyIter v) (λit s2=>wpAny (model X.prog X.w) X.A (newList []) (λacc s3 =>
   wpAny (model X.prog X.w) X.A (newFunctionEnv scope X.env.globals cl [] X.env.qual none .none (some X.env)) (λcenv s4 =>
    codeAny (model X.prog X.w) X.A (.compStart (.ListComp elt [⟨tg,iter,ifs,0⟩] scope pos) 0 it acc { cenv with scope:=relabel scope X.env }) (RR acc cenv.locals) s4) X.xe s3) X.xe s2) X.xe s1) X.xe s:=by
 refine thn (hi pins s σ H _ I h) λv s1 h1=>thn h1 λitv s2 h2=>?_
 obtain⟨it,fp,tn,J,H2,e,I2,T,st2,f2,q2⟩:=h2
 subst e
 have hf2:H2 s2.heap.objs.size=none:=I2.hok.fresh (Nat.le_refl _)
 obtain⟨W,⟨m0,w0⟩,turn⟩:=q2 _ hf2
 refine wpAny_newObj_type (hd:=by size_fits) ?_
 have I3:Inv X pins σ (upd H2 s2.heap.objs.size (.lst [])) { s2 with heap:=s2.heap.push { cls:=.type "list",dict:=none,data:=.seq ([]:List Value).toArray } } :=
  I2.laid (t':=s2.toks) (λb u e=>Heap.get?_push_of_some _ e) (Nat.le_refl _) ⟨by decide,[],0,.nil,Heap.get?_push_size _ rfl⟩
 generalize hD:s2.heap.objs.size=D at *
 generalize hs3:({ s2 with heap:=s2.heap.push { cls:=.type "list",dict:=none,data:=.seq ([]:List Value).toArray } }:Shared)=s3 at *
 generalize hH3:upd H2 D (.lst [])=H3 at *
 have h3D:H3 D=some (.lst []):=by rw[<-hH3];exact zj
 have fpD:∀b∈fp,b≠D:=λb hb=>by
  obtain⟨o,e,_⟩:=T.obj _ _ st2 b hb
  rw[<-hD];exact Nat.ne_of_lt (Heap.lt_size e)
 have k23:∀b u,s2.heap.get? b=some u->s3.heap.get? b=some u:=λb u e=>by rw[<-hs3];exact Heap.get?_push_of_some _ e
 have st3:tn 0 s3.heap:=T.keep _ _ _ st2 λb _ o e=>k23 b o e
 have f3:∀b∈fp,Zz X pins H3 b:=λb hb=>⟨by rw[<-hH3,zO (fpD b hb)];exact(f2 b hb).1,(f2 b hb).2⟩
 refine wpAny_newFunctionEnv hcell (by intro y hy;simp at hy) (λh4 hns4 hsb4=>?_) hkind
 have k34:∀b u,s3.heap.get? b=some u->h4.get? b=some u:=λb u e=>hsb4.extBut b u (Nat.ne_of_lt (Heap.lt_size e)) (Heap.get?_push_of_some _ e)
 have okB:(xp X NB FR scope cl s3 H3 fp).Ok:=by
  refine⟨I3.ok.mod,hkind,I3.ok.glob,I3.ok.blt,Nat.le_refl _,λx y c e1 e2=>I3.ok.inj x y c (hcl _ _ e1) (hcl _ _ e2),λx e=>hcap.has (Qf hnm e),(λx c e=>nomatch e),I3.ok.hd,I3.ok.frames,.inl rfl,λb hb=>⟨?_,λx c e=>?_⟩,I3.bs,Nat.le_trans I3.ok.bsz I3.sz,λb o e hb=>?_,λb hb z=>?_,I3.stack,I3.stkFree⟩
  ·obtain⟨o,e,_⟩:=T.obj _ _ st3 b hb
   exact Nat.ne_of_lt (Heap.lt_size e)
  ·exact(f3 b hb).2.2.2.2.1 x c (hcl _ _ e)
  ·obtain⟨_,_,_,z,_⟩:=f3 b hb
   rcases z with z | z
   ·exact I3.ok.noex b o e z
   ·exact absurd (Nat.lt_of_lt_of_le (Heap.lt_size e) (Nat.le_trans I3.ok.bsz z)) (Nat.lt_irrefl _)
  ·obtain⟨_,z1,z2,_⟩:=f3 b hb
   rcases List.mem_cons.mp (I3.stkSub b z)with e | e
   ·exact z1 e
   ·exact z2 e
 have IB:Inv (xp X NB FR scope cl s3 H3 fp) [] (List.replicate NB.length none++vz σ js) H3 { s3 with heap:=h4,toks:=s3.toks+([]:List (Str×Value)).length }:=by
  refine⟨okB,rfl,I3.bare,Un.kept k34,⟨_,hns4,λi x v e1 e2 e3=>?_⟩,λx c e=>?_,I3.hok.fresh (Nat.le_refl _),λx c e=>I3.freeC x c (hcl _ _ e),λp hp=>?_,I3.hok.kept k34,?_⟩
  ·by_cases hi:i<NB.length
   ·rw[List.getElem?_append_left (by simpa using hi),List.getElem?_replicate,if_pos hi]at e2
    cases e2
   ·have e1':FR[i - NB.length]? = some x:=by
     have z:(NB++FR)[i]? = some x:=e1
     rw[List.getElem?_append_right (by omega)]at z;exact z
    rw[List.getElem?_append_right (by simp;omega),List.length_replicate]at e2
    obtain⟨j,hj,hN,hk,hb',c,hc'⟩:=hcap.get e1'
    have e2':σ[j]? = some (some v):=by
     unfold vz at e2
     rw[List.getElem?_map,hj]at e2
     simp only[Option.map_some,Option.some.injEq]at e2
     cases hσ:σ[j]? with
     | none=>rw[hσ]at e2;cases e2
     | some o=>rw[hσ]at e2;simp only[Option.getD_some]at e2;rw[e2]
    obtain⟨m,hn,hl⟩:=I3.loc
    obtain⟨u,ru,lu⟩:=hl j x v hN e2' (.inr (.inl hk))
    refine⟨u,ru,.inr ⟨.inl hb',c,hc',?_⟩⟩
    rcases lu with⟨z,_⟩ | ⟨_,c',z,q⟩
    ·rw[hk]at z;cases z
    ·rw[hcl _ _ hc']at z;cases z
     obtain⟨o,ho,hd⟩:=q
     exact⟨o,k34 _ _ ho,hd⟩
  ·obtain⟨v,o,ho,hd⟩:=I3.cell x c (hcl _ _ e)
   exact⟨v,o,k34 _ _ ho,hd⟩
  ·exact absurd (show p∈([]:List (Addr×Obj))from hp) (by simp)
  ·show _=(NB++FR).length
   rw[List.length_append,List.length_append,List.length_replicate,hcap.length]
   unfold vz;rw[List.length_map]
 have st4:tn 0 h4:=T.keep _ _ _ st3 λb _ o e=>k34 b o e
 have stat:∀{H':Hp},(∀b∈fp,H' b=none)->∀b∈fp,Zz (xp X NB FR scope cl s3 H3 fp) [] H' b:=λhn b hb =>
  ⟨hn b hb,(okB.exf b hb).1,okB.exfs b hb,.inl hb,λx c e=>(f3 b hb).2.2.2.2.1 x c (hcl _ _ e),λp hp=>absurd (show p∈([]:List (Addr×Obj))from hp) (by simp)⟩
 obtain⟨hg,ht,he⟩:=hb s3 H3 fp
 have fin:∀{σ':St}{H':Hp}{s':Shared},Inv (xp X NB FR scope cl s3 H3 fp) [] σ' H' s'->Q (.ref D) H'->RR (.ref D) s3.heap.objs.size (.ok .next) s':=λ{σ' H' s'} J q=>by
  have hm:∃m,s'.heap.Ns s3.heap.objs.size m:=by
   obtain⟨m,hm,_⟩:=J.loc
   exact⟨m,hm⟩
  refine hRR D _ H' s' (I3.call' (ch:=fp) J.os J.base J.hok J.bare λb hb=>?_) (I3.fpOk (Nat.le_refl _) J.free) hm q
  obtain⟨_,z1,z2,z3,z4,z5⟩:=f3 b hb
  exact⟨z3,z1,z4,z5⟩
 have loop:∀s5:Shared,s5 = { s3 with heap:=h4,toks:=s3.toks+([]:List (Str×Value)).length } →
   codeAny (model X.prog X.w) X.A (.compLoop (.ListComp elt [⟨tg,iter,ifs,0⟩] scope pos) 0 (.ref it) (.ref D) (compEnvC scope cl s3.heap.objs.size X.env)) (RR (.ref D) s3.heap.objs.size) s5:=by
  rintro s5 rfl
  refine jS (λn s'=>∃i zs H' ys,zs.length=NB.length/\Inv (xp X NB FR scope cl s3 H3 fp) [] (zs++vz σ js) H' s'/\tn i s'.heap/\(∀b∈fp,H' b=none)/\H' D=some (.lst ys)/\W i n H' ys) ?_ m0
   ⟨0,_,H3,[],List.length_replicate,IB,st4,λb hb=>(f3 b hb).1,h3D,by rw[<-hH3]at *;exact w0⟩
  rintro n s6 ⟨i,zs,H6,ys,hzs,I6,st6,fr6,hD6,w6⟩
  rcases turn i n H6 ys w6 hD6 with⟨stop,qn⟩ | ⟨go,step⟩
  ·refine thn (T.done (xp X NB FR scope cl s3 H3 fp) rfl rfl rfl hc i [] s6 _ H6 _ I6 (stat fr6) st6 stop) λr s7 ⟨hr,I7⟩=>?_
   subst hr
   exact fin I7 qn
  ·refine thn (T.item (xp X NB FR scope cl s3 H3 fp) rfl rfl rfl hc i [] s6 _ H6 _ I6 (stat fr6) st6 go) λr s7 ⟨u,hr,h7⟩=>?_
   subst hr
   refine thn h7 λ_ s8 ⟨x,H8,I8,r8,y8,st8,fr8⟩=>?_
   have I8':=I8.pinned (stat fr8) (T.obj _ _ st8)
   have again:∀{σ9:St}{H9:Hp}{s9:Shared}{ws:List V}{m':Nat},σ9.drop NB.length=vz σ js->Inv (xp X NB FR scope cl s3 H3 fp) ([]++Zb fp s8.heap) σ9 H9 s9->H9 D=some (.lst ws)->m'<n->W (i+1) m' H9 ws →
     ∃m,m<n/\∃i zs H' ys,zs.length=NB.length/\Inv (xp X NB FR scope cl s3 H3 fp) [] (zs++vz σ js) H' s9/\tn i s9.heap/\(∀b∈fp,H' b=none)/\H' D=some (.lst ys)/\W i m H' ys:=λ{σ9 H9 s9 ws m'} hdr I9 hz hm w9=>by
    have hl:σ9.length=(NB++FR).length:=I9.len
    rw[List.length_append]at hl
    refine⟨m',hm,i+1,σ9.take NB.length,H9,ws,by rw[List.length_take];omega,?_,T.keep _ _ _ st8 λb hb o e=>(I9.pin (b,o) (List.mem_append_right _ (List.mem_append_right _ (qp hb e)))).1,λb hb=>?_,hz,w9⟩
    ·rw[<-hdr,List.take_append_drop];exact I9.unpinned
    ·obtain⟨o,e,d⟩:=T.obj _ _ st8 b hb
     exact(I9.pin (b,o) (List.mem_append_right _ (List.mem_append_right _ (qp hb e)))).2.1
   refine thn (hg _ s8 _ H8 x u _ I8' r8 (step zs x H8 hzs y8)) λ_ s9 ⟨σ9,H9,I9,hdr,q9⟩=>?_
   refine thn (ht _ s9 σ9 H9 _ I9 q9) λok s10 ⟨H10,I10,q10⟩=>?_
   cases ok with
   | false =>
    rw[if_neg (by decide)]at q10 ⊢
    obtain⟨hz,m',hm,w'⟩:=q10
    exact again hdr I10 hz hm w'
   | true =>
    rw[if_pos rfl]at q10 ⊢
    refine thn (he _ s10 σ9 H10 _ I10 q10) λy s11 ⟨v,H11,I11,r11,hz,hlen,m',hm,w'⟩=>?_
    refine thn (jz _ s11 σ9 H11 (.ref D) [v] (.ref D) [y] (λ_ H12=>H12=upd H11 D (.lst (ys++[v]))) I11 rfl (.cons r11 .nil) ⟨D,ys,v,rfl,rfl,hz,hlen,rfl⟩) λ_ s12 ⟨_,H12,I12,_,e12⟩=>?_
    subst e12
    exact again hdr I12 zj hm w'
 exact codeAny_compStart_list (loop _ rfl) (T.self X.A 0 _ _ _ st4 (loop _ rfl))
section
variable {X:Cx}{elt tg iter:Expr}{ifs:List Expr}{scope:Scope}{cl:List (Str×Addr)}{pos spos py:Pos}{NB FR:List Str}{js:List Nat}{wi:TI}{g:TG}{tt:TT}{te:TE}
theorem vn (hc:X.calm=true) (hclos:closureFor scope X.env=pure cl) (hcl:∀x c,cl.lookup x=some c->X.env.cells.lookup x=some c) (hcap:jP X scope cl FR js)
  (hnm:(relabel scope X.env).names.all (λy=>!(y.2 == .cell || y.2 == .free) || FR.contains y.1)=true) (hcell:∀x∈scope.names,x.2≠.cell) (hkind:scope.kind = .function) (hnames:∀x∈scope.names,x.2 = .local → scope.names.lookup x.1=some .local)
  (hi:PI X tg iter wi) (hb:∀s3 H3 fp,PG (xp X NB FR scope cl s3 H3 fp) tg g/\PTs (xp X NB FR scope cl s3 H3 fp) ifs tt/\PE (xp X NB FR scope cl s3 H3 fp) elt te)
  (hs:∀x,foldedSetIterable iter X.env x=pure x:=by intro _;rfl) :
  PE X (.ListComp elt [⟨tg,iter,ifs,0⟩] scope pos) (XO NB.length js wi g tt te):=by
 intro pins s σ H Q I h
 rw[eval_ListComp]
 refine wpAny_comprehension_free (use:=none) rfl hs hclos hkind hnames (Xd (RR:=λacc C=>compPost (model X.prog X.w) X.A X.xe none (EP X pins σ Q) acc C) hc hcl hcap hnm hcell hkind hi hb I h ?_)
 intro D C H' s' I' ⟨f0,f1,f2,f3,f4,f5⟩ ⟨m,hm⟩ q
 exact⟨m,hm,λh' sb=>⟨.ref D,H',I'.turned (t':=s'.toks) (λb o hb e=>(sb.2 b hb).trans e) f0 f1 f3 f4 f5,rfl,q⟩⟩
theorem XB {i:Nat}{y:Str}(hc:X.calm=true) (hclos:closureFor scope X.env=pure cl) (hcl:∀x c,cl.lookup x=some c->X.env.cells.lookup x=some c) (hcap:jP X scope cl FR js)
  (hnm:(relabel scope X.env).names.all (λy=>!(y.2 == .cell || y.2 == .free) || FR.contains y.1)=true) (hcell:∀x∈scope.names,x.2≠.cell) (hkind:scope.kind = .function) (hnames:∀x∈scope.names,x.2 = .local → scope.names.lookup x.1=some .local)
  (hN:X.N.Nodup) (hiN:X.N[i]? = some y) (hy:X.env.kindOf y=some .local) (hsw:swapsWith (.ListComp elt [⟨tg,iter,ifs,0⟩] scope pos) (some (.Name y py)) spos.line X.env=pure true)
  (hi:PI X tg iter wi) (hb:∀s3 H3 fp,PG (xp X NB FR scope cl s3 H3 fp) tg g/\PTs (xp X NB FR scope cl s3 H3 fp) ifs tt/\PE (xp X NB FR scope cl s3 H3 fp) elt te)
  (hs:∀x,foldedSetIterable iter X.env x=pure x:=by intro _;rfl) :
  PS X (.Assign [.Name y py] (.ListComp elt [⟨tg,iter,ifs,0⟩] scope pos) spos) (zas (XO NB.length js wi g tt te) (zA i)):=by
 intro pins s σ H D I h
 rw[exec_Assign_Name_used _ _ _ _ hsw]
 refine wpAny_bind (wpAny_standAt (wpAny_bind ?_))
 show wpAny _ _ (do let _ <-comprehension (.ListComp elt [⟨tg,iter,ifs,0⟩] scope pos) scope X.env _ (newList []) false (eval iter X.env) (some (assign (.Name y py) X.env))) _ _ s
 refine wpAny_bind (wpAny_mono (wpAny_comprehension_free (use:=some (assign (.Name y py) X.env)) (Q:=λ_ s'=>SP X pins D .next s') rfl hs hclos hkind hnames
  (Xd (RR:=λacc C=>compPost (model X.prog X.w) X.A X.xe (some (assign (.Name y py) X.env)) (λ_ s'=>SP X pins D .next s') acc C) hc hcl hcap hnm hcell hkind hi hb I h ?_)) (λ_ s' hq=>wpAny_pure (wpAny_pure hq)) λ_ _ e=>e)
 intro DD C H' s' I' ⟨f0,f1,f2,f3,f4,f5⟩ ⟨m,hm⟩ q
 show wpAny _ _ (assign (.Name y py) X.env (.ref DD)) _ _ s'
 refine wpAny_assign_Name (Xj (v:=.ref DD) I' hN hiN (.inl hy) rfl (λs'' I'' ⟨a,sa,ha⟩=>?_) (.inr hy))
 have hCa:C≠a:=by
  rcases ha with rfl | ha
  ·exact f1
  ·exact λz=>f4 y a ha z.symm
 exact⟨m,hm.sameBut sa hCa,λh' sb=>⟨_,H',I''.turned (t':=s''.toks) (λb o hb e=>(sb.2 b hb).trans e) f0 f1 f3 f4 f5,q⟩⟩
end
end L2
set_option Elab.async false
set_option linter.all false
set_option maxRecDepth 100000
namespace L2
open PySem PySem.Spec PyProof.Rows
end L2
set_option Elab.async false
set_option linter.all false
set_option maxRecDepth 100000
namespace L2
open PySem PySem.Spec PyProof.Rows
section
variable {X:Cx}
theorem Va:∀{bs:List Bool}{us:List Value}{i:Nat}{v:Value},zP (bs.map V.bl) us->us[i]? = some v->∃b,bs[i]? = some b/\v = .bool b
 | [],_,_,_,r,e=>by cases r;simp at e
 | b::bs,_,i,v,r,e=>by
  cases r with
  | cons h t =>
   cases i with
   | zero=>simp at e;subst e;exact⟨b,rfl,h⟩
   | succ i=>obtain⟨c,e1,e2⟩:=Va (i:=i) t (by simpa using e);exact⟨c,by simpa using e1,e2⟩
theorem Z6:∀(bs:List Bool) (k:Nat),((List.range' k bs.length).all λi=>(bs[i - k]?).getD true)=bs.all id
 | [],k=>rfl
 | b::bs,k=>by
  rw[List.length_cons,List.range'_succ,List.all_cons,List.all_cons]
  simp only[Nat.sub_self,List.getElem?_cons_zero,Option.getD_some,id]
  congr 1
  rw[<-Z6 bs (k+1)]
  apply Bool.eq_iff_iff.mpr
  simp only[List.all_eq_true,List.mem_range'_1]
  constructor
  ·intro h i hi
   have:=h i hi
   rw[show i - k=(i - (k+1))+1 by omega,List.getElem?_cons_succ]at this;exact this
  ·intro h i hi
   rw[show i - k=(i - (k+1))+1 by omega,List.getElem?_cons_succ];exact h i hi
theorem ZD (hc:X.calm=true):vg X (.builtin "all") (λxs H Q=>∃(p:Addr) (bs:List Bool),xs=[.ref p]/\SqL X.K H p (bs.map V.bl)/\Q (.bl (bs.all id)) H):=by
 intro pins s σ H xs us Q I r h
 obtain⟨p,bs,rfl,hq,q⟩:=h
 obtain⟨u,rfl,ru⟩:=Zm r
 cases ru
 obtain⟨its,rv,pl,_⟩:=I.list hq
 have hlt:p<s.heap.objs.size:=by obtain⟨o,n,e,_⟩:=pl;exact Heap.lt_size e
 have hl:=rv.length
 rw[List.length_map]at hl
 refine call_all_walk (wpAny_pyIter_list pl.isList ⟨s.heap.objs.size,_,_,_,_,_,λi=>(bs[i]?).getD true,rfl,Walks.list (A:=X.A.in1) (show X.A.in1.handled=none from I.ok.hd hc) s.heap.objs.size p (Nat.ne_of_lt hlt) its.toArray,
  ⟨⟨_,Heap.get?_push_size _ rfl,rfl,rfl⟩,pl.isList.push _⟩,λi v s' Q' E' hv hQ'=>?_,λh' tk k=>⟨.bl (bs.all id),H,I.kept λb o e=>k b o (by simpa using Nat.ne_of_lt (Heap.lt_size e)) (Heap.get?_push_of_some _ e),?_,q⟩⟩)
 ·obtain⟨b,e1,rfl⟩:=Va rv (by simpa using hv)
  simp only[e1,Option.getD_some]at hQ'
  exact wpAny_pure hQ'
 ·have:=Z6 bs 0
  simp only[Nat.sub_zero]at this
  rw[show its.toArray.size=bs.length by simp[hl],List.range_eq_range',this];rfl
def Je (K:PySem.W.Frag) (a:Addr) (i j:Int):Prop:=∃o t u n,K.lookup a=some o/\o.cls = .type "tuple"/\o.data = .seq #[.int i t,.int j u] n
def zbm (K:PySem.W.Frag):R2:=λx y H Q=>∃d a i j,RdD H x d/\y = .ref a/\Je K a i j/\SeqAt.shaped d=true/\Q (.bl (PyData.eqv d (.tuple [.int i,.int j]))) H
theorem zc6 (hu:X.A.units+64<cLine):OpR X (compareOp .Eq) (zbm X.K):=by
 intro pins s σ H x y v u Q I rx ry h
 obtain⟨d,a,i,j,hd,rfl,⟨o,t1,t2,n,hk,h1,h2⟩,s1,q⟩:=h
 obtain⟨as,r1⟩:=hd.reads I rx
 cases(show u=Value.ref a from ry)
 have r2:Reads s.heap (.ref a) (.tuple [.int i,.int j]) _:=.tuple (I.kIn _ _ hk) h1 h2 (.cons (.int i t1) (.cons (.int j t2) .nil))
 exact eq_dataH r1 r2 s1 rfl hu ⟨.bl _,H,I,rfl,q⟩
end
end L2
set_option Elab.async false
set_option linter.all false
set_option maxRecDepth 100000
namespace HT
open PySem PyProof.Rows
section
variable {prog:Program}{w:World}{A:Around}{E:Value->Shared->Prop}{s:Shared}
theorem whole_cut {t sl:Addr}{items:Array Value}{vl vu:Value}{lo hi:Option Int}{Q:Value->Shared->Prop}(ht:IsTup s.heap t items) (hs:s.heap.IsSliceOf sl vl vu .none) (pl:IsPart vl lo) (pu:IsPart vu hi)
  (hw:sIx items.size 0 lo=0/\sIx items.size items.size hi=items.size) (h:Q (.ref t) s):wpAny (model prog w) A (getItem (.ref t) (.ref sl)) Q E s:=by
 obtain⟨os,hos,hcs,hds⟩:=id hs
 have hTs:s.TypeIs (.ref sl) "slice":=⟨os,hos,hcs⟩
 unfold getItem
 try with_reducible refine wpAny_holding ?_
 first | refine wpAny_bind (wpAny_pure ?_) | skip
 refine wpAny_bind (wpAny_sequenceKey ht.typeIs (by decide) ?_)
 refine wpAny_bind (wpAny_callSpecial?_slot (name:=Str.ofString "__getitem__") ht.typeIs PyProof.Rows.slot_tuple_getitem
  (wpAny_call_entry PyProof.Rows.slot_tuple_getitem ht.typeIs entry_tuple_getitem ?_ (args_tuple_getitem _ _)))
 show wpAny _ _ (Builtin.Tuple.tupleItemsOf (.ref t) >>= _) _ _ s
 refine wpAny_bind (tupleItemsOf_ ht ?_)
 refine wpAny_bind (wpAny_typeOf hTs ?_)
 rw[if_pos (by decide)]
 refine wpAny_bind (vU hs pl pu ?_)
 show wpAny _ _ (if(((sIx items.size 0 lo:Nat):Int) == 0&&(1:Int) == 1&&(sIx items.size items.size hi - sIx items.size 0 lo) == items.size)=true then _ else _) _ _ s
 rw[if_pos (by rw[hw.1,hw.2];simp)]
 refine wpAny_bind ?_
 unfold Builtin.Tuple.tupleIsExact
 refine wpAny_bind (wpAny_typeOf ht.typeIs (wpAny_pure ?_))
 rw[if_pos (by decide)]
 first
  | exact wpAny_bind (wpAny_rule (wpAny_pure ⟨_,rfl,wpAny_pure h⟩))
  | exact wpAny_bind (wpAny_rule (wpAny_bind (wpAny_pure (wpAny_pure ⟨_,rfl,wpAny_pure h⟩))))
  | exact wpAny_bind (wpAny_rule (wpAny_bind (wpAny_pure ⟨_,rfl,wpAny_pure h⟩)))
end
end HT
namespace L2
open PySem PySem.Spec PyProof.Rows
section
variable {X:Cx}
def zd6 (K:PySem.W.Frag):V->Option Int->Option Int->Hp->VK->Prop:=λx lo hi H Q=>∃a xs,x = .ref a/\SqT K H a xs/\(HT.sIx xs.length 0 lo=0/\HT.sIx xs.length xs.length hi=xs.length)/\Q x H
theorem vT:SlR X (zd6 X.K):=by
 intro pins s σ H x v vl vu lo hi sl Q I rx hs pl pu h
 obtain⟨a,xs,rfl,hx,hw,q⟩:=h
 cases rx
 obtain⟨its,r,ht,hz⟩:=I.tuple hx
 have hlen:its.toArray.size=xs.length:=by rw[List.size_toArray];exact r.length.symm
 exact⟨"tuple",_,PyProof.Rows.slot_tuple_getitem.lookup,ht.typeIs,HT.whole_cut ht hs pl pu (by rw[hlen];exact hw) ⟨.ref a,H,I,rfl,q⟩⟩
end
end L2
set_option Elab.async false
set_option linter.all false
set_option maxRecDepth 100000
namespace L2
open PySem PySem.Spec PyProof.Rows
section
variable {J:It}{D:Addr}{N n:Nat}{js:List Nat}{σ:St}{g:TG}{tt:TT}{te:TE}{Q:VK}{H:Hp}
theorem jT (Pv:Nat->Hp->List V->Prop) (h0:Pv 0 (upd H D (.lst [])) []) (hgo:∀i H ys,i<N->Pv i H ys->J.go i H) (hst:∀H ys,Pv N H ys->J.stop N H)
  (hs:∀i x zs H2 H3 ys (Nx:Hp->List V->Prop),(∀H ys,Pv (i+1) H ys->Nx H ys)->i<N->zs.length=n->J.yld i H2 x H3->Pv i H2 ys->H2 D=some (.lst ys)->g x zs H3 λσ4 H4=>tt σ4 H4 λb H5 =>
   if b=true then te σ4 H5 (λv H6=>H6 D=some (.lst ys)/\ys.length<sizeLine/\Nx (upd H6 D (.lst (ys++[v]))) (ys++[v]))else H5 D=some (.lst ys)/\Nx H5 ys)
  (hd:∀H ys,Pv N H ys->H D=some (.lst ys)->Q (.ref D) H) :
  ∃W:Nat->Nat->Hp->List V->Prop,(∃m,W 0 m (upd H D (.lst [])) [])/\∀i m H2 ys,W i m H2 ys->H2 D=some (.lst ys)->(J.stop i H2/\Q (.ref D) H2) ∨
   (J.go i H2/\∀σB x H3,σB.length=n->J.yld i H2 x H3->g x σB H3 λσ4 H4=>tt σ4 H4 λb H5=>if b=true then te σ4 H5 (λv H6=>H6 D=some (.lst ys)/\ys.length<sizeLine/\∃m',m'<m/\W (i+1) m' (upd H6 D (.lst (ys++[v]))) (ys++[v]))
    else H5 D=some (.lst ys)/\∃m',m'<m/\W (i+1) m' H5 ys):=by
 refine⟨λi m H ys=>m=N - i/\i<=N/\Pv i H ys,⟨N,by simp,Nat.zero_le _,h0⟩,?_⟩
 rintro i m H2 ys ⟨rfl,hi,p⟩ hD
 by_cases hlt:i<N
 ·exact .inr ⟨hgo i H2 ys hlt p,λσB x H3 hB y=>hs i x σB H2 H3 ys (λH' ys'=>∃m',m'<N - i/\(m'=N - (i+1)/\i+1<=N/\Pv (i+1) H' ys')) (λH' ys' z=>⟨N - (i+1),by omega,rfl,hlt,z⟩) hlt hB y p hD⟩
 ·obtain rfl:i=N:=by omega
  exact .inl ⟨hst H2 ys p,hd H2 ys p hD⟩
theorem ZE (Pv:Nat->Hp->List V->Prop) (h0:Pv 0 (upd H D (.lst [])) []) (hgo:∀i H ys,i<N->Pv i H ys->J.go i H) (hst:∀H ys,Pv N H ys->J.stop N H)
  (hs:∀i x zs H2 H3 ys (Nx:Hp->List V->Prop),(∀H ys,Pv (i+1) H ys->Nx H ys)->i<N->zs.length=n->J.yld i H2 x H3->Pv i H2 ys->H2 D=some (.lst ys)->g x (zs++vz σ js) H3 λσ4 H4=>σ4.drop n=vz σ js/\tt σ4 H4 λb H5 =>
   if b=true then te σ4 H5 (λv H6=>H6 D=some (.lst ys)/\ys.length<sizeLine/\Nx (upd H6 D (.lst (ys++[v]))) (ys++[v]))else H5 D=some (.lst ys)/\Nx H5 ys)
  (hd:∀H ys,Pv N H ys->H D=some (.lst ys)->Q (.ref D) H) :
  ∃W:Nat->Nat->Hp->List V->Prop,(∃m,W 0 m (upd H D (.lst [])) [])/\∀i m H2 ys,W i m H2 ys->H2 D=some (.lst ys)->(J.stop i H2/\Q (.ref D) H2) ∨
   (J.go i H2/\∀zs x H3,zs.length=n->J.yld i H2 x H3->g x (zs++vz σ js) H3 λσ4 H4=>σ4.drop n=vz σ js/\tt σ4 H4 λb H5=>if b=true then te σ4 H5 (λv H6=>H6 D=some (.lst ys)/\ys.length<sizeLine/\∃m',m'<m/\W (i+1) m' (upd H6 D (.lst (ys++[v]))) (ys++[v]))
    else H5 D=some (.lst ys)/\∃m',m'<m/\W (i+1) m' H5 ys):=by
 refine⟨λi m H ys=>m=N - i/\i<=N/\Pv i H ys,⟨N,by simp,Nat.zero_le _,h0⟩,?_⟩
 rintro i m H2 ys ⟨rfl,hi,p⟩ hD
 by_cases hlt:i<N
 ·exact .inr ⟨hgo i H2 ys hlt p,λσB x H3 hB y=>hs i x σB H2 H3 ys (λH' ys'=>∃m',m'<N - i/\(m'=N - (i+1)/\i+1<=N/\Pv (i+1) H' ys')) (λH' ys' z=>⟨N - (i+1),by omega,rfl,hlt,z⟩) hlt hB y p hD⟩
 ·obtain rfl:i=N:=by omega
  exact .inl ⟨hst H2 ys p,hd H2 ys p hD⟩
end
theorem XE {H H2 H3:Hp}{D:Addr}{o:HO}(hD:H D=none) (e:zr H H2) (e2:zr H2 H3):zr H (upd H3 D o):=λb u z=>by rw[zO (zU z hD)];exact e2 _ _ (e _ _ z)
end L2
set_option Elab.async false
set_option linter.all false
set_option maxRecDepth 100000
namespace L2
open PySem PySem.Spec PyProof.Rows
section
variable {prog:Program}{w:World}{A:Around}{E:Value->Shared->Prop}{s:Shared}
theorem Jq {t b:Addr}{ws:List Value}{Q:Value->Shared->Prop}(ht:IsTup s.heap t ([]:List Value).toArray) (hb:IsTup s.heap b ws.toArray) (h0:Q (.ref b) s):wpAny (model prog w) A (binaryOp .Add (.ref t) (.ref b)) Q E s:=by
 obtain⟨⟨cls,dd,data,sl⟩,ho,hc,n,hd⟩:=id ht
 obtain⟨⟨cls2,dd2,data2,sl2⟩,ho2,hc2,n2,hd2⟩:=id hb
 simp only at hc hd hc2 hd2
 subst hc hd hc2 hd2
 exact concat_meets ⟨_,ho,rfl⟩ ⟨_,ho2,rfl⟩ noFill_tuple_add seq_tuple_add PySem.F.slot_tuple_add PySem.F.entry_tuple_add (PySem.F.args_tuple_add_2 _ _)
   (tuple_addW0 t b ([]:List Value).toArray ws.toArray n n2 dd dd2 sl sl2 (by simp)) ⟨ho,ho2,h0⟩
end
def zbQ (K:PySem.W.Frag):R2:=λx y H Q=>∃a b xs ys,x = .ref a/\y = .ref b/\SqT K H a xs/\SqT K H b ys/\xs.length+ys.length<=sizeLine/\(xs=[]->Q (.ref b) H) ∧
 (xs≠[]->ys=[]->Q (.ref a) H)/\(xs≠[]->ys≠[]->∀p,H p=none->Q (.ref p) (upd H p (.tup (xs++ys))))
theorem jY {X:Cx}:OpR X (binaryOp .Add) (zbQ X.K):=by
 intro pins s σ H x y v u Q I rx ry h
 have h':=h
 obtain⟨a,b,xs,ys,rfl,rfl,ha,hb,hz,q0,q1,q2⟩:=h'
 by_cases hx:xs=[]
 ·cases rx
  cases ry
  obtain⟨its,r1,p1,_⟩:=I.tuple ha
  obtain⟨its2,r2,p2,_⟩:=I.tuple hb
  subst hx
  cases r1
  exact Jq p1 p2 ⟨.ref b,H,I,rfl,q0 rfl⟩
 ·exact zbh pins s σ H _ _ v u Q I rx ry ⟨a,b,xs,ys,rfl,rfl,ha,hb,hx,hz,q1 hx,q2 hx⟩
end L2
set_option Elab.async false
set_option linter.all false
set_option maxRecDepth 100000
namespace L2
open PySem PySem.Spec PyProof.Rows
end L2
set_option Elab.async false
set_option linter.all false
set_option maxRecDepth 100000
namespace L2
open PySem PySem.Spec PyProof.Rows
theorem szl {n:Nat}(h:n<=1000):n<=sizeLine:=Nat.le_of_lt (jG h)
theorem zdp {wi:TI}{g:TG}{tb:TS}{u:TS}{D:vV}{σ:St}{H:Hp}(h:zds wi g tb { D with nx:=u D } σ H):Jb (zds wi g tb) u D σ H:=h
end L2
set_option Elab.async false
set_option linter.all false
set_option maxRecDepth 100000
namespace L2
open PySem PySem.Spec PyProof.Rows
inductive Bx (p:Prop):Prop
 | mk (h:p):Bx p
section
variable {X:Cx}
theorem zco:Bx (PA X [] jh):=⟨ze⟩
theorem vB {e:Expr}{es:List Expr}{te:TE}{t:TA}(ha:Bx (PE X e te)) (hr:Bx (PA X es t)) (hs:starEach (e::es) X.env=(false,eval e X.env)::starEach es X.env:=by rfl):Bx (PA X (e::es) (xr te t)):=by
 obtain⟨ha⟩:=ha;obtain⟨hr⟩:=hr;exact⟨za ha hr hs⟩
theorem zcn {es:List Expr}{t:TA}{pos:Pos}(h:Bx (PA X es t)):Bx (PE X (.List es pos) (zeu t)):=by
 obtain⟨h⟩:=h;exact⟨xl h⟩
theorem zcp {i:Nat}{x:Str}{e:Expr}{te:TE}{pos pos':Pos}(hN:X.N.Nodup) (hi:X.N[i]? = some x) (hx:Loc X.env.scope x) (he:Bx (PE X e te)) (hs:swapsWith e (some (.Name x pos')) pos.line X.env=pure false:=by rfl)
  (hf:X.fn x=true\/X.env.scope.names.lookup x=some .local := by first | exact .inl rfl | exact .inr rfl | assumption):Bx (PS X (.Assign [.Name x pos'] e pos) (zas te (zA i))):=by
 obtain⟨he⟩:=he;exact⟨zE hN hi hx he hs hf⟩
theorem ZC {st:Stmt}{rest:List Stmt}{t u:TS}(h1:Bx (PS X st t)) (h2:Bx (PSs X rest u)):Bx (PSs X (st::rest) (Jb t u)):=by
 obtain⟨h1⟩:=h1;obtain⟨h2⟩:=h2;exact⟨zi h1 h2⟩
end
section
variable {P:Program}{w:World}{K:PySem.W.Frag}{mg:Str->Option Value}{base:Heap}
theorem Df.calB {x:Str}{st:Stmt}{N ps:List Str}{dvs:List V}{k:Nat}{sp:Sp}(D:Df K mg x st ps dvs) (S:zB N ps (zh st)) (len:∀vs H Q E,sp vs H Q E->vs.length=ps.length)
  (hbody:∀(f:Addr) (cdv:Value) (A:Around) (outer:List Env) (s:Shared) (H:Hp) (vs:List V) (Q:VK) (E:XK),zX k (A.deeper (envOfC x (zh st) s.heap.objs.size f cdv))->sp vs H Q E →
   ∃t,Bx (PSs (jI CX0 P w K mg base N x (zh st) f cdv A outer s H E).nox (zv st) t)/\t { nx:=λ_ H'=>Q .non H',rt:=Q } (jq N vs) H):Cal P w K mg base x (k+1) ps dvs sp :=
 D.cal S len λf cdv A outer s H vs Q E hr h=>by
  obtain⟨t,⟨p⟩,q⟩:=hbody f cdv A outer s H vs Q E hr h
  exact⟨t,p,q⟩
end
end L2
set_option Elab.async false
set_option linter.all false
set_option maxRecDepth 100000
namespace L2
open PySem PySem.Spec PyProof.Rows
abbrev zay:List Value:=[.type "ValueError",.type "Exception",.type "BaseException",.type "object"]
end L2
set_option Elab.async false
set_option linter.all false
set_option maxRecDepth 100000
namespace L2
open PySem PySem.Spec PyProof.Rows PySem.W
end L2
set_option Elab.async false
set_option linter.all false
set_option maxRecDepth 100000
namespace L2
open PySem PySem.Spec PyProof.Rows
def xx (H H':Hp):Prop:=∀b xs,H b=some (.tup xs)->H' b=some (.tup xs)
theorem xx.of {H H':Hp}(h:zr H H'):xx H H':=λb xs e=>h b _ e
theorem xx.trans {H H1 H2:Hp}(a:xx H H1) (b:xx H1 H2):xx H H2:=λc xs e=>b c xs (a c xs e)
theorem xx.upd {H:Hp}{D:Addr}{ys:List V}{o:HO}(h:H D=some (.lst ys)):xx H (upd H D o):=λb xs e=>by rw[zO (λz=>by subst z;rw[h]at e;cases e)];exact e
structure VF (J:It) (H:Hp) (xs:List V):Prop where
 go:∀i H',i<xs.length->zr H H'->J.go i H'
 stop:∀H',zr H H'->J.stop xs.length H'
 yld:∀i x H2 H3,zr H H2->J.yld i H2 x H3->H3=H2/\xs[i]? = some x
theorem xC {K:PySem.W.Frag}{H:Hp}{a:Addr}{xs:List V}(h:H a=some (.lst xs)):VF (Itl K a) H xs :=
 ⟨λi H' hi s=>⟨xs,xs[i],.of (s _ _ h),by simp[hi]⟩,λH' s=>⟨xs,.of (s _ _ h),Nat.le_refl _⟩,λi x H2 H3 s y=>⟨y.1,y.2 xs (.of (s _ _ h))⟩⟩
theorem jn {K:PySem.W.Frag}{H:Hp}{a:Addr}{xs:List V}(h:H a=some (.tup xs)):VF (Itt K a) H xs :=
 ⟨λi H' hi s=>⟨xs,xs[i],.of (s _ _ h),by simp[hi]⟩,λH' s=>⟨xs,.of (s _ _ h),Nat.le_refl _⟩,λi x H2 H3 s y=>⟨y.1,y.2 xs (.of (s _ _ h))⟩⟩
section
variable {J:It}{D:Addr}{n:Nat}{js:List Nat}{σ:St}{g:TG}{te:TE}{Z:Hp->Prop}{H:Hp}{xs:List V}
theorem j8 (R:Nat->V->Hp->Prop) (hR:∀i v H H',xx H H'->R i v H->R i v H') (hD:H D=none) (hJ:VF J H xs) (hl:xs.length<sizeLine)
  (hs:∀i x zs H2 Q',xs[i]? = some x->zs.length=n->zr H H2->(∀v H6,zr H2 H6->R i v H6->Q' v H6)->g x zs H2 λσ4 H4=>te σ4 H4 Q')
  (k:∀ys H',zr H H'->H' D=some (.lst ys)->ys.length=xs.length->(∀i v,ys[i]? = some v->R i v H')->Z H') :
  ∃W:Nat->Nat->Hp->List V->Prop,(∃m,W 0 m (upd H D (.lst [])) [])/\∀i m H2 ys,W i m H2 ys->H2 D=some (.lst ys)->(J.stop i H2/\Z H2) ∨
   (J.go i H2/\∀σB x H3,σB.length=n->J.yld i H2 x H3->g x σB H3 λσ4 H4=>(λ_ H Q=>Q true H:TT) σ4 H4 λb H5=>if b=true then te σ4 H5 (λv H6=>H6 D=some (.lst ys)/\ys.length<sizeLine/\∃m',m'<m/\W (i+1) m' (upd H6 D (.lst (ys++[v]))) (ys++[v]))
    else H5 D=some (.lst ys)/\∃m',m'<m/\W (i+1) m' H5 ys):=by
 refine jT (Q:=λ_ H=>Z H) (tt:=λ_ H Q=>Q true H) (N:=xs.length) (λi H2 ys=>zr H H2/\ys.length=i/\∀j v,ys[j]? = some v->R j v H2) ⟨zr.upd hD,rfl,λj v e=>by simp at e⟩ (λi H2 ys hi p=>hJ.go i H2 hi p.1) (λH2 ys p=>hJ.stop H2 p.1) ?_ (λH2 ys p e=>k ys H2 p.1 e p.2.1 p.2.2)
 rintro i x zs H2 H3 ys Nx hN hi hz hy ⟨s2,hyl,hyR⟩ hD2
 obtain⟨rfl,hx⟩:=hJ.yld i x H2 H3 s2 hy
 refine hs i x zs H3 _ hx hz s2 λv H6 s6 r6=>⟨s6 _ _ hD2,by omega,hN _ _ ⟨λc o e=>?_,by simp[hyl],λj u e=>?_⟩⟩
 ·rw[zO (zU e hD)];exact s6 _ _ (s2 _ _ e)
 ·have T6:xx H6 (upd H6 D (.lst (ys++[v]))):=.upd (s6 _ _ hD2)
  by_cases hj:j<ys.length
  ·rw[List.getElem?_append_left hj]at e
   exact hR _ _ _ _ ((xx.of s6).trans T6) (hyR j u e)
  ·rw[List.getElem?_append_right (by omega)]at e
   have:j - ys.length=0:=by
    rcases Nat.eq_zero_or_pos (j - ys.length)with z | z
    ·exact z
    ·rw[List.getElem?_eq_none (by simp;omega)]at e;cases e
   rw[this]at e
   simp at e
   subst e
   rw[show j=i by omega]
   exact hR _ _ _ _ T6 r6
theorem xP (R:Nat->V->Hp->Prop) (hR:∀i v H H',xx H H'->R i v H->R i v H') (hD:H D=none) (hJ:VF J H xs) (hl:xs.length<sizeLine)
  (hs:∀i x zs H2 Q',xs[i]? = some x->zs.length=n->zr H H2->(∀v H6,zr H2 H6->R i v H6->Q' v H6)->g x (zs++vz σ js) H2 λσ4 H4=>σ4.drop n=vz σ js/\te σ4 H4 Q')
  (k:∀ys H',zr H H'->H' D=some (.lst ys)->ys.length=xs.length->(∀i v,ys[i]? = some v->R i v H')->Z H') :
  ∃W:Nat->Nat->Hp->List V->Prop,(∃m,W 0 m (upd H D (.lst [])) [])/\∀i m H2 ys,W i m H2 ys->H2 D=some (.lst ys)->(J.stop i H2/\Z H2) ∨
   (J.go i H2/\∀zs x H3,zs.length=n->J.yld i H2 x H3->g x (zs++vz σ js) H3 λσ4 H4=>σ4.drop n=vz σ js/\(λ_ H Q=>Q true H:TT) σ4 H4 λb H5=>if b=true then te σ4 H5 (λv H6=>H6 D=some (.lst ys)/\ys.length<sizeLine/\∃m',m'<m/\W (i+1) m' (upd H6 D (.lst (ys++[v]))) (ys++[v]))
    else H5 D=some (.lst ys)/\∃m',m'<m/\W (i+1) m' H5 ys):=by
 refine ZE (Q:=λ_ H=>Z H) (tt:=λ_ H Q=>Q true H) (N:=xs.length) (λi H2 ys=>zr H H2/\ys.length=i/\∀j v,ys[j]? = some v->R j v H2) ⟨zr.upd hD,rfl,λj v e=>by simp at e⟩ (λi H2 ys hi p=>hJ.go i H2 hi p.1) (λH2 ys p=>hJ.stop H2 p.1) ?_ (λH2 ys p e=>k ys H2 p.1 e p.2.1 p.2.2)
 rintro i x zs H2 H3 ys Nx hN hi hz hy ⟨s2,hyl,hyR⟩ hD2
 obtain⟨rfl,hx⟩:=hJ.yld i x H2 H3 s2 hy
 refine hs i x zs H3 _ hx hz s2 λv H6 s6 r6=>⟨s6 _ _ hD2,by omega,hN _ _ ⟨λc o e=>?_,by simp[hyl],λj u e=>?_⟩⟩
 ·rw[zO (zU e hD)];exact s6 _ _ (s2 _ _ e)
 ·have T6:xx H6 (upd H6 D (.lst (ys++[v]))):=.upd (s6 _ _ hD2)
  by_cases hj:j<ys.length
  ·rw[List.getElem?_append_left hj]at e
   exact hR _ _ _ _ ((xx.of s6).trans T6) (hyR j u e)
  ·rw[List.getElem?_append_right (by omega)]at e
   have:j - ys.length=0:=by
    rcases Nat.eq_zero_or_pos (j - ys.length)with z | z
    ·exact z
    ·rw[List.getElem?_eq_none (by simp;omega)]at e;cases e
   rw[this]at e
   simp at e
   subst e
   rw[show j=i by omega]
   exact hR _ _ _ _ T6 r6
end
end L2
namespace L2
open PySem PySem.Spec PyProof.Rows
section
variable {J:It}{D:Addr}{n:Nat}{σ:St}{g:TG}{tt:TT}{te:TE}{Z:Hp->Prop}{H:Hp}{xs:List V}
theorem Ju (p:V->Bool) (hD:H D=none) (hJ:VF J H xs) (hl:xs.length<sizeLine)
  (hs:∀(i:Nat) (x:V) (zs:St) (H2:Hp) (A:VK) (B:Hp->Prop),xs[i]? = some x->zs.length=n->zr H H2->(p x=true->A x H2)->(p x=false->B H2)->g x zs H2 λσ4 H4=>tt σ4 H4 λb H5=>if b=true then te σ4 H5 A else B H5)
  (k:∀H',zr H H'->H' D=some (.lst (xs.filter p))->Z H') :
  ∃W:Nat->Nat->Hp->List V->Prop,(∃m,W 0 m (upd H D (.lst [])) [])/\∀i m H2 ys,W i m H2 ys->H2 D=some (.lst ys)->(J.stop i H2/\Z H2) ∨
   (J.go i H2/\∀σB x H3,σB.length=n->J.yld i H2 x H3->g x σB H3 λσ4 H4=>tt σ4 H4 λb H5=>if b=true then te σ4 H5 (λv H6=>H6 D=some (.lst ys)/\ys.length<sizeLine/\∃m',m'<m/\W (i+1) m' (upd H6 D (.lst (ys++[v]))) (ys++[v]))
    else H5 D=some (.lst ys)/\∃m',m'<m/\W (i+1) m' H5 ys):=by
 refine jT (Q:=λ_ H=>Z H) (tt:=tt) (N:=xs.length) (λi H2 ys=>zr H H2/\ys=(xs.take i).filter p) ⟨zr.upd hD,rfl⟩ (λi H2 ys hi p=>hJ.go i H2 hi p.1) (λH2 ys p=>hJ.stop H2 p.1) ?_ (λH2 ys q e=>k H2 q.1 (by rw[e,q.2,List.take_length]))
 rintro i x zs H2 H3 ys Nx hN hi hz hy ⟨s2,rfl⟩ hD2
 obtain⟨rfl,hx⟩:=hJ.yld i x H2 H3 s2 hy
 have et:xs.take (i+1)=xs.take i++[x]:=by rw[List.take_add_one,hx];rfl
 refine hs i x zs H3 _ _ hx hz s2 (λhp=>⟨hD2,?_,hN _ _ ⟨λc o e=>?_,?_⟩⟩) (λhp=>⟨hD2,hN _ _ ⟨s2,?_⟩⟩)
 ·have:=List.length_filter_le p (xs.take i)
  have:=List.length_take_le i xs
  omega
 ·rw[zO (zU e hD)];exact s2 _ _ e
 ·rw[et,List.filter_append];simp[hp]
 ·rw[et,List.filter_append];simp[hp]
end
end L2
set_option Elab.async false
set_option linter.all false
set_option maxRecDepth 100000
namespace L2
open PySem PySem.Spec PyProof.Rows
end L2
set_option Elab.async false
set_option linter.all false
set_option maxRecDepth 100000
namespace L2
open PySem PySem.Spec PyProof.Rows
end L2
set_option Elab.async false
set_option linter.all false
set_option maxRecDepth 100000
namespace L2
open PySem PySem.Spec PyProof.Rows
end L2
set_option Elab.async false
set_option linter.all false
set_option maxRecDepth 100000
namespace L2
open PySem PySem.Spec PyProof.Rows
theorem Q8 {α:Type}{xs:List α}{j:Nat}{v:α}(h1:1<=j) (h2:j<=xs.length) (h:xs[xs.length - j]? = some v):atI xs (-(j:Int))=some v:=by
 unfold atI ixN
 rw[if_neg (by omega),if_pos (by omega)]
 show xs[(-(j:Int)+(xs.length:Int)).toNat]? = some v
 rw[show (-(j:Int)+(xs.length:Int)).toNat=xs.length - j by omega];exact h
end L2
section
set_option maxHeartbeats 4000000
set_option Elab.async false
set_option linter.all false
set_option maxRecDepth 100000
namespace L2
open PySem PySem.Spec PyProof.Rows
end L2
end
namespace KM
theorem jX (a b:Rat):Rat.divInt (a.num*b.den - b.num*a.den) (a.den*b.den)=a - b:=by
 rw[Rat.sub_def',<-Rat.divInt_ofNat];simp
theorem QB (x s:Rat):(0:Int)<(x.den:Int)*s.den:=Int.mul_pos (den_pos x) (den_pos s)
theorem Ji (x:Rat){d:Int}(hd:d≠0):x=Rat.divInt (x.num*d) (x.den*d):=by rw[Rat.divInt_mul_right hd,Rat.num_divInt_den]
theorem vK {a b d:Int}(hd:0<d):Rat.divInt a d<Rat.divInt b d↔a<b:=by
 rw[Rat.divInt_eq_div,Rat.divInt_eq_div]
 have h:(0:Rat)<d:=Rat.intCast_pos.mpr hd
 rw[Rat.div_lt_iff h,Rat.div_mul_cancel (by grind)];exact Rat.intCast_lt_intCast
theorem ZG {a b d:Int}(hd:d≠0):Rat.divInt a d - Rat.divInt b d=Rat.divInt (a - b) d:=by
 rw[Rat.divInt_sub_divInt _ _ hd hd,<-Int.sub_mul,Rat.divInt_mul_right hd]
theorem qP (d:Int):Rat.divInt 0 d=0:=by simp
theorem ZF {a d:Int}(hd:0<d):0<Rat.divInt a d↔0<a:=by
 have:=vK (a:=0) (b:=a) hd
 rw[qP]at this;exact this
theorem jv {a d:Int}(hd:0<d) (h:0<=a):0<=Rat.divInt a d:=by
 have:=vK (a:=a) (b:=0) hd
 rw[qP]at this
 rw[<-Rat.not_lt,this];omega
def rst (x s:Rat):Rat:=Rat.divInt ((x.num*s.den) % (s.num*x.den)) (x.den*s.den)
section
variable {x s:Rat}
theorem Qg (hs:0<s.num):0<s.num*(x.den:Int):=Int.mul_pos hs (den_pos x)
theorem zd7 (x s:Rat):s=Rat.divInt (s.num*x.den) (x.den*s.den):=by rw[Int.mul_comm (x.den:Int)];exact Ji s (zT x)
theorem J5 (hs:0<s.num):0<=rst x s:=jv (QB x s) (Int.emod_nonneg _ (by have:=Qg (x:=x) hs;omega))
theorem J6 (hs:0<s.num):rst x s<s:=by
 have h:rst x s<Rat.divInt (s.num*x.den) (x.den*s.den):=(vK (QB x s)).mpr (Int.emod_lt_of_pos _ (Qg hs))
 rw[<-zd7]at h;exact h
theorem Qh (hs:0<s.num):x - rst x s=(((x.num*s.den)/(s.num*x.den):Int):Rat)*s:=by
 have hb:=Qg (x:=x) hs
 have e1:x - rst x s=Rat.divInt (x.num*s.den - (x.num*s.den) % (s.num*x.den)) (x.den*s.den):=by
  have:=ZG (a:=x.num*s.den) (b:=(x.num*s.den) % (s.num*x.den)) (Int.ne_of_gt (QB x s))
  rw[<-Ji x (zT s)]at this;exact this
 have e2:x.num*s.den - (x.num*s.den) % (s.num*x.den)=((x.num*s.den)/(s.num*x.den))*(s.num*x.den):=by
  have:=Int.emod_add_mul_ediv (x.num*s.den) (s.num*x.den)
  rw[Int.mul_comm (x.num*s.den/(s.num*x.den))];omega
 rw[e1,e2]
 have e3:(((x.num*s.den)/(s.num*x.den):Int):Rat)*s=Rat.divInt ((x.num*s.den)/(s.num*x.den)) 1*Rat.divInt (s.num*x.den) (x.den*s.den):=by
  rw[<-zd7,QN]
 rw[e3,Rat.divInt_mul_divInt,Int.one_mul]
end
end KM
section
set_option maxHeartbeats 8000000
set_option Elab.async false
set_option linter.all false
set_option maxRecDepth 100000
namespace L2
open PySem PySem.Spec PyProof.Rows
end L2
namespace L2
open PySem PySem.Spec PyProof.Rows
end L2
namespace L2
open PySem PySem.Spec PyProof.Rows
end L2
namespace L2
open PySem PySem.Spec PyProof.Rows
end L2
namespace L2
open PySem PySem.Spec PyProof.Rows
end L2
namespace L2
open PySem PySem.Spec PyProof.Rows
end L2
namespace L2
open PySem PySem.Spec PyProof.Rows
end L2
namespace L2
open PySem PySem.Spec PyProof.Rows
end L2
namespace L2
open PySem PySem.Spec PyProof.Rows
end L2
namespace L2
open PySem PySem.Spec PyProof.Rows
end L2
namespace L2
open PySem PySem.Spec PyProof.Rows
end L2
namespace Att
open PySem PySem.W PySem.Calls PyProof.Rows
end Att
namespace L2
open PySem PySem.Spec PyProof.Rows
end L2
namespace L2
open PySem PySem.Spec PyProof.Rows
end L2
end
section
set_option maxHeartbeats 4000000
set_option Elab.async false
set_option linter.all false
set_option maxRecDepth 100000
namespace L2
open PySem PySem.W PyProof.Rows
theorem zdy {α:Type}{M:Model}{c:Code}{t:Sem α}{Q:α->Prop}{p:Pos}{s:Shared}(h1:Sem.wp M (Ctx.of c []) t (λa _ _=>Q a) (λ_ _ _=>False) p s) (h2:Sem.wp M (Ctx.of c []) t (λa _ _=>¬Q a) (λ_ _ _=>False) p s):False:=by
 classical
 let f:α->Sem PySem.Fin:=λa=>if Q a then pure (.done (.ret .none))else throw Value.none
 have w1:Sem.wp M (Ctx.of c []) (t >>= f) (Sem.finPost M (Ctx.of c []) λr _=>∃z,r = .ok z) (λe _ s'=>(λ(r:Result) (_:Shared)=>∃z,r = .ok z) (.error e) s') p s:=by
  rw[Sem.wp_bind']
  refine Sem.wp_mono M _ t (λa p' s' q=>?_) (λ_ _ _ q=>q.elim) p s h1
  show Sem.wp M _ (if Q a then pure (PySem.Fin.done (.ret .none))else throw Value.none:Sem PySem.Fin) _ _ _ _
  rw[if_pos q]
  exact⟨_,rfl⟩
 have w2:Sem.wp M (Ctx.of c []) (t >>= f) (Sem.finPost M (Ctx.of c []) λr _=>∃z,r = .error z) (λe _ s'=>(λ(r:Result) (_:Shared)=>∃z,r = .error z) (.error e) s') p s:=by
  rw[Sem.wp_bind']
  refine Sem.wp_mono M _ t (λa p' s' q=>?_) (λ_ _ _ q=>q.elim) p s h2
  show Sem.wp M _ (if Q a then pure (PySem.Fin.done (.ret .none))else throw Value.none:Sem PySem.Fin) _ _ _ _
  rw[if_neg q]
  exact⟨_,rfl⟩
 obtain⟨r1,s1,a1,z1,e1⟩:=(wp_iff_reach _ _ p s).mp w1
 obtain⟨r2,s2,a2,z2,e2⟩:=(wp_iff_reach _ _ p s).mp w2
 obtain⟨_,e⟩:=Reach.det a1 a2
 subst e1;subst e2
 cases e
def Qi {α:Type}(lt:Nat->Nat->Bool):KasT α->α
 | .ret a=>a
 | .ask i j k=>Qi lt (k (lt i j))
def TOk {α:Type}(n:Nat) (R:α->Prop):KasT α->Prop
 | .ret a=>R a
 | .ask i j k=>i<n/\j<n/\∀b,TOk n R (k b)
theorem TOk.bind {α β:Type}{n:Nat}{R:α->Prop}{R':β->Prop}{f:α->KasT β}(hf:∀a,R a->TOk n R' (f a)):∀t:KasT α,TOk n R t->TOk n R' (t.bind f)
 | .ret a,h=>hf a h
 | .ask i j k,h=>⟨h.1,h.2.1,λb=>TOk.bind hf (k b) (h.2.2 b)⟩
theorem TOk.run {α:Type}{n:Nat}{R:α->Prop}{lt:Nat->Nat->Bool}:∀t:KasT α,TOk n R t->R (Qi lt t)
 | .ret a,h=>h
 | .ask i j k,h=>TOk.run (k (lt i j)) (h.2.2 _)
theorem TOk.wp {α:Type}{n:Nat}{R:α->Prop}{lt:Nat->Nat->Bool}{cmp:Nat->Nat->(Bool->Shared->Prop)->Shared->Prop}{s:Shared}(hc:∀i j C,i<n->j<n->C (lt i j) s->cmp i j C s){Q:α->Shared->Prop}:∀t:KasT α,TOk n R t->Q (Qi lt t) s->t.kasWp cmp Q s
 | .ret a,h,q=>q
 | .ask i j k,h,q=>hc i j _ h.1 h.2.1 (TOk.wp hc (k (lt i j)) (h.2.2 _) q)
def Bel (n:Nat) (p:Array Nat):Prop:=0<n/\∀x∈p.toList,x<n
theorem Bel.at {n:Nat}{p:Array Nat}(h:Bel n p) (k:Nat):p.getD k 0<n:=by
 unfold Array.getD
 split
 ·exact h.2 _ (by simp)
 ·exact h.1
theorem Bel.perm {n:Nat}{p q:Array Nat}(h:Bel n p) (e:q.Perm p):Bel n q:=⟨h.1,λx m=>h.2 x ((Array.perm_iff_toList_perm.mp e).mem_iff.mp m)⟩
theorem Bel.rev {n:Nat}{p:Array Nat}(h:Bel n p) (i j:Nat):Bel n (kas_rev p i j):=h.perm (mirror_perm _ _ _ _)
theorem XS {n:Nat}{p:Array Nat}(h:Bel n p):∀f k,TOk n (λ_=>True) (kas_asc p f k)
 | 0,_=>trivial
 | f+1,k=>⟨h.at _,h.at _,λb=>by
  cases b with
  | true=>exact trivial
  | false=>exact XS h f (k+1)⟩
theorem j5 {n:Nat}:∀f p k q,Bel n p->TOk n (λr=>Bel n r.1) (kas_desc f p k q)
 | 0,_,_,_,h=>h
 | f+1,p,k,q,h=>⟨h.at _,h.at _,λb=>by
  cases b with
  | true =>
   show TOk n _ (if q>0 then _ else _)
   by_cases hq:q>0
   ·rw[if_pos hq];exact j5 f _ _ _ (h.rev _ _)
   ·rw[if_neg hq];exact j5 f _ _ _ h
  | false =>
   refine⟨h.at _,h.at _,λd=>?_⟩
   cases d with
   | true=>exact h
   | false=>exact j5 f _ _ _ h⟩
theorem Xl {n k m:Nat}{p:Array Nat}(h:Bel n p):TOk n (λr=>Bel n r.2) (kas_tail3 k m p):=by
 refine TOk.bind (R:=λ_=>True) (λ_ _=>?_) _ (XS (h.rev 0 k) _ _)
 exact h.rev 0 k
theorem Qm {n k m:Nat}{p:Array Nat}(h:Bel n p):TOk n (λr=>Bel n r.2) (kas_descPart k m p):=by
 refine TOk.bind (λr hr=>?_) _ (j5 _ _ _ _ h)
 by_cases hq:r.2.2>0
 ·rw[if_pos hq];exact Xl (Bel.rev hr _ _)
 ·rw[if_neg hq];exact Xl hr
theorem Jc {n m:Nat}{p:Array Nat}(h:Bel n p):TOk n (λr=>Bel n r.2) (kas_count m p):=by
 refine TOk.bind (λk _=>?_) _ (XS h _ _)
 by_cases e1:(k == m)=true
 ·rw[if_pos e1];exact h
 ·rw[if_neg e1]
  by_cases e2:k>1
  ·rw[if_pos e2]
   refine⟨h.at _,h.at _,λb=>?_⟩
   cases b with
   | true=>exact h
   | false=>exact Qm (h.rev 0 k)
  ·rw[if_neg e2];exact Qm h
theorem Zi {n k:Nat}{p:Array Nat}(h:Bel n p):∀f l r,TOk n (λ_=>True) (kas_place p k f l r)
 | 0,_,_=>trivial
 | f+1,l,r=>by
  unfold kas_place
  by_cases e:l>=r
  ·rw[if_pos e];exact trivial
  ·rw[if_neg e]
   refine⟨h.at _,h.at _,λb=>?_⟩
   cases b with
   | true=>exact Zi h f _ _
   | false=>exact Zi h f _ _
theorem VA {n:Nat}:∀f p k,Bel n p->TOk n (Bel n) (kas_bin f p k)
 | 0,_,_,h=>h
 | f+1,p,k,h=>TOk.bind (λl _=>VA f _ _ (h.perm (bubble_perm _ _ _))) _ (Zi h _ _ _)
theorem Qn {n:Nat}(h:0<n):TOk n (Bel n) (kas_sort n):=by
 have h0:Bel n (List.toArray (List.range n)):=⟨h,λx m=>by simpa using m⟩
 refine TOk.bind (λr hr=>?_) _ (Jc h0)
 by_cases e:r.1<n
 ·rw[if_pos e];exact VA _ _ _ hr
 ·rw[if_neg e];exact hr
end L2
end
section
set_option maxHeartbeats 4000000
set_option Elab.async false
set_option linter.all false
set_option maxRecDepth 100000
namespace L2
open PySem PySem.W PyProof.Rows
def qt (r:Nat->Int) (n:Nat):Array Keyed:=((List.range n).map λi=>((.int (r i) 0,.int i 0):Keyed)).toArray
theorem qR (r:Nat->Int) (n:Nat):(qt r n).size=n:=by simp[qt]
theorem Zu {r:Nat->Int}{n i:Nat}(h:i<n):kas_item (qt r n) i=(.int (r i) 0,.int i 0):=by
 unfold kas_item Array.getD
 rw[dif_pos (by rw[qR];exact h)]
 simp[qt]
theorem QU (prog:Program) (w:World) (s:Shared){n:Nat}(h2:2<=n) (h64:n<64) (r:Nat->Int) (p:Array Nat) (hp:p=Qi (λi j=>decide (r i<r j)) (kas_sort n)) :
  p.toList.Perm (List.range n)/\(p.toList.map r).Pairwise (·<=·):=by
 have tk:=Qn (n:=n) (by omega)
 have hb:Bel n p:=hp ▸ TOk.run _ tk
 let A0:Around:={ handled:=(Ctx.of default []).handled,depth:=frameCount (Ctx.of default []).below+(Ctx.of default []).code.weight,units:=(Ctx.of default []).units }
 have hin:(Ctx.of default []).In A0:=⟨rfl,Nat.le_refl _,(λl h=>by cases h),(λg h=>by cases h),Nat.le_refl _⟩
 have est:arrOf (kas_st oneType' (qt r n) (List.toArray (List.range n)))=qt r n:=by
  have e:=kas_range (qt r n)
  rw[qR]at e
  exact e
 have k1:kasC (model prog w) A0 (λ_ _=>False) sortRuns' (λ_ st' _=>arrOf st'=p.map (kas_item (qt r n))) (kas_st oneType' (qt r n) (List.toArray (List.range n))) s:=by
  refine kas_runs (G:=λp' _=>p'=p) h2 h64 (λp' st' s' a1 a2 a3 a4=>by subst a4;exact a2) (TOk.wp (n:=n) (lt:=λi j=>decide (r i<r j)) (λi j C hi hj hC=>?_) _ tk hp.symm)
  unfold kas_cmp
  rw[Zu hi,Zu hj]
  exact kat_lt_int hC
 have k2:wpS (model prog w) A0 (λ_ _=>False) s sortRuns' (λ_ st'=>(arrOf st').Perm (qt r n)/\SortedTo (arrOf st') (qt r n).size) (kas_st oneType' (qt r n) (List.toArray (List.range n))):=by
  refine wpS_sortRuns (a₀:=qt r n) (λq m=>?_) ⟨by rw[est],rfl,rfl,rfl⟩ (by rw[qR];exact h2) (by rw[qR];exact h64) λst' a1 _ a3=>⟨a1,a3⟩
  simp[qt]at m
  obtain⟨i,_,rfl⟩:=m
  exact⟨_,_,rfl⟩
 have main:(p.map (kas_item (qt r n))).Perm (qt r n)/\SortedTo (p.map (kas_item (qt r n))) (qt r n).size:=by
  refine Classical.byContradiction λno=>?_
  refine zdy (M:=model prog w) (c:=default) (t:=sortRuns'.run (kas_st oneType' (qt r n) (List.toArray (List.range n)))) (Q:=λq=>(arrOf q.2).Perm (qt r n)/\SortedTo (arrOf q.2) (qt r n).size) (p:=default) (s:=s) ?_ ?_
  ·exact Sem.wp_mono _ _ _ (λa _ _ q=>q.2) (λ_ _ _ q=>q) _ _ (k2 _ default hin)
  ·refine Sem.wp_mono _ _ _ (λa _ _ q=>?_) (λ_ _ _ q=>q) _ _ (k1 _ default hin)
   rw[q];exact no
 have lt:∀i,(h:i<p.size)->p[i]<n:=λi h=>hb.2 _ (by simp)
 refine⟨?_,?_⟩
 ·have e:=(Array.perm_iff_toList_perm.mp main.1).map (λk:Keyed=>(numOf k.2).toNat)
  have e1:((p.map (kas_item (qt r n))).toList.map λk:Keyed=>(numOf k.2).toNat)=p.toList:=by
   rw[Array.toList_map,List.map_map]
   conv=>rhs;rw[<-List.map_id p.toList]
   refine List.map_congr_left λi m=>?_
   show (numOf (kas_item (qt r n) i).2).toNat=i
   rw[Zu (hb.2 i m)]
   rfl
  have e2:((qt r n).toList.map λk:Keyed=>(numOf k.2).toNat)=List.range n:=by
   simp[qt,Function.comp_def,numOf]
  rw[e1,e2]at e
  exact e
 ·have hs:=main.2
  rw[qR]at hs
  have hsz:p.size=n:=by
   have:=main.1.size_eq
   rw[Array.size_map,qR]at this
   exact this
  have hK:∀i (h:i<p.size),K (p.map (kas_item (qt r n))) i=r p[i]:=λi h=>by
   unfold K
   rw[Array.getElem?_map,Array.getElem?_eq_getElem h]
   show numOf (kas_item (qt r n) p[i]).1=_
   rw[Zu (lt i h)]
   rfl
  rw[List.pairwise_iff_getElem]
  intro i j hi hj hij
  simp only[List.length_map,Array.length_toList]at hi hj
  have:=hs i j (by omega) (by omega)
  rw[hK i hi,hK j hj]at this
  simpa using this
def xB:List Int->List Int->Bool
 | [],[]=>false
 | [],_::_=>true
 | _::_,[]=>false
 | a::x,b::y=>if a=b then xB x y else decide (a<b)
theorem X9:∀x,xB x x=false
 | []=>rfl
 | a::x=>by rw[xB,if_pos rfl];exact X9 x
theorem jL:∀{x y z},xB x y=true->xB y z=true->xB x z=true
 | [],[],_,h,_=>by simp[xB]at h
 | [],_::_,[],_,h=>by simp[xB]at h
 | [],_::_,_::_,_,_=>rfl
 | _::_,[],_,h,_=>by simp[xB]at h
 | _::_,_::_,[],_,h=>by simp[xB]at h
 | a::x,b::y,c::z,h1,h2=>by
  rw[xB]at *
  by_cases e1:a=b
  ·subst e1
   by_cases e2:a=c
   ·subst e2
    simp only[if_true]at *
    exact jL h1 h2
   ·rw[if_neg e2]at *;exact h2
  ·rw[if_neg e1]at h1
   by_cases e2:b=c
   ·subst e2
    rw[if_neg e1];exact h1
   ·rw[if_neg e2]at h2
    have h1:=of_decide_eq_true h1
    have h2:=of_decide_eq_true h2
    rw[if_neg (by omega)]
    exact decide_eq_true (by omega)
theorem Qa:∀{x y},xB x y=false->xB y x=false->x=y
 | [],[],_,_=>rfl
 | [],_::_,h,_=>by simp[xB]at h
 | _::_,[],_,h=>by simp[xB]at h
 | a::x,b::y,h1,h2=>by
  rw[xB]at h1 h2
  by_cases e:a=b
  ·subst e
   simp only[if_true]at h1 h2
   rw[Qa h1 h2]
  ·rw[if_neg e]at h1
   rw[if_neg (Ne.symm e)]at h2
   have h1:=of_decide_eq_false h1
   have h2:=of_decide_eq_false h2
   omega
theorem zaZ {x y z} (h1:xB y x=false) (h2:xB z y=false):xB z x=false:=by
 cases h:xB z x with
 | false=>rfl
 | true =>
  cases h3:xB x y with
  | true=>rw[jL h h3]at h2;cases h2
  | false=>have e:=Qa h3 h1;subst e;rw[h]at h2;cases h2
def vA (ks:List (List Int)) (x:List Int):Int:=((ks.countP λy=>xB y x:Nat):Int)
theorem Xe {α:Type}{p q:α->Bool}:∀{l:List α},(∀x,p x=true->q x=true)->(∃x∈l,p x=false/\q x=true)->l.countP p<l.countP q
 | [],_,⟨_,m,_⟩=>by simp at m
 | a::l,hi,⟨x,m,h1,h2⟩=>by
  have le:=List.countP_mono_left (l:=l) (p:=p) (q:=q) (λy _=>hi y)
  rw[List.countP_cons,List.countP_cons]
  rcases List.mem_cons.mp m with rfl | m
  ·rw[h1,h2];simp;omega
  ·have ih:=Xe (l:=l) hi ⟨x,m,h1,h2⟩
   cases ha:p a with
   | true=>rw[hi a ha];simp;exact ih
   | false=>cases q a <;> simp <;> omega
theorem J4 {ks:List (List Int)}{x y:List Int}(hx:x∈ks):(vA ks x<vA ks y)↔xB x y=true:=by
 unfold vA
 constructor
 ·intro h
  cases e:xB x y with
  | true=>rfl
  | false =>
   have:=List.countP_mono_left (l:=ks) (p:=λz=>xB z y) (q:=λz=>xB z x) (λz _ hz=>by
    cases h3:xB z x with
    | true=>rfl
    | false=>rw[zaZ e h3]at hz;cases hz)
   omega
 ·intro h
  have:=Xe (l:=ks) (p:=λz=>xB z x) (q:=λz=>xB z y) (λz hz=>jL hz h) ⟨x,hx,X9 x,h⟩
  omega
end L2
end
section
set_option maxHeartbeats 4000000
set_option Elab.async false
set_option linter.all false
set_option maxRecDepth 100000
namespace L2
open PySem PySem.W PyProof.Rows
section
variable {prog:Program}{w:World}{A:Around}{E:Value->Shared->Prop}{s:Shared}
theorem zbf {f:Bool}{a b:Int}{t u:Tok}{Q:Bool->Shared->Prop}(h:Q (decide (a<b)) s):wpAny (model prog w) A (oneLt' f (.int a t) (.int b u)) Q E s:=by
 cases f with
 | true=>exact oneLt_int h
 | false=>exact kat_one _ _ (wpAny_lt_int (Q:=W.BoolBack Q) h)
theorem za0 {Q:Bool->Shared->Prop}{b fin:Bool}{xs:List Value}{ns:List Int}(hx:IntsAre xs ns):∀{ys:List Value}{ms:List Int}(i:Nat),IntsAre ys ms->fin=decide (ns.length<ms.length)->Q (xB ns ms) s->KatLex prog w A b fin Q (xs.zip ys) i s:=by
 induction hx with
 | nil =>
  intro ys ms i hy hf h
  cases hy with
  | nil=>subst hf;exact kat_nil h
  | cons m u _=>subst hf;exact kat_nil (by simpa [xB]using h)
 | cons n t hx ih =>
  intro ys ms i hy hf h
  cases hy with
  | nil=>subst hf;exact kat_nil (by simpa [xB]using h)
  | @cons m u ys' ms' hy =>
   rw[List.zip_cons_cons]
   refine kat_cons (wpAny_eqBool_int ?_)
   rw[xB]at h
   by_cases e:n=m
   ·subst e
    rw[if_pos rfl]at h
    rw[beq_self_eq_true]
    exact kat_yes (ih (i+1) hy (by rw[hf];simp) h)
   ·rw[if_neg e]at h
    rw[beq_eq_false_iff_ne.mpr e]
    exact kat_no (zbf h)
def zdC (h:Heap) (v:Value) (k:List Int):Prop:=∃a o xs n,v = .ref a/\h.get? a=some o/\o.cls = .type "tuple"/\o.data = .seq xs n/\IntsAre xs.toList k/\k≠[]
inductive qJ (h:Heap):List Value->List (List Int)->Prop
 | nil:qJ h [] []
 | cons {v:Value}{k:List Int}{vs:List Value}{ks:List (List Int)} (a:zdC h v k) (t:qJ h vs ks):qJ h (v::vs) (k::ks)
theorem qJ.len {h:Heap}{vs:List Value}{ks:List (List Int)} (t:qJ h vs ks):vs.length=ks.length:=by
 induction t with
 | nil=>rfl
 | cons a t ih=>simp[ih]
theorem qJ.get {h:Heap}{vs:List Value}{ks:List (List Int)} (t:qJ h vs ks):∀{i:Nat},i<vs.length->zdC h (vs.getD i .none) (ks.getD i []):=by
 induction t with
 | nil=>intro i hi;simp at hi
 | cons a t ih =>
  intro i hi
  cases i with
  | zero=>exact a
  | succ i=>simpa using ih (by simpa using hi)
theorem qJ.keep {h h':Heap}{vs:List Value}{ks:List (List Int)} (t:qJ h vs ks) (k:∀v∈vs,∀a o,v = .ref a->h.get? a=some o->h'.get? a=some o):qJ h' vs ks:=by
 induction t with
 | nil=>exact .nil
 | @cons v q vs ks a t ih =>
  obtain⟨a,o,xs,n,rfl,ho,r⟩:=a
  exact .cons ⟨a,o,xs,n,rfl,k _ (.head _) a o rfl ho,r⟩ (ih λv m=>k v (.tail _ m))
theorem qJ.firsts {h:Heap}{vs:List Value}{ks:List (List Int)} (t:qJ h vs ks):∃fs,KatTups h vs fs/\fs.length=vs.length/\∀f∈fs,∃n u,f=Value.int n u:=by
 induction t with
 | nil=>exact⟨[],KatTups.nil,rfl,λ_ m=>by simp at m⟩
 | @cons v q vs ks a t ih =>
  obtain⟨fs,k1,k2,k3⟩:=ih
  obtain⟨a,o,xs,n,rfl,ho,hc,hd,hi,hne⟩:=a
  obtain⟨l,rfl⟩:∃l:List Value,xs=l.toArray:=⟨xs.toList,by simp⟩
  cases q with
  | nil=>exact absurd rfl hne
  | cons z q =>
   have hi':IntsAre l (z::q):=by simpa using hi
   cases hi' with
   | cons _ u hi''=>exact⟨_::fs,KatTups.cons ho hc hd (by simp;rfl) k1,by simp[k2],λf m=>by
     rcases List.mem_cons.mp m with rfl | m
     ·exact⟨_,_,rfl⟩
     ·exact k3 f m⟩
def Z5 (vs:List Value) (ks:List (List Int)) (out:List Value):Prop:=∃ps:List (List Int×Value),ps.Perm (ks.zip vs)/\out=ps.map Prod.snd/\ps.Pairwise λa b=>xB b.1 a.1=false
theorem zam {n:Nat}{vs:List Value}{ks:List (List Int)} (hv:vs.length=n) (hk:ks.length=n) (h2:2<=n) (h64:n<64) (prog:Program) (w:World) (s:Shared){lt:Nat->Nat->Bool}(hlt:∀i j,lt i j=decide (vA ks (ks.getD i [])<vA ks (ks.getD j []))) :
  Z5 vs ks ((Qi lt (kas_sort n)).toList.map λi=>vs.getD i Value.none):=by
 have elt:lt=λi j=>decide (vA ks (ks.getD i [])<vA ks (ks.getD j [])):=by funext i j;exact hlt i j
 obtain⟨hp,hs⟩:=QU prog w s h2 h64 (λi=>vA ks (ks.getD i [])) _ rfl
 rw[<-elt]at hp hs
 refine⟨(Qi lt (kas_sort n)).toList.map λi=>(ks.getD i [],vs.getD i Value.none),?_,by simp,?_⟩
 ·have e:(List.range n).map (λi=>(ks.getD i [],vs.getD i Value.none))=ks.zip vs:=by
   refine List.ext_getElem (by simp[hv,hk]) λi h1 h2=>?_
   have hi:i<n:=by simpa using h1
   simp[hv,hk,hi]
  rw[<-e]
  exact hp.map _
 ·rw[List.pairwise_map]at hs ⊢
  refine List.Pairwise.imp_of_mem (λ{a b} ma mb q=>?_) hs
  have hb:b<n:=by simpa using hp.mem_iff.mp mb
  show xB (ks.getD b []) (ks.getD a [])=false
  cases e:xB (ks.getD b []) (ks.getD a [])with
  | false=>rfl
  | true =>
   have hm:ks.getD b []∈ks:=by
    have:b<ks.length:=by omega
    simp[this]
   have:=(J4 hm).mpr e
   omega
theorem za1 {a:Addr}{vs:List Value}{ks:List (List Int)}{n:Nat}{P:PySem.Fin->Shared->Prop}(ho:s.heap.get? a=some (seqObj "list" vs.toArray n)) (hT:qJ s.heap vs ks) (hna:∀v∈vs,v≠.ref a) (h64:vs.length<64)
  (h:∀h' out c,(∀b o,b≠a->s.heap.get? b=some o->h'.get? b=some o)->h'.get? a=some (seqObj "list" (List.toArray out) c)->Z5 vs ks out->P (.done (.ret .none)) { s with heap:=h' }) :
  wpAny (model prog w) A (Builtin.«list.sort» ⟨[.ref a],[]⟩) P E s:=by
 have hlen:=hT.len
 have ha:a<s.heap.objs.size:=Heap.lt_size ho
 obtain⟨e1,ho1⟩:∃e1,(s.heap.update a (Obj.mapSeq λ_=>(#[]:Array Value))).get? a=some (seqObj "list" #[] e1):=⟨_,get?_update_seq ho λ_=>#[]⟩
 have kp:∀b o,b≠a->s.heap.get? b=some o->(((s.heap.update a (Obj.mapSeq λ_=>(#[]:Array Value))).push (seqObj "tuple" vs.toArray 0)).push (seqObj "list" #[] 0)).get? b=some o:=λb o hb e =>
  Heap.get?_push_of_some _ (Heap.get?_push_of_some _ (((Heap.SameBut.update s.heap a _).2 b hb).trans e))
 have ho6:(((s.heap.update a (Obj.mapSeq λ_=>(#[]:Array Value))).push (seqObj "tuple" vs.toArray 0)).push (seqObj "list" #[] 0)).get? a=some (seqObj "list" #[] e1):=Heap.get?_push_of_some _ (Heap.get?_push_of_some _ ho1)
 have hT6:qJ (((s.heap.update a (Obj.mapSeq λ_=>(#[]:Array Value))).push (seqObj "tuple" vs.toArray 0)).push (seqObj "list" #[] 0)) vs ks:=hT.keep λv m b o e q=>kp b o (λz=>hna v m (by rw[e,z])) q
 rw[list_sort_plain]
 refine wpAny_bind (listItems_at ho rfl (wpAny_bind (listUpdate_at ho rfl (wpAny_bind (seqEpoch_at ho1 rfl (wpAny_bind (wpAny_newTuple (wpAny_bind (wpAny_newList (wpAny_holding ?_) (Nat.zero_le _))) (by show vs.length<=_;rw[sizeLine_eq];omega))))) (by rw[List.size_toArray,sizeLine_eq];omega) (Nat.zero_le _))))
 show wpAny (model prog w) A _ P E { s with heap:=((s.heap.update a (Obj.mapSeq λ_=>(#[]:Array Value))).push (seqObj "tuple" vs.toArray 0)).push (seqObj "list" #[] 0) }
 dsimp only
 have fin:∀(out:List Value) (c:Nat),out.length=vs.length->Z5 vs ks out->(((((s.heap.update a (Obj.mapSeq λ_=>(#[]:Array Value))).push (seqObj "tuple" vs.toArray 0)).push (seqObj "list" #[] 0)).update a (Obj.mapSeq λ_=>List.toArray out)).get? a=some (seqObj "list" (List.toArray out) c)) →
   P (.done (.ret .none)) { s with heap:=(((s.heap.update a (Obj.mapSeq λ_=>(#[]:Array Value))).push (seqObj "tuple" vs.toArray 0)).push (seqObj "list" #[] 0)).update a (Obj.mapSeq λ_=>List.toArray out) }:=λout c _ hz hc =>
  h _ out c (λb o hb e=>((Heap.SameBut.update _ a _).2 b hb).trans (kp b o hb e)) hc hz
 by_cases h2:vs.toArray.size<2
 ·rw[if_pos h2,if_pos h2]
  refine wpAny_bind (wpAny_pure ?_)
  rw[StateT.run_pure]
  refine wpAny_bind (wpAny_pure ?_)
  have eo:(arrOf (SortSt.mk' general' (vs.toArray.zip vs.toArray) #[] 7 none)).map (·.2)=List.toArray vs:=by
   show (vs.toArray.zip vs.toArray).map (·.2)=_
   apply Array.toList_inj.mp
   simp[List.map_snd_zip]
  dsimp only
  refine wpAny_bind (seqEpoch_at ho6 rfl (wpAny_bind (listUpdate_at ho6 rfl ?_ (Nat.zero_le _) (by rw[eo,List.size_toArray,sizeLine_eq];omega))))
  simp only[bne_self_eq_false,Bool.false_eq_true,if_false]
  rw[eo]
  refine wpAny_pure (fin vs _ rfl ⟨ks.zip vs,.refl _,by rw[List.map_snd_zip];omega,?_⟩ (get?_update_seq ho6 _))
  rw[List.size_toArray]at h2
  match ks,vs,hlen,h2 with
  | [],[],_,_=>exact .nil
  | [k],[v],_,_=>exact List.pairwise_singleton _ _
  | _::_::_,_::_::_,_,h2=>simp at h2;omega
 ·rw[if_neg h2,if_neg h2]
  rw[List.size_toArray]at h2
  obtain⟨fs,k1,k2,k3⟩:=hT6.firsts
  refine wpAny_bind (kat_kind (T:=.type "int") k1 (by omega) (λv m=>?_) (by rfl) ?_)
  ·obtain⟨z,u,rfl⟩:=k3 v m
   exact Looks.of_pure rfl
  have hlt:∀i j,decide (vA ks (ks.getD i [])<vA ks (ks.getD j []))=decide (vA ks (ks.getD i [])<vA ks (ks.getD j [])):=λ_ _=>rfl
  have so:=zam (n:=vs.length) (ks:=ks) rfl hlen.symm (by omega) h64 prog w s (lt:=λi j=>decide (vA ks (ks.getD i [])<vA ks (ks.getD j []))) hlt
  have tk:=Qn (n:=vs.length) (by omega)
  refine wpAny_bind (wpAny_mono (kat_run (ks:=vs) (vs:=vs) (κ:=tuples' (Value.type "int" != Value.type "tuple")) (Q:=λst' s'=>s' = { s with heap:=((s.heap.update a (Obj.mapSeq λ_=>(#[]:Array Value))).push (seqObj "tuple" vs.toArray 0)).push (seqObj "list" #[] 0) }/\failedOf st'=none/\∃p:Array Nat,p.size=vs.length/\arrOf st'=p.map (kas_item (vs.toArray.zip vs.toArray))/\p=Qi (λi j=>decide (vA ks (ks.getD i [])<vA ks (ks.getD j []))) (kas_sort vs.length))
   (G:=λp s'=>s' = { s with heap:=((s.heap.update a (Obj.mapSeq λ_=>(#[]:Array Value))).push (seqObj "tuple" vs.toArray 0)).push (seqObj "list" #[] 0) }/\p=Qi (λi j=>decide (vA ks (ks.getD i [])<vA ks (ks.getD j []))) (kas_sort vs.length)) rfl (by omega) h64 (λp st' s' a1 a2 a3 a4=>⟨a4.1,a3,p,a1,a2,a4.2⟩)
   (TOk.wp (n:=vs.length) (lt:=λi j=>decide (vA ks (ks.getD i [])<vA ks (ks.getD j []))) (λi j C hi hj hC=>?_) _ tk ⟨rfl,rfl⟩)) ?_ λ_ _ e=>e)
  ·unfold kas_ask
   obtain⟨x,ox,xs,nx,ex,hx,_,dx,ix,_⟩:=hT6.get hi
   obtain⟨y,oy,ys,ny,ey,hy,_,dy,iy,_⟩:=hT6.get hj
   rw[ex,ey]
   have hm:ks.getD i []∈ks:=by
    have:i<ks.length:=by omega
    simp[this]
   refine kat_lt hx dx hy dy (za0 ix 0 iy ?_ ?_)
   ·rw[<-ix.length,<-iy.length];simp
   ·have e:xB (ks.getD i []) (ks.getD j [])=decide (vA ks (ks.getD i [])<vA ks (ks.getD j [])):=by
     cases q:xB (ks.getD i []) (ks.getD j [])with
     | true=>exact(decide_eq_true ((J4 hm).mpr q)).symm
     | false=>exact(decide_eq_false λz=>by rw[(J4 hm).mp z]at q;cases q).symm
    rw[e];exact hC
  ·rintro ⟨⟨⟩,st'⟩ s' ⟨es,hf,p,hp,har,ep⟩
   dsimp only at es hf har
   subst es
   have eo:=kat_snds (ks:=vs) (vs:=vs) rfl har
   dsimp only
   have ln:(p.toList.map λi=>vs.getD i Value.none).length=vs.length:=by simp[hp]
   refine wpAny_bind (seqEpoch_at ho6 rfl (wpAny_bind (listUpdate_at ho6 rfl ?_ (Nat.zero_le _) (by rw[eo,List.size_toArray,ln,sizeLine_eq];omega))))
   rw[hf]
   simp only[bne_self_eq_false,Bool.false_eq_true,if_false]
   rw[eo]
   rw[<-ep]at so
   exact wpAny_pure (fin _ _ ln so (get?_update_seq ho6 _))
end
end L2
end
section
set_option maxHeartbeats 4000000
set_option Elab.async false
set_option linter.all false
set_option maxRecDepth 100000
namespace L2
open PySem PySem.W PyProof.Rows
section
variable {prog:Program}{w:World}{A:Around}{E:Value->Shared->Prop}{s:Shared}{it d v:Addr}{i ep:Nat}{es:Array DictEntry}
theorem V0 {x:Addr}{vs:List Value}{ks:List (List Int)}{Q:Value->Shared->Prop}(hT:qJ s.heap vs ks) (h64:vs.length<64)
  (hcol:∀R:List Value->Shared->Prop,(∀(h1:Heap) (tk:Nat),(∀b o,s.heap.get? b=some o->h1.get? b=some o)->R vs { s with heap:=h1,toks:=tk })->wpAny (model prog w) A.in1 (collect (.ref x)) R E s)
  (h:∀(h1 h':Heap) (tk:Nat) (out:List Value) (c:Nat),(∀b o,s.heap.get? b=some o->h1.get? b=some o)->(∀b o,h1.get? b=some o->h'.get? b=some o)->h'.get? h1.objs.size=some (seqObj "list" (List.toArray out) c)->Z5 vs ks out->Q (.ref h1.objs.size) { s with heap:=h',toks:=tk }) :
  wpAny (model prog w) A (call (.builtin "sorted") [.ref x]) Q E s:=by
 refine Calls.call_function_entry kind_sorted plain_sorted entry_sorted (args_sorted1 _) ?_
 unfold Builtin.«sorted»
 refine wpAny_bind (m:=checkCount "sorted" 1 1 _) (wpAny_pure (wpAny_bind (hcol _ λh1 tk k1=>wpAny_bind (wpAny_newList ?_ (by rw[sizeLine_eq];omega)))))
 have hoL:(h1.push (seqObj "list" vs.toArray 0)).get? h1.objs.size=some (seqObj "list" vs.toArray 0):=Heap.get?_push_size _ rfl
 have kk:∀b o,s.heap.get? b=some o->(h1.push (seqObj "list" vs.toArray 0)).get? b=some o:=λb o e=>Heap.get?_push_of_some _ (k1 b o e)
 show wpAny _ _ _ _ _ { s with heap:=h1.push (seqObj "list" vs.toArray 0),toks:=tk }
 refine wpAny_bind (wpAny_holding (wpAny_call_entry slot_list_sort ⟨_,hoL,rfl⟩ entry_list_sort (za1 (s:={ s with heap:=h1.push (seqObj "list" vs.toArray 0),toks:=tk }) (ks:=ks) hoL (hT.keep λv m b o _ q=>kk b o q) (λv m z=>?_) h64 λh' out c k2 k3 k4=>⟨_,rfl,?_⟩) (args_list_sort _)))
 ·subst z
  have lt:∀{vs:List Value}{ks:List (List Int)},qJ s.heap vs ks->Value.ref h1.objs.size∈vs->h1.objs.size<h1.objs.size:=λt=>by
   induction t with
   | nil=>intro m;simp at m
   | cons a t ih =>
    intro m
    rcases List.mem_cons.mp m with e | m
    ·obtain⟨b,o,xs,n,rfl,ho,_⟩:=a
     cases e
     exact Heap.lt_size (k1 _ _ ho)
    ·exact ih m
  exact Nat.lt_irrefl _ (lt hT m)
 ·exact wpAny_pure ⟨_,rfl,h h1 h' tk out c k1 (λb o e=>k2 b o (Nat.ne_of_lt (Heap.lt_size e)) (Heap.get?_push_of_some _ e)) k3 k4⟩
end
end L2
end
section
set_option maxHeartbeats 4000000
set_option Elab.async false
set_option linter.all false
set_option maxRecDepth 100000
namespace L2
open PySem PySem.Spec PyProof.Rows
inductive qi (H:Hp):List V->List (List Int)->Prop
 | nil:qi H [] []
 | cons {a:Addr}{k:List Int}{xs:List V}{ks:List (List Int)} (e:H a=some (.tup (k.map V.int))) (ne:k≠[]) (t:qi H xs ks):qi H (.ref a::xs) (k::ks)
theorem qi.len {H:Hp}{xs:List V}{ks:List (List Int)} (t:qi H xs ks):xs.length=ks.length:=by
 induction t with
 | nil=>rfl
 | cons e ne t ih=>simp[ih]
theorem qi.same {H H':Hp}{xs:List V}{ks:List (List Int)} (t:qi H xs ks) (h:∀b o,H b=some o->H' b=some o):qi H' xs ks:=by
 induction t with
 | nil=>exact .nil
 | cons e ne t ih=>exact .cons (h _ _ e) ne ih
theorem qi.vals {P:Program}{w:World}{H:Hp}{h:Heap}{xs:List V}{ks:List (List Int)} (ok:HOk P w H h) (t:qi H xs ks):∀{its:List Value},zP xs its->qJ h its ks:=by
 induction t with
 | nil=>intro its r;cases r;exact .nil
 | @cons a k xs ks e ne t ih =>
  intro its r
  cases r with
  | cons ru rs =>
   cases ru
   obtain⟨_,ys,rv,o,ho,hc,n,hd⟩:=(show xF P w H h a (.tup (k.map V.int))from ok a _ e)
   exact .cons ⟨a,o,_,n,rfl,ho,hc,hd,by simpa using QG rv,ne⟩ (ih rs)
def ZB (xs:List V) (ks:List (List Int)) (ys:List V):Prop:=∃ps:List (List Int×V),ps.Perm (ks.zip xs)/\ys=ps.map Prod.snd/\ps.Pairwise λa b=>xB b.1 a.1=false
inductive Zq:List (List Int×V)->List (List Int×Value)->Prop where
 | nil:Zq [] []
 | cons {k:List Int}{v:V}{u:Value}{l:List (List Int×V)}{m:List (List Int×Value)} (r:xg v u) (t:Zq l m):Zq ((k,v)::l) ((k,u)::m)
theorem zaD:∀{kz:List (List Int)}{xs:List V}{vs:List Value},zP xs vs->Zq (kz.zip xs) (kz.zip vs)
 | [],_,_,_=>by simp;exact .nil
 | _::_,_,_,.nil=>by simp;exact .nil
 | k::kz,_,_,.cons r t=>by rw[List.zip_cons_cons,List.zip_cons_cons];exact .cons r (zaD t)
theorem zbG {l1 l2:List (List Int×Value)} (p:l1.Perm l2):∀{m2:List (List Int×V)},Zq m2 l2->∃m1,m1.Perm m2/\Zq m1 l1:=by
 induction p with
 | nil=>intro m2 h;cases h;exact⟨[],.refl _,.nil⟩
 | cons x p ih=>intro m2 h;cases h with | cons r t=>obtain⟨m1,a,b⟩:=ih t;exact⟨_,a.cons _,.cons r b⟩
 | swap x y l=>intro m2 h;cases h with | cons r t=>cases t with | cons r' t'=>exact⟨_,List.Perm.swap ..,.cons r' (.cons r t')⟩
 | trans p1 p2 ih1 ih2=>intro m2 h;obtain⟨m1,a,b⟩:=ih2 h;obtain⟨m0,c,d⟩:=ih1 b;exact⟨m0,c.trans a,d⟩
theorem zdz {m:List (List Int×V)}{l:List (List Int×Value)} (h:Zq m l):m.map Prod.fst=l.map Prod.fst:=by
 induction h with
 | nil=>rfl
 | cons r t ih=>simp[ih]
theorem zdA {m:List (List Int×V)}{l:List (List Int×Value)} (h:Zq m l):zP (m.map Prod.snd) (l.map Prod.snd):=by
 induction h with
 | nil=>exact .nil
 | cons r t ih=>exact .cons r ih
theorem Ja {xs:List V}{ks:List (List Int)}{its out:List Value}(rv:zP xs its) (z:Z5 its ks out):∃ys,ZB xs ks ys/\zP ys out:=by
 obtain⟨ps,hp,ho,hw⟩:=z
 obtain⟨ms,hm,hz⟩:=zbG hp (zaD rv)
 have hw':(ps.map Prod.fst).Pairwise λa b=>xB b a=false:=List.pairwise_map.mpr hw
 rw[<-zdz hz]at hw'
 exact⟨ms.map Prod.snd,⟨ms,hm,rfl,List.pairwise_map.mp hw'⟩,ho ▸ zdA hz⟩
theorem ZB.len {xs:List V}{ks:List (List Int)}{ys:List V}(h:ZB xs ks ys) (e:xs.length=ks.length):ys.length=xs.length:=by
 obtain⟨ps,hp,rfl,_⟩:=h
 rw[List.length_map,hp.length_eq,List.length_zip]
 omega
theorem ZB.tups {H:Hp}{xs:List V}{ks:List (List Int)}{ys:List V}(t:qi H xs ks) (h:ZB xs ks ys):∃js:List (List Int),qi H ys js/\js.Perm ks/\js.Pairwise λa b=>xB b a=false:=by
 obtain⟨ps,hp,rfl,hw⟩:=h
 have all:∀{xs:List V}{ks:List (List Int)},qi H xs ks->∀p∈ks.zip xs,p.1≠[]/\∃a,p.2 = .ref a/\H a=some (.tup (p.1.map V.int)):=λt=>by
  induction t with
  | nil=>intro p m;simp at m
  | cons e ne t ih =>
   intro p m
   rw[List.zip_cons_cons]at m
   rcases List.mem_cons.mp m with rfl | m
   ·exact⟨ne,_,rfl,e⟩
   ·exact ih p m
 have mk:∀{ps:List (List Int×V)},(∀p∈ps,p.1≠[]/\∃a,p.2 = .ref a/\H a=some (.tup (p.1.map V.int)))->qi H (ps.map Prod.snd) (ps.map Prod.fst):=λ{ps}=>by
  induction ps with
  | nil=>intro _;exact .nil
  | cons p ps ih =>
   intro h
   obtain⟨ne,a,e1,e2⟩:=h p (.head _)
   obtain⟨k,v⟩:=p
   cases e1
   exact .cons e2 ne (ih λq m=>h q (.tail _ m))
 refine⟨ps.map Prod.fst,mk λp m=>all t p (hp.mem_iff.mp m),?_,List.pairwise_map.mpr hw⟩
 have e:=hp.map Prod.fst
 rw[List.map_fst_zip (by have:=t.len;omega)]at e
 exact e
section
variable {X:Cx}{pins:List (Addr×Obj)}{σ:St}{H:Hp}{s:Shared}
theorem QV {xs:List V}{ks:List (List Int)}{its out:List Value}{h1 h':Heap}{tk c:Nat}{Q:VK}(I:Inv X pins σ H s) (t:qi H xs ks) (rv:zP xs its) (h64:xs.length<64) (k1:∀b o,s.heap.get? b=some o->h1.get? b=some o) (k2:∀b o,h1.get? b=some o->h'.get? b=some o)
  (hD:h'.get? h1.objs.size=some (seqObj "list" (List.toArray out) c)) (z:Z5 its ks out) (q:∀D ys,H D=none->ZB xs ks ys->Q (.ref D) (upd H D (.lst ys))):EP X pins σ Q (.ref h1.objs.size) { s with heap:=h',toks:=tk }:=by
 obtain⟨ys,hy,hv⟩:=Ja rv z
 have J:=I.kept (t':=tk) k1
 refine⟨.ref h1.objs.size,_,J.laid (t':=tk) (o:=.lst ys) k2 (Nat.le_refl _) ⟨?_,out,c,hv,hD⟩,rfl,q _ ys (J.hok.fresh (Nat.le_refl _)) hy⟩
 rw[hy.len t.len,sizeLine_eq];omega
theorem Qx:vg X (.builtin "sorted") (λvs H Q=>∃(p:Addr) (xs:List V) (ks:List (List Int)),vs=[.ref p]/\SqL X.K H p xs/\qi H xs ks/\xs.length<64/\∀D ys,H D=none->ZB xs ks ys->Q (.ref D) (upd H D (.lst ys))):=by
 intro pins s σ H vs us Q I r h
 obtain⟨p,xs,ks,rfl,hq,ht,h64,q⟩:=h
 obtain⟨u,rfl,ru⟩:=Zm r
 cases ru
 obtain⟨its,rv,pl,hz⟩:=I.list hq
 have hl:=rv.length
 refine V0 (vs:=its) (ks:=ks) (ht.vals I.hok rv) (by omega) (λR hR=>collect_list pl.isList (hR _ s.toks λb o e=>?_) (by omega)) λh1 h' tk out c k1 k2 hD z=>QV I ht rv h64 k1 k2 hD z q
 have hlt:b<s.heap.objs.size:=Heap.lt_size e
 rw[Heap.get?_update_ne _ _ _ _ (Nat.ne_of_lt hlt),Heap.get?_push_ne _ _ _ (Nat.ne_of_lt hlt)]
 exact e
end
end L2
end
set_option Elab.async false
set_option linter.all false
set_option maxRecDepth 100000
namespace L2
open PySem PySem.Spec PyProof.Rows
end L2
section
set_option maxHeartbeats 8000000
set_option Elab.async false
set_option linter.all false
set_option maxRecDepth 100000
namespace L2
open PySem PySem.Spec PyProof.Rows
end L2
end
section
set_option maxHeartbeats 8000000
set_option Elab.async false
set_option linter.all false
set_option maxRecDepth 100000
namespace L2
open PySem PySem.Spec PyProof.Rows
open MeetsSeq MeetsSeq2 MeetsSeq3 SeqRoads2 SeqAt AutoSeq1
section
variable {X:Cx}
def PrL (H:Hp) (xs:List V) (ps:List (Int×Int)):Prop:=xs.length=ps.length/\∀(i:Nat) (v:V),xs[i]? = some v->∃u a,ps[i]? = some u/\v = .ref a/\H a=some (.tup [.int u.1,.int u.2])
theorem PrL.tail {H:Hp}{x:V}{xs:List V}{p:Int×Int}{ps:List (Int×Int)} (h:PrL H (x::xs) (p::ps)):PrL H xs ps:=⟨by simpa using h.1,λi v e=>by simpa using h.2 (i+1) v (by simpa using e)⟩
theorem PrL.head {H:Hp}{x:V}{xs:List V}{p:Int×Int}{ps:List (Int×Int)} (h:PrL H (x::xs) (p::ps)):∃a,x = .ref a/\H a=some (.tup [.int p.1,.int p.2]):=by
 obtain⟨u,a,e,e1,e2⟩:=h.2 0 x rfl
 cases e;exact⟨a,e1,e2⟩
def isP (H:Hp) (p:Int×Int):Value->Bool
 | .ref a=>match H a with
  | some (.tup [.int n,.int m])=>decide (n=p.1/\m=p.2)
  | _=>false
 | _=>false
theorem Xf {H:Hp}{p:Int×Int}:∀{xs:List V}{its:List Value}{ps:List (Int×Int)},zP xs its->PrL H xs ps->its.countP (isP H p)=ps.countP λu=>decide (u.1=p.1/\u.2=p.2)
 | [],its,ps,r,h=>by
  cases r
  have:=h.1
  cases ps with
  | nil=>rfl
  | cons _ _=>simp at this
 | x::xs,its,ps,r,h=>by
  cases r with
  | cons rx rs =>
   cases ps with
   | nil=>have:=h.1;simp at this
   | cons u ps =>
    obtain⟨a,rfl,ha⟩:=h.head
    cases rx
    rw[List.countP_cons,List.countP_cons,Xf rs h.tail]
    congr 1
    show (if(match H a with | some (.tup [.int n,.int m])=>decide (n=p.1/\m=p.2) | _=>false)=true then 1 else 0)=_
    rw[ha]
def rCnt:V->List V->Hp->VK->Prop:=λx vs H Q=>∃(l q:Addr) (xs:List V) (ps:List (Int×Int)) (p:Int×Int),x = .ref l/\vs=[.ref q]/\H l=some (.lst xs)/\PrL H xs ps/\H q=some (.tup [.int p.1,.int p.2])/\Q (.int ((ps.countP λu=>decide (u.1=p.1/\u.2=p.2):Nat):Int)) H
theorem JO (hu:X.A.units+64<cLine):MtR X "list.count" rCnt:=by
 intro pins s σ H x vs v us Q I rx rv h
 obtain⟨l,q,xs,ps,p,rfl,rfl,hl,hp,hq,k⟩:=h
 cases rx
 obtain⟨u,rfl,ru⟩:=rv.one
 cases ru
 obtain⟨z,its,n,r,hz,e⟩:=I.lstM hl
 obtain⟨bs,rb⟩:=(show RdD H (.ref q) (.tuple [.int p.1,.int p.2])from .tup hq (.cons (.int _) (.cons (.int _) .nil))).reads I rfl
 have key:∀y,y∈its.toArray->EqAt X.A.in1 s y (.ref q) (isP H p y):=λy hy=>by
  obtain⟨j,hj⟩:=List.mem_iff_getElem?.mp (show y∈its by simpa using hy)
  have hl:=r.length
  have hj':=(List.getElem?_eq_some_iff.mp hj).1
  obtain⟨xv,exv⟩:∃xv,xs[j]? = some xv:=⟨_,List.getElem?_eq_getElem (by omega)⟩
  obtain⟨uv,euv,ruv⟩:=r.get exv
  rw[hj]at euv;cases euv
  obtain⟨w,a,ew,rfl,ha⟩:=hp.2 j xv exv
  obtain⟨as,ra⟩:=(show RdD H (.ref a) (.tuple [.int w.1,.int w.2])from .tup ha (.cons (.int _) (.cons (.int _) .nil))).reads I ruv
  cases ruv
  have ee:isP H p (.ref a)=PyData.eqv (.tuple [.int w.1,.int w.2]) (.tuple [.int p.1,.int p.2]):=by
   show (match H a with | some (.tup [.int n,.int m])=>decide (n=p.1/\m=p.2) | _=>false)=_
   rw[ha]
   show decide (w.1=p.1/\w.2=p.2)=(decide (w.1=p.1)&&(decide (w.2=p.2)&&true))
   rw[Bool.and_true,Bool.decide_and]
  rw[ee]
  exact eqAt_reads _ _ _ _ _ _ _ _ ra rb rfl rfl (by show X.A.units+1+min 1 1<cLine;omega)
 refine call_meets F.slot_list_count ⟨_,e,rfl⟩ F.entry_list_count (F.args_list_count_2 _ _) (list_countAt l its.toArray n none #[] (.ref q) (isP H p)) ⟨e,key,?_⟩
 refine⟨.int _,H,I.tok _,⟨_,rfl⟩,?_⟩
 rw[show its.toArray.toList=its from rfl,Xf r hp]
 exact k
end
end L2
end
section
set_option maxHeartbeats 8000000
set_option Elab.async false
set_option linter.all false
set_option maxRecDepth 100000
namespace L2
open PySem PySem.Spec PyProof.Rows
end L2
end
set_option Elab.async false
set_option linter.all false
set_option maxRecDepth 100000
namespace KK
open PySem L2
def top (i:Nat):Stmt:=PySem.Challenge.pw_clackrow_k42_beginnings_refused.main.body.getD i (.Pass ⟨0,0,0,0⟩)
abbrev qy:Stmt:=top 9
abbrev qx:Stmt:=top 10
abbrev xc:Stmt:=top 11
abbrev qv:Stmt:=top 12
abbrev jd:Stmt:=top 13
abbrev jD:Stmt:=top 14
abbrev jE:Stmt:=top 15
abbrev Ze:Stmt:=top 16
abbrev Zd:Stmt:=top 17
abbrev vc:Stmt:=top 18
abbrev xm:Stmt:=top 21
abbrev xt:Stmt:=top 22
abbrev qH:Stmt:=top 23
abbrev qG:Stmt:=top 24
abbrev qU:Stmt:=top 27
abbrev xE:Stmt:=top 28
abbrev xD:Stmt:=top 29
abbrev xM:Stmt:=top 30
abbrev qT:Stmt:=top 31
abbrev qw:Stmt:=top 32
abbrev qu:Stmt:=top 34
abbrev xi:Stmt:=top 35
abbrev xh:Stmt:=top 36
abbrev xf:Stmt:=top 37
abbrev z7:Stmt:=top 38
abbrev va:Stmt:=top 39
abbrev qS:Stmt:=top 40
abbrev vS:Stmt:=top 42
abbrev vQ:Stmt:=top 43
abbrev xS:Stmt:=top 44
abbrev jc:Stmt:=top 45
abbrev qA:Stmt:=top 47
abbrev qC:Stmt:=top 48
abbrev qF:Stmt:=top 49
abbrev qX:Stmt:=top 50
abbrev qV:Stmt:=top 51
abbrev qY:Stmt:=top 52
abbrev vR:Stmt:=top 53
abbrev qD:Stmt:=top 54
abbrev qd:Stmt:=top 55
abbrev qe:Stmt:=top 56
abbrev qg:Stmt:=top 57
abbrev qE:Stmt:=top 58
abbrev qZ:Stmt:=top 59
abbrev qz:Stmt:=top 60
abbrev xU:Stmt:=top 61
abbrev qB:Stmt:=top 62
abbrev xV:Stmt:=top 63
abbrev qW:Stmt:=top 64
abbrev xT:Stmt:=top 65
abbrev xy:Stmt:=top 66
abbrev xW:Stmt:=top 67
abbrev s_law:Stmt:=top 68
abbrev xL:Stmt:=zaW (top 20) 0
end KK
set_option Elab.async false
set_option linter.all false
set_option maxRecDepth 100000
namespace KK
open PySem L2
structure TxB (K:PySem.W.Frag) (mg:Str->Option Value):Prop where
 ii:PySem.W.kitOne K (.type "int") (.type "int")=some true
 ib:PySem.W.kitOne K (.type "int") (.type "bool")=some false
 nIs:mg "isinstance" = none
 nInt:mg "int" = none
 nBool:mg "bool" = none
 nAbs:mg "abs" = none
 nLen:mg "len" = none
 nMax:mg "max" = none
 nMin:mg "min" = none
 nRange:mg "range" = none
 nTuple:mg "tuple" = none
 nSum:mg "sum" = none
section
variable {P:Program}{w:World}{K:PySem.W.Frag}{mg:Str->Option Value}{base:Heap}
def Zx:Sp:=λvs H Q _=>∃i,vs=[.int i]/\Q (.bl true) H
theorem zal:zB ["thing"] ["thing"] (zh qy):=⟨rfl,rfl,rfl,by decide +kernel,rfl,by decide +kernel,by decide +kernel⟩
theorem JW (D:Df K mg "is_whole" qy ["thing"] []) (T:TxB K mg):Cal P w K mg base "is_whole" 1 ["thing"] [] Zx:=by
 refine D.cal (k:=0) zal (λvs H Q E h=>by obtain⟨i,rfl,_⟩:=h;rfl) (λf cdv A outer s H vs Q E hr h=>?_)
 obtain⟨i,rfl,k⟩:=h
 refine⟨_,zn (zD (qb
  (zH vC rfl T.nIs PyProof.Rows.boot_isinstance (za (pv 0) (za (j1 (v:=.ty "int") (u:=.type "int") rfl T.nInt PyProof.Rows.boot_int rfl) ze)))
  (vo (JY (zH vC rfl T.nIs PyProof.Rows.boot_isinstance (za (pv 0) (za (j1 (v:=.ty "bool") (u:=.type "bool") rfl T.nBool (by decide +kernel) rfl) ze))))))),?_⟩
 refine⟨_,rfl,_,_,_,true,rfl,.int i,T.ii,true,rfl,xk ?_⟩
 exact⟨_,rfl,_,_,_,false,rfl,.int i,T.ib,false,rfl,k⟩
def Vu:Sp:=λvs H Q _=>∃a b:Int,vs=[.int a,.int b]/\0<=a/\0<=b/\Q (.int (Int.gcd a b:Nat)) H
theorem zaa:zB ["one","other"] ["one","other"] (zh xc):=⟨rfl,rfl,rfl,by decide +kernel,rfl,by decide +kernel,by decide +kernel⟩
theorem zcN (D:Df K mg "greatest_divisor" xc ["one","other"] []):Cal P w K mg base "greatest_divisor" 1 ["one","other"] [] Vu:=by
 refine D.cal (k:=0) zaa (λvs H Q E h=>by obtain⟨a,b,rfl,_⟩:=h;rfl) (λf cdv A outer s H vs Q E hr h=>?_)
 obtain⟨a,b,rfl,ha,hb,k⟩:=h
 refine⟨_,zi (Qd PassesOwn.never (zC jZ (pv 1) zd (zF _))
   (zn (Zc (i:=0) (j:=1) rfl zaa.nd rfl rfl (by decide) rfl rfl (za (pv 1) (za (zt vk (pv 0) (pv 1)) ze)) (by rfl))))
  (zn (zD (pv 0))),?_⟩
 refine Qq (λσ H1=>H1=H/\∃x y:Int,σ=[some (.int x),some (.int y)]/\0<=x/\0<=y/\Int.gcd x y=Int.gcd a b)
  (λσ _=>match σ with | [_,some (.int y)]=>y.toNat | _=>0) ⟨rfl,a,b,rfl,ha,hb,rfl⟩ ?_ ?_
 ·rintro σ H1 ⟨rfl,x,y,rfl,hx,hy,e⟩
  refine⟨_,rfl,_,_,rfl,rfl,_,rfl,xQ (λh=>?_) (λh=>?_)⟩
  ·have h':0<y:=of_decide_eq_true h
   refine⟨_,rfl,_,rfl,_,rfl,_,_,rfl,rfl,h',_,_,rfl,⟨rfl,_,_,rfl,hy,Int.emod_nonneg _ (by omega),?_⟩,?_⟩
   ·rw[KM.X0 hx h'];exact e
   ·show (x % y).toNat<y.toNat
    have:=Int.emod_lt_of_pos x h'
    omega
  ·have h':¬ 0<y:=λz=>h (decide_eq_true z)
   have:y=0:=by omega
   subst this
   refine⟨_,rfl,?_⟩
   have e2:x=(Int.gcd a b:Nat):=by rw[<-e,Int.gcd_zero_right];omega
   rw[e2];exact k
 ·rintro σ H1 Q1 Q2 hq ⟨v,e,i,j,e1,e2,k1,e3,q⟩
  exact⟨v,e,i,j,e1,e2,k1,e3,hq _ _ q⟩
theorem ZR:zB ["top","bottom","divisor"] ["top","bottom"] (zh jd):=⟨rfl,rfl,rfl,by decide +kernel,rfl,by decide +kernel,by decide +kernel⟩
theorem vF (i:Int):(if i<0 then -i else i)=(i.natAbs:Int):=by split <;> omega
theorem Qb {dvs:List V}(D:Df K mg "ratio" jd ["top","bottom"] dvs) (T:TxB K mg) (cW:Cal P w K mg base "is_whole" 1 ["thing"] [] Zx) (cG:Cal P w K mg base "greatest_divisor" 1 ["one","other"] [] Vu) :
  Cal P w K mg base "ratio" 2 ["top","bottom"] dvs xX:=by
 refine D.cal (k:=1) ZR (λvs H Q E h=>by obtain⟨a,b,rfl,_⟩:=h;rfl) (λf cdv A outer s H vs Q E hr h=>?_)
 obtain⟨t,b,rfl,hb,hz,k⟩:=h
 refine⟨_,zi (zR (jJ (vI (xj (zw cW hr (za (pv 0) ze)) λ_=>rfl)) (jJ (vI (xj (zw cW hr (za (pv 1) ze)) λ_=>rfl)) (jm (zC qN (pv 1) zd (zF _))))).pt xK zI)
  (zi (zE (i:=2) ZR.nd rfl (Or.inl rfl) (zw cG hr (za (zH vi rfl T.nAbs PyProof.Rows.boot_abs (za (pv 0) ze)) (za (zH vi rfl T.nAbs PyProof.Rows.boot_abs (za (pv 1) ze)) ze))))
  (zi (zR (zC jg (pv 1) zd (zF _)) (zn (zE (i:=2) ZR.nd rfl (Or.inl rfl) (vO qI (pv 2)))) zI)
  (zn (zD (zL (za (zt qj (pv 0) (pv 2)) (za (zt qj (pv 1) (pv 2)) ze))))))),?_⟩
 refine⟨_,rfl,t,rfl,true,rfl,xb ?_⟩
 refine⟨_,rfl,b,rfl,true,rfl,xb ?_⟩
 refine⟨_,rfl,rfl,_,rfl,xQ (λh=>absurd (of_decide_eq_true h) (by intro z;injection z with z;exact hb z)) (λ_=>?_)⟩
 refine⟨_,rfl,t,rfl,⟨_,rfl,b,rfl,⟨_,_,rfl,(by rw[vF];omega),(by rw[vF];omega),?_⟩⟩⟩
 have hd:=KM.zbK (t:=t) hb
 have hdz:Bd 8900 (KM.dv t b):=hz.of_le (KM.zbJ hb)
 have fin:∀σ:St,σ=[some (.int t),some (.int b),some (.int (KM.dv t b))]->zat (zau (xr (tOp (rI XV λi j=>V.int (i.fdiv j)) (zZ 0) (zZ 2)) (xr (tOp (rI XV λi j=>V.int (i.fdiv j)) (zZ 1) (zZ 2)) jh))) { nx:=λ_ H'=>Q .non H',rt:=Q } σ H:=by
  rintro σ rfl
  refine⟨_,rfl,_,rfl,_,_,rfl,rfl,⟨hd,hdz⟩,_,rfl,_,rfl,_,_,rfl,rfl,⟨hd,hdz⟩,?_⟩
  refine⟨by show 2<=sizeLine;decide,λp hp=>k p _ (zr.upd hp) ?_⟩
  show upd H p _ p=_
  rw[zj]
  dsimp only
  rw[KM.QC hb,KM.Jx hb];rfl
 have ge:(Int.gcd (if t<0 then -t else t) (if b<0 then -b else b):Nat)=Int.gcd t b:=by
  rw[vF,vF];simp[Int.gcd]
 refine⟨_,rfl,_,_,rfl,rfl,_,rfl,xQ (λh=>?_) (λh=>?_)⟩
 ·have h':b<0:=of_decide_eq_true h
  refine⟨_,rfl,_,rfl,fin _ ?_⟩
  rw[ge];unfold KM.dv;rw[if_pos h'];rfl
 ·have h':¬b<0:=λz=>h (decide_eq_true z)
  refine fin _ ?_
  rw[ge];unfold KM.dv;rw[if_neg h'];rfl
end
end KK
set_option Elab.async false
set_option linter.all false
set_option maxRecDepth 100000
namespace KK
open PySem L2
section
variable {P:Program}{w:World}{K:PySem.W.Frag}{mg:Str->Option Value}{base:Heap}
theorem Bd4 {x:Rat}(h:Sz 4000 x):Bd 1000000 x.num/\Bd 1000000 (x.den:Int):=⟨h.1.mono (by decide),h.2.mono (by decide)⟩
section
variable {x y:Rat}{p q:Addr}{H:Hp}
theorem zbn {Q:VK}(hp:zu H p x) (hq:zu H q y) (hx:Sz 4000 x) (hy:Sz 4000 y) (k:∀r H',zr H H'->zu H' r (x+y)->Q (.ref r) H') :
  zat (jt xX [] E0 (xr (tOp (rI0 λi j=>.int (i+j)) (tOp (rI Z4 λi j=>.int (i*j)) (tOp (vt K) (zZ 0) (tC (.int 0))) (tOp (vt K) (zZ 1) (tC (.int 1)))) (tOp (rI Z4 λi j=>.int (i*j)) (tOp (vt K) (zZ 1) (tC (.int 0))) (tOp (vt K) (zZ 0) (tC (.int 1)))))
   (xr (tOp (rI Z4 λi j=>.int (i*j)) (tOp (vt K) (zZ 0) (tC (.int 1))) (tOp (vt K) (zZ 1) (tC (.int 1)))) jh))) { nx:=λ_ H'=>Q .non H',rt:=Q } [some (.ref p),some (.ref q)] H:=by
 have bx:=Bd4 hx
 have b_y:=Bd4 hy
 refine⟨_,rfl,p,_,_,_,rfl,rfl,.of hp,at0 ..,_,rfl,q,_,_,_,rfl,rfl,.of hq,at1 ..,_,_,rfl,rfl,⟨bx.1,b_y.2⟩,?_⟩
 refine⟨_,rfl,q,_,_,_,rfl,rfl,.of hq,at0 ..,_,rfl,p,_,_,_,rfl,rfl,.of hp,at1 ..,_,_,rfl,rfl,⟨b_y.1,bx.2⟩,_,_,rfl,rfl,?_⟩
 refine⟨_,rfl,p,_,_,_,rfl,rfl,.of hp,at1 ..,_,rfl,q,_,_,_,rfl,rfl,.of hq,at1 ..,_,_,rfl,rfl,⟨bx.2,b_y.2⟩,?_⟩
 refine⟨_,_,rfl,Int.mul_ne_zero (KM.zT x) (KM.zT y),(hx.2.mul hy.2).mono (by decide),λr H' e h=>k r H' e ?_⟩
 rw[<-KM.XA];exact h
theorem Qe {Q:VK}(hp:zu H p x) (hq:zu H q y) (hx:Sz 4000 x) (hy:Sz 4000 y) (k:∀r H',zr H H'->zu H' r (x*y)->Q (.ref r) H') :
  zat (jt xX [] E0 (xr (tOp (rI Z4 λi j=>.int (i*j)) (tOp (vt K) (zZ 0) (tC (.int 0))) (tOp (vt K) (zZ 1) (tC (.int 0))))
   (xr (tOp (rI Z4 λi j=>.int (i*j)) (tOp (vt K) (zZ 0) (tC (.int 1))) (tOp (vt K) (zZ 1) (tC (.int 1)))) jh))) { nx:=λ_ H'=>Q .non H',rt:=Q } [some (.ref p),some (.ref q)] H:=by
 have bx:=Bd4 hx
 have b_y:=Bd4 hy
 refine⟨_,rfl,p,_,_,_,rfl,rfl,.of hp,at0 ..,_,rfl,q,_,_,_,rfl,rfl,.of hq,at0 ..,_,_,rfl,rfl,⟨bx.1,b_y.1⟩,?_⟩
 refine⟨_,rfl,p,_,_,_,rfl,rfl,.of hp,at1 ..,_,rfl,q,_,_,_,rfl,rfl,.of hq,at1 ..,_,_,rfl,rfl,⟨bx.2,b_y.2⟩,?_⟩
 refine⟨_,_,rfl,Int.mul_ne_zero (KM.zT x) (KM.zT y),(hx.2.mul hy.2).mono (by decide),λr H' e h=>k r H' e ?_⟩
 rw[<-KM.ZT];exact h
end
theorem zak:zB ["one","other"] ["one","other"] (zh jE):=⟨rfl,rfl,rfl,by decide +kernel,rfl,by decide +kernel,by decide +kernel⟩
theorem JV (D:Df K mg "times" jE ["one","other"] []) (c:Cal P w K mg base "ratio" 2 ["top","bottom"] [] xX):Cal P w K mg base "times" 3 ["one","other"] [] (xJ Sz2 (· * ·)):=by
 refine D.cal (k:=2) zak (λvs H Q E h=>by obtain⟨_,_,_,_,rfl,_⟩:=h;rfl) (λf cdv A outer s H vs Q E hr h=>?_)
 obtain⟨p,q,x,y,rfl,hp,hq,⟨hx,hy⟩,k⟩:=h
 exact⟨_,zn (zD (zw c hr (za (zt zJ (zo zm (pv 0) zd (λ_ _=>rfl)) (zo zm (pv 1) zd (λ_ _=>rfl)))
  (za (zt zJ (zo zm (pv 0) zd (λ_ _=>rfl)) (zo zm (pv 1) zd (λ_ _=>rfl))) ze)))),Qe hp hq hx hy k⟩
theorem zbw:zB ["one","other"] ["one","other"] (zh Ze):=⟨rfl,rfl,rfl,by decide +kernel,rfl,by decide +kernel,by decide +kernel⟩
theorem zbc (D:Df K mg "over" Ze ["one","other"] []) (c:Cal P w K mg base "ratio" 2 ["top","bottom"] [] xX):Cal P w K mg base "over" 3 ["one","other"] [] (xJ (λx y=>Sz2 x y/\y≠0) (· / ·)):=by
 refine D.cal (k:=2) zbw (λvs H Q E h=>by obtain⟨_,_,_,_,rfl,_⟩:=h;rfl) (λf cdv A outer s H vs Q E hr h=>?_)
 obtain⟨p,q,x,y,rfl,hp,hq,⟨⟨hx,hy⟩,hy0⟩,k⟩:=h
 have bx:=Bd4 hx
 have b_y:=Bd4 hy
 refine⟨_,zn (zD (zw c hr (za (zt zJ (zo zm (pv 0) zd (λ_ _=>rfl)) (zo zm (pv 1) zd (λ_ _=>rfl)))
  (za (zt zJ (zo zm (pv 0) zd (λ_ _=>rfl)) (zo zm (pv 1) zd (λ_ _=>rfl))) ze)))),?_⟩
 refine⟨_,rfl,p,_,_,_,rfl,rfl,.of hp,at0 ..,_,rfl,q,_,_,_,rfl,rfl,.of hq,at1 ..,_,_,rfl,rfl,⟨bx.1,b_y.2⟩,?_⟩
 refine⟨_,rfl,p,_,_,_,rfl,rfl,.of hp,at1 ..,_,rfl,q,_,_,_,rfl,rfl,.of hq,at0 ..,_,_,rfl,rfl,⟨bx.2,b_y.1⟩,?_⟩
 refine⟨_,_,rfl,Int.mul_ne_zero (KM.zT x) (λz=>hy0 (Rat.num_eq_zero.mp z)),(hx.2.mul hy.1).mono (by decide),λr H' e h=>k r H' e ?_⟩
 show zu H' r (x/y)
 rw[<-KM.j0];exact h
end
end KK
section
set_option maxHeartbeats 4000000
set_option Elab.async false
set_option linter.all false
set_option maxRecDepth 100000
namespace KK
open PySem L2
def vW (H:Hp) (p:Addr):Prop:=∃a b c:Int,H p=some (.lst [.int a,.int b,.int c])
structure xA (p:Addr) (H H':Hp):Prop where
 pool:vW H' p
 keep:∀b o,H b=some o->b≠p->H' b=some o
theorem xA.trans {p:Addr}{H H1 H2:Hp}(a:xA p H H1) (b:xA p H1 H2):xA p H H2:=⟨b.pool,λc o e n=>b.keep c o (a.keep c o e n) n⟩
theorem xA.same {p:Addr}{H H1 H2:Hp}(a:xA p H H1) (b:zr H1 H2):xA p H H2:=⟨by obtain⟨x,y,z,e⟩:=a.pool;exact⟨x,y,z,b _ _ e⟩,λc o e n=>b c o (a.keep c o e n)⟩
theorem xA.pre {p:Addr}{H H1 H2:Hp}(b:xA p H1 H2) (a:zr H H1):xA p H H2:=⟨b.pool,λc o e n=>b.keep c o (a c o e) n⟩
theorem vW.new {H:Hp}{p l:Addr}{o:HO}(h:vW H p) (hl:H l=none):vW (upd H l o) p:=by obtain⟨a,b,c,e⟩:=h;exact⟨a,b,c,zr.upd hl _ _ e⟩
theorem vW.ne {H:Hp}{p l:Addr}(h:vW H p) (hl:H l=none):l≠p:=by obtain⟨a,b,c,e⟩:=h;exact(zU e hl).symm
theorem xA.refl {p:Addr}{H:Hp}(h:vW H p):xA p H H:=⟨h,λ_ _ e _=>e⟩
theorem xA.tup {p a:Addr}{H H':Hp}{xs:List V}(s:xA p H H') (hp:vW H p) (h:H a=some (.tup xs)):H' a=some (.tup xs):=by
 obtain⟨_,_,_,e⟩:=hp
 exact s.keep a _ h (zdF h e (by intro z;cases z))
theorem xA.rat {p a:Addr}{H H':Hp}{q:Rat}(s:xA p H H') (hp:vW H p) (h:zu H a q):zu H' a q:=s.tup hp h
section
variable {P:Program}{w:World}{K:PySem.W.Frag}{mg:Str->Option Value}{base:Heap}
def zb2:Sp:=λvs H Q _=>∃c:Int,vs=[.int c]/\∀p H',H p=none->zr H H'->vW H' p->Q (.ref p) H'
theorem zdf:zB ["cell"] ["cell"] (zh qA):=⟨rfl,rfl,rfl,by decide +kernel,rfl,by decide +kernel,by decide +kernel⟩
theorem zcM (D:Df K mg "_law_left" qA ["cell"] []) (T:TxB K mg):Cal P w K mg base "_law_left" 1 ["cell"] [] zb2:=by
 refine D.cal (k:=0) zdf (λvs H Q E h=>by obtain⟨a,rfl,_⟩:=h;rfl) (λf cdv A outer s H vs Q E hr h=>?_)
 obtain⟨c,rfl,k⟩:=h
 refine⟨_,zn (zD (xl (za (zH (Xb rfl) (by rfl) T.nMax PyProof.Rows.boot_max (za zd (za (zt xH (pv 0) (zt vm zd zd)) ze))) (za (zt vk (pv 0) (zt vm zd zd)) (za zd ze))))),?_⟩
 refine⟨_,rfl,_,_,rfl,rfl,⟨by decide,by decide,by decide⟩,_,_,rfl,rfl,_,_,rfl,?_⟩
 refine⟨_,rfl,_,_,rfl,rfl,⟨by decide,by decide,by decide⟩,_,_,rfl,rfl,(by show (0:Int)<10^18;decide),(by show 3<=sizeLine;decide),λp hp=>?_⟩
 exact k p _ hp (zr.upd hp) ⟨_,_,_,zj⟩
def je:Sp:=λvs H Q _=>∃(p:Addr) (n:Int),vs=[.ref p,.int n]/\0<n/\n<1073741824/\vW H p/\∀(d:Int) H',0<=d->d<n->xA p H H'->Q (.int d) H'
theorem Zw:zB ["pool","base","digit","mixed","stir"] ["pool","base"] (zh qC):=⟨rfl,rfl,rfl,by decide +kernel,rfl,by decide +kernel,by decide +kernel⟩
theorem Ql {H:Hp}{p:Addr}{a b c:Int}:xA p H (upd H p (.lst [.int a,.int b,.int c])):=⟨⟨a,b,c,zj⟩,λd o e n=>by rw[zO n];exact e⟩
theorem zbb (D:Df K mg "_law_next" qC ["pool","base"] []):Cal P w K mg base "_law_next" 1 ["pool","base"] [] je:=by
 refine D.cal (k:=0) Zw (λvs H Q E h=>by obtain⟨a,b,rfl,_⟩:=h;rfl) (λf cdv A outer s H vs Q E hr h=>?_)
 obtain⟨p,n,rfl,n0,n1,⟨a,b,c,hp⟩,k⟩:=h
 refine⟨_,zi (zR (zC jZ (zo zS (pv 0) zd (λ_ _=>rfl)) zd (zF _))
   (zi (zE (i:=2) Zw.nd rfl (Or.inl rfl) (zt vk (zo zS (pv 0) zd (λ_ _=>rfl)) (pv 1)))
   (zi (ja (zt Vo (zo zS (pv 0) zd (λ_ _=>rfl)) (pv 1)) (ZP (pv 0) zd jp))
   (zn (zD (pv 2))))) zI)
  (zi (ja (zt z8 (zo zS (pv 0) zd (λ_ _=>rfl)) zd) (ZP (pv 0) zd jp))
  (zi (zE (i:=3) Zw.nd rfl (Or.inl rfl) (zt vk (zt z8 (zo zS (pv 0) zd (λ_ _=>rfl)) (zt QP zd (zo zS (pv 0) zd (λ_ _=>rfl)))) zd))
  (zi (zE (i:=4) Zw.nd rfl (Or.inl rfl) (zt vk (zt QP (zt z8 (pv 3) zd) (zt z8 (pv 3) zd)) zd))
  (zn (zD (zt vk (zt Vo (zt vk (zt QP (pv 4) (pv 4)) zd) zd) (pv 1))))))),?_⟩
 refine⟨_,rfl,p,_,_,_,rfl,rfl,.of hp,rfl,_,_,rfl,rfl,_,rfl,xQ (λh=>?_) (λh=>?_)⟩
 ·refine⟨_,rfl,p,_,_,_,rfl,rfl,.of hp,rfl,_,rfl,_,_,rfl,rfl,n0,?_⟩
  refine⟨_,rfl,p,_,_,_,rfl,rfl,.of hp,rfl,_,rfl,_,_,rfl,rfl,⟨n0,n1⟩,?_⟩
  refine⟨_,rfl,p,_,_,0,rfl,rfl,hp,rfl,?_⟩
  exact⟨_,rfl,k _ _ (Int.emod_nonneg _ (by omega)) (Int.emod_lt_of_pos _ n0) Ql⟩
 ·refine⟨_,rfl,p,_,_,_,rfl,rfl,.of hp,rfl,_,_,rfl,rfl,?_⟩
  refine⟨_,rfl,p,_,_,2,rfl,rfl,hp,rfl,?_⟩
  refine⟨_,rfl,p,_,_,_,rfl,rfl,.of zj,rfl,_,rfl,p,_,_,_,rfl,rfl,.of zj,rfl,_,_,rfl,rfl,.inl ⟨by decide,by decide⟩,_,_,rfl,rfl,_,_,rfl,rfl,(by show (0:Int)<1000000007;decide),?_⟩
  refine⟨_,rfl,_,_,rfl,rfl,_,rfl,_,_,rfl,rfl,_,_,rfl,rfl,.inl (by constructor <;> omega),_,_,rfl,rfl,(by show (0:Int)<998244353;decide),?_⟩
  refine⟨_,rfl,_,rfl,_,_,rfl,rfl,.inl (by constructor <;> omega),_,_,rfl,rfl,(by show (0:Int)<2147483647;decide),_,_,rfl,rfl,⟨by decide,by decide⟩,_,rfl,_,_,rfl,rfl,n0,?_⟩
  exact k _ _ (Int.emod_nonneg _ (by omega)) (Int.emod_lt_of_pos _ n0) Ql
end
end KK
end
section
set_option maxHeartbeats 4000000
set_option Elab.async false
set_option linter.all false
set_option maxRecDepth 100000
namespace KK
open PySem L2 KM
inductive xa (H:Hp):List V->List vf->Prop
 | nil:xa H [] []
 | cons {a p q:Addr}{b:vf}{vs:List V}{bs:List vf}:H a=some (.tup [.ref p,.ref q,.int b.wt])->zu H p b.pl->zu H q b.sp->xa H vs bs->xa H (.ref a::vs) (b::bs)
theorem xa.mono {H H':Hp}(m:∀b xs,H b=some (.tup xs)->H' b=some (.tup xs)):∀{vs:List V}{bs:List vf},xa H vs bs->xa H' vs bs
 | _,_,.nil=>.nil
 | _,_,.cons h1 h2 h3 t=>.cons (m _ _ h1) (m _ _ h2) (m _ _ h3) (xa.mono m t)
theorem xa.same {H H':Hp}{vs:List V}{bs:List vf}(h:xa H vs bs) (e:zr H H'):xa H' vs bs:=h.mono λb xs z=>e b _ z
theorem xa.length {H:Hp}:∀{vs:List V}{bs:List vf},xa H vs bs->vs.length=bs.length
 | _,_,.nil=>rfl
 | _,_,.cons _ _ _ t=>by rw[List.length_cons,List.length_cons,xa.length t]
theorem xa.get {H:Hp}:∀{vs:List V}{bs:List vf}{i:Nat}{v:V},xa H vs bs->vs[i]? = some v->∃(a p q:Addr) (b:vf),bs[i]? = some b/\v = .ref a/\H a=some (.tup [.ref p,.ref q,.int b.wt])/\zu H p b.pl/\zu H q b.sp
 | _,_,_,_,.nil,e=>by simp at e
 | _,_,0,_,.cons h1 h2 h3 _,e=>by
  simp at e;subst e
  exact⟨_,_,_,_,rfl,rfl,h1,h2,h3⟩
 | _,_,i+1,v,.cons _ _ _ t,e=>by
  obtain⟨a,p,q,b,e1,r⟩:=xa.get (i:=i) t (by simpa using e)
  exact⟨a,p,q,b,by simpa using e1,r⟩
end KK
end
section
set_option maxHeartbeats 4000000
set_option Elab.async false
set_option linter.all false
set_option maxRecDepth 100000
namespace KK
open PySem L2 KM
theorem j3 {X:Cx}{es:List Expr}{k:Nat}{pos:Pos}{t:TGs}{n:Nat}{K:PySem.W.Frag}(hK:X.K=K) (hc:X.calm=true) (h:PGs X es t)
  (hn:(assignEach es X.env).length=n:=by rfl) (hst:(assignEach es X.env).findIdx? (·.1)=none:=by rfl):PG X (.Tuple es k pos) (XZ K n t):=by subst hK;exact jk hc h hn hst
theorem xY {X:Cx}{K:PySem.W.Frag}(hK:X.K=K):IxR X (vt K):=by subst hK;exact zm
section
variable {P:Program}{w:World}{K:PySem.W.Frag}{mg:Str->Option Value}{base:Heap}
theorem Bd9 {i:Int}(h:Bd 8900 i):Bd 1000000 i:=h.mono (by decide)
theorem ZL (x y:Rat):decide (x.num*(y.den:Int)<y.num*(x.den:Int))=decide (x<y):=by
 by_cases h:x<y
 ·rw[decide_eq_true h,decide_eq_true ((KM.jV x y).mpr h)]
 ·rw[decide_eq_false h,decide_eq_false λz=>h ((KM.jV x y).mp z)]
def vN (ks:List Int):Int:=ks.foldl (λc n=>c/(Int.gcd c n:Int)*n) 1
theorem ZK {c n:Int}(hc:0<c) (hn:0<n):0<c/(Int.gcd c n:Int)*n:=by
 refine Int.mul_pos ?_ hn
 have hg:0<(Int.gcd c n:Int):=by have:=Int.gcd_pos_of_ne_zero_left n (a:=c) (by omega);omega
 exact Int.ediv_pos_of_pos_of_dvd hc (by omega) (Int.gcd_dvd_left c n)
theorem zcB {c n:Int}(hc:0<c) (hn:0<n):c/(Int.gcd c n:Int)*n<=c*n:=by
 have hg:0<(Int.gcd c n:Int):=by have:=Int.gcd_pos_of_ne_zero_left n (a:=c) (by omega);omega
 exact Int.mul_le_mul_of_nonneg_right (Int.ediv_le_self _ (by omega)) (by omega)
theorem Jk {m n:Nat}{c k:Int}(hc:0<c) (hk:0<k) (h:Bd m c) (h':Bd n k):Bd (m+n) (c/(Int.gcd c k:Int)*k) :=
 (h.mul h').of_le (by have:=zcB hc hk;have:=ZK hc hk;omega)
def Pos (n:Nat) (ks:List Int):Prop:=∀k∈ks,0<k/\Bd n k
def zb4:Sp:=λvs H Q _=>∃p ks,vs=[.ref p]/\H p=some (.lst (ks.map V.int))/\Pos 400 ks/\ks.length<=20/\Q (.int (vN ks)) H
theorem XH:zB ["numbers","common","number"] ["numbers"] (zh xm):=⟨rfl,rfl,rfl,by decide +kernel,rfl,by decide +kernel,by decide +kernel⟩
theorem zcS (D:Df K mg "least_multiple" xm ["numbers"] []) (cG:Cal P w K mg base "greatest_divisor" 1 ["one","other"] [] Vu):Cal P w K mg base "least_multiple" 2 ["numbers"] [] zb4:=by
 refine D.cal (k:=1) XH (λvs H Q E h=>by obtain⟨_,_,rfl,_⟩:=h;rfl) (λf cdv A outer s H vs Q E hr h=>?_)
 obtain⟨p,ks,rfl,hp,hk,hl,k⟩:=h
 refine⟨_,(zi (zE (i:=1) XH.nd rfl (Or.inl rfl) zd)
  (zi (jb PassesOwn.never rfl (xR (pv 0)) (zG (i:=2) XH.nd rfl (Or.inl rfl)) (zn (zE (i:=1) XH.nd rfl (Or.inl rfl) (zt zJ (zt qj (pv 1) (zw cG hr (za (pv 1) (za (pv 2) ze)))) (pv 2)))))
  (zn (zD (pv 1))))),?_⟩
 refine⟨_,rfl,p,rfl,⟨_,SqL.of hp⟩,ZH (xs:=ks.map V.int) (λi σ H1=>H1=H/\∃z,σ=[some (.ref p),some (.int (vN (ks.take i))),z]/\0<vN (ks.take i)/\Bd (1+400*i) (vN (ks.take i))) ⟨rfl,none,rfl,(by show (0:Int)<1;decide),(show (1:Int).natAbs<2^1 by decide)⟩ ?_ ?_ ?_⟩
 ·rintro i σ H1 _ ⟨rfl,_⟩;exact .of hp
 ·rintro i x σ H1 hx ⟨rfl,z,rfl,h1,h2⟩
  have hi:i<ks.length:=by
   have:=(List.getElem?_eq_some_iff.mp hx).1
   simpa using this
  obtain⟨n,hn,rfl⟩:∃n,ks[i]? = some n/\V.int n=x:=by simpa using hx
  have hn':=hk n (List.mem_of_getElem? hn)
  have et:vN (ks.take (i+1))=vN (ks.take i)/(Int.gcd (vN (ks.take i)) n:Int)*n:=by
   rw[List.take_add_one,hn];simp[vN,List.foldl_append]
  have hg:0<(Int.gcd (vN (ks.take i)) n:Int):=by have:=Int.gcd_pos_of_ne_zero_left n (a:=vN (ks.take i)) (by omega);omega
  have b1:Bd 8900 (vN (ks.take i)):=h2.mono (by omega)
  have hgb:Bd 8900 (Int.gcd (vN (ks.take i)) n:Int):=b1.of_le (by have:=Int.le_of_dvd h1 (Int.gcd_dvd_left (vN (ks.take i)) n);omega)
  have hq:Bd 8900 ((vN (ks.take i)).fdiv (Int.gcd (vN (ks.take i)) n:Int)):=by
   rw[Int.fdiv_eq_ediv_of_nonneg _ (by omega)]
   exact b1.of_le (by have:=Int.ediv_le_self (Int.gcd (vN (ks.take i)) n:Int) (a:=vN (ks.take i)) (by omega);have:=Int.ediv_nonneg (a:=vN (ks.take i)) (b:=(Int.gcd (vN (ks.take i)) n:Int)) (by omega) (by omega);omega)
  refine⟨_,rfl,_,rfl,_,rfl,⟨_,_,rfl,by omega,by omega,?_⟩⟩
  refine⟨_,_,rfl,rfl,⟨by omega,hgb⟩,_,rfl,_,_,rfl,rfl,⟨Bd9 hq,hn'.2.mono (by decide)⟩,?_⟩
  refine⟨rfl,some (.int n),?_,?_,?_⟩
  ·rw[et,<-Int.fdiv_eq_ediv_of_nonneg _ (by omega)];rfl
  ·rw[et];exact ZK h1 hn'.1
  ·rw[et];exact(Jk h1 hn'.1 h2 hn'.2).mono (by omega)
 ·rintro σ H1 ⟨rfl,z,rfl,_⟩
  refine⟨_,rfl,?_⟩
  rw[List.length_map,List.take_length];exact k
end
end KK
end
section
set_option maxHeartbeats 4000000
set_option Elab.async false
set_option linter.all false
set_option maxRecDepth 100000
namespace KK
open PySem L2 KM
def vJ (H:Hp) (us:List V) (qs:List Rat):Prop:=us.length=qs.length/\∀(i:Nat) (v:V),us[i]? = some v->∃a q,v=V.ref a/\qs[i]? = some q/\zu H a q
theorem QD {α:Type}{f:α->V}{ys:List V}{qs:List α}(h:ys.length=qs.length) (k:∀(i:Nat) (v:V),ys[i]? = some v->∃q,qs[i]? = some q/\v=f q):ys=qs.map f:=by
 refine List.ext_getElem? λi=>?_
 by_cases hi:i<ys.length
 ·obtain⟨q,e1,e2⟩:=k i ys[i] (by simp[hi])
  rw[List.getElem?_map,e1,List.getElem?_eq_getElem hi,e2];rfl
 ·rw[List.getElem?_eq_none (by omega),List.getElem?_eq_none (by rw[List.length_map];omega)]
theorem JJ {σ:St}(h:σ.length=2):∃a b,σ=[a,b]:=by
 match σ,h with
 | [a,b],_=>exact⟨a,b,rfl⟩
theorem Xw {σ:St}(h:σ.length=1):∃a,σ=[a]:=by
 match σ,h with
 | [a],_=>exact⟨a,rfl⟩
theorem ql {n:Nat}(h:n<=20):n<sizeLine:=Nat.lt_of_le_of_lt h (by decide)
section
variable {P:Program}{w:World}{K:PySem.W.Frag}{mg:Str->Option Value}{base:Heap}
def ZZ (qs:List Rat):Int:=vN (qs.map λq=>(q.den:Int))
def zdk:Sp:=λvs H Q _=>∃p us qs,vs=[.ref p]/\H p=some (.lst us)/\vJ H us qs/\(∀q∈qs,Bd 400 (q.den:Int))/\qs.length<=20/\∀H',zr H H'->Q (.int (ZZ qs)) H'
theorem zd8:zB ["ratios"] ["ratios"] (zh xt):=⟨rfl,rfl,rfl,by decide +kernel,rfl,by decide +kernel,by decide +kernel⟩
theorem zdI (D:Df K mg "common_bottom" xt ["ratios"] []) (cL:Cal P w K mg base "least_multiple" 2 ["numbers"] [] zb4):Cal P w K mg base "common_bottom" 3 ["ratios"] [] zdk:=by
 refine D.cal (k:=2) zd8 (λvs H Q E h=>by obtain⟨_,_,_,rfl,_⟩:=h;rfl) (λf cdv A outer s H vs Q E hr h=>?_)
 obtain⟨p,us,qs,rfl,hp,hR,hb,hl,k⟩:=h
 refine⟨_,(zn (zD (zw cL hr (za (vD (NB:=["top","bottom"]) rfl (by decide +kernel) (by decide +kernel) rfl (by decide +kernel) (xR (pv 0)) (by intro _ _ _;refine⟨?_,?_,?_⟩;(exact(j3 (K:=K) (n:=2) rfl rfl (zM (zG (i:=0) (show List.Nodup (["top","bottom"]:List Str) by decide +kernel) rfl (Or.inl rfl)) (zM (zG (i:=1) (show List.Nodup (["top","bottom"]:List Str) by decide +kernel) rfl (Or.inl rfl)) xZ))));(exact xI);(exact(pv 1)))) ze)))),?_⟩
 refine⟨_,rfl,p,rfl,⟨_,SqL.of hp⟩,λDa hD=>?_⟩
 refine j8 (J:=Itl K p) (n:=2) (g:=XZ K 2 (vL (zA 0) (vL (zA 1) QE))) (te:=zZ 1) (xs:=us) (λi v _=>∃q:Rat,qs[i]? = some q/\v = .int (q.den:Int)) (λ_ _ _ _ _ z=>z) hD (xC hp) (ql (by rw[hR.1];exact hl)) ?_ ?_
 ·intro i x zs H2 Q' hx hz s2 hk
  obtain⟨a,q,rfl,hq,ha⟩:=hR.2 i x hx
  obtain⟨z1,z2,rfl⟩:=JJ hz
  exact⟨a,_,rfl,SqT.of (s2 _ _ ha),rfl,_,_,rfl,_,_,rfl,rfl,_,rfl,hk _ _ (zr.refl _) ⟨q,hq,rfl⟩⟩
 ·intro ys H' s' hy hyl hyR
  have e:=QD (f:=λq:Rat=>V.int (q.den:Int)) (hyl.trans hR.1) hyR
  refine⟨Da,qs.map λq:Rat=>(q.den:Int),rfl,?_,λn hn=>?_,by simpa using hl,k H' s'⟩
  ·rw[hy,e,List.map_map];rfl
  ·obtain⟨q,hq,rfl⟩:=List.mem_map.mp hn
   exact⟨by have:=q.den_pos;omega,hb q hq⟩
theorem zcj {a:V}{r:List V}:atI (a::r) 0=some a:=by
 unfold atI ixN;rw[if_pos (by decide),if_pos (by simp only[List.length_cons];omega)];rfl
theorem zck {a b:V}{r:List V}:atI (a::b::r) 1=some b:=by
 unfold atI ixN;rw[if_pos (by decide),if_pos (by simp only[List.length_cons];omega)];rfl
structure TCo (K:PySem.W.Frag) (C:Addr):Prop where
 cls:Cls K C
 pb:xO K C "place_bottom"
 sb:xO K C "speed_bottom"
 tick:xO K C "tick"
 weights:xO K C "weights"
 tracks:xO K C "tracks"
 low:xO K C "low"
 high:xO K C "high"
def ZW (H:Hp) (a:Addr) (x y:Rat):Prop:=∃p q r,H a=some (.tup (.ref p::.ref q::r))/\zu H p x/\zu H q y
theorem ZW.keeps {H H':Hp}{a:Addr}{x y:Rat}(h:ZW H a x y) (t:xx H H'):ZW H' a x y:=by
 obtain⟨p,q,r,h1,h2,h3⟩:=h
 exact⟨p,q,r,t _ _ h1,t _ _ h2,t _ _ h3⟩
def byB (x:Rat) (b:Int):Int:=x.num*b.fdiv (x.den:Int)
def zbB (C:Addr):Sp:=λvs H Q _=>∃(c dx:Addr) (fs:List (Str×V)) (pb sb:Int),H c=some (.ins C dx fs)/\fs.lookup ("place_bottom":Str)=some (V.int pb)/\fs.lookup ("speed_bottom":Str)=some (V.int sb) ∧
 ((vs=[.ref c,.non]/\Q .non H)\/∃a x y,vs=[.ref c,.ref a]/\ZW H a x y/\Sz 400 x/\Sz 400 y/\0<pb/\0<sb/\Bd 8900 pb/\Bd 8900 sb/\∀r H',zr H H'->H' r=some (.tup [.int (byB x pb),.int (byB y sb)])->Q (.ref r) H')
theorem zbV:zB ["course","thing","start"] ["course","thing"] (zh qH):=⟨rfl,rfl,rfl,by decide +kernel,rfl,by decide +kernel,by decide +kernel⟩
theorem Zo {b d:Int}(hb:0<b) (hd:0<d) (h:Bd 8900 b):Bd 8900 (b.fdiv d):=by
 rw[Int.fdiv_eq_ediv_of_nonneg _ (by omega)]
 exact h.of_le (by have:=Int.ediv_le_self d (a:=b) (by omega);have:=Int.ediv_nonneg (a:=b) (b:=d) (by omega) (by omega);omega)
theorem zdU {C:Addr}(D:Df K mg "track_of" qH ["course","thing"] []) (TC:TCo K C):Cal P w K mg base "track_of" 1 ["course","thing"] [] (zbB C):=by
 refine D.cal (k:=0) zbV (λvs H Q E h=>by obtain⟨_,_,_,_,_,_,_,_,⟨rfl,_⟩ | ⟨_,_,_,rfl,_⟩⟩:=h <;> rfl) (λf cdv A outer s H vs Q E hr h=>?_)
 obtain⟨c,dx,fs,pb,sb,hc,e1,e2,h⟩:=h
 refine⟨_,(zi (zR (zC vG (pv 1) xo (zF _)) (zn (zD xo)) zI)
  (zi (zE (i:=2) zbV.nd rfl (Or.inl rfl) (zt zJ (zo zm (zo zm (pv 1) zd (λ_ _=>rfl)) zd (λ_ _=>rfl)) (zt qj (qK (pv 0) rfl) (zo zm (zo zm (pv 1) zd (λ_ _=>rfl)) zd (λ_ _=>rfl)))))
  (zn (zD (zL (za (pv 2) (za (zt zJ (zo zm (zo zm (pv 1) zd (λ_ _=>rfl)) zd (λ_ _=>rfl)) (zt qj (qK (pv 0) rfl) (zo zm (zo zm (pv 1) zd (λ_ _=>rfl)) zd (λ_ _=>rfl)))) ze))))))),?_⟩
 rcases h with⟨rfl,k⟩ | ⟨a,x,y,rfl,⟨p,q,r,ha,hp,hq⟩,hx,hy,p1,p2,b1,b2,k⟩
 ·refine⟨_,rfl,rfl,_,rfl,xk k⟩
 ·refine⟨_,rfl,rfl,_,rfl,xb ?_⟩
  have d1:0<(x.den:Int):=by have:=x.den_pos;omega
  have d2:0<(y.den:Int):=by have:=y.den_pos;omega
  have z1:=Zo p1 d1 b1
  have z2:=Zo p2 d2 b2
  refine⟨_,rfl,a,_,_,_,rfl,rfl,.of ha,zcj,p,_,_,_,rfl,rfl,.of hp,at0 ..,_,rfl,c,C,dx,fs,_,rfl,hc,TC.cls,TC.pb,e1,_,rfl,a,_,_,_,rfl,rfl,.of ha,zcj,p,_,_,_,rfl,rfl,.of hp,at1 ..,_,_,rfl,rfl,⟨by omega,hx.2.mono (by decide)⟩,_,_,rfl,rfl,⟨hx.1.mono (by decide),Bd9 z1⟩,?_⟩
  refine⟨_,rfl,_,rfl,a,_,_,_,rfl,rfl,.of ha,zck,q,_,_,_,rfl,rfl,.of hq,at0 ..,_,rfl,c,C,dx,fs,_,rfl,hc,TC.cls,TC.sb,e2,_,rfl,a,_,_,_,rfl,rfl,.of ha,zck,q,_,_,_,rfl,rfl,.of hq,at1 ..,_,_,rfl,rfl,⟨by omega,hy.2.mono (by decide)⟩,_,_,rfl,rfl,⟨hy.1.mono (by decide),Bd9 z2⟩,?_⟩
  exact⟨by show 2<=sizeLine;decide,λr hr=>k r _ (zr.upd hr) (by rw[zj];rfl)⟩
end
end KK
end
section
set_option maxHeartbeats 4000000
set_option Elab.async false
set_option linter.all false
set_option maxRecDepth 100000
namespace KK
open PySem L2 KM
theorem zaY {c n:Int}(hc:0<c) (hn:0<n):c ∣ c/(Int.gcd c n:Int)*n/\n ∣ c/(Int.gcd c n:Int)*n:=by
 refine⟨?_,Int.dvd_mul_left ..⟩
 obtain⟨m,hm⟩:=Int.gcd_dvd_right c n
 have hg:0<(Int.gcd c n:Int):=by have:=Int.gcd_pos_of_ne_zero_left n (a:=c) (by omega);omega
 refine⟨m,?_⟩
 have e1:c/(Int.gcd c n:Int)*(Int.gcd c n:Int)=c:=Int.ediv_mul_cancel (Int.gcd_dvd_left c n)
 calc c/(Int.gcd c n:Int)*n=c/(Int.gcd c n:Int)*((Int.gcd c n:Int)*m):=by rw[<-hm]
  _=c/(Int.gcd c n:Int)*(Int.gcd c n:Int)*m:=by rw[Int.mul_assoc]
  _=c*m:=by rw[e1]
theorem ZJ {n:Nat}:∀{ks:List Int}{c:Int}{m:Nat},0<c->Bd m c->Pos n ks →
  0<ks.foldl (λc n=>c/(Int.gcd c n:Int)*n) c/\Bd (m+n*ks.length) (ks.foldl (λc n=>c/(Int.gcd c n:Int)*n) c)/\c ∣ ks.foldl (λc n=>c/(Int.gcd c n:Int)*n) c/\∀k∈ks,k ∣ ks.foldl (λc n=>c/(Int.gcd c n:Int)*n) c
 | [],c,m,hc,hm,_=>⟨hc,hm,Int.dvd_refl c,λk hk=>by cases hk⟩
 | k::r,c,m,hc,hm,hp=>by
  have hk:=hp k List.mem_cons_self
  have d:=zaY hc hk.1
  obtain⟨a1,a2,a3,a4⟩:=ZJ (ks:=r) (ZK hc hk.1) (Jk hc hk.1 hm hk.2) λx hx=>hp x (List.mem_cons_of_mem _ hx)
  refine⟨a1,a2.mono (by rw[List.length_cons,Nat.mul_add];omega),Int.dvd_trans d.1 a3,λx hx=>?_⟩
  rcases List.mem_cons.mp hx with rfl | hx
  ·exact Int.dvd_trans d.2 a3
  ·exact a4 x hx
theorem Xu {qs:List Rat}(h:∀q∈qs,Bd 400 (q.den:Int)) (hl:qs.length<=20):0<ZZ qs/\Bd 8900 (ZZ qs)/\∀q∈qs,(q.den:Int) ∣ ZZ qs:=by
 obtain⟨a1,a2,_,a4⟩:=ZJ (n:=400) (ks:=qs.map λq=>(q.den:Int)) (c:=1) (m:=1) (by decide) (show (1:Int).natAbs<2^1 by decide) (λk hk=>by
  obtain⟨q,hq,rfl⟩:=List.mem_map.mp hk
  exact⟨by have:=q.den_pos;omega,h q hq⟩)
 exact⟨a1,a2.mono (by rw[List.length_map];omega),λq hq=>a4 _ (List.mem_map.mpr ⟨q,hq,rfl⟩)⟩
structure Bl where
 pl:Rat
 sp:Rat
 wt:Int
def Xp (H:Hp) (v:V) (b:Bl):Prop:=∃a p q,v=V.ref a/\H a=some (.tup [.ref p,.ref q,.int b.wt])/\zu H p b.pl/\zu H q b.sp
def xz (H:Hp) (us:List V) (bs:List Bl):Prop:=us.length=bs.length/\∀(i:Nat) (v:V),us[i]? = some v->∃b,bs[i]? = some b/\Xp H v b
def ZX (H:Hp) (v:V):Option (Rat×Rat)->Prop
 | none=>v = .non
 | some w=>∃a,v=V.ref a/\ZW H a w.1 w.2
theorem Xp.keeps {H H':Hp}{v:V}{b:Bl}(h:Xp H v b) (t:xx H H'):Xp H' v b:=by
 obtain⟨a,p,q,e,h1,h2,h3⟩:=h
 exact⟨a,p,q,e,t _ _ h1,t _ _ h2,t _ _ h3⟩
theorem xz.keeps {H H':Hp}{us:List V}{bs:List Bl}(h:xz H us bs) (t:xx H H'):xz H' us bs :=
 ⟨h.1,λi v e=>by obtain⟨b,e1,e2⟩:=h.2 i v e;exact⟨b,e1,e2.keeps t⟩⟩
theorem ZX.keeps {H H':Hp}{v:V}{w:Option (Rat×Rat)} (h:ZX H v w) (t:xx H H'):ZX H' v w:=by
 cases w with
 | none=>exact h
 | some w=>obtain⟨a,e,h⟩:=h;exact⟨a,e,h.keeps t⟩
def TsI (H:Hp) (vs:List V) (ts:List (Rat×Rat)):Prop:=vs.length=ts.length/\∀(i:Nat) (v:V),vs[i]? = some v->∃t a,ts[i]? = some t/\v=V.ref a/\ZW H a t.1 t.2
theorem TsI.keeps {H H':Hp}{vs:List V}{ts:List (Rat×Rat)} (h:TsI H vs ts) (t:xx H H'):TsI H' vs ts :=
 ⟨h.1,λi v e=>by obtain⟨x,a,e1,e2,e3⟩:=h.2 i v e;exact⟨x,a,e1,e2,e3.keeps t⟩⟩
theorem TsI.nil {H:Hp}:TsI H [] []:=⟨rfl,λi v e=>by simp at e⟩
theorem TsI.cons {H:Hp}{a:Addr}{t:Rat×Rat}{vs:List V}{ts:List (Rat×Rat)} (h:ZW H a t.1 t.2) (r:TsI H vs ts):TsI H (.ref a::vs) (t::ts):=by
 refine⟨by simp[r.1],λi v e=>?_⟩
 cases i with
 | zero=>simp at e;subst e;exact⟨t,a,rfl,rfl,h⟩
 | succ i=>obtain⟨x,b,e1,e2⟩:=r.2 i v (by simpa using e);exact⟨x,b,by simpa using e1,e2⟩
theorem TsI.append {H:Hp}{vs vs':List V}{ts ts':List (Rat×Rat)} (h:TsI H vs ts) (h':TsI H vs' ts'):TsI H (vs++vs') (ts++ts'):=by
 refine⟨by simp[h.1,h'.1],λi v e=>?_⟩
 by_cases hi:i<vs.length
 ·rw[List.getElem?_append_left hi]at e
  rw[List.getElem?_append_left (by rw[<-h.1];exact hi)]
  exact h.2 i v e
 ·rw[List.getElem?_append_right (by omega)]at e
  rw[List.getElem?_append_right (by rw[<-h.1];omega),<-h.1]
  exact h'.2 _ v e
theorem xz.ts {H:Hp}{us:List V}{bs:List Bl}(h:xz H us bs):TsI H us (bs.map λb=>(b.pl,b.sp)):=by
 refine⟨by simp[h.1],λi v e=>?_⟩
 obtain⟨b,e1,a,p,q,rfl,h1,h2,h3⟩:=h.2 i v e
 exact⟨(b.pl,b.sp),a,by rw[List.getElem?_map,e1];rfl,rfl,p,q,_,h1,h2,h3⟩
def ZO:Option (Rat×Rat)->List (Rat×Rat)
 | none=>[]
 | some w=>[w]
theorem zaA {H:Hp}{v1 v2:V}{lo hi:Option (Rat×Rat)} (h1:ZX H v1 lo) (h2:ZX H v2 hi):TsI H ([v1,v2].filter λv=>!decide (v = .non)) (ZO lo++ZO hi):=by
 have one:∀{v:V}{w:Option (Rat×Rat)},ZX H v w->TsI H ([v].filter λv=>!decide (v = .non)) (ZO w):=λ{v w} h=>by
  cases w with
  | none =>
   have e:v = .non:=h
   subst e;exact .nil
  | some w =>
   obtain⟨a,e,h⟩:=h
   subst e
   rw[List.filter_cons_of_pos (by simp)]
   exact .cons h .nil
 have e:([v1,v2].filter λv=>!decide (v = .non))=([v1].filter λv=>!decide (v = .non))++([v2].filter λv=>!decide (v = .non)):=by
  rw[<-List.filter_append];rfl
 rw[e];exact(one h1).append (one h2)
def xn (c:Addr) (H H':Hp):Prop:=∀b o,b≠c->H b=some o->H' b=some o
theorem xn.of {c:Addr}{H H':Hp}(h:zr H H'):xn c H H':=λb o _ e=>h b o e
theorem xn.trans {c:Addr}{H H1 H2:Hp}(a:xn c H H1) (b:xn c H1 H2):xn c H H2:=λx o n e=>b x o n (a x o n e)
theorem xn.upd {c:Addr}{H:Hp}{o:HO}:xn c H (upd H c o):=λb u n e=>by rw[zO n];exact e
theorem xn.tup {c C dx:Addr}{fs:List (Str×V)}{H H':Hp}(h:xn c H H') (e:H c=some (.ins C dx fs)):xx H H':=λb xs q=>h b _ (λz=>by subst z;rw[e]at q;cases q) q
end KK
end
section
set_option maxHeartbeats 4000000
set_option Elab.async false
set_option linter.all false
set_option maxRecDepth 100000
namespace KK
open PySem L2 KM
structure TxQ (K:PySem.W.Frag) (mg:Str->Option Value):Prop extends TxB K mg where
 nList:mg "list" = none
 nZip:mg "zip" = none
def Xq (H:Hp) (v:V):Option (Int×Int)->Prop
 | none=>v = .non
 | some t=>∃a,v=V.ref a/\H a=some (.tup [.int t.1,.int t.2])
def Jg (H:Hp) (vs:List V) (ts:List (Int×Int)):Prop:=vs.length=ts.length/\∀(i:Nat) (v:V),vs[i]? = some v->∃t,ts[i]? = some t/\Xq H v (some t)
theorem Xq.keeps {H H':Hp}{v:V}{w:Option (Int×Int)} (h:Xq H v w) (t:xx H H'):Xq H' v w:=by
 cases w with
 | none=>exact h
 | some w=>obtain⟨a,e,h⟩:=h;exact⟨a,e,t _ _ h⟩
theorem Jg.keeps {H H':Hp}{vs:List V}{ts:List (Int×Int)} (h:Jg H vs ts) (t:xx H H'):Jg H' vs ts :=
 ⟨h.1,λi v e=>by obtain⟨x,e1,e2⟩:=h.2 i v e;exact⟨x,e1,e2.keeps t⟩⟩
structure CoF (H:Hp) (fs:List (Str×V)) (pb sb:Int) (tk:Rat) (ws:List Int) (trs:List (Int×Int)) (lo hi:Option (Int×Int)):Prop where
 pb:fs.lookup ("place_bottom":Str)=some (V.int pb)
 sb:fs.lookup ("speed_bottom":Str)=some (V.int sb)
 tick:∃tp,fs.lookup ("tick":Str)=some (V.ref tp)/\zu H tp tk
 weights:∃wl,fs.lookup ("weights":Str)=some (V.ref wl)/\H wl=some (.lst (ws.map V.int))
 tracks:∃tl tv,fs.lookup ("tracks":Str)=some (V.ref tl)/\H tl=some (.lst tv)/\Jg H tv trs
 low:∃v,fs.lookup ("low":Str)=some v/\Xq H v lo
 high:∃v,fs.lookup ("high":Str)=some v/\Xq H v hi
 len:fs.length<=20
def VC (H:Hp) (C c:Addr) (pb sb:Int) (tk:Rat) (ws:List Int) (trs:List (Int×Int)) (lo hi:Option (Int×Int)):Prop:=∃dx fs,H c=some (.ins C dx fs)/\CoF H fs pb sb tk ws trs lo hi
def CoN (H0 H:Hp) (C c:Addr) (pb sb:Int) (tk:Rat) (ws:List Int) (trs:List (Int×Int)) (lo hi:Option (Int×Int)):Prop:=∃dx fs tl,H c=some (.ins C dx fs)/\CoF H fs pb sb tk ws trs lo hi/\fs.lookup ("tracks":Str)=some (V.ref tl)/\H0 tl=none
theorem CoN.co {H0 H:Hp}{C c:Addr}{pb sb:Int}{tk:Rat}{ws:List Int}{trs:List (Int×Int)}{lo hi:Option (Int×Int)} (h:CoN H0 H C c pb sb tk ws trs lo hi):VC H C c pb sb tk ws trs lo hi:=by
 obtain⟨dx,fs,tl,h1,h2,_⟩:=h;exact⟨dx,fs,h1,h2⟩
def ths (bs:List Bl) (lo hi:Option (Rat×Rat)):List (Rat×Rat):=bs.map (λb=>(b.pl,b.sp))++(ZO lo++ZO hi)
def pbO (bs:List Bl) (lo hi:Option (Rat×Rat)):Int:=ZZ ((ths bs lo hi).map (·.1))
def sbO (bs:List Bl) (lo hi:Option (Rat×Rat)):Int:=ZZ ((ths bs lo hi).map (·.2))
def trB (pb sb:Int) (t:Rat×Rat):Int×Int:=(byB t.1 pb,byB t.2 sb)
section
variable {P:Program}{w:World}{K:PySem.W.Frag}{mg:Str->Option Value}{base:Heap}
def zee (C:Addr):Sp:=λvs H Q _=>∃c dx r wa us bs v1 v2 lo hi,vs=[V.ref c,.ref r,.ref wa]/\H c=some (.ins C dx [])/\H r=some (.tup us)/\xz H us bs/\H wa=some (.tup [v1,v2])/\ZX H v1 lo/\ZX H v2 hi/\bs.length<=8 ∧
 (∀t∈ths bs lo hi,Sz 400 t.1/\Sz 400 t.2)/\∀H',xn c H H'->CoN H H' C c (pbO bs lo hi) (sbO bs lo hi) (Rat.divInt (sbO bs lo hi) (pbO bs lo hi)) (bs.map Bl.wt) (bs.map λb=>trB (pbO bs lo hi) (sbO bs lo hi) (b.pl,b.sp)) (lo.map (trB (pbO bs lo hi) (sbO bs lo hi))) (hi.map (trB (pbO bs lo hi) (sbO bs lo hi)))->Q .non H'
theorem zbR:zB ["self","row","walls","things"] ["self","row","walls"] (zh xL):=⟨rfl,rfl,rfl,by decide +kernel,rfl,by decide +kernel,by decide +kernel⟩
theorem vE {bs:List Bl}{lo hi:Option (Rat×Rat)} (h:bs.length<=8):(ths bs lo hi).length<=20:=by
 unfold ths
 have e:∀w:Option (Rat×Rat),(ZO w).length<=1:=λw=>by cases w <;> simp[ZO]
 have:=e lo
 have:=e hi
 simp only[List.length_append,List.length_map];omega
theorem Vc {σ:St}{H:Hp}{Q:VK}{L:Addr}{vs:List V}{ts:List (Rat×Rat)}{j:Nat}{i:Int}(f:Rat×Rat->Rat) (hσ:σ[j]? = some (some (.ref L))) (hL:H L=some (.lst vs)) (hT:TsI H vs ts) (hl:ts.length<=20)
  (hf:∀H2 a t,ZW H2 a t.1 t.2->∃xs p,H2 a=some (.tup xs)/\atI xs i=some (.ref p)/\zu H2 p (f t))
  (k:∀D ys H',zr H H'->H' D=some (.lst ys)->vJ H' ys (ts.map f)->Q (.ref D) H') :
  Vx 1 (zbM K (zZ j)) (zA 0) (λ_ H Q=>Q true H) (tOp (vt K) (zZ 0) (tC (.int i))) σ H Q:=by
 refine⟨_,hσ,L,rfl,⟨_,SqL.of hL⟩,λD hD=>?_⟩
 refine j8 (J:=Itl K L) (n:=1) (g:=zA 0) (te:=tOp (vt K) (zZ 0) (tC (.int i))) (xs:=vs) (λm v H=>∃t p,ts[m]? = some t/\v = .ref p/\zu H p (f t)) (λ_ _ _ _ t ⟨x,p,e1,e2,e3⟩=>⟨x,p,e1,e2,t _ _ e3⟩) hD (xC hL) (ql (by rw[hT.1];exact hl)) ?_ ?_
 ·intro m x zs H2 Q' hx hz s2 hk
  obtain⟨t,a,e,rfl,ha⟩:=hT.2 m x hx
  obtain⟨z1,rfl⟩:=Xw hz
  obtain⟨xs,p,h1,h2,h3⟩:=hf H2 a t (ha.keeps (.of s2))
  dsimp only[zA]
  try rw[if_pos rfl]
  exact⟨_,rfl,a,_,_,_,rfl,rfl,.of h1,h2,hk _ _ (zr.refl _) ⟨t,p,e,rfl,h3⟩⟩
 ·intro ys H' s' hy hyl hyR
  refine k D ys H' s' hy ⟨by simp[hyl,hT.1],λm v e=>?_⟩
  obtain⟨t,p,e1,e2,e3⟩:=hyR m v e
  exact⟨p,f t,e2,by rw[List.getElem?_map,e1];rfl,e3⟩
end
end KK
end
section
set_option maxHeartbeats 4000000
set_option Elab.async false
set_option linter.all false
set_option maxRecDepth 100000
namespace KK
open PySem L2 KM
section
variable {P:Program}{w:World}{K:PySem.W.Frag}{mg:Str->Option Value}{base:Heap}
theorem th0:∀(H2:Hp) (a:Addr) (t:Rat×Rat),ZW H2 a t.1 t.2->∃xs p,H2 a=some (.tup xs)/\atI xs 0=some (.ref p)/\zu H2 p t.1:=λH2 a t ⟨p,q,r,h1,h2,h3⟩=>⟨_,p,h1,zcj,h2⟩
theorem th1:∀(H2:Hp) (a:Addr) (t:Rat×Rat),ZW H2 a t.1 t.2->∃xs p,H2 a=some (.tup xs)/\atI xs 1=some (.ref p)/\zu H2 p t.2:=λH2 a t ⟨p,q,r,h1,h2,h3⟩=>⟨_,q,h1,zck,h3⟩
theorem jF {tv:TE}{rest:TS}{f:Str}{D:vV}{σ:St}{H:Hp}(h:tv σ H λy H1=>zZ 0 σ H1 λx H2=>∃a C dx fs,x = .ref a/\H2 a=some (.ins C dx fs)/\Cls K C/\xO K C f/\fs.length<1000/\rest D σ (upd H2 a (.ins C dx (vP f y fs)))):Jb (zdd K (zZ 0) tv f) rest D σ H:=h
theorem zbe {tv:TE}{f:Str}{D:vV}{σ:St}{H:Hp}(h:tv σ H λy H1=>zZ 0 σ H1 λx H2=>∃a C dx fs,x = .ref a/\H2 a=some (.ins C dx fs)/\Cls K C/\xO K C f/\fs.length<1000/\D.nx σ (upd H2 a (.ins C dx (vP f y fs)))):zdd K (zZ 0) tv f D σ H:=h
theorem zbH {te:TE}{sp:Sp}{σ:St}{H:Hp}{Q:VK}(h:te σ H λx H1=>sp [x] H1 Q E0):jt sp [] E0 (xr te jh) σ H Q:=h
theorem zbI {ta tb:TE}{sp:Sp}{σ:St}{H:Hp}{Q:VK}(h:ta σ H λx H1=>tb σ H1 λy H2=>sp [x,y] H2 Q E0):jt sp [] E0 (xr ta (xr tb jh)) σ H Q:=h
theorem vx {c C dx:Addr}{fs:List (Str×V)}{f:Str}{y:V}{rest:TS}{D:vV}{σ:St}{H3:Hp}(hσ:σ[0]? = some (some (.ref c))) (hc:H3 c=some (.ins C dx fs)) (cl:Cls K C) (na:xO K C f) (hl:fs.length<1000)
  (k:∀G,xn c H3 G->G c=some (.ins C dx (vP f y fs))->rest D σ G):zZ 0 σ H3 λx H2=>∃a C dx fs,x = .ref a/\H2 a=some (.ins C dx fs)/\Cls K C/\xO K C f/\fs.length<1000/\rest D σ (upd H2 a (.ins C dx (vP f y fs))) :=
 ⟨_,hσ,c,C,dx,fs,rfl,hc,cl,na,hl,k _ .upd zj⟩
theorem VB {C c dx:Addr}{fs:List (Str×V)}{pb sb:Int}{G:Hp}{v:V}{w:Option (Rat×Rat)}{Q:VK}{E:XK}(hc:G c=some (.ins C dx fs)) (e1:fs.lookup ("place_bottom":Str)=some (V.int pb)) (e2:fs.lookup ("speed_bottom":Str)=some (V.int sb)) (hw:ZX G v w)
  (hz:∀t,w=some t->Sz 400 t.1/\Sz 400 t.2) (p1:0<pb/\Bd 8900 pb) (p2:0<sb/\Bd 8900 sb) (k:∀v' H',zr G H'->Xq H' v' (w.map (trB pb sb))->Q v' H'):zbB C [.ref c,v] G Q E:=by
 refine⟨c,dx,fs,pb,sb,hc,e1,e2,?_⟩
 cases w with
 | none =>
  have e:v = .non:=hw
  subst e
  exact .inl ⟨rfl,k _ _ (zr.refl _) rfl⟩
 | some t =>
  obtain⟨a,rfl,ha⟩:=hw
  have z:=hz t rfl
  exact .inr ⟨a,t.1,t.2,rfl,ha,z.1,z.2,p1.1,p2.1,p1.2,p2.2,λr H' s h=>k _ _ s ⟨r,rfl,h⟩⟩
theorem zdJ {C f:Addr}{fd:FuncData}(F:Fun K "__init__" "Course.__init__" xL f fd) (T:TxQ K mg) (TC:TCo K C) (cB:Cal P w K mg base "common_bottom" 3 ["ratios"] [] zdk) (cR:Cal P w K mg base "ratio" 2 ["top","bottom"] [] xX)
  (cT:Cal P w K mg base "track_of" 1 ["course","thing"] [] (zbB C)):jH P w K mg base CX0 4 f fd ["self","row","walls"] (zee C):=by
 refine F.ok (k:=3) zbR (λvs H Q E h=>by obtain⟨_,_,_,_,_,_,_,_,_,_,rfl,_⟩:=h;rfl) (λcdv A outer s H vs Q E hr h=>?_)
 obtain⟨c,dx,r,wa,us,bs,v1,v2,lo,hi,rfl,hc,hrr,hB,hw,h1,h2,hl,hz,k⟩:=h
 have hr2:zX 2 _:=hr.mono (by decide)
 have hr1:zX 1 _:=hr.mono (by decide)
 refine⟨_,(zi (zE (i:=3) zbR.nd rfl (Or.inl rfl) (zt zc5 (jA jQ (by rfl) T.nList PyProof.Rows.boot_list (za (pv 1) ze)) (vD (NB:=["wall"]) rfl (by decide +kernel) (by decide +kernel) rfl (by decide +kernel) (vH (pv 2)) (by intro _ _ _;refine⟨?_,?_,?_⟩;(exact(zG (i:=0) (show List.Nodup (["wall"]:List Str) by decide +kernel) rfl (Or.inl rfl)));(exact(XD (zC v7 (pv 0) xo (zF _))));(exact(pv 0))))))
  (zi (jM (pv 0) (zw cB hr (za (vD (NB:=["thing"]) rfl (by decide +kernel) (by decide +kernel) rfl (by decide +kernel) (xR (pv 3)) (by intro _ _ _;refine⟨?_,?_,?_⟩;(exact(zG (i:=0) (show List.Nodup (["thing"]:List Str) by decide +kernel) rfl (Or.inl rfl)));(exact xI);(exact(zo (xY (K:=K) rfl) (pv 0) zd (λ_ _=>rfl))))) ze)) rfl)
  (zi (jM (pv 0) (zw cB hr (za (vD (NB:=["thing"]) rfl (by decide +kernel) (by decide +kernel) rfl (by decide +kernel) (xR (pv 3)) (by intro _ _ _;refine⟨?_,?_,?_⟩;(exact(zG (i:=0) (show List.Nodup (["thing"]:List Str) by decide +kernel) rfl (Or.inl rfl)));(exact xI);(exact(zo (xY (K:=K) rfl) (pv 0) zd (λ_ _=>rfl))))) ze)) rfl)
  (zi (jM (pv 0) (zw cR hr2 (za (qK (pv 0) rfl) (za (qK (pv 0) rfl) ze))) rfl)
  (zi (jM (pv 0) (vD (NB:=["ball"]) rfl (by decide +kernel) (by decide +kernel) rfl (by decide +kernel) (vH (pv 1)) (by intro _ _ _;refine⟨?_,?_,?_⟩;(exact(zG (i:=0) (show List.Nodup (["ball"]:List Str) by decide +kernel) rfl (Or.inl rfl)));(exact xI);(exact(zo (xY (K:=K) rfl) (pv 0) zd (λ_ _=>rfl))))) rfl)
  (zi (jM (pv 0) (vn (NB:=["ball"]) (FR:=["self"]) (js:=[0]) rfl rfl (λ_ _ h=>h) (.cons rfl rfl rfl ⟨_,rfl⟩ .nil) rfl (by decide +kernel) rfl (by decide +kernel) (vH (pv 1)) (by intro _ _ _;refine⟨?_,?_,?_⟩;(exact(zG (i:=0) (show List.Nodup (["ball","self"]:List Str) by decide +kernel) rfl (Or.inl rfl)));(exact xI);(exact(zw cT hr1 (za (pv 1) (za (pv 0) ze)))))) rfl)
  (zi (jM (pv 0) (zw cT hr1 (za (pv 0) (za (zo zm (pv 2) zd (λ_ _=>rfl)) ze))) rfl)
  (zn (jM (pv 0) (zw cT hr1 (za (pv 0) (za (zo zm (pv 2) zd (λ_ _=>rfl)) ze))) rfl))))))))),?_⟩
 refine⟨_,rfl,r,us,rfl,.inr (.of hrr),λl hll=>?_⟩
 refine⟨_,rfl,wa,rfl,⟨_,SqT.of (zr.upd hll _ _ hw)⟩,λDa hD=>?_⟩
 refine Ju (J:=Itt K wa) (n:=1) (g:=zA 0) (te:=zZ 0) (xs:=[v1,v2]) (λv=>!decide (v = .non)) hD (jn (zr.upd hll _ _ hw)) (ql (by show 2<=20;decide)) ?_ ?_
 ·intro m x zs H2 A2 B2 hx hz2 s2 ka kb
  obtain⟨z1,rfl⟩:=Xw hz2
  dsimp only[zA]
  refine⟨_,rfl,rfl,_,rfl,?_⟩
  cases e:decide (x=V.non)with
  | true=>exact kb (by simp[e])
  | false=>exact⟨_,rfl,ka (by simp[e])⟩
 intro H1 s1 hy
 have hl1:H1 l=some (.lst us):=s1 _ _ zj
 refine⟨l,Da,us,_,rfl,rfl,hl1,hy,?_,λL hL=>?_⟩
 ·have z1:=List.length_filter_le (λv=>!decide (v=V.non)) [v1,v2]
  have z2:=hB.1
  have z3:20<sizeLine:=ql (Nat.le_refl _)
  simp only[List.length_cons,List.length_nil]at z1
  omega
 have S1:zr H H1:=(zr.upd hll).trans s1
 have S2:zr H (upd H1 L (.lst (us++[v1,v2].filter λv=>!decide (v = .non)))):=S1.trans (zr.upd hL)
 have hT:TsI H (us++[v1,v2].filter λv=>!decide (v = .non)) (ths bs lo hi):=hB.ts.append (zaA h1 h2)
 have hLL:upd H1 L (.lst (us++[v1,v2].filter λv=>!decide (v = .non))) L=some (.lst (us++[v1,v2].filter λv=>!decide (v = .non))):=zj
 generalize upd H1 L (.lst (us++[v1,v2].filter λv=>!decide (v = .non)))=G0 at S2 hLL
 generalize (us++[v1,v2].filter λv=>!decide (v = .non))=tv at hT hLL
 have hw0:=S2 _ _ hw
 have hr0:=S2 _ _ hrr
 have hc0:=S2 _ _ hc
 have cL:L≠c:=λz=>by subst z;rw[hLL]at hc0;cases hc0
 dsimp only[zA]
 refine jF (K:=K) ?_
 refine zbH ?_
 refine Vc (λt=>t.1) (by rfl) hLL (hT.keeps (.of S2)) (vE hl) th0 λD1 y1 H2 s2 hy1 hR1=>?_
 refine⟨D1,y1,_,rfl,hy1,hR1,λq hq=>?_,by rw[List.length_map];exact vE hl,λH3 s3=>?_⟩
 ·obtain⟨t,ht,rfl⟩:=List.mem_map.mp hq
  exact(hz t ht).1.2
 have p1:=Xu (qs:=(ths bs lo hi).map (·.1)) (λq hq=>by obtain⟨t,ht,rfl⟩:=List.mem_map.mp hq;exact(hz t ht).1.2) (by rw[List.length_map];exact vE hl)
 have p2:=Xu (qs:=(ths bs lo hi).map (·.2)) (λq hq=>by obtain⟨t,ht,rfl⟩:=List.mem_map.mp hq;exact(hz t ht).2.2) (by rw[List.length_map];exact vE hl)
 refine vx (by rfl) (s3 _ _ (s2 _ _ hc0)) TC.cls TC.pb (by decide) λG1 X1 c1=>?_
 replace X1:xn c G0 G1:=(xn.of (s2.trans s3)).trans X1
 have t1:xx H G1:=(xx.of S2).trans (X1.tup hc0)
 refine jF (K:=K) ?_
 refine zbH ?_
 refine Vc (λt=>t.2) (by rfl) (X1 _ _ cL hLL) (hT.keeps t1) (vE hl) th1 λD2 y2 H4 s4 hy2 hR2=>?_
 refine⟨D2,y2,_,rfl,hy2,hR2,λq hq=>?_,by rw[List.length_map];exact vE hl,λH5 s5=>?_⟩
 ·obtain⟨t,ht,rfl⟩:=List.mem_map.mp hq
  exact(hz t ht).2.2
 refine vx (by rfl) (s5 _ _ (s4 _ _ c1)) TC.cls TC.sb (by show 1<1000;decide) λG2 X2 c2=>?_
 replace X2:xn c G0 G2:=X1.trans ((xn.of (s4.trans s5)).trans X2)
 refine jF (K:=K) ?_
 refine⟨_,rfl,c,C,dx,_,_,rfl,c2,TC.cls,TC.sb,rfl,_,rfl,c,C,dx,_,_,rfl,c2,TC.cls,TC.pb,rfl,_,_,rfl,by have:=p1.1;omega,p1.2.1,λtp H6 s6 htp=>?_⟩
 refine vx (by rfl) (s6 _ _ c2) TC.cls TC.tick (by show 2<1000;decide) λG3 X3' c3=>?_
 have X3:xn c G0 G3:=X2.trans ((xn.of s6).trans X3')
 have htp3:zu G3 tp _:=X3' _ _ (λz=>by subst z;have:=s6 _ _ c2;rw[htp]at this;cases this) htp
 have t3:xx H G3:=(xx.of S2).trans (X3.tup hc0)
 refine jF (K:=K) ?_
 have l20:us.length<sizeLine:=ql (by rw[hB.1];omega)
 refine⟨_,rfl,r,rfl,⟨_,SqT.of (t3 _ _ hrr)⟩,λD4 hD4=>?_⟩
 refine j8 (J:=Itt K r) (n:=1) (g:=zA 0) (te:=tOp (vt K) (zZ 0) (tC (.int 2))) (xs:=us) (λm v _=>∃b:Bl,bs[m]? = some b/\v = .int b.wt) (λ_ _ _ _ _ z=>z) hD4 (jn (t3 _ _ hrr)) l20 ?_ ?_
 ·intro m x zs H7 Q' hx hz7 s7 hk
  obtain⟨b,e,a,p,q,rfl,ha,_⟩:=(hB.keeps (t3.trans (.of s7))).2 m x hx
  obtain⟨z1,rfl⟩:=Xw hz7
  dsimp only[zA]
  exact⟨_,rfl,a,_,_,_,rfl,rfl,.of ha,rfl,hk _ _ (zr.refl _) ⟨b,e,rfl⟩⟩
 intro y4 H7 s7 hy4 hyl4 hyR4
 have e4:y4=(bs.map Bl.wt).map V.int:=by
  rw[List.map_map]
  exact QD (hyl4.trans hB.1) hyR4
 refine vx (by rfl) (s7 _ _ c3) TC.cls TC.weights (by show 3<1000;decide) λG4 X4' c4=>?_
 have X4:xn c G0 G4:=X3.trans ((xn.of s7).trans X4')
 have nc:∀{G:Hp}{fs:List (Str×V)}{b:Addr}{o:HO},G c=some (.ins C dx fs)->G b=some o->(∀fs,o≠.ins C dx fs)->b≠c:=λh1 h2 h3 z=>by subst z;rw[h1]at h2;cases h2;exact h3 _ rfl
 have wl4:G4 D4=some (.lst ((bs.map Bl.wt).map V.int)):=by
  rw[<-e4];exact X4' _ _ (nc (s7 _ _ c3) hy4 (λ_ z=>by cases z)) hy4
 have htp4:zu G4 tp _:=X4' _ _ (nc (s7 _ _ c3) (s7 _ _ htp3) (λ_ z=>by cases z)) (s7 _ _ htp3)
 have t4:xx H G4:=(xx.of S2).trans (X4.tup hc0)
 refine jF (K:=K) ?_
 refine⟨_,rfl,r,rfl,⟨_,SqT.of (t4 _ _ hrr)⟩,λD5 hD5=>?_⟩
 refine xP (J:=Itt K r) (n:=1) (js:=[0]) (g:=zA 0) (te:=jt (zbB C) [] E0 (xr (zZ 1) (xr (zZ 0) jh))) (xs:=us) (λm v H=>∃t,(bs.map λb=>trB (pbO bs lo hi) (sbO bs lo hi) (b.pl,b.sp))[m]? = some t/\Xq H v (some t)) (λ_ _ _ _ t ⟨x,e1,e2⟩=>⟨x,e1,e2.keeps t⟩) hD5 (jn (t4 _ _ hrr)) l20 ?_ ?_
 ·intro m x zs H8 Q' hx hz8 s8 hk
  obtain⟨b,e,a,p,q,rfl,ha,hp,hq⟩:=(hB.keeps (t4.trans (.of s8))).2 m x hx
  obtain⟨z1,rfl⟩:=Xw hz8
  dsimp only[zA]
  have zb:=hz (b.pl,b.sp) (List.mem_append_left _ (List.mem_map.mpr ⟨b,List.mem_of_getElem? e,rfl⟩))
  refine⟨rfl,_,rfl,_,rfl,c,dx,_,_,_,s8 _ _ c4,rfl,rfl,.inr ⟨a,b.pl,b.sp,rfl,⟨p,q,_,ha,hp,hq⟩,zb.1,zb.2,p1.1,p2.1,p1.2.1,p2.2.1,λr' H9 s9 h9=>hk _ _ s9 ⟨_,by rw[List.getElem?_map,e];rfl,r',rfl,h9⟩⟩⟩
 intro y5 H8 s8 hy5 hyl5 hyR5
 refine vx (by rfl) (s8 _ _ c4) TC.cls TC.tracks (by show 4<1000;decide) λG5 X5' c5=>?_
 have X5:xn c G0 G5:=X4.trans ((xn.of s8).trans X5')
 have tl5:G5 D5=some (.lst y5):=X5' _ _ (nc (s8 _ _ c4) hy5 (λ_ z=>by cases z)) hy5
 have tr5:Jg G5 y5 (bs.map λb=>trB (pbO bs lo hi) (sbO bs lo hi) (b.pl,b.sp)):=⟨by rw[hyl5,List.length_map,hB.1],λm v e=>by
  obtain⟨t,e1,e2⟩:=hyR5 m v e
  exact⟨t,e1,e2.keeps (X5'.tup (s8 _ _ c4))⟩⟩
 have wl5:=X5' _ _ (nc (s8 _ _ c4) (s8 _ _ wl4) (λ_ z=>by cases z)) (s8 _ _ wl4)
 have htp5:zu G5 tp _:=X5' _ _ (nc (s8 _ _ c4) (s8 _ _ htp4) (λ_ z=>by cases z)) (s8 _ _ htp4)
 have t5:xx H G5:=(xx.of S2).trans (X5.tup hc0)
 have zlo:∀t,lo=some t->Sz 400 t.1/\Sz 400 t.2:=λt e=>hz t (by unfold ths;rw[e];simp[ZO])
 have zhi:∀t,hi=some t->Sz 400 t.1/\Sz 400 t.2:=λt e=>hz t (by unfold ths;rw[e];simp[ZO])
 refine jF (K:=K) ?_
 refine zbI ⟨_,rfl,_,rfl,wa,_,_,_,rfl,rfl,.of (t5 _ _ hw),at0 ..,?_⟩
 refine VB c5 rfl rfl (h1.keeps t5) zlo ⟨p1.1,p1.2.1⟩ ⟨p2.1,p2.2.1⟩ λlv H9 s9 hlv=>?_
 refine vx (by rfl) (s9 _ _ c5) TC.cls TC.low (by show 5<1000;decide) λG6 X6' c6=>?_
 have X6:xn c G0 G6:=X5.trans ((xn.of s9).trans X6')
 have t6:xx H G6:=(xx.of S2).trans (X6.tup hc0)
 have X56:xn c G5 G6:=(xn.of s9).trans X6'
 refine zbe (K:=K) ?_
 refine zbI ⟨_,rfl,_,rfl,wa,_,_,_,rfl,rfl,.of (t6 _ _ hw),at1 ..,?_⟩
 refine VB c6 rfl rfl (h2.keeps t6) zhi ⟨p1.1,p1.2.1⟩ ⟨p2.1,p2.2.1⟩ λhv H10 s10 hhv=>?_
 refine vx (rest:=vV.nx) (by rfl) (s10 _ _ c6) TC.cls TC.high (by show 6<1000;decide) λG7 X7' c7=>?_
 have X67:xn c G6 G7:=(xn.of s10).trans X7'
 have X57:xn c G5 G7:=X56.trans X67
 have X7:xn c G0 G7:=X6.trans X67
 have hD5H:H D5=none:=by
  cases e:H D5 with
  | none=>rfl
  | some o =>
   by_cases z:D5=c
   ·rw[z,c4]at hD5;cases hD5
   ·rw[X4 _ _ z (S2 _ _ e)]at hD5;cases hD5
 refine k G7 ((xn.of S2).trans X7) ⟨dx,_,D5,c7,⟨rfl,rfl,⟨tp,rfl,X57 _ _ (nc c5 htp5 (λ_ z=>by cases z)) htp5⟩,⟨D4,rfl,X57 _ _ (nc c5 wl5 (λ_ z=>by cases z)) wl5⟩,
  ⟨D5,y5,rfl,X57 _ _ (nc c5 tl5 (λ_ z=>by cases z)) tl5,tr5.keeps (X57.tup c5)⟩,⟨lv,rfl,(hlv.keeps (X6'.tup (s9 _ _ c5))).keeps (X67.tup c6)⟩,⟨hv,rfl,hhv.keeps (X7'.tup (s10 _ _ c6))⟩,by show 7<=20;decide⟩,rfl,hD5H⟩
end
end KK
end
section
set_option maxHeartbeats 8000000
set_option Elab.async false
set_option linter.all false
set_option maxRecDepth 100000
namespace KK
open PySem L2 KM
structure Tx3 (K:PySem.W.Frag) (mg:Str->Option Value) (aN:Addr):Prop where
 nAll:mg "all" = none
 nSorted:mg "sorted" = none
 nEnum:mg "enumerate" = none
 mn:mg "NOUGHT" = some (.ref aN)
 kn:Je K aN 0 1
 tt:PySem.W.kitOne K (.type "tuple") (.type "tuple")=some true
abbrev Wl:=Option (Rat×Rat)
def xG (H:Hp) (v:V):Wl->Prop
 | none=>v = .non
 | some (x,y)=>∃a p q,v = .ref a/\H a=some (.tup [.ref p,.ref q])/\zu H p x/\zu H q y
theorem xG.same {H H':Hp}{v:V}{l:Wl}(h:xG H v l) (e:zr H H'):xG H' v l:=by
 cases l with
 | none=>exact h
 | some z=>obtain⟨a,p,q,e1,e2,e3,e4⟩:=h;exact⟨a,p,q,e1,e _ _ e2,e3.same e,e4.same e⟩
theorem iteD {c:Prop} [Decidable c] {A B:Prop}(e:¬c) (h:B):if decide c=true then A else B:=by
 rw[decide_eq_false e];exact xb h
theorem Vz {α:Type}{l:List α}{i:Nat}{x:α}(h:l[i]? = some x):l.take (i+1)=l.take i++[x]:=by rw[List.take_add_one,h];rfl
theorem ln1 {σ:St}(h:σ.length=1):∃a,σ=[a]:=by
 match σ,h with
 | [a],_=>exact⟨a,rfl⟩
section
variable {P:Program}{w:World}{K:PySem.W.Frag}{mg:Str->Option Value}{base:Heap}{aN:Addr}
def zaq:Sp:=λvs H Q _=>∃p xs n,vs=[.ref p,.int n]/\H p=some (.tup xs)/\Q (.bl (decide (V.int (xs.length:Nat)=V.int n))) H
theorem zab:zB ["thing","many"] ["thing","many"] (zh qx):=⟨rfl,rfl,rfl,by decide +kernel,rfl,by decide +kernel,by decide +kernel⟩
theorem zdV (D:Df K mg "is_tuple" qx ["thing","many"] []) (T:TxB K mg) (T3:Tx3 K mg aN):Cal P w K mg base "is_tuple" 1 ["thing","many"] [] zaq:=by
 refine D.cal (k:=0) zab (λvs H Q E h=>by obtain⟨_,_,_,rfl,_⟩:=h;rfl) (λf cdv A outer s H vs Q E hr h=>?_)
 obtain⟨p,xs,n,rfl,hp,k⟩:=h
 refine⟨_,(zn (zD (qb (zH vC (by rfl) T.nIs PyProof.Rows.boot_isinstance (za (pv 0) (za (j1 (v:=.ty "tuple") (u:=.type "tuple") (by rfl) T.nTuple PyProof.Rows.boot_tuple rfl) ze))) (vo (qQ qN (zH zN (by rfl) T.nLen PySem.boot_len (za (pv 0) ze)) (pv 1) (zF _)))))),?_⟩
 exact⟨_,rfl,_,_,_,true,rfl,.tup hp,T3.tt,true,rfl,xk ⟨_,rfl,p,_,rfl,.inr (SqT.of hp),_,rfl,rfl,k⟩⟩
def zdl:Sp:=λvs H Q _=>∃p x,vs=[.ref p]/\zu H p x/\Q (.bl true) H
theorem zaT (x:Rat):(Int.gcd (if x.num<0 then -x.num else x.num) (x.den:Int):Int)=1:=by
 rw[vF]
 have:=x.reduced
 show ((Nat.gcd x.num.natAbs x.den:Nat):Int)=1
 rw[this];rfl
theorem QS:zB ["thing","top","bottom"] ["thing"] (zh qv):=⟨rfl,rfl,rfl,by decide +kernel,rfl,by decide +kernel,by decide +kernel⟩
theorem zdL (D:Df K mg "is_ratio" qv ["thing"] []) (T:TxB K mg) (cTu:Cal P w K mg base "is_tuple" 1 ["thing","many"] [] zaq) (cW:Cal P w K mg base "is_whole" 1 ["thing"] [] Zx) (cG:Cal P w K mg base "greatest_divisor" 1 ["one","other"] [] Vu) :
  Cal P w K mg base "is_ratio" 2 ["thing"] [] zdl:=by
 refine D.cal (k:=1) QS (λvs H Q E h=>by obtain⟨_,_,rfl,_⟩:=h;rfl) (λf cdv A outer s H vs Q E hr1 h=>?_)
 obtain⟨p,x,rfl,hp,k⟩:=h
 refine⟨_,(zi (zR (vI (xj (zw cTu hr1 (za (pv 0) (za zd ze))) λ_=>rfl)) (zn (zD xq)) zI)
  (zi (ja (pv 0) (jk rfl (zM (zG (i:=1) QS.nd rfl (Or.inl rfl)) (zM (zG (i:=2) QS.nd rfl (Or.inl rfl)) xZ))))
  (zi (zR ((jJ (vI (xj (zw cW hr1 (za (pv 1) ze)) λ_=>rfl)) (jJ (vI (xj (zw cW hr1 (za (pv 2) ze)) λ_=>rfl)) (jm (zC jg (pv 2) zd (zF _)))))).pt (zn (zD xq)) zI)
  (zn (zD (qQ qN (zw cG hr1 (za (zH vi (by rfl) T.nAbs PyProof.Rows.boot_abs (za (pv 1) ze)) (za (pv 2) ze))) zd (zF _))))))),?_⟩
 refine⟨_,rfl,p,_,_,rfl,hp,_,rfl,xb ?_⟩
 refine⟨_,rfl,p,_,rfl,SqT.of hp,rfl,_,_,rfl,_,_,rfl,rfl,?_⟩
 refine⟨_,rfl,_,rfl,true,rfl,xb ⟨_,rfl,_,rfl,true,rfl,xb ?_⟩⟩
 refine⟨_,rfl,_,_,rfl,rfl,_,rfl,iteD (by have:=den_pos x;omega) ?_⟩
 refine⟨_,rfl,_,rfl,_,rfl,_,_,rfl,(by rw[vF];omega),(by omega),rfl,?_⟩
 show Q (.bl (decide (V.int (Int.gcd (if x.num<0 then -x.num else x.num) (x.den:Int):Int)=V.int 1))) H
 rw[zaT,decide_eq_true rfl];exact k
def zep:Sp:=λvs H Q _=>∃v l,vs=[v]/\xG H v l/\Q (.bl true) H
theorem V7:zB ["thing"] ["thing"] (zh qU):=⟨rfl,rfl,rfl,by decide +kernel,rfl,by decide +kernel,by decide +kernel⟩
theorem zdW (D:Df K mg "is_wall" qU ["thing"] []) (cTu:Cal P w K mg base "is_tuple" 1 ["thing","many"] [] zaq) (cIr:Cal P w K mg base "is_ratio" 2 ["thing"] [] zdl):Cal P w K mg base "is_wall" 3 ["thing"] [] zep:=by
 refine D.cal (k:=2) V7 (λvs H Q E h=>by obtain⟨_,_,rfl,_⟩:=h;rfl) (λf cdv A outer s H vs Q E hr2 h=>?_)
 obtain⟨v,l,rfl,hw,k⟩:=h
 have hr1:zX 1 _:=hr2.mono (by decide)
 refine⟨_,(zi (zR (zC vG (pv 0) xo (zF _)) (zn (zD xq)) zI)
  (zn (zD (qb (zw cTu hr1 (za (pv 0) (za zd ze))) (qb (zw cIr hr2 (za (zo zm (pv 0) zd (λ_ _=>rfl)) ze)) (vo (zw cIr hr2 (za (zo zm (pv 0) zd (λ_ _=>rfl)) ze)))))))),?_⟩
 cases l with
 | none =>
  obtain rfl:v = .non:=hw
  exact⟨_,rfl,rfl,_,rfl,xk k⟩
 | some z =>
  obtain⟨x,y⟩:=z
  obtain⟨a,p,q,rfl,ha,hp,hq⟩:=hw
  refine⟨_,rfl,rfl,_,rfl,xb ?_⟩
  refine⟨_,rfl,a,_,_,rfl,ha,true,rfl,xk ?_⟩
  refine⟨_,rfl,a,_,_,_,rfl,rfl,.of ha,rfl,p,x,rfl,hp,true,rfl,xk ?_⟩
  exact⟨_,rfl,a,_,_,_,rfl,rfl,.of ha,rfl,q,y,rfl,hq,k⟩
def zeq:Sp:=λvs H Q _=>∃a v1 v2 l1 l2,vs=[.ref a]/\H a=some (.tup [v1,v2])/\xG H v1 l1/\xG H v2 l2/\Q (.bl true) H
theorem zbq:zB ["thing"] ["thing"] (zh xE):=⟨rfl,rfl,rfl,by decide +kernel,rfl,by decide +kernel,by decide +kernel⟩
theorem zdY (D:Df K mg "is_wall_pair" xE ["thing"] []) (cTu:Cal P w K mg base "is_tuple" 1 ["thing","many"] [] zaq) (cWa:Cal P w K mg base "is_wall" 3 ["thing"] [] zep):Cal P w K mg base "is_wall_pair" 4 ["thing"] [] zeq:=by
 refine D.cal (k:=3) zbq (λvs H Q E h=>by obtain⟨_,_,_,_,_,rfl,_⟩:=h;rfl) (λf cdv A outer s H vs Q E hr3 h=>?_)
 obtain⟨a,v1,v2,l1,l2,rfl,ha,h1,h2,k⟩:=h
 have hr1:zX 1 _:=hr3.mono (by decide)
 refine⟨_,(zn (zD (qb (zw cTu hr1 (za (pv 0) (za zd ze))) (qb (zw cWa hr3 (za (zo zm (pv 0) zd (λ_ _=>rfl)) ze)) (vo (zw cWa hr3 (za (zo zm (pv 0) zd (λ_ _=>rfl)) ze))))))),?_⟩
 refine⟨_,rfl,a,_,_,rfl,ha,true,rfl,xk ?_⟩
 refine⟨_,rfl,a,_,_,_,rfl,rfl,.of ha,rfl,v1,l1,rfl,h1,true,rfl,xk ?_⟩
 exact⟨_,rfl,a,_,_,_,rfl,rfl,.of ha,rfl,v2,l2,rfl,h2,k⟩
def zed:Sp:=λvs H Q _=>∃a p q x y n,vs=[.ref a]/\H a=some (.tup [.ref p,.ref q,.int n])/\zu H p x/\zu H q y/\Q (.bl true) H
theorem J9:zB ["thing"] ["thing"] (zh xD):=⟨rfl,rfl,rfl,by decide +kernel,rfl,by decide +kernel,by decide +kernel⟩
theorem zdH (D:Df K mg "is_ball_form" xD ["thing"] []) (cTu:Cal P w K mg base "is_tuple" 1 ["thing","many"] [] zaq) (cIr:Cal P w K mg base "is_ratio" 2 ["thing"] [] zdl) (cW:Cal P w K mg base "is_whole" 1 ["thing"] [] Zx):Cal P w K mg base "is_ball_form" 3 ["thing"] [] zed:=by
 refine D.cal (k:=2) J9 (λvs H Q E h=>by obtain⟨_,_,_,_,_,_,rfl,_⟩:=h;rfl) (λf cdv A outer s H vs Q E hr2 h=>?_)
 obtain⟨a,p,q,x,y,n,rfl,ha,hp,hq,k⟩:=h
 have hr1:zX 1 _:=hr2.mono (by decide)
 refine⟨_,(zn (zD (qb (zw cTu hr1 (za (pv 0) (za zd ze))) (qb (zw cIr hr2 (za (zo zm (pv 0) zd (λ_ _=>rfl)) ze)) (qb (zw cIr hr2 (za (zo zm (pv 0) zd (λ_ _=>rfl)) ze)) (vo (zw cW hr1 (za (zo zm (pv 0) zd (λ_ _=>rfl)) ze)))))))),?_⟩
 refine⟨_,rfl,a,_,_,rfl,ha,true,rfl,xk ?_⟩
 refine⟨_,rfl,a,_,_,_,rfl,rfl,.of ha,rfl,p,x,rfl,hp,true,rfl,xk ?_⟩
 refine⟨_,rfl,a,_,_,_,rfl,rfl,.of ha,rfl,q,y,rfl,hq,true,rfl,xk ?_⟩
 exact⟨_,rfl,a,_,_,_,rfl,rfl,.of ha,rfl,n,rfl,k⟩
theorem all_map (f:α->Bool) (l:List α):(l.map f).all id=l.all f:=by rw[List.all_map];rfl
theorem Qz {σ:St}{H:Hp}{Q:VK}{j:Nat}{sp:Sp}{r:Addr}{us:List V}{bs:List vf}(hσ:σ[j]? = some (some (.ref r))) (hr:H r=some (.tup us)) (hB:xa H us bs) (hlen:bs.length<=8)
  (hsp:∀(H1:Hp) (v:V) (b:vf) (Q:VK),zr H H1->b∈bs->(∃a p q,v = .ref a/\H1 a=some (.tup [.ref p,.ref q,.int b.wt])/\zu H1 p b.pl/\zu H1 q b.sp)->Q (.bl true) H1->sp [v] H1 Q E0)
  (k:∀D H',zr H H'->H' D=some (.lst ((List.replicate bs.length true).map V.bl))->Q (.ref D) H') :
  Vx 1 (zaV K (zZ j)) (zA 0) (λ_ H Q=>Q true H) (jt sp [] E0 (xr (zZ 0) jh)) σ H Q:=by
 refine⟨_,hσ,r,rfl,⟨_,SqT.of hr⟩,λD hD=>?_⟩
 have hl:=hB.length
 refine jT (J:=Itt K r) (g:=zA 0) (tt:=λ_ H Q=>Q true H) (te:=jt sp [] E0 (xr (zZ 0) jh)) (Q:=Q) (N:=us.length) (n:=1) (λi H2 ys=>zr H H2/\ys=(List.replicate i true).map V.bl) ⟨zr.upd hD,rfl⟩ (λi H2 ys hi ⟨s2,_⟩=>?_) (λH2 ys ⟨s2,_⟩=>?_) ?_ ?_
 ·exact⟨us,us[i],.of (s2 _ _ hr),List.getElem?_eq_getElem hi⟩
 ·exact⟨us,.of (s2 _ _ hr),Nat.le_refl _⟩
 ·rintro i x zs H2 H3 ys Nx hNx hi hzs ⟨rfl,f1⟩ ⟨s2,rfl⟩ hD2
  obtain⟨z1,rfl⟩:=ln1 hzs
  obtain⟨a,p,q,b,eb,rfl,ha,hp,hq⟩:=hB.get (f1 us (.of (s2 _ _ hr)))
  dsimp only[zA]
  try rw[if_pos rfl]
  refine⟨_,rfl,?_⟩
  refine hsp H3 (.ref a) b _ s2 (List.mem_of_getElem? eb) ⟨a,p,q,rfl,s2 _ _ ha,hp.same s2,hq.same s2⟩ ?_
  refine⟨hD2,?_,hNx _ _ ⟨XE hD s2 (zr.refl _),?_⟩⟩
  ·rw[List.length_map,List.length_replicate];exact jG (by omega)
  ·rw[List.replicate_succ',List.map_append];rfl
 ·rintro H2 ys ⟨s2,rfl⟩ hD2
  rw[hl]at hD2
  exact k D H2 s2 hD2
theorem Jh (n:Nat):(List.replicate n true).all id=true:=by simp
def evB (b0:vf) (bs:List vf):Bool:=bs.all λb=>decide (b.wt=b0.wt)
def zY:Wl->Bool
 | none=>true
 | some (_,y)=>decide (y=0)
theorem zbi {X:Cx}{K:PySem.W.Frag}(hK:X.K=K) (hu:X.A.units+64<cLine):OpR X (compareOp .Eq) (zbm K):=by subst hK;exact zc6 hu
theorem zaz (i j:Int):decide (V.int i=V.int j)=decide (i=j):=by
 rw[Bool.eq_iff_iff,decide_eq_true_eq,decide_eq_true_eq]
 exact⟨λz=>by injection z,λz=>by rw[z]⟩
theorem VM {σ:St}{H:Hp}{Q:VK}{r:Addr}{us:List V}{bs:List vf}{b0:vf}(hσ:σ[0]? = some (some (.ref r))) (hr:H r=some (.tup us)) (hB:xa H us bs) (h0:bs[0]? = some b0) (hlen:bs.length<=8)
  (k:∀D H',zr H H'->H' D=some (.lst ((bs.map λb=>decide (b.wt=b0.wt)).map V.bl))->Q (.ref D) H') :
  XO 1 [0] (zaV K (zZ 0)) (zA 0) (λ_ H Q=>Q true H) (tOp rEq (tOp (vt K) (zZ 0) (tC (.int 2))) (tOp (vt K) (tOp (vt K) (zZ 1) (tC (.int 0))) (tC (.int 2)))) σ H Q:=by
 have hcap:vz σ [0]=[some (.ref r)]:=by simp[vz,hσ]
 refine⟨_,hσ,r,rfl,⟨_,SqT.of hr⟩,λD hD=>?_⟩
 have hl:=hB.length
 have hu0:0<us.length:=by rw[hl];exact(List.getElem?_eq_some_iff.mp h0).1
 obtain⟨a0,p0,q0,b0',e0,f0,ha0,_,_⟩:=hB.get (i:=0) (List.getElem?_eq_getElem hu0)
 rw[h0]at e0;cases e0
 refine ZE (J:=Itt K r) (g:=zA 0) (tt:=λ_ H Q=>Q true H) (te:=tOp rEq (tOp (vt K) (zZ 0) (tC (.int 2))) (tOp (vt K) (tOp (vt K) (zZ 1) (tC (.int 0))) (tC (.int 2)))) (Q:=Q) (N:=us.length) (n:=1)
  (λi H2 ys=>zr H H2/\ys=((bs.map λb=>decide (b.wt=b0.wt)).map V.bl).take i) ⟨zr.upd hD,rfl⟩ (λi H2 ys hi ⟨s2,_⟩=>?_) (λH2 ys ⟨s2,_⟩=>?_) ?_ ?_
 ·exact⟨us,us[i],.of (s2 _ _ hr),List.getElem?_eq_getElem hi⟩
 ·exact⟨us,.of (s2 _ _ hr),Nat.le_refl _⟩
 ·rintro i x zs H2 H3 ys Nx hNx hi hzs ⟨rfl,f1⟩ ⟨s2,rfl⟩ hD2
  obtain⟨z1,rfl⟩:=ln1 hzs
  obtain⟨a,p,q,b,eb,rfl,ha,hp,hq⟩:=hB.get (f1 us (.of (s2 _ _ hr)))
  rw[hcap]
  dsimp only[zA]
  refine⟨rfl,?_⟩
  rw[if_pos rfl]
  refine⟨_,rfl,a,_,_,_,rfl,rfl,.of (s2 _ _ ha),rfl,_,rfl,r,_,_,_,rfl,rfl,.of (s2 _ _ hr),(by rw[<-f0];exact vX (j:=0) (List.getElem?_eq_getElem hu0)),a0,_,_,_,rfl,rfl,.of (s2 _ _ ha0),rfl,rfl,?_⟩
  refine⟨hD2,?_,hNx _ _ ⟨XE hD s2 (zr.refl _),?_⟩⟩
  ·rw[List.length_take];exact jG (by omega)
  ·rw[Vz (x:=V.bl (decide (b.wt=b0.wt))) (by rw[List.getElem?_map,List.getElem?_map,eb];rfl)]
   show _++[V.bl (decide (V.int b.wt=V.int b0.wt))]=_
   rw[zaz]
 ·rintro H2 ys ⟨s2,rfl⟩ hD2
  rw[List.take_of_length_le (by rw[List.length_map,List.length_map,hl];exact Nat.le_refl _)]at hD2
  exact k D H2 s2 hD2
def zef:Sp:=λvs H Q _=>∃r us bs b0,vs=[.ref r]/\H r=some (.tup us)/\xa H us bs/\bs[0]? = some b0/\bs.length<=8/\∀H',zr H H'->Q (.bl (evB b0 bs)) H'
theorem zbp:zB ["row"] ["row"] (zh qT):=⟨rfl,rfl,rfl,by decide +kernel,rfl,by decide +kernel,by decide +kernel⟩
def zek:Sp:=λvs H Q _=>∃r us bs,vs=[.ref r]/\H r=some (.tup us)/\xa H us bs/\0<bs.length/\bs.length<=8/\∀H',zr H H'->Q (.bl true) H'
theorem zah:zB ["thing"] ["thing"] (zh xM):=⟨rfl,rfl,rfl,by decide +kernel,rfl,by decide +kernel,by decide +kernel⟩
theorem JU (D:Df K mg "is_row_form" xM ["thing"] []) (T:TxB K mg) (T3:Tx3 K mg aN) (cBf:Cal P w K mg base "is_ball_form" 3 ["thing"] [] zed):Cal P w K mg base "is_row_form" 4 ["thing"] [] zek:=by
 refine D.cal (k:=3) zah (λvs H Q E h=>by obtain⟨_,_,_,rfl,_⟩:=h;rfl) (λf cdv A outer s H vs Q E hr3 h=>?_)
 obtain⟨r,us,bs,rfl,hrr,hB,h0,hlen,k⟩:=h
 have hl:=hB.length
 refine⟨_,(zn (zD (qb (zH vC (by rfl) T.nIs PyProof.Rows.boot_isinstance (za (pv 0) (za (j1 (v:=.ty "tuple") (u:=.type "tuple") (by rfl) T.nTuple PyProof.Rows.boot_tuple rfl) ze))) (qb (qQ jZ (zH zN (by rfl) T.nLen PySem.boot_len (za (pv 0) ze)) zd (zF _)) (vo (zH (ZD rfl) (by rfl) T3.nAll (by decide +kernel) (za (vD (NB:=["ball"]) rfl (by decide +kernel) (by decide +kernel) rfl (by decide +kernel) (vH (pv 0)) (by intro _ _ _;refine⟨?_,?_,?_⟩;(exact(zG (i:=0) (show List.Nodup (["ball"]:List Str) by decide +kernel) rfl (Or.inl rfl)));(exact xI);(exact(zw cBf hr3 (za (pv 0) ze))))) ze))))))),?_⟩
 refine⟨_,rfl,_,_,_,true,rfl,.tup hrr,T3.tt,true,rfl,xk ?_⟩
 refine⟨_,rfl,r,_,rfl,.inr (SqT.of hrr),_,_,rfl,rfl,_,rfl,?_⟩
 rw[show decide ((0:Int)<((us.length:Nat):Int))=true from decide_eq_true (by omega)]
 refine xk ?_
 unfold tCB xr
 refine Qz (K:=K) (j:=0) rfl hrr hB hlen (λH1 v b Q e mb ⟨a,p,q,e1,e2,e3,e4⟩ q'=>?_) λDD H2 e2 hD=>⟨DD,_,rfl,SqL.of hD,?_⟩
 ·subst e1
  exact⟨a,p,q,b.pl,b.sp,b.wt,rfl,e2,e3,e4,q'⟩
 ·rw[Jh]
  exact k H2 e2
theorem zdK (D:Df K mg "is_even" qT ["row"] []) (T:TxB K mg) (T3:Tx3 K mg aN) (cRf:Cal P w K mg base "is_row_form" 4 ["thing"] [] zek):Cal P w K mg base "is_even" 5 ["row"] [] zef:=by
 refine D.cal (k:=4) zbp (λvs H Q E h=>by obtain⟨_,_,_,_,rfl,_⟩:=h;rfl) (λf cdv A outer s H vs Q E hr4 h=>?_)
 obtain⟨r,us,bs,b0,rfl,hrr,hB,h0,hlen,k⟩:=h
 have hb0:0<bs.length:=(List.getElem?_eq_some_iff.mp h0).1
 refine⟨_,(zn (zD (qb (zw cRf hr4 (za (pv 0) ze)) (vo (zH (ZD rfl) (by rfl) T3.nAll (by decide +kernel) (za (vn (NB:=["ball"]) (FR:=["row"]) (js:=[0]) rfl rfl (λ_ _ h=>h) (.cons rfl rfl rfl ⟨_,rfl⟩ .nil) rfl (by decide +kernel) rfl (by decide +kernel) (vH (pv 0)) (by intro _ _ _;refine⟨?_,?_,?_⟩;(exact(zG (i:=0) (show List.Nodup (["ball","row"]:List Str) by decide +kernel) rfl (Or.inl rfl)));(exact xI);(exact(qQ qN (zo (xY (K:=K) rfl) (pv 0) zd (λ_ _=>rfl)) (zo (xY (K:=K) rfl) (zo (xY (K:=K) rfl) (pv 1) zd (λ_ _=>rfl)) zd (λ_ _=>rfl)) (zF _))))) ze)))))),?_⟩
 refine⟨_,rfl,r,us,bs,rfl,hrr,hB,hb0,hlen,λH2 e2=>⟨true,rfl,xk ?_⟩⟩
 unfold tCB xr
 refine VM (K:=K) rfl (e2 _ _ hrr) (hB.same e2) h0 hlen λD3 H3 e3 hD3=>⟨D3,_,rfl,SqL.of hD3,?_⟩
 rw[all_map];exact k H3 (e2.trans e3)
theorem QA {σ:St}{H:Hp}{Q:VK}{r:Addr}{v1 v2:V}{l1 l2:Wl}(hN:Je K aN 0 1) (hσ:σ[0]? = some (some (.ref r))) (hr:H r=some (.tup [v1,v2])) (h1:xG H v1 l1) (h2:xG H v2 l2)
  (k:∀D H',zr H H'->H' D=some (.lst ([zY l1,zY l2].map V.bl))->Q (.ref D) H') :
  Vx 1 (zaV K (zZ 0)) (zA 0) (λ_ H Q=>Q true H) (zdu (tOp (λx y H Q=>y = .non/\Q (.bl (decide (x = .non))) H) (zZ 0) (tC .non)) (tOp (zbm K) (tOp (vt K) (zZ 0) (tC (.int 1))) (tC (.ref aN)))) σ H Q:=by
 refine⟨_,hσ,r,rfl,⟨_,SqT.of hr⟩,λD hD=>?_⟩
 refine jT (J:=Itt K r) (g:=zA 0) (tt:=λ_ H Q=>Q true H) (te:=zdu (tOp (λx y H Q=>y = .non/\Q (.bl (decide (x = .non))) H) (zZ 0) (tC .non)) (tOp (zbm K) (tOp (vt K) (zZ 0) (tC (.int 1))) (tC (.ref aN)))) (Q:=Q) (N:=2) (n:=1)
  (λi H2 ys=>zr H H2/\ys=([zY l1,zY l2].map V.bl).take i) ⟨zr.upd hD,rfl⟩ (λi H2 ys hi ⟨s2,_⟩=>?_) (λH2 ys ⟨s2,_⟩=>?_) ?_ ?_
 ·exact⟨_,[v1,v2][i],.of (s2 _ _ hr),List.getElem?_eq_getElem hi⟩
 ·exact⟨_,.of (s2 _ _ hr),Nat.le_refl _⟩
 ·rintro i x zs H2 H3 ys Nx hNx hi hzs ⟨rfl,f1⟩ ⟨s2,rfl⟩ hD2
  obtain⟨z1,rfl⟩:=ln1 hzs
  have g1:=f1 _ (.of (s2 _ _ hr))
  obtain⟨l,hl,el⟩:∃l,xG H3 x l/\([zY l1,zY l2].map V.bl)[i]? = some (.bl (zY l)):=by
   match i,hi with
   | 0,_=>simp at g1;subst g1;exact⟨l1,h1.same s2,rfl⟩
   | 1,_=>simp at g1;subst g1;exact⟨l2,h2.same s2,rfl⟩
  dsimp only[zA]
  try rw[if_pos rfl]
  have fin:H3 D=some (.lst (([zY l1,zY l2].map V.bl).take i))/\(([zY l1,zY l2].map V.bl).take i).length<sizeLine/\Nx (upd H3 D (.lst (([zY l1,zY l2].map V.bl).take i++[.bl (zY l)]))) (([zY l1,zY l2].map V.bl).take i++[.bl (zY l)]):=by
   refine⟨hD2,?_,hNx _ _ ⟨XE hD s2 (zr.refl _),?_⟩⟩
   ·rw[List.length_take];exact jG (by omega)
   ·rw[Vz el]
  cases l with
  | none =>
   obtain rfl:x = .non:=hl
   exact⟨_,rfl,rfl,true,rfl,xk fin⟩
  | some z =>
   obtain⟨px,py⟩:=z
   obtain⟨a,p,q,rfl,ha,hp,hq⟩:=hl
   refine⟨_,rfl,rfl,false,rfl,xb ⟨_,rfl,a,_,_,_,rfl,rfl,.of ha,rfl,_,aN,0,1,hq.rd,rfl,hN,V9 _,?_⟩⟩
   rw[show PyData.eqv (.tuple [.int py.num,.int (py.den:Int)]) (.tuple [.int 0,.int 1])=zY (some (px,py))from zcr py 0]
   exact fin
 ·rintro H2 ys ⟨s2,rfl⟩ hD2
  exact k D H2 s2 hD2
def zem:Sp:=λvs H Q _=>∃a v1 v2 l1 l2,vs=[.ref a]/\H a=some (.tup [v1,v2])/\xG H v1 l1/\xG H v2 l2/\∀H',zr H H'->Q (.bl (zY l1&&zY l2)) H'
theorem zaj:zB ["walls"] ["walls"] (zh qw):=⟨rfl,rfl,rfl,by decide +kernel,rfl,by decide +kernel,by decide +kernel⟩
theorem zdS (D:Df K mg "is_still" qw ["walls"] []) (T3:Tx3 K mg aN) (cWp:Cal P w K mg base "is_wall_pair" 4 ["thing"] [] zeq):Cal P w K mg base "is_still" 5 ["walls"] [] zem:=by
 refine D.cal (k:=4) zaj (λvs H Q E h=>by obtain⟨_,_,_,_,_,rfl,_⟩:=h;rfl) (λf cdv A outer s H vs Q E hr h=>?_)
 obtain⟨a,v1,v2,l1,l2,rfl,ha,h1,h2,k⟩:=h
 have hu:=hr.units
 refine⟨_,(zn (zD (qb (zw cWp hr (za (pv 0) ze)) (vo (zH (ZD rfl) (by rfl) T3.nAll (by decide +kernel) (za (vD (NB:=["wall"]) rfl (by decide +kernel) (by decide +kernel) rfl (by decide +kernel) (vH (pv 0)) (by intro _ _ _;refine⟨?_,?_,?_⟩;(exact(zG (i:=0) (show List.Nodup (["wall"]:List Str) by decide +kernel) rfl (Or.inl rfl)));(exact xI);(exact(zd1 (qQ vG (pv 0) xo (zF _)) (vo (qQ (zbi (K:=K) rfl hu) (zo (xY (K:=K) rfl) (pv 0) zd (λ_ _=>rfl)) (jB (v:=.ref aN) (by rfl) T3.mn rfl) (zF _))))))) ze)))))),?_⟩
 refine⟨_,rfl,a,v1,v2,l1,l2,rfl,ha,h1,h2,true,rfl,xk ?_⟩
 unfold tCB xr
 refine QA (K:=K) T3.kn rfl ha h1 h2 λDD H2 e2 hD=>⟨DD,_,rfl,SqL.of hD,?_⟩
 rw[show ([zY l1,zY l2].all id)=(zY l1&&zY l2) by simp]
 exact k H2 e2
end
end KK
end
section
set_option maxHeartbeats 8000000
set_option Elab.async false
set_option linter.all false
set_option maxRecDepth 100000
namespace L2
open PySem PySem.Spec PyProof.Rows PySem.W
section
variable {X:Cx}
def zd2 (K:PySem.W.Frag):R2:=λx y H Q=>∃l b xs zs,x = .ref l/\y = .ref b/\SqL K H l xs/\SqL K H b zs/\xs.length+zs.length<=sizeLine/\∀p,H p=none->Q (.ref p) (upd H p (.lst (xs++zs)))
theorem zbg:OpR X (binaryOp .Add) (zd2 X.K):=by
 intro pins s σ H x y v u Q I rx ry h
 obtain⟨l,b,xs,zs,rfl,rfl,hH,hB,hz,q⟩:=h
 cases rx
 cases ry
 obtain⟨its,r,pl,z⟩:=I.list hH
 obtain⟨its2,r2,pl2,z2⟩:=I.list hB
 have e1:=r.length
 have e2:=r2.length
 obtain⟨⟨cls,dd,data,sl⟩,n,ho,hc,hdn,hd⟩:=pl
 obtain⟨⟨cls2,dd2,data2,sl2⟩,n2,ho2,hc2,hdn2,hd2⟩:=pl2
 simp only at hc hd hc2 hd2
 subst hc hd hc2 hd2
 refine concat_meets ⟨_,ho,rfl⟩ ⟨_,ho2,rfl⟩ noFill_list_add seq_list_add PySem.F.slot_list_add PySem.F.entry_list_add (PySem.F.args_list_add_2 _ _) (list_addW l b its.toArray its2.toArray n n2 dd dd2 sl sl2 (by simp only[List.size_toArray];omega)) ⟨ho,ho2,?_⟩
 have ea:its.toArray++its2.toArray=(its++its2).toArray:=by simp
 rw[ea]
 exact⟨.ref _,_,I.lnew (t':=s.toks) (r.append r2) (by rw[List.length_append];omega),rfl,q _ I.fresh⟩
theorem Xn:∀{cs:List Addr}{us:List Value},zP (cs.map V.ref) us->us=cs.map Value.ref
 | [],_,r=>by cases r;rfl
 | c::cs,_,r=>by
  cases r with
  | cons r1 r2=>rw[Xn r2,show _=Value.ref c from r1];rfl
theorem Xr {a:Addr}{oe:Obj}{C:Addr}{d:Option Addr}{vs:Array Value}(hp:(a,oe)∈X.pn) (hc:oe.cls = .ref C) (hdd:oe.dict=d) (hd:oe.data = .fields vs) (Z:VD X.K C) :
  vg X (.builtin "isinstance") (λxs H Q=>∃(tp:Addr) (cs:List Addr) (b:Bool),xs=[.ref a,.ref tp]/\H tp=some (.tup (cs.map V.ref))/\d=none/\PySem.W.kitAny X.K (.ref C) (cs.map Value.ref)=some b/\Q (.bl b) H):=by
 intro pins s σ H xs us Q I r h
 obtain⟨tp,cs,b,rfl,ht,hx,e,q⟩:=h
 obtain⟨u,w',rfl,r1,r2⟩:=Qp r
 cases(show u=Value.ref a from r1)
 cases(show w'=Value.ref tp from r2)
 have g1:=(I.pin _ (List.mem_append_left _ hp)).1
 have hI:∃od,InstAt s.heap a oe C od:=⟨none,g1,hc,by unfold notCls;rw[hd],by rw[hdd,hx];trivial⟩
 obtain⟨od,hI⟩:=hI
 obtain⟨_,its,rv,⟨cls,dd,data,sl⟩,h1,h2,n,h3⟩:=(show xF X.prog X.w H s.heap tp (.tup (cs.map V.ref))from I.hok tp _ ht)
 simp only at h2 h3
 subst h2 h3
 have ei:=Xn rv
 subst ei
 exact kia_tup (X8 Z) I.kIn ⟨oe,od,hI⟩ h1 e (λz=>nomatch z) λtk=>⟨.bl b,H,I.tok tk,rfl,q⟩
theorem Qw {K:PySem.W.Frag}{a:Addr}{oe:Obj}{C:Addr}{d:Option Addr}{vs:Array Value}(hK:X.K=K) (hp:(a,oe)∈X.pn) (hc:oe.cls = .ref C) (hdd:oe.dict=d) (hd:oe.data = .fields vs) (Z:VD K C) :
  vg X (.builtin "isinstance") (λxs H Q=>∃(tp:Addr) (cs:List Addr) (b:Bool),xs=[.ref a,.ref tp]/\H tp=some (.tup (cs.map V.ref))/\d=none/\PySem.W.kitAny K (.ref C) (cs.map Value.ref)=some b/\Q (.bl b) H):=by
 subst hK;exact Xr hp hc hdd hd Z
theorem vY {K:PySem.W.Frag}{a:Addr}{oe:Obj}{C:Addr}{d:Option Addr}{vs:Array Value}(hK:X.K=K) (hp:(a,oe)∈X.pn) (hc:oe.cls = .ref C) (hdd:oe.dict=d) (hd:oe.data = .fields vs) (Z:VD K C) :
  vg X (.builtin "isinstance") (λxs H Q=>∃x c b,xs=[.ref a,x]/\d=none/\xg x c/\(∀u,xg x u->u=c)/\PySem.W.kitOne K (.ref C) c=some b/\Q (.bl b) H):=by
 subst hK
 intro pins s σ H xs us Q I r h
 obtain⟨x,c,b,rfl,hx,rx,ux,e,q⟩:=h
 obtain⟨u,w',rfl,r1,r2⟩:=Qp r
 cases(show u=Value.ref a from r1)
 cases ux _ r2
 have g1:=(I.pin _ (List.mem_append_left _ hp)).1
 have hI:InstAt s.heap a oe C none:=⟨g1,hc,by unfold notCls;rw[hd],by rw[hdd,hx];trivial⟩
 exact PySem.W.kia_one (X8 Z) I.kIn ⟨oe,none,hI⟩ e (λz=>nomatch z) λtk=>⟨.bl b,H,I.tok tk,rfl,q⟩
end
theorem zey {M:Model}{h:Heap}{a:Addr}{o:Obj}{c:Value}(e:h.get? a=some o) (k:o.cls=c):Looks M h (typeOf (.ref a)) c:=by
 subst k;exact(Looks.ld e).andThen .now
section
variable {X:Cx}{i:Nat}{x n:Str}{C:Addr}{np hpos pos:Pos}{body suite:List Stmt}{b₀:Stmt}{tb:XJ->TS}{ts:Addr->Option Addr->TS}
theorem Vp {Dc:Addr}(hst:X.stack=X.env::X.outer) (hfr:X.env.frame=some X.env.locals) (hm:X.mg x=some (.ref Dc)) (hx:exmOne X.K (.ref C) (.ref Dc)=some true) (hN:X.N.Nodup) (hi:X.N[i]? = some n) (hk:X.env.kindOf n=some .local)
  (hb:∀pins W J,QZ (X.tried pins W) J->PSs (X.tried pins W) body (tb J)) (hs:∀pins a oe d vs,oe.cls = .ref C->oe.dict=d->oe.data = .fields vs->PSs (X.suite pins a oe) (b₀::suite) (ts a d))
  (hg:Gl X x:=by rfl) (hd:(x == ("__debug__":Str))=false:=by decide) :
  PS X (.Try body [.ExceptHandler (some (.Name x np)) (some n) (b₀::suite) hpos] [] [] pos) (tTry i C tb ts):=by
 intro pins s σ H D I h
 have hb':=hb pins (λe s₁=>wpAny (model X.prog X.w) X.A (noteFrame e X.env) (λ_ s₂=>wpAny (model X.prog X.w) X.A (setFlight e none) (λ_ s₃ =>
  wpAny (model X.prog X.w) X.A (handleBy e X.env [.ExceptHandler (some (.Name x np)) (some n) (b₀::suite) hpos]) (SP X pins D) X.xe s₃) X.xe s₂) X.xe s₁) _ ?_ [] s σ H D (I.tried _) h
 ·refine wpAny_Try_except (wpAny_mono hb' (λf s1 hf=>?_) λ_ _ z=>z)
  cases f with
  | next=>obtain⟨σ',H',I',q⟩:=hf;exact wpAny_execs_nil ⟨σ',H',I'.untried I.ok,q⟩
  | brk=>obtain⟨σ',H',I',q⟩:=hf;exact⟨σ',H',I'.untried I.ok,q⟩
  | cont=>obtain⟨σ',H',I',q⟩:=hf;exact⟨σ',H',I'.untried I.ok,q⟩
  | ret u=>obtain⟨v,σ',H',I',r,q⟩:=hf;exact⟨v,σ',H',I'.untried I.ok,r,q⟩
 ·intro pins' σ' H1 s1 a C' H' s' B a0 dct I1 F hq
  obtain⟨rfl,q⟩:=hq
  have I1:=I1.untried I.ok
  have hfrm:X.A.frames=some (X.env::X.outer):=by rw[<-hst];exact I.ok.frames
  have F:Fly X.prog X.w X.stack H1 s1 C' H' a s' B a0 dct:=F
  have Ffl:FlX B (X.env::X.outer) a (.ref C') a0 dct s'.heap:=by rw[<-hst];exact F.fly
  refine Vm hfrm hfr Ffl λh4 held up4=>?_
  refine Zt held λh5 fl5 up5=>?_
  have F5:=F.move (by rw[hst];exact fl5) (up4.trans up5)
  have I5:=I1.call' F5.os F5.un F5.hok F5.bare (λb z=>absurd z (by simp))
  obtain⟨ob,hob,hobc⟩:=fl5.there
  refine wpAny_handleBy_cons (codeAny_handlers_test (jy (X:=X.testing a) (I5.test a) hg hm ?_ hd)) (by intro q;cases q)
  obtain⟨hh,g,d,tk,os⟩:=s'
  refine(exm_one (M:=model X.prog X.w) I5.kIn (zey hob hobc) hx).here (codeAny_handlers_suite_as ?_)
  refine Zt fl5.held λh6 fl6 up6=>?_
  have F6:=F5.move (by rw[hst];exact fl6) up6
  have I6:=I1.call' F6.os F6.un F6.hok F6.bare (λb z=>absurd z (by simp))
  obtain⟨oe,ws,hoe,hoec,hoet,hoed⟩:=fl6.first
  refine jr (X:=X.suite pins a oe) (I6.suite hoe hoed F6.untracked) hN hi (.inl hk) (v:=.ref a) rfl (λs7 I7=>?_) (.inr hk)
  refine wpAny_mono (hs pins a oe dct ws hoec hoet hoed [] s7 _ H' (D.gone i) I7 (q a F6.untracked)) (λf s8 hf=>?_) λ_ _ z=>z.elim
  cases f with
  | next=>obtain⟨σ8,H8,I8,q8⟩:=hf;exact Zs (I8.unsuite I.ok) hN hi hk λs9 I9=>⟨_,_,I9,q8⟩
  | brk=>obtain⟨σ8,H8,I8,q8⟩:=hf;exact Zs (I8.unsuite I.ok) hN hi hk λs9 I9=>⟨_,_,I9,q8⟩
  | cont=>obtain⟨σ8,H8,I8,q8⟩:=hf;exact Zs (I8.unsuite I.ok) hN hi hk λs9 I9=>⟨_,_,I9,q8⟩
  | ret u=>obtain⟨v,σ8,H8,I8,r8,q8⟩:=hf;exact Zs (I8.unsuite I.ok) hN hi hk λs9 I9=>⟨_,_,_,I9,r8,q8⟩
end
end L2
end
section
set_option maxHeartbeats 8000000
set_option Elab.async false
set_option linter.all false
set_option maxRecDepth 100000
namespace L2
open PySem
theorem XN {D:vV}{σ:St}{H:Hp}(h:D.nx σ H):zce D σ H:=h
theorem vw {t u:TS}{D:vV}{σ:St}{H:Hp}(R:St->Hp->Prop) (h2:∀σ' H',R σ' H'->u D σ' H') (h1:∀nx:St->Hp->Prop,(∀σ' H',R σ' H'->nx σ' H')->t { D with nx:=nx } σ H):Jb t u D σ H:=h1 (u D) h2
end L2
namespace KK
open PySem L2 KM
def lv:Option Int->V
 | none=>.non
 | some l=>.int l
def f1:Option Int->Option Int->Int->Int->Int×Int
 | some l,some h,s,v=>(l+(s - l) % (2*(h - l)),v)
 | some l,none,s,v=>if s<l then(2*l - s,-v)else(s,v)
 | none,_,s,v=>(s,v)
def f2:Option Int->Int×Int->Int×Int
 | some h,p=>if h<p.1 then(2*h - p.1,-p.2)else p
 | none,p=>p
def zaH (i:Int):Int:=if i<0 then -i else i
def f3:Option Int->Int×Int->Int×Int
 | some l,p=>if p.1=l then(p.1,zaH p.2)else p
 | none,p=>p
def f4:Option Int->Int×Int->Int×Int
 | some h,p=>if p.1=h then(p.1,-zaH p.2)else p
 | none,p=>p
def jj (lo hi:Option Int) (s v:Int):Int×Int:=f4 hi (f3 lo (f2 hi (f1 lo hi s v)))
def wsc (w:Option (Int×Int)) (b:Int):Option Int:=w.map λt=>t.1*b
def Wb (w:Option (Int×Int)):Prop:=∀t,w=some t->Bd 2000 t.1
section
variable {P:Program}{w:World}{K:PySem.W.Frag}{mg:Str->Option Value}{base:Heap}{C:Addr}
theorem zbL {H:Hp}{v:V}{w:Option (Int×Int)} (h:Xq H v w):(w=none/\v = .non)\/∃t a,w=some t/\v = .ref a/\H a=some (.tup [.int t.1,.int t.2]):=by
 cases w with
 | none=>exact .inl ⟨rfl,h⟩
 | some t=>obtain⟨a,e,h⟩:=h;exact .inr ⟨t,a,rfl,e,h⟩
theorem VC.same {H H':Hp}{c:Addr}{pb sb:Int}{tk:Rat}{ws:List Int}{trs:List (Int×Int)}{lo hi:Option (Int×Int)} (h:VC H C c pb sb tk ws trs lo hi) (e:zr H H'):VC H' C c pb sb tk ws trs lo hi:=by
 obtain⟨dx,fs,h1,F⟩:=h
 obtain⟨tp,t1,t2⟩:=F.tick
 obtain⟨wl,w1,w2⟩:=F.weights
 obtain⟨tl,tv,r1,r2,r3⟩:=F.tracks
 obtain⟨v,l1,l2⟩:=F.low
 obtain⟨u,g1,g2⟩:=F.high
 exact⟨dx,fs,e _ _ h1,F.pb,F.sb,⟨tp,t1,e _ _ t2⟩,⟨wl,w1,e _ _ w2⟩,⟨tl,tv,r1,e _ _ r2,r3.keeps (.of e)⟩,⟨v,l1,l2.keeps (.of e)⟩,⟨u,g1,g2.keeps (.of e)⟩,F.len⟩
def zan (C:Addr):Sp:=λvs H Q _=>∃c a t pb sb tk ws trs lo hi x v top bot,vs=[.ref c,.ref a,.ref t]/\VC H C c pb sb tk ws trs lo hi/\H a=some (.tup [.int x,.int v])/\H t=some (.tup [.int top,.int bot]) ∧
 Bd 2000 x/\Bd 2000 v/\Bd 2000 top/\Bd 2000 bot/\0<bot/\Wb lo/\Wb hi/\(∀l h,lo=some l->hi=some h->l.1<h.1) ∧
 ∀r H',zr H H'->H' r=some (.tup [.int (jj (wsc lo bot) (wsc hi bot) (x*bot+v*top) v).1,.int (jj (wsc lo bot) (wsc hi bot) (x*bot+v*top) v).2])->Q (.ref r) H'
theorem qL:zB ["course","track","ticks","top","bottom","spot","speed","low","high"] ["course","track","ticks"] (zh va):=⟨rfl,rfl,rfl,by decide +kernel,rfl,by decide +kernel,by decide +kernel⟩
theorem b2k {i:Int}(h:Bd 2000 i):Bd 1000000 i:=h.mono (by decide)
theorem b2i:Bd 1000000 (2:Int):=Bd.mono (m:=2) (show (2:Int).natAbs<2^2 by decide) (by decide)
theorem zcP (D:Df K mg "line_at" va ["course","track","ticks"] []) (T:TxB K mg) (TC:TCo K C):Cal P w K mg base "line_at" 1 ["course","track","ticks"] [] (zan C):=by
 refine D.cal (k:=0) qL (λvs H Q E h=>by obtain⟨_,_,_,_,_,_,_,_,_,_,_,_,_,_,rfl,_⟩:=h;rfl) (λf cdv A outer s H vs Q E hr h=>?_)
 obtain⟨c,a,t,pb,sb,tk,ws,trs,lo,hi,x,v,top,bot,rfl,hco,ha,ht,bx,bv,btp,bbt,pbt,wl,wh,hlh,k⟩:=h
 obtain⟨dx,fs,hc,F⟩:=id hco
 obtain⟨vl,el,tl⟩:=F.low
 obtain⟨vh,eh,th⟩:=F.high
 refine⟨_,(zi (ja (pv 2) (jk rfl (zM (zG (i:=3) qL.nd rfl (Or.inl rfl)) (zM (zG (i:=4) qL.nd rfl (Or.inl rfl)) xZ))))
  (zi (zE (i:=5) qL.nd rfl (Or.inl rfl) (zt z8 (zt zJ (zo zm (pv 1) zd (λ_ _=>rfl)) (pv 4)) (zt zJ (zo zm (pv 1) zd (λ_ _=>rfl)) (pv 3))))
  (zi (zE (i:=6) qL.nd rfl (Or.inl rfl) (zo zm (pv 1) zd (λ_ _=>rfl)))
  (zi (zE (i:=7) qL.nd rfl (Or.inl rfl) (j2 (zC vG (qK (pv 0) rfl) xo (zF _)) xo (zt zJ (zo zm (qK (pv 0) rfl) zd (λ_ _=>rfl)) (pv 4))))
  (zi (zE (i:=8) qL.nd rfl (Or.inl rfl) (j2 (zC vG (qK (pv 0) rfl) xo (zF _)) xo (zt zJ (zo zm (qK (pv 0) rfl) zd (λ_ _=>rfl)) (pv 4))))
  (zi (zR ((vq (zC v7 (pv 7) xo (zF _)) (qk (zC v7 (pv 8) xo (zF _))))).pt (zn (zE (i:=5) qL.nd rfl (Or.inl rfl) (zt z8 (pv 7) (zt vk (zt xH (pv 5) (pv 7)) (zt zJ zd (zt xH (pv 8) (pv 7))))))) (zn (zR ((vq (zC v7 (pv 7) xo (zF _)) (qk (zC jg (pv 5) (pv 7) (zF _))))).pt (zn (Zc (i:=5) (j:=6) rfl qL.nd rfl rfl (by decide) rfl rfl (za (zt xH (zt zJ zd (pv 7)) (pv 5)) (za (vO qI (pv 6)) ze)) (by rfl))) zI)))
  (zi (zR ((vq (zC v7 (pv 8) xo (zF _)) (qk (zC jZ (pv 5) (pv 8) (zF _))))).pt (zn (Zc (i:=5) (j:=6) rfl qL.nd rfl rfl (by decide) rfl rfl (za (zt xH (zt zJ zd (pv 8)) (pv 5)) (za (vO qI (pv 6)) ze)) (by rfl))) zI)
  (zi (zR ((vq (zC v7 (pv 7) xo (zF _)) (qk (zC qN (pv 5) (pv 7) (zF _))))).pt (zn (zE (i:=6) qL.nd rfl (Or.inl rfl) (zH vi (by rfl) T.nAbs PyProof.Rows.boot_abs (za (pv 6) ze)))) zI)
  (zi (zR ((vq (zC v7 (pv 8) xo (zF _)) (qk (zC qN (pv 5) (pv 8) (zF _))))).pt (zn (zE (i:=6) qL.nd rfl (Or.inl rfl) (vO qI (zH vi (by rfl) T.nAbs PyProof.Rows.boot_abs (za (pv 6) ze))))) zI)
  (zn (zD (zL (za (pv 5) (za (pv 6) ze)))))))))))))),?_⟩
 refine⟨_,rfl,t,_,rfl,.of ht,rfl,_,_,rfl,_,_,rfl,rfl,?_⟩
 dsimp only[zA]
 refine⟨_,rfl,a,_,_,_,rfl,rfl,.of ha,at0 ..,_,rfl,_,_,rfl,rfl,⟨b2k bx,b2k bbt⟩,_,rfl,a,_,_,_,rfl,rfl,.of ha,at1 ..,_,rfl,_,_,rfl,rfl,⟨b2k bv,b2k btp⟩,_,_,rfl,rfl,?_⟩
 dsimp only[zA]
 refine⟨_,rfl,a,_,_,_,rfl,rfl,.of ha,at1 ..,?_⟩
 dsimp only[zA]
 have bs0:Bd 4001 (x*bot+v*top):=((bx.mul bbt).add (bv.mul btp)).mono (by decide)
 generalize x*bot+v*top=s0 at *
 refine vw (λσ' G=>H=G/\σ'=[some (.ref c),some (.ref a),some (.ref t),some (.int top),some (.int bot),some (.int s0),some (.int v),some (lv (wsc lo bot)),none]) ?_ ?_
 rotate_left
 ·intro nx hnx
  rcases zbL tl with⟨rfl,rfl⟩ | ⟨l,al,rfl,rfl,hal⟩
  ·exact⟨_,rfl,c,C,dx,fs,_,rfl,hc,TC.cls,TC.low,el,rfl,_,rfl,xk (hnx _ _ ⟨rfl,rfl⟩)⟩
  ·exact⟨_,rfl,c,C,dx,fs,_,rfl,hc,TC.cls,TC.low,el,rfl,_,rfl,xb ⟨_,rfl,c,C,dx,fs,_,rfl,hc,TC.cls,TC.low,el,al,_,_,_,rfl,rfl,.of hal,at0 ..,_,rfl,_,_,rfl,rfl,⟨b2k (wl _ rfl),b2k bbt⟩,hnx _ _ ⟨rfl,rfl⟩⟩⟩
 rintro σ1 G ⟨rfl,rfl⟩
 refine vw (λσ' G=>H=G/\σ'=[some (.ref c),some (.ref a),some (.ref t),some (.int top),some (.int bot),some (.int s0),some (.int v),some (lv (wsc lo bot)),some (lv (wsc hi bot))]) ?_ ?_
 rotate_left
 ·intro nx hnx
  rcases zbL th with⟨rfl,rfl⟩ | ⟨l,al,rfl,rfl,hal⟩
  ·exact⟨_,rfl,c,C,dx,fs,_,rfl,hc,TC.cls,TC.high,eh,rfl,_,rfl,xk (hnx _ _ ⟨rfl,rfl⟩)⟩
  ·exact⟨_,rfl,c,C,dx,fs,_,rfl,hc,TC.cls,TC.high,eh,rfl,_,rfl,xb ⟨_,rfl,c,C,dx,fs,_,rfl,hc,TC.cls,TC.high,eh,al,_,_,_,rfl,rfl,.of hal,at0 ..,_,rfl,_,_,rfl,rfl,⟨b2k (wh _ rfl),b2k bbt⟩,hnx _ _ ⟨rfl,rfl⟩⟩⟩
 rintro σ1 G ⟨rfl,rfl⟩
 have bL:∀l,wsc lo bot=some l->Bd 4000 l:=λl e=>by
  cases lo with
  | none=>cases e
  | some z=>cases e;exact(wl _ rfl).mul bbt
 have bH:∀l,wsc hi bot=some l->Bd 4000 l:=λl e=>by
  cases hi with
  | none=>cases e
  | some z=>cases e;exact(wh _ rfl).mul bbt
 have hLH:∀l h,wsc lo bot=some l->wsc hi bot=some h->l<h:=λl h e1 e2=>by
  cases lo with
  | none=>cases e1
  | some z =>
   cases hi with
   | none=>cases e2
   | some y=>cases e1;cases e2;exact Int.mul_lt_mul_of_pos_right (hlh _ _ rfl rfl) pbt
 generalize wsc lo bot=L at *
 generalize wsc hi bot=R at *
 have b4:∀{i:Int},Bd 4000 i->Bd 1000000 i:=λh=>h.mono (by decide)
 refine vw (λσ' G=>H=G/\σ'=[some (.ref c),some (.ref a),some (.ref t),some (.int top),some (.int bot),some (.int (f1 L R s0 v).1),some (.int (f1 L R s0 v).2),some (lv L),some (lv R)]) ?_ ?_
 rotate_left
 ·intro nx hnx
  cases L with
  | none=>exact⟨_,rfl,rfl,_,rfl,xb (xb ⟨_,rfl,rfl,_,rfl,xb (xb (hnx _ _ ⟨rfl,rfl⟩))⟩)⟩
  | some l =>
   cases R with
   | none =>
    refine⟨_,rfl,rfl,_,rfl,xk ⟨_,rfl,rfl,_,rfl,xb ?_⟩⟩
    refine⟨_,rfl,rfl,_,rfl,xk ⟨_,rfl,_,rfl,_,_,rfl,rfl,_,rfl,xQ (λh=>?_) (λh=>?_)⟩⟩
    ·have h':s0<l:=of_decide_eq_true h
     refine⟨_,rfl,_,_,rfl,rfl,⟨b2i,b4 (bL _ rfl)⟩,_,rfl,_,_,rfl,rfl,_,rfl,_,rfl,_,_,rfl,hnx _ _ ⟨rfl,?_⟩⟩
     simp only[f1,if_pos h'] <;> rfl
    ·have h':¬s0<l:=λz=>h (decide_eq_true z)
     refine hnx _ _ ⟨rfl,?_⟩
     simp only[f1,if_neg h'] <;> rfl
   | some h =>
    have hp:0<2*(h - l):=by have:=hLH _ _ rfl rfl;omega
    exact⟨_,rfl,rfl,_,rfl,xk ⟨_,rfl,rfl,_,rfl,xk ⟨_,rfl,_,rfl,_,rfl,_,_,rfl,rfl,_,rfl,_,rfl,_,_,rfl,rfl,_,_,rfl,rfl,⟨b2i,((bH _ rfl).sub (bL _ rfl)).mono (by decide)⟩,_,_,rfl,rfl,hp,_,_,rfl,rfl,hnx _ _ ⟨rfl,rfl⟩⟩⟩⟩
 rintro σ1 G ⟨rfl,rfl⟩
 generalize hp1:f1 L R s0 v=p1 at *
 obtain⟨s1,v1⟩:=p1
 refine vw (λσ' G=>H=G/\σ'=[some (.ref c),some (.ref a),some (.ref t),some (.int top),some (.int bot),some (.int (f2 R (s1,v1)).1),some (.int (f2 R (s1,v1)).2),some (lv L),some (lv R)]) ?_ ?_
 rotate_left
 ·intro nx hnx
  cases R with
  | none=>exact⟨_,rfl,rfl,_,rfl,xb (xb (hnx _ _ ⟨rfl,rfl⟩))⟩
  | some h =>
   refine⟨_,rfl,rfl,_,rfl,xk ⟨_,rfl,_,rfl,_,_,rfl,rfl,_,rfl,xQ (λz=>?_) (λz=>?_)⟩⟩
   ·have h':h<s1:=of_decide_eq_true z
    refine⟨_,rfl,_,_,rfl,rfl,⟨b2i,b4 (bH _ rfl)⟩,_,rfl,_,_,rfl,rfl,_,rfl,_,rfl,_,_,rfl,hnx _ _ ⟨rfl,?_⟩⟩
    simp only[f2,if_pos h'] <;> rfl
   ·have h':¬h<s1:=λy=>z (decide_eq_true y)
    refine hnx _ _ ⟨rfl,?_⟩
    simp only[f2,if_neg h'] <;> rfl
 rintro σ1 G ⟨rfl,rfl⟩
 generalize hp2:f2 R (s1,v1)=p2 at *
 obtain⟨s2,v2⟩:=p2
 refine vw (λσ' G=>H=G/\σ'=[some (.ref c),some (.ref a),some (.ref t),some (.int top),some (.int bot),some (.int (f3 L (s2,v2)).1),some (.int (f3 L (s2,v2)).2),some (lv L),some (lv R)]) ?_ ?_
 rotate_left
 ·intro nx hnx
  cases L with
  | none=>exact⟨_,rfl,rfl,_,rfl,xb (xb (hnx _ _ ⟨rfl,rfl⟩))⟩
  | some l =>
   refine⟨_,rfl,rfl,_,rfl,xk ⟨_,rfl,_,rfl,rfl,_,rfl,xQ (λz=>?_) (λz=>?_)⟩⟩
   ·have h':s2=l:=by have:=of_decide_eq_true z;injection this
    refine⟨_,rfl,_,rfl,hnx _ _ ⟨rfl,?_⟩⟩
    simp only[f3,if_pos h'] <;> rfl
   ·have h':¬s2=l:=λy=>z (decide_eq_true (p:=V.int s2=V.int l) (by rw[y]))
    refine hnx _ _ ⟨rfl,?_⟩
    simp only[f3,if_neg h'] <;> rfl
 rintro σ1 G ⟨rfl,rfl⟩
 generalize hp3:f3 L (s2,v2)=p3 at *
 obtain⟨s3,v3⟩:=p3
 refine vw (λσ' G=>H=G/\σ'=[some (.ref c),some (.ref a),some (.ref t),some (.int top),some (.int bot),some (.int (f4 R (s3,v3)).1),some (.int (f4 R (s3,v3)).2),some (lv L),some (lv R)]) ?_ ?_
 rotate_left
 ·intro nx hnx
  cases R with
  | none=>exact⟨_,rfl,rfl,_,rfl,xb (xb (hnx _ _ ⟨rfl,rfl⟩))⟩
  | some l =>
   refine⟨_,rfl,rfl,_,rfl,xk ⟨_,rfl,_,rfl,rfl,_,rfl,xQ (λz=>?_) (λz=>?_)⟩⟩
   ·have h':s3=l:=by have:=of_decide_eq_true z;injection this
    refine⟨_,rfl,_,rfl,_,rfl,hnx _ _ ⟨rfl,?_⟩⟩
    simp only[f4,if_pos h'] <;> rfl
   ·have h':¬s3=l:=λy=>z (decide_eq_true (p:=V.int s3=V.int l) (by rw[y]))
    refine hnx _ _ ⟨rfl,?_⟩
    simp only[f4,if_neg h'] <;> rfl
 rintro σ1 G ⟨rfl,rfl⟩
 refine⟨_,rfl,_,rfl,by show 2<=sizeLine;decide,λr hr=>k r _ (zr.upd hr) ?_⟩
 unfold jj
 rw[hp1,hp2,hp3]
 exact zj
end
end KK
end
section
set_option maxHeartbeats 8000000
set_option Elab.async false
set_option linter.all false
set_option maxRecDepth 100000
namespace KK
open PySem L2 KM
abbrev Jf (x:Str) (C:Addr) (mg:Str->Option Value) (h:Heap):Prop:=PyProof.Rows.OwnCls x C zay "ValueError.__new__" mg h
end KK
end
section
set_option maxHeartbeats 8000000
set_option Elab.async false
set_option linter.all false
set_option maxRecDepth 100000
namespace L2
open PySem
theorem zbk {X:Cx}{K:PySem.W.Frag}{e:Expr}{ta:TE}{f:Str}{pos:Pos}(hK:X.K=K) (he:PE X e ta) (hb:attributeBase e f X.env (eval e X.env)=eval e X.env):PE X (.Attribute e f pos) (zet K ta f):=by
 subst hK;exact qK he hb
theorem Jr {a b:Str}{m n:Addr}{cs:List (Str×Addr)} (h1:cs.lookup a=some m) (h2:cs.lookup b=some n) (x:Str) (c:Addr) (e:List.lookup x [(a,m),(b,n)]=some c):cs.lookup x=some c:=by
 simp only[List.lookup]at e
 cases q1:(x == a)with
 | true=>rw[q1]at e;cases e;rw[eq_of_beq q1];exact h1
 | false =>
  rw[q1]at e
  cases q2:(x == b)with
  | true=>rw[q2]at e;cases e;rw[eq_of_beq q2];exact h2
  | false=>rw[q2]at e;cases e
theorem XY {a b d:Str}{m n k:Addr}{cs:List (Str×Addr)} (h1:cs.lookup a=some m) (h2:cs.lookup b=some n) (h3:cs.lookup d=some k) (x:Str) (c:Addr) (e:List.lookup x [(a,m),(b,n),(d,k)]=some c):cs.lookup x=some c:=by
 simp only[List.lookup]at e
 cases q1:(x == a)with
 | true=>rw[q1]at e;cases e;rw[eq_of_beq q1];exact h1
 | false =>
  rw[q1]at e
  cases q2:(x == b)with
  | true=>rw[q2]at e;cases e;rw[eq_of_beq q2];exact h2
  | false =>
   rw[q2]at e
   cases q3:(x == d)with
   | true=>rw[q3]at e;cases e;rw[eq_of_beq q3];exact h3
   | false=>rw[q3]at e;cases e
end L2
namespace KK
open PySem L2 KM
section
variable {P:Program}{w:World}{K:PySem.W.Frag}{mg:Str->Option Value}{base:Heap}{C CE:Addr}{aN:Addr}
def zen (C:Addr):Sp:=λvs H Q _=>∃c m pb sb tk ws trs lo hi x,vs=[.ref c,.ref m]/\VC H C c pb sb tk ws trs lo hi/\zu H m x/\Sz2 x tk/\tk≠0/\∀r H',zr H H'->zu H' r (x/tk)->Q (.ref r) H'
theorem zdi:zB ["course","moment"] ["course","moment"] (zh qG):=⟨rfl,rfl,rfl,by decide +kernel,rfl,by decide +kernel,by decide +kernel⟩
theorem zdT (D:Df K mg "ticks_of" qG ["course","moment"] []) (TC:TCo K C) (cO:Cal P w K mg base "over" 3 ["one","other"] [] (xJ (λx y=>Sz2 x y/\y≠0) (· / ·))):Cal P w K mg base "ticks_of" 4 ["course","moment"] [] (zen C):=by
 refine D.cal (k:=3) zdi (λvs H Q E h=>by obtain⟨_,_,_,_,_,_,_,_,_,_,rfl,_⟩:=h;rfl) (λf cdv A outer s H vs Q E hr h=>?_)
 obtain⟨c,m,pb,sb,tk,ws,trs,lo,hi,x,rfl,hco,hm,hz,h0,k⟩:=h
 obtain⟨dx,fs,hc,F⟩:=id hco
 obtain⟨tp,et,ht⟩:=F.tick
 refine⟨_,(zn (zD (zw cO hr (za (pv 1) (za (qK (pv 0) rfl) ze))))),?_⟩
 exact⟨_,rfl,_,rfl,c,C,dx,fs,_,rfl,hc,TC.cls,TC.tick,et,m,tp,x,tk,rfl,hm,ht,⟨hz,h0⟩,k⟩
structure Pl (H:Hp) (r a:Addr) (bs:List vf) (b0:vf) (l1 l2:Wl):Prop where
 row:∃us,H r=some (.tup us)/\xa H us bs
 b0:bs[0]? = some b0
 len:bs.length<=8
 walls:∃v1 v2,H a=some (.tup [v1,v2])/\xG H v1 l1/\xG H v2 l2
def plB (b0:vf) (bs:List vf) (l1 l2:Wl):Bool:=evB b0 bs&&(zY l1&&zY l2)
def zdn:Sp:=λvs H Q _=>∃r a bs b0 l1 l2,vs=[.ref r,.ref a]/\Pl H r a bs b0 l1 l2/\∀H',zr H H'->Q (.bl (plB b0 bs l1 l2)) H'
theorem zag:zB ["row","walls"] ["row","walls"] (zh qu):=⟨rfl,rfl,rfl,by decide +kernel,rfl,by decide +kernel,by decide +kernel⟩
theorem zdN (D:Df K mg "is_plain" qu ["row","walls"] []) (cEv:Cal P w K mg base "is_even" 5 ["row"] [] zef) (cSt:Cal P w K mg base "is_still" 5 ["walls"] [] zem):Cal P w K mg base "is_plain" 6 ["row","walls"] [] zdn:=by
 refine D.cal (k:=5) zag (λvs H Q E h=>by obtain⟨_,_,_,_,_,_,rfl,_⟩:=h;rfl) (λf cdv A outer s H vs Q E hr h=>?_)
 obtain⟨r,a,bs,b0,l1,l2,rfl,pl,k⟩:=h
 obtain⟨us,hrr,hB⟩:=pl.row
 obtain⟨v1,v2,ha,h1,h2⟩:=pl.walls
 refine⟨_,(zn (zD (qb (zw cEv hr (za (pv 0) ze)) (vo (zw cSt hr (za (pv 1) ze)))))),?_⟩
 refine⟨_,rfl,r,us,bs,b0,rfl,hrr,hB,pl.b0,pl.len,λH1 e1=>⟨_,rfl,?_⟩⟩
 cases e:evB b0 bs with
 | false =>
  refine xb ?_
  have:=k H1 e1
  unfold plB at this;rw[e]at this;exact this
 | true =>
  refine xk ⟨_,rfl,a,v1,v2,l1,l2,rfl,e1 _ _ ha,h1.same e1,h2.same e1,λH2 e2=>?_⟩
  have:=k H2 (e1.trans e2)
  unfold plB at this;rw[e]at this;exact this
def zbA:Sp:=λvs H Q _=>∃r a bs b0 l1 l2,vs=[.ref r,.ref a]/\Pl H r a bs b0 l1 l2/\plB b0 bs l1 l2=true/\∀H',zr H H'->Q .non H'
def zcb (C:Addr):Sp:=λvs H _ E=>∃r a bs b0 l1 l2,vs=[.ref r,.ref a]/\Pl H r a bs b0 l1 l2/\plB b0 bs l1 l2=false/\∀H',zr H H'->E (.ref C) none H'
theorem zbU:zB ["row","walls"] ["row","walls"] (zh xi):=⟨rfl,rfl,rfl,by decide +kernel,rfl,by decide +kernel,by decide +kernel⟩
theorem zdQ (D:Df K mg "refuse_uneven" xi ["row","walls"] []) (cPl:Cal P w K mg base "is_plain" 6 ["row","walls"] [] zdn):Cal P w K mg base "refuse_uneven" 7 ["row","walls"] [] zbA:=by
 refine D.cal (k:=6) zbU (λvs H Q E h=>by obtain⟨_,_,_,_,_,_,rfl,_⟩:=h;rfl) (λf cdv A outer s H vs Q E hr h=>?_)
 obtain⟨r,a,bs,b0,l1,l2,rfl,pl,hp,k⟩:=h
 refine⟨_,(zn (zR (vI (xj (zw cPl hr (za (pv 0) (za (pv 1) ze))) λ_=>rfl)) xK zI)),?_⟩
 refine⟨_,rfl,_,rfl,r,a,bs,b0,l1,l2,rfl,pl,λH1 e1=>⟨_,rfl,?_⟩⟩
 rw[hp]
 exact xb (k H1 e1)
theorem zc1 (D:Df K mg "refuse_uneven" xi ["row","walls"] []) (O:Jf "NotEven" CE mg base) (cPl:Cal P w K mg base "is_plain" 6 ["row","walls"] [] zdn):jO P w K mg base "refuse_uneven" 7 ["row","walls"] [] (zcb CE):=by
 refine D.cal1 (k:=6) zbU (λvs H Q E h=>by obtain⟨_,_,_,_,_,_,rfl,_⟩:=h;rfl) (λf cdv A outer s H vs Q E hr h=>?_)
 obtain⟨r,a,bs,b0,l1,l2,rfl,pl,hp,k⟩:=h
 refine⟨_,(zn (zR (vI (xj (zw cPl hr (za (pv 0) (za (pv 1) ze))) λ_=>rfl)) (zn (j4 O PySem.F.excBase_ValueError (by decide +kernel) PySem.F.excBase_ValueError hr.hd qO (za Xz ze))) zI)),?_⟩
 refine⟨_,rfl,_,rfl,r,a,bs,b0,l1,l2,rfl,pl,λH1 e1=>⟨_,rfl,?_⟩⟩
 rw[hp]
 exact xk ⟨by show 1<=sizeLine;decide,k H1 e1⟩
def zdm:Sp:=λvs H Q _=>∃m k:Int,vs=[.int m,.int k]/\0<=k/\k<m/\Q .non H
def zb6 (C:Addr):Sp:=λvs H _ E=>∃m k:Int,vs=[.int m,.int k]/\¬(0<=k/\k<m)/\E (.ref C) none H
theorem zbS:zB ["many","k"] ["many","k"] (zh xf):=⟨rfl,rfl,rfl,by decide +kernel,rfl,by decide +kernel,by decide +kernel⟩
theorem zdM (D:Df K mg "refuse_no_ball" xf ["many","k"] []):Cal P w K mg base "refuse_no_ball" 1 ["many","k"] [] zdm:=by
 refine D.cal (k:=0) zbS (λvs H Q E h=>by obtain⟨_,_,rfl,_⟩:=h;rfl) (λf cdv A outer s H vs Q E hr h=>?_)
 obtain⟨m,k,rfl,h0,h1,q⟩:=h
 refine⟨_,(zn (zR (vI (ZQ Xi jg zd (pv 1) (pv 0))) xK zI)),?_⟩
 refine⟨_,rfl,_,_,rfl,rfl,_,rfl,?_⟩
 rw[decide_eq_true h0]
 refine xk ⟨_,rfl,_,_,rfl,rfl,_,rfl,?_⟩
 rw[decide_eq_true h1]
 exact xb q
theorem zcX (D:Df K mg "refuse_no_ball" xf ["many","k"] []) (O:Jf "NoBall" CE mg base):jO P w K mg base "refuse_no_ball" 1 ["many","k"] [] (zb6 CE):=by
 refine D.cal1 (k:=0) zbS (λvs H Q E h=>by obtain⟨_,_,rfl,_⟩:=h;rfl) (λf cdv A outer s H vs Q E hr h=>?_)
 obtain⟨m,k,rfl,hn,q⟩:=h
 refine⟨_,(zn (zR (vI (ZQ Xi jg zd (pv 1) (pv 0))) (zn (j4 O PySem.F.excBase_ValueError (by decide +kernel) PySem.F.excBase_ValueError hr.hd qO (za Xz ze))) zI)),?_⟩
 refine⟨_,rfl,_,_,rfl,rfl,_,rfl,?_⟩
 by_cases h0:(0:Int)<=k
 ·rw[decide_eq_true h0]
  refine xk ⟨_,rfl,_,_,rfl,rfl,_,rfl,?_⟩
  rw[decide_eq_false λz=>hn ⟨h0,z⟩]
  exact xk ⟨by show 1<=sizeLine;decide,q⟩
 ·rw[decide_eq_false h0]
  exact xb ⟨_,rfl,xk ⟨by show 1<=sizeLine;decide,q⟩⟩
end
end KK
end
section
set_option maxHeartbeats 8000000
set_option Elab.async false
set_option linter.all false
set_option maxRecDepth 100000
namespace KK
open PySem L2 KM
def tb (b:Bl):vf:=⟨b.pl,b.sp,b.wt⟩
def Sm (x:Rat):Prop:=Bd 200 x.num/\Bd 20 (x.den:Int)
theorem Sm.sz {x:Rat}(h:Sm x):Sz 400 x:=⟨h.1.mono (by decide),h.2.mono (by decide)⟩
structure Ln (H:Hp) (r a:Addr) (bs:List Bl) (lo hi:Wl):Prop where
 row:∃us,H r=some (.tup us)/\xz H us bs
 walls:∃v1 v2,H a=some (.tup [v1,v2])/\xG H v1 lo/\xG H v2 hi
 l1:1<=bs.length
 l8:bs.length<=8
theorem Ln.same {H H':Hp}{r a:Addr}{bs:List Bl}{lo hi:Wl}(h:Ln H r a bs lo hi) (e:zr H H'):Ln H' r a bs lo hi:=by
 obtain⟨us,h1,h2⟩:=h.row
 obtain⟨v1,v2,g1,g2,g3⟩:=h.walls
 exact⟨⟨us,e _ _ h1,h2.keeps (.of e)⟩,⟨v1,v2,e _ _ g1,g2.same e,g3.same e⟩,h.l1,h.l8⟩
structure LnZ (bs:List Bl) (lo hi:Wl):Prop where
 sz:∀t∈ths bs lo hi,Sm t.1/\Sm t.2
 lh:∀l h,lo=some l->hi=some h->l.1<h.1
theorem xz.balls {H:Hp}:∀{us:List V}{bs:List Bl},xz H us bs->xa H us (bs.map tb)
 | [],[],_=>.nil
 | [],_::_,h=>by have:=h.1;simp at this
 | _::_,[],h=>by have:=h.1;simp at this
 | u::us,b::bs,h=>by
  obtain⟨c,e,a,p,q,rfl,h1,h2,h3⟩:=h.2 0 u rfl
  simp at e;subst e
  exact .cons (b:=tb b) h1 h2 h3 (xz.balls ⟨by have:=h.1;simpa using this,λi v e=>by simpa using h.2 (i+1) v (by simpa using e)⟩)
theorem xG.wl {H:Hp}{v:V}{l:Wl}(h:xG H v l):ZX H v l:=by
 cases l with
 | none=>exact h
 | some z=>obtain⟨x,y⟩:=z;obtain⟨a,p,q,e1,e2,e3,e4⟩:=h;exact⟨a,e1,p,q,[],e2,e3,e4⟩
theorem Ln.pl {H:Hp}{r a:Addr}{bs:List Bl}{lo hi:Wl}(h:Ln H r a bs lo hi):∃b0,bs[0]? = some b0/\Pl H r a (bs.map tb) (tb b0) lo hi:=by
 obtain⟨us,h1,h2⟩:=h.row
 have l1:=h.l1
 refine⟨bs[0],List.getElem?_eq_getElem l1,⟨us,h1,h2.balls⟩,by rw[List.getElem?_map,List.getElem?_eq_getElem l1];rfl,by rw[List.length_map];exact h.l8,h.walls⟩
theorem zaX {qs:List Rat}(h:∀q∈qs,Bd 20 (q.den:Int)) (hl:qs.length<=20):0<ZZ qs/\Bd 401 (ZZ qs)/\∀q∈qs,(q.den:Int) ∣ ZZ qs:=by
 obtain⟨a1,a2,_,a4⟩:=ZJ (n:=20) (ks:=qs.map λq=>(q.den:Int)) (c:=1) (m:=1) (by decide) (show (1:Int).natAbs<2^1 by decide) (λk hk=>by
  obtain⟨q,hq,rfl⟩:=List.mem_map.mp hk
  exact⟨by have:=q.den_pos;omega,h q hq⟩)
 exact⟨a1,a2.mono (by rw[List.length_map];omega),λq hq=>a4 _ (List.mem_map.mpr ⟨q,hq,rfl⟩)⟩
theorem Jo {x:Rat}{b:Int}(hx:Bd 200 x.num) (hb:0<b) (h:Bd 401 b):Bd 2000 (byB x b):=by
 have d1:0<(x.den:Int):=by have:=x.den_pos;omega
 unfold byB
 have z:Bd 401 (b.fdiv (x.den:Int)):=by
  rw[Int.fdiv_eq_ediv_of_nonneg _ (by omega)]
  exact h.of_le (by have:=Int.ediv_le_self (x.den:Int) (a:=b) (by omega);have:=Int.ediv_nonneg (a:=b) (b:=(x.den:Int)) (by omega) (by omega);omega)
 exact(hx.mul z).mono (by decide)
theorem Jp {x y:Rat}{b:Int}(hb:0<b) (hx:(x.den:Int) ∣ b) (hy:(y.den:Int) ∣ b) (h:x<y):byB x b<byB y b:=by
 have d1:=den_pos x
 have d2:=den_pos y
 obtain⟨k,ek⟩:=hx
 obtain⟨m,em⟩:=hy
 have f1:b.fdiv (x.den:Int)=k:=by rw[Int.fdiv_eq_ediv_of_nonneg _ (by omega),ek];exact Int.mul_ediv_cancel_left _ (by omega)
 have f2:b.fdiv (y.den:Int)=m:=by rw[Int.fdiv_eq_ediv_of_nonneg _ (by omega),em];exact Int.mul_ediv_cancel_left _ (by omega)
 have k0:0<k:=by
  rcases Int.lt_or_le 0 k with h | h
  ·exact h
  ·have:=Int.mul_nonpos_of_nonneg_of_nonpos (a:=(x.den:Int)) (b:=k) (by omega) h;omega
 have m0:0<m:=by
  rcases Int.lt_or_le 0 m with h | h
  ·exact h
  ·have:=Int.mul_nonpos_of_nonneg_of_nonpos (a:=(y.den:Int)) (b:=m) (by omega) h;omega
 unfold byB
 rw[f1,f2]
 have h':=(jV x y).mpr h
 have h2:=Int.mul_lt_mul_of_pos_right h' (Int.mul_pos k0 m0)
 refine Int.lt_of_mul_lt_mul_right (a:=b) ?_ (by omega)
 have e1:x.num*k*b=x.num*(y.den:Int)*(k*m):=by rw[em];simp only[Int.mul_assoc,Int.mul_comm,Int.mul_left_comm]
 have e2:y.num*m*b=y.num*(x.den:Int)*(k*m):=by rw[ek];simp only[Int.mul_assoc,Int.mul_comm,Int.mul_left_comm]
 rw[e1,e2];exact h2
structure LnB (bs:List Bl) (lo hi:Wl) (p s:Int):Prop where
 pb:0<p/\Bd 401 p
 sb:0<s/\Bd 401 s
 tr:∀b∈bs,Bd 2000 (trB p s (b.pl,b.sp)).1/\Bd 2000 (trB p s (b.pl,b.sp)).2
 bl:Wb (lo.map (trB p s))
 bh:Wb (hi.map (trB p s))
 lh:∀l h,lo.map (trB p s)=some l->hi.map (trB p s)=some h->l.1<h.1
 t0:Rat.divInt s p≠0
 tz:Sz 401 (Rat.divInt s p)
theorem XR {bs:List Bl}{lo hi:Wl}{t:Rat×Rat}(e:lo=some t):t∈ths bs lo hi:=by unfold ths;rw[e];simp[ZO]
theorem XQ {bs:List Bl}{lo hi:Wl}{t:Rat×Rat}(e:hi=some t):t∈ths bs lo hi:=by unfold ths;rw[e];simp[ZO]
theorem zaw {bs:List Bl}{lo hi:Wl}{b:Bl}(m:b∈bs):(b.pl,b.sp)∈ths bs lo hi:=by
 unfold ths;exact List.mem_append_left _ (List.mem_map.mpr ⟨b,m,rfl⟩)
theorem LnZ.bd {bs:List Bl}{lo hi:Wl}(h:LnZ bs lo hi) (l8:bs.length<=8):LnB bs lo hi (pbO bs lo hi) (sbO bs lo hi):=by
 have hl:=vE (lo:=lo) (hi:=hi) l8
 obtain⟨p1,p2,p3⟩:=zaX (qs:=(ths bs lo hi).map (·.1)) (λq m=>by obtain⟨t,mt,rfl⟩:=List.mem_map.mp m;exact(h.sz t mt).1.2) (by rw[List.length_map];exact hl)
 obtain⟨s1,s2,s3⟩:=zaX (qs:=(ths bs lo hi).map (·.2)) (λq m=>by obtain⟨t,mt,rfl⟩:=List.mem_map.mp m;exact(h.sz t mt).2.2) (by rw[List.length_map];exact hl)
 have tr:∀t∈ths bs lo hi,Bd 2000 (trB (pbO bs lo hi) (sbO bs lo hi) t).1/\Bd 2000 (trB (pbO bs lo hi) (sbO bs lo hi) t).2:=λt m=>⟨Jo (h.sz t m).1.1 p1 p2,Jo (h.sz t m).2.1 s1 s2⟩
 refine⟨⟨p1,p2⟩,⟨s1,s2⟩,λb m=>tr _ (zaw m),λt e=>?_,λt e=>?_,λl r e1 e2=>?_,?_,.divInt (by show pbO bs lo hi≠0;unfold pbO;omega) s2 p2⟩
 ·cases lo with
  | none=>cases e
  | some z=>cases e;exact(tr z (XR rfl)).1
 ·cases hi with
  | none=>cases e
  | some z=>cases e;exact(tr z (XQ rfl)).1
 ·cases lo with
  | none=>cases e1
  | some z =>
   cases hi with
   | none=>cases e2
   | some y =>
    cases e1;cases e2
    exact Jp p1 (p3 _ (List.mem_map.mpr ⟨z,XR rfl,rfl⟩)) (p3 _ (List.mem_map.mpr ⟨y,XQ rfl,rfl⟩)) (h.lh _ _ rfl rfl)
 ·intro z
  have h1:0<sbO bs lo hi:=s1
  have h2:0<pbO bs lo hi:=p1
  rw[show (0:Rat)=Rat.divInt 0 1 by rfl,Rat.divInt_eq_divInt_iff (by omega) (by decide)]at z
  omega
end KK
end
section
set_option maxHeartbeats 8000000
set_option Elab.async false
set_option linter.all false
set_option maxRecDepth 100000
namespace KK
open PySem L2 KM
def vj (bs:List Bl) (lo hi:Wl) (x:Rat):List (Int×Int) :=
 let p:=pbO bs lo hi;let s:=sbO bs lo hi;let k:=x/Rat.divInt s p
 bs.map λb=>jj (wsc (lo.map (trB p s)) k.den) (wsc (hi.map (trB p s)) k.den) ((trB p s (b.pl,b.sp)).1*k.den+(trB p s (b.pl,b.sp)).2*k.num) (trB p s (b.pl,b.sp)).2
def prL (z:Int×Int):List Int:=[z.1,z.2]
theorem Qo {H:Hp}:∀{ys:List V}{ks:List (List Int)},ys.length=ks.length->(∀(i:Nat) (v:V),ys[i]? = some v->∃q k,v = .ref q/\ks[i]? = some k/\H q=some (.tup (k.map V.int))/\k≠[])->qi H ys ks
 | [],[],_,_=>.nil
 | [],_::_,h,_=>by simp at h
 | _::_,[],h,_=>by simp at h
 | y::ys,k::ks,h,f=>by
  obtain⟨q,k',rfl,e,e2,e3⟩:=f 0 y rfl
  simp at e;subst e
  exact .cons e2 e3 (Qo (by simpa using h) λi v e=>by simpa using f (i+1) v (by simpa using e))
theorem zax {H:Hp}{ys:List V}{ks:List (List Int)} (t:qi H ys ks):∀{i:Nat}{v:V},ys[i]? = some v->∃q k,v = .ref q/\ks[i]? = some k/\H q=some (.tup (k.map V.int)):=by
 induction t with
 | nil=>intro i v e;simp at e
 | @cons a k xs ks e ne t ih =>
  intro i v h
  cases i with
  | zero=>simp at h;subst h;exact⟨a,k,rfl,rfl,e⟩
  | succ i=>simpa using ih (by simpa using h)
theorem unpr {l:List (Int×Int)}{js:List (List Int)} (h:js.Perm (l.map prL)):∃ks:List (Int×Int),js=ks.map prL/\ks.Perm l:=by
 refine⟨js.map λy=>(y.getD 0 0,y.getD 1 0),?_,?_⟩
 ·rw[List.map_map]
  conv=>lhs;rw[<-List.map_id js]
  refine List.map_congr_left λy m=>?_
  obtain⟨u,_,rfl⟩:=List.mem_map.mp (h.mem_iff.mp m)
  rfl
 ·have e:=h.map λy:List Int=>(y.getD 0 0,y.getD 1 0)
  rw[List.map_map]at e
  have:(l.map ((λy:List Int=>(y.getD 0 0,y.getD 1 0)) ∘ prL))=l:=by
   conv=>rhs;rw[<-List.map_id l]
   exact List.map_congr_left λu _=>rfl
  rw[this]at e
  exact e
section
variable {P:Program}{w:World}{K:PySem.W.Frag}{mg:Str->Option Value}{base:Heap}{C CE:Addr}{aN:Addr}
def zec:Sp:=λvs H Q _=>∃r a m bs b0 lo hi x,vs=[.ref r,.ref a,.ref m]/\Ln H r a bs lo hi/\LnZ bs lo hi/\bs[0]? = some b0/\plB (tb b0) (bs.map tb) lo hi=true/\zu H m x/\Sz 200 x ∧
 ∀z H',zr H H'->(∃(ys:List V) (js:List (Int×Int)),H' z=some (.tup ys)/\js.Perm (vj bs lo hi x)/\(js.Pairwise λu v=>xB (prL v) (prL u)=false) ∧
  xz H' ys (js.map λu=>⟨Rat.divInt u.1 (pbO bs lo hi*(x/Rat.divInt (sbO bs lo hi) (pbO bs lo hi)).den),Rat.divInt u.2 (sbO bs lo hi),b0.wt⟩))->Q (.ref z) H'
theorem Qj:zB ["row","walls","t","course","ticks","bottom","lines"] ["row","walls","t"] (zh qS):=⟨rfl,rfl,rfl,by decide +kernel,rfl,by decide +kernel,by decide +kernel⟩
theorem zdG {fi:Addr}{fdi:FuncData}(D:Df K mg "at_once" qS ["row","walls","t"] []) (T:TxB K mg) (T3:Tx3 K mg aN) (TC:TCo K C) (M:Mk K C fi) (Fi:jH P w K mg base CX0 4 fi fdi ["self","row","walls"] (zee C)) (hmC:mg "Course" = some (.ref C)) (Bi:jf K fdi ["self","row","walls"] [])
  (cRu:Cal P w K mg base "refuse_uneven" 7 ["row","walls"] [] zbA) (cTk:Cal P w K mg base "ticks_of" 4 ["course","moment"] [] (zen C)) (cLa:Cal P w K mg base "line_at" 1 ["course","track","ticks"] [] (zan C)) (cR:Cal P w K mg base "ratio" 2 ["top","bottom"] [] xX) :
  Cal P w K mg base "at_once" 8 ["row","walls","t"] [] zec:=by
 refine D.cal (k:=7) Qj (λvs H Q E h=>by obtain⟨_,_,_,_,_,_,_,_,rfl,_⟩:=h;rfl) (λf cdv A outer s H vs Q E hr8 h=>?_)
 obtain⟨r,a,m,bs,b0,lo,hi,x,rfl,ln,lz,h0,hp,hm,zx,k⟩:=h
 have hr5:zX 5 _:=hr8.mono (by decide)
 have hr4:zX 4 _:=hr8.mono (by decide)
 have hr1:zX 1 _:=hr8.mono (by decide)
 have hr2:zX 2 _:=hr8.mono (by decide)
 obtain⟨b0',e0',pl⟩:=ln.pl
 rw[h0]at e0';cases e0'
 refine⟨_,(zi (xw (zw cRu hr8 (za (pv 0) (za (pv 1) ze))))
  (zi (zE (i:=3) Qj.nd rfl (Or.inr rfl) (zbl M Fi hr5 (by rfl) hmC Bi .nil zbP (za (pv 0) (za (pv 1) ze))))
  (zi (zE (i:=4) Qj.nd rfl (Or.inr rfl) (zw cTk hr4 (za (pv 3) (za (pv 2) ze))))
  (zi (zE (i:=5) Qj.nd rfl (Or.inr rfl) (zt zJ (qK (pv 3) rfl) (zo zm (pv 4) zd (λ_ _=>rfl))))
  (zi (zE (i:=6) Qj.nd rfl (Or.inl rfl) (zH Qx (by rfl) T3.nSorted PyProof.Rows.boot_sorted (za (vn (NB:=["track"]) (FR:=["course","ticks"]) (js:=[3,4]) rfl rfl (λx c h=>Jr rfl rfl x c h) (.cons rfl rfl rfl ⟨_,rfl⟩ (.cons rfl rfl rfl ⟨_,rfl⟩ .nil)) rfl (by decide +kernel) rfl (by decide +kernel) (xR (qK (pv 3) rfl)) (by intro _ _ _;refine⟨?_,?_,?_⟩;(exact(zG (i:=0) (show List.Nodup (["track","course","ticks"]:List Str) by decide +kernel) rfl (Or.inl rfl)));(exact xI);(exact(zw cLa hr1 (za (pv 1) (za (pv 0) (za (pv 2) ze))))))) ze)))
  (zn (zD (jA ZY (by rfl) T.nTuple PyProof.Rows.boot_tuple (za (vn (NB:=["spot","speed"]) (FR:=["bottom","course","row"]) (js:=[5,3,0]) rfl rfl (λx c h=>XY rfl rfl rfl x c h) (.cons rfl rfl rfl ⟨_,rfl⟩ (.cons rfl rfl rfl ⟨_,rfl⟩ (.cons rfl rfl rfl ⟨_,rfl⟩ .nil))) rfl (by decide +kernel) rfl (by decide +kernel) (xR (pv 6)) (by intro _ _ _;refine⟨?_,?_,?_⟩;(exact(j3 (K:=K) (n:=2) rfl rfl (zM (zG (i:=0) (show List.Nodup (["spot","speed","bottom","course","row"]:List Str) by decide +kernel) rfl (Or.inl rfl)) (zM (zG (i:=1) (show List.Nodup (["spot","speed","bottom","course","row"]:List Str) by decide +kernel) rfl (Or.inl rfl)) xZ))));(exact xI);(exact(zL (za (zw cR hr2 (za (pv 0) (za (pv 2) ze))) (za (zw cR hr2 (za (pv 1) (za (zbk (K:=K) rfl (pv 3) rfl) ze))) (za (zo (xY (K:=K) rfl) (zo (xY (K:=K) rfl) (pv 4) zd (λ_ _=>rfl)) zd (λ_ _=>rfl)) ze))))))) ze))))))))),?_⟩
 refine⟨_,rfl,_,rfl,r,a,_,_,lo,hi,rfl,pl,hp,λH1 e1=>?_⟩
 dsimp only
 have ln1:=ln.same e1
 obtain⟨us,hrr,hB⟩:=ln1.row
 obtain⟨v1,v2,ha,h1,h2⟩:=ln1.walls
 refine⟨_,rfl,_,rfl,λc dx hc hdx ne=>?_⟩
 have S0:zr H1 (upd (upd H1 dx (.own c)) c (.ins C dx [])):=(zr.upd hdx).trans (zr.upd (by rw[zO ne.symm];exact hc))
 refine⟨c,dx,r,a,us,bs,v1,v2,lo,hi,rfl,zj,S0 _ _ hrr,hB.keeps (.of S0),S0 _ _ ha,h1.wl.keeps (.of S0),h2.wl.keeps (.of S0),ln.l8,λt mt=>⟨(lz.sz t mt).1.sz,(lz.sz t mt).2.sz⟩,λH2 X1 hcn=>⟨rfl,?_⟩⟩
 have hco:=hcn.co
 have S2:zr H H2:=e1.trans λb o e=>X1 b o (zU e hc) (S0 b o e)
 dsimp only[zA]
 have Z:=lz.bd ln.l8
 generalize hpb:pbO bs lo hi=pb at *
 generalize hsb:sbO bs lo hi=sb at *
 refine⟨_,rfl,_,rfl,c,m,pb,sb,_,_,_,_,_,x,rfl,hco,S2 _ _ hm,⟨zx.mono (by decide),Z.tz.mono (by decide)⟩,Z.t0,λtr H3 s3 htr=>?_⟩
 dsimp only[zA]
 have zk:Sz 601 (x/Rat.divInt sb pb):=by rw[<-j0];exact .divInt (Int.mul_ne_zero (zT x) (λz=>Z.t0 (Rat.num_eq_zero.mp z))) ((zx.1.mul Z.tz.2).mono (by decide)) ((zx.2.mul Z.tz.1).mono (by decide))
 have S3:zr H H3:=S2.trans s3
 have hlin:vj bs lo hi x=bs.map λb=>jj (wsc (lo.map (trB pb sb)) (x/Rat.divInt sb pb).den) (wsc (hi.map (trB pb sb)) (x/Rat.divInt sb pb).den) ((trB pb sb (b.pl,b.sp)).1*(x/Rat.divInt sb pb).den+(trB pb sb (b.pl,b.sp)).2*(x/Rat.divInt sb pb).num) (trB pb sb (b.pl,b.sp)).2:=by
  unfold vj;rw[hpb,hsb]
 generalize hkk:x/Rat.divInt sb pb=kk at *
 have kd:=den_pos kk
 have hco3:=hco.same s3
 obtain⟨dx',fs,hc3,F⟩:=id hco3
 obtain⟨L,tv,et,hL,hT⟩:=F.tracks
 refine⟨_,rfl,c,C,dx',fs,_,rfl,hc3,TC.cls,TC.pb,F.pb,_,rfl,tr,_,_,_,rfl,rfl,.of htr,at1 ..,_,_,rfl,rfl,⟨Z.pb.2.mono (by decide),zk.2.mono (by decide)⟩,?_⟩
 dsimp only[zA]
 unfold Jb zas tCB xr
 refine⟨_,rfl,c,C,dx',fs,_,rfl,hc3,TC.cls,TC.tracks,et,L,rfl,⟨_,SqL.of hL⟩,λDc hDc=>?_⟩
 have htl:=hT.1
 rw[List.length_map]at htl
 have l8:=ln.l8
 refine xP (js:=[3,4]) (J:=Itl K L) (g:=zA 0) (te:=jt (zan C) [] E0 (xr (zZ 1) (xr (zZ 0) (xr (zZ 2) jh)))) (n:=1) (xs:=tv) (λi v G=>∃u q,(vj bs lo hi x)[i]? = some u/\v = .ref q/\G q=some (.tup [.int u.1,.int u.2])) (λi v G G' e ⟨u,q,q1,q2,q3⟩=>⟨u,q,q1,q2,e _ _ q3⟩) hDc (xC hL) (ql (by omega)) ?_ ?_
 ·intro i y zs G Q' hy hz S hQ
  obtain⟨t,e,p,rfl,hp'⟩:=hT.2 i y hy
  obtain⟨z1,rfl⟩:=Xw hz
  rw[List.getElem?_map]at e
  cases hb:bs[i]? with
  | none=>rw[hb]at e;cases e
  | some b =>
   rw[hb]at e;cases e
   have bt:=Z.tr b (List.mem_of_getElem? hb)
   dsimp only[zA]
   refine⟨rfl,_,rfl,_,rfl,_,rfl,c,p,tr,pb,sb,_,_,_,_,_,(trB pb sb (b.pl,b.sp)).1,(trB pb sb (b.pl,b.sp)).2,kk.num,(kk.den:Int),rfl,hco3.same S,S _ _ hp',S _ _ htr,bt.1,bt.2,zk.1.mono (by decide),zk.2.mono (by decide),kd,Z.bl,Z.bh,Z.lh,λq G2 s2 hq=>hQ _ _ s2 ⟨_,q,?_,rfl,hq⟩⟩
   rw[hlin,List.getElem?_map,hb];rfl
 intro ys G S hDG hyl hR
 have hll:(vj bs lo hi x).length=bs.length:=by rw[hlin,List.length_map]
 have tups:qi G ys ((vj bs lo hi x).map prL):=Qo (by rw[List.length_map,hll];omega) λi v e=>by
  obtain⟨u,q,q1,q2,q3⟩:=hR i v e
  exact⟨q,prL u,q2,by rw[List.getElem?_map,q1];rfl,q3,by simp[prL]⟩
 refine⟨Dc,ys,_,rfl,SqL.of hDG,tups,by omega,λDl zs hDl hso=>?_⟩
 obtain⟨js',ht',hperm,hpw⟩:=hso.tups tups
 have SL:zr G (upd G Dl (.lst zs)):=zr.upd hDl
 have hDL:upd G Dl (.lst zs) Dl=some (.lst zs):=zj
 have htL:=ht'.same SL
 have S4:zr H3 (upd G Dl (.lst zs)):=S.trans SL
 generalize upd G Dl (.lst zs)=G4 at SL hDL htL S4
 obtain⟨js,rfl,hjp⟩:=unpr hperm
 dsimp only[zA]
 have hzl:zs.length=js.length:=by have:=htL.len;simpa using this
 have hjl:js.length=bs.length:=by rw[hjp.length_eq,hll]
 refine⟨_,rfl,Dl,rfl,⟨_,SqL.of hDL⟩,λDd hDd=>?_⟩
 have S14:zr H1 G4:=λb o e=>S4 b o (s3 b o (X1 b o (zU e hc) (S0 b o e)))
 have hrr4:=S14 _ _ hrr
 have hB4:=hB.keeps (.of S14)
 have l1:=ln.l1
 have hul:=hB.1
 obtain⟨u0,hu0⟩:∃u,us[0]? = some u:=⟨_,List.getElem?_eq_getElem (by omega)⟩
 obtain⟨b0',e0',a0,p0,q0,rfl,ha0,_,_⟩:=hB4.2 0 u0 hu0
 rw[h0]at e0';cases e0'
 have hco4:=hco3.same S4
 obtain⟨dx4,fs4,hc4,F4⟩:=id hco4
 have bb:Bd 8900 (pb*(kk.den:Int)):=(Z.pb.2.mul zk.2).mono (by decide)
 have b0':pb*(kk.den:Int)≠0:=Int.ne_of_gt (Int.mul_pos Z.pb.1 kd)
 refine xP (js:=[5,3,0]) (J:=Itl K Dl) (g:=XZ K 2 (vL (zA 0) (vL (zA 1) QE))) (te:=_) (n:=2) (xs:=zs) (λi v G=>∃u,js[i]? = some u/\Xp G v ⟨Rat.divInt u.1 (pb*kk.den),Rat.divInt u.2 sb,b0.wt⟩) (λi v G G' e ⟨u,q1,q2⟩=>⟨u,q1,q2.keeps e⟩) hDd (xC hDL) (ql (by omega)) ?_ ?_
 ·intro i y zs' G5 Q' hy hz S5 hQ
  obtain⟨q,kq,rfl,ek,hq⟩:=zax htL hy
  rw[List.getElem?_map]at ek
  obtain⟨w1,w2,rfl⟩:=JJ hz
  cases hu:js[i]? with
  | none=>rw[hu]at ek;cases ek
  | some u =>
   rw[hu]at ek;cases ek
   refine⟨q,_,rfl,.of (S5 _ _ hq),rfl,_,_,rfl,_,_,rfl,rfl,⟨rfl,?_⟩⟩
   refine⟨_,rfl,_,rfl,u.1,_,rfl,b0',bb,λp1 G6 s6 hp1=>?_⟩
   refine⟨_,rfl,_,rfl,c,C,dx4,fs4,_,rfl,s6 _ _ (S5 _ _ hc4),TC.cls,TC.sb,F4.sb,u.2,sb,rfl,Int.ne_of_gt Z.sb.1,Z.sb.2.mono (by decide),λp2 G7 s7 hp2=>?_⟩
   have S57:=S5.trans (s6.trans s7)
   refine⟨_,rfl,r,_,_,_,rfl,rfl,.of (S57 _ _ hrr4),vX (j:=0) hu0,a0,_,_,_,rfl,rfl,.of (S57 _ _ ha0),rfl,by show 3<=sizeLine;decide,λq3 hq3=>hQ _ _ (s6.trans (s7.trans (zr.upd hq3))) ⟨u,hu,q3,p1,p2,rfl,zj,zr.upd hq3 _ _ (s7 _ _ hp1),zr.upd hq3 _ _ hp2⟩⟩
 intro ws G6 S6 hDG6 hwl hR6
 refine⟨Dd,ws,rfl,.inl ⟨.of hDG6,λz hz=>?_⟩⟩
 refine k z _ (λb o e=>zr.upd hz b o (S6 b o (S4 b o (S3 b o e)))) ⟨ws,js,zj,hjp,?_,?_⟩
 ·exact List.pairwise_map.mp hpw
 ·refine⟨by rw[List.length_map];omega,λi v e=>?_⟩
  obtain⟨u,q1,q2⟩:=hR6 i v e
  exact⟨_,by rw[List.getElem?_map,q1];rfl,q2.keeps (.of (zr.upd hz))⟩
end
end KK
end
section
set_option maxHeartbeats 8000000
set_option Elab.async false
set_option linter.all false
set_option maxRecDepth 100000
namespace KM
theorem qr {s:Rat}(h:0<s):0<s.num:=by have:=(jV 0 s).mpr h;simpa using this
theorem V2 {k:Int}{s r r':Rat}(h0:0<=r) (h1:r<s) (h2:0<=r') (h3:r'<s) (e:r=r'+(k:Rat)*s):r=r':=by
 have hs:0<s:=by grind
 have:k=0:=by
  rcases Int.lt_trichotomy k 0 with h | h | h
  ·have:(k:Rat)<=((-1:Int):Rat):=Rat.intCast_le_intCast.mpr (by omega)
   have:=Rat.mul_le_mul_of_nonneg_right this (Rat.le_of_lt hs)
   grind
  ·exact h
  ·have:((1:Int):Rat)<=k:=Rat.intCast_le_intCast.mpr (by omega)
   have:=Rat.mul_le_mul_of_nonneg_right this (Rat.le_of_lt hs)
   grind
 subst this
 grind
theorem zdb {x s r:Rat}{k:Int}(h0:0<=r) (h1:r<s) (e:x=r+(k:Rat)*s):rst x s=r:=by
 have hs:0<s:=by grind
 have n:=qr hs
 have m:=Qh (x:=x) (s:=s) n
 generalize hk:(x.num*(s.den:Int))/(s.num*(x.den:Int))=j at m
 refine V2 (k:=k - j) (J5 n) (J6 n) h0 h1 ?_
 rw[Rat.intCast_sub]
 grind
def xN (lo hi z:Rat):Rat:=if hi - lo<rst (z - lo) (hi - lo+(hi - lo))then lo+(hi - lo+(hi - lo) - rst (z - lo) (hi - lo+(hi - lo)))else lo+rst (z - lo) (hi - lo+(hi - lo))
section
variable {lo hi z:Rat}
theorem Vh (h:lo<hi):lo<=xN lo hi z/\xN lo hi z<=hi:=by
 have s0:0<hi - lo+(hi - lo):=by grind
 have a:=J5 (x:=z - lo) (qr s0)
 have b:=J6 (x:=z - lo) (qr s0)
 unfold xN
 generalize rst (z - lo) (hi - lo+(hi - lo))=r at a b ⊢
 split <;> grind
theorem zaP {r:Rat}{k:Int}(h:lo<hi) (h0:0<=r) (h1:r<hi - lo+(hi - lo)) (e:z - lo=r+(k:Rat)*(hi - lo+(hi - lo))):xN lo hi z=if hi - lo<r then lo+(hi - lo+(hi - lo) - r)else lo+r:=by
 unfold xN
 rw[zdb h0 h1 e]
end
section
variable {α:Type} [LE α] [DecidableLE α]
def qm:List (α×α)->α×α->List (α×α)
 | p::r,w=>if w.1<=p.2 then(p.1,w.2)::r else w::p::r
 | [],w=>[w]
def vM (ws:List (α×α)):List (α×α):=(ws.foldl qm []).reverse
end
section
variable {α β:Type} [LE α] [DecidableLE α] [LE β] [DecidableLE β] {φ:α->β}
def pm (φ:α->β) (w:α×α):β×β:=(φ w.1,φ w.2)
theorem VX (h:∀a b,φ a<=φ b↔a<=b) (r:List (α×α)) (w:α×α):(qm r w).map (pm φ)=qm (r.map (pm φ)) (pm φ w):=by
 cases r with
 | nil=>rfl
 | cons p r =>
  show (if w.1<=p.2 then(p.1,w.2)::r else w::p::r).map (pm φ)=if φ w.1<=φ p.2 then _ else _
  by_cases e:w.1<=p.2
  ·rw[if_pos e,if_pos ((h _ _).mpr e)];rfl
  ·rw[if_neg e,if_neg λz=>e ((h _ _).mp z)];rfl
theorem VT (h:∀a b,φ a<=φ b↔a<=b) (ws:List (α×α)):∀r,(ws.foldl qm r).map (pm φ)=(ws.map (pm φ)).foldl qm (r.map (pm φ)):=by
 induction ws with
 | nil=>intro r;rfl
 | cons w ws ih=>intro r;show (ws.foldl qm (qm r w)).map (pm φ)=_;rw[ih,VX h];rfl
theorem VV (h:∀a b,φ a<=φ b↔a<=b) (ws:List (α×α)):(vM ws).map (pm φ)=vM (ws.map (pm φ)):=by
 unfold vM;rw[List.map_reverse,VT h];rfl
end
end KM
end
section
set_option maxHeartbeats 8000000
set_option Elab.async false
set_option linter.all false
set_option maxRecDepth 100000
namespace KM
section
variable {α:Type} [Add α] [Sub α] [LE α] [DecidableLE α]
def mx (a b:α):α:=if b<=a then a else b
def mn (a b:α):α:=if a<=b then a else b
def unf (lo hi f l:α):List (α×α):=[(f,l),(hi+hi - l,hi+hi - f),((hi - lo)+(hi - lo)+f,(hi - lo)+(hi - lo)+l)]
def clp (lo hi g:α) (w:α×α):α×α:=(mx lo (w.1 - g),mn hi (w.2 - g))
def vy (lo hi g f l:α):List (α×α):=((unf lo hi f l).map (clp lo hi g)).filter λw=>decide (w.1<=w.2)
end
section
variable {α β:Type} [Add α] [Sub α] [LE α] [DecidableLE α] [Add β] [Sub β] [LE β] [DecidableLE β] {φ:α->β}
structure Emb (φ:α->β):Prop where
 le:∀a b,φ a<=φ b↔a<=b
 ad:∀a b,φ (a+b)=φ a+φ b
 su:∀a b,φ (a - b)=φ a - φ b
theorem Emb.mx (e:Emb φ) (a b:α):φ (mx a b)=KM.mx (φ a) (φ b):=by
 unfold KM.mx
 by_cases h:b<=a
 ·rw[if_pos h,if_pos ((e.le _ _).mpr h)]
 ·rw[if_neg h,if_neg λz=>h ((e.le _ _).mp z)]
theorem Emb.mn (e:Emb φ) (a b:α):φ (mn a b)=KM.mn (φ a) (φ b):=by
 unfold KM.mn
 by_cases h:a<=b
 ·rw[if_pos h,if_pos ((e.le _ _).mpr h)]
 ·rw[if_neg h,if_neg λz=>h ((e.le _ _).mp z)]
theorem Emb.clp (e:Emb φ) (lo hi g:α) (w:α×α):pm φ (clp lo hi g w)=KM.clp (φ lo) (φ hi) (φ g) (pm φ w):=by
 unfold pm KM.clp
 rw[e.mx,e.mn,e.su,e.su]
theorem Emb.ways (e:Emb φ) (lo hi g f l:α):(vy lo hi g f l).map (pm φ)=vy (φ lo) (φ hi) (φ g) (φ f) (φ l):=by
 unfold vy
 rw[show ((unf (φ lo) (φ hi) (φ f) (φ l)).map (KM.clp (φ lo) (φ hi) (φ g)))=((unf lo hi f l).map (KM.clp lo hi g)).map (pm φ)from ?_]
 ·generalize (unf lo hi f l).map (KM.clp lo hi g)=ws
  induction ws with
  | nil=>rfl
  | cons w ws ih =>
   rw[List.map_cons,List.filter_cons,List.filter_cons]
   have hle:(pm φ w).1<=(pm φ w).2↔w.1<=w.2:=e.le _ _
   by_cases h:w.1<=w.2
   ·rw[if_pos (decide_eq_true h),if_pos (decide_eq_true (hle.mpr h)),List.map_cons,ih]
   ·rw[if_neg (by rw[decide_eq_false h];decide),if_neg (by rw[decide_eq_false (λz=>h (hle.mp z))];decide),ih]
 ·unfold unf
  simp only[List.map_cons,List.map_nil,e.clp]
  unfold pm
  simp only[e.ad,e.su]
end
def bel (ps:List Rat) (y:Rat):Nat:=ps.countP λp=>decide (p<y)
def cnt (ps:List Rat) (y:Rat):Nat:=ps.countP λp=>decide (p=y)
theorem Jl (p:Rat) (ps:List Rat) (y:Rat):bel (p::ps) y=bel ps y+if p<y then 1 else 0:=by
 unfold bel;rw[List.countP_cons];by_cases h:p<y <;> simp[h]
theorem Jm {ps qs:List Rat}(h:ps.Perm qs) (y:Rat):bel ps y=bel qs y:=h.countP_eq _
theorem Js {ps qs:List Rat}(h:ps.Perm qs) (y:Rat):cnt ps y=cnt qs y:=h.countP_eq _
def Xo (ps:List Rat) (lo hi:Rat) (k:Int) (y:Rat):Option (Rat×Rat) :=
 if(bel ps y:Int)<=k/\k<=(bel ps y+cnt ps y:Nat)then some (if(bel ps y:Int)<k then lo else y,if k<(bel ps y+cnt ps y:Nat)then hi else y)else none
def Q6 (ps:List Rat) (lo hi s:Rat) (k:Int) (y:Rat):List (Rat×Rat):=match Xo ps lo hi k y with
 | none=>[]
 | some w=>vM (vy lo hi (rst s ((hi - lo)+(hi - lo))) w.1 w.2)
end KM
end
section
set_option maxHeartbeats 8000000
set_option Elab.async false
set_option linter.all false
set_option maxRecDepth 100000
namespace KM
theorem jw {D:Int}(h:0<D):Emb (λi:Int=>Rat.divInt i D):=by
 have su:∀a b:Int,Rat.divInt (a - b) D=Rat.divInt a D - Rat.divInt b D:=λa b=>(ZG (by omega)).symm
 refine⟨λa b=>?_,λa b=>?_,su⟩
 ·have:=vK (a:=b) (b:=a) h
  show Rat.divInt a D<=Rat.divInt b D↔a<=b
  constructor
  ·intro q
   rcases Int.lt_or_le b a with e | e
   ·have:=this.mpr e;grind
   ·exact e
  ·intro q
   by_cases e:Rat.divInt b D<Rat.divInt a D
   ·have:=this.mp e;omega
   ·grind
 ·show Rat.divInt (a+b) D=Rat.divInt a D+Rat.divInt b D
  have:=su (a+b) b
  rw[show a+b - b=a by omega]at this
  grind
theorem zaN {D:Int}(k a:Int):Rat.divInt (k*a) D=(k:Rat)*Rat.divInt a D:=by
 rw[<-QN,Rat.divInt_mul_divInt,Int.one_mul]
end KM
namespace KK
open PySem L2 KM
theorem Xh (l h s v:Int):(jj (some l) (some h) s v).1=if h<l+(s - l) % (2*(h - l))then 2*h - (l+(s - l) % (2*(h - l)))else l+(s - l) % (2*(h - l)):=by
 have e4:∀(w:Option Int) (p:Int×Int),(f4 w p).1=p.1:=λw p=>by
  cases w with
  | none=>rfl
  | some w=>show (if p.1=w then(p.1,-zaH p.2)else p).1=p.1;split <;> rfl
 have e3:∀(w:Option Int) (p:Int×Int),(f3 w p).1=p.1:=λw p=>by
  cases w with
  | none=>rfl
  | some w=>show (if p.1=w then(p.1,zaH p.2)else p).1=p.1;split <;> rfl
 unfold jj
 rw[e4,e3]
 unfold f1 f2
 dsimp only
 split <;> rfl
theorem VY {l h s v D:Int}(hD:0<D) (hl:l<h):Rat.divInt (jj (some l) (some h) s v).1 D=xN (Rat.divInt l D) (Rat.divInt h D) (Rat.divInt s D):=by
 have E:=jw hD
 have lt:∀a b:Int,Rat.divInt a D<Rat.divInt b D↔a<b:=λa b=>vK hD
 have r0:=Int.emod_nonneg (s - l) (b:=2*(h - l)) (by omega)
 have r1:=Int.emod_lt_of_pos (s - l) (b:=2*(h - l)) (by omega)
 have rk:=Int.emod_add_mul_ediv (s - l) (2*(h - l))
 rw[Xh]
 generalize (s - l) % (2*(h - l))=r at r0 r1 rk ⊢
 generalize (s - l)/(2*(h - l))=k at rk
 have z0:Rat.divInt 0 D=0:=qP D
 have hh:Rat.divInt h D - Rat.divInt l D=Rat.divInt (h - l) D:=(E.su h l).symm
 have h2:Rat.divInt h D - Rat.divInt l D+(Rat.divInt h D - Rat.divInt l D)=Rat.divInt (2*(h - l)) D:=by
  rw[hh,show 2*(h - l)=(h - l)+(h - l) by omega];exact(E.ad _ _).symm
 have ez:Rat.divInt s D - Rat.divInt l D=Rat.divInt r D+(k:Rat)*(Rat.divInt h D - Rat.divInt l D+(Rat.divInt h D - Rat.divInt l D)):=by
  rw[h2,<-zaN]
  have a1:=E.su s l
  have a2:=E.ad r (k*(2*(h - l)))
  rw[<-a1,<-a2,<-rk,Int.mul_comm k]
 rw[zaP (r:=Rat.divInt r D) (k:=k) ((lt _ _).mpr hl) (by rw[<-z0];exact(E.le _ _).mpr r0) (by rw[h2];exact(lt _ _).mpr r1) ez]
 have a1:=E.ad l r
 have a2:=E.su (2*h) (l+r)
 have a3:Rat.divInt (2*h) D=Rat.divInt h D+Rat.divInt h D:=by rw[show 2*h=h+h by omega];exact E.ad h h
 have a4:=lt h (l+r)
 have a5:=lt (h - l) r
 rw[hh]
 by_cases c:h<l+r
 ·rw[if_pos c,if_pos (a5.mpr (by omega)),a2,a1,a3,<-hh];grind
 ·rw[if_neg c,if_neg λq=>c (by have:=a5.mp q;omega),a1]
theorem jK {x:Rat}{b:Int}(hb:0<b) (h:(x.den:Int) ∣ b):Rat.divInt (byB x b) b=x:=by
 obtain⟨k,e⟩:=h
 have d1:=den_pos x
 have f:b.fdiv (x.den:Int)=k:=by rw[Int.fdiv_eq_ediv_of_nonneg _ (by omega),e];exact Int.mul_ediv_cancel_left _ (by omega)
 have k0:k≠0:=λz=>by rw[z,Int.mul_zero]at e;omega
 unfold byB
 rw[f]
 conv=>lhs;rw[e]
 rw[Rat.divInt_mul_right k0,Rat.num_divInt_den]
section
variable {bs:List Bl}{lo hi x:Rat}
theorem LnZ.dv {lo hi:Wl}(h:LnZ bs lo hi) (l8:bs.length<=8):(0<pbO bs lo hi/\∀t∈ths bs lo hi,(t.1.den:Int) ∣ pbO bs lo hi)/\(0<sbO bs lo hi/\∀t∈ths bs lo hi,(t.2.den:Int) ∣ sbO bs lo hi):=by
 have hl:=vE (lo:=lo) (hi:=hi) l8
 obtain⟨p1,p2,p3⟩:=zaX (qs:=(ths bs lo hi).map (·.1)) (λq m=>by obtain⟨t,mt,rfl⟩:=List.mem_map.mp m;exact(h.sz t mt).1.2) (by rw[List.length_map];exact hl)
 obtain⟨s1,s2,s3⟩:=zaX (qs:=(ths bs lo hi).map (·.2)) (λq m=>by obtain⟨t,mt,rfl⟩:=List.mem_map.mp m;exact(h.sz t mt).2.2) (by rw[List.length_map];exact hl)
 exact⟨⟨p1,λt m=>p3 _ (List.mem_map.mpr ⟨t,m,rfl⟩)⟩,⟨s1,λt m=>s3 _ (List.mem_map.mpr ⟨t,m,rfl⟩)⟩⟩
theorem jW (z:LnZ bs (some (lo,0)) (some (hi,0))) (l8:bs.length<=8):(vj bs (some (lo,0)) (some (hi,0)) x).map (λu=>Rat.divInt u.1 (pbO bs (some (lo,0)) (some (hi,0))*(x/Rat.divInt (sbO bs (some (lo,0)) (some (hi,0))) (pbO bs (some (lo,0)) (some (hi,0)))).den))=bs.map λb=>xN lo hi (b.pl+b.sp*x):=by
 obtain⟨⟨p0,pd⟩,⟨s0,sd⟩⟩:=z.dv l8
 have lh:=z.lh _ _ rfl rfl
 have tl:=pd _ (XR rfl)
 have th:=pd _ (XQ rfl)
 unfold vj
 generalize pbO bs (some (lo,0)) (some (hi,0))=p at *
 generalize sbO bs (some (lo,0)) (some (hi,0))=s at *
 rw[List.map_map]
 refine List.map_congr_left λb m=>?_
 have t1:=pd _ (zaw m)
 have t2:=sd _ (zaw m)
 dsimp only at lh tl th t1 t2
 generalize hk:x/Rat.divInt s p=k
 have kd:=den_pos k
 have D0:0<p*(k.den:Int):=Int.mul_pos p0 kd
 have sc:∀q:Rat,(q.den:Int) ∣ p->Rat.divInt (byB q p*(k.den:Int)) (p*(k.den:Int))=q:=λq h=>by rw[Rat.divInt_mul_right (by omega),jK p0 h]
 show Rat.divInt (jj (some (byB lo p*(k.den:Int))) (some (byB hi p*(k.den:Int))) (byB b.pl p*(k.den:Int)+byB b.sp s*k.num) (byB b.sp s)).1 (p*(k.den:Int))=_
 rw[VY D0 (Int.mul_lt_mul_of_pos_right (Jp p0 tl th lh) kd),sc lo tl,sc hi th]
 congr 1
 have E:=(jw D0).ad (byB b.pl p*(k.den:Int)) (byB b.sp s*k.num)
 rw[E,sc b.pl t1]
 congr 1
 have e1:Rat.divInt (byB b.sp s*k.num) (p*(k.den:Int))=Rat.divInt (byB b.sp s) p*k:=by
  conv=>rhs;rw[<-Rat.num_divInt_den k]
  rw[Rat.divInt_mul_divInt]
 have e2:Rat.divInt (byB b.sp s) p=b.sp*Rat.divInt s p:=by
  conv=>rhs;rw[<-jK s0 t2]
  rw[Rat.divInt_mul_divInt,Int.mul_comm s p]
  rw[Rat.divInt_mul_right (by omega)]
 have sp:Rat.divInt s p≠0:=λe=>by
  rw[show (0:Rat)=Rat.divInt 0 1 by rfl,Rat.divInt_eq_divInt_iff (by omega) (by decide)]at e
  omega
 rw[e1,e2,<-hk,Rat.mul_assoc]
 congr 1
 rw[Rat.mul_comm,Rat.div_mul_cancel sp]
end
end KK
end
section
set_option maxHeartbeats 4000000
set_option Elab.async false
set_option linter.all false
set_option maxRecDepth 100000
namespace L2
open PySem PySem.Spec PyProof.Rows
section
variable {X:Cx}
theorem zdD {r:R2}{a b:Expr}{ta tb:TE}{pos:Pos}(hr:IxR X r) (ha:Bx (PE X a ta)) (hb:Bx (PE X b tb)) (hs:Q0 b):Bx (PE X (.Subscript a b pos) (tOp r ta tb)):=by obtain⟨ha⟩:=ha;obtain⟨hb⟩:=hb;exact⟨zo hr ha hb hs⟩
end
end L2
namespace KK
open PySem L2 KM
theorem bdn {n:Nat}{i:Int}(h0:0<=i) (h1:i<2^n):Bd n i:=by
 unfold Bd
 have:((2^n:Nat):Int)=(2:Int)^n:=by push_cast;rfl
 omega
theorem bdz {n:Nat}{i:Int}(h0 : -(2^n)<i) (h1:i<2^n):Bd n i:=by
 unfold Bd
 have:((2^n:Nat):Int)=(2:Int)^n:=by push_cast;rfl
 omega
section
variable {P:Program}{w:World}{K:PySem.W.Frag}{mg:Str->Option Value}{base:Heap}
theorem zae:zB ["one","other"] ["one","other"] (zh jD):=⟨rfl,rfl,rfl,by decide +kernel,rfl,by decide +kernel,by decide +kernel⟩
theorem JT (D:Df K mg "minus" jD ["one","other"] []) (c:Cal P w K mg base "ratio" 2 ["top","bottom"] [] xX):Cal P w K mg base "minus" 3 ["one","other"] [] (xJ Sz2 (· - ·)):=by
 refine D.cal (k:=2) zae (λvs H Q E h=>by obtain⟨_,_,_,_,rfl,_⟩:=h;rfl) (λf cdv A outer s H vs Q E hr h=>?_)
 obtain⟨p,q,x,y,rfl,hp,hq,⟨hx,hy⟩,k⟩:=h
 have bx:=Bd4 hx
 have b_y:=Bd4 hy
 refine⟨_,(zn (zD (zw c hr (za (zt xH (zt zJ (zo zm (pv 0) zd (λ_ _=>rfl)) (zo zm (pv 1) zd (λ_ _=>rfl))) (zt zJ (zo zm (pv 1) zd (λ_ _=>rfl)) (zo zm (pv 0) zd (λ_ _=>rfl)))) (za (zt zJ (zo zm (pv 0) zd (λ_ _=>rfl)) (zo zm (pv 1) zd (λ_ _=>rfl))) ze))))),?_⟩
 refine⟨_,rfl,p,_,_,_,rfl,rfl,.of hp,at0 ..,_,rfl,q,_,_,_,rfl,rfl,.of hq,at1 ..,_,_,rfl,rfl,⟨bx.1,b_y.2⟩,_,rfl,q,_,_,_,rfl,rfl,.of hq,at0 ..,_,rfl,p,_,_,_,rfl,rfl,.of hp,at1 ..,_,_,rfl,rfl,⟨b_y.1,bx.2⟩,_,_,rfl,rfl,?_⟩
 refine⟨_,rfl,p,_,_,_,rfl,rfl,.of hp,at1 ..,_,rfl,q,_,_,_,rfl,rfl,.of hq,at1 ..,_,_,rfl,rfl,⟨bx.2,b_y.2⟩,?_⟩
 refine⟨_,_,rfl,Int.mul_ne_zero (zT x) (zT y),(hx.2.mul hy.2).mono (by decide),λr H' e h=>k r H' e ?_⟩
 show zu H' r (x - y)
 rw[<-KM.jX];exact h
end
section
variable {P:Program}{w:World}{K:PySem.W.Frag}{mg:Str->Option Value}{base:Heap}
theorem XI:zB ["top","bottom","one","other"] ["top","bottom"] (zh qX):=⟨rfl,rfl,rfl,by decide +kernel,rfl,by decide +kernel,by decide +kernel⟩
theorem zcU (D:Df K mg "_law_low" qX ["top","bottom"] []) (T:TxB K mg):Cal P w K mg base "_law_low" 1 ["top","bottom"] [] xX:=by
 refine D.cal (k:=0) XI (λvs H Q E h=>by obtain⟨a,b,rfl,_⟩:=h;rfl) (λf cdv A outer s H vs Q E hr h=>?_)
 obtain⟨t,b,rfl,hb,hz,k⟩:=h
 refine⟨_,(zi (Zc (i:=2) (j:=3) rfl XI.nd rfl rfl (by decide) rfl rfl (za (zH vi (by rfl) T.nAbs PyProof.Rows.boot_abs (za (pv 0) ze)) (za (zH vi (by rfl) T.nAbs PyProof.Rows.boot_abs (za (pv 1) ze)) ze)) (by rfl))
  (zi (Qd PassesOwn.never (zC zd0 (pv 3) zd (zF _)) (zn (Zc (i:=2) (j:=3) rfl XI.nd rfl rfl (by decide) rfl rfl (za (pv 3) (za (zt vk (pv 2) (pv 3)) ze)) (by rfl))))
  (zi (zR (zC jg (pv 1) zd (zF _)) (zn (zE (i:=2) XI.nd rfl (Or.inl rfl) (zt xH zd (pv 2)))) zI)
  (zn (zD (zL (za (zt qj (pv 0) (pv 2)) (za (zt qj (pv 1) (pv 2)) ze)))))))),?_⟩
 have hd:=KM.zbK (t:=t) hb
 have hdz:Bd 8900 (KM.dv t b):=hz.of_le (KM.zbJ hb)
 have ge:(Int.gcd (if t<0 then -t else t) (if b<0 then -b else b):Nat)=Int.gcd t b:=by
  rw[vF,vF];simp[Int.gcd]
 refine⟨_,rfl,t,rfl,⟨_,rfl,b,rfl,_,_,rfl,?_⟩⟩
 have fin:∀(σ:St) (z:Option V),σ=[some (.int t),some (.int b),some (.int (KM.dv t b)),z]->zat (zau (xr (tOp (rI XV λi j=>V.int (i.fdiv j)) (zZ 0) (zZ 2)) (xr (tOp (rI XV λi j=>V.int (i.fdiv j)) (zZ 1) (zZ 2)) jh))) { nx:=λ_ H'=>Q .non H',rt:=Q } σ H:=by
  rintro σ z rfl
  refine⟨_,rfl,_,rfl,_,_,rfl,rfl,⟨hd,hdz⟩,_,rfl,_,rfl,_,_,rfl,rfl,⟨hd,hdz⟩,?_⟩
  refine⟨by show 2<=sizeLine;decide,λp hp=>k p _ (zr.upd hp) ?_⟩
  show upd H p _ p=_
  rw[zj]
  dsimp only
  rw[KM.QC hb,KM.Jx hb];rfl
 refine Qq (λσ H1=>H1=H/\∃x y:Int,σ=[some (.int t),some (.int b),some (.int x),some (.int y)]/\0<=x/\0<=y/\Int.gcd x y=Int.gcd t b)
  (λσ _=>match σ with | [_,_,_,some (.int y)]=>y.toNat | _=>0) ⟨rfl,_,_,rfl,(by rw[vF];omega),(by rw[vF];omega),ge⟩ ?_ ?_
 ·rintro σ H1 ⟨rfl,x,y,rfl,hx,hy,e⟩
  refine⟨_,rfl,rfl,_,rfl,xQ (λh=>?_) (λh=>?_)⟩
  ·have h':0<y:=by
    have:y≠0:=λz=>by subst z;simp at h
    omega
   refine⟨_,rfl,_,rfl,_,rfl,_,_,rfl,rfl,h',_,_,rfl,⟨rfl,_,_,rfl,hy,Int.emod_nonneg _ (by omega),?_⟩,?_⟩
   ·rw[KM.X0 hx h'];exact e
   ·show (x % y).toNat<y.toNat
    have:=Int.emod_lt_of_pos x h'
    omega
  ·have:y=0:=by simpa using h
   subst this
   have e2:x=(Int.gcd t b:Nat):=by rw[<-e,Int.gcd_zero_right];omega
   refine⟨_,rfl,_,_,rfl,rfl,_,rfl,xQ (λh=>?_) (λh=>?_)⟩
   ·have h':b<0:=of_decide_eq_true h
    refine⟨_,rfl,0,_,rfl,rfl,fin _ (some (.int 0)) ?_⟩
    rw[e2];unfold KM.dv;rw[if_pos h',<-Int.zero_sub];rfl
   ·have h':¬b<0:=λz=>h (decide_eq_true z)
    refine fin _ (some (.int 0)) ?_
    rw[e2];unfold KM.dv;rw[if_neg h']
 ·rintro σ H1 Q1 Q2 hq ⟨v,e,e1,k1,e3,q⟩
  exact⟨v,e,e1,k1,e3,hq _ _ q⟩
theorem zbr:zB ["a","b"] ["a","b"] (zh qV):=⟨rfl,rfl,rfl,by decide +kernel,rfl,by decide +kernel,by decide +kernel⟩
theorem za3 (D:Df K mg "_law_add" qV ["a","b"] []) (cL:Cal P w K mg base "_law_low" 1 ["top","bottom"] [] xX):Cal P w K mg base "_law_add" 2 ["a","b"] [] (xJ Sz2 (· + ·)):=by
 refine D.cal (k:=1) zbr (λvs H Q E h=>by obtain⟨_,_,_,_,rfl,_⟩:=h;rfl) (λf cdv A outer s H vs Q E hr h=>?_)
 obtain⟨p,q,x,y,rfl,hp,hq,⟨hx,hy⟩,k⟩:=h
 exact⟨_,(zn (zD (zw cL hr (za (zt z8 (zt zJ (zo zm (pv 0) zd (λ_ _=>rfl)) (zo zm (pv 1) zd (λ_ _=>rfl))) (zt zJ (zo zm (pv 1) zd (λ_ _=>rfl)) (zo zm (pv 0) zd (λ_ _=>rfl)))) (za (zt zJ (zo zm (pv 0) zd (λ_ _=>rfl)) (zo zm (pv 1) zd (λ_ _=>rfl))) ze))))),zbn hp hq hx hy k⟩
theorem zdg:zB ["a","b"] ["a","b"] (zh vR):=⟨rfl,rfl,rfl,by decide +kernel,rfl,by decide +kernel,by decide +kernel⟩
theorem zcR (D:Df K mg "_law_by" vR ["a","b"] []) (cL:Cal P w K mg base "_law_low" 1 ["top","bottom"] [] xX):Cal P w K mg base "_law_by" 2 ["a","b"] [] (xJ Sz2 (· * ·)):=by
 refine D.cal (k:=1) zdg (λvs H Q E h=>by obtain⟨_,_,_,_,rfl,_⟩:=h;rfl) (λf cdv A outer s H vs Q E hr h=>?_)
 obtain⟨p,q,x,y,rfl,hp,hq,⟨hx,hy⟩,k⟩:=h
 exact⟨_,(zn (zD (zw cL hr (za (zt zJ (zo zm (pv 0) zd (λ_ _=>rfl)) (zo zm (pv 1) zd (λ_ _=>rfl))) (za (zt zJ (zo zm (pv 0) zd (λ_ _=>rfl)) (zo zm (pv 1) zd (λ_ _=>rfl))) ze))))),Qe hp hq hx hy k⟩
theorem zbv:zB ["a","b"] ["a","b"] (zh qY):=⟨rfl,rfl,rfl,by decide +kernel,rfl,by decide +kernel,by decide +kernel⟩
theorem za8 (D:Df K mg "_law_off" qY ["a","b"] []) (cL:Cal P w K mg base "_law_low" 1 ["top","bottom"] [] xX):Cal P w K mg base "_law_off" 2 ["a","b"] [] (xJ Sz2 (· - ·)):=by
 refine D.cal (k:=1) zbv (λvs H Q E h=>by obtain⟨_,_,_,_,rfl,_⟩:=h;rfl) (λf cdv A outer s H vs Q E hr h=>?_)
 obtain⟨p,q,x,y,rfl,hp,hq,⟨hx,hy⟩,k⟩:=h
 have bx:=Bd4 hx
 have b_y:=Bd4 hy
 refine⟨_,(zn (zD (zw cL hr (za (zt xH (zt zJ (zo zm (pv 0) zd (λ_ _=>rfl)) (zo zm (pv 1) zd (λ_ _=>rfl))) (zt zJ (zo zm (pv 1) zd (λ_ _=>rfl)) (zo zm (pv 0) zd (λ_ _=>rfl)))) (za (zt zJ (zo zm (pv 0) zd (λ_ _=>rfl)) (zo zm (pv 1) zd (λ_ _=>rfl))) ze))))),?_⟩
 refine⟨_,rfl,p,_,_,_,rfl,rfl,.of hp,at0 ..,_,rfl,q,_,_,_,rfl,rfl,.of hq,at1 ..,_,_,rfl,rfl,⟨bx.1,b_y.2⟩,_,rfl,q,_,_,_,rfl,rfl,.of hq,at0 ..,_,rfl,p,_,_,_,rfl,rfl,.of hp,at1 ..,_,_,rfl,rfl,⟨b_y.1,bx.2⟩,_,_,rfl,rfl,?_⟩
 refine⟨_,rfl,p,_,_,_,rfl,rfl,.of hp,at1 ..,_,rfl,q,_,_,_,rfl,rfl,.of hq,at1 ..,_,_,rfl,rfl,⟨bx.2,b_y.2⟩,?_⟩
 refine⟨_,_,rfl,Int.mul_ne_zero (zT x) (zT y),(hx.2.mul hy.2).mono (by decide),λr H' e h=>k r H' e ?_⟩
 show zu H' r (x - y)
 rw[<-KM.jX];exact h
def XM:Sp:=λvs H Q _=>∃p q x y,vs=[.ref p,.ref q]/\zu H p x/\zu H q y/\Sz2 x y/\Q (.bl (decide (x<y))) H
theorem zbt:zB ["a","b"] ["a","b"] (zh qd):=⟨rfl,rfl,rfl,by decide +kernel,rfl,by decide +kernel,by decide +kernel⟩
theorem za6 (D:Df K mg "_law_below" qd ["a","b"] []):Cal P w K mg base "_law_below" 1 ["a","b"] [] XM:=by
 refine D.cal (k:=0) zbt (λvs H Q E h=>by obtain⟨_,_,_,_,rfl,_⟩:=h;rfl) (λf cdv A outer s H vs Q E hr h=>?_)
 obtain⟨p,q,x,y,rfl,hp,hq,⟨hx,hy⟩,k⟩:=h
 have bx:=Bd4 hx
 have b_y:=Bd4 hy
 refine⟨_,(zn (zD (qQ jg (zt zJ (zo zm (pv 0) zd (λ_ _=>rfl)) (zo zm (pv 1) zd (λ_ _=>rfl))) (zt zJ (zo zm (pv 1) zd (λ_ _=>rfl)) (zo zm (pv 0) zd (λ_ _=>rfl))) (zF _)))),?_⟩
 refine⟨_,rfl,p,_,_,_,rfl,rfl,.of hp,at0 ..,_,rfl,q,_,_,_,rfl,rfl,.of hq,at1 ..,_,_,rfl,rfl,⟨bx.1,b_y.2⟩,_,rfl,q,_,_,_,rfl,rfl,.of hq,at0 ..,_,rfl,p,_,_,_,rfl,rfl,.of hp,at1 ..,_,_,rfl,rfl,⟨b_y.1,bx.2⟩,_,_,rfl,rfl,?_⟩
 show Q (.bl (decide (x.num*(y.den:Int)<y.num*(x.den:Int)))) H
 rw[ZL];exact k
end
end KK
end
section
set_option maxHeartbeats 8000000
set_option Elab.async false
set_option linter.all false
set_option maxRecDepth 100000
namespace L2
open PySem PySem.Spec PyProof.Rows
section
variable {J:It}{D:Addr}{n:Nat}{js:List Nat}{σ:St}{g:TG}{tt:TT}{te:TE}{Z:Hp->Prop}{H:Hp}{xs:List V}
theorem VL (p:V->Bool) (hD:H D=none) (hJ:VF J H xs) (hl:xs.length<sizeLine)
  (hs:∀(i:Nat) (x:V) (zs:St) (H2:Hp) (A:VK) (B:Hp->Prop),xs[i]? = some x->zs.length=n->zr H H2->(p x=true->A x H2)->(p x=false->B H2)->g x (zs++vz σ js) H2 λσ4 H4=>σ4.drop n=vz σ js/\tt σ4 H4 λb H5=>if b=true then te σ4 H5 A else B H5)
  (k:∀H',zr H H'->H' D=some (.lst (xs.filter p))->Z H') :
  ∃W:Nat->Nat->Hp->List V->Prop,(∃m,W 0 m (upd H D (.lst [])) [])/\∀i m H2 ys,W i m H2 ys->H2 D=some (.lst ys)->(J.stop i H2/\Z H2) ∨
   (J.go i H2/\∀zs x H3,zs.length=n->J.yld i H2 x H3->g x (zs++vz σ js) H3 λσ4 H4=>σ4.drop n=vz σ js/\tt σ4 H4 λb H5=>if b=true then te σ4 H5 (λv H6=>H6 D=some (.lst ys)/\ys.length<sizeLine/\∃m',m'<m/\W (i+1) m' (upd H6 D (.lst (ys++[v]))) (ys++[v]))
    else H5 D=some (.lst ys)/\∃m',m'<m/\W (i+1) m' H5 ys):=by
 refine ZE (Q:=λ_ H=>Z H) (tt:=tt) (N:=xs.length) (λi H2 ys=>zr H H2/\ys=(xs.take i).filter p) ⟨zr.upd hD,rfl⟩ (λi H2 ys hi p=>hJ.go i H2 hi p.1) (λH2 ys p=>hJ.stop H2 p.1) ?_ (λH2 ys q e=>k H2 q.1 (by rw[e,q.2,List.take_length]))
 rintro i x zs H2 H3 ys Nx hN hi hz hy ⟨s2,rfl⟩ hD2
 obtain⟨rfl,hx⟩:=hJ.yld i x H2 H3 s2 hy
 have et:xs.take (i+1)=xs.take i++[x]:=by rw[List.take_add_one,hx];rfl
 refine hs i x zs H3 _ _ hx hz s2 (λhp=>⟨hD2,?_,hN _ _ ⟨λc o e=>?_,?_⟩⟩) (λhp=>⟨hD2,hN _ _ ⟨s2,?_⟩⟩)
 ·have:=List.length_filter_le p (xs.take i)
  have:=List.length_take_le i xs
  omega
 ·rw[zO (zU e hD)];exact s2 _ _ e
 ·rw[et,List.filter_append];simp[hp]
 ·rw[et,List.filter_append];simp[hp]
end
theorem Qy {a:Str}{m:Addr}{cs:List (Str×Addr)} (h1:cs.lookup a=some m) (x:Str) (c:Addr) (e:List.lookup x [(a,m)]=some c):cs.lookup x=some c:=by
 simp only[List.lookup]at e
 cases q1:(x == a)with
 | true=>rw[q1]at e;cases e;rw[eq_of_beq q1];exact h1
 | false=>rw[q1]at e;cases e
theorem V6 {X:Cx}{K:PySem.W.Frag}{a:Expr}{ta:TE}(hK:X.K=K) (ha:PE X a ta) (he:∀whole,isTrue a X.env whole=(do let v <-whole;standAt a.pos;holding [v] (truthy v))):PT X a (λσ H Q=>ta σ H λx H'=>∃k,zaF K x H' k/\Q k H'):=by
 subst hK;exact xj ha he
end L2
namespace KK
open PySem L2 KM
section
variable {P:Program}{w:World}{K:PySem.W.Frag}{mg:Str->Option Value}{base:Heap}{aN:Addr}
def zel:Sp:=xJ (λx y=>Sz2 x y/\0<y) rst
theorem zd9:zB ["one","other"] ["one","other"] (zh vc):=⟨rfl,rfl,rfl,by decide +kernel,rfl,by decide +kernel,by decide +kernel⟩
theorem zdP (D:Df K mg "rest_of" vc ["one","other"] []) (c:Cal P w K mg base "ratio" 2 ["top","bottom"] [] xX):Cal P w K mg base "rest_of" 3 ["one","other"] [] zel:=by
 refine D.cal (k:=2) zd9 (λvs H Q E h=>by obtain⟨_,_,_,_,rfl,_⟩:=h;rfl) (λf cdv A outer s H vs Q E hr h=>?_)
 obtain⟨p,q,x,y,rfl,hp,hq,⟨⟨hx,hy⟩,hy0⟩,k⟩:=h
 have bx:=Bd4 hx
 have b_y:=Bd4 hy
 refine⟨_,(zn (zD (zw c hr (za (zt vk (zt zJ (zo zm (pv 0) zd (λ_ _=>rfl)) (zo zm (pv 1) zd (λ_ _=>rfl))) (zt zJ (zo zm (pv 1) zd (λ_ _=>rfl)) (zo zm (pv 0) zd (λ_ _=>rfl)))) (za (zt zJ (zo zm (pv 0) zd (λ_ _=>rfl)) (zo zm (pv 1) zd (λ_ _=>rfl))) ze))))),?_⟩
 refine⟨_,rfl,p,_,_,_,rfl,rfl,.of hp,at0 ..,_,rfl,q,_,_,_,rfl,rfl,.of hq,at1 ..,_,_,rfl,rfl,⟨bx.1,b_y.2⟩,?_⟩
 refine⟨_,rfl,q,_,_,_,rfl,rfl,.of hq,at0 ..,_,rfl,p,_,_,_,rfl,rfl,.of hp,at1 ..,_,_,rfl,rfl,⟨b_y.1,bx.2⟩,_,_,rfl,rfl,Int.mul_pos (qr hy0) (den_pos x),?_⟩
 refine⟨_,rfl,p,_,_,_,rfl,rfl,.of hp,at1 ..,_,rfl,q,_,_,_,rfl,rfl,.of hq,at1 ..,_,_,rfl,rfl,⟨bx.2,b_y.2⟩,?_⟩
 exact⟨_,_,rfl,Int.mul_ne_zero (KM.zT x) (KM.zT y),(hx.2.mul hy.2).mono (by decide),λr H' e h=>k r H' e h⟩
theorem zdh:zB ["one","other"] ["one","other"] (zh Zd):=⟨rfl,rfl,rfl,by decide +kernel,rfl,by decide +kernel,by decide +kernel⟩
theorem zcV (D:Df K mg "less" Zd ["one","other"] []):Cal P w K mg base "less" 1 ["one","other"] [] XM:=by
 refine D.cal (k:=0) zdh (λvs H Q E h=>by obtain⟨_,_,_,_,rfl,_⟩:=h;rfl) (λf cdv A outer s H vs Q E hr h=>?_)
 obtain⟨p,q,x,y,rfl,hp,hq,⟨hx,hy⟩,k⟩:=h
 have bx:=Bd4 hx
 have b_y:=Bd4 hy
 refine⟨_,(zn (zD (qQ jg (zt zJ (zo zm (pv 0) zd (λ_ _=>rfl)) (zo zm (pv 1) zd (λ_ _=>rfl))) (zt zJ (zo zm (pv 1) zd (λ_ _=>rfl)) (zo zm (pv 0) zd (λ_ _=>rfl))) (zF _)))),?_⟩
 refine⟨_,rfl,p,_,_,_,rfl,rfl,.of hp,at0 ..,_,rfl,q,_,_,_,rfl,rfl,.of hq,at1 ..,_,_,rfl,rfl,⟨bx.1,b_y.2⟩,_,rfl,q,_,_,_,rfl,rfl,.of hq,at0 ..,_,rfl,p,_,_,_,rfl,rfl,.of hp,at1 ..,_,_,rfl,rfl,⟨b_y.1,bx.2⟩,_,_,rfl,rfl,?_⟩
 show Q (.bl (decide (x.num*(y.den:Int)<y.num*(x.den:Int)))) H
 rw[ZL];exact k
structure XW (H:Hp) (a:Addr) (lo hi:Rat):Prop where
 w:∃b c p q p' q',H a=some (.tup [.ref b,.ref c])/\H b=some (.tup [.ref p,.ref p'])/\H c=some (.tup [.ref q,.ref q'])/\zu H p lo/\zu H q hi
theorem Ln.ws {H:Hp}{r a:Addr}{bs:List Bl}{lo hi x y:Rat}(h:Ln H r a bs (some (lo,x)) (some (hi,y))):XW H a lo hi:=by
 obtain⟨v1,v2,h1,⟨b,p,q,rfl,h3,h4,h5⟩,⟨c,p',q',rfl,g3,g4,g5⟩⟩:=h.walls
 exact⟨b,c,p,p',q,q',h1,h3,g3,h4,g4⟩
def zca:Sp:=λvs H Q _=>∃a m lo hi y,vs=[.ref a,.ref m]/\XW H a lo hi/\zu H m y/\Sz 4000 lo/\Sz 4000 hi/\Sz 4000 y/\lo<=y/\y<=hi/\Q .non H
theorem zai:zB ["walls","place"] ["walls","place"] (zh z7):=⟨rfl,rfl,rfl,by decide +kernel,rfl,by decide +kernel,by decide +kernel⟩
theorem zc0 (D:Df K mg "refuse_no_place" z7 ["walls","place"] []) (cLs:Cal P w K mg base "less" 1 ["one","other"] [] XM):Cal P w K mg base "refuse_no_place" 2 ["walls","place"] [] zca:=by
 refine D.cal (k:=1) zai (λvs H Q E h=>by obtain⟨_,_,_,_,_,rfl,_⟩:=h;rfl) (λf cdv A outer s H vs Q E hr h=>?_)
 obtain⟨a,m,lo,hi,y,rfl,⟨b,c,p,q,p',q',h1,h2,h3,h4,h5⟩,hm,z1,z2,z3,y0,y1,k⟩:=h
 refine⟨_,(zn (zR ((jJ (xj (zw cLs hr (za (pv 1) (za (zo zm (zo zm (pv 0) zd (λ_ _=>rfl)) zd (λ_ _=>rfl)) ze))) λ_=>rfl) (jm (xj (zw cLs hr (za (zo zm (zo zm (pv 0) zd (λ_ _=>rfl)) zd (λ_ _=>rfl)) (za (pv 1) ze))) λ_=>rfl)))).pt xK zI)),?_⟩
 refine⟨_,rfl,_,rfl,a,_,_,_,rfl,rfl,.of h1,at0 ..,b,_,_,_,rfl,rfl,.of h2,at0 ..,m,p,y,lo,rfl,hm,h4,⟨z3,z1⟩,?_⟩
 rw[decide_eq_false (show ¬y<lo by grind)]
 refine⟨_,rfl,xb ⟨_,rfl,a,_,_,_,rfl,rfl,.of h1,at1 ..,c,_,_,_,rfl,rfl,.of h3,at0 ..,_,rfl,q,m,hi,y,rfl,h5,hm,⟨z2,z3⟩,?_⟩⟩
 rw[decide_eq_false (show ¬hi<y by grind)]
 exact⟨_,rfl,xb k⟩
end
end KK
end
section
set_option maxHeartbeats 8000000
set_option Elab.async false
set_option linter.all false
set_option maxRecDepth 100000
namespace KK
open PySem L2 KM
def qh (bs:List Bl) (lo hi x:Rat):List Rat:=bs.map λb=>xN lo hi (b.pl+b.sp*x)
theorem JK {l h s v:Int}(hl:l<h):l<=(jj (some l) (some h) s v).1/\(jj (some l) (some h) s v).1<=h:=by
 rw[Xh]
 have r0:=Int.emod_nonneg (s - l) (b:=2*(h - l)) (by omega)
 have r1:=Int.emod_lt_of_pos (s - l) (b:=2*(h - l)) (by omega)
 generalize (s - l) % (2*(h - l))=r at r0 r1 ⊢
 split <;> omega
theorem Qu {n:Nat}{l h i:Int}(a:Bd n l) (b:Bd n h) (h1:l<=i) (h2:i<=h):Bd n i:=by
 unfold Bd at *
 omega
theorem zc9 {bs:List Bl}{lo hi x:Rat}(z:LnZ bs (some (lo,0)) (some (hi,0))) (l8:bs.length<=8) (sx:Sz 200 x):∀q∈qh bs lo hi x,Sz 4000 q:=λq m=>by
 have B:=z.bd l8
 unfold qh at m
 rw[<-jW z l8]at m
 obtain⟨u,mu,rfl⟩:=List.mem_map.mp m
 have p0:=B.pb
 have s0:=B.sb
 have hlh:=B.lh _ _ rfl rfl
 have bl:=B.bl _ rfl
 have bh:=B.bh _ rfl
 unfold vj at mu
 dsimp only at mu
 generalize pbO bs (some (lo,0)) (some (hi,0))=p at *
 generalize sbO bs (some (lo,0)) (some (hi,0))=s at *
 have kz:Bd 602 ((x/Rat.divInt s p).den:Int):=by
  have n0:(Rat.divInt s p).num≠0:=λe=>B.t0 (Rat.num_eq_zero.mp e)
  have tz:=B.tz
  generalize Rat.divInt s p=y at n0 tz
  rw[<-j0]
  have nz:(x.den:Int)*y.num≠0:=Int.mul_ne_zero (zT x) n0
  exact(Bd.of_le (j:=x.den*y.num) (by have:=KM.vZ (t:=x.num*y.den) nz;omega) (sx.2.mul tz.1)).mono (by decide)
 generalize x/Rat.divInt s p=k at *
 have kd:=den_pos k
 obtain⟨b,mb,rfl⟩:=List.mem_map.mp mu
 have li:=JK (s:=(trB p s (b.pl,b.sp)).1*k.den+(trB p s (b.pl,b.sp)).2*k.num) (v:=(trB p s (b.pl,b.sp)).2) (Int.mul_lt_mul_of_pos_right hlh kd)
 exact .divInt (by have:=Int.mul_pos p0.1 kd;omega) (Bd.mono (m:=2602) (Qu (bl.mul kz) (bh.mul kz) li.1 li.2) (by decide)) ((p0.2.mul kz).mono (by decide))
section
variable {P:Program}{w:World}{K:PySem.W.Frag}{mg:Str->Option Value}{base:Heap}{aN:Addr}
theorem PrL.same {H H':Hp}{xs:List V}{ps:List (Int×Int)} (h:PrL H xs ps) (s:zr H H'):PrL H' xs ps:=⟨h.1,λi v e=>by obtain⟨u,a,e1,e2,e3⟩:=h.2 i v e;exact⟨u,a,e1,e2,s _ _ e3⟩⟩
def ltP (H:Hp) (y:Rat):V->Bool
 | .ref a=>match H a with
  | some (.tup [.int n,.int d])=>decide (n*(y.den:Int)<y.num*d)
  | _=>false
 | _=>false
theorem JL {H:Hp}{a:Addr}{x y:Rat}(h:zu H a x):ltP H y (.ref a)=decide (x<y):=by
 show (match H a with | some (.tup [.int n,.int d])=>decide (n*(y.den:Int)<y.num*d) | _=>false)=_
 rw[show H a=some (.tup [.int x.num,.int x.den])from h]
 exact ZL x y
theorem vJ.tail {H:Hp}{v:V}{us:List V}{q:Rat}{qs:List Rat}(h:vJ H (v::us) (q::qs)):vJ H us qs:=⟨by simpa using h.1,λi v e=>by simpa using h.2 (i+1) v (by simpa using e)⟩
theorem vJ.head {H:Hp}{v:V}{us:List V}{q:Rat}{qs:List Rat}(h:vJ H (v::us) (q::qs)):∃a,v = .ref a/\zu H a q:=by
 obtain⟨a,p,e1,e2,e3⟩:=h.2 0 v rfl
 cases e2;exact⟨a,e1,e3⟩
theorem Q9 {H:Hp}{y:Rat}:∀{us:List V}{qs:List Rat},vJ H us qs->(us.filter (ltP H y)).length=bel qs y
 | [],[],_=>rfl
 | [],_::_,h=>by have:=h.1;simp at this
 | _::_,[],h=>by have:=h.1;simp at this
 | v::us,q::qs,h=>by
  obtain⟨a,rfl,ha⟩:=h.head
  rw[List.filter_cons,JL ha,Jl,<-Q9 h.tail]
  by_cases e:q<y
  ·rw[decide_eq_true e,if_pos rfl,if_pos e];rfl
  ·rw[decide_eq_false e,if_neg (by decide),if_neg e];rfl
theorem J2 {H:Hp}{us:List V}{qs:List Rat}(h:vJ H us qs):PrL H us (qs.map λq=>(q.num,(q.den:Int))):=⟨by rw[List.length_map];exact h.1,λi v e=>by
 obtain⟨a,q,e1,e2,e3⟩:=h.2 i v e
 exact⟨(q.num,q.den),a,by rw[List.getElem?_map,e2];rfl,e1,e3⟩⟩
theorem VJ (qs:List Rat) (y:Rat):((qs.map λq=>(q.num,(q.den:Int))).countP λu=>decide (u.1=y.num/\u.2=(y.den:Int)))=cnt qs y:=by
 rw[List.countP_map]
 unfold cnt
 congr 1
 funext q
 show decide (q.num=y.num/\(q.den:Int)=(y.den:Int))=decide (q=y)
 rw[decide_eq_decide]
 constructor
 ·rintro ⟨a,b⟩;exact Rat.ext a (by omega)
 ·rintro rfl;exact⟨rfl,rfl⟩
structure XT (H:Hp) (r a m tm:Addr) (bs:List Bl) (lo hi x y:Rat):Prop where
 ln:Ln H r a bs (some (lo,0)) (some (hi,0))
 z:LnZ bs (some (lo,0)) (some (hi,0))
 pl:∀b0,bs[0]? = some b0->plB (tb b0) (bs.map tb) (some (lo,0)) (some (hi,0))=true
 t:zu H tm x
 sx:Sz 200 x
 my:zu H m y
 sy:Bd 2000 y.num/\Bd 400 (y.den:Int)
theorem XT.same {H H':Hp}{r a m tm:Addr}{bs:List Bl}{lo hi x y:Rat}(h:XT H r a m tm bs lo hi x y) (s:zr H H'):XT H' r a m tm bs lo hi x y:=⟨h.ln.same s,h.z,h.pl,s _ _ h.t,h.sx,s _ _ h.my,h.sy⟩
theorem XT.s4 {H:Hp}{r a m tm:Addr}{bs:List Bl}{lo hi x y:Rat}(h:XT H r a m tm bs lo hi x y):Sz 4000 y:=⟨h.sy.1.mono (by decide),h.sy.2.mono (by decide)⟩
def zcd:Sp:=λvs H Q _=>∃r a m tm k bs lo hi x y,vs=[.ref r,.ref a,.int k,.ref m,.ref tm]/\XT H r a m tm bs lo hi x y ∧
 (∀H',zr H H'->Xo (qh bs lo hi x) lo hi k y=none->Q .non H')/\∀H' z p q w,zr H H'->Xo (qh bs lo hi x) lo hi k y=some w->H' z=some (.tup [.ref p,.ref q])->zu H' p w.1->zu H' q w.2->Q (.ref z) H'
theorem Zf:zB ["row","walls","k","place","t","places","below","upto","first","last"] ["row","walls","k","place","t"] (zh vS):=⟨rfl,rfl,rfl,by decide +kernel,rfl,by decide +kernel,by decide +kernel⟩
theorem zc3 (D:Df K mg "wished" vS ["row","walls","k","place","t"] []) (T:TxB K mg) (cLs:Cal P w K mg base "less" 1 ["one","other"] [] XM) (cAo:Cal P w K mg base "at_once" 8 ["row","walls","t"] [] zec):Cal P w K mg base "wished" 9 ["row","walls","k","place","t"] [] zcd:=by
 refine D.cal (k:=8) Zf (λvs H Q E h=>by obtain⟨_,_,_,_,_,_,_,_,_,_,rfl,_⟩:=h;rfl) (λf cdv A outer s H vs Q E hr8 h=>?_)
 obtain⟨r,a,m,tm,k,bs,lo,hi,x,y,rfl,ak,k0,k1⟩:=h
 have hr1:zX 1 _:=hr8.mono (by decide)
 have hu:=hr8.units
 have l8:=ak.ln.l8
 refine⟨_,(zi (XB (i:=5) (NB:=["ball"]) (FR:=[]) (js:=[]) rfl rfl (λ_ _ h=>by cases h) .nil rfl (by decide +kernel) rfl (by decide +kernel) Zf.nd rfl rfl (by rfl) (vH (zw cAo hr8 (za (pv 0) (za (pv 1) (za (pv 4) ze))))) (by intro _ _ _;refine⟨?_,?_,?_⟩;(exact(zG (i:=0) (show List.Nodup (["ball"]:List Str) by decide +kernel) rfl (Or.inl rfl)));(exact xI);(exact(zo (xY (K:=K) rfl) (pv 0) zd (λ_ _=>rfl)))))
  (zi (zE (i:=6) Zf.nd rfl (Or.inl rfl) (zH zN (by rfl) T.nLen PySem.boot_len (za (vn (NB:=["one"]) (FR:=["place"]) (js:=[3]) rfl rfl (λx c h=>Qy rfl x c h) (.cons rfl rfl rfl ⟨_,rfl⟩ .nil) rfl (by decide +kernel) rfl (by decide +kernel) (xR (pv 5)) (by intro _ _ _;refine⟨?_,?_,?_⟩;(exact(zG (i:=0) (show List.Nodup (["one","place"]:List Str) by decide +kernel) rfl (Or.inl rfl)));(exact(XD (V6 (K:=K) rfl (zw cLs hr1 (za (pv 0) (za (pv 1) ze))) λ_=>rfl)));(exact(pv 0)))) ze)))
  (zi (zE (i:=7) Zf.nd rfl (Or.inl rfl) (zt z8 (pv 6) (JX PySem.F.plainAttrs_list PySem.F.slot_list_count PySem.F.type_list_count (JO hu) (pv 5) (za (pv 3) ze))))
  (zi (zR (vI (ZQ Xi Xi (pv 6) (pv 2) (pv 7))) (zn (zD xo)) zI)
  (zi (zE (i:=8) Zf.nd rfl (Or.inl rfl) (j2 (zC jZ (pv 2) (pv 6) (zF _)) (zo zm (zo zm (pv 1) zd (λ_ _=>rfl)) zd (λ_ _=>rfl)) (pv 3)))
  (zi (zE (i:=9) Zf.nd rfl (Or.inl rfl) (j2 (zC jg (pv 2) (pv 7) (zF _)) (zo zm (zo zm (pv 1) zd (λ_ _=>rfl)) zd (λ_ _=>rfl)) (pv 3)))
  (zn (zD (zL (za (pv 8) (za (pv 9) ze))))))))))),?_⟩
 obtain⟨b0,hb0⟩:∃b0,bs[0]? = some b0:=⟨_,List.getElem?_eq_getElem ak.ln.l1⟩
 refine⟨_,rfl,_,rfl,_,rfl,r,a,tm,bs,b0,_,_,x,rfl,ak.ln,ak.z,hb0,ak.pl b0 hb0,ak.t,ak.sx,λzz G1 s1 ⟨ys,js,hz,pj,sj,hrow⟩=>?_⟩
 have perm:=pj.map λu=>Rat.divInt u.1 (pbO bs (some (lo,0)) (some (hi,0))*(x/Rat.divInt (sbO bs (some (lo,0)) (some (hi,0))) (pbO bs (some (lo,0)) (some (hi,0)))).den)
 rw[jW ak.z l8]at perm
 have hyl:=hrow.1
 rw[List.length_map]at hyl
 have hjl:=pj.length_eq
 have hll:(vj bs (some (lo,0)) (some (hi,0)) x).length=bs.length:=by unfold vj;rw[List.length_map]
 refine⟨zz,rfl,⟨_,SqT.of hz⟩,λD hD=>?_⟩
 refine xP (js:=[]) (J:=Itt K zz) (g:=zA 0) (te:=_) (n:=1) (xs:=ys) (λi v G=>∃q p,(js.map λu=>Rat.divInt u.1 (pbO bs (some (lo,0)) (some (hi,0))*(x/Rat.divInt (sbO bs (some (lo,0)) (some (hi,0))) (pbO bs (some (lo,0)) (some (hi,0)))).den))[i]? = some q/\v = .ref p/\zu G p q) (λi v G G' e ⟨q,p,e1,e2,e3⟩=>⟨q,p,e1,e2,e _ _ e3⟩) hD (jn hz) (ql (by omega)) ?_ ?_
 ·intro i v zs G2 Q' hv hz2 S2 hQ
  obtain⟨w1,rfl⟩:=Xw hz2
  obtain⟨b,eb,a',p,q,rfl,h1,h2,h3⟩:=hrow.2 i v hv
  refine⟨rfl,_,rfl,a',_,_,_,rfl,rfl,.of (S2 _ _ h1),rfl,hQ _ _ (zr.refl _) ⟨b.pl,p,?_,rfl,S2 _ _ h2⟩⟩
  rw[List.getElem?_map]at eb ⊢
  cases hj:js[i]? with
  | none=>rw[hj]at eb;cases eb
  | some u=>rw[hj]at eb;cases eb;rfl
 intro us G2 s2 hG2 hul hR
 dsimp only[zA]
 have rats:vJ G2 us (js.map λu=>Rat.divInt u.1 (pbO bs (some (lo,0)) (some (hi,0))*(x/Rat.divInt (sbO bs (some (lo,0)) (some (hi,0))) (pbO bs (some (lo,0)) (some (hi,0)))).den)):=⟨by rw[List.length_map];omega,λi v e=>by obtain⟨q,p,e1,e2,e3⟩:=hR i v e;exact⟨p,q,e2,e1,e3⟩⟩
 have qsz:∀q∈(js.map λu=>Rat.divInt u.1 (pbO bs (some (lo,0)) (some (hi,0))*(x/Rat.divInt (sbO bs (some (lo,0)) (some (hi,0))) (pbO bs (some (lo,0)) (some (hi,0)))).den)),Sz 4000 q:=λq m=>zc9 ak.z l8 ak.sx q (perm.mem_iff.mp m)
 have eb:=Jm perm y
 have ec:=Js perm y
 have hus:us.length<=8:=by omega
 clear perm hR hrow pj sj hjl hll
 generalize (js.map λu=>Rat.divInt u.1 (pbO bs (some (lo,0)) (some (hi,0))*(x/Rat.divInt (sbO bs (some (lo,0)) (some (hi,0))) (pbO bs (some (lo,0)) (some (hi,0)))).den))=qs at *
 have s02:=s1.trans s2
 have hm2:=s02 _ _ ak.my
 refine⟨_,rfl,D,rfl,⟨_,SqL.of hG2⟩,λD2 hD2=>?_⟩
 refine VL (js:=[3]) (J:=Itl K D) (g:=zA 0) (te:=zZ 0) (tt:=λσ H Q=>jt XM [] E0 (xr (zZ 0) (xr (zZ 1) jh)) σ H λx H'=>∃k,zaF K x H' k/\Q k H') (n:=1) (xs:=us) (ltP G2 y) hD2 (xC hG2) (ql (by omega)) ?_ ?_
 ·intro i v zs G3 A B hv hz3 S3 hA hB
  obtain⟨w1,rfl⟩:=Xw hz3
  obtain⟨p,q,rfl,e2,e3⟩:=rats.2 i v hv
  refine⟨rfl,_,rfl,_,rfl,p,m,q,y,rfl,S3 _ _ e3,S3 _ _ hm2,⟨qsz q (List.mem_of_getElem? e2),ak.s4⟩,_,rfl,?_⟩
  rw[JL e3]at hA hB
  by_cases e:q<y
  ·rw[decide_eq_true e]at hA ⊢;exact xk ⟨_,rfl,hA rfl⟩
  ·rw[decide_eq_false e]at hB ⊢;exact xb (hB rfl)
 intro G3 s3 hG3
 refine⟨D2,_,rfl,.inl (SqL.of hG3),?_⟩
 rw[Q9 rats,eb]
 dsimp only[zA]
 have s03:=s02.trans s3
 refine⟨_,rfl,_,rfl,.inl ⟨rfl,_,SqL.of (s3 _ _ hG2)⟩,_,rfl,D,m,us,_,(y.num,(y.den:Int)),rfl,rfl,s3 _ _ hG2,PrL.same (J2 rats) s3,s3 _ _ hm2,?_⟩
 rw[VJ,ec]
 refine⟨_,_,rfl,rfl,?_⟩
 dsimp only[zA]
 rw[show ((bel (bs.map λb=>xN lo hi (b.pl+b.sp*x)) y:Nat):Int)+((cnt (bs.map λb=>xN lo hi (b.pl+b.sp*x)) y:Nat):Int)=((bel (qh bs lo hi x) y+cnt (qh bs lo hi x) y:Nat):Int)from(Int.natCast_add _ _).symm]
 rw[show bel (bs.map λb=>xN lo hi (b.pl+b.sp*x)) y=bel (qh bs lo hi x) y from rfl]
 have wsh:Xo (qh bs lo hi x) lo hi k y=if(bel (qh bs lo hi x) y:Int)<=k/\k<=(bel (qh bs lo hi x) y+cnt (qh bs lo hi x) y:Nat)then some (if(bel (qh bs lo hi x) y:Int)<k then lo else y,if k<(bel (qh bs lo hi x) y+cnt (qh bs lo hi x) y:Nat)then hi else y)else none:=rfl
 generalize ((bel (qh bs lo hi x) y+cnt (qh bs lo hi x) y:Nat):Int)=u at *
 generalize ((bel (qh bs lo hi x) y:Nat):Int)=b at *
 obtain⟨b',c',p,q,p',q',h1,h2,h3,h4,h5⟩:=(ak.ln.same s03).ws.w
 have hm3:=s03 _ _ ak.my
 refine⟨_,rfl,_,rfl,_,_,rfl,rfl,_,rfl,?_⟩
 by_cases c1:b<=k
 ·rw[decide_eq_true c1]
  refine xk ⟨_,rfl,_,_,rfl,rfl,_,rfl,?_⟩
  by_cases c2:k<=u
  ·rw[if_pos ⟨c1,c2⟩]at wsh
   rw[decide_eq_true c2]
   refine xb ?_
   refine⟨_,rfl,_,rfl,_,_,rfl,rfl,_,rfl,?_⟩
   by_cases d1:b<k
   ·rw[decide_eq_true d1]
    rw[if_pos d1]at wsh
    refine xk ⟨_,rfl,a,_,_,_,rfl,rfl,.of h1,at0 ..,b',_,_,_,rfl,rfl,.of h2,at0 ..,?_⟩
    dsimp only[zA]
    refine⟨_,rfl,_,rfl,_,_,rfl,rfl,_,rfl,?_⟩
    by_cases d2:k<u
    ·rw[decide_eq_true d2]
     rw[if_pos d2]at wsh
     refine xk ⟨_,rfl,a,_,_,_,rfl,rfl,.of h1,at1 ..,c',_,_,_,rfl,rfl,.of h3,at0 ..,?_⟩
     dsimp only[zA]
     exact⟨_,rfl,_,rfl,by show 2<=sizeLine;decide,λz hz=>k1 _ z p q _ (s03.trans (zr.upd hz)) wsh zj (zr.upd hz _ _ h4) (zr.upd hz _ _ h5)⟩
    ·rw[decide_eq_false d2]
     rw[if_neg d2]at wsh
     refine xb ⟨_,rfl,?_⟩
     dsimp only[zA]
     exact⟨_,rfl,_,rfl,by show 2<=sizeLine;decide,λz hz=>k1 _ z p m _ (s03.trans (zr.upd hz)) wsh zj (zr.upd hz _ _ h4) (zr.upd hz _ _ hm3)⟩
   ·rw[decide_eq_false d1]
    rw[if_neg d1]at wsh
    refine xb ⟨_,rfl,?_⟩
    dsimp only[zA]
    refine⟨_,rfl,_,rfl,_,_,rfl,rfl,_,rfl,?_⟩
    by_cases d2:k<u
    ·rw[decide_eq_true d2]
     rw[if_pos d2]at wsh
     refine xk ⟨_,rfl,a,_,_,_,rfl,rfl,.of h1,at1 ..,c',_,_,_,rfl,rfl,.of h3,at0 ..,?_⟩
     dsimp only[zA]
     exact⟨_,rfl,_,rfl,by show 2<=sizeLine;decide,λz hz=>k1 _ z m q _ (s03.trans (zr.upd hz)) wsh zj (zr.upd hz _ _ hm3) (zr.upd hz _ _ h5)⟩
    ·rw[decide_eq_false d2]
     rw[if_neg d2]at wsh
     refine xb ⟨_,rfl,?_⟩
     dsimp only[zA]
     exact⟨_,rfl,_,rfl,by show 2<=sizeLine;decide,λz hz=>k1 _ z m m _ (s03.trans (zr.upd hz)) wsh zj (zr.upd hz _ _ hm3) (zr.upd hz _ _ hm3)⟩
  ·rw[if_neg λe=>c2 e.2]at wsh
   rw[decide_eq_false c2]
   exact xk (k0 _ s03 wsh)
 ·rw[if_neg λe=>c1 e.1]at wsh
  rw[decide_eq_false c1]
  exact xb ⟨_,rfl,xk (k0 _ s03 wsh)⟩
end
end KK
end
section
set_option maxHeartbeats 8000000
set_option Elab.async false
set_option linter.all false
set_option maxRecDepth 100000
namespace KK
open PySem L2 KM
section
variable {P:Program}{w:World}{K:PySem.W.Frag}{mg:Str->Option Value}{base:Heap}{aN:Addr}
theorem PrL.snoc {H:Hp}{xs:List V}{ps:List (Int×Int)}{a:Addr}{u:Int×Int}(h:PrL H xs ps) (ha:H a=some (.tup [.int u.1,.int u.2])):PrL H (xs++[.ref a]) (ps++[u]):=by
 have hl:=h.1
 refine⟨by simp[hl],λi v e=>?_⟩
 rcases Nat.lt_or_ge i xs.length with c | c
 ·rw[List.getElem?_append_left c]at e
  obtain⟨w,b,e1,e2,e3⟩:=h.2 i v e
  exact⟨w,b,by rw[List.getElem?_append_left (by omega)];exact e1,e2,e3⟩
 ·rw[List.getElem?_append_right c]at e
  cases hk:i - xs.length with
  | zero=>rw[hk]at e;cases e;exact⟨u,a,by rw[List.getElem?_append_right (by omega),show i - ps.length=0 by omega];rfl,rfl,ha⟩
  | succ n=>rw[hk]at e;simp at e
theorem PrL.unsnoc {H:Hp}{xs:List V}{ps:List (Int×Int)}{u:Int×Int}(h:PrL H xs (ps++[u])):∃ys a,xs=ys++[.ref a]/\PrL H ys ps/\H a=some (.tup [.int u.1,.int u.2]):=by
 have hl:=h.1
 rw[List.length_append,List.length_singleton]at hl
 obtain⟨v,hv⟩:∃v,xs[ps.length]? = some v:=⟨_,List.getElem?_eq_getElem (by omega)⟩
 obtain⟨w,a,e1,rfl,e3⟩:=h.2 _ _ hv
 rw[List.getElem?_append_right (Nat.le_refl _),Nat.sub_self]at e1
 obtain rfl:u=w:=by simpa using e1
 refine⟨xs.take ps.length,a,?_,⟨by rw[List.length_take];omega,λi v e=>?_⟩,e3⟩
 ·have:=List.take_append_drop ps.length xs
  rw[List.drop_eq_getElem_cons (by omega)]at this
  rw[List.getElem?_eq_getElem (by omega)]at hv
  rw[Option.some.inj hv,List.drop_of_length_le (by omega)]at this
  exact this.symm
 ·rcases Nat.lt_or_ge i ps.length with c | c
  ·rw[List.getElem?_take_of_lt c]at e
   obtain⟨w,b,e1,e2,e3⟩:=h.2 i v e
   exact⟨w,b,by rw[List.getElem?_append_left c]at e1;exact e1,e2,e3⟩
  ·rw[List.getElem?_eq_none (by rw[List.length_take];omega)]at e;cases e
theorem PrL.tups {H H':Hp}{xs:List V}{ps:List (Int×Int)} (h:PrL H xs ps) (s:xx H H'):PrL H' xs ps:=⟨h.1,λi v e=>by obtain⟨u,a,e1,e2,e3⟩:=h.2 i v e;exact⟨u,a,e1,e2,s _ _ e3⟩⟩
def zeg:Sp:=λvs H Q _=>∃l us ps,vs=[.ref l]/\H l=some (.lst us)/\PrL H us ps/\ps.length<=8/\∀z H' ys,zr H H'->H z=none->H' z=some (.lst ys)->PrL H' ys (vM ps)->Q (.ref z) H'
theorem XG:zB ["stretches","told","first","last"] ["stretches"] (zh vQ):=⟨rfl,rfl,rfl,by decide +kernel,rfl,by decide +kernel,by decide +kernel⟩
theorem VW (r:List (Int×Int)) (w:Int×Int):(qm r w).length<=r.length+1:=by
 cases r with
 | nil=>exact Nat.le_refl _
 | cons p r =>
  show (if w.1<=p.2 then(p.1,w.2)::r else w::p::r).length<=_
  split <;> simp
theorem zcO (D:Df K mg "joined" vQ ["stretches"] []) (T:TxB K mg):Cal P w K mg base "joined" 1 ["stretches"] [] zeg:=by
 refine D.cal (k:=0) XG (λvs H Q E h=>by obtain⟨_,_,_,rfl,_⟩:=h;rfl) (λf cdv A outer s H vs Q E hr h=>?_)
 obtain⟨l,us,ps,rfl,hl,hp,l8,k⟩:=h
 have hpl:=hp.1
 refine⟨_,(zi (zE (i:=1) XG.nd rfl (Or.inl rfl) (xl ze))
  (zi (jb PassesOwn.never rfl (xR (pv 0)) (jk rfl (zM (zG (i:=2) XG.nd rfl (Or.inl rfl)) (zM (zG (i:=3) XG.nd rfl (Or.inl rfl)) xZ))) (zn (zR ((vq (zC jZ (zH zN (by rfl) T.nLen PySem.boot_len (za (pv 1) ze)) zd (zF _)) (qk (zC Xi (pv 2) (zo zm (zo zS (pv 1) (vO qI zd) (λ_ _=>rfl)) zd (λ_ _=>rfl)) (zF _))))).pt (zn (ja (zL (za (zo zm (zo zS (pv 1) (vO qI zd) (λ_ _=>rfl)) zd (λ_ _=>rfl)) (za (pv 3) ze))) (ZP (pv 1) (vO qI zd) jp))) (zn (xw (JX PySem.F.plainAttrs_list PySem.F.slot_list_append PySem.F.type_list_append jz (pv 1) (za (zL (za (pv 2) (za (pv 3) ze))) ze)))))))
  (zn (zD (pv 1))))),?_⟩
 refine⟨by show 0<=sizeLine;decide,λTd hTd=>?_⟩
 dsimp only[zA]
 have S0:zr H (upd H Td (.lst [])):=zr.upd hTd
 refine⟨_,rfl,l,rfl,⟨_,SqL.of (S0 _ _ hl)⟩,?_⟩
 refine ZH (xs:=us) (λi σ G=>∃vs r y2 y3,σ=[some (.ref l),some (.ref Td),y2,y3]/\zr H G/\G Td=some (.lst vs)/\PrL G vs r.reverse/\r=(ps.take i).foldl qm []/\r.length<=i) ⟨[],[],none,none,rfl,S0,zj,⟨rfl,λi v e=>by simp at e⟩,rfl,Nat.le_refl _⟩ (λi σ G _ ⟨_,_,_,_,_,s,_⟩=>SqL.of (s _ _ hl)) ?_ ?_
 ·rintro i v σ G hv ⟨vs,r,y2,y3,rfl,sG,hG,pr,er,rl⟩
  obtain⟨u,a,hu,rfl,ha⟩:=hp.2 i v hv
  have ha:=sG _ _ ha
  have hi:i<us.length:=(List.getElem?_eq_some_iff.mp hv).1
  refine⟨a,_,rfl,.of ha,rfl,_,_,rfl,_,_,rfl,rfl,?_⟩
  dsimp only[zA]
  have et:(ps.take (i+1)).foldl qm []=qm r u:=by
   rw[List.take_add_one,hu]
   show ((ps.take i)++[u]).foldl qm []=_
   rw[List.foldl_append,er];rfl
  have hvl:=pr.1
  rw[List.length_reverse]at hvl
  refine⟨_,rfl,Td,_,rfl,.inl (SqL.of hG),_,_,rfl,rfl,_,rfl,?_⟩
  have app:∀T',G T'=none->qm r u=u::r->∃vs' r' y2 y3,[some (V.ref l),some (.ref Td),some (.int u.1),some (.int u.2)]=[some (.ref l),some (.ref Td),y2,y3]/\zr H (upd (upd G T' (.tup [.int u.1,.int u.2])) Td (.lst (vs++[.ref T'])))/\upd (upd G T' (.tup [.int u.1,.int u.2])) Td (.lst (vs++[.ref T'])) Td=some (.lst vs')/\PrL (upd (upd G T' (.tup [.int u.1,.int u.2])) Td (.lst (vs++[.ref T']))) vs' r'.reverse/\r'=(ps.take (i+1)).foldl qm []/\r'.length<=i+1:=λT' hT' ej=>by
   have hne:T'≠Td:=λe=>by rw[e,hG]at hT';cases hT'
   have st:zr G (upd G T' (.tup [.int u.1,.int u.2])):=zr.upd hT'
   have tt:xx (upd G T' (.tup [.int u.1,.int u.2])) (upd (upd G T' (.tup [.int u.1,.int u.2])) Td (.lst (vs++[.ref T']))):=λb xs e=>by
    rw[zO λz=>by rw[z]at e;rw[zO hne.symm,hG]at e;cases e];exact e
   refine⟨vs++[.ref T'],u::r,_,_,rfl,λb o e=>?_,zj,?_,by rw[et,ej],by simp;omega⟩
   ·rw[zO λz=>by rw[z,hTd]at e;cases e];exact st _ _ (sG _ _ e)
   ·rw[List.reverse_cons]
    exact PrL.tups (PrL.snoc (PrL.same pr st) zj) tt
  cases r with
  | nil =>
   have e0:vs=[]:=List.length_eq_zero_iff.mp (by simpa using hvl)
   subst e0
   refine xb (xb ?_)
   refine⟨_,rfl,.inl ⟨rfl,_,SqL.of hG⟩,_,rfl,_,rfl,by show 2<=sizeLine;decide,λT' hT'=>?_⟩
   have hne:T'≠Td:=λe=>by rw[e,hG]at hT';cases hT'
   exact⟨Td,[],_,rfl,rfl,zr.upd hT' _ _ hG,by show 0<sizeLine;decide,app T' hT' rfl⟩
  | cons p r =>
   rw[List.reverse_cons]at pr
   obtain⟨vs0,b,rfl,pr0,hb⟩:=PrL.unsnoc pr
   have hat:atI (vs0++[.ref b]) (-1)=some (.ref b):=Q8 (j:=1) (Nat.le_refl _) (by simp) (by simp)
   have hix:ixN (vs0++[V.ref b]).length (-1)=some vs0.length:=by
    unfold ixN
    rw[if_neg (by decide),List.length_append,List.length_singleton,if_pos (by omega),show (-1+((vs0.length+1:Nat):Int)).toNat=vs0.length by omega]
   rw[show decide (((vs0++[V.ref b]).length:Int)>0)=true from decide_eq_true (by rw[List.length_append,List.length_singleton];omega)]
   refine xk ⟨_,rfl,_,rfl,_,rfl,Td,_,_,_,rfl,rfl,.of hG,hat,b,_,_,_,rfl,rfl,.of hb,at1 ..,_,_,rfl,rfl,_,rfl,?_⟩
   by_cases c:u.1<=p.2
   ·rw[decide_eq_true c]
    refine xk ?_
    refine⟨_,rfl,_,rfl,Td,_,_,_,rfl,rfl,.of hG,hat,b,_,_,_,rfl,rfl,.of hb,at0 ..,_,rfl,by show 2<=sizeLine;decide,λT' hT'=>?_⟩
    have hne:T'≠Td:=λe=>by rw[e,hG]at hT';cases hT'
    have st:zr G (upd G T' (.tup [.int p.1,.int u.2])):=zr.upd hT'
    have tt:xx (upd G T' (.tup [.int p.1,.int u.2])) (upd (upd G T' (.tup [.int p.1,.int u.2])) Td (.lst (vs0++[.ref T']))):=λb xs e=>by
     rw[zO λz=>by rw[z]at e;rw[zO hne.symm,hG]at e;cases e];exact e
    have es:(vs0++[V.ref b]).set vs0.length (.ref T')=vs0++[.ref T']:=by
     rw[List.set_append_right _ _ (Nat.le_refl _),Nat.sub_self];rfl
    refine⟨_,rfl,_,rfl,Td,_,_,_,rfl,rfl,st _ _ hG,hix,?_⟩
    rw[es]
    refine⟨vs0++[.ref T'],(p.1,u.2)::r,_,_,rfl,λb o e=>?_,zj,?_,by rw[et];show _=if u.1<=p.2 then _ else _;rw[if_pos c],by simp at rl ⊢;omega⟩
    ·rw[zO λz=>by rw[z,hTd]at e;cases e];exact st _ _ (sG _ _ e)
    ·rw[List.reverse_cons]
     exact PrL.tups (PrL.snoc (u:=(p.1,u.2)) (PrL.same pr0 st) zj) tt
   ·rw[decide_eq_false c]
    refine xb ?_
    refine⟨_,rfl,.inl ⟨rfl,_,SqL.of hG⟩,_,rfl,_,rfl,by show 2<=sizeLine;decide,λT' hT'=>?_⟩
    exact⟨Td,_,_,rfl,rfl,zr.upd hT' _ _ hG,szl (by simp;simp at rl hvl;omega),app T' hT' (by show (if u.1<=p.2 then _ else _)=_;rw[if_neg c])⟩
 ·rintro σ G ⟨vs,r,y2,y3,rfl,sG,hG,pr,er,rl⟩
  rw[List.take_of_length_le (by omega)]at er
  refine⟨_,rfl,k Td G vs sG hTd hG ?_⟩
  rw[er]at pr;exact pr
end
end KK
end
section
set_option maxHeartbeats 8000000
set_option Elab.async false
set_option linter.all false
set_option maxRecDepth 100000
namespace KK
open PySem L2 KM
section
variable {P:Program}{w:World}{K:PySem.W.Frag}{mg:Str->Option Value}{base:Heap}{aN:Addr}
def zb1:Sp:=λvs H Q _=>∃lo hi g f l:Int,vs=[.int lo,.int hi,.int g,.int f,.int l]/\Bd 100000 lo/\Bd 100000 hi/\∀z H' ys,zr H H'->H z=none->H' z=some (.lst ys)->PrL H' ys (vM (vy lo hi g f l))->Q (.ref z) H'
theorem XF:zB ["low","high","gone_on","first","last","trip","unfolded","ways"] ["low","high","gone_on","first","last"] (zh xS):=⟨rfl,rfl,rfl,by decide +kernel,rfl,by decide +kernel,by decide +kernel⟩
theorem zcG (a b:Int):(if b>a then b else a)=mx a b:=by unfold mx;split <;> split <;> omega
theorem zcF (a b:Int):(if b<a then b else a)=mn a b:=by unfold mn;split <;> split <;> omega
theorem Jt {D1 D2:Addr}{us:List V}{ws:List (Int×Int)}{G1:Hp}{Z:Hp->Prop}(hD2:G1 D2=none) (hG1:G1 D1=some (.lst us)) (pr1:PrL G1 us ws) (l20:ws.length<=20)
  (k:∀H' ys,zr G1 H'->H' D2=some (.lst ys)->PrL H' ys (ws.filter λw=>decide (w.1<=w.2))->Z H') :
  ∃W:Nat->Nat->Hp->List V->Prop,(∃m,W 0 m (upd G1 D2 (.lst [])) [])/\∀i m H2 ys,W i m H2 ys->H2 D2=some (.lst ys)->((Itl K D1).stop i H2/\Z H2) ∨
   ((Itl K D1).go i H2/\∀σB x H3,σB.length=2->(Itl K D1).yld i H2 x H3->XZ K 2 (vL (zA 0) (vL (zA 1) QE)) x σB H3 λσ4 H4=>Vy (tOp (rI0 λi j=>V.bl (decide (i<=j))) (zZ 0) (zZ 1)) σ4 H4 λb H5=>if b=true then zau (xr (zZ 0) (xr (zZ 1) jh)) σ4 H5 (λv H6=>H6 D2=some (.lst ys)/\ys.length<sizeLine/\∃m',m'<m/\W (i+1) m' (upd H6 D2 (.lst (ys++[v]))) (ys++[v]))
    else H5 D2=some (.lst ys)/\∃m',m'<m/\W (i+1) m' H5 ys):=by
 have ull:us.length=ws.length:=pr1.1
 refine jT (Q:=λ_ H=>Z H) (g:=XZ K 2 (vL (zA 0) (vL (zA 1) QE))) (tt:=Vy (tOp (rI0 λi j=>V.bl (decide (i<=j))) (zZ 0) (zZ 1))) (te:=zau (xr (zZ 0) (xr (zZ 1) jh))) (n:=2) (J:=Itl K D1) (N:=us.length) (λi H2 ys=>zr G1 H2/\H2 D2=some (.lst ys)/\PrL H2 ys ((ws.take i).filter λw=>decide (w.1<=w.2))) ⟨zr.upd hD2,zj,⟨rfl,λi v e=>by simp at e⟩⟩ (λi H2 ys hi p=>(xC hG1).go i H2 hi p.1) (λH2 ys p=>(xC hG1).stop H2 p.1) ?_ ?_
 ·rintro i v zs H2 H3 ys Nx hN hi hz hy ⟨sa,hDa,pa⟩ hD2'
  obtain⟨rfl,hx⟩:=(xC hG1).yld i v H2 H3 sa hy
  obtain⟨u,a,hu,rfl,ha⟩:=pr1.2 i v hx
  obtain⟨w1,w2,rfl⟩:=JJ hz
  have et:ws.take (i+1)=ws.take i++[u]:=by rw[List.take_add_one,hu];rfl
  refine⟨a,_,rfl,.of (sa _ _ ha),rfl,_,_,rfl,_,_,rfl,rfl,?_⟩
  refine⟨_,rfl,_,rfl,_,_,rfl,rfl,_,rfl,?_⟩
  have pal:=pa.1
  have fl:=List.length_filter_le (λw:Int×Int=>decide (w.1<=w.2)) (ws.take i)
  have tl:=List.length_take_le i ws
  by_cases c:u.1<=u.2
  ·rw[decide_eq_true c]
   refine xk ⟨_,rfl,_,rfl,by show 2<=sizeLine;decide,λx hx=>?_⟩
   have hne:x≠D2:=λe=>by rw[e,hDa]at hx;cases hx
   have st:=zr.upd (o:=.tup [.int u.1,.int u.2]) hx
   refine⟨st _ _ hDa,szl (by omega),hN _ _ ⟨λb o e=>?_,zj,?_⟩⟩
   ·rw[zO (zU e hD2)];exact st _ _ (sa _ _ e)
   ·rw[et,List.filter_append,show [u].filter (λw=>decide (w.1<=w.2))=[u] by simp[c]]
    refine PrL.tups (PrL.snoc (PrL.same pa st) zj) λb xs e=>?_
    rw[zO λz=>by rw[z]at e;rw[st _ _ hDa]at e;cases e];exact e
  ·rw[decide_eq_false c]
   refine xb ⟨hDa,hN _ _ ⟨sa,hDa,?_⟩⟩
   rw[et,List.filter_append,show [u].filter (λw=>decide (w.1<=w.2))=[] by simp[c],List.append_nil];exact pa
 ·rintro H2 ys ⟨sa,hDa,pa⟩ _
  rw[List.take_of_length_le (by omega)]at pa
  exact k H2 ys sa hDa pa
theorem zcL (D:Df K mg "beginnings" xS ["low","high","gone_on","first","last"] []) (T:TxB K mg) (cJo:Cal P w K mg base "joined" 1 ["stretches"] [] zeg):Cal P w K mg base "beginnings" 2 ["low","high","gone_on","first","last"] [] zb1:=by
 refine D.cal (k:=1) XF (λvs H Q E h=>by obtain⟨_,_,_,_,_,rfl,_⟩:=h;rfl) (λfa cdv A outer s H vs Q E hr1 h=>?_)
 obtain⟨lo,hi,g,f,l,rfl,bl,bh,k⟩:=h
 have b2:Bd 1000000 (2:Int):=Bd.mono (m:=2) (show (2:Int).natAbs<2^2 by decide) (by decide)
 refine⟨_,(zi (zE (i:=5) XF.nd rfl (Or.inl rfl) (zt zJ zd (zt xH (pv 1) (pv 0))))
  (zi (zE (i:=6) XF.nd rfl (Or.inl rfl) (xl (za (zL (za (pv 3) (za (pv 4) ze))) (za (zL (za (zt xH (zt zJ zd (pv 1)) (pv 4)) (za (zt xH (zt zJ zd (pv 1)) (pv 3)) ze))) (za (zL (za (zt z8 (pv 5) (pv 3)) (za (zt z8 (pv 5) (pv 4)) ze))) ze)))))
  (zi (XB (i:=7) (NB:=["one","other"]) (FR:=["low","gone_on","high"]) (js:=[0,2,1]) rfl rfl (λx c h=>XY rfl rfl rfl x c h) (.cons rfl rfl rfl ⟨_,rfl⟩ (.cons rfl rfl rfl ⟨_,rfl⟩ (.cons rfl rfl rfl ⟨_,rfl⟩ .nil))) rfl (by decide +kernel) rfl (by decide +kernel) XF.nd rfl rfl (by rfl) (xR (pv 6)) (by intro _ _ _;refine⟨?_,?_,?_⟩;(exact(j3 (K:=K) (n:=2) rfl rfl (zM (zG (i:=0) (show List.Nodup (["one","other","low","gone_on","high"]:List Str) by decide +kernel) rfl (Or.inl rfl)) (zM (zG (i:=1) (show List.Nodup (["one","other","low","gone_on","high"]:List Str) by decide +kernel) rfl (Or.inl rfl)) xZ))));(exact xI);(exact(zL (za (zH (Xb rfl) (by rfl) T.nMax PyProof.Rows.boot_max (za (pv 2) (za (zt xH (pv 0) (pv 3)) ze))) (za (zH (VI rfl) (by rfl) T.nMin PyProof.Rows.boot_min (za (pv 4) (za (zt xH (pv 1) (pv 3)) ze))) ze))))))
  (zn (zD (zw cJo hr1 (za (vD (NB:=["one","other"]) rfl (by decide +kernel) (by decide +kernel) rfl (by decide +kernel) (xR (pv 7)) (by intro _ _ _;refine⟨?_,?_,?_⟩;(exact(j3 (K:=K) (n:=2) rfl rfl (zM (zG (i:=0) (show List.Nodup (["one","other"]:List Str) by decide +kernel) rfl (Or.inl rfl)) (zM (zG (i:=1) (show List.Nodup (["one","other"]:List Str) by decide +kernel) rfl (Or.inl rfl)) xZ))));(exact(XD (zC Xi (pv 0) (pv 1) (zF _))));(exact(zL (za (pv 0) (za (pv 1) ze)))))) ze))))))),?_⟩
 refine⟨_,rfl,_,rfl,_,_,rfl,rfl,_,_,rfl,rfl,⟨b2,(bh.sub bl).mono (by decide)⟩,?_⟩
 dsimp only[zA]
 refine⟨_,rfl,_,rfl,by show 2<=sizeLine;decide,λt1 ht1=>?_⟩
 refine⟨_,rfl,_,_,rfl,rfl,⟨b2,bh.mono (by decide)⟩,_,rfl,_,_,rfl,rfl,_,rfl,_,_,rfl,rfl,⟨b2,bh.mono (by decide)⟩,_,rfl,_,_,rfl,rfl,by show 2<=sizeLine;decide,λt2 ht2=>?_⟩
 refine⟨_,rfl,_,rfl,_,_,rfl,rfl,_,rfl,_,rfl,_,_,rfl,rfl,by show 2<=sizeLine;decide,λt3 ht3=>?_⟩
 refine⟨by show 3<=sizeLine;decide,λL hL=>?_⟩
 dsimp only[zA]
 have s1:=zr.upd (o:=.tup [.int f,.int l]) ht1
 have s2:=zr.upd (o:=.tup [.int (2*hi - l),.int (2*hi - f)]) ht2
 have s3:=zr.upd (o:=.tup [.int (2*(hi - lo)+f),.int (2*(hi - lo)+l)]) ht3
 have s4:=zr.upd (o:=.lst [.ref t1,.ref t2,.ref t3]) hL
 have S4:=s1.trans (s2.trans (s3.trans s4))
 have e1:=(s2.trans (s3.trans s4)) _ _ (zj (H:=H) (a:=t1) (o:=.tup [.int f,.int l]))
 have e2:=(s3.trans s4) _ _ (zj (a:=t2) (o:=.tup [.int (2*hi - l),.int (2*hi - f)]))
 have e3:=s4 _ _ (zj (a:=t3) (o:=.tup [.int (2*(hi - lo)+f),.int (2*(hi - lo)+l)]))
 have e4:upd (upd (upd (upd H t1 (.tup [.int f,.int l])) t2 (.tup [.int (2*hi - l),.int (2*hi - f)])) t3 (.tup [.int (2*(hi - lo)+f),.int (2*(hi - lo)+l)])) L (.lst [.ref t1,.ref t2,.ref t3]) L=some (.lst [.ref t1,.ref t2,.ref t3]):=zj
 clear s1 s2 s3 s4 ht1 ht2 ht3 hL
 generalize upd (upd (upd (upd H t1 (.tup [.int f,.int l])) t2 (.tup [.int (2*hi - l),.int (2*hi - f)])) t3 (.tup [.int (2*(hi - lo)+f),.int (2*(hi - lo)+l)])) L (.lst [.ref t1,.ref t2,.ref t3])=G at *
 have pr:PrL G [.ref t1,.ref t2,.ref t3] (unf lo hi f l):=by
  unfold unf
  rw[show hi+hi - l=2*hi - l by omega,show hi+hi - f=2*hi - f by omega,show hi - lo+(hi - lo)+f=2*(hi - lo)+f by omega,show hi - lo+(hi - lo)+l=2*(hi - lo)+l by omega]
  refine⟨rfl,λi v e=>?_⟩
  match i,e with
  | 0,e=>cases e;exact⟨_,t1,rfl,rfl,e1⟩
  | 1,e=>cases e;exact⟨_,t2,rfl,rfl,e2⟩
  | 2,e=>cases e;exact⟨_,t3,rfl,rfl,e3⟩
 have ul:(unf lo hi f l).length=3:=rfl
 clear e1 e2 e3
 refine⟨_,rfl,L,rfl,⟨_,SqL.of e4⟩,λD1 hD1=>?_⟩
 refine xP (js:=[0,2,1]) (J:=Itl K L) (g:=XZ K 2 (vL (zA 0) (vL (zA 1) QE))) (te:=_) (n:=2) (xs:=[.ref t1,.ref t2,.ref t3]) (λi v G=>∃u a,((unf lo hi f l).map (clp lo hi g))[i]? = some u/\v = .ref a/\G a=some (.tup [.int u.1,.int u.2])) (λi v G G' e ⟨u,a,e1,e2,e3⟩=>⟨u,a,e1,e2,e _ _ e3⟩) hD1 (xC e4) (by show 3<sizeLine;decide) ?_ ?_
 ·intro i v zs G2 Q' hv hz S2 hQ
  obtain⟨u,a,hu,rfl,ha⟩:=pr.2 i v hv
  obtain⟨w1,w2,rfl⟩:=JJ hz
  refine⟨a,_,rfl,.of (S2 _ _ ha),rfl,_,_,rfl,_,_,rfl,rfl,⟨rfl,?_⟩⟩
  refine⟨_,rfl,_,rfl,_,rfl,_,_,rfl,rfl,lo,u.1 - g,rfl,_,rfl,_,rfl,_,rfl,_,_,rfl,rfl,hi,u.2 - g,rfl,by show 2<=sizeLine;decide,λx hx=>hQ _ _ (zr.upd hx) ⟨clp lo hi g u,x,by rw[List.getElem?_map,hu];rfl,rfl,?_⟩⟩
  rw[zcG,zcF];exact zj
 intro us G1 s1 hG1 hul hR
 dsimp only[zA]
 have pr1:PrL G1 us ((unf lo hi f l).map (clp lo hi g)):=⟨by rw[hul,List.length_map,ul];rfl,hR⟩
 have wl:((unf lo hi f l).map (clp lo hi g)).length=3:=rfl
 have ew:vy lo hi g f l=((unf lo hi f l).map (clp lo hi g)).filter λw=>decide (w.1<=w.2):=rfl
 generalize (unf lo hi f l).map (clp lo hi g)=ws at *
 have S1:=S4.trans s1
 have ull:us.length=3:=by rw[pr1.1];exact wl
 refine⟨_,rfl,D1,rfl,⟨_,SqL.of hG1⟩,λD2 hD2=>?_⟩
 refine Jt hD2 hG1 pr1 (by omega) ?_
 ·rintro H2 ys sa hDa pa
  rw[<-ew]at pa
  have fl:=List.length_filter_le (λw:Int×Int=>decide (w.1<=w.2)) ws
  have S2:=S1.trans sa
  refine⟨D2,ys,_,rfl,hDa,pa,by rw[ew];omega,λz H' ys' s' hz hz' pz=>k z H' ys' (S2.trans s') ?_ hz' pz⟩
  cases hh:H z with
  | none=>rfl
  | some o=>have:=S2 _ _ hh;rw[hz]at this;cases this
end
end KK
end
section
set_option maxHeartbeats 8000000
set_option Elab.async false
set_option linter.all false
set_option maxRecDepth 100000
namespace KK
open PySem L2 KM
section
variable {P:Program}{w:World}{K:PySem.W.Frag}{mg:Str->Option Value}{base:Heap}{aN:Addr}
def zbz:Sp:=λvs H Q _=>∃r a bs b0 l1 l2,vs=[.ref r,.ref a]/\Pl H r a bs b0 (some l1) (some l2)/\plB b0 bs (some l1) (some l2)=true/\∀H',zr H H'->Q .non H'
theorem zaf:zB ["row","walls"] ["row","walls"] (zh xh):=⟨rfl,rfl,rfl,by decide +kernel,rfl,by decide +kernel,by decide +kernel⟩
theorem zcY (D:Df K mg "refuse_no_box" xh ["row","walls"] []) (cRu:Cal P w K mg base "refuse_uneven" 7 ["row","walls"] [] zbA):Cal P w K mg base "refuse_no_box" 8 ["row","walls"] [] zbz:=by
 refine D.cal (k:=7) zaf (λvs H Q E h=>by obtain⟨_,_,_,_,_,_,rfl,_⟩:=h;rfl) (λf cdv A outer s H vs Q E hr7 h=>?_)
 obtain⟨r,a,bs,b0,l1,l2,rfl,pl,hp,k⟩:=h
 refine⟨_,(zi (xw (zw cRu hr7 (za (pv 0) (za (pv 1) ze)))) (zn (zR ((jJ (zC vG (zo zm (pv 1) zd (λ_ _=>rfl)) xo (zF _)) (jm (zC vG (zo zm (pv 1) zd (λ_ _=>rfl)) xo (zF _))))).pt xK zI))),?_⟩
 refine⟨_,rfl,_,rfl,r,a,bs,b0,_,_,rfl,pl,hp,λH1 e1=>?_⟩
 dsimp only
 obtain⟨v1,v2,ha,h1,h2⟩:=pl.walls
 have ha1:=e1 _ _ ha
 obtain⟨a1,_,_,rfl,_⟩:=h1
 obtain⟨a2,_,_,rfl,_⟩:=h2
 refine⟨_,rfl,a,_,_,_,rfl,rfl,.of ha1,at0 ..,rfl,_,rfl,xb ⟨_,rfl,a,_,_,_,rfl,rfl,.of ha1,at1 ..,rfl,_,rfl,xb (k H1 e1)⟩⟩
def PrQ (H:Hp) (xs:List V) (ps:List (Rat×Rat)):Prop:=xs.length=ps.length/\∀(i:Nat) (v:V),xs[i]? = some v->∃u a p q,ps[i]? = some u/\v = .ref a/\H a=some (.tup [.ref p,.ref q])/\zu H p u.1/\zu H q u.2
theorem Sz.sub' {m n:Nat}{x y:Rat}(h:Sz m x) (k:Sz n y):Sz (m+n+1) (x - y):=by
 rw[<-KM.jX]
 refine .divInt (Int.mul_ne_zero (KM.zT x) (KM.zT y)) ?_ ((h.2.mul k.2).mono (by omega))
 exact((h.1.mul k.2).sub (k.1.mul h.2)).mono (by omega)
theorem Zr {m n:Nat}{x y:Rat}(h:Bd m (x.den:Int)) (k:Bd n (y.den:Int)):Bd (m+n) ((x - y).den:Int):=by
 rw[<-KM.jX]
 exact Bd.of_le (j:=x.den*y.den) (by have:=KM.vZ (t:=x.num*y.den - y.num*x.den) (b:=x.den*y.den) (Int.mul_ne_zero (KM.zT x) (KM.zT y));omega) (h.mul k)
theorem Zp {m n:Nat}{x y:Rat}(h:Bd m (x.den:Int)) (k:Bd n (y.den:Int)):Bd (m+n) ((x*y).den:Int):=by
 rw[<-KM.ZT]
 exact Bd.of_le (j:=x.den*y.den) (by have:=KM.vZ (t:=x.num*y.num) (b:=x.den*y.den) (Int.mul_ne_zero (KM.zT x) (KM.zT y));omega) (h.mul k)
theorem J7 {m n i j:Nat}{x y:Rat}(hy:0<y) (h1:Bd m (x.den:Int)) (h2:Bd n (y.den:Int)) (h3:Bd i y.num):Bd (i+m) (rst x y).num/\Bd (m+n) ((rst x y).den:Int):=by
 have b0:=Qg (x:=x) (qr hy)
 have nz:(x.den:Int)*y.den≠0:=Int.mul_ne_zero (KM.zT x) (KM.zT y)
 constructor
 ·refine Bd.of_le (KM.JP nz) (Bd.of_le (j:=y.num*x.den) ?_ (h3.mul h1))
  have:=Int.emod_nonneg (x.num*(y.den:Int)) (b:=y.num*x.den) (by omega)
  have:=Int.emod_lt_of_pos (x.num*(y.den:Int)) (b:=y.num*x.den) b0
  omega
 ·exact Bd.of_le (j:=x.den*y.den) (by have:=KM.vZ (t:=(x.num*y.den) % (y.num*x.den)) nz;unfold rst;omega) (h1.mul h2)
theorem zaB {ps:List Rat}{lo hi y:Rat}{k:Int}{w:Rat×Rat}(h:Xo ps lo hi k y=some w):(w.1=lo\/w.1=y)/\(w.2=hi\/w.2=y):=by
 unfold Xo at h
 split at h
 ·cases h
  refine⟨?_,?_⟩
  ·dsimp only;split
   ·exact .inl rfl
   ·exact .inr rfl
  ·dsimp only;split
   ·exact .inl rfl
   ·exact .inr rfl
 ·cases h
theorem Xg:∀(ws r:List (Int×Int)),(ws.foldl qm r).length<=r.length+ws.length
 | [],r=>Nat.le_refl _
 | w::ws,r=>by
  have:=Xg ws (qm r w)
  have:=VW r w
  show (ws.foldl qm (qm r w)).length<=_
  simp;omega
theorem VU {lo hi g f l:Int}:(vM (vy lo hi g f l)).length<=3:=by
 unfold vM
 rw[List.length_reverse]
 have:=Xg (vy lo hi g f l) []
 have h2:(vy lo hi g f l).length<=3:=by
  unfold vy
  exact Nat.le_trans (List.length_filter_le _ _) (Nat.le_refl 3)
 simp at this;omega
def zdj:Sp:=λvs H Q _=>∃r a m tm sp k bs lo hi x y v,vs=[.ref r,.ref a,.ref sp,.int k,.ref m,.ref tm]/\XT H r a m tm bs lo hi x y/\zu H sp v/\Sm v/\0<=k/\k<=bs.length/\lo<=y/\y<=hi ∧
 ∀z H' ys,zr H H'->H z=none->H' z=some (.lst ys)->PrQ H' ys (Q6 (qh bs lo hi x) lo hi (v*x) k y)->Q (.ref z) H'
theorem vv:zB ["row","walls","speed","k","place","t","wish","low","high","gone_on","numbers","bottom","tops","stretches"] ["row","walls","speed","k","place","t"] (zh jc):=⟨rfl,rfl,rfl,by decide +kernel,rfl,by decide +kernel,by decide +kernel⟩
theorem zcK (D:Df K mg "aims" jc ["row","walls","speed","k","place","t"] []) (T:TxB K mg) (cNx:Cal P w K mg base "refuse_no_box" 8 ["row","walls"] [] zbz) (cNb:Cal P w K mg base "refuse_no_ball" 1 ["many","k"] [] zdm) (cRnp:Cal P w K mg base "refuse_no_place" 2 ["walls","place"] [] zca) (cWis:Cal P w K mg base "wished" 9 ["row","walls","k","place","t"] [] zcd)
  (cRs:Cal P w K mg base "rest_of" 3 ["one","other"] [] zel) (cTi:Cal P w K mg base "times" 3 ["one","other"] [] (xJ Sz2 (· * ·))) (cR:Cal P w K mg base "ratio" 2 ["top","bottom"] [] xX) (cRd:Cal P w K mg base "ratio" 2 ["top","bottom"] [.int 1] xX) (cMi:Cal P w K mg base "minus" 3 ["one","other"] [] (xJ Sz2 (· - ·))) (cCb:Cal P w K mg base "common_bottom" 3 ["ratios"] [] zdk) (cBeg:Cal P w K mg base "beginnings" 2 ["low","high","gone_on","first","last"] [] zb1) :
  Cal P w K mg base "aims" 10 ["row","walls","speed","k","place","t"] [] zdj:=by
 refine D.cal (k:=9) vv (λvs H Q E h=>by obtain⟨_,_,_,_,_,_,_,_,_,_,_,_,rfl,_⟩:=h;rfl) (λf cdv A outer s H vs Q E hr9 h=>?_)
 obtain⟨r,a,m,tm,sp,k,bs,lo,hi,x,y,v,rfl,ak,hsp,sv,k0,k1,y0,y1,kk⟩:=h
 have hr1:zX 1 _:=hr9.mono (by decide)
 have hr2:zX 2 _:=hr9.mono (by decide)
 have hr3:zX 3 _:=hr9.mono (by decide)
 have hr8:zX 8 _:=hr9.mono (by decide)
 have z:=ak.z
 have lh:lo<hi:=z.lh _ _ rfl rfl
 have sl:Sm lo:=(z.sz _ (XR rfl)).1
 have sh:Sm hi:=(z.sz _ (XQ rfl)).1
 have sl4:Sz 4000 lo:=sl.sz.mono (by decide)
 have sh4:Sz 4000 hi:=sh.sz.mono (by decide)
 obtain⟨b0,hb0,pl⟩:=ak.ln.pl
 refine⟨_,(zi (xw (zw cNx hr8 (za (pv 0) (za (pv 1) ze))))
  (zi (xw (zw cNb hr1 (za (zt z8 (zH zN (by rfl) T.nLen PySem.boot_len (za (pv 0) ze)) zd) (za (pv 3) ze))))
  (zi (xw (zw cRnp hr2 (za (pv 1) (za (pv 4) ze))))
  (zi (zE (i:=6) vv.nd rfl (Or.inl rfl) (zw cWis hr9 (za (pv 0) (za (pv 1) (za (pv 3) (za (pv 4) (za (pv 5) ze)))))))
  (zi (zR (zC vG (pv 6) xo (zF _)) (zn (zD (xl ze))) zI)
  (zi (Zc (i:=7) (j:=8) rfl vv.nd rfl rfl (by decide) rfl rfl (za (zo zm (zo zm (pv 1) zd (λ_ _=>rfl)) zd (λ_ _=>rfl)) (za (zo zm (zo zm (pv 1) zd (λ_ _=>rfl)) zd (λ_ _=>rfl)) ze)) (by rfl))
  (zi (zE (i:=9) vv.nd rfl (Or.inl rfl) (zw cRs hr3 (za (zw cTi hr3 (za (pv 2) (za (pv 5) ze))) (za (zw cTi hr3 (za (zw cRd hr2 (za zd ze)) (za (zw cMi hr3 (za (pv 8) (za (pv 7) ze))) ze))) ze))))
  (zi (zE (i:=10) vv.nd rfl (Or.inl rfl) (xl (za (pv 7) (za (pv 8) (za (pv 9) (za (zo zm (pv 6) zd (λ_ _=>rfl)) (za (zo zm (pv 6) zd (λ_ _=>rfl)) ze)))))))
  (zi (zE (i:=11) vv.nd rfl (Or.inr rfl) (zw cCb hr3 (za (pv 10) ze)))
  (zi (XB (i:=12) (NB:=["one"]) (FR:=["bottom"]) (js:=[11]) rfl rfl (λx c h=>Qy rfl x c h) (.cons rfl rfl rfl ⟨_,rfl⟩ .nil) rfl (by decide +kernel) rfl (by decide +kernel) vv.nd rfl rfl (by rfl) (xR (pv 10)) (by intro _ _ _;refine⟨?_,?_,?_⟩;(exact(zG (i:=0) (show List.Nodup (["one","bottom"]:List Str) by decide +kernel) rfl (Or.inl rfl)));(exact xI);(exact(zt zJ (zo (xY (K:=K) rfl) (pv 0) zd (λ_ _=>rfl)) (zt qj (pv 1) (zo (xY (K:=K) rfl) (pv 0) zd (λ_ _=>rfl)))))))
  (zi (zE (i:=13) vv.nd rfl (Or.inl rfl) (zw cBeg hr2 (za (zo zS (pv 12) zd (λ_ _=>rfl)) (za (zo zS (pv 12) zd (λ_ _=>rfl)) (za (zo zS (pv 12) zd (λ_ _=>rfl)) (za (zo zS (pv 12) zd (λ_ _=>rfl)) (za (zo zS (pv 12) zd (λ_ _=>rfl)) ze)))))))
  (zn (zD (vn (NB:=["first","last"]) (FR:=["bottom"]) (js:=[11]) rfl rfl (λx c h=>Qy rfl x c h) (.cons rfl rfl rfl ⟨_,rfl⟩ .nil) rfl (by decide +kernel) rfl (by decide +kernel) (xR (pv 13)) (by intro _ _ _;refine⟨?_,?_,?_⟩;(exact(j3 (K:=K) (n:=2) rfl rfl (zM (zG (i:=0) (show List.Nodup (["first","last","bottom"]:List Str) by decide +kernel) rfl (Or.inl rfl)) (zM (zG (i:=1) (show List.Nodup (["first","last","bottom"]:List Str) by decide +kernel) rfl (Or.inl rfl)) xZ))));(exact xI);(exact(zL (za (zw cR hr2 (za (pv 0) (za (pv 2) ze))) (za (zw cR hr2 (za (pv 1) (za (pv 2) ze))) ze))))))))))))))))))),?_⟩
 refine⟨_,rfl,_,rfl,r,a,_,_,_,_,rfl,pl,ak.pl b0 hb0,λG1 s1=>?_⟩
 have ak1:=ak.same s1
 obtain⟨us,hrow,hrw⟩:=ak1.ln.row
 have hul:=hrw.1
 refine⟨_,rfl,r,us,rfl,.inr (SqT.of hrow),_,_,rfl,rfl,_,rfl,_,_,rfl,k0,by rw[hul];omega,?_⟩
 refine⟨_,rfl,_,rfl,a,m,lo,hi,y,rfl,ak1.ln.ws,ak1.my,sl4,sh4,ak.s4,y0,y1,?_⟩
 refine⟨_,rfl,_,rfl,_,rfl,_,rfl,_,rfl,r,a,m,tm,k,bs,lo,hi,x,y,rfl,ak1,λG2 s2 e2=>?_,λG2 wz p q w s2 e2 hwz hp hq=>?_⟩
 ·refine⟨_,rfl,rfl,_,rfl,xk ?_⟩
  refine⟨by show 0<=sizeLine;decide,λz hz=>?_⟩
  have s12:=s1.trans s2
  refine kk z _ [] (s12.trans (zr.upd hz)) ?_ zj ⟨?_,λi v e=>by simp at e⟩
  ·cases hh:H z with
   | none=>rfl
   | some o=>have:=s12 _ _ hh;rw[hz]at this;cases this
  ·unfold Q6;rw[e2];rfl
 refine⟨_,rfl,rfl,_,rfl,xb ?_⟩
 have s02:=s1.trans s2
 have ak2:=ak.same s02
 have hsp2:=s02 _ _ hsp
 obtain⟨wm1,wm2⟩:=zaB e2
 obtain⟨b',c',pl',ph,p',q',h1,h2,h3,h4,h5⟩:=ak2.ln.ws.w
 refine⟨_,rfl,a,_,_,_,rfl,rfl,.of h1,at0 ..,b',_,_,_,rfl,rfl,.of h2,at0 ..,_,rfl,a,_,_,_,rfl,rfl,.of h1,at1 ..,c',_,_,_,rfl,rfl,.of h3,at0 ..,_,_,rfl,?_⟩
 have one1:Bd 1 (1:Int):=(show (1:Int).natAbs<2^1 by decide)
 have e2r:Rat.divInt 2 1=2:=by rw[QN];rfl
 have sW:Sz 801 (hi - lo):=Sz.sub' sh.sz sl.sz
 have s2':Sz 2 (2:Rat):=⟨show (2:Int).natAbs<2^2 by decide,show (1:Int).natAbs<2^2 by decide⟩
 have sS:Sz 803 (2*(hi - lo)):=s2'.mul sW
 have sX:Sz 600 (v*x):=sv.sz.mul ak.sx
 have p0:0<2*(hi - lo):=by grind
 have dW:Bd 40 ((hi - lo).den:Int):=Zr sh.2 sl.2
 have dS:Bd 42 ((2*(hi - lo)).den:Int):=Zp s2'.2 dW
 have dX:Bd 220 ((v*x).den:Int):=Zp sv.2 ak.sx.2
 obtain⟨gn,gd⟩:=J7 (j:=0) p0 dX dS sS.1
 refine⟨_,rfl,_,rfl,sp,tm,v,x,rfl,hsp2,ak2.t,⟨sv.sz.mono (by decide),ak.sx.mono (by decide)⟩,λg1 G3 s3 hg1=>?_⟩
 refine⟨2,1,rfl,by decide,one1.mono (by decide),λg2 G4 s4 hg2=>?_⟩
 rw[e2r]at hg2
 have s24:=s3.trans s4
 refine⟨_,rfl,_,rfl,ph,pl',hi,lo,rfl,s24 _ _ h5,s24 _ _ h4,⟨sh4,sl4⟩,λg3 G5 s5 hg3=>?_⟩
 refine⟨g2,g3,_,_,rfl,s5 _ _ hg2,hg3,⟨s2'.mono (by decide),sW.mono (by decide)⟩,λg4 G6 s6 hg4=>?_⟩
 refine⟨g1,g4,_,_,rfl,s6 _ _ (s5 _ _ (s4 _ _ hg1)),hg4,⟨⟨sX.mono (by decide),sS.mono (by decide)⟩,p0⟩,λg5 G7 s7 hg5=>?_⟩
 dsimp only[zA]
 have s27:=s24.trans (s5.trans (s6.trans s7))
 have h4':=s27 _ _ h4
 have h5':=s27 _ _ h5
 have hwz':=s27 _ _ hwz
 have hp':=s27 _ _ hp
 have hq':=s27 _ _ hq
 have S7:=s02.trans s27
 clear s3 s4 s5 s6 s7 s24 hg1 hg2 hg3 hg4 h1 h2 h3 h4 h5 hwz hp hq
 have eg:Q6 (qh bs lo hi x) lo hi (v*x) k y=vM (vy lo hi (rst (v*x) (2*(hi - lo))) w.1 w.2):=by
  unfold Q6;rw[e2,show hi - lo+(hi - lo)=2*(hi - lo) by grind]
 rw[eg]at kk
 clear eg
 generalize hgg:rst (v*x) (2*(hi - lo))=gg at *
 refine⟨_,rfl,_,rfl,_,rfl,_,rfl,wz,_,_,_,rfl,rfl,.of hwz',at0 ..,_,rfl,wz,_,_,_,rfl,rfl,.of hwz',at1 ..,by show 5<=sizeLine;decide,λL hL=>?_⟩
 dsimp only[zA]
 have s8:=zr.upd (o:=.lst [.ref pl',.ref ph,.ref g5,.ref p,.ref q]) hL
 have hL8:upd G7 L (.lst [.ref pl',.ref ph,.ref g5,.ref p,.ref q]) L=some (.lst [.ref pl',.ref ph,.ref g5,.ref p,.ref q]):=zj
 generalize upd G7 L (.lst [.ref pl',.ref ph,.ref g5,.ref p,.ref q])=G8 at s8 hL8
 have rats:vJ G8 [.ref pl',.ref ph,.ref g5,.ref p,.ref q] [lo,hi,gg,w.1,w.2]:=by
  refine⟨rfl,λi v e=>?_⟩
  match i,e with
  | 0,e=>cases e;exact⟨_,_,rfl,rfl,s8 _ _ h4'⟩
  | 1,e=>cases e;exact⟨_,_,rfl,rfl,s8 _ _ h5'⟩
  | 2,e=>cases e;exact⟨_,_,rfl,rfl,s8 _ _ hg5⟩
  | 3,e=>cases e;exact⟨_,_,rfl,rfl,s8 _ _ hp'⟩
  | 4,e=>cases e;exact⟨_,_,rfl,rfl,s8 _ _ hq'⟩
 have ysz:Bd 2000 y.num/\Bd 400 (y.den:Int):=ak.sy
 have lsz:Bd 2000 lo.num/\Bd 400 (lo.den:Int):=⟨sl.1.mono (by decide),sl.2.mono (by decide)⟩
 have hsz:Bd 2000 hi.num/\Bd 400 (hi.den:Int):=⟨sh.1.mono (by decide),sh.2.mono (by decide)⟩
 have qsz:∀q∈[lo,hi,gg,w.1,w.2],Bd 2000 q.num/\Bd 400 (q.den:Int):=λq m=>by
  simp only[List.mem_cons,List.not_mem_nil,or_false]at m
  rcases m with rfl | rfl | rfl | rfl | rfl
  ·exact lsz
  ·exact hsz
  ·exact⟨gn.mono (by decide),gd.mono (by decide)⟩
  ·rcases wm1 with e | e <;> rw[e] <;> assumption
  ·rcases wm2 with e | e <;> rw[e] <;> assumption
 obtain⟨B0,B1,B2⟩:=Xu (λq m=>(qsz q m).2) (show [lo,hi,gg,w.1,w.2].length<=20 by show 5<=20;decide)
 refine⟨_,rfl,L,_,_,rfl,hL8,rats,λq m=>(qsz q m).2,by show 5<=20;decide,λG9 s9=>?_⟩
 dsimp only[zA]
 have hL9:=s9 _ _ hL8
 generalize hB:ZZ [lo,hi,gg,w.1,w.2]=B at B0 B1 B2
 refine⟨_,rfl,L,rfl,⟨_,SqL.of hL9⟩,λD1 hD1=>?_⟩
 refine xP (js:=[11]) (J:=Itl K L) (g:=zA 0) (te:=_) (n:=1) (xs:=[.ref pl',.ref ph,.ref g5,.ref p,.ref q]) (λi v G=>∃q,[lo,hi,gg,w.1,w.2][i]? = some q/\v = .int (byB q B)) (λi v G G' e h=>h) hD1 (xC hL9) (by show 5<sizeLine;decide) ?_ ?_
 ·intro i v zs G10 Q' hv hz S10 hQ
  obtain⟨w1,rfl⟩:=Xw hz
  obtain⟨p1,q1,rfl,eq1,hq1⟩:=rats.2 i v hv
  have hq10:=S10 _ _ (s9 _ _ hq1)
  have sq:=qsz q1 (List.mem_of_getElem? eq1)
  have d1:=den_pos q1
  exact⟨rfl,_,rfl,p1,_,_,_,rfl,rfl,.of hq10,at0 ..,_,rfl,_,rfl,p1,_,_,_,rfl,rfl,.of hq10,at1 ..,_,_,rfl,rfl,⟨by omega,sq.2.mono (by decide)⟩,_,_,rfl,rfl,⟨sq.1.mono (by decide),Bd9 (Zo B0 d1 B1)⟩,hQ _ _ (zr.refl _) ⟨q1,eq1,rfl⟩⟩
 intro us2 G10 s10 hG10 hul2 hR10
 dsimp only[zA]
 have e10:us2=[.int (byB lo B),.int (byB hi B),.int (byB gg B),.int (byB w.1 B),.int (byB w.2 B)]:=by
  have:=QD (f:=λq=>V.int (byB q B)) (qs:=[lo,hi,gg,w.1,w.2]) (by rw[hul2];rfl) hR10
  exact this
 subst e10
 have bb:∀q∈[lo,hi,gg,w.1,w.2],Bd 100000 (byB q B):=λq m=>((qsz q m).1.mul (Zo B0 (den_pos q) B1)).mono (by decide)
 refine⟨_,rfl,D1,_,_,_,rfl,rfl,.of hG10,rfl,_,rfl,D1,_,_,_,rfl,rfl,.of hG10,rfl,_,rfl,D1,_,_,_,rfl,rfl,.of hG10,rfl,_,rfl,D1,_,_,_,rfl,rfl,.of hG10,rfl,_,rfl,D1,_,_,_,rfl,rfl,.of hG10,rfl,_,_,_,_,_,rfl,bb lo (by simp),bb hi (by simp),λZ G11 ys11 s11 hZ hZ11 pr11=>?_⟩
 dsimp only[zA]
 have jl:(vM (vy (byB lo B) (byB hi B) (byB gg B) (byB w.1 B) (byB w.2 B))).length<=3:=VU
 have ejm:(vM (vy (byB lo B) (byB hi B) (byB gg B) (byB w.1 B) (byB w.2 B))).map (pm λi=>Rat.divInt i B)=vM (vy lo hi gg w.1 w.2):=by
  have E:=jw B0
  rw[VV E.le,E.ways]
  rw[jK B0 (B2 lo (by simp)),jK B0 (B2 hi (by simp)),jK B0 (B2 gg (by simp)),jK B0 (B2 w.1 (by simp)),jK B0 (B2 w.2 (by simp))]
 rw[<-ejm]at kk
 generalize vM (vy (byB lo B) (byB hi B) (byB gg B) (byB w.1 B) (byB w.2 B))=js at *
 have hyl:=pr11.1
 refine⟨_,rfl,Z,rfl,⟨_,SqL.of hZ11⟩,λD2 hD2=>?_⟩
 refine xP (js:=[11]) (J:=Itl K Z) (g:=XZ K 2 (vL (zA 0) (vL (zA 1) QE))) (te:=_) (n:=2) (xs:=ys11) (λi v G=>∃u a p q,(js.map (pm λi=>Rat.divInt i B))[i]? = some u/\v = .ref a/\G a=some (.tup [.ref p,.ref q])/\zu G p u.1/\zu G q u.2) (λi v G G' e ⟨u,a,p,q,e1,e2,e3,e4,e5⟩=>⟨u,a,p,q,e1,e2,e _ _ e3,e _ _ e4,e _ _ e5⟩) hD2 (xC hZ11) (ql (by omega)) ?_ ?_
 ·intro i v zs G12 Q' hv hz S12 hQ
  obtain⟨u,c1,hu,rfl,hc1⟩:=pr11.2 i v hv
  obtain⟨w1,w2,rfl⟩:=JJ hz
  refine⟨c1,_,rfl,.of (S12 _ _ hc1),rfl,_,_,rfl,_,_,rfl,rfl,⟨rfl,?_⟩⟩
  refine⟨_,rfl,_,rfl,u.1,B,rfl,by omega,B1,λd1 G13 s13 hd1=>?_⟩
  refine⟨_,rfl,_,rfl,u.2,B,rfl,by omega,B1,λd2 G14 s14 hd2=>?_⟩
  exact⟨by show 2<=sizeLine;decide,λx hx=>hQ _ _ (s13.trans (s14.trans (zr.upd hx))) ⟨pm (λi=>Rat.divInt i B) u,x,d1,d2,by rw[List.getElem?_map,hu];rfl,rfl,zj,zr.upd hx _ _ (s14 _ _ hd1),zr.upd hx _ _ hd2⟩⟩
 intro us12 G12 s12 hG12 hul12 hR12
 have S10:=S7.trans (s8.trans (s9.trans s10))
 have S11:=S10.trans s11
 refine kk D2 G12 us12 (S11.trans s12) ?_ hG12 ⟨by rw[List.length_map];omega,hR12⟩
 cases hh:H D2 with
 | none=>rfl
 | some o=>have:=S11 _ _ hh;rw[hD2]at this;cases this
end
end KK
end
section
set_option maxHeartbeats 4000000
set_option Elab.async false
set_option linter.all false
set_option maxRecDepth 100000
namespace KK
open PySem L2 KM
section
variable {P:Program}{w:World}{K:PySem.W.Frag}{mg:Str->Option Value}{base:Heap}
def On (x:Rat):Prop:=∃t:Int,x=Rat.divInt t 900000
theorem On.of {t v:Int}(h:v ∣ 900000) (h0:0<v):On (Rat.divInt t v):=by
 obtain⟨c,e⟩:=h
 have c0:c≠0:=λz=>by rw[z]at e;omega
 exact⟨t*c,by rw[e,Rat.divInt_mul_right c0]⟩
theorem On.add {x y:Rat}(h:On x) (k:On y):On (x+y):=by
 obtain⟨a,rfl⟩:=h;obtain⟨b,rfl⟩:=k
 exact⟨a+b,((jw (D:=900000) (by decide)).ad a b).symm⟩
theorem On.sub {x y:Rat}(h:On x) (k:On y):On (x - y):=by
 obtain⟨a,rfl⟩:=h;obtain⟨b,rfl⟩:=k
 exact⟨a - b,((jw (D:=900000) (by decide)).su a b).symm⟩
theorem On.den {x:Rat}(h:On x):Bd 20 (x.den:Int):=by
 obtain⟨a,rfl⟩:=h
 have:=KM.vZ (t:=a) (b:=900000) (by decide)
 show _<2^20
 omega
def QW:Sp:=λvs H Q _=>∃(p:Addr) (n:Int),vs=[.ref p,.int n]/\100000000<=n/\vW H p/\∀(d:Int) H',0<=d->d<n->xA p H H'->Q (.int d) H'
theorem Vt:zB ["pool","base","found","k"] ["pool","base"] (zh qF):=⟨rfl,rfl,rfl,by decide +kernel,rfl,by decide +kernel,by decide +kernel⟩
theorem zdX (D:Df K mg "_law_wide" qF ["pool","base"] []) (T:TxB K mg) (cN:Cal P w K mg base "_law_next" 1 ["pool","base"] [] je):Cal P w K mg base "_law_wide" 2 ["pool","base"] [] QW:=by
 refine D.cal (k:=1) Vt (λvs H Q E h=>by obtain⟨_,_,rfl,_⟩:=h;rfl) (λf cdv A outer s H vs Q E hr h=>?_)
 obtain⟨p,n,rfl,hn,hP,k⟩:=h
 refine⟨_,(zi (zR (zC jg (pv 1) (zt vm zd zd) (zF _)) (zn (zD (zw cN hr (za (pv 0) (za (pv 1) ze))))) zI)
  (zi (zE (i:=2) Vt.nd rfl (Or.inl rfl) zd)
  (zi (jb PassesOwn.never rfl (jC rfl T.nRange (za zd ze)) (zG (i:=3) Vt.nd rfl (Or.inl rfl)) (zn (zE (i:=2) Vt.nd rfl (Or.inl rfl) (zt z8 (zt zJ (pv 2) (zt vm zd zd)) (zw cN hr (za (pv 0) (za (zt vm zd zd) ze)))))))
  (zn (zD (zt vk (pv 2) (pv 1))))))),?_⟩
 refine⟨_,rfl,_,_,rfl,rfl,⟨by decide,by decide,by decide⟩,_,_,rfl,rfl,_,rfl,xQ (λh=>?_) (λh=>?_)⟩
 ·exact absurd (of_decide_eq_true h) (by show ¬n<10^8;have:(10:Int)^8=100000000:=by decide
                                         omega)
 refine⟨_,rfl,by decide,by decide,?_⟩
 refine jx (n:=(4:Int).toNat) (lo:=0) (λi σ G=>∃(z:Option V) (g:Int),σ=[some (.ref p),some (.int n),some (.int g),z]/\Bd (30+40*i) g/\xA p H G) ⟨none,0,rfl,Bd.mono (m:=1) (show (0:Int).natAbs<2^1 by decide) (by decide),xA.refl hP⟩ ?_ ?_
 ·rintro i σ G hi ⟨z,g,rfl,hg,tG⟩
  have hi4:i<4:=hi
  refine⟨_,rfl,_,_,rfl,rfl,⟨by decide,by decide,by decide⟩,_,_,rfl,rfl,⟨hg.mono (by omega),Bd.mono (m:=30) (bdn (by decide) (by decide)) (by decide)⟩,?_⟩
  refine⟨_,rfl,_,_,rfl,rfl,⟨by decide,by decide,by decide⟩,p,_,rfl,by decide,by decide,tG.pool,λd G2 d0 d1 t2=>⟨_,_,rfl,rfl,_,_,rfl,?_,tG.trans t2⟩⟩
  have e:((2:Int)^(28:Int).toNat)=268435456:=by decide
  have d1':d<268435456:=by rw[<-e];exact d1
  have b1:Bd 30 ((2:Int)^(28:Int).toNat):=bdn (by decide) (by decide)
  have b2:Bd 30 d:=bdn d0 (by omega)
  exact((hg.mul b1).add b2).mono (by omega)
 ·rintro σ G ⟨z,g,rfl,hg,tG⟩
  exact⟨_,rfl,_,rfl,_,_,rfl,rfl,by omega,k _ _ (Int.emod_nonneg _ (by omega)) (Int.emod_lt_of_pos _ (by omega)) tG⟩
def zej:Sp:=λvs H Q _=>∃(p:Addr) (n:Int),vs=[.ref p,.int n]/\0<=n/\n<=1000000/\vW H p/\∀r x H',xA p H H'->zu H' r x->Sz 80 x->On x->Bd 17 (x.den:Int)->Q (.ref r) H'
theorem zcE {d:Int}(h0:0<=d) (h1:d<8):∃v:Int,atI [V.int 1,.int 1,.int 1,.int 2,.int 3,.int 4,.int 6,.int ((10:Int)^(5:Int).toNat)] d=some (.int v)/\1<=v/\v<=100000/\v ∣ 900000:=by
 have:d=0\/d=1\/d=2\/d=3\/d=4\/d=5\/d=6\/d=7:=by omega
 rcases this with rfl | rfl | rfl | rfl | rfl | rfl | rfl | rfl
 all_goals exact⟨_,rfl,by decide,by decide,by decide⟩
theorem zbT:zB ["pool","size","bottom"] ["pool","size"] (zh qe):=⟨rfl,rfl,rfl,by decide +kernel,rfl,by decide +kernel,by decide +kernel⟩
theorem zdO (D:Df K mg "_law_ratio" qe ["pool","size"] []) (cN:Cal P w K mg base "_law_next" 1 ["pool","base"] [] je) (cWi:Cal P w K mg base "_law_wide" 2 ["pool","base"] [] QW) (cL:Cal P w K mg base "_law_low" 1 ["top","bottom"] [] xX):Cal P w K mg base "_law_ratio" 3 ["pool","size"] [] zej:=by
 refine D.calB (k:=2) zbT (λvs H Q E h=>by obtain⟨_,_,rfl,_⟩:=h;rfl) (λf cdv A outer s H vs Q E hr h=>?_)
 obtain⟨p,n,rfl,n0,n1,hP,k⟩:=h
 have hr1:zX 1 _:=hr.mono (by decide)
 refine⟨_,(ZC (zcp (i:=2) zbT.nd rfl (Or.inl rfl) (zdD zS (zcn (vB (Bx.mk zd) (vB (Bx.mk zd) (vB (Bx.mk zd) (vB (Bx.mk zd) (vB (Bx.mk zd) (vB (Bx.mk zd) (vB (Bx.mk zd) (vB (Bx.mk (zt vm zd zd)) zco))))))))) (Bx.mk (zw cN hr1 (za (pv 0) (za zd ze)))) (λ_ _=>rfl))) (Bx.mk (zi (zR (zC qN (zw cN hr1 (za (pv 0) (za zd ze))) zd (zF _)) (zn (zD (zw cL hr1 (za (zt xH (zw cWi hr (za (pv 0) (za (zt z8 (zt zJ zd (zt vm zd zd)) zd) ze))) (zt vm zd zd)) (za (pv 2) ze))))) zI)
  (zn (zD (zw cL hr1 (za (zt xH (zw cN hr1 (za (pv 0) (za (zt z8 (zt zJ zd (pv 1)) zd) ze))) (pv 1)) (za (pv 2) ze)))))))),?_⟩
 refine⟨_,_,rfl,rfl,⟨by decide,by decide,by decide⟩,by show 8<=sizeLine;decide,λl1 hl1=>?_⟩
 refine⟨_,rfl,p,_,rfl,by decide,by decide,hP.new hl1,λd1 G1 a1 b1 t1=>?_⟩
 obtain⟨v,ev,v0,v1,vd⟩:=zcE a1 b1
 have dv:∀t:Int,Bd 17 ((Rat.divInt t v).den:Int):=λt=>by
  have:=KM.vZ (t:=t) (b:=v) (by omega)
  show _<2^17
  omega
 refine⟨l1,_,_,_,rfl,rfl,.of (t1.keep l1 _ zj (hP.ne hl1)),ev,?_⟩
 have T1:xA p H G1:=t1.pre (zr.upd hl1)
 have vb:Bd 8900 v:=Bd.mono (m:=20) (bdn (by omega) (by omega)) (by decide)
 refine⟨_,rfl,p,_,rfl,by decide,by decide,t1.pool,λd2 G2 a2 b2 t2=>⟨rfl,_,rfl,xQ (λh=>?_) (λh=>?_)⟩⟩
 ·refine⟨_,rfl,_,_,rfl,rfl,⟨by decide,by decide,by decide⟩,_,_,rfl,rfl,⟨Bd.mono (m:=2) (bdn (by decide) (by decide)) (by decide),Bd.mono (m:=80) (bdn (by decide) (by decide)) (by decide)⟩,_,_,rfl,rfl,p,_,rfl,by decide,t2.pool,λd3 G3 a3 b3 t3=>?_⟩
  refine⟨_,_,rfl,rfl,⟨by decide,by decide,by decide⟩,_,_,rfl,rfl,_,rfl,_,_,rfl,by omega,vb,λr H' e h=>k r _ H' (((T1.trans t2).trans t3).same e) h (.divInt (by omega) ?_ (Bd.mono (m:=20) (bdn (by omega) (by omega)) (by decide))) (.of vd (by omega)) (dv _)⟩
  have e20:((10:Int)^(20:Int).toNat)=100000000000000000000:=by decide
  have b3':d3<2*((10:Int)^(20:Int).toNat)+1:=b3
  show Bd 80 (d3 - (10:Int)^(20:Int).toNat)
  rw[e20]at b3' ⊢
  exact Bd.mono (m:=68) (bdz (by omega) (by omega)) (by decide)
 ·refine⟨_,rfl,_,rfl,_,_,rfl,rfl,⟨Bd.mono (m:=2) (bdn (by decide) (by decide)) (by decide),Bd.mono (m:=30) (bdn (by omega) (by omega)) (by decide)⟩,_,_,rfl,rfl,p,_,rfl,by omega,by omega,t2.pool,λd3 G3 a3 b3 t3=>?_⟩
  refine⟨_,rfl,_,_,rfl,rfl,_,rfl,_,_,rfl,by omega,vb,λr H' e h=>k r _ H' (((T1.trans t2).trans t3).same e) h (.divInt (by omega) ?_ (Bd.mono (m:=20) (bdn (by omega) (by omega)) (by decide))) (.of vd (by omega)) (dv _)⟩
  exact Bd.mono (m:=30) (bdz (by omega) (by omega)) (by decide)
def zdo:Sp:=λvs H Q _=>∃(p:Addr),vs=[.ref p]/\vW H p/\∀r x H',xA p H H'->zu H' r x->Sz 5 x->On x->Q (.ref r) H'
theorem zcD {d:Int}(h0:0<=d) (h1:d<4):∃v:Int,atI [V.int 1,.int 1,.int 2,.int 3] d=some (.int v)/\1<=v/\v<=3/\v ∣ 900000:=by
 have:d=0\/d=1\/d=2\/d=3:=by omega
 rcases this with rfl | rfl | rfl | rfl
 all_goals exact⟨_,rfl,by decide,by decide,by decide⟩
theorem zea:zB ["pool"] ["pool"] (zh qg):=⟨rfl,rfl,rfl,by decide +kernel,rfl,by decide +kernel,by decide +kernel⟩
theorem zdR (D:Df K mg "_law_speed" qg ["pool"] []) (cN:Cal P w K mg base "_law_next" 1 ["pool","base"] [] je) (cL:Cal P w K mg base "_law_low" 1 ["top","bottom"] [] xX):Cal P w K mg base "_law_speed" 2 ["pool"] [] zdo:=by
 refine D.cal (k:=1) zea (λvs H Q E h=>by obtain⟨_,rfl,_⟩:=h;rfl) (λf cdv A outer s H vs Q E hr h=>?_)
 obtain⟨p,rfl,hP,k⟩:=h
 refine⟨_,(zn (zD (zw cL hr (za (zt xH (zw cN hr (za (pv 0) (za zd ze))) zd) (za (zo zS (xl (za zd (za zd (za zd (za zd ze))))) (zw cN hr (za (pv 0) (za zd ze))) (λ_ _=>rfl)) ze))))),?_⟩
 refine⟨_,rfl,p,_,rfl,by decide,by decide,hP,λd1 G1 a1 b1 t1=>⟨_,_,rfl,rfl,by show 4<=sizeLine;decide,λl1 hl1=>?_⟩⟩
 refine⟨_,rfl,p,_,rfl,by decide,by decide,t1.pool.new hl1,λd2 G2 a2 b2 t2=>?_⟩
 obtain⟨v,ev,v0,v1,vd⟩:=zcD a2 b2
 refine⟨l1,_,_,_,rfl,rfl,.of (t2.keep l1 _ zj (t1.pool.ne hl1)),ev,?_⟩
 refine⟨_,_,rfl,by omega,Bd.mono (m:=5) (bdn (by omega) (by omega)) (by decide),λr H' e h=>k r _ H' ((t1.trans (t2.pre (zr.upd hl1))).same e) h (.divInt (by omega) (bdz (by omega) (by omega)) (bdn (by omega) (by omega))) (.of vd (by omega))⟩
end
end KK
end
section
set_option maxHeartbeats 8000000
set_option Elab.async false
set_option linter.all false
set_option maxRecDepth 100000
namespace KM
theorem zcs {a b:Int}(hb:0<b):(Rat.divInt a b).num.fdiv ((Rat.divInt a b).den:Int)=a/b:=by
 have d:=den_pos (Rat.divInt a b)
 rw[Int.fdiv_eq_ediv_of_nonneg _ (by omega)]
 have cr:(Rat.divInt a b).num*b=a*((Rat.divInt a b).den:Int):=by
  have:=Rat.num_divInt_den (Rat.divInt a b)
  rw[Rat.divInt_eq_divInt_iff (by omega) (by omega)]at this
  exact this
 generalize (Rat.divInt a b).num=n at *
 generalize ((Rat.divInt a b).den:Int)=m at *
 have e1:(n*b)/(m*b)=n/m:=Int.mul_ediv_mul_of_pos_left _ _ hb
 have e2:(a*m)/(b*m)=a/b:=Int.mul_ediv_mul_of_pos_left _ _ d
 rw[<-e1,<-e2,cr,Int.mul_comm b m]
end KM
namespace KK
open PySem L2 KM
section
variable {P:Program}{w:World}{K:PySem.W.Frag}{mg:Str->Option Value}{base:Heap}{aN:Addr}
def zei:Sp:=xJ (λx y=>Sz2 x y/\y≠0) (· / ·)
theorem zac:zB ["a","b"] ["a","b"] (zh qD):=⟨rfl,rfl,rfl,by decide +kernel,rfl,by decide +kernel,by decide +kernel⟩
theorem JR (D:Df K mg "_law_part" qD ["a","b"] []) (cL:Cal P w K mg base "_law_low" 1 ["top","bottom"] [] xX):Cal P w K mg base "_law_part" 2 ["a","b"] [] zei:=by
 refine D.cal (k:=1) zac (λvs H Q E h=>by obtain⟨_,_,_,_,rfl,_⟩:=h;rfl) (λf cdv A outer s H vs Q E hr h=>?_)
 obtain⟨p,q,x,y,rfl,hp,hq,⟨⟨hx,hy⟩,hy0⟩,k⟩:=h
 have bx:=Bd4 hx
 have b_y:=Bd4 hy
 refine⟨_,(zn (zD (zw cL hr (za (zt zJ (zo zm (pv 0) zd (λ_ _=>rfl)) (zo zm (pv 1) zd (λ_ _=>rfl))) (za (zt zJ (zo zm (pv 0) zd (λ_ _=>rfl)) (zo zm (pv 1) zd (λ_ _=>rfl))) ze))))),?_⟩
 refine⟨_,rfl,p,_,_,_,rfl,rfl,.of hp,at0 ..,_,rfl,q,_,_,_,rfl,rfl,.of hq,at1 ..,_,_,rfl,rfl,⟨bx.1,b_y.2⟩,?_⟩
 refine⟨_,rfl,p,_,_,_,rfl,rfl,.of hp,at1 ..,_,rfl,q,_,_,_,rfl,rfl,.of hq,at0 ..,_,_,rfl,rfl,⟨bx.2,b_y.1⟩,?_⟩
 refine⟨_,_,rfl,Int.mul_ne_zero (KM.zT x) (λz=>hy0 (Rat.num_eq_zero.mp z)),(hx.2.mul hy.1).mono (by decide),λr H' e h=>k r H' e ?_⟩
 show zu H' r (x/y)
 rw[<-KM.j0];exact h
def zb5:Sp:=λvs H Q _=>∃(p:Addr),vs=[.ref p]/\vW H p/\∀r x H',xA p H H'->zu H' r x->Sz 110 x->0<=x->Q (.ref r) H'
theorem zcC {d:Int}(h0:0<=d) (h1:d<4):∃v:Int,atI [V.int 1,.int 2,.int 3,.int 5] d=some (.int v)/\1<=v/\v<=5:=by
 have:d=0\/d=1\/d=2\/d=3:=by omega
 rcases this with rfl | rfl | rfl | rfl
 all_goals exact⟨_,rfl,by decide,by decide⟩
theorem zbu:zB ["pool"] ["pool"] (zh xU):=⟨rfl,rfl,rfl,by decide +kernel,rfl,by decide +kernel,by decide +kernel⟩
theorem za7 (D:Df K mg "_law_moment" xU ["pool"] []) (cN:Cal P w K mg base "_law_next" 1 ["pool","base"] [] je) (cWi:Cal P w K mg base "_law_wide" 2 ["pool","base"] [] QW) (cL:Cal P w K mg base "_law_low" 1 ["top","bottom"] [] xX):Cal P w K mg base "_law_moment" 3 ["pool"] [] zb5:=by
 refine D.cal (k:=2) zbu (λvs H Q E h=>by obtain⟨_,rfl,_⟩:=h;rfl) (λf cdv A outer s H vs Q E hr h=>?_)
 obtain⟨p,rfl,hP,k⟩:=h
 have hr1:zX 1 _:=hr.mono (by decide)
 refine⟨_,(zi (zR (zC qN (zw cN hr1 (za (pv 0) (za zd ze))) zd (zF _)) (zn (zD (zw cL hr1 (za (zw cWi hr (za (pv 0) (za (zt vm zd zd) ze))) (za (zt z8 zd (zw cN hr1 (za (pv 0) (za zd ze)))) ze))))) zI)
  (zn (zD (zw cL hr1 (za (zw cN hr1 (za (pv 0) (za zd ze))) (za (zo zS (xl (za zd (za zd (za zd (za zd ze))))) (zw cN hr1 (za (pv 0) (za zd ze))) (λ_ _=>rfl)) ze)))))),?_⟩
 refine⟨_,rfl,p,_,rfl,by decide,by decide,hP,λd1 G1 a1 b1 t1=>⟨rfl,_,rfl,xQ (λh=>?_) (λh=>?_)⟩⟩
 ·refine⟨_,rfl,_,_,rfl,rfl,⟨by decide,by decide,by decide⟩,p,_,rfl,by decide,t1.pool,λd2 G2 a2 b2 t2=>?_⟩
  refine⟨_,rfl,p,_,rfl,by decide,by decide,t2.pool,λd3 G3 a3 b3 t3=>⟨_,_,rfl,rfl,_,_,rfl,by omega,Bd.mono (m:=5) (bdn (by omega) (by omega)) (by decide),λr H' e h=>?_⟩⟩
  have e30:((10:Int)^(30:Int).toNat)=1000000000000000000000000000000:=by decide
  have b2':d2<(10:Int)^(30:Int).toNat:=b2
  rw[e30]at b2'
  exact k r _ H' (((t1.trans t2).trans t3).same e) h (.divInt (by omega) (bdn a2 (by omega)) (Bd.mono (m:=5) (bdn (by omega) (by omega)) (by decide))) (jv (by omega) a2)
 ·refine⟨_,rfl,p,_,rfl,by decide,by decide,t1.pool,λd2 G2 a2 b2 t2=>⟨by show 4<=sizeLine;decide,λl1 hl1=>?_⟩⟩
  refine⟨_,rfl,p,_,rfl,by decide,by decide,t2.pool.new hl1,λd3 G3 a3 b3 t3=>?_⟩
  obtain⟨v,ev,v0,v1⟩:=zcC a3 b3
  refine⟨l1,_,_,_,rfl,rfl,.of (t3.keep l1 _ zj (t2.pool.ne hl1)),ev,?_⟩
  refine⟨_,_,rfl,by omega,Bd.mono (m:=5) (bdn (by omega) (by omega)) (by decide),λr H' e h=>k r _ H' (((t1.trans t2).trans (t3.pre (zr.upd hl1))).same e) h (.divInt (by omega) (Bd.mono (m:=10) (bdn a2 (by omega)) (by decide)) (Bd.mono (m:=5) (bdn (by omega) (by omega)) (by decide))) (jv (by omega) a2)⟩
def zeh:Sp:=xJ (λx y=>Sz 1700 x/\Sz 900 y/\0<y) rst
theorem Qk:zB ["a","b","part"] ["a","b"] (zh qE):=⟨rfl,rfl,rfl,by decide +kernel,rfl,by decide +kernel,by decide +kernel⟩
theorem JS (D:Df K mg "_law_rest" qE ["a","b"] []) (cPt:Cal P w K mg base "_law_part" 2 ["a","b"] [] zei) (cO:Cal P w K mg base "_law_off" 2 ["a","b"] [] (xJ Sz2 (· - ·))) (cBy:Cal P w K mg base "_law_by" 2 ["a","b"] [] (xJ Sz2 (· * ·))):Cal P w K mg base "_law_rest" 3 ["a","b"] [] zeh:=by
 refine D.cal (k:=2) Qk (λvs H Q E h=>by obtain⟨_,_,_,_,rfl,_⟩:=h;rfl) (λf cdv A outer s H vs Q E hr h=>?_)
 obtain⟨p,q,x,y,rfl,hp,hq,⟨hx,hy,y0⟩,k⟩:=h
 have yn:=qr y0
 refine⟨_,(zi (zE (i:=2) Qk.nd rfl (Or.inl rfl) (zw cPt hr (za (pv 0) (za (pv 1) ze))))
  (zn (zD (zw cO hr (za (pv 0) (za (zw cBy hr (za (pv 1) (za (zL (za (zt qj (zo zm (pv 2) zd (λ_ _=>rfl)) (zo zm (pv 2) zd (λ_ _=>rfl))) (za zd ze))) ze))) ze)))))),?_⟩
 refine⟨_,rfl,_,rfl,p,q,x,y,rfl,hp,hq,⟨⟨hx.mono (by decide),hy.mono (by decide)⟩,λe=>by rw[e]at y0;grind⟩,λt1 G1 s1 h1=>?_⟩
 dsimp only[zA]
 have e1:x/y=Rat.divInt (x.num*y.den) (y.num*x.den):=by rw[<-j0,Int.mul_comm (x.den:Int)]
 have b0:=Qg (x:=x) yn
 have fl:=zcs (a:=x.num*(y.den:Int)) b0
 have mu:=Qh (x:=x) (s:=y) yn
 have zq:Sz 2600 (x/y):=by rw[e1];exact .divInt (by omega) (hx.1.mul hy.2) (hy.1.mul hx.2)
 rw[<-e1]at fl
 have h1:zu G1 t1 (x/y):=h1
 clear e1
 generalize (x/y)=z at *
 refine⟨_,rfl,_,rfl,_,rfl,t1,_,_,_,rfl,rfl,.of h1,at0 ..,_,rfl,t1,_,_,_,rfl,rfl,.of h1,at1 ..,_,_,rfl,rfl,⟨zT z,zq.2.mono (by decide)⟩,by show 2<=sizeLine;decide,λt2 h2=>?_⟩
 dsimp only[jh]
 rw[fl]
 have bf:Bd 2600 ((x.num*(y.den:Int))/(y.num*(x.den:Int))):=by
  rw[<-fl,Int.fdiv_eq_ediv_of_nonneg _ (by have:=den_pos z;omega)]
  refine zq.1.of_le ?_
  have:=den_pos z
  exact Int.natAbs_ediv_le_natAbs _ _
 generalize (x.num*(y.den:Int))/(y.num*(x.den:Int))=j at *
 have s2:=zr.upd (o:=.tup [.int j,.int 1]) h2
 have hj:zu (upd G1 t2 (.tup [.int j,.int 1])) t2 (j:Rat):=by
  show _=some (HO.tup [.int ((j:Rat)).num,.int (((j:Rat)).den:Int)])
  rw[Vk,Vj];exact zj
 generalize upd G1 t2 (.tup [.int j,.int 1])=G2 at s2 hj
 have s12:=s1.trans s2
 refine⟨q,t2,y,_,rfl,s12 _ _ hq,hj,⟨hy.mono (by decide),Sz.mono (Sz.int bf (by decide)) (by decide)⟩,λt3 G3 s3 h3=>?_⟩
 have s13:=s12.trans s3
 refine⟨p,t3,x,_,rfl,s13 _ _ hp,h3,⟨hx.mono (by decide),Sz.mono (Sz.mul hy (Sz.int bf (by decide))) (by decide)⟩,λt4 G4 s4 h4=>k t4 G4 (s13.trans s4) ?_⟩
 have:x - y*(j:Rat)=rst x y:=by rw[Rat.mul_comm];grind
 rw[<-this];exact h4
def zao:Sp:=λvs H Q _=>∃bl a tm b lo hi x,vs=[.ref bl,.ref a,.ref tm]/\Xp H (.ref bl) b/\XW H a lo hi/\zu H tm x/\Sz 1000 b.pl/\Sz 200 b.sp/\Sz 200 lo/\Sz 200 hi/\Sz 200 x/\lo<hi/\∀r H',zr H H'->zu H' r (xN lo hi (b.pl+b.sp*x))->Sz 3500 (xN lo hi (b.pl+b.sp*x))->Q (.ref r) H'
theorem jo:zB ["ball","walls","t","gap","way","rest"] ["ball","walls","t"] (zh qB):=⟨rfl,rfl,rfl,by decide +kernel,rfl,by decide +kernel,by decide +kernel⟩
theorem XW.same {H H':Hp}{a:Addr}{lo hi:Rat}(h:XW H a lo hi) (s:zr H H'):XW H' a lo hi:=by
 obtain⟨b,c,p,q,p',q',h1,h2,h3,h4,h5⟩:=h.w
 exact⟨b,c,p,q,p',q',s _ _ h1,s _ _ h2,s _ _ h3,s _ _ h4,s _ _ h5⟩
theorem JQ (D:Df K mg "_law_line" qB ["ball","walls","t"] []) (cA:Cal P w K mg base "_law_add" 2 ["a","b"] [] (xJ Sz2 (· + ·))) (cO:Cal P w K mg base "_law_off" 2 ["a","b"] [] (xJ Sz2 (· - ·))) (cBy:Cal P w K mg base "_law_by" 2 ["a","b"] [] (xJ Sz2 (· * ·))) (cRs:Cal P w K mg base "_law_rest" 3 ["a","b"] [] zeh) (cBl:Cal P w K mg base "_law_below" 1 ["a","b"] [] XM) :
  Cal P w K mg base "_law_line" 4 ["ball","walls","t"] [] zao:=by
 refine D.cal (k:=3) jo (λvs H Q E h=>by obtain⟨_,_,_,_,_,_,_,rfl,_⟩:=h;rfl) (λf cdv A outer s H vs Q E hr h=>?_)
 obtain⟨bl,a,tm,b,lo,hi,x,rfl,hb,hw,ht,z1,z2,z3,z4,z5,lh,k⟩:=h
 have hr1:zX 1 _:=hr.mono (by decide)
 have hr2:zX 2 _:=hr.mono (by decide)
 obtain⟨a0,pp,ps,e0,hb,hpl,hps⟩:=hb
 cases e0
 refine⟨_,(zi (zE (i:=3) jo.nd rfl (Or.inl rfl) (zw cO hr2 (za (zo zm (zo zm (pv 1) zd (λ_ _=>rfl)) zd (λ_ _=>rfl)) (za (zo zm (zo zm (pv 1) zd (λ_ _=>rfl)) zd (λ_ _=>rfl)) ze))))
  (zi (zE (i:=4) jo.nd rfl (Or.inl rfl) (zw cA hr2 (za (zw cO hr2 (za (zo zm (pv 0) zd (λ_ _=>rfl)) (za (zo zm (zo zm (pv 1) zd (λ_ _=>rfl)) zd (λ_ _=>rfl)) ze))) (za (zw cBy hr2 (za (zo zm (pv 0) zd (λ_ _=>rfl)) (za (pv 2) ze))) ze))))
  (zi (zE (i:=5) jo.nd rfl (Or.inl rfl) (zw cRs hr (za (pv 4) (za (zw cA hr2 (za (pv 3) (za (pv 3) ze))) ze))))
  (zi (zR (xj (zw cBl hr1 (za (pv 3) (za (pv 5) ze))) λ_=>rfl) (zn (zE (i:=5) jo.nd rfl (Or.inl rfl) (zw cO hr2 (za (zw cA hr2 (za (pv 3) (za (pv 3) ze))) (za (pv 5) ze))))) zI)
  (zn (zD (zw cA hr2 (za (zo zm (zo zm (pv 1) zd (λ_ _=>rfl)) zd (λ_ _=>rfl)) (za (pv 5) ze))))))))),?_⟩
 obtain⟨b',c',pl',ph,p',q',h1,h2,h3,h4,h5⟩:=hw.w
 have w4:∀{q:Rat},Sz 200 q->Sz 4000 q:=λh=>h.mono (by decide)
 refine⟨_,rfl,a,_,_,_,rfl,rfl,.of h1,at1 ..,c',_,_,_,rfl,rfl,.of h3,at0 ..,_,rfl,a,_,_,_,rfl,rfl,.of h1,at0 ..,b',_,_,_,rfl,rfl,.of h2,at0 ..,ph,pl',hi,lo,rfl,h5,h4,⟨w4 z4,w4 z3⟩,λg1 G1 s1 hg1=>?_⟩
 have hg1:zu G1 g1 (hi - lo):=hg1
 have sg:Sz 401 (hi - lo):=Sz.sub' z4 z3
 refine⟨_,rfl,bl,_,_,_,rfl,rfl,.of (s1 _ _ hb),rfl,_,rfl,a,_,_,_,rfl,rfl,.of (s1 _ _ h1),at0 ..,b',_,_,_,rfl,rfl,.of (s1 _ _ h2),at0 ..,pp,pl',b.pl,lo,rfl,s1 _ _ hpl,s1 _ _ h4,⟨z1.mono (by decide),w4 z3⟩,λg2 G2 s2 hg2=>?_⟩
 have s12:=s1.trans s2
 refine⟨_,rfl,bl,_,_,_,rfl,rfl,.of (s12 _ _ hb),rfl,_,rfl,ps,tm,b.sp,x,rfl,s12 _ _ hps,s12 _ _ ht,⟨w4 z2,w4 z5⟩,λg3 G3 s3 hg3=>?_⟩
 have sp1:Sz 1201 (b.pl - lo):=Sz.sub' z1 z3
 have sp2:Sz 400 (b.sp*x):=z2.mul z5
 refine⟨g2,g3,_,_,rfl,s3 _ _ hg2,hg3,⟨sp1.mono (by decide),sp2.mono (by decide)⟩,λg4 G4 s4 hg4=>?_⟩
 have hg4:zu G4 g4 (b.pl - lo+b.sp*x):=hg4
 have sw:Sz 1602 (b.pl - lo+b.sp*x):=sp1.add sp2
 have ew:b.pl+b.sp*x - lo=b.pl - lo+b.sp*x:=by grind
 have s14:=s12.trans (s3.trans s4)
 have hg14:=s2.trans (s3.trans s4) _ _ hg1
 clear hg2 hg3 hg1
 refine⟨_,rfl,_,rfl,_,rfl,g1,g1,_,_,rfl,hg14,hg14,⟨sg.mono (by decide),sg.mono (by decide)⟩,λg5 G5 s5 hg5=>?_⟩
 have hg5:zu G5 g5 (hi - lo+(hi - lo)):=hg5
 have s2g:Sz 803 (hi - lo+(hi - lo)):=sg.add sg
 have p0:0<hi - lo+(hi - lo):=by grind
 refine⟨g4,g5,_,_,rfl,s5 _ _ hg4,hg5,⟨sw.mono (by decide),s2g.mono (by decide),p0⟩,λg6 G6 s6 hg6=>?_⟩
 have hF:xN lo hi (b.pl+b.sp*x)=if hi - lo<rst (b.pl - lo+b.sp*x) (hi - lo+(hi - lo))then lo+(hi - lo+(hi - lo) - rst (b.pl - lo+b.sp*x) (hi - lo+(hi - lo)))else lo+rst (b.pl - lo+b.sp*x) (hi - lo+(hi - lo)):=by unfold xN;rw[ew]
 obtain⟨rn,rd⟩:=J7 (j:=0) p0 sw.2 s2g.2 s2g.1
 have sr:Sz 2405 (rst (b.pl - lo+b.sp*x) (hi - lo+(hi - lo))):=⟨rn.mono (by decide),rd.mono (by decide)⟩
 rw[hF]at k
 clear hF rn rd sw ew sp1 sp2
 generalize rst (b.pl - lo+b.sp*x) (hi - lo+(hi - lo))=r at *
 have s16:=s14.trans (s5.trans s6)
 have hg16:=s5.trans s6 _ _ hg14
 dsimp only[zA]
 refine⟨_,rfl,_,rfl,g1,g6,_,_,rfl,hg16,hg6,⟨sg.mono (by decide),sr.mono (by decide)⟩,_,rfl,?_⟩
 by_cases c:hi - lo<r
 ·rw[decide_eq_true c]
  rw[if_pos c]at k
  refine xk ⟨_,rfl,_,rfl,g1,g1,_,_,rfl,hg16,hg16,⟨sg.mono (by decide),sg.mono (by decide)⟩,λg7 G7 s7 hg7=>?_⟩
  refine⟨_,rfl,g7,g6,_,_,rfl,hg7,s7 _ _ hg6,⟨s2g.mono (by decide),sr.mono (by decide)⟩,λg8 G8 s8 hg8=>?_⟩
  dsimp only[zA]
  have s18:=s16.trans (s7.trans s8)
  exact⟨_,rfl,a,_,_,_,rfl,rfl,.of (s18 _ _ h1),at0 ..,b',_,_,_,rfl,rfl,.of (s18 _ _ h2),at0 ..,_,rfl,pl',g8,_,_,rfl,s18 _ _ h4,hg8,⟨w4 z3,Sz.mono (Sz.sub' s2g sr) (by decide)⟩,λg9 G9 s9 hg9=>k g9 G9 (s18.trans s9) hg9 (Sz.mono (z3.add (Sz.sub' s2g sr)) (by decide))⟩
 ·rw[decide_eq_false c]
  rw[if_neg c]at k
  refine xb ?_
  exact⟨_,rfl,a,_,_,_,rfl,rfl,.of (s16 _ _ h1),at0 ..,b',_,_,_,rfl,rfl,.of (s16 _ _ h2),at0 ..,_,rfl,pl',g6,_,_,rfl,s16 _ _ h4,hg6,⟨w4 z3,sr.mono (by decide)⟩,λg9 G9 s9 hg9=>k g9 G9 (s16.trans s9) hg9 (Sz.mono (z3.add sr) (by decide))⟩
end
end KK
end
section
set_option maxHeartbeats 8000000
set_option Elab.async false
set_option linter.all false
set_option maxRecDepth 100000
namespace L2
open PySem
theorem jR {K:PySem.W.Frag}{H:Hp}{a b:Addr}{xs ys:List V}{Q:VK}(ha:H a=some (.tup xs)) (hb:H b=some (.tup ys)) (hl:xs.length+ys.length<=1000) (k:∀q H',zr H H'->H' q=some (.tup (xs++ys))->Q (.ref q) H'):zbQ K (.ref a) (.ref b) H Q :=
 ⟨a,b,xs,ys,rfl,rfl,.of ha,.of hb,szl hl,λz=>k b H (zr.refl _) (by rw[z];exact hb),λ_ z=>k a H (zr.refl _) (by rw[z,List.append_nil];exact ha),λ_ _ p hp=>k p _ (zr.upd hp) zj⟩
end L2
namespace KK
open PySem L2 KM
theorem JG {n a:Nat}(h:a<n):ixN n (a:Int)=some a:=by
 unfold ixN
 rw[if_pos (by omega),if_pos (by omega),Int.toNat_natCast]
abbrev AR:=Addr×Rat
def rfs (zs:List AR):List V:=zs.map λz=>V.ref z.1
def BbI (i:Nat) (zs:List AR):Prop:=∀a b x y,a<b->zs.length - i<=b->zs[a]? = some x->zs[b]? = some y->x.2<=y.2
def BbJ (i k:Nat) (zs:List AR):Prop:=∀a b x y,a<b->(b=k\/zs.length - i<=b\/(zs.length - 1 - i<=b/\b<=k))->zs[a]? = some x->zs[b]? = some y->x.2<=y.2
def swp (zs:List AR) (k:Nat) (u v:AR):List AR:=(zs.set k v).set (k+1) u
theorem zbC (zs:List AR) (k:Nat) (u v:AR):(swp zs k u v).length=zs.length:=by unfold swp;simp
theorem Zy {zs:List AR}{k:Nat}{u v:AR}(eu:zs[k]? = some u) (ev:zs[k+1]? = some v) (j:Nat):(swp zs k u v)[j]? = if j=k then some v else if j=k+1 then some u else zs[j]?:=by
 have h1:=(List.getElem?_eq_some_iff.mp ev).1
 unfold swp
 rw[List.getElem?_set,List.getElem?_set,List.length_set]
 by_cases e1:j=k
 ·rw[if_pos e1,if_neg (by omega),if_pos e1.symm,if_pos (by omega)]
 ·by_cases e2:j=k+1
  ·rw[if_pos e2.symm,if_pos (by omega),if_neg e1,if_pos e2]
  ·rw[if_neg (Ne.symm e2),if_neg (Ne.symm e1),if_neg e1,if_neg e2]
theorem zar {zs:List AR}{k:Nat}{u v:AR}(eu:zs[k]? = some u) (ev:zs[k+1]? = some v):(swp zs k u v).Perm zs:=by
 obtain⟨h0,rfl⟩:=List.getElem?_eq_some_iff.mp eu
 obtain⟨h1,rfl⟩:=List.getElem?_eq_some_iff.mp ev
 exact List.set_set_perm h0 h1
theorem zbD {zs:List AR}{k:Nat}{u v:AR}:rfs (swp zs k u v)=((rfs zs).set k (V.ref v.1)).set (k+1) (V.ref u.1):=by unfold rfs swp;rw[List.map_set,List.map_set]
theorem zaJ {i k:Nat}{zs:List AR}{u v:AR}(h:BbJ i k zs) (eu:zs[k]? = some u) (ev:zs[k+1]? = some v) (le:u.2<=v.2):BbJ i (k+1) zs:=by
 have key:∀a x,a<k+1->zs[a]? = some x->x.2<=v.2:=λa x ha ex=>by
  by_cases e:a=k
  ·subst e;rw[eu]at ex;cases ex;exact le
  ·exact Rat.le_trans (h a k x u (by omega) (.inl rfl) ex eu) le
 intro a b x y ab hb ex ey
 by_cases e:b=k+1
 ·subst e;rw[ev]at ey;cases ey;exact key a x ab ex
 ·exact h a b x y ab (by omega) ex ey
theorem zaK {i k:Nat}{zs:List AR}{u v:AR}(h:BbJ i k zs) (eu:zs[k]? = some u) (ev:zs[k+1]? = some v) (lt:v.2<u.2):BbJ i (k+1) (swp zs k u v):=by
 have hk:k+1<zs.length - i:=by
  rcases Nat.lt_or_ge (k+1) (zs.length - i)with z | z
  ·exact z
  ·have:=h k (k+1) u v (by omega) (.inr (.inl z)) eu ev;grind
 have key:∀a x,a<k+1->(swp zs k u v)[a]? = some x->x.2<=u.2:=λa x ha ex=>by
  rw[Zy eu ev]at ex
  by_cases e:a=k
  ·rw[if_pos e]at ex;cases ex;grind
  ·rw[if_neg e,if_neg (by omega)]at ex
   exact h a k x u (by omega) (.inl rfl) ex eu
 intro a b x y ab hb ex ey
 rw[zbC]at hb
 by_cases e:b=k+1
 ·have ey':=ey
  rw[Zy eu ev,if_neg (by omega),if_pos e]at ey'
  cases ey'
  exact key a x (by omega) ex
 ·have hb':zs.length - i<=b:=by omega
  rw[Zy eu ev,if_neg (by omega),if_neg (by omega)]at ey
  rw[Zy eu ev]at ex
  split at ex
  ·cases ex;exact h (k+1) b v y (by omega) (.inr (.inl hb')) ev ey
  ·split at ex
   ·cases ex;exact h k b u y (by omega) (.inr (.inl hb')) eu ey
   ·exact h a b x y ab (.inr (.inl hb')) ex ey
theorem Jj {i:Nat}{zs:List AR}(h:BbI i zs):BbJ i 0 zs:=λa b x y ab hb ex ey=>h a b x y ab (by omega) ex ey
theorem zcl {i:Nat}{zs:List AR}(h:BbJ i (zs.length - 1) zs):BbI (i+1) zs:=λa b x y ab hb ex ey=>by
 have:=(List.getElem?_eq_some_iff.mp ey).1
 exact h a b x y ab (by omega) ex ey
theorem zaL (zs:List AR):BbI 0 zs:=λa b x y ab hb ex ey=>by
 have:=(List.getElem?_eq_some_iff.mp ey).1
 omega
theorem VG {zs:List AR}(h:BbI zs.length zs):zs.Pairwise (λx y=>x.2<=y.2) :=
 List.pairwise_iff_getElem.mpr λi j hi hj ij=>h i j _ _ ij (by omega) (List.getElem?_eq_getElem hi) (List.getElem?_eq_getElem hj)
section
variable {P:Program}{w:World}{K:PySem.W.Frag}{mg:Str->Option Value}{base:Heap}
def zcc:Sp:=λvs H Q _=>∃a zs,vs=[.ref a]/\H a=some (.lst (rfs zs))/\(∀z∈zs,zu H z.1 z.2/\Sz 4000 z.2)/\zs.length<=20/\∀l zs' H',zr H H'->H l=none->H' l=some (.lst (rfs zs'))->zs'.Perm zs->zs'.Pairwise (λx y=>x.2<=y.2)->Q (.ref l) H'
theorem Vs:zB ["ratios","found","turn","k"] ["ratios"] (zh xV):=⟨rfl,rfl,rfl,by decide +kernel,rfl,by decide +kernel,by decide +kernel⟩
theorem zc2 (D:Df K mg "_law_sorted" xV ["ratios"] []) (T:TxQ K mg) (cBl:Cal P w K mg base "_law_below" 1 ["a","b"] [] XM):Cal P w K mg base "_law_sorted" 2 ["ratios"] [] zcc:=by
 refine D.calB (k:=1) Vs (λvs H Q E h=>by obtain⟨_,_,rfl,_⟩:=h;rfl) (λf cdv A outer s H vs Q E hr h=>?_)
 obtain⟨a,zs,rfl,ha,hz,h8,k⟩:=h
 have hr1:zX 1 _:=hr
 refine⟨_,(ZC (Bx.mk (zE (i:=1) Vs.nd rfl (Or.inl rfl) (jA jQ (by rfl) T.nList PyProof.Rows.boot_list (za (pv 0) ze))))
  (ZC (Bx.mk (jb PassesOwn.never rfl (jC rfl T.nRange (za (zH zN (by rfl) T.nLen PySem.boot_len (za (pv 1) ze)) ze)) (zG (i:=2) Vs.nd rfl (Or.inl rfl)) (zn (jb PassesOwn.never rfl (jC rfl T.nRange (za (zt xH (zH zN (by rfl) T.nLen PySem.boot_len (za (pv 1) ze)) zd) ze)) (zG (i:=3) Vs.nd rfl (Or.inl rfl)) (zn (zR (xj (zw cBl hr1 (za (zo zS (pv 1) (zt z8 (pv 3) zd) (λ_ _=>rfl)) (za (zo zS (pv 1) (pv 3) (λ_ _=>rfl)) ze))) λ_=>rfl) (zn (ja (zL (za (zo zS (pv 1) (zt z8 (pv 3) zd) (λ_ _=>rfl)) (za (zo zS (pv 1) (pv 3) (λ_ _=>rfl)) ze))) (jk rfl (zM (ZP (pv 1) (pv 3) jp) (zM (ZP (pv 1) (zt z8 (pv 3) zd) jp) xZ))))) zI))))))
  (Bx.mk (zn (zD (pv 1)))))),?_⟩
 refine⟨_,rfl,a,_,rfl,.inl (.of ha),λl hl=>?_⟩
 have S1:=zr.upd (o:=.lst (rfs zs)) hl
 have hl1:upd H l (.lst (rfs zs)) l=some (.lst (rfs zs)):=zj
 generalize upd H l (.lst (rfs zs))=G1 at S1 hl1
 dsimp only[zA]
 refine zdp ?_
 have hzl:(rfs zs).length=zs.length:=by unfold rfs;rw[List.length_map]
 refine⟨_,rfl,l,_,rfl,.inl (.of hl1),_,rfl,by omega,by omega,?_⟩
 have aR:∀{ys:List AR}{j:Nat}{z:AR},ys[j]? = some z->atI (rfs ys) (j:Int)=some (V.ref z.1):=λ{ys j z} e=>vX (by unfold rfs;rw[List.getElem?_map,e];rfl)
 have lR:∀ys:List AR,(rfs ys).length=ys.length:=λys=>by unfold rfs;rw[List.length_map]
 refine jx (n:=((rfs zs).length:Int).toNat) (lo:=0) (λi σ G=>∃z2 z3 ys,σ=[some (.ref a),some (.ref l),z2,z3]/\zr H G/\G l=some (.lst (rfs ys))/\ys.Perm zs/\BbI i ys) ⟨_,_,zs,rfl,S1,hl1,.refl _,zaL _⟩ ?_ ?_
 ·rintro i σ G hi ⟨z2,z3,ys,rfl,SG,hlG,pG,bG⟩
  have hyl:ys.length=zs.length:=pG.length_eq
  refine⟨_,rfl,l,_,rfl,.inl (.of hlG),_,_,rfl,rfl,_,rfl,by have:=lR ys;omega,by have:=lR ys;omega,?_⟩
  refine jx (n:=(((rfs ys).length:Int) - 1).toNat) (lo:=0) (λj σ G'=>∃z3 xs,σ=[some (.ref a),some (.ref l),some (.int (0+(i:Int))),z3]/\zr H G'/\G' l=some (.lst (rfs xs))/\xs.Perm zs/\BbJ i j xs) ⟨_,ys,rfl,SG,hlG,pG,Jj bG⟩ ?_ ?_
  ·rintro j σ G2 hj ⟨y3,xs,rfl,S2,hl2,p2,b2⟩
   have hxl:xs.length=zs.length:=p2.length_eq
   have hj':j+1<xs.length:=by have:=lR ys;omega
   obtain⟨u,eu⟩:∃u,xs[j]? = some u:=⟨_,List.getElem?_eq_getElem (by omega)⟩
   obtain⟨v,ev⟩:∃v,xs[j+1]? = some v:=⟨_,List.getElem?_eq_getElem hj'⟩
   have hu:=hz u (p2.mem_iff.mp (List.mem_of_getElem? eu))
   have hv:=hz v (p2.mem_iff.mp (List.mem_of_getElem? ev))
   have a0:atI (rfs xs) (0+(j:Int))=some (V.ref u.1):=by rw[Int.zero_add];exact aR eu
   have a1:atI (rfs xs) (0+(j:Int)+1)=some (V.ref v.1):=by rw[show 0+(j:Int)+1=((j+1:Nat):Int) by omega];exact aR ev
   have i0:ixN (rfs xs).length (0+(j:Int))=some j:=by rw[Int.zero_add];exact JG (by have:=lR xs;omega)
   have i1:ixN (rfs xs).length (0+(j:Int)+1)=some (j+1):=by rw[show 0+(j:Int)+1=((j+1:Nat):Int) by omega];exact JG (by have:=lR xs;omega)
   dsimp only[zA]
   refine⟨_,rfl,_,rfl,_,_,rfl,rfl,l,_,_,_,rfl,rfl,.of hl2,a1,_,rfl,_,rfl,l,_,_,_,rfl,rfl,.of hl2,a0,v.1,u.1,v.2,u.2,rfl,S2 _ _ hv.1,S2 _ _ hu.1,⟨hv.2,hu.2⟩,_,rfl,xQ (λhc=>?_) (λhc=>?_)⟩
   ·have lt:v.2<u.2:=of_decide_eq_true hc
    refine⟨_,rfl,_,rfl,_,_,rfl,rfl,l,_,_,_,rfl,rfl,.of hl2,a1,_,rfl,_,rfl,l,_,_,_,rfl,rfl,.of hl2,a0,by show 2<=sizeLine;decide,λtp htp=>?_⟩
    have s3:=zr.upd (o:=.tup [V.ref v.1,V.ref u.1]) htp
    have ht3:upd G2 tp (.tup [V.ref v.1,V.ref u.1]) tp=some (.tup [V.ref v.1,V.ref u.1]):=zj
    generalize upd G2 tp (.tup [V.ref v.1,V.ref u.1])=G3 at s3 ht3 ⊢
    have hl3:=s3 _ _ hl2
    refine⟨tp,_,rfl,.of ht3,rfl,_,_,rfl,?_⟩
    refine⟨_,rfl,_,rfl,l,_,_,j,rfl,rfl,hl3,i0,?_⟩
    refine⟨_,_,rfl,_,rfl,_,rfl,_,_,rfl,rfl,l,_,_,j+1,rfl,rfl,zj,by rw[List.length_set];exact i1,?_⟩
    refine⟨rfl,_,swp xs j u v,rfl,λb o e=>?_,?_,(zar eu ev).trans p2,zaK b2 eu ev lt⟩
    ·have nb:b≠l:=zU e hl
     rw[zO nb,zO nb];exact s3 _ _ (S2 _ _ e)
    ·rw[zj,zbD]
   ·have le:u.2<=v.2:=by have:¬v.2<u.2:=λz=>hc (decide_eq_true z);grind
    exact⟨_,xs,rfl,S2,hl2,p2,zaJ b2 eu ev le⟩
  ·rintro σ G2 ⟨y3,xs,rfl,S2,hl2,p2,b2⟩
   have hxl:xs.length=zs.length:=p2.length_eq
   rw[show (((rfs ys).length:Int) - 1).toNat=xs.length - 1 by have:=lR ys;omega]at b2
   exact⟨_,_,xs,rfl,S2,hl2,p2,zcl b2⟩
 ·rintro σ G ⟨z2,z3,ys,rfl,SG,hlG,pG,bG⟩
  rw[show ((rfs zs).length:Int).toNat=ys.length by have:=pG.length_eq;omega]at bG
  exact⟨_,rfl,k l ys G SG hl hlG pG (VG bG)⟩
theorem Vr {H:Hp}:∀{us:List V}{qs:List Rat},vJ H us qs->∃zs:List AR,us=rfs zs/\zs.map (·.2)=qs/\∀z∈zs,zu H z.1 z.2
 | [],[],_=>⟨[],rfl,rfl,λz m=>by cases m⟩
 | [],_::_,h=>by have:=h.1;simp at this
 | _::_,[],h=>by have:=h.1;simp at this
 | v::us,q::qs,h=>by
  obtain⟨a,rfl,ha⟩:=h.head
  obtain⟨zs,e1,e2,e3⟩:=Vr h.tail
  exact⟨(a,q)::zs,by rw[e1];rfl,by rw[<-e2];rfl,λz m=>by
   rcases List.mem_cons.mp m with rfl | m
   ·exact ha
   ·exact e3 z m⟩
theorem xz.snoc {H:Hp}{us:List V}{bs:List Bl}{v:V}{b:Bl}(h:xz H us bs) (hb:Xp H v b):xz H (us++[v]) (bs++[b]):=by
 have hl:=h.1
 refine⟨by simp[hl],λi u e=>?_⟩
 rcases Nat.lt_or_ge i us.length with c | c
 ·rw[List.getElem?_append_left c]at e
  obtain⟨d,e1,e2⟩:=h.2 i u e
  exact⟨d,by rw[List.getElem?_append_left (by omega)];exact e1,e2⟩
 ·rw[List.getElem?_append_right c]at e
  cases hk:i - us.length with
  | zero=>rw[hk]at e;cases e;exact⟨b,by rw[List.getElem?_append_right (by omega),show i - bs.length=0 by omega];rfl,hb⟩
  | succ n=>rw[hk]at e;simp at e
def zaE (b:Bl):Prop:=Sz 1000 b.pl/\Sz 200 b.sp
def zbZ:Sp:=λvs H Q _=>∃r a bl tm us bs b lo hi x,vs=[.ref r,.ref a,.ref bl,.ref tm]/\H r=some (.tup us)/\xz H us bs/\bs.length<=8/\Xp H (.ref bl) b/\XW H a lo hi/\zu H tm x/\(∀c∈bs,zaE c)/\zaE b/\Sz 200 lo/\Sz 200 hi/\Sz 200 x/\lo<hi ∧
 ∀l zs H',zr H H'->H l=none->H' l=some (.lst (rfs zs))->(∀z∈zs,zu H' z.1 z.2/\Sz 3500 z.2)->(zs.map (·.2)).Perm (xN lo hi (b.pl+b.sp*x)::qh bs lo hi x)->(zs.map (·.2)).Pairwise (λu v=>u<=v)->Q (.ref l) H'
theorem zbs:zB ["row","walls","ball","t"] ["row","walls","ball","t"] (zh qW):=⟨rfl,rfl,rfl,by decide +kernel,rfl,by decide +kernel,by decide +kernel⟩
theorem za4 (D:Df K mg "_law_all" qW ["row","walls","ball","t"] []) (cLi:Cal P w K mg base "_law_line" 4 ["ball","walls","t"] [] zao) (cSr:Cal P w K mg base "_law_sorted" 2 ["ratios"] [] zcc):Cal P w K mg base "_law_all" 5 ["row","walls","ball","t"] [] zbZ:=by
 refine D.cal (k:=4) zbs (λvs H Q E h=>by obtain⟨_,_,_,_,_,_,_,_,_,_,rfl,_⟩:=h;rfl) (λf cdv A outer s H vs Q E hr h=>?_)
 obtain⟨r,a,bl,tm,us,bs,b,lo,hi,x,rfl,hr0,hrow,l8,hb,hw,ht,zb,z2,z3,z4,z5,lh,k⟩:=h
 have hr2:zX 2 _:=hr.mono (by decide)
 refine⟨_,(zn (zD (zw cSr hr2 (za (vn (NB:=["one"]) (FR:=["walls","t"]) (js:=[1,3]) rfl rfl (λx c h=>Jr rfl rfl x c h) (.cons rfl rfl rfl ⟨_,rfl⟩ (.cons rfl rfl rfl ⟨_,rfl⟩ .nil)) rfl (by decide +kernel) rfl (by decide +kernel) (vH (zt jY (pv 0) (zL (za (pv 2) ze)))) (by intro _ _ _;refine⟨?_,?_,?_⟩;(exact(zG (i:=0) (show List.Nodup (["one","walls","t"]:List Str) by decide +kernel) rfl (Or.inl rfl)));(exact xI);(exact(zw cLi hr (za (pv 0) (za (pv 1) (za (pv 2) ze))))))) ze)))),?_⟩
 refine⟨_,rfl,_,rfl,by show 1<=sizeLine;decide,λt1 ht1=>?_⟩
 have s1:=zr.upd (o:=.tup [.ref bl]) ht1
 have h1:upd H t1 (.tup [.ref bl]) t1=some (.tup [.ref bl]):=zj
 generalize upd H t1 (.tup [.ref bl])=G1 at s1 h1
 have hul:=hrow.1
 refine jR (s1 _ _ hr0) h1 (by simp;omega) λtt G2 s2 h2=>?_
 have s12:=s1.trans s2
 have rw2:xz G2 (us++[.ref bl]) (bs++[b]):=xz.snoc (hrow.keeps (.of s12)) (by obtain⟨c,p,q,e,e1,e2,e3⟩:=hb;exact⟨c,p,q,e,s12 _ _ e1,s12 _ _ e2,s12 _ _ e3⟩)
 have zz:∀c∈bs++[b],zaE c:=λc m=>by
  rcases List.mem_append.mp m with m | m
  ·exact zb c m
  ·rw[List.mem_singleton.mp m];exact z2
 refine⟨tt,rfl,⟨_,SqT.of h2⟩,λD1 hD1=>?_⟩
 refine xP (js:=[1,3]) (J:=Itt K tt) (g:=zA 0) (te:=_) (n:=1) (xs:=us++[.ref bl]) (λi v G=>∃q p,(qh (bs++[b]) lo hi x)[i]? = some q/\v = .ref p/\zu G p q/\Sz 3500 q) (λi v G G' e ⟨q,p,e1,e2,e3,e4⟩=>⟨q,p,e1,e2,e _ _ e3,e4⟩) hD1 (jn h2) (ql (by simp;omega)) ?_ ?_
 ·intro i v zs G3 Q' hv hz S3 hQ
  obtain⟨w1,rfl⟩:=Xw hz
  obtain⟨c,ec,c0,p,q,rfl,e1,e2,e3⟩:=rw2.2 i v hv
  have zc:=zz c (List.mem_of_getElem? ec)
  have S13:=s12.trans S3
  exact⟨rfl,_,rfl,_,rfl,_,rfl,c0,a,tm,c,lo,hi,x,rfl,⟨c0,p,q,rfl,S3 _ _ e1,S3 _ _ e2,S3 _ _ e3⟩,hw.same S13,S13 _ _ ht,zc.1,zc.2,z3,z4,z5,lh,λrr G4 s4 hr4 sz4=>hQ _ _ s4 ⟨_,rr,by unfold qh;rw[List.getElem?_map,ec];rfl,rfl,hr4,sz4⟩⟩
 intro us3 G3 s3 hG3 hul3 hR3
 have pl:(qh (bs++[b]) lo hi x).length=bs.length+1:=by unfold qh;simp
 have rats:vJ G3 us3 (qh (bs++[b]) lo hi x):=⟨by rw[hul3,pl];simp;omega,λi v e=>by obtain⟨q,p,e1,e2,e3,e4⟩:=hR3 i v e;exact⟨p,q,e2,e1,e3⟩⟩
 have qsz:∀q∈qh (bs++[b]) lo hi x,Sz 3500 q:=λq m=>by
  obtain⟨i,hi'⟩:=List.mem_iff_getElem?.mp m
  have:=(List.getElem?_eq_some_iff.mp hi').1
  obtain⟨v,hv⟩:∃v,us3[i]? = some v:=⟨_,List.getElem?_eq_getElem (by rw[rats.1];exact this)⟩
  obtain⟨q',p,e1,_,_,e4⟩:=hR3 i v hv
  rw[hi']at e1;cases e1;exact e4
 obtain⟨zs,rfl,ez,hz⟩:=Vr rats
 have S3:=s12.trans s3
 refine⟨D1,zs,rfl,hG3,λz m=>⟨hz z m,Sz.mono (qsz z.2 (by rw[<-ez];exact List.mem_map.mpr ⟨z,m,rfl⟩)) (by decide)⟩,by have:=congrArg List.length ez;rw[List.length_map]at this;omega,λl zs' G4 s4 hl hG4 pz sz=>?_⟩
 have pm':=pz.map (·.2)
 rw[ez]at pm'
 refine k l zs' G4 (S3.trans s4) ?_ hG4 (λz m=>?_) (pm'.trans ?_) (List.pairwise_map.mpr sz)
 ·cases hh:H l with
  | none=>rfl
  | some o=>have:=S3 _ _ hh;rw[hl]at this;cases this
 ·have m':=pz.mem_iff.mp m
  exact⟨s4 _ _ (hz z m'),qsz z.2 (by rw[<-ez];exact List.mem_map.mpr ⟨z,m',rfl⟩)⟩
 ·unfold qh
  rw[List.map_append]
  exact(List.perm_append_comm).trans (by simp)
end
end KK
end
section
set_option maxHeartbeats 8000000
set_option Elab.async false
set_option linter.all false
set_option maxRecDepth 100000
namespace KK
open PySem L2 KM
theorem zaM (xs:List V) (j:Nat):ji xs none (some (j:Int))=xs.take j:=by
 unfold ji
 rw[HT.sIx_none,HT.sIx_nat,List.drop_zero,Nat.sub_zero]
 rcases Nat.le_total j xs.length with h | h
 ·rw[Nat.min_eq_left h]
 ·rw[Nat.min_eq_right h,List.take_of_length_le (Nat.le_refl _),List.take_of_length_le h]
theorem VN (xs:List V) (j:Nat):ji xs (some (j:Int)) none=xs.drop j:=by
 unfold ji
 rw[HT.sIx_none,HT.sIx_nat]
 rcases Nat.le_total j xs.length with h | h
 ·rw[Nat.min_eq_left h,List.take_of_length_le (by rw[List.length_drop];exact Nat.le_refl _)]
 ·rw[Nat.min_eq_right h,Nat.sub_self,List.take_zero,List.drop_of_length_le h]
theorem Zg {K:PySem.W.Frag}{H:Hp}{a:Addr}{xs:List V}{lo hi:Option Int}{Q:VK}(h:H a=some (.tup xs)) (k:∀q H',zr H H'->H' q=some (.tup (ji xs lo hi))->Q (.ref q) H'):zd5 K (.ref a) lo hi H Q\/zd6 K (.ref a) lo hi H Q:=by
 by_cases c:HT.sIx xs.length 0 lo=0/\HT.sIx xs.length xs.length hi=xs.length
 ·refine .inr ⟨a,xs,rfl,.of h,c,k a H (zr.refl _) ?_⟩
  unfold ji
  rw[c.1,c.2,List.drop_zero,Nat.sub_zero,List.take_of_length_le (Nat.le_refl _)];exact h
 ·exact .inl ⟨a,xs,rfl,.of h,c,λp hp=>k p _ (zr.upd hp) zj⟩
section
variable {P:Program}{w:World}{K:PySem.W.Frag}{mg:Str->Option Value}{base:Heap}{aN:Addr}
theorem xz.app {H:Hp}{us vs:List V}{bs cs:List Bl}(h:xz H us bs) (g:xz H vs cs):xz H (us++vs) (bs++cs):=by
 have hl:=h.1
 have gl:=g.1
 refine⟨by simp[hl,gl],λi u e=>?_⟩
 rcases Nat.lt_or_ge i us.length with c | c
 ·rw[List.getElem?_append_left c]at e
  obtain⟨d,e1,e2⟩:=h.2 i u e
  exact⟨d,by rw[List.getElem?_append_left (by omega)];exact e1,e2⟩
 ·rw[List.getElem?_append_right c]at e
  obtain⟨d,e1,e2⟩:=g.2 _ u e
  exact⟨d,by rw[List.getElem?_append_right (by omega),<-hl];exact e1,e2⟩
theorem xz.take {H:Hp}{us:List V}{bs:List Bl}(h:xz H us bs) (n:Nat):xz H (us.take n) (bs.take n):=by
 have hl:=h.1
 refine⟨by rw[List.length_take,List.length_take,hl],λi u e=>?_⟩
 rcases Nat.lt_or_ge i n with c | c
 ·rw[List.getElem?_take_of_lt c]at e ⊢;exact h.2 i u e
 ·rw[List.getElem?_eq_none (by rw[List.length_take];omega)]at e;cases e
theorem xz.drop {H:Hp}{us:List V}{bs:List Bl}(h:xz H us bs) (n:Nat):xz H (us.drop n) (bs.drop n):=by
 have hl:=h.1
 refine⟨by rw[List.length_drop,List.length_drop,hl],λi u e=>?_⟩
 rw[List.getElem?_drop]at e ⊢
 exact h.2 _ u e
def zb8:Sp:=λvs H Q _=>∃r bl us bs b,vs=[.ref r,.ref bl]/\H r=some (.tup us)/\xz H us bs/\Xp H (.ref bl) b/\bs.length<=7/\(∀c∈bs,Sz 4000 c.pl/\Sz 4000 c.sp)/\Sz 4000 b.pl/\Sz 4000 b.sp ∧
 ∀z us' bs' H',zr H H'->H' z=some (.tup us')->xz H' us' bs'->(∀c∈bs',c∈bs\/c=b)->1<=bs'.length->bs'.length<=bs.length+1->Q (.ref z) H'
theorem Zv:zB ["row","ball","at","other"] ["row","ball"] (zh qZ):=⟨rfl,rfl,rfl,by decide +kernel,rfl,by decide +kernel,by decide +kernel⟩
theorem za9 (D:Df K mg "_law_put" qZ ["row","ball"] []) (cBl:Cal P w K mg base "_law_below" 1 ["a","b"] [] XM):Cal P w K mg base "_law_put" 2 ["row","ball"] [] zb8:=by
 refine D.cal (k:=1) Zv (λvs H Q E h=>by obtain⟨_,_,_,_,_,rfl,_⟩:=h;rfl) (λf cdv A outer s H vs Q E hr h=>?_)
 obtain⟨r,bl,us,bs,b,rfl,hr0,hrow,hb,l7,zb,zp,zs,k⟩:=h
 have hu:=hr.units
 have hul:=hrow.1
 obtain⟨a0,pp,ps,e0,hbl,hpl,hps⟩:=hb
 cases e0
 refine⟨_,(zi (zE (i:=2) Zv.nd rfl (Or.inl rfl) zd)
  (zi (jb PassesOwn.never rfl (vH (pv 0)) (zG (i:=3) Zv.nd rfl (Or.inl rfl)) (zi (zR (zC (Xy hu) (vp (Zh.or vT) (pv 3) v8 (v9 zd)) (vp (Zh.or vT) (pv 1) v8 (v9 zd)) (zF _)) (zn (zD (pv 0))) zI)
  (zn (zR ((jJ (xj (zw cBl hr (za (zo zm (pv 3) zd (λ_ _=>rfl)) (za (zo zm (pv 1) zd (λ_ _=>rfl)) ze))) λ_=>rfl) (jm ((vq (zC (Xy hu) (zo zm (pv 3) zd (λ_ _=>rfl)) (zo zm (pv 1) zd (λ_ _=>rfl)) (zF _)) (qk (xj (zw cBl hr (za (zo zm (pv 3) zd (λ_ _=>rfl)) (za (zo zm (pv 1) zd (λ_ _=>rfl)) ze))) λ_=>rfl)))).pt))).pt (zn (zE (i:=2) Zv.nd rfl (Or.inl rfl) (zt z8 (pv 2) zd))) zI))))
  (zn (zD (zt jY (zt jY (vp (Zh.or vT) (pv 0) v8 (v9 (pv 2))) (zL (za (pv 1) ze))) (vp (Zh.or vT) (pv 0) (v9 (pv 2)) v8)))))),?_⟩
 dsimp only[zA]
 refine⟨_,rfl,r,rfl,⟨_,SqT.of hr0⟩,?_⟩
 refine Vi (xs:=us) (λi σ G=>∃(n:Nat) (y3:Option V),σ=[some (.ref r),some (.ref bl),some (.int n),y3]/\zr H G/\n<=i) ⟨0,none,rfl,zr.refl _,Nat.le_refl _⟩ (λi σ G _ ⟨_,_,_,s,_⟩=>SqT.of (s _ _ hr0)) ?_ ?_
 ·rintro i v σ G hv ⟨n,y3,rfl,sG,ni⟩
  obtain⟨c,ec,c0,p,q,rfl,e1,e2,e3⟩:=hrow.2 i v hv
  have zc:=zb c (List.mem_of_getElem? ec)
  have hi:=(List.getElem?_eq_some_iff.mp ec).1
  dsimp only[zA]
  refine⟨_,rfl,_,rfl,Zg (sG _ _ e1) λt1 G1 s1 h1=>?_⟩
  have s01:=sG.trans s1
  refine⟨_,rfl,_,rfl,Zg (s01 _ _ hbl) λt2 G2 s2 h2=>?_⟩
  have s02:=s01.trans s2
  refine⟨_,_,.tup (s2 _ _ h1) (.cons (zu.rd (s02 _ _ e2)) (.cons (zu.rd (s02 _ _ e3)) .nil)),.tup h2 (.cons (zu.rd (s02 _ _ hpl)) (.cons (zu.rd (s02 _ _ hps)) .nil)),rfl,rfl,_,rfl,xQ (λ_=>?_) (λ_=>?_)⟩
  ·exact⟨_,rfl,k r us bs G2 s02 (s02 _ _ hr0) (hrow.keeps (.of s02)) (λc m=>.inl m) (by omega) (by omega)⟩
  have stepT:∃(m:Nat) (y3:Option V),[some (V.ref r),some (.ref bl),some (.int ((n:Int)+1)),some (.ref c0)]=[some (.ref r),some (.ref bl),some (.int m),y3]/\zr H G2/\m<=i+1:=⟨n+1,_,by rw[Int.natCast_add];rfl,s02,by omega⟩
  have stepF:∃(m:Nat) (y3:Option V),[some (V.ref r),some (.ref bl),some (.int (n:Int)),some (.ref c0)]=[some (.ref r),some (.ref bl),some (.int m),y3]/\zr H G2/\m<=i+1:=⟨n,_,rfl,s02,by omega⟩
  refine⟨_,rfl,c0,_,_,_,rfl,rfl,.of (s02 _ _ e1),rfl,_,rfl,bl,_,_,_,rfl,rfl,.of (s02 _ _ hbl),rfl,p,pp,c.pl,b.pl,rfl,s02 _ _ e2,s02 _ _ hpl,⟨zc.1,zp⟩,_,rfl,xQ (λh=>?_) (λh=>?_)⟩
  ·refine xQ (λ_=>⟨_,rfl,_,_,rfl,rfl,stepT⟩) (λh2=>absurd rfl h2)
  ·refine⟨_,rfl,c0,_,_,_,rfl,rfl,.of (s02 _ _ e1),rfl,_,rfl,bl,_,_,_,rfl,rfl,.of (s02 _ _ hbl),rfl,_,_,zu.rd (s02 _ _ e2),zu.rd (s02 _ _ hpl),rfl,rfl,_,rfl,xQ (λh=>?_) (λh=>xb stepF)⟩
   exact⟨_,rfl,c0,_,_,_,rfl,rfl,.of (s02 _ _ e1),rfl,_,rfl,bl,_,_,_,rfl,rfl,.of (s02 _ _ hbl),rfl,q,ps,c.sp,b.sp,rfl,s02 _ _ e3,s02 _ _ hps,⟨zc.2,zs⟩,_,rfl,xQ (λ_=>⟨_,rfl,_,_,rfl,rfl,stepT⟩) (λ_=>stepF)⟩
 ·rintro σ G ⟨n,y3,rfl,sG,ni⟩
  refine⟨_,rfl,_,rfl,_,rfl,Zg (sG _ _ hr0) λt1 G1 s1 h1=>?_⟩
  rw[zaM]at h1
  refine⟨_,rfl,by show 1<=sizeLine;decide,λt2 h2=>?_⟩
  have s2:=zr.upd (o:=.tup [.ref bl]) h2
  have h2':upd G1 t2 (.tup [.ref bl]) t2=some (.tup [.ref bl]):=zj
  generalize upd G1 t2 (.tup [.ref bl])=G2 at s2 h2'
  have tl:=List.length_take_le n us
  refine jR (s2 _ _ h1) h2' (by simp;omega) λt3 G3 s3 h3=>?_
  have s03:=sG.trans (s1.trans (s2.trans s3))
  refine⟨_,rfl,_,rfl,_,rfl,Zg (s03 _ _ hr0) λt4 G4 s4 h4=>?_⟩
  rw[VN]at h4
  refine jR (s4 _ _ h3) h4 (by simp;omega) λt5 G5 s5 h5=>?_
  have s05:=s03.trans (s4.trans s5)
  have row5:=hrow.keeps (.of s05)
  have rb:xz G5 [.ref bl] [b]:=⟨rfl,λi v e=>by
   cases i with
   | zero=>cases e;exact⟨b,rfl,bl,pp,ps,rfl,s05 _ _ hbl,s05 _ _ hpl,s05 _ _ hps⟩
   | succ n=>simp at e⟩
  refine k t5 _ (bs.take n++[b]++bs.drop n) G5 s05 h5 (xz.app (xz.app (xz.take row5 n) rb) (xz.drop row5 n)) (λc m=>?_) (by simp;omega) (by simp;omega)
  rcases List.mem_append.mp m with m | m
  ·rcases List.mem_append.mp m with m | m
   ·exact .inl (List.mem_of_mem_take m)
   ·exact .inr (List.mem_singleton.mp m)
  ·exact .inl (List.mem_of_mem_drop m)
end
end KK
end
section
set_option maxHeartbeats 8000000
set_option Elab.async false
set_option linter.all false
set_option maxRecDepth 100000
namespace KK
open PySem L2 KM
structure Pk (x:Rat):Prop where
 z:Sz 100 x
 o:On x
structure Sk (x:Rat):Prop where
 z:Sz 90 x
 o:On x
 d:Bd 17 (x.den:Int)
theorem on0:On 0:=⟨0,(qP _).symm⟩
theorem Sk.zero:Sk 0:=⟨⟨show (0:Int).natAbs<2^90 by decide,show (1:Int).natAbs<2^90 by decide⟩,on0,show (1:Int).natAbs<2^17 by decide⟩
theorem Sk.neg {x:Rat}(h:Sk x):Sk (0 - x):=by
 have e:0 - x = -x:=by grind
 refine⟨?_,on0.sub h.o,?_⟩
 ·rw[e];exact⟨by rw[Rat.neg_num];exact h.z.1.neg,by rw[Rat.neg_den];exact h.z.2⟩
 ·rw[e,Rat.neg_den];exact h.d
theorem j6 {H:Hp}{a:Addr}(h:H a=some (.tup [.int 0,.int 1])):zu H a 0:=h
theorem zK {p:Addr}{H H':Hp}(hp:vW H p) (s:xA p H H'):xx H H':=λb xs e=>s.tup hp e
structure Bk (wt:Int) (b:Bl):Prop where
 p:Pk b.pl
 s:Sk b.sp
 w:b.wt=wt
theorem zct {g b:Int}(hb:b=1\/b=2\/b=3) (d:Int):On (Rat.divInt g b*Rat.divInt d 12):=by
 rw[Rat.divInt_mul_divInt]
 rcases hb with rfl | rfl | rfl
 ·exact .of (by decide) (by decide)
 ·exact .of (by decide) (by decide)
 ·exact .of (by decide) (by decide)
theorem zaR {g b:Int}(hb:b=1\/b=2\/b=3):On (Rat.divInt g b):=by
 rcases hb with rfl | rfl | rfl
 ·exact .of (by decide) (by decide)
 ·exact .of (by decide) (by decide)
 ·exact .of (by decide) (by decide)
theorem zbO {d:Int}{u v x:V}(h0:0<=d) (h1:d<3):∃y,atI [u,v,x] d=some y/\(y=u\/y=v\/y=x):=by
 have:d=0\/d=1\/d=2:=by omega
 rcases this with rfl | rfl | rfl
 ·exact⟨_,rfl,.inl rfl⟩
 ·exact⟨_,rfl,.inr (.inl rfl)⟩
 ·exact⟨_,rfl,.inr (.inr rfl)⟩
theorem JN {d:Int}{u v x w:V}(h0:0<=d) (h1:d<4):∃y,atI [u,v,x,w] d=some y/\(y=u\/y=v\/y=x\/y=w):=by
 have:d=0\/d=1\/d=2\/d=3:=by omega
 rcases this with rfl | rfl | rfl | rfl
 ·exact⟨_,rfl,.inl rfl⟩
 ·exact⟨_,rfl,.inr (.inl rfl)⟩
 ·exact⟨_,rfl,.inr (.inr (.inl rfl))⟩
 ·exact⟨_,rfl,.inr (.inr (.inr rfl))⟩
theorem xz.tups {H H':Hp}{us:List V}{bs:List Bl}(h:xz H us bs) (s:xx H H'):xz H' us bs:=⟨h.1,λi v e=>by obtain⟨b,e1,a,p,q,e2,e3,e4,e5⟩:=h.2 i v e;exact⟨b,e1,a,p,q,e2,s _ _ e3,s _ _ e4,s _ _ e5⟩⟩
section
variable {P:Program}{w:World}{K:PySem.W.Frag}{mg:Str->Option Value}{base:Heap}{aN:Addr}
structure Evn (bs:List Bl) (lo hi:Rat) (wt:Int):Prop where
 l1:1<=bs.length
 l8:bs.length<=8
 b:∀c∈bs,Bk wt c
 lh:lo<hi
 lo:Pk lo
 hi:Pk hi
 wt:wt=1\/wt=7\/wt=1000
def zb3:Sp:=λvs H Q _=>∃(p:Addr),vs=[.ref p,.int 8]/\vW H p/\∀z r a bs lo hi wt H',xA p H H'->H' z=some (.tup [.ref r,.ref a])->Ln H' r a bs (some (lo,0)) (some (hi,0))->Evn bs lo hi wt->Q (.ref z) H'
theorem qM:zB ["pool","most","low","gap","high","weight","row","k","place","speed"] ["pool","most"] (zh qz):=⟨rfl,rfl,rfl,by decide +kernel,rfl,by decide +kernel,by decide +kernel⟩
theorem zcT (D:Df K mg "_law_even" qz ["pool","most"] []) (T:TxB K mg) (cN:Cal P w K mg base "_law_next" 1 ["pool","base"] [] je) (cRa:Cal P w K mg base "_law_ratio" 3 ["pool","size"] [] zej) (cL:Cal P w K mg base "_law_low" 1 ["top","bottom"] [] xX) (cA:Cal P w K mg base "_law_add" 2 ["a","b"] [] (xJ Sz2 (· + ·))) (cBy:Cal P w K mg base "_law_by" 2 ["a","b"] [] (xJ Sz2 (· * ·))) (cO:Cal P w K mg base "_law_off" 2 ["a","b"] [] (xJ Sz2 (· - ·))) (cSp:Cal P w K mg base "_law_speed" 2 ["pool"] [] zdo) (cPu:Cal P w K mg base "_law_put" 2 ["row","ball"] [] zb8) :
  Cal P w K mg base "_law_even" 4 ["pool","most"] [] zb3:=by
 refine D.cal (k:=3) qM (λvs H Q E h=>by obtain⟨_,rfl,_⟩:=h;rfl) (λf cdv A outer s H vs Q E hr3 h=>?_)
 obtain⟨p,rfl,hP,k⟩:=h
 have hr1:zX 1 _:=hr3.mono (by decide)
 have hr2:zX 2 _:=hr3.mono (by decide)
 have hu:=hr3.units
 refine⟨_,(zi (zE (i:=2) qM.nd rfl (Or.inl rfl) (zw cRa hr3 (za (pv 0) (za zd ze))))
  (zi (zE (i:=3) qM.nd rfl (Or.inl rfl) (zw cL hr1 (za (zt z8 zd (zw cN hr1 (za (pv 0) (za zd ze)))) (za (zo zS (xl (za zd (za zd (za zd ze)))) (zw cN hr1 (za (pv 0) (za zd ze))) (λ_ _=>rfl)) ze))))
  (zi (zE (i:=4) qM.nd rfl (Or.inl rfl) (zw cA hr2 (za (pv 2) (za (pv 3) ze))))
  (zi (zE (i:=5) qM.nd rfl (Or.inl rfl) (zo zS (xl (za zd (za zd (za zd ze)))) (zw cN hr1 (za (pv 0) (za zd ze))) (λ_ _=>rfl)))
  (zi (zE (i:=6) qM.nd rfl (Or.inl rfl) (zL ze))
  (zi (jb PassesOwn.never rfl (jC rfl T.nRange (za (zt z8 zd (zw cN hr1 (za (pv 0) (za (pv 1) ze)))) ze)) (zG (i:=7) qM.nd rfl (Or.inl rfl)) (zi (zE (i:=8) qM.nd rfl (Or.inl rfl) (zw cA hr2 (za (pv 2) (za (zw cBy hr2 (za (pv 3) (za (zw cL hr1 (za (zw cN hr1 (za (pv 0) (za zd ze))) (za zd ze))) ze))) ze))))
  (zi (zE (i:=9) qM.nd rfl (Or.inl rfl) (zo zS (xl (za (zw cSp hr2 (za (pv 0) ze)) (za (zw cSp hr2 (za (pv 0) ze)) (za (zL (za zd (za zd ze))) (za (zw cRa hr3 (za (pv 0) (za zd ze))) ze))))) (zw cN hr1 (za (pv 0) (za zd ze))) (λ_ _=>rfl)))
  (zi (zR ((vq (zC jZ (zH zN (by rfl) T.nLen PySem.boot_len (za (pv 6) ze)) zd (zF _)) (qk (zC qN (zw cN hr1 (za (pv 0) (za zd ze))) zd (zF _))))).pt (zn (zE (i:=8) qM.nd rfl (Or.inl rfl) (zo zm (zo zm (pv 6) (zw cN hr1 (za (pv 0) (za (zH zN (by rfl) T.nLen PySem.boot_len (za (pv 6) ze)) ze))) (λ_ _=>rfl)) zd (λ_ _=>rfl)))) zI)
  (zi (zR (jJ (vq (zC (Xy hu) (pv 8) (pv 2) (zF _)) (qk (zC jg (zo zm (pv 9) zd (λ_ _=>rfl)) zd (zF _)))).pt (jm (vq (zC (Xy hu) (pv 8) (pv 4) (zF _)) (qk (zC jZ (zo zm (pv 9) zd (λ_ _=>rfl)) zd (zF _)))).pt)).pt (zn (zE (i:=9) qM.nd rfl (Or.inl rfl) (zw cO hr2 (za (zL (za zd (za zd ze))) (za (pv 9) ze))))) zI)
  (zn (zE (i:=6) qM.nd rfl (Or.inl rfl) (zw cPu hr2 (za (pv 6) (za (zL (za (pv 8) (za (pv 9) (za (pv 5) ze)))) ze))))))))))
  (zn (zD (zL (za (pv 6) (za (zL (za (zL (za (pv 2) (za (zL (za zd (za zd ze))) ze))) (za (zL (za (pv 4) (za (zL (za zd (za zd ze))) ze))) ze))) ze))))))))))),?_⟩
 refine⟨_,rfl,p,12,rfl,by decide,by decide,hP,λrl lo G1 t1 hlo zlo olo dlo=>?_⟩
 dsimp only[zA]
 refine⟨_,rfl,p,30,rfl,by decide,by decide,t1.pool,λd1 G2 a1 b1 t2=>⟨_,_,rfl,rfl,by show 3<=sizeLine;decide,λl1 hl1=>?_⟩⟩
 have T2:=t1.trans t2
 refine⟨_,rfl,p,3,rfl,by decide,by decide,T2.pool.new hl1,λd2 G3 a2 b2 t3=>?_⟩
 obtain⟨y,ey,hy⟩:=zbO (u:=V.int 1) (v:=.int 2) (x:=.int 3) a2 b2
 obtain⟨bt,rfl,hbt⟩:∃bt:Int,y = .int bt/\(bt=1\/bt=2\/bt=3):=by
  rcases hy with rfl | rfl | rfl
  ·exact⟨1,rfl,.inl rfl⟩
  ·exact⟨2,rfl,.inr (.inl rfl)⟩
  ·exact⟨3,rfl,.inr (.inr rfl)⟩
 have T3:xA p H G3:=T2.trans (t3.pre (zr.upd hl1))
 refine⟨l1,_,_,_,rfl,rfl,.of (t3.keep l1 _ zj (T2.pool.ne hl1)),ey,_,_,rfl,by omega,Bd.mono (m:=5) (bdn (by omega) (by omega)) (by decide),λrg G4 s4 hg=>?_⟩
 dsimp only[zA]
 have T4:=T3.same s4
 have hlo4:zu G4 rl lo:=s4 _ _ (t3.rat (T2.pool.new hl1) (zr.upd hl1 _ _ (t2.rat t1.pool hlo)))
 have zg:Sz 6 (Rat.divInt (1+d1) bt):=.divInt (by omega) (bdn (by omega) (by omega)) (bdn (by omega) (by omega))
 have pg:0<Rat.divInt (1+d1) bt:=(ZF (by omega)).mpr (by omega)
 have og:∀d,On (Rat.divInt (1+d1) bt*Rat.divInt d 12):=zct hbt
 have og1:On (Rat.divInt (1+d1) bt):=zaR hbt
 clear hl1 t1 t2 t3 T2 T3 s4 ey hy hlo
 generalize Rat.divInt (1+d1) bt=gap at *
 refine⟨_,rfl,_,rfl,rl,rg,lo,gap,rfl,hlo4,hg,⟨zlo.mono (by decide),zg.mono (by decide)⟩,λrh G5 s5 hh=>?_⟩
 have hh:zu G5 rh (lo+gap):=hh
 have plo:Pk lo:=⟨zlo.mono (by decide),olo⟩
 have phi:Pk (lo+gap):=⟨(zlo.add zg).mono (by decide),olo.add og1⟩
 have lh:lo<lo+gap:=by grind
 have T5:=T4.same s5
 have hlo5:=s5 _ _ hlo4
 have hg5:=s5 _ _ hg
 clear hlo4 hg T4 s5 dlo
 generalize lo+gap=hi at *
 dsimp only[zA]
 refine⟨by show 3<=sizeLine;decide,λl2 hl2=>⟨_,rfl,p,3,rfl,by decide,by decide,T5.pool.new hl2,λd3 G6 a3 b3 t6=>?_⟩⟩
 obtain⟨y,ey,hy⟩:=zbO (u:=V.int 1) (v:=.int 7) (x:=.int 1000) a3 b3
 obtain⟨wt,rfl,hwt⟩:∃wt:Int,y = .int wt/\(wt=1\/wt=7\/wt=1000):=by
  rcases hy with rfl | rfl | rfl
  ·exact⟨1,rfl,.inl rfl⟩
  ·exact⟨7,rfl,.inr (.inl rfl)⟩
  ·exact⟨1000,rfl,.inr (.inr rfl)⟩
 refine⟨l2,_,_,_,rfl,rfl,.of (t6.keep l2 _ zj (T5.pool.ne hl2)),ey,?_⟩
 dsimp only[zA]
 have T6:=T5.trans (t6.pre (zr.upd hl2))
 have kp6:=(t6.pre (zr.upd hl2))
 have hlo6:=kp6.rat T5.pool hlo5
 have hg6:=kp6.rat T5.pool hg5
 have hh6:=kp6.rat T5.pool hh
 clear hlo5 hg5 hh T5 t6 kp6 hl2 ey hy
 refine⟨by show 0<=sizeLine;decide,λr0 hr0=>?_⟩
 dsimp only[zA]
 have s7:=zr.upd (o:=.tup []) hr0
 have h7:upd G6 r0 (.tup []) r0=some (.tup []):=zj
 generalize upd G6 r0 (.tup [])=G7 at s7 h7
 have T7:=T6.same s7
 have hlo7:=s7 _ _ hlo6
 have hg7:=s7 _ _ hg6
 have hh7:=s7 _ _ hh6
 clear hlo6 hg6 hh6 T6 s7 hr0
 refine⟨_,rfl,_,rfl,p,8,rfl,by decide,by decide,T7.pool,λd8 G8 a8 b8 t8=>⟨_,_,rfl,rfl,_,rfl,by omega,by omega,?_⟩⟩
 have T8:=T7.trans t8
 have hlo8:=t8.rat T7.pool hlo7
 have hg8:=t8.rat T7.pool hg7
 have hh8:=t8.rat T7.pool hh7
 have h8:=t8.tup T7.pool h7
 clear hlo7 hg7 hh7 h7 T7 t8
 refine jx (n:=(1+d8).toNat) (lo:=0) (λi σ G=>∃r us bs y7 y8 y9,σ=[some (.ref p),some (.int 8),some (.ref rl),some (.ref rg),some (.ref rh),some (.int wt),some (.ref r),y7,y8,y9]/\xA p G8 G/\G r=some (.tup us)/\xz G us bs/\(∀c∈bs,Bk wt c)/\bs.length<=i/\(1<=i->1<=bs.length)) ⟨r0,[],[],none,none,none,rfl,xA.refl T8.pool,h8,⟨rfl,λi v e=>by simp at e⟩,λc m=>by (cases m),Nat.le_refl _,λh=>by omega⟩ ?_ ?_
 ·rintro i σ G hi' ⟨r,us,bs,y7,y8,y9,rfl,tG,hrG,rowG,bkG,lb,l1⟩
  have i8:i<8:=by omega
  dsimp only[zA]
  have tuG:=zK T8.pool tG
  have hloG:=tuG _ _ hlo8
  have hgG:=tuG _ _ hg8
  have hhG:=tuG _ _ hh8
  have hPG:=tG.pool
  have hul:=rowG.1
  refine⟨_,rfl,_,rfl,_,rfl,p,13,rfl,by decide,by decide,hPG,λe1 G1 a1 b1 t1=>?_⟩
  refine⟨_,_,rfl,by decide,Bd.mono (m:=5) (bdn (by decide) (by decide)) (by decide),λq1 G2 s2 h2=>?_⟩
  have z12:Sz 5 (Rat.divInt e1 12):=.divInt (by decide) (bdn (by omega) (by omega)) (bdn (by decide) (by decide))
  have tuA:=zK hPG (t1.same s2)
  refine⟨rg,q1,gap,_,rfl,tuA _ _ hgG,h2,⟨zg.mono (by decide),z12.mono (by decide)⟩,λq2 G3 s3 h3=>?_⟩
  have zgm:Sz 11 (gap*Rat.divInt e1 12):=zg.mul z12
  refine⟨rl,q2,lo,_,rfl,s3 _ _ (tuA _ _ hloG),h3,⟨zlo.mono (by decide),zgm.mono (by decide)⟩,λq3 G4 s4 h4=>?_⟩
  have h4:zu G4 q3 (lo+gap*Rat.divInt e1 12):=h4
  have pk4:Pk (lo+gap*Rat.divInt e1 12):=⟨(zlo.add zgm).mono (by decide),olo.add (og e1)⟩
  have t4:xA p G G4:=(t1.same s2).same (s3.trans s4)
  dsimp only[zA]
  generalize lo+gap*Rat.divInt e1 12=x8 at h4 pk4
  clear tuA s2 s3 s4 h2 h3 zgm z12 t1
  refine⟨_,rfl,p,rfl,t4.pool,λq5 x5 G5 t5 h5 z5 o5=>?_⟩
  refine⟨_,rfl,p,rfl,t5.pool,λq6 x6 G6 t6 h6 z6 o6=>?_⟩
  refine⟨by show 2<=sizeLine;decide,λq7 hq7=>?_⟩
  have s7:=zr.upd (o:=.tup [.int 0,.int 1]) hq7
  have h7:upd G6 q7 (.tup [.int 0,.int 1]) q7=some (.tup [.int 0,.int 1]):=zj
  generalize upd G6 q7 (.tup [.int 0,.int 1])=G7 at s7 h7
  have t67:=t6.same s7
  refine⟨_,rfl,p,30,rfl,by decide,by decide,t67.pool,λq9 x9 G9 t9 h9 z9 o9 d9=>?_⟩
  refine⟨by show 4<=sizeLine;decide,λl9 hl9=>?_⟩
  refine⟨_,rfl,p,4,rfl,by decide,by decide,t9.pool.new hl9,λe4 GA a4 b4 tA=>?_⟩
  have tA':=tA.pre (zr.upd (o:=.lst [.ref q5,.ref q6,.ref q7,.ref q9]) hl9)
  obtain⟨y,ey,hy⟩:=JN (u:=V.ref q5) (v:=.ref q6) (x:=.ref q7) (w:=.ref q9) a4 b4
  have u9A:=zK t9.pool tA'
  have u7A:xx G7 GA:=λb xs e=>u9A _ _ (zK t67.pool t9 _ _ e)
  obtain⟨qs,xs,rfl,hqs,sks⟩:∃qs xs,y = .ref qs/\zu GA qs xs/\Sk xs:=by
   rcases hy with rfl | rfl | rfl | rfl
   ·exact⟨q5,x5,rfl,u7A _ _ (zK t5.pool t67 _ _ h5),z5.mono (by decide),o5,z5.2.mono (by decide)⟩
   ·exact⟨q6,x6,rfl,u7A _ _ (s7 _ _ h6),z6.mono (by decide),o6,z6.2.mono (by decide)⟩
   ·exact⟨q7,0,rfl,u7A _ _ h7,.zero⟩
   ·exact⟨q9,x9,rfl,u9A _ _ h9,z9.mono (by decide),o9,d9⟩
  refine⟨l9,_,_,_,rfl,rfl,.of (tA.keep l9 _ zj (t9.pool.ne hl9)),ey,?_⟩
  have tGA:xA p G GA:=((t4.trans t5).trans t67).trans (t9.trans tA')
  have h8A:=zK t4.pool ((t5.trans t67).trans (t9.trans tA')) _ _ h4
  dsimp only[zA]
  clear tA tA' u9A u7A hy ey hl9 t9 h9 z9 o9 d9 t67 h7 s7 hq7 t6 h6 z6 o6 t5 h5 z5 o5 h4 t4
  have uA:=zK hPG tGA
  have rowA:=rowG.tups uA
  have hrA:=uA _ _ hrG
  refine vw (λσ' G'=>∃q8 x8,σ'=[some (.ref p),some (.int 8),some (.ref rl),some (.ref rg),some (.ref rh),some (.int wt),some (.ref r),some (.int (0+(i:Int))),some (.ref q8),some (.ref qs)]/\xA p GA G'/\zu G' q8 x8/\Pk x8) ?_ ?_
  ·rintro σ' GB ⟨q8,x8,rfl,tB,h8B,pk8⟩
   have uB:=zK tGA.pool tB
   have hloB:=uB _ _ (uA _ _ hloG)
   have hhB:=uB _ _ (uA _ _ hhG)
   have hsB:=uB _ _ hqs
   have hrB:=uB _ _ hrA
   have rowB:=rowA.tups uB
   have tGB:=tGA.trans tB
   refine vw (λσ' G'=>∃qs xs,σ'=[some (.ref p),some (.int 8),some (.ref rl),some (.ref rg),some (.ref rh),some (.int wt),some (.ref r),some (.int (0+(i:Int))),some (.ref q8),some (.ref qs)]/\zr GB G'/\zu G' qs xs/\Sk xs) ?_ ?_
   ·rintro σ' GC ⟨qs,xs,rfl,sC,hsC,sk⟩
    refine⟨_,rfl,_,rfl,_,rfl,_,rfl,by show 3<=sizeLine;decide,λbl hbl=>?_⟩
    have s1:=zr.upd (o:=.tup [.ref q8,.ref qs,.int wt]) hbl
    have e1:upd GC bl (.tup [.ref q8,.ref qs,.int wt]) bl=some (.tup [.ref q8,.ref qs,.int wt]):=zj
    generalize upd GC bl (.tup [.ref q8,.ref qs,.int wt])=GD at s1 e1
    have sD:=sC.trans s1
    refine⟨r,bl,us,bs,⟨x8,xs,wt⟩,rfl,sD _ _ hrB,rowB.tups (.of sD),⟨bl,q8,qs,rfl,e1,sD _ _ h8B,s1 _ _ hsC⟩,by omega,λc m=>⟨(bkG c m).p.z.mono (by decide),(bkG c m).s.z.mono (by decide)⟩,pk8.z.mono (by decide),sk.z.mono (by decide),λz us' bs' GE sE hz rowE mE l1E l2E=>?_⟩
    dsimp only[zA]
    exact⟨z,us',bs',_,_,_,rfl,(tG.trans tGB).same (sD.trans sE),hz,rowE,λc m=>(mE c m).elim (λm=>bkG c m) (λe=>by rw[e];exact⟨pk8,sk,rfl⟩),by omega,λ_=>l1E⟩
   ·intro nx hnx
    have stay:nx [some (.ref p),some (.int 8),some (.ref rl),some (.ref rg),some (.ref rh),some (.int wt),some (.ref r),some (.int (0+(i:Int))),some (.ref q8),some (.ref qs)] GB:=hnx _ _ ⟨qs,xs,rfl,zr.refl _,hsB,sks⟩
    refine⟨_,rfl,_,rfl,_,_,zu.rd h8B,zu.rd hloB,rfl,rfl,_,rfl,xQ (λ_=>⟨_,rfl,qs,_,_,_,rfl,rfl,.of hsB,at0 ..,_,_,rfl,rfl,_,rfl,xQ (λ_=>xk ?_) (λ_=>?_)⟩) (λ_=>xb ?_)⟩
    ·exact⟨by show 2<=sizeLine;decide,λz hz=>⟨_,rfl,z,qs,0,xs,rfl,j6 zj,zr.upd hz _ _ hsB,⟨Sz.mono Sk.zero.z (by decide),sks.z.mono (by decide)⟩,λq' G' s' h'=>hnx _ _ ⟨q',0 - xs,rfl,(zr.upd hz).trans s',h',sks.neg⟩⟩⟩
    ·exact⟨_,rfl,_,rfl,_,_,zu.rd h8B,zu.rd hhB,rfl,rfl,_,rfl,xQ (λ_=>⟨_,rfl,qs,_,_,_,rfl,rfl,.of hsB,at0 ..,_,_,rfl,rfl,_,rfl,xQ (λ_=>⟨by show 2<=sizeLine;decide,λz hz=>⟨_,rfl,z,qs,0,xs,rfl,j6 zj,zr.upd hz _ _ hsB,⟨Sz.mono Sk.zero.z (by decide),sks.z.mono (by decide)⟩,λq' G' s' h'=>hnx _ _ ⟨q',0 - xs,rfl,(zr.upd hz).trans s',h',sks.neg⟩⟩⟩) (λ_=>stay)⟩) (λ_=>xb stay)⟩
    ·exact⟨_,rfl,_,rfl,_,_,zu.rd h8B,zu.rd hhB,rfl,rfl,_,rfl,xQ (λ_=>⟨_,rfl,qs,_,_,_,rfl,rfl,.of hsB,at0 ..,_,_,rfl,rfl,_,rfl,xQ (λ_=>⟨by show 2<=sizeLine;decide,λz hz=>⟨_,rfl,z,qs,0,xs,rfl,j6 zj,zr.upd hz _ _ hsB,⟨Sz.mono Sk.zero.z (by decide),sks.z.mono (by decide)⟩,λq' G' s' h'=>hnx _ _ ⟨q',0 - xs,rfl,(zr.upd hz).trans s',h',sks.neg⟩⟩⟩) (λ_=>stay)⟩) (λ_=>xb stay)⟩
  ·intro nx hnx
   have stay:nx [some (.ref p),some (.int 8),some (.ref rl),some (.ref rg),some (.ref rh),some (.int wt),some (.ref r),some (.int (0+(i:Int))),some (.ref q3),some (.ref qs)] GA:=hnx _ _ ⟨q3,x8,rfl,xA.refl tGA.pool,h8A,pk4⟩
   refine⟨_,rfl,r,us,rfl,.inr (SqT.of hrA),_,_,rfl,rfl,_,rfl,xQ (λhl=>?_) (λ_=>xb stay)⟩
   have hl':0<(us.length:Int):=of_decide_eq_true hl
   refine⟨_,rfl,p,4,rfl,by decide,by decide,tGA.pool,λd GB aB bB tB=>⟨rfl,_,rfl,xQ (λ_=>?_) (λ_=>hnx _ _ ⟨q3,x8,rfl,tB,zK tGA.pool tB _ _ h8A,pk4⟩)⟩⟩
   have uB:=zK tGA.pool tB
   refine⟨_,rfl,_,rfl,_,rfl,r,us,rfl,.inr (SqT.of (uB _ _ hrA)),p,_,rfl,hl',by omega,tB.pool,λd2 GC aC bC tC=>?_⟩
   have uC:=zK tB.pool tC
   obtain⟨v,hv⟩:∃v,us[d2.toNat]? = some v:=⟨_,List.getElem?_eq_getElem (by omega)⟩
   have hat:=vX hv
   rw[show ((d2.toNat:Nat):Int)=d2 by omega]at hat
   obtain⟨c,ec,c0,pp,qq,rfl,e1,e2,e3⟩:=rowA.2 _ v hv
   refine⟨r,_,_,_,rfl,rfl,.of (uC _ _ (uB _ _ hrA)),hat,c0,_,_,_,rfl,rfl,.of (uC _ _ (uB _ _ e1)),rfl,?_⟩
   exact hnx _ _ ⟨pp,c.pl,rfl,tB.trans tC,uC _ _ (uB _ _ e2),(bkG c (List.mem_of_getElem? ec)).p⟩
 ·rintro σ G ⟨r,us,bs,y7,y8,y9,rfl,tG,hrG,rowG,bkG,lb,l1⟩
  have tu:=zK T8.pool tG
  have hlo9:=tu _ _ hlo8
  have hh9:=tu _ _ hh8
  have n1:1<=(1+d8).toNat:=by omega
  have n8:(1+d8).toNat<=8:=by omega
  refine⟨_,rfl,_,rfl,by show 2<=sizeLine;decide,λz1 hz1=>?_⟩
  have s1:=zr.upd (o:=.tup [.int 0,.int 1]) hz1
  have e1:upd G z1 (.tup [.int 0,.int 1]) z1=some (.tup [.int 0,.int 1]):=zj
  generalize upd G z1 (.tup [.int 0,.int 1])=K1 at s1 e1
  refine⟨by show 2<=sizeLine;decide,λw1 hw1=>?_⟩
  have s2:=zr.upd (o:=.tup [.ref rl,.ref z1]) hw1
  have e2:upd K1 w1 (.tup [.ref rl,.ref z1]) w1=some (.tup [.ref rl,.ref z1]):=zj
  generalize upd K1 w1 (.tup [.ref rl,.ref z1])=K2 at s2 e2
  refine⟨_,rfl,by show 2<=sizeLine;decide,λz2 hz2=>?_⟩
  have s3:=zr.upd (o:=.tup [.int 0,.int 1]) hz2
  have e3:upd K2 z2 (.tup [.int 0,.int 1]) z2=some (.tup [.int 0,.int 1]):=zj
  generalize upd K2 z2 (.tup [.int 0,.int 1])=K3 at s3 e3
  refine⟨by show 2<=sizeLine;decide,λw2 hw2=>?_⟩
  have s4:=zr.upd (o:=.tup [.ref rh,.ref z2]) hw2
  have e4:upd K3 w2 (.tup [.ref rh,.ref z2]) w2=some (.tup [.ref rh,.ref z2]):=zj
  generalize upd K3 w2 (.tup [.ref rh,.ref z2])=K4 at s4 e4
  refine⟨by show 2<=sizeLine;decide,λa ha=>?_⟩
  have s5:=zr.upd (o:=.tup [.ref w1,.ref w2]) ha
  have e5:upd K4 a (.tup [.ref w1,.ref w2]) a=some (.tup [.ref w1,.ref w2]):=zj
  generalize upd K4 a (.tup [.ref w1,.ref w2])=K5 at s5 e5
  refine⟨by show 2<=sizeLine;decide,λz hz=>?_⟩
  have s6:=zr.upd (o:=.tup [.ref r,.ref a]) hz
  have e6:upd K5 z (.tup [.ref r,.ref a]) z=some (.tup [.ref r,.ref a]):=zj
  generalize upd K5 z (.tup [.ref r,.ref a])=K6 at s6 e6
  have S26:=s3.trans (s4.trans (s5.trans s6))
  have S16:=s2.trans S26
  have S06:=s1.trans S16
  refine k z r a bs lo hi wt K6 ((T8.trans tG).same S06) e6 ⟨⟨us,S06 _ _ hrG,rowG.tups (.of S06)⟩,⟨.ref w1,.ref w2,s6 _ _ e5,⟨w1,rl,z1,rfl,S26 _ _ e2,S06 _ _ hlo9,j6 (S16 _ _ e1)⟩,⟨w2,rh,z2,rfl,(s5.trans s6) _ _ e4,S06 _ _ hh9,j6 ((s4.trans (s5.trans s6)) _ _ e3)⟩⟩,l1 n1,by omega⟩ ⟨l1 n1,by omega,bkG,lh,plo,phi,hwt⟩
end
end KK
end
section
set_option maxHeartbeats 8000000
set_option Elab.async false
set_option linter.all false
set_option maxRecDepth 100000
namespace KK
open PySem L2 KM
theorem jU {m n:Nat}{x y:Rat}(h:Bd m (x.den:Int)) (k:Bd n (y.den:Int)):Bd (m+n) ((x+y).den:Int):=by
 rw[<-KM.XA]
 exact Bd.of_le (j:=x.den*y.den) (by have:=KM.vZ (t:=x.num*y.den+y.num*x.den) (b:=x.den*y.den) (Int.mul_ne_zero (KM.zT x) (KM.zT y));omega) (h.mul k)
theorem Jn {n m:Nat}{lo hi q:Rat}(h1:lo<=q) (h2:q<=hi) (a:Bd n lo.num) (b:Bd n hi.num) (c:Bd m (q.den:Int)):Bd (n+m) q.num:=by
 have h1':=(Rat.le_iff lo q).mp h1
 have h2':=(Rat.le_iff q hi).mp h2
 have dq:=den_pos q
 have dl:=den_pos lo
 have dh:=den_pos hi
 rcases Int.lt_or_le q.num 0 with s | s
 ·refine Bd.of_le (j:=lo.num*q.den) ?_ (a.mul c)
  have:q.num*(lo.den:Int)<=q.num*1:=Int.mul_le_mul_of_nonpos_left (by omega) (by omega)
  omega
 ·refine Bd.of_le (j:=hi.num*q.den) ?_ (b.mul c)
  have:q.num*1<=q.num*(hi.den:Int):=Int.mul_le_mul_of_nonneg_left (by omega) s
  omega
theorem JB {c:Nat}{lo hi z:Rat}(h:lo<hi) (a:Bd 20 (lo.den:Int)) (b:Bd 20 (hi.den:Int)) (d:Bd c (z.den:Int)):Bd (c+200) ((xN lo hi z).den:Int):=by
 have p0:0<hi - lo+(hi - lo):=by grind
 have w:Bd 40 ((hi - lo).den:Int):=Zr b a
 have w2:Bd 80 ((hi - lo+(hi - lo)).den:Int):=jU w w
 have zz:Bd (c+20) ((z - lo).den:Int):=Zr d a
 have r:Bd (c+20+80) ((rst (z - lo) (hi - lo+(hi - lo))).den:Int):=by
  have nz:((z - lo).den:Int)*(hi - lo+(hi - lo)).den≠0:=Int.mul_ne_zero (KM.zT _) (KM.zT _)
  exact Bd.of_le (j:=(z - lo).den*(hi - lo+(hi - lo)).den) (by have:=KM.vZ (t:=((z - lo).num*(hi - lo+(hi - lo)).den) % ((hi - lo+(hi - lo)).num*(z - lo).den)) nz;unfold rst;omega) (zz.mul w2)
 unfold xN
 split
 ·exact(jU a (Zr w2 r)).mono (by omega)
 ·exact(jU a r).mono (by omega)
theorem Pk.sm {x:Rat}(h:Pk x):Sm x:=⟨h.z.1.mono (by decide),h.o.den⟩
theorem Sk.sm {x:Rat}(h:Sk x):Sm x:=⟨h.z.1.mono (by decide),h.o.den⟩
theorem zaQ {lo hi z:Rat}(h:lo<hi) (a:Pk lo) (b:Pk hi) (d:Bd 180 (z.den:Int)):Bd 1500 (xN lo hi z).num/\Bd 380 ((xN lo hi z).den:Int):=by
 have f:=Vh (z:=z) h
 have e:=JB h a.o.den b.o.den d
 exact⟨(Jn f.1 f.2 a.z.1 b.z.1 e).mono (by decide),e⟩
section
variable {P:Program}{w:World}{K:PySem.W.Frag}{mg:Str->Option Value}{base:Heap}{aN:Addr}
structure Ask (H:Hp) (r a sp m tm:Addr) (k:Int) (bs:List Bl) (lo hi v y x:Rat) (wt:Int):Prop where
 ln:Ln H r a bs (some (lo,0)) (some (hi,0))
 ev:Evn bs lo hi wt
 sp:zu H sp v
 sk:Sk v
 k0:0<=k
 k1:k<=bs.length
 t:zu H tm x
 zx:Sz 110 x
 x0:0<=x
 hm:zu H m y
 y0:lo<=y
 y1:y<=hi
 st:Bd 1500 y.num/\Bd 380 (y.den:Int)
theorem Ask.sy {H:Hp}{r a sp m tm:Addr}{k:Int}{bs:List Bl}{lo hi v y x:Rat}{wt:Int}(h:Ask H r a sp m tm k bs lo hi v y x wt):Bd 2000 y.num/\Bd 400 (y.den:Int):=⟨h.st.1.mono (by decide),h.st.2.mono (by decide)⟩
def zb0:Sp:=λvs H Q _=>∃(p:Addr),vs=[.ref p]/\vW H p/\∀z r a sp m tm k bs lo hi v y x wt H',xA p H H'->H' z=some (.tup [.ref r,.ref a,.ref sp,.int k,.ref m,.ref tm])->Ask H' r a sp m tm k bs lo hi v y x wt->Q (.ref z) H'
theorem qa:zB ["pool","row","walls","speed","k","t","begin","place","way"] ["pool"] (zh xT):=⟨rfl,rfl,rfl,by decide +kernel,rfl,by decide +kernel,by decide +kernel⟩
theorem Ln.tups {H H':Hp}{r a:Addr}{bs:List Bl}{lo hi:Wl}(h:Ln H r a bs lo hi) (e:xx H H'):Ln H' r a bs lo hi:=by
 obtain⟨us,h1,h2⟩:=h.row
 obtain⟨v1,v2,g1,g2,g3⟩:=h.walls
 have wk:∀{v:V}{l:Wl},xG H v l->xG H' v l:=λ{v l} q=>by
  cases l with
  | none=>exact q
  | some z=>obtain⟨x,y⟩:=z;obtain⟨a,p,q,e1,e2,e3,e4⟩:=q;exact⟨a,p,q,e1,e _ _ e2,e _ _ e3,e _ _ e4⟩
 exact⟨⟨us,e _ _ h1,h2.tups e⟩,⟨v1,v2,e _ _ g1,wk g2,wk g3⟩,h.l1,h.l8⟩
theorem za5 (D:Df K mg "_law_asking" xT ["pool"] []) (T:TxB K mg) (cN:Cal P w K mg base "_law_next" 1 ["pool","base"] [] je) (cL:Cal P w K mg base "_law_low" 1 ["top","bottom"] [] xX) (cA:Cal P w K mg base "_law_add" 2 ["a","b"] [] (xJ Sz2 (· + ·))) (cBy:Cal P w K mg base "_law_by" 2 ["a","b"] [] (xJ Sz2 (· * ·))) (cO:Cal P w K mg base "_law_off" 2 ["a","b"] [] (xJ Sz2 (· - ·))) (cSp:Cal P w K mg base "_law_speed" 2 ["pool"] [] zdo) (cEv:Cal P w K mg base "_law_even" 4 ["pool","most"] [] zb3) (cMo:Cal P w K mg base "_law_moment" 3 ["pool"] [] zb5) (cAl:Cal P w K mg base "_law_all" 5 ["row","walls","ball","t"] [] zbZ) (cLi:Cal P w K mg base "_law_line" 4 ["ball","walls","t"] [] zao) :
  Cal P w K mg base "_law_asking" 6 ["pool"] [] zb0:=by
 refine D.cal (k:=5) qa (λvs H Q E h=>by obtain⟨_,rfl,_⟩:=h;rfl) (λf cdv A outer s H vs Q E hr h=>?_)
 obtain⟨p,rfl,hP,k⟩:=h
 have hr1:zX 1 _:=hr.mono (by decide)
 have hr2:zX 2 _:=hr.mono (by decide)
 have hr3:zX 3 _:=hr.mono (by decide)
 have hr4:zX 4 _:=hr.mono (by decide)
 refine⟨_,(zi (ja (zw cEv hr4 (za (pv 0) (za zd ze))) (jk rfl (zM (zG (i:=1) qa.nd rfl (Or.inl rfl)) (zM (zG (i:=2) qa.nd rfl (Or.inl rfl)) xZ))))
  (zi (zE (i:=3) qa.nd rfl (Or.inl rfl) (zo zS (xl (za (zw cSp hr2 (za (pv 0) ze)) (za (zw cSp hr2 (za (pv 0) ze)) (za (zL (za zd (za zd ze))) (za (zo zm (zo zm (pv 1) zd (λ_ _=>rfl)) zd (λ_ _=>rfl)) ze))))) (zw cN hr1 (za (pv 0) (za zd ze))) (λ_ _=>rfl)))
  (zi (zE (i:=4) qa.nd rfl (Or.inl rfl) (zw cN hr1 (za (pv 0) (za (zt z8 (zH zN (by rfl) T.nLen PySem.boot_len (za (pv 1) ze)) zd) ze))))
  (zi (zE (i:=5) qa.nd rfl (Or.inl rfl) (zw cMo hr3 (za (pv 0) ze)))
  (zi (zE (i:=6) qa.nd rfl (Or.inl rfl) (zw cA hr2 (za (zo zm (zo zm (pv 2) zd (λ_ _=>rfl)) zd (λ_ _=>rfl)) (za (zw cBy hr2 (za (zw cO hr2 (za (zo zm (zo zm (pv 2) zd (λ_ _=>rfl)) zd (λ_ _=>rfl)) (za (zo zm (zo zm (pv 2) zd (λ_ _=>rfl)) zd (λ_ _=>rfl)) ze))) (za (zw cL hr1 (za (zw cN hr1 (za (pv 0) (za zd ze))) (za zd ze))) ze))) ze))))
  (zi (zE (i:=7) qa.nd rfl (Or.inl rfl) (zo zS (zw cAl hr (za (pv 1) (za (pv 2) (za (zL (za (pv 6) (za (pv 3) (za (zo zm (zo zm (pv 1) zd (λ_ _=>rfl)) zd (λ_ _=>rfl)) ze)))) (za (pv 5) ze))))) (pv 4) (λ_ _=>rfl)))
  (zi (zE (i:=8) qa.nd rfl (Or.inl rfl) (zw cN hr1 (za (pv 0) (za zd ze))))
  (zi (zR (zC qN (pv 8) zd (zF _)) (zn (zE (i:=7) qa.nd rfl (Or.inl rfl) (zo zm (zo zm (pv 2) (zw cN hr1 (za (pv 0) (za zd ze))) (λ_ _=>rfl)) zd (λ_ _=>rfl)))) zI)
  (zi (zR (zC qN (pv 8) zd (zF _)) (zn (zE (i:=7) qa.nd rfl (Or.inl rfl) (zw cLi hr4 (za (zo zm (pv 1) (zw cN hr1 (za (pv 0) (za (zH zN (by rfl) T.nLen PySem.boot_len (za (pv 1) ze)) ze))) (λ_ _=>rfl)) (za (pv 2) (za (pv 5) ze)))))) zI)
  (zi (zR (zC qN (pv 8) zd (zF _)) (zn (zE (i:=7) qa.nd rfl (Or.inl rfl) (pv 6))) zI)
  (zn (zD (zL (za (pv 1) (za (pv 2) (za (pv 3) (za (pv 4) (za (pv 7) (za (pv 5) ze))))))))))))))))))),?_⟩
 refine⟨_,rfl,p,rfl,hP,λz r a bs lo hi wt G1 t1 hz ln ev=>?_⟩
 refine⟨z,_,rfl,.of hz,rfl,_,_,rfl,_,_,rfl,rfl,?_⟩
 dsimp only[zA]
 clear hz
 have l1:=ev.l1
 have l8:=ev.l8
 obtain⟨us,hr0,rowG⟩:=ln.row
 have hul:=rowG.1
 obtain⟨v0,hv0⟩:∃v0,us[0]? = some v0:=⟨_,List.getElem?_eq_getElem (by omega)⟩
 obtain⟨c,ec,c0,pp,qq,rfl,e1,e2,e3⟩:=rowG.2 0 v0 hv0
 have bc:=ev.b c (List.mem_of_getElem? ec)
 have hat0:atI us 0=some (.ref c0):=vX hv0
 refine⟨_,rfl,p,rfl,t1.pool,λq5 x5 G5 t5 h5 z5 o5=>?_⟩
 refine⟨_,rfl,p,rfl,t5.pool,λq6 x6 G6 t6 h6 z6 o6=>?_⟩
 refine⟨by show 2<=sizeLine;decide,λq7 hq7=>?_⟩
 have s7:=zr.upd (o:=.tup [.int 0,.int 1]) hq7
 have h7:upd G6 q7 (.tup [.int 0,.int 1]) q7=some (.tup [.int 0,.int 1]):=zj
 generalize upd G6 q7 (.tup [.int 0,.int 1])=G7 at s7 h7
 have t67:=t6.same s7
 have t17:=t5.trans t67
 have u17:=zK t1.pool t17
 refine⟨_,rfl,r,_,_,_,rfl,rfl,.of (u17 _ _ hr0),hat0,c0,_,_,_,rfl,rfl,.of (u17 _ _ e1),rfl,?_⟩
 refine⟨by show 4<=sizeLine;decide,λl9 hl9=>?_⟩
 refine⟨_,rfl,p,4,rfl,by decide,by decide,t67.pool.new hl9,λd4 GA a4 b4 tA=>?_⟩
 have tA':=tA.pre (zr.upd (o:=.lst [.ref q5,.ref q6,.ref q7,.ref qq]) hl9)
 obtain⟨y,ey,hy⟩:=JN (u:=V.ref q5) (v:=.ref q6) (x:=.ref q7) (w:=.ref qq) a4 b4
 have u7A:=zK t67.pool tA'
 obtain⟨qs,xs,rfl,hqs,sks⟩:∃qs xs,y = .ref qs/\zu GA qs xs/\Sk xs:=by
  rcases hy with rfl | rfl | rfl | rfl
  ·exact⟨q5,x5,rfl,u7A _ _ (zK t5.pool t67 _ _ h5),z5.mono (by decide),o5,z5.2.mono (by decide)⟩
  ·exact⟨q6,x6,rfl,u7A _ _ (s7 _ _ h6),z6.mono (by decide),o6,z6.2.mono (by decide)⟩
  ·exact⟨q7,0,rfl,u7A _ _ h7,.zero⟩
  ·exact⟨qq,c.sp,rfl,u7A _ _ (u17 _ _ e3),bc.s⟩
 refine⟨l9,_,_,_,rfl,rfl,.of (tA.keep l9 _ zj (t67.pool.ne hl9)),ey,?_⟩
 dsimp only[zA]
 have t1A:=t17.trans tA'
 have u1A:=zK t1.pool t1A
 have lnA:=ln.tups u1A
 have hrA:=u1A _ _ hr0
 have rowA:=rowG.tups u1A
 have e1A:=u1A _ _ e1
 have TA:=t1.trans t1A
 clear tA tA' u7A hy ey hl9 t67 h7 s7 hq7 t6 h6 z6 o6 t5 h5 z5 o5 t17 u17 u1A t1A t1 hP ln rowG hr0 e1 e2 e3
 refine⟨_,rfl,_,rfl,r,us,rfl,.inr (SqT.of hrA),_,_,rfl,rfl,p,_,rfl,by omega,by omega,TA.pool,λk0 GB ak bk tB=>?_⟩
 dsimp only[zA]
 refine⟨_,rfl,p,rfl,tB.pool,λtm x GC tC htm zx x0=>?_⟩
 dsimp only[zA]
 have tAC:=tB.trans tC
 have uC:=zK TA.pool tAC
 have lnC:=lnA.tups uC
 obtain⟨b',c',pl',ph,p',q',h1,h2,h3,h4,h5⟩:=lnC.ws.w
 have hqsC:=uC _ _ hqs
 have hrC:=uC _ _ hrA
 have rowC:=rowA.tups uC
 have e1C:=uC _ _ e1A
 have TC:=TA.trans tAC
 clear uC tAC tB tC lnA hqs hrA rowA e1A TA
 have zlo:Sz 200 lo:=ev.lo.z.mono (by decide)
 have zhi:Sz 200 hi:=ev.hi.z.mono (by decide)
 refine⟨_,rfl,a,_,_,_,rfl,rfl,.of h1,at0 ..,b',_,_,_,rfl,rfl,.of h2,at0 ..,_,rfl,a,_,_,_,rfl,rfl,.of h1,at1 ..,c',_,_,_,rfl,rfl,.of h3,at0 ..,_,rfl,a,_,_,_,rfl,rfl,.of h1,at0 ..,b',_,_,_,rfl,rfl,.of h2,at0 ..,ph,pl',hi,lo,rfl,h5,h4,⟨zhi.mono (by decide),zlo.mono (by decide)⟩,λg1 GD s1 hg1=>?_⟩
 have hg1:zu GD g1 (hi - lo):=hg1
 have TD:=TC.same s1
 refine⟨_,rfl,p,25,rfl,by decide,by decide,TD.pool,λd5 GE a5 b5 tE=>?_⟩
 refine⟨_,_,rfl,by decide,Bd.mono (m:=6) (bdn (by decide) (by decide)) (by decide),λg2 GF s2 hg2=>?_⟩
 have z24:Sz 6 (Rat.divInt d5 24):=.divInt (by decide) (bdn (by omega) (by omega)) (bdn (by decide) (by decide))
 have zW:Sz 201 (hi - lo):=Sz.sub' ev.hi.z ev.lo.z
 have uDF:=zK TD.pool (tE.same s2)
 refine⟨g1,g2,hi - lo,_,rfl,uDF _ _ hg1,hg2,⟨zW.mono (by decide),z24.mono (by decide)⟩,λg3 GH s3 hg3=>?_⟩
 have zWm:Sz 207 ((hi - lo)*Rat.divInt d5 24):=zW.mul z24
 refine⟨pl',g3,lo,_,rfl,s3 _ _ (uDF _ _ (s1 _ _ h4)),hg3,⟨zlo.mono (by decide),zWm.mono (by decide)⟩,λbg GI s4 hbg=>?_⟩
 have hbg:zu GI bg (lo+(hi - lo)*Rat.divInt d5 24):=hbg
 have f0:0<=Rat.divInt d5 24:=jv (by decide) a5
 have f1:Rat.divInt d5 24<=1:=by
  have:=((jw (D:=24) (by decide)).le d5 24).mpr (by omega)
  rwa [show Rat.divInt 24 24=1 from rfl]at this
 have lh:=ev.lh
 have b0:lo<=lo+(hi - lo)*Rat.divInt d5 24:=by
  have:=Rat.mul_nonneg (a:=hi - lo) (b:=Rat.divInt d5 24) (by grind) f0
  grind
 have b1:lo+(hi - lo)*Rat.divInt d5 24<=hi:=by
  have:=Rat.mul_le_mul_of_nonneg_left f1 (show 0<=hi - lo by grind)
  grind
 have bd:Bd 46 ((lo+(hi - lo)*Rat.divInt d5 24).den:Int):=jU ev.lo.o.den (Zp (ev.hi.o.sub ev.lo.o).den z24.2)
 have bz:Sz 200 (lo+(hi - lo)*Rat.divInt d5 24):=⟨(Jn b0 b1 ev.lo.z.1 ev.hi.z.1 bd).mono (by decide),bd.mono (by decide)⟩
 have tCI:xA p GC GI:=((xA.refl TC.pool).same s1).trans ((tE.same s2).same (s3.trans s4))
 have uCI:=zK TC.pool tCI
 have TI:=TC.trans tCI
 have lnI:=lnC.tups uCI
 have hqsI:=uCI _ _ hqsC
 have hrI:=uCI _ _ hrC
 have rowI:=rowC.tups uCI
 have e1I:=uCI _ _ e1C
 have htmI:=uCI _ _ htm
 dsimp only[zA]
 clear uCI tCI uDF tE s1 s2 s3 s4 hg1 hg2 hg3 zWm zW f0 f1 z24 h1 h2 h3 h4 h5 lnC hqsC hrC rowC e1C htm TD TC
 generalize lo+(hi - lo)*Rat.divInt d5 24=bx at *
 refine⟨_,rfl,_,rfl,_,rfl,_,rfl,_,rfl,r,_,_,_,rfl,rfl,.of hrI,hat0,c0,_,_,_,rfl,rfl,.of e1I,rfl,by show 3<=sizeLine;decide,λnb hnb=>?_⟩
 have s5:=zr.upd (o:=.tup [.ref bg,.ref qs,.int c.wt]) hnb
 have e5:upd GI nb (.tup [.ref bg,.ref qs,.int c.wt]) nb=some (.tup [.ref bg,.ref qs,.int c.wt]):=zj
 generalize upd GI nb (.tup [.ref bg,.ref qs,.int c.wt])=GJ at s5 e5
 have zb:∀c∈bs,zaE c:=λc m=>⟨(ev.b c m).p.z.mono (by decide),(ev.b c m).s.z.mono (by decide)⟩
 refine⟨_,rfl,r,a,nb,tm,us,bs,⟨bx,xs,c.wt⟩,lo,hi,x,rfl,s5 _ _ hrI,rowI.tups (.of s5),l8,⟨nb,bg,qs,rfl,e5,s5 _ _ hbg,s5 _ _ hqsI⟩,(lnI.same s5).ws,s5 _ _ htmI,zb,⟨bz.mono (by decide),sks.z.mono (by decide)⟩,zlo,zhi,zx.mono (by decide),lh,λll zs GK s6 hll hG6 hz6 pz sz=>?_⟩
 have zl:=pz.length_eq
 rw[List.length_map,List.length_cons]at zl
 have pll:(qh bs lo hi x).length=bs.length:=by unfold qh;rw[List.length_map]
 obtain⟨zz,hzz⟩:∃zz,zs[k0.toNat]? = some zz:=⟨_,List.getElem?_eq_getElem (by omega)⟩
 have hatk:atI (rfs zs) k0=some (.ref zz.1):=by
  have:=vX (xs:=rfs zs) (j:=k0.toNat) (v:=.ref zz.1) (by unfold rfs;rw[List.getElem?_map,hzz];rfl)
  rwa [show ((k0.toNat:Nat):Int)=k0 by omega]at this
 refine⟨_,rfl,ll,_,_,_,rfl,rfl,.of hG6,hatk,?_⟩
 dsimp only[zA]
 have syL:∀(pl sp:Rat),Bd 50 (pl.den:Int)->Bd 20 (sp.den:Int)->(lo<=xN lo hi (pl+sp*x)/\xN lo hi (pl+sp*x)<=hi)/\(Bd 1500 (xN lo hi (pl+sp*x)).num/\Bd 380 ((xN lo hi (pl+sp*x)).den:Int)):=λpl sp hp hs=>⟨Vh lh,zaQ lh ev.lo ev.hi ((jU hp (Zp hs zx.2)).mono (by decide))⟩
 have mz:(lo<=zz.2/\zz.2<=hi)/\(Bd 1500 zz.2.num/\Bd 380 (zz.2.den:Int)):=by
  have m:=pz.mem_iff.mp (List.mem_map.mpr ⟨zz,List.mem_of_getElem? hzz,rfl⟩)
  rcases List.mem_cons.mp m with e | m
  ·rw[e];exact syL bx xs (bd.mono (by decide)) sks.o.den
  ·unfold qh at m
   obtain⟨c',mc,e⟩:=List.mem_map.mp m
   rw[<-e];exact syL c'.pl c'.sp ((ev.b c' mc).p.o.den.mono (by decide)) (ev.b c' mc).s.o.den
 have sIK:=s5.trans s6
 have TK:=TI.same sIK
 have lnK:=lnI.same sIK
 have hqsK:=sIK _ _ hqsI
 have htmK:=sIK _ _ htmI
 have hbgK:=sIK _ _ hbg
 have hrK:=sIK _ _ hrI
 have rowK:=rowI.tups (.of sIK)
 have hzK:=(hz6 zz (List.mem_of_getElem? hzz)).1
 clear hz6 pz sz hll hG6 s5 s6 e5 hnb zl hzz hatk TI lnI hqsI htmI hbg hrI rowI
 refine⟨_,rfl,p,5,rfl,by decide,by decide,TK.pool,λwy GL aw bw tL=>?_⟩
 dsimp only[zA]
 have fin:∀(GZ:Hp) (m:Addr) (y:Rat),xA p GK GZ->zu GZ m y->lo<=y->y<=hi->(Bd 1500 y.num/\Bd 380 (y.den:Int))->∀z,GZ z=none->Q (.ref z) (upd GZ z (.tup [.ref r,.ref a,.ref qs,.int k0,.ref m,.ref tm])):=λGZ m y tZ hm y0 y1 sy z hz=>by
  have sZ:=zr.upd (o:=.tup [.ref r,.ref a,.ref qs,.int k0,.ref m,.ref tm]) hz
  have uZ:xx GK (upd GZ z (.tup [.ref r,.ref a,.ref qs,.int k0,.ref m,.ref tm])):=λb o e=>sZ _ _ (zK TK.pool tZ _ _ e)
  exact k z r a qs m tm k0 bs lo hi xs y x wt _ ((TK.trans tZ).same sZ) zj ⟨lnK.tups uZ,ev,uZ _ _ hqsK,sks,ak,by omega,uZ _ _ htmK,zx,x0,sZ _ _ hm,y0,y1,sy⟩
 have sylo:Bd 1500 lo.num/\Bd 380 (lo.den:Int):=⟨ev.lo.z.1.mono (by decide),ev.lo.z.2.mono (by decide)⟩
 have syhi:Bd 1500 hi.num/\Bd 380 (hi.den:Int):=⟨ev.hi.z.1.mono (by decide),ev.hi.z.2.mono (by decide)⟩
 have sybx:Bd 1500 bx.num/\Bd 380 (bx.den:Int):=⟨bz.1.mono (by decide),bz.2.mono (by decide)⟩
 obtain⟨b',c',pl',ph,p',q',h1,h2,h3,h4,h5⟩:=lnK.ws.w
 refine vw (λσ' G'=>∃m y,σ'=[some (V.ref p),some (.ref r),some (.ref a),some (.ref qs),some (.int k0),some (.ref tm),some (.ref bg),some (.ref m),some (.int wy)]/\xA p GK G'/\zu G' m y/\lo<=y/\y<=hi/\(Bd 1500 y.num/\Bd 380 (y.den:Int))) ?_ ?_
 ·rintro σ' GM ⟨m,y,rfl,tM,hm,y0,y1,sy⟩
  refine vw (λσ' G'=>∃m y,σ'=[some (V.ref p),some (.ref r),some (.ref a),some (.ref qs),some (.int k0),some (.ref tm),some (.ref bg),some (.ref m),some (.int wy)]/\xA p GK G'/\zu G' m y/\lo<=y/\y<=hi/\(Bd 1500 y.num/\Bd 380 (y.den:Int))) ?_ ?_
  ·rintro σ' GN ⟨m,y,rfl,tN,hm,y0,y1,sy⟩
   have uN:=zK TK.pool tN
   refine⟨_,rfl,rfl,_,rfl,xQ (λ_=>?_) (λ_=>?_)⟩
   ·refine⟨_,rfl,?_⟩
    dsimp only[zA]
    exact⟨_,rfl,_,rfl,_,rfl,_,rfl,_,rfl,_,rfl,by show 6<=sizeLine;decide,fin GN bg bx tN (uN _ _ hbgK) b0 b1 sybx⟩
   ·exact⟨_,rfl,_,rfl,_,rfl,_,rfl,_,rfl,_,rfl,by show 6<=sizeLine;decide,fin GN m y tN hm y0 y1 sy⟩
  ·intro nx hnx
   refine⟨_,rfl,rfl,_,rfl,xQ (λ_=>?_) (λ_=>hnx _ _ ⟨m,y,rfl,tM,hm,y0,y1,sy⟩)⟩
   have uM:=zK TK.pool tM
   refine⟨_,rfl,_,rfl,_,rfl,r,us,rfl,.inr (SqT.of (uM _ _ hrK)),p,_,rfl,by omega,by omega,tM.pool,λd2 GC aC bC tC=>?_⟩
   have uC:=zK tM.pool tC
   obtain⟨v,hv⟩:∃v,us[d2.toNat]? = some v:=⟨_,List.getElem?_eq_getElem (by omega)⟩
   have hat:=vX hv
   rw[show ((d2.toNat:Nat):Int)=d2 by omega]at hat
   obtain⟨c,ec,c0,pp,qq,rfl,e1,e2,e3⟩:=rowK.2 _ v hv
   have bc:=ev.b c (List.mem_of_getElem? ec)
   have uKC:xx GK GC:=λb o e=>uC _ _ (uM _ _ e)
   refine⟨r,_,_,_,rfl,rfl,.of (uKC _ _ hrK),hat,_,rfl,_,rfl,c0,a,tm,c,lo,hi,x,rfl,⟨c0,pp,qq,rfl,uKC _ _ e1,uKC _ _ e2,uKC _ _ e3⟩,(lnK.tups uKC).ws,uKC _ _ htmK,bc.p.z.mono (by decide),bc.s.z.mono (by decide),zlo,zhi,zx.mono (by decide),lh,λq GD sD hq _=>?_⟩
   have sL:=syL c.pl c.sp (bc.p.o.den.mono (by decide)) bc.s.o.den
   exact hnx _ _ ⟨q,_,rfl,(tM.trans tC).same sD,hq,sL.1.1,sL.1.2,sL.2⟩
 ·intro nx hnx
  have uL:=zK TK.pool tL
  refine⟨_,rfl,rfl,_,rfl,xQ (λ_=>?_) (λ_=>hnx _ _ ⟨zz.1,zz.2,rfl,tL,uL _ _ hzK,mz.1.1,mz.1.2,mz.2⟩)⟩
  refine⟨_,rfl,_,rfl,p,2,rfl,by decide,by decide,tL.pool,λd2 GC aC bC tC=>?_⟩
  have uKC:xx GK GC:=λb o e=>zK tL.pool tC _ _ (uL _ _ e)
  have d01:d2=0\/d2=1:=by omega
  rcases d01 with rfl | rfl
  ·exact⟨a,_,_,_,rfl,rfl,.of (uKC _ _ h1),at0 ..,b',_,_,_,rfl,rfl,.of (uKC _ _ h2),at0 ..,hnx _ _ ⟨pl',lo,rfl,tL.trans tC,uKC _ _ h4,by grind,by grind,sylo⟩⟩
  ·exact⟨a,_,_,_,rfl,rfl,.of (uKC _ _ h1),at1 ..,c',_,_,_,rfl,rfl,.of (uKC _ _ h3),at0 ..,hnx _ _ ⟨ph,hi,rfl,tL.trans tC,uKC _ _ h5,by grind,by grind,syhi⟩⟩
end
end KK
end
section
set_option maxHeartbeats 8000000
set_option Elab.async false
set_option linter.all false
set_option maxRecDepth 100000
namespace KM
end KM
namespace KK
open PySem L2 KM
end KK
end
section
set_option maxHeartbeats 8000000
set_option Elab.async false
set_option linter.all false
set_option maxRecDepth 100000
namespace KK
open PySem L2 KM
section
variable {P:Program}{w:World}{K:PySem.W.Frag}{mg:Str->Option Value}{base:Heap}{aN:Addr}
theorem Ask.same {H H':Hp}{r a sp m tm:Addr}{k:Int}{bs:List Bl}{lo hi v y x:Rat}{wt:Int}(h:Ask H r a sp m tm k bs lo hi v y x wt) (s:zr H H'):Ask H' r a sp m tm k bs lo hi v y x wt:=⟨h.ln.same s,h.ev,s _ _ h.sp,h.sk,h.k0,h.k1,s _ _ h.t,h.zx,h.x0,s _ _ h.hm,h.y0,h.y1,h.st⟩
end
end KK
end
section
set_option maxHeartbeats 8000000
set_option Elab.async false
set_option linter.all false
set_option maxRecDepth 100000
namespace L2
open PySem
theorem toK {X:Cx}{K:PySem.W.Frag}{e:Expr}{f:PySem.W.Frag->TE}(hK:X.K=K) (h:PE X e (f X.K)):PE X e (f K):=by subst hK;exact h
end L2
namespace KK
open PySem L2 KM
section
variable {P:Program}{w:World}{K:PySem.W.Frag}{mg:Str->Option Value}{base:Heap}{C CE CB CP C0:Addr}{aN:Addr}
def noB (b0:vf) (bs:List vf) (l1 l2:Wl):Prop:=plB b0 bs l1 l2=false\/(plB b0 bs l1 l2=true/\(l1=none\/l2=none))
def zb7 (C:Addr):Sp:=λvs H _ E=>∃r a bs b0 l1 l2,vs=[.ref r,.ref a]/\Pl H r a bs b0 l1 l2/\noB b0 bs l1 l2/\∀H',zr H H'->E (.ref C) none H'
theorem zba (D:Df K mg "refuse_no_box" xh ["row","walls"] []) (O:Jf "NotEven" CE mg base) (cRu:Cal P w K mg base "refuse_uneven" 7 ["row","walls"] [] zbA) (cRuE:jO P w K mg base "refuse_uneven" 7 ["row","walls"] [] (zcb CE)):jO P w K mg base "refuse_no_box" 8 ["row","walls"] [] (zb7 CE):=by
 refine D.cal1 (k:=7) zaf (λvs H Q E h=>by obtain⟨_,_,_,_,_,_,rfl,_⟩:=h;rfl) (λf cdv A outer s H vs Q E hr7 h=>?_)
 obtain⟨r,a,bs,b0,l1,l2,rfl,pl,hp,k⟩:=h
 rcases hp with hp | ⟨hp,hn⟩
 ·refine⟨_,(zi (xw (Qc cRuE hr7 ju (za (pv 0) (za (pv 1) ze)))) xK),?_⟩
  exact⟨_,rfl,_,rfl,r,a,_,_,l1,l2,rfl,pl,hp,λH1 e1=>⟨CE,rfl,k H1 e1⟩⟩
 ·refine⟨_,(zi (xw (zw cRu hr7 (za (pv 0) (za (pv 1) ze)))) (zn (zR ((jJ (zC vG (zo zm (pv 1) zd (λ_ _=>rfl)) xo (zF _)) (jm (zC vG (zo zm (pv 1) zd (λ_ _=>rfl)) xo (zF _))))).pt (zn (j4 O PySem.F.excBase_ValueError (by decide +kernel) PySem.F.excBase_ValueError hr7.hd qO (za Xz ze))) zI))),?_⟩
  refine⟨_,rfl,_,rfl,r,a,_,_,l1,l2,rfl,pl,hp,λH1 e1=>?_⟩
  dsimp only
  obtain⟨v1,v2,ha,h1,h2⟩:=pl.walls
  have ha1:=e1 _ _ ha
  cases l1 with
  | none =>
   cases h1
   exact⟨_,rfl,a,_,_,_,rfl,rfl,.of ha1,at0 ..,rfl,_,rfl,xk ⟨by show 1<=sizeLine;decide,k H1 e1⟩⟩
  | some w1 =>
   rcases hn with hn | hn
   ·cases hn
   ·subst hn
    obtain⟨a1,_,_,rfl,_⟩:=h1
    cases h2
    exact⟨_,rfl,a,_,_,_,rfl,rfl,.of ha1,at0 ..,rfl,_,rfl,xb ⟨_,rfl,a,_,_,_,rfl,rfl,.of ha1,at1 ..,rfl,_,rfl,xk ⟨by show 1<=sizeLine;decide,k H1 e1⟩⟩⟩
def zap (C:Addr):Sp:=λvs H _ E=>∃a m lo hi y,vs=[.ref a,.ref m]/\XW H a lo hi/\zu H m y/\Sz 4000 lo/\Sz 4000 hi/\Sz 4000 y/\(y<lo\/hi<y)/\E (.ref C) none H
theorem zbd (D:Df K mg "refuse_no_place" z7 ["walls","place"] []) (O:Jf "NoPlace" CP mg base) (cLs:Cal P w K mg base "less" 1 ["one","other"] [] XM):jO P w K mg base "refuse_no_place" 2 ["walls","place"] [] (zap CP):=by
 refine D.cal1 (k:=1) zai (λvs H Q E h=>by obtain⟨_,_,_,_,_,rfl,_⟩:=h;rfl) (λf cdv A outer s H vs Q E hr h=>?_)
 obtain⟨a,m,lo,hi,y,rfl,⟨b,c,p,q,p',q',h1,h2,h3,h4,h5⟩,hm,z1,z2,z3,hy,k⟩:=h
 refine⟨_,(zn (zR ((jJ (xj (zw cLs hr (za (pv 1) (za (zo zm (zo zm (pv 0) zd (λ_ _=>rfl)) zd (λ_ _=>rfl)) ze))) λ_=>rfl) (jm (xj (zw cLs hr (za (zo zm (zo zm (pv 0) zd (λ_ _=>rfl)) zd (λ_ _=>rfl)) (za (pv 1) ze))) λ_=>rfl)))).pt (zn (j4 O PySem.F.excBase_ValueError (by decide +kernel) PySem.F.excBase_ValueError hr.hd qO (za Xz ze))) zI)),?_⟩
 refine⟨_,rfl,_,rfl,a,_,_,_,rfl,rfl,.of h1,at0 ..,b,_,_,_,rfl,rfl,.of h2,at0 ..,m,p,y,lo,rfl,hm,h4,⟨z3,z1⟩,?_⟩
 by_cases c1:y<lo
 ·rw[decide_eq_true c1]
  exact⟨_,rfl,xk ⟨by show 1<=sizeLine;decide,k⟩⟩
 ·rw[decide_eq_false c1]
  refine⟨_,rfl,xb ⟨_,rfl,a,_,_,_,rfl,rfl,.of h1,at1 ..,c,_,_,_,rfl,rfl,.of h3,at0 ..,_,rfl,q,m,hi,y,rfl,h5,hm,⟨z2,z3⟩,?_⟩⟩
  rw[decide_eq_true (show hi<y by rcases hy with h | h;exact absurd h c1;exact h)]
  exact⟨_,rfl,xk ⟨by show 1<=sizeLine;decide,k⟩⟩
def zbX (C:Addr):Sp:=λvs H _ E=>∃r a u3 u4 u5 u6 bs b0 lo hi,vs=[.ref r,.ref a,u3,u4,u5,u6]/\Ln H r a bs lo hi/\bs[0]? = some b0/\noB (tb b0) (bs.map tb) lo hi/\∀H',zr H H'->E (.ref C) none H'
theorem zcI (D:Df K mg "aims" jc ["row","walls","speed","k","place","t"] []) (cNxE:jO P w K mg base "refuse_no_box" 8 ["row","walls"] [] (zb7 CE)):jO P w K mg base "aims" 10 ["row","walls","speed","k","place","t"] [] (zbX CE):=by
 refine D.cal1 (k:=9) vv (λvs H Q E h=>by obtain⟨_,_,_,_,_,_,_,_,_,_,rfl,_⟩:=h;rfl) (λf cdv A outer s H vs Q E hr9 h=>?_)
 obtain⟨r,a,u3,u4,u5,u6,bs,b0,lo,hi,rfl,ln,h0,nb,k⟩:=h
 have hr8:zX 8 _:=hr9.mono (by decide)
 obtain⟨b0',e0',pl⟩:=ln.pl
 rw[h0]at e0';cases e0'
 refine⟨_,(zi (xw (Qc cNxE hr8 ju (za (pv 0) (za (pv 1) ze)))) xK),?_⟩
 exact⟨_,rfl,_,rfl,r,a,_,_,lo,hi,rfl,pl,nb,λH1 e1=>⟨CE,rfl,k H1 e1⟩⟩
def zbW (C:Addr):Sp:=λvs H _ E=>∃r a u3 k u5 u6 bs b0 l1 l2,vs=[.ref r,.ref a,u3,.int k,u5,u6]/\Ln H r a bs (some l1) (some l2)/\bs[0]? = some b0/\plB (tb b0) (bs.map tb) (some l1) (some l2)=true/\¬(0<=k/\k<bs.length+1)/\∀H',zr H H'->E (.ref C) none H'
theorem zcH (D:Df K mg "aims" jc ["row","walls","speed","k","place","t"] []) (T:TxB K mg) (cNx:Cal P w K mg base "refuse_no_box" 8 ["row","walls"] [] zbz) (cNbE:jO P w K mg base "refuse_no_ball" 1 ["many","k"] [] (zb6 CB)):jO P w K mg base "aims" 10 ["row","walls","speed","k","place","t"] [] (zbW CB):=by
 refine D.cal1 (k:=9) vv (λvs H Q E h=>by obtain⟨_,_,_,_,_,_,_,_,_,_,rfl,_⟩:=h;rfl) (λf cdv A outer s H vs Q E hr9 h=>?_)
 obtain⟨r,a,u3,k,u5,u6,bs,b0,l1,l2,rfl,ln,h0,hp,hk,q⟩:=h
 have hr8:zX 8 _:=hr9.mono (by decide)
 have hr1:zX 1 _:=hr9.mono (by decide)
 obtain⟨b0',e0',pl⟩:=ln.pl
 rw[h0]at e0';cases e0'
 refine⟨_,(zi (xw (zw cNx hr8 (za (pv 0) (za (pv 1) ze)))) (zi (xw (Qc cNbE hr1 ju (za (zt z8 (zH zN (by rfl) T.nLen PySem.boot_len (za (pv 0) ze)) zd) (za (pv 3) ze)))) xK)),?_⟩
 refine⟨_,rfl,_,rfl,r,a,_,_,_,_,rfl,pl,hp,λG1 s1=>?_⟩
 obtain⟨us,hr0,row⟩:=(ln.same s1).row
 have hul:=row.1
 exact⟨_,rfl,r,us,rfl,.inr (SqT.of hr0),_,_,rfl,rfl,_,rfl,_,_,rfl,by rw[hul];exact hk,CB,rfl,q G1 s1⟩
def zbY (C:Addr):Sp:=λvs H _ E=>∃r a u3 k m u6 bs b0 lo hi x x' y,vs=[.ref r,.ref a,u3,.int k,.ref m,u6]/\Ln H r a bs (some (lo,x)) (some (hi,x'))/\bs[0]? = some b0/\plB (tb b0) (bs.map tb) (some (lo,x)) (some (hi,x'))=true/\0<=k/\k<bs.length+1/\zu H m y/\Sz 4000 lo/\Sz 4000 hi/\Sz 4000 y/\(y<lo\/hi<y)/\∀H',zr H H'->E (.ref C) none H'
theorem zcJ (D:Df K mg "aims" jc ["row","walls","speed","k","place","t"] []) (T:TxB K mg) (cNx:Cal P w K mg base "refuse_no_box" 8 ["row","walls"] [] zbz) (cNb:Cal P w K mg base "refuse_no_ball" 1 ["many","k"] [] zdm) (cRnpE:jO P w K mg base "refuse_no_place" 2 ["walls","place"] [] (zap CP)):jO P w K mg base "aims" 10 ["row","walls","speed","k","place","t"] [] (zbY CP):=by
 refine D.cal1 (k:=9) vv (λvs H Q E h=>by obtain⟨_,_,_,_,_,_,_,_,_,_,_,_,_,rfl,_⟩:=h;rfl) (λf cdv A outer s H vs Q E hr9 h=>?_)
 obtain⟨r,a,u3,k,m,u6,bs,b0,lo,hi,x,x',y,rfl,ln,h0,hp,k0,k1,hm,z1,z2,z3,hy,q⟩:=h
 have hr8:zX 8 _:=hr9.mono (by decide)
 have hr2:zX 2 _:=hr9.mono (by decide)
 have hr1:zX 1 _:=hr9.mono (by decide)
 obtain⟨b0',e0',pl⟩:=ln.pl
 rw[h0]at e0';cases e0'
 refine⟨_,(zi (xw (zw cNx hr8 (za (pv 0) (za (pv 1) ze)))) (zi (xw (zw cNb hr1 (za (zt z8 (zH zN (by rfl) T.nLen PySem.boot_len (za (pv 0) ze)) zd) (za (pv 3) ze)))) (zi (xw (Qc cRnpE hr2 ju (za (pv 1) (za (pv 4) ze)))) xK))),?_⟩
 refine⟨_,rfl,_,rfl,r,a,_,_,_,_,rfl,pl,hp,λG1 s1=>?_⟩
 obtain⟨us,hr0,row⟩:=(ln.same s1).row
 have hul:=row.1
 refine⟨_,rfl,r,us,rfl,.inr (SqT.of hr0),_,_,rfl,rfl,_,rfl,_,_,rfl,k0,by rw[hul];exact k1,?_⟩
 exact⟨_,rfl,_,rfl,a,m,lo,hi,y,rfl,(ln.same s1).ws,s1 _ _ hm,z1,z2,z3,hy,CP,rfl,q G1 s1⟩
structure Xc (K:PySem.W.Frag) (mg:Str->Option Value) (C0 CE CB CP:Addr) where
 c0:Addr
 c1:Addr
 m0C:mg "ClackError" = some (.ref C0)
 m0:mg "NoEnd" = some (.ref c0)
 m1:mg "TooMany" = some (.ref c1)
 mE:mg "NotEven" = some (.ref CE)
 mB:mg "NoBall" = some (.ref CB)
 mP:mg "NoPlace" = some (.ref CP)
 nVE:mg "ValueError" = none
structure Xk (K:PySem.W.Frag) (cs:List Addr) (C C0 CE CB CP:Addr) (b1 b2 b3:Bool):Prop where
 ve:PySem.W.kitOne K (.ref C) (.type "ValueError")=some true
 ot:PySem.W.kitAny K (.ref C) (cs.map Value.ref)=some false
 ev:PySem.W.kitOne K (.ref C) (.ref CE)=some b1
 ba:PySem.W.kitOne K (.ref C) (.ref CB)=some b2
 pl:PySem.W.kitOne K (.ref C) (.ref CP)=some b3
 ex:PySem.W.exmOne K (.ref C) (.ref C0)=some true
 z:VD K C
theorem jN:zB ["row","walls","speed","k","place","t","found","e"] ["row","walls","speed","k","place","t"] (zh xy):=⟨rfl,rfl,rfl,by decide +kernel,rfl,by decide +kernel,by decide +kernel⟩
def Vw (sp:Sp) (C:Addr) (b1 b2 b3:Bool):Sp:=λvs H Q _=>∃u1 u2 u3 u4 u5 u6,vs=[u1,u2,u3,u4,u5,u6]/\(∀(H1:Hp) (Q:VK) (E:XK),zr H H1->(∀H',zr H1 H'->E (.ref C) none H')->sp [u1,u2,u3,u4,u5,u6] H1 Q E)/\∀l H',zr H H'->H' l=some (.lst [.bl b1,.bl b2,.bl b3,.bl true])->Q (.ref l) H'
theorem QO {sp:Sp}{b1 b2 b3:Bool}(D:Df K mg "_law_refused" xy ["row","walls","speed","k","place","t"] []) (T:TxB K mg) (X:Xc K mg C0 CE CB CP) (k:Xk K [X.c0,X.c1] C C0 CE CB CP b1 b2 b3) (cAi:jO P w K mg base "aims" 10 ["row","walls","speed","k","place","t"] [] sp):Cal P w K mg base "_law_refused" 11 ["row","walls","speed","k","place","t"] [] (Vw sp C b1 b2 b3):=by
 have hx:=k.ex
 have Z:=k.z
 refine D.cal (k:=10) jN (λvs H Q E h=>by obtain⟨_,_,_,_,_,_,rfl,_⟩:=h;rfl) (λf0 cdv A outer s H vs Q E hr h=>?_)
 obtain⟨u1,u2,u3,u4,u5,u6,rfl,hsp,q⟩:=h
 refine⟨_,(zi (zE (i:=6) jN.nd rfl (Or.inl rfl) (xl ze)) (zi (Vp (i:=7) (C:=C) rfl rfl X.m0C hx jN.nd rfl rfl (λpins W J hJ=>(zn (xw (Qc cAi hr hJ (za (pv 0) (za (pv 1) (za (pv 2) (za (pv 3) (za (pv 4) (za (pv 5) ze)))))))))) (λpins a oe d vs hc hdd hdt=>(zi (zE (i:=6) jN.nd rfl (Or.inl rfl) (xl (za (zH (vY (K:=K) rfl (List.mem_append_right _ (List.mem_append_right _ (List.mem_singleton.mpr rfl))) hc hdd hdt Z) (by rfl) T.nIs PyProof.Rows.boot_isinstance (za (pv 7) (za (jB (v:=.ref CE) (by rfl) X.mE rfl) ze))) (za (zH (vY (K:=K) rfl (List.mem_append_right _ (List.mem_append_right _ (List.mem_singleton.mpr rfl))) hc hdd hdt Z) (by rfl) T.nIs PyProof.Rows.boot_isinstance (za (pv 7) (za (jB (v:=.ref CB) (by rfl) X.mB rfl) ze))) (za (zH (vY (K:=K) rfl (List.mem_append_right _ (List.mem_append_right _ (List.mem_singleton.mpr rfl))) hc hdd hdt Z) (by rfl) T.nIs PyProof.Rows.boot_isinstance (za (pv 7) (za (jB (v:=.ref CP) (by rfl) X.mP rfl) ze))) ze))))) (zn (xw (toK (K:=K) (f:=λK=>tBM K "list" Vq (zZ 6) _) rfl (JX PySem.F.plainAttrs_list PySem.F.slot_list_append PySem.F.type_list_append jz (pv 6) (za (qb (zH (vY (K:=K) rfl (List.mem_append_right _ (List.mem_append_right _ (List.mem_singleton.mpr rfl))) hc hdd hdt Z) (by rfl) T.nIs PyProof.Rows.boot_isinstance (za (pv 7) (za (j1 (v:=.ty "ValueError") (u:=.type "ValueError") (by rfl) X.nVE (by decide +kernel) rfl) ze))) (vo (JY (zH (Qw (K:=K) rfl (List.mem_append_right _ (List.mem_append_right _ (List.mem_singleton.mpr rfl))) hc hdd hdt Z) (by rfl) T.nIs PyProof.Rows.boot_isinstance (za (pv 7) (za (zL (za (jB (v:=.ref X.c0) (by rfl) X.m0 rfl) (za (jB (v:=.ref X.c1) (by rfl) X.m1 rfl) ze))) ze)))))) ze)))))))) (zn (zD (pv 6))))),?_⟩
 refine⟨by show 0<=sizeLine;decide,λl0 hl0=>?_⟩
 dsimp only[zA]
 have s0:=zr.upd (o:=.lst []) hl0
 refine⟨_,rfl,_,rfl,_,rfl,_,rfl,_,rfl,_,rfl,?_⟩
 refine hsp _ _ _ s0 λH1 S1=>⟨C,rfl,rfl,λae hae=>?_⟩
 refine⟨_,rfl,_,_,b1,rfl,rfl,rfl,λ_ z=>z,k.ev,_,rfl,_,_,b2,rfl,rfl,rfl,λ_ z=>z,k.ba,_,rfl,_,_,b3,rfl,rfl,rfl,λ_ z=>z,k.pl,by show 3<=sizeLine;decide,λl1 hl1=>?_⟩
 dsimp only[zA]
 have s1:=zr.upd (o:=.lst [.bl b1,.bl b2,.bl b3]) hl1
 have e1:upd H1 l1 (.lst [.bl b1,.bl b2,.bl b3]) l1=some (.lst [.bl b1,.bl b2,.bl b3]):=zj
 generalize upd H1 l1 (.lst [.bl b1,.bl b2,.bl b3])=G1 at s1 e1
 refine⟨_,rfl,.inl ⟨rfl,_,SqL.of e1⟩,_,rfl,_,_,true,rfl,rfl,rfl,λ_ z=>z,k.ve,_,rfl,xk ⟨_,rfl,by show 2<=sizeLine;decide,λtp htp=>⟨tp,[X.c0,X.c1],false,rfl,zj,rfl,k.ot,_,rfl,?_⟩⟩⟩
 have s2:=zr.upd (o:=.tup [V.ref X.c0,.ref X.c1]) htp
 have e2:=s2 _ _ e1
 generalize upd G1 tp (.tup [V.ref X.c0,.ref X.c1])=G2 at s2 e2 ⊢
 refine⟨l1,_,_,rfl,rfl,e2,by show 3<sizeLine;decide,?_⟩
 refine⟨_,rfl,q l1 _ (λb o e=>?_) zj⟩
 have e3:=s2 _ _ (s1 _ _ (S1 _ _ (s0 _ _ e)))
 rw[zO λz=>by rw[z]at e;have:=S1 _ _ (s0 _ _ e);rw[hl1]at this;cases this]
 exact e3
def zb9:Sp:=λvs H Q _=>∃u1 u2 u3 u4 u5 u6,vs=[u1,u2,u3,u4,u5,u6]/\(∀(H1:Hp) (Q:VK) (E:XK),zr H H1->(∀z H',zr H1 H'->Q (.ref z) H')->zdj [u1,u2,u3,u4,u5,u6] H1 Q E)/\∀l H',zr H H'->H' l=some (.lst [])->Q (.ref l) H'
theorem zcZ (D:Df K mg "_law_refused" xy ["row","walls","speed","k","place","t"] []) (X:Xc K mg C0 CE CB CP) (hx:PySem.W.exmOne K (.ref C) (.ref C0)=some true) (cAi:Cal P w K mg base "aims" 10 ["row","walls","speed","k","place","t"] [] zdj):Cal P w K mg base "_law_refused" 11 ["row","walls","speed","k","place","t"] [] zb9:=by
 refine D.cal (k:=10) jN (λvs H Q E h=>by obtain⟨_,_,_,_,_,_,rfl,_⟩:=h;rfl) (λf0 cdv A outer s H vs Q E hr h=>?_)
 obtain⟨u1,u2,u3,u4,u5,u6,rfl,hsp,q⟩:=h
 refine⟨_,(zi (zE (i:=6) jN.nd rfl (Or.inl rfl) (xl ze)) (zi (Vp (i:=7) (C:=C) rfl rfl X.m0C hx jN.nd rfl rfl (λpins W J hJ=>(zn (xw (zw cAi hr (za (pv 0) (za (pv 1) (za (pv 2) (za (pv 3) (za (pv 4) (za (pv 5) ze)))))))))) (λpins a oe d vs hc hdd hdt=>xK)) (zn (zD (pv 6))))),?_⟩
 refine⟨by show 0<=sizeLine;decide,λl0 hl0=>?_⟩
 dsimp only[zA]
 have s0:=zr.upd (o:=.lst []) hl0
 refine⟨_,rfl,_,rfl,_,rfl,_,rfl,_,rfl,_,rfl,?_⟩
 dsimp only[jh]
 refine hsp _ _ _ s0 λz H1 S1=>?_
 exact⟨_,rfl,q l0 _ (s0.trans S1) (S1 _ _ zj)⟩
end
end KK
end
section
set_option maxHeartbeats 8000000
set_option Elab.async false
set_option linter.all false
set_option maxRecDepth 100000
namespace KK
open PySem L2 KM
theorem zc8 {bs:List Bl}{b0:Bl}{lo hi:Wl}{c:Bl}(m:c∈bs) (h:c.wt≠b0.wt):plB (tb b0) (bs.map tb) lo hi=false:=by
 unfold plB evB
 rw[show ((bs.map tb).all λb=>decide (b.wt=(tb b0).wt))=false from ?_,Bool.false_and]
 rw[List.all_eq_false]
 exact⟨tb c,List.mem_map.mpr ⟨c,m,rfl⟩,by rw[decide_eq_false (show ¬(tb c).wt=(tb b0).wt from h)];decide⟩
theorem J0 {bs:List Bl}{b0:Bl}{lo hi:Wl}(h:zY lo=false\/zY hi=false):plB (tb b0) (bs.map tb) lo hi=false:=by
 unfold plB
 rcases h with h | h <;> rw[h]
 ·rw[Bool.false_and,Bool.and_false]
 ·rw[Bool.and_false,Bool.and_false]
theorem J1 {b0:vf}{bs:List vf}{lo hi:Wl}(h:lo=none\/hi=none):noB b0 bs lo hi:=by
 unfold noB
 cases e:plB b0 bs lo hi with
 | false=>exact .inl rfl
 | true=>exact .inr ⟨rfl,h⟩
section
variable {P:Program}{w:World}{K:PySem.W.Frag}{mg:Str->Option Value}{base:Heap}{aN:Addr}
def zeo:Sp:=λvs H Q _=>∃(p r a:Addr) (bs:List Bl) (lo hi:Rat) (wt:Int),vs=[.ref p,.ref r,.ref a]/\vW H p/\Ln H r a bs (some (lo,0)) (some (hi,0))/\Evn bs lo hi wt/\∀z r' a' bs' b0' lo' hi' H',xA p H H'->H' z=some (.tup [.ref r',.ref a'])->Ln H' r' a' bs' lo' hi'->bs'[0]? = some b0'->noB (tb b0') (bs'.map tb) lo' hi'->Q (.ref z) H'
theorem zad:zB ["pool","row","walls","way"] ["pool","row","walls"] (zh xW):=⟨rfl,rfl,rfl,by decide +kernel,rfl,by decide +kernel,by decide +kernel⟩
theorem zcW (D:Df K mg "_law_uneven" xW ["pool","row","walls"] []) (T:TxB K mg) (cN:Cal P w K mg base "_law_next" 1 ["pool","base"] [] je):Cal P w K mg base "_law_uneven" 2 ["pool","row","walls"] [] zeo:=by
 refine D.cal (k:=1) zad (λvs H Q E h=>by obtain⟨_,_,_,_,_,_,_,rfl,_⟩:=h;rfl) (λf cdv A outer s H vs Q E hr h=>?_)
 obtain⟨p,r,a,bs,lo,hi,wt,rfl,hP,ln,ev,k⟩:=h
 refine⟨_,(zi (zE (i:=3) zad.nd rfl (Or.inl rfl) (zw cN hr (za (pv 0) (za zd ze))))
  (zi (zR ((vq (zC qN (pv 3) zd (zF _)) (qk (zC jZ (zH zN (by rfl) T.nLen PySem.boot_len (za (pv 1) ze)) zd (zF _))))).pt (zn (zD (zL (za (zt jY (vp (Zh.or vT) (pv 1) v8 (v9 (vO qI zd))) (zL (za (zt jY (vp (Zh.or vT) (zo zm (pv 1) (vO qI zd) (λ_ _=>rfl)) v8 (v9 zd)) (zL (za (zt z8 (zt xH (zo zm (zo zm (pv 1) (vO qI zd) (λ_ _=>rfl)) zd (λ_ _=>rfl)) zd) (zt zJ zd (jA VH (by rfl) T.nInt PyProof.Rows.boot_int (za (qQ jg (zo zm (zo zm (pv 1) (vO qI zd) (λ_ _=>rfl)) zd (λ_ _=>rfl)) zd (zF _)) ze)))) ze))) ze))) (za (pv 2) ze))))) zI)
  (zi (zR (zC qN (pv 3) zd (zF _)) (zn (zD (zL (za (pv 1) (za (zL (za xo (za (zo zm (pv 2) zd (λ_ _=>rfl)) ze))) ze))))) zI)
  (zi (zR (zC qN (pv 3) zd (zF _)) (zn (zD (zL (za (pv 1) (za (zL (za (zo zm (pv 2) zd (λ_ _=>rfl)) (za xo ze))) ze))))) zI)
  (zi (zR (zC qN (pv 3) zd (zF _)) (zn (zD (zL (za (pv 1) (za (zL (za (zL (za (zo zm (zo zm (pv 2) zd (λ_ _=>rfl)) zd (λ_ _=>rfl)) (za (zL (za (vO qI zd) (za zd ze))) ze))) (za (zo zm (pv 2) zd (λ_ _=>rfl)) ze))) ze))))) zI)
  (zn (zD (zL (za (pv 1) (za (zL (za (zo zm (pv 2) zd (λ_ _=>rfl)) (za (zL (za (zo zm (zo zm (pv 2) zd (λ_ _=>rfl)) zd (λ_ _=>rfl)) (za (zL (za zd (za zd ze))) ze))) ze))) ze)))))))))),?_⟩
 refine⟨_,rfl,p,5,rfl,by decide,by decide,hP,λwy G1 w0 w1 t1=>?_⟩
 dsimp only[zA]
 have ln1:=ln.tups (zK hP t1)
 obtain⟨us,hr0,row1⟩:=ln1.row
 have hul:=row1.1
 have l1:=ev.l1
 have l8:=ev.l8
 obtain⟨v1,v2,h1,⟨b',p1,q1,rfl,h2,h3,h4⟩,⟨c',p2,q2,rfl,g2,g3,g4⟩⟩:=ln1.walls
 obtain⟨b0,hb0⟩:∃b0,bs[0]? = some b0:=⟨_,List.getElem?_eq_getElem (by omega)⟩
 clear ln hP
 have next:∀{σ:St},σ=[some (V.ref p),some (.ref r),some (.ref a),some (.int wy)]->True:=λ_=>trivial
 refine vw (λσ' G'=>G'=G1/\σ'=[some (V.ref p),some (.ref r),some (.ref a),some (.int wy)]) ?_ ?_
 ·rintro σ' G' ⟨rfl,rfl⟩
  refine⟨_,rfl,rfl,_,rfl,xQ (λ_=>?_) (λ_=>?_)⟩
  ·refine⟨_,rfl,_,rfl,a,_,_,_,rfl,rfl,.of h1,at1 ..,by show 2<=sizeLine;decide,λwv hwv=>?_⟩
   have s2:=zr.upd (o:=.tup [.non,.ref c']) hwv
   have e2:upd G' wv (.tup [.non,.ref c']) wv=some (.tup [.non,.ref c']):=zj
   generalize upd G' wv (.tup [.non,.ref c'])=G2 at s2 e2
   refine⟨by show 2<=sizeLine;decide,λz hz=>?_⟩
   have s3:=zr.upd (o:=.tup [.ref r,.ref wv]) hz
   have s23:=s2.trans s3
   exact k z r wv bs b0 none (some (hi,0)) _ (t1.same s23) zj ⟨⟨us,s23 _ _ hr0,row1.tups (.of s23)⟩,⟨.non,.ref c',s3 _ _ e2,rfl,⟨c',p2,q2,rfl,s23 _ _ g2,s23 _ _ g3,s23 _ _ g4⟩⟩,l1,l8⟩ hb0 (J1 (.inl rfl))
  refine XN ?_
  dsimp only
  refine⟨_,rfl,rfl,_,rfl,xQ (λ_=>?_) (λ_=>?_)⟩
  ·refine⟨_,rfl,_,rfl,a,_,_,_,rfl,rfl,.of h1,at0 ..,by show 2<=sizeLine;decide,λwv hwv=>?_⟩
   have s2:=zr.upd (o:=.tup [.ref b',.non]) hwv
   have e2:upd G' wv (.tup [.ref b',.non]) wv=some (.tup [.ref b',.non]):=zj
   generalize upd G' wv (.tup [.ref b',.non])=G2 at s2 e2
   refine⟨by show 2<=sizeLine;decide,λz hz=>?_⟩
   have s3:=zr.upd (o:=.tup [.ref r,.ref wv]) hz
   have s23:=s2.trans s3
   exact k z r wv bs b0 (some (lo,0)) none _ (t1.same s23) zj ⟨⟨us,s23 _ _ hr0,row1.tups (.of s23)⟩,⟨.ref b',.non,s3 _ _ e2,⟨b',p1,q1,rfl,s23 _ _ h2,s23 _ _ h3,s23 _ _ h4⟩,rfl⟩,l1,l8⟩ hb0 (J1 (.inr rfl))
  refine XN ?_
  dsimp only
  refine⟨_,rfl,rfl,_,rfl,xQ (λ_=>?_) (λ_=>?_)⟩
  ·refine⟨_,rfl,_,rfl,a,_,_,_,rfl,rfl,.of h1,at0 ..,b',_,_,_,rfl,rfl,.of h2,at0 ..,_,rfl,by show 2<=sizeLine;decide,λq5 hq5=>?_⟩
   have sa:=zr.upd (o:=.tup [.int (-1),.int 2]) hq5
   have ea:zu (upd G' q5 (.tup [.int (-1),.int 2])) q5 (Rat.divInt (-1) 2):=by
    show _=some (HO.tup [.int _,.int _])
    rw[show (Rat.divInt (-1) 2).num = -1 by decide +kernel,show (((Rat.divInt (-1) 2).den:Nat):Int)=2 by decide +kernel];exact zj
   generalize upd G' q5 (.tup [.int (-1),.int 2])=Ga at sa ea
   refine⟨by show 2<=sizeLine;decide,λw5 hw5=>?_⟩
   have sb:=zr.upd (o:=.tup [.ref p1,.ref q5]) hw5
   have eb:upd Ga w5 (.tup [.ref p1,.ref q5]) w5=some (.tup [.ref p1,.ref q5]):=zj
   generalize upd Ga w5 (.tup [.ref p1,.ref q5])=Gb at sb eb
   have sab:=sa.trans sb
   refine⟨_,rfl,a,_,_,_,rfl,rfl,.of (sab _ _ h1),at1 ..,by show 2<=sizeLine;decide,λwv hwv=>?_⟩
   have s2:=zr.upd (o:=.tup [.ref w5,.ref c']) hwv
   have e2:upd Gb wv (.tup [.ref w5,.ref c']) wv=some (.tup [.ref w5,.ref c']):=zj
   generalize upd Gb wv (.tup [.ref w5,.ref c'])=G2 at s2 e2
   refine⟨by show 2<=sizeLine;decide,λz hz=>?_⟩
   have s3:=zr.upd (o:=.tup [.ref r,.ref wv]) hz
   have s23:=sab.trans (s2.trans s3)
   exact k z r wv bs b0 (some (lo,Rat.divInt (-1) 2)) (some (hi,0)) _ (t1.same s23) zj ⟨⟨us,s23 _ _ hr0,row1.tups (.of s23)⟩,⟨.ref w5,.ref c',s3 _ _ e2,⟨w5,p1,q5,rfl,(s2.trans s3) _ _ eb,s23 _ _ h3,(sb.trans (s2.trans s3)) _ _ ea⟩,⟨c',p2,q2,rfl,s23 _ _ g2,s23 _ _ g3,s23 _ _ g4⟩⟩,l1,l8⟩ hb0 (.inl (J0 (.inl (by decide +kernel:decide (Rat.divInt (-1) 2=0)=false))))
  refine XN ?_
  dsimp only
  refine⟨_,rfl,_,rfl,a,_,_,_,rfl,rfl,.of h1,at0 ..,_,rfl,a,_,_,_,rfl,rfl,.of h1,at1 ..,c',_,_,_,rfl,rfl,.of g2,at0 ..,by show 2<=sizeLine;decide,λq5 hq5=>?_⟩
  have sa:=zr.upd (o:=.tup [.int 7,.int 1]) hq5
  have ea:zu (upd G' q5 (.tup [.int 7,.int 1])) q5 (Rat.divInt 7 1):=by
   show _=some (HO.tup [.int _,.int _])
   rw[show (Rat.divInt 7 1).num=7 by decide +kernel,show (((Rat.divInt 7 1).den:Nat):Int)=1 by decide +kernel];exact zj
  generalize upd G' q5 (.tup [.int 7,.int 1])=Ga at sa ea
  refine⟨by show 2<=sizeLine;decide,λw5 hw5=>?_⟩
  have sb:=zr.upd (o:=.tup [.ref p2,.ref q5]) hw5
  have eb:upd Ga w5 (.tup [.ref p2,.ref q5]) w5=some (.tup [.ref p2,.ref q5]):=zj
  generalize upd Ga w5 (.tup [.ref p2,.ref q5])=Gb at sb eb
  have sab:=sa.trans sb
  refine⟨by show 2<=sizeLine;decide,λwv hwv=>?_⟩
  have s2:=zr.upd (o:=.tup [.ref b',.ref w5]) hwv
  have e2:upd Gb wv (.tup [.ref b',.ref w5]) wv=some (.tup [.ref b',.ref w5]):=zj
  generalize upd Gb wv (.tup [.ref b',.ref w5])=G2 at s2 e2
  refine⟨by show 2<=sizeLine;decide,λz hz=>?_⟩
  have s3:=zr.upd (o:=.tup [.ref r,.ref wv]) hz
  have s23:=sab.trans (s2.trans s3)
  exact k z r wv bs b0 (some (lo,0)) (some (hi,Rat.divInt 7 1)) _ (t1.same s23) zj ⟨⟨us,s23 _ _ hr0,row1.tups (.of s23)⟩,⟨.ref b',.ref w5,s3 _ _ e2,⟨b',p1,q1,rfl,s23 _ _ h2,s23 _ _ h3,s23 _ _ h4⟩,⟨w5,p2,q5,rfl,(s2.trans s3) _ _ eb,s23 _ _ g3,(sb.trans (s2.trans s3)) _ _ ea⟩⟩,l1,l8⟩ hb0 (.inl (J0 (.inr (by decide +kernel:decide (Rat.divInt 7 1=0)=false))))
 ·intro nx hnx
  have stay:=hnx _ _ ⟨rfl,rfl⟩
  refine⟨_,rfl,rfl,_,rfl,xQ (λ_=>?_) (λ_=>xb stay)⟩
  refine⟨_,rfl,r,us,rfl,.inr (SqT.of hr0),_,_,rfl,rfl,_,rfl,xQ (λhl=>?_) (λ_=>stay)⟩
  have hl':1<(us.length:Int):=of_decide_eq_true hl
  obtain⟨bs0,bl,ebs⟩:∃bs0 bl,bs=bs0++[bl]:=⟨bs.dropLast,bs.getLast (λe=>by rw[e]at l1;simp at l1),(List.dropLast_concat_getLast _).symm⟩
  obtain⟨us0,ul,eus⟩:∃us0 ul,us=us0++[ul]:=⟨us.dropLast,us.getLast (λe=>by rw[e]at hl';simp at hl'),(List.dropLast_concat_getLast _).symm⟩
  have hl0:us0.length=bs0.length:=by rw[eus,ebs]at hul;simpa using hul
  have n0:1<=us0.length:=by rw[eus,List.length_append,List.length_singleton]at hl';omega
  have row0:xz G1 us0 bs0:=by
   have:=xz.take row1 us0.length
   rw[eus,ebs,List.take_left,hl0,List.take_left]at this
   exact this
  obtain⟨cl,ec,c0,pp,qq,eul,f1,f2,f3⟩:=row1.2 us0.length ul (by rw[eus,List.getElem?_append_right (Nat.le_refl _),Nat.sub_self];rfl)
  have ecl:cl=bl:=by rw[ebs,hl0,List.getElem?_append_right (Nat.le_refl _),Nat.sub_self]at ec;exact(Option.some.inj ec).symm
  subst ecl eul
  have hat:atI us (-1)=some (.ref c0):=Q8 (j:=1) (Nat.le_refl _) (by omega) (by rw[eus];simp)
  have mbl:cl∈bs:=by rw[ebs];simp
  have b7:bs0.length<=7:=by have:=l8;rw[ebs]at this;simp at this;omega
  have ewt:=(ev.b cl mbl).w
  have cut1:ji us none (some (-1))=us0:=by
   rw[eus];unfold ji
   have e:HT.sIx (us0++[V.ref c0]).length (us0++[V.ref c0]).length (some (-1))=us0.length:=by
    show (if(-1:Int)<0 then((-1:Int)+((us0++[V.ref c0]).length:Int)).toNat else min (-1:Int).toNat (us0++[V.ref c0]).length)=_
    rw[if_pos (by decide),List.length_append];simp;omega
   rw[e,HT.sIx_none,List.drop_zero,Nat.sub_zero,List.take_left]
  refine⟨_,rfl,_,rfl,_,rfl,Zg hr0 λta Ga sa ha=>?_⟩
  rw[cut1]at ha
  refine⟨_,rfl,_,rfl,r,_,_,_,rfl,rfl,.of (sa _ _ hr0),hat,_,rfl,Zg (sa _ _ f1) λtb' Gb sb hb=>?_⟩
  have cut2:ji [V.ref pp,.ref qq,.int cl.wt] none (some 2)=[.ref pp,.ref qq]:=rfl
  rw[cut2]at hb
  have sab:=sa.trans sb
  obtain⟨wt',hwt',nwt⟩:∃wt':Int,wt'=cl.wt - 1+2*(if decide (cl.wt<2)=true then 1 else 0)/\wt'≠cl.wt:=by
   refine⟨_,rfl,?_⟩
   have:=ev.wt
   rw[<-ewt]at this
   rcases this with e | e | e <;> rw[e] <;> decide
  have i1:Bd 1000000 (if decide (cl.wt<2)=true then 1 else 0:Int):=by
   split
   ·exact Bd.mono (m:=2) (show Int.natAbs _<2^2 by decide) (by decide)
   ·exact Bd.mono (m:=2) (show Int.natAbs _<2^2 by decide) (by decide)
  have i2:Bd 1000000 (2:Int):=Bd.mono (m:=2) (show (2:Int).natAbs<2^2 by decide) (by decide)
  refine⟨_,rfl,_,rfl,r,_,_,_,rfl,rfl,.of (sab _ _ hr0),hat,c0,_,_,_,rfl,rfl,.of (sab _ _ f1),rfl,_,_,rfl,rfl,_,rfl,_,rfl,r,_,_,_,rfl,rfl,.of (sab _ _ hr0),hat,c0,_,_,_,rfl,rfl,.of (sab _ _ f1),rfl,_,_,rfl,rfl,.inr ⟨_,rfl,_,_,rfl,rfl,⟨i2,i1⟩,_,_,rfl,rfl,by show 1<=sizeLine;decide,λtw htw=>?_⟩⟩
  have sc:=zr.upd (o:=.tup [.int (cl.wt - 1+2*(if decide (cl.wt<2)=true then 1 else 0))]) htw
  have ec':upd Gb tw (.tup [.int (cl.wt - 1+2*(if decide (cl.wt<2)=true then 1 else 0))]) tw=some (.tup [.int wt']):=by rw[zj,hwt']
  dsimp only[jh]
  generalize upd Gb tw (.tup [.int (cl.wt - 1+2*(if decide (cl.wt<2)=true then 1 else 0))])=Gc at sc ec' ⊢
  refine jR (sc _ _ hb) ec' (by simp) λcb Gd sd hd=>?_
  refine⟨by show 1<=sizeLine;decide,λtt htt=>?_⟩
  have se:=zr.upd (o:=.tup [.ref cb]) htt
  have ee:upd Gd tt (.tup [.ref cb]) tt=some (.tup [.ref cb]):=zj
  generalize upd Gd tt (.tup [.ref cb])=Ge at se ee
  have sbe:=sb.trans (sc.trans (sd.trans se))
  refine jR (sbe _ _ ha) ee (by simp;omega) λrn Gf sf hf=>?_
  refine⟨_,rfl,by show 2<=sizeLine;decide,λz hz=>?_⟩
  have sg:=zr.upd (o:=.tup [.ref rn,.ref a]) hz
  have saf:=sa.trans (sbe.trans sf)
  have s1g:=saf.trans sg
  have hd':upd Gf z (.tup [.ref rn,.ref a]) cb=some (.tup [.ref pp,.ref qq,.int wt']):=(se.trans (sf.trans sg)) _ _ hd
  have rowN:xz (upd Gf z (.tup [.ref rn,.ref a])) (us0++[.ref cb]) (bs0++[⟨cl.pl,cl.sp,wt'⟩]):=xz.snoc (row0.tups (.of s1g)) ⟨cb,pp,qq,rfl,hd',s1g _ _ f2,s1g _ _ f3⟩
  have hb00:(bs0++[(⟨cl.pl,cl.sp,wt'⟩:Bl)])[0]? = some b0:=by
   rw[List.getElem?_append_left (by omega)]
   rw[ebs,List.getElem?_append_left (by omega)]at hb0
   exact hb0
  have w0:b0.wt=cl.wt:=by rw[ewt];exact(ev.b b0 (List.mem_of_getElem? hb0)).w
  refine k z rn a (bs0++[⟨cl.pl,cl.sp,wt'⟩]) b0 (some (lo,0)) (some (hi,0)) _ (t1.same s1g) zj ⟨⟨_,sg _ _ hf,rowN⟩,⟨.ref b',.ref c',s1g _ _ h1,⟨b',p1,q1,rfl,s1g _ _ h2,s1g _ _ h3,s1g _ _ h4⟩,⟨c',p2,q2,rfl,s1g _ _ g2,s1g _ _ g3,s1g _ _ g4⟩⟩,by simp,by rw[ebs]at l8;simpa using l8⟩ hb00 (.inl (zc8 (c:=⟨cl.pl,cl.sp,wt'⟩) (by simp) (by show wt'≠b0.wt;rw[w0];exact nwt)))
end
end KK
end
section
set_option maxHeartbeats 8000000
set_option Elab.async false
set_option linter.all false
set_option maxRecDepth 100000
namespace KK
open PySem L2 KM
theorem Evn.lnz {bs:List Bl}{lo hi:Rat}{wt:Int}(h:Evn bs lo hi wt):LnZ bs (some (lo,0)) (some (hi,0)):=by
 refine⟨λt m=>?_,λl r e1 e2=>by cases e1;cases e2;exact h.lh⟩
 unfold ths at m
 rcases List.mem_append.mp m with m | m
 ·obtain⟨b,mb,rfl⟩:=List.mem_map.mp m
  exact⟨(h.b b mb).p.sm,(h.b b mb).s.sm⟩
 ·have m:t∈[((lo,0):Rat×Rat)]++[(hi,0)]:=m
  rcases List.mem_append.mp m with m | m
  ·rw[List.mem_singleton.mp m];exact⟨h.lo.sm,Sk.zero.sm⟩
  ·rw[List.mem_singleton.mp m];exact⟨h.hi.sm,Sk.zero.sm⟩
theorem Evn.pl {bs:List Bl}{lo hi:Rat}{wt:Int}(h:Evn bs lo hi wt):∀b0,bs[0]? = some b0->plB (tb b0) (bs.map tb) (some (lo,0)) (some (hi,0))=true:=λb0 h0=>by
 unfold plB evB
 rw[show zY (some (lo,0))=true from decide_eq_true (p:=(0:Rat)=0) rfl,show zY (some (hi,0))=true from decide_eq_true (p:=(0:Rat)=0) rfl,Bool.and_true,Bool.and_true,List.all_eq_true]
 intro b m
 obtain⟨c,mc,rfl⟩:=List.mem_map.mp m
 exact decide_eq_true (by show c.wt=b0.wt;rw[(h.b c mc).w,(h.b b0 (List.mem_of_getElem? h0)).w])
theorem Ask.ak {H:Hp}{r a sp m tm:Addr}{k:Int}{bs:List Bl}{lo hi v y x:Rat}{wt:Int}(h:Ask H r a sp m tm k bs lo hi v y x wt){m':Addr}{y':Rat}(hm:zu H m' y') (sy:Bd 2000 y'.num/\Bd 400 (y'.den:Int)):XT H r a m' tm bs lo hi x y':=⟨h.ln,h.ev.lnz,h.ev.pl,h.t,h.zx.mono (by decide),hm,sy⟩
theorem Ask.tups {H H':Hp}{r a sp m tm:Addr}{k:Int}{bs:List Bl}{lo hi v y x:Rat}{wt:Int}(h:Ask H r a sp m tm k bs lo hi v y x wt) (s:xx H H'):Ask H' r a sp m tm k bs lo hi v y x wt:=⟨h.ln.tups s,h.ev,s _ _ h.sp,h.sk,h.k0,h.k1,s _ _ h.t,h.zx,h.x0,s _ _ h.hm,h.y0,h.y1,h.st⟩
theorem Jv (ns:List Int) (hl:ns.length<=63) (lo hi:Option Int):∃ms:List Int,ji (ns.map V.int) lo hi=ms.map V.int/\ms.length<=63 :=
 ⟨(ns.drop (HT.sIx (ns.map V.int).length 0 lo)).take (HT.sIx (ns.map V.int).length (ns.map V.int).length hi - HT.sIx (ns.map V.int).length 0 lo),by unfold ji;rw[<-List.map_drop,<-List.map_take],by rw[List.length_take,List.length_drop];omega⟩
theorem Vn {H:Hp}{x y:V}{d:PyData}{Q:VK}(h1:RdD H x d) (h2:RdD H y d) (s:SeqAt.shaped d=true) (q:Q (.bl false) H):zda x y H Q :=
 ⟨_,_,h1,h2,s,s,by rw[SeqAt.eqv_refl _ (by have:(_&&decide (_<=64))=true:=s;exact(Bool.and_eq_true_iff.mp this).1)];exact q⟩
theorem ZU {H:Hp}{l l2:Addr}{b1 b2 b3:Bool}{Q:VK}(h1:H l=some (.lst [.bl b1,.bl b2,.bl b3,.bl true])) (h2:H l2=some (.lst [.bl b1,.bl b2,.bl b3,.bl true])) (q:Q (.bl false) H):zda (.ref l) (.ref l2) H Q :=
 Vn (.lst h1 (.cons (.bl _) (.cons (.bl _) (.cons (.bl _) (.cons (.bl _) .nil))))) (.lst h2 (.cons (.bl _) (.cons (.bl _) (.cons (.bl _) (.cons (.bl _) .nil))))) rfl q
def Vv (K:PySem.W.Frag):Sp:=λvs H Q _=>∃(a:Addr) (ns:List Int),vs=[.ref a]/\SqL K H a (ns.map V.int)/\ns.length<=63/\∀H',Q (.bl true) H'
theorem qc:zB ["script","cell","pool","row","walls","speed","k","place","t","odd","far","out","other","sides","at"] ["script"] (zh s_law):=⟨rfl,rfl,rfl,by decide +kernel,rfl,by decide +kernel,by decide +kernel⟩
section
variable {P:Program}{w:World}{K:PySem.W.Frag}{mg:Str->Option Value}{base:Heap}{C CE CB CP C0:Addr}{aN:Addr}
theorem zcQ {fl:Addr}{fdl:FuncData}(F:Fun K "law" "law" s_law fl fdl) (T:TxB K mg) (cD:Cal P w K mg base "_law_left" 1 ["cell"] [] zb2) (cN:Cal P w K mg base "_law_next" 1 ["pool","base"] [] je) (cL:Cal P w K mg base "_law_low" 1 ["top","bottom"] [] xX) (cA:Cal P w K mg base "_law_add" 2 ["a","b"] [] (xJ Sz2 (· + ·))) (cO:Cal P w K mg base "_law_off" 2 ["a","b"] [] (xJ Sz2 (· - ·)))
  (cAs:Cal P w K mg base "_law_asking" 6 ["pool"] [] zb0) (cUn:Cal P w K mg base "_law_uneven" 2 ["pool","row","walls"] [] zeo) (cRfE:Cal P w K mg base "_law_refused" 11 ["row","walls","speed","k","place","t"] [] (Vw (zbX CE) CE true false false)) (cRfB:Cal P w K mg base "_law_refused" 11 ["row","walls","speed","k","place","t"] [] (Vw (zbW CB) CB false true false)) (cRfP:Cal P w K mg base "_law_refused" 11 ["row","walls","speed","k","place","t"] [] (Vw (zbY CP) CP false false true)) (cRfG:Cal P w K mg base "_law_refused" 11 ["row","walls","speed","k","place","t"] [] zb9) :
  jH P w K mg base CX0 12 fl fdl ["script"] (Vv K):=by
 refine F.ok (k:=11) qc (λvs H Q E h=>by obtain⟨_,_,rfl,_⟩:=h;rfl) (λcdv A outer s H vs Q E hr h=>?_)
 obtain⟨a0,ns,rfl,hS,hlen,kk⟩:=h
 have hr1:zX 1 _:=hr.mono (by decide)
 have hr2:zX 2 _:=hr.mono (by decide)
 have hr6:zX 6 _:=hr.mono (by decide)
 have hu:=hr.units
 refine⟨_,(zi (jb PassesOwn.never rfl (xR (zt zbg (xl (za zd ze)) (vp zby (pv 0) v8 (v9 zd)))) (zG (i:=1) qc.nd rfl (Or.inl rfl)) (zi (zE (i:=2) qc.nd rfl (Or.inl rfl) (zw cD hr1 (za (pv 1) ze)))
  (zi (ja (zw cAs hr6 (za (pv 2) ze)) (jk rfl (zM (zG (i:=3) qc.nd rfl (Or.inl rfl)) (zM (zG (i:=4) qc.nd rfl (Or.inl rfl)) (zM (zG (i:=5) qc.nd rfl (Or.inl rfl)) (zM (zG (i:=6) qc.nd rfl (Or.inl rfl)) (zM (zG (i:=7) qc.nd rfl (Or.inl rfl)) (zM (zG (i:=8) qc.nd rfl (Or.inl rfl)) xZ))))))))
  (zi (zE (i:=9) qc.nd rfl (Or.inl rfl) (zo zS (xl (za (vO qI zd) (za (zt z8 (zH zN (by rfl) T.nLen PySem.boot_len (za (pv 3) ze)) zd) (za (zt vm zd zd) (za (zt xH zd (zt vm zd zd)) ze))))) (zw cN hr1 (za (pv 2) (za zd ze))) (λ_ _=>rfl)))
  (zi (zE (i:=10) qc.nd rfl (Or.inl rfl) (zw cL hr1 (za (zt z8 zd (zw cN hr1 (za (pv 2) (za zd ze)))) (za (zt z8 zd (zw cN hr1 (za (pv 2) (za zd ze)))) ze))))
  (zi (zE (i:=11) qc.nd rfl (Or.inl rfl) (zo zS (xl (za (zw cO hr2 (za (zo zm (zo zm (pv 4) zd (λ_ _=>rfl)) zd (λ_ _=>rfl)) (za (pv 10) ze))) (za (zw cA hr2 (za (zo zm (zo zm (pv 4) zd (λ_ _=>rfl)) zd (λ_ _=>rfl)) (za (pv 10) ze))) ze))) (zw cN hr1 (za (pv 2) (za zd ze))) (λ_ _=>rfl)))
  (zi (ja (zw cUn hr2 (za (pv 2) (za (pv 3) (za (pv 4) ze)))) (jk rfl (zM (zG (i:=12) qc.nd rfl (Or.inl rfl)) (zM (zG (i:=13) qc.nd rfl (Or.inl rfl)) xZ))))
  (zi (zR (zC (Za hu) (zw cRfE hr (za (pv 12) (za (pv 13) (za (pv 5) (za (pv 9) (za (pv 11) (za (pv 8) ze))))))) (xl (za xq (za xq (za xq (za xq ze))))) (zF _)) (zn (zD xq)) zI)
  (zi (zR (zC (Za hu) (zw cRfE hr (za (pv 12) (za (pv 13) (za (pv 5) (za (pv 6) (za (pv 7) (za (pv 8) ze))))))) (xl (za xq (za xq (za xq (za xq ze))))) (zF _)) (zn (zD xq)) zI)
  (zi (zR (zC (Za hu) (zw cRfB hr (za (pv 3) (za (pv 4) (za (pv 5) (za (pv 9) (za (pv 11) (za (pv 8) ze))))))) (xl (za xq (za xq (za xq (za xq ze))))) (zF _)) (zn (zD xq)) zI)
  (zi (zR (zC (Za hu) (zw cRfB hr (za (pv 3) (za (pv 4) (za (pv 5) (za (pv 9) (za (pv 7) (za (pv 8) ze))))))) (xl (za xq (za xq (za xq (za xq ze))))) (zF _)) (zn (zD xq)) zI)
  (zi (zR (zC (Za hu) (zw cRfP hr (za (pv 3) (za (pv 4) (za (pv 5) (za (pv 6) (za (pv 11) (za (pv 8) ze))))))) (xl (za xq (za xq (za xq (za xq ze))))) (zF _)) (zn (zD xq)) zI)
  (zn (jb PassesOwn.never rfl (vH (zL (za (pv 7) (za (zo zm (zo zm (pv 4) zd (λ_ _=>rfl)) zd (λ_ _=>rfl)) (za (zo zm (zo zm (pv 4) zd (λ_ _=>rfl)) zd (λ_ _=>rfl)) ze))))) (zG (i:=14) qc.nd rfl (Or.inl rfl)) (zn (zR (zC (Za hu) (zw cRfG hr (za (pv 3) (za (pv 4) (za (pv 5) (za (pv 6) (za (pv 14) (za (pv 8) ze))))))) (xl ze) (zF _)) (zn (zD xq)) zI)))))))))))))))) (zn (zD xq))),?_⟩
 obtain⟨ms,hms,hml⟩:=Jv ns hlen none (some 16)
 refine⟨by show 1<=sizeLine;decide,λp0 hp0=>⟨_,rfl,_,rfl,a0,_,rfl,(zr.upd hp0).seq hS,λp2 hp2=>?_⟩⟩
 rw[hms]
 refine⟨p0,p2,_,_,rfl,rfl,.of (zr.upd hp2 _ _ zj),.of zj,szl (by simp;omega),λp1 hp1=>?_⟩
 have e6:upd (upd (upd H p0 (.lst [.int 0])) p2 (.lst (ms.map V.int))) p1 (.lst ([.int 0]++ms.map V.int)) p1=some (.lst ((0::ms).map V.int)):=zj
 generalize upd (upd (upd H p0 (.lst [.int 0])) p2 (.lst (ms.map V.int))) p1 (.lst ([.int 0]++ms.map V.int))=G6 at e6
 clear hp0 hp1 hp2
 refine⟨p1,rfl,⟨_,SqL.of e6⟩,?_⟩
 refine ZH (xs:=(0::ms).map V.int) (λi σ G=>zr G6 G/\∃y1 y2 y3 y4 y5 y6 y7 y8 y9 y10 y11 y12 y13 y14,σ=[some (.ref a0),y1,y2,y3,y4,y5,y6,y7,y8,y9,y10,y11,y12,y13,y14]) ⟨zr.refl _,_,_,_,_,_,_,_,_,_,_,_,_,_,_,rfl⟩ (λi σ G _ ⟨s,_⟩=>SqL.of (s _ _ e6)) ?_ ?_
 ·rintro i w σ G hw ⟨SG,y1,y2,y3,y4,y5,y6,y7,y8,y9,y10,y11,y12,y13,y14,rfl⟩
  obtain⟨ce,rfl⟩:∃c:Int,w = .int c:=by
   rw[List.getElem?_map]at hw
   cases hc:(0::ms)[i]? with
   | none=>rw[hc]at hw;cases hw
   | some c=>rw[hc]at hw;cases hw;exact⟨c,rfl⟩
  dsimp only[zA]
  refine⟨_,rfl,ce,rfl,λp G1 hp s1 hP=>?_⟩
  dsimp only[zA]
  have nP:∀b o,G6 b=some o->b≠p:=λb o e q=>by have:=SG _ _ e;rw[q,hp]at this;cases this
  have S61:zr G6 G1:=SG.trans s1
  clear hp s1 SG
  refine⟨_,rfl,p,rfl,hP,λz r a sp m tm k bs lo hi v y x wt G2 t2 hz ak=>?_⟩
  refine⟨z,_,rfl,.of hz,rfl,_,_,rfl,_,_,rfl,_,_,rfl,_,_,rfl,_,_,rfl,_,_,rfl,rfl,?_⟩
  dsimp only[zA]
  have hP2:=t2.pool
  have ev:=ak.ev
  have lh:=ev.lh
  have zlo:Sz 4000 lo:=ev.lo.z.mono (by decide)
  have zhi:Sz 4000 hi:=ev.hi.z.mono (by decide)
  clear hz
  obtain⟨us,hr0,row2⟩:=ak.ln.row
  have hul:=row2.1
  have l8:=ev.l8
  refine⟨_,rfl,_,rfl,r,us,rfl,.inr (SqT.of hr0),_,_,rfl,rfl,_,_,rfl,rfl,⟨by decide,by decide,by decide⟩,_,_,rfl,rfl,⟨by decide,by decide,by decide⟩,_,_,rfl,rfl,by show 4<=sizeLine;decide,λl1 hl1=>?_⟩
  refine⟨_,rfl,p,4,rfl,by decide,by decide,hP2.new hl1,λd G3 d0 d1 t3=>?_⟩
  have t3':=t3.pre (zr.upd (o:=.lst [.int (-1),.int ((us.length:Int)+1),.int ((10:Int)^(30:Int).toNat),.int (0 - (10:Int)^(20:Int).toNat)]) hl1)
  have big30:((10:Int)^(30:Int).toNat)=1000000000000000000000000000000:=by decide
  have big20:(0 - (10:Int)^(20:Int).toNat) = -100000000000000000000:=by decide
  obtain⟨yv,ey,hy⟩:=JN (u:=V.int (-1)) (v:=.int ((us.length:Int)+1)) (x:=.int ((10:Int)^(30:Int).toNat)) (w:=.int (0 - (10:Int)^(20:Int).toNat)) d0 d1
  obtain⟨od,rfl,hod⟩:∃od:Int,yv = .int od/\¬(0<=od/\od<bs.length+1):=by
   rcases hy with rfl | rfl | rfl | rfl
   ·exact⟨_,rfl,by omega⟩
   ·exact⟨_,rfl,by omega⟩
   ·exact⟨_,rfl,by rw[big30];omega⟩
   ·exact⟨_,rfl,by rw[big20];omega⟩
  refine⟨l1,_,_,_,rfl,rfl,.of (t3.keep l1 _ zj (hP2.ne hl1)),ey,?_⟩
  dsimp only[zA]
  refine⟨_,rfl,p,9,rfl,by decide,by decide,t3'.pool,λd2 G4 a2 b2 t4=>⟨_,_,rfl,rfl,_,rfl,p,5,rfl,by decide,by decide,t4.pool,λd3 G5 a3 b3 t5=>⟨_,_,rfl,rfl,_,_,rfl,by omega,Bd.mono (m:=5) (bdn (by omega) (by omega)) (by decide),λqf G7 s7 hf=>?_⟩⟩⟩
  have zf:Sz 5 (Rat.divInt (1+d2) (1+d3)):=.divInt (by omega) (bdn (by omega) (by omega)) (bdn (by omega) (by omega))
  have pf:0<Rat.divInt (1+d2) (1+d3):=(ZF (by omega)).mpr (by omega)
  generalize Rat.divInt (1+d2) (1+d3)=fr at hf zf pf
  dsimp only[zA]
  have t27:xA p G2 G7:=(t3'.trans (t4.trans t5)).same s7
  have ak7:=ak.tups (zK hP2 t27)
  obtain⟨b',c',pl',ph,p',q',h1,h2,h3,h4,h5⟩:=ak7.ln.ws.w
  refine⟨_,rfl,a,_,_,_,rfl,rfl,.of h1,at0 ..,b',_,_,_,rfl,rfl,.of h2,at0 ..,_,rfl,pl',qf,lo,fr,rfl,h4,hf,⟨zlo,zf.mono (by decide)⟩,λo1 G8 s8 ho1=>?_⟩
  have ho1:zu G8 o1 (lo - fr):=ho1
  refine⟨_,rfl,a,_,_,_,rfl,rfl,.of (s8 _ _ h1),at1 ..,c',_,_,_,rfl,rfl,.of (s8 _ _ h3),at0 ..,_,rfl,ph,qf,hi,fr,rfl,s8 _ _ h5,s8 _ _ hf,⟨zhi,zf.mono (by decide)⟩,λo2 G9 s9 ho2=>?_⟩
  have ho2:zu G9 o2 (hi+fr):=ho2
  refine⟨by show 2<=sizeLine;decide,λl2 hl2=>?_⟩
  have t29:=t27.same (s8.trans s9)
  refine⟨_,rfl,p,2,rfl,by decide,by decide,t29.pool.new hl2,λd4 GA a4 b4 tA=>?_⟩
  have tA':=tA.pre (zr.upd (o:=.lst [.ref o1,.ref o2]) hl2)
  have uA:=zK t29.pool tA'
  obtain⟨ot,oq,eot,hot,zot,hout⟩:∃ot oq,atI [V.ref o1,.ref o2] d4=some (.ref ot)/\zu GA ot oq/\Sz 4000 oq/\(oq<lo\/hi<oq):=by
   have d01:d4=0\/d4=1:=by omega
   rcases d01 with rfl | rfl
   ·exact⟨o1,_,rfl,uA _ _ (s9 _ _ ho1),(Sz.sub' ev.lo.z zf).mono (by decide),.inl (by grind)⟩
   ·exact⟨o2,_,rfl,uA _ _ ho2,(ev.hi.z.add zf).mono (by decide),.inr (by grind)⟩
  refine⟨l2,_,_,_,rfl,rfl,.of (tA.keep l2 _ zj (t29.pool.ne hl2)),eot,?_⟩
  dsimp only[zA]
  have t2A:=t29.trans tA'
  have akA:=ak.tups (zK hP2 t2A)
  clear uA tA tA' t29 t27 t3 t3' t4 t5 s7 s8 s9 ho1 ho2 hf ey hy hl1 hl2 eot ak7 h1 h2 h3 h4 h5 row2 hr0
  refine⟨_,rfl,_,rfl,_,rfl,p,r,a,bs,lo,hi,wt,rfl,t2A.pool,akA.ln,ev,λz r' a' bs' b0' lo' hi' GB tB hz lnB hb0 nb=>?_⟩
  refine⟨z,_,rfl,.of hz,rfl,_,_,rfl,_,_,rfl,rfl,?_⟩
  dsimp only[zA]
  have uB:=zK t2A.pool tB
  have akB:=akA.tups uB
  have hotB:=uB _ _ hot
  have S6B:zr G6 GB:=λb o e=>(t2.trans (t2A.trans tB)).keep b o (S61 _ _ e) (nP b o e)
  clear hz uB akA hot tB t2A ak hP2 t2 hP S61
  obtain⟨bz,hbz⟩:∃bz,bs[0]? = some bz:=⟨_,List.getElem?_eq_getElem ev.l1⟩
  have ple:=ev.pl bz hbz
  have k0:=akB.k0
  have k1:=akB.k1
  refine⟨_,rfl,_,rfl,_,rfl,_,rfl,_,rfl,_,rfl,_,_,_,_,_,_,rfl,λH1 Q1 E1 s1 kE=>⟨r',a',_,_,_,_,bs',b0',lo',hi',rfl,lnB.same s1,hb0,nb,kE⟩,λw1 GC sC hw1=>?_⟩
  refine⟨by show 4<=sizeLine;decide,λv1 hv1=>ZU (zr.upd hv1 _ _ hw1) zj ⟨_,rfl,xb ?_⟩⟩
  have sBC:=sC.trans (zr.upd (o:=.lst [.bl true,.bl false,.bl false,.bl true]) hv1)
  generalize upd GC v1 (.lst [.bl true,.bl false,.bl false,.bl true])=GD at sBC
  refine⟨_,rfl,_,rfl,_,rfl,_,rfl,_,rfl,_,rfl,_,_,_,_,_,_,rfl,λH1 Q1 E1 s1 kE=>⟨r',a',_,_,_,_,bs',b0',lo',hi',rfl,lnB.same (sBC.trans s1),hb0,nb,kE⟩,λw2 GE sE hw2=>?_⟩
  refine⟨by show 4<=sizeLine;decide,λv2 hv2=>ZU (zr.upd hv2 _ _ hw2) zj ⟨_,rfl,xb ?_⟩⟩
  have sBE:=sBC.trans (sE.trans (zr.upd (o:=.lst [.bl true,.bl false,.bl false,.bl true]) hv2))
  generalize upd GE v2 (.lst [.bl true,.bl false,.bl false,.bl true])=GF at sBE
  refine⟨_,rfl,_,rfl,_,rfl,_,rfl,_,rfl,_,rfl,_,_,_,_,_,_,rfl,λH1 Q1 E1 s1 kE=>⟨r,a,_,od,_,_,bs,bz,_,_,rfl,akB.ln.same (sBE.trans s1),hbz,ple,hod,kE⟩,λw3 GH sH hw3=>?_⟩
  refine⟨by show 4<=sizeLine;decide,λv3 hv3=>ZU (zr.upd hv3 _ _ hw3) zj ⟨_,rfl,xb ?_⟩⟩
  have sBH:=sBE.trans (sH.trans (zr.upd (o:=.lst [.bl false,.bl true,.bl false,.bl true]) hv3))
  generalize upd GH v3 (.lst [.bl false,.bl true,.bl false,.bl true])=GI at sBH
  refine⟨_,rfl,_,rfl,_,rfl,_,rfl,_,rfl,_,rfl,_,_,_,_,_,_,rfl,λH1 Q1 E1 s1 kE=>⟨r,a,_,od,_,_,bs,bz,_,_,rfl,akB.ln.same (sBH.trans s1),hbz,ple,hod,kE⟩,λw4 GJ sJ hw4=>?_⟩
  refine⟨by show 4<=sizeLine;decide,λv4 hv4=>ZU (zr.upd hv4 _ _ hw4) zj ⟨_,rfl,xb ?_⟩⟩
  have sBJ:=sBH.trans (sJ.trans (zr.upd (o:=.lst [.bl false,.bl true,.bl false,.bl true]) hv4))
  generalize upd GJ v4 (.lst [.bl false,.bl true,.bl false,.bl true])=GK at sBJ
  refine⟨_,rfl,_,rfl,_,rfl,_,rfl,_,rfl,_,rfl,_,_,_,_,_,_,rfl,λH1 Q1 E1 s1 kE=>⟨r,a,_,k,ot,_,bs,bz,lo,hi,0,0,oq,rfl,akB.ln.same (sBJ.trans s1),hbz,ple,k0,by omega,(sBJ.trans s1) _ _ hotB,zlo,zhi,zot,hout,kE⟩,λw5 GL sL hw5=>?_⟩
  refine⟨by show 4<=sizeLine;decide,λv5 hv5=>ZU (zr.upd hv5 _ _ hw5) zj ⟨_,rfl,xb ?_⟩⟩
  have sBL:=sBJ.trans (sL.trans (zr.upd (o:=.lst [.bl false,.bl false,.bl true,.bl true]) hv5))
  generalize upd GL v5 (.lst [.bl false,.bl false,.bl true,.bl true])=GM at sBL
  have akM:=akB.same sBL
  have S6M:=S6B.trans sBL
  clear akB sBL sBJ sBH sBE sBC S6B hotB lnB
  obtain⟨b',c',pl',ph,p',q',h1,h2,h3,h4,h5⟩:=akM.ln.ws.w
  refine⟨_,rfl,_,rfl,a,_,_,_,rfl,rfl,.of h1,at0 ..,b',_,_,_,rfl,rfl,.of h2,at0 ..,_,rfl,a,_,_,_,rfl,rfl,.of h1,at1 ..,c',_,_,_,rfl,rfl,.of h3,at0 ..,by show 3<=sizeLine;decide,λt3 ht3=>⟨t3,rfl,⟨_,SqT.of zj⟩,?_⟩⟩
  have sN:=zr.upd (o:=.tup [.ref m,.ref pl',.ref ph]) ht3
  have eN:upd GM t3 (.tup [.ref m,.ref pl',.ref ph]) t3=some (.tup [.ref m,.ref pl',.ref ph]):=zj
  generalize upd GM t3 (.tup [.ref m,.ref pl',.ref ph])=GN at sN eN
  have akN:=akM.same sN
  have h4':=sN _ _ h4
  have h5':=sN _ _ h5
  refine Vi (xs:=[.ref m,.ref pl',.ref ph]) (λi σ G=>zr GN G/\∃y14,σ=[some (.ref a0),some (.int ce),some (.ref p),some (.ref r),some (.ref a),some (.ref sp),some (.int k),some (.ref m),some (.ref tm),some (.int od),some (.ref qf),some (.ref ot),some (.ref r'),some (.ref a'),y14]) ⟨zr.refl _,_,rfl⟩ (λi σ G _ ⟨s,_⟩=>SqT.of (s _ _ eN)) ?_ ?_
  ·rintro j wv σ GO hv ⟨sO,y14,rfl⟩
   obtain⟨mv,yv,rfl,hmv,yv0,yv1,ysz⟩:∃mv yv,wv = .ref mv/\zu GN mv yv/\lo<=yv/\yv<=hi/\(Bd 2000 yv.num/\Bd 400 (yv.den:Int)):=by
    match j,hv with
    | 0,hv=>cases hv;exact⟨m,y,rfl,akN.hm,akN.y0,akN.y1,akN.sy⟩
    | 1,hv=>cases hv;exact⟨pl',lo,rfl,h4',by grind,by grind,ev.lo.z.1.mono (by decide),ev.lo.z.2.mono (by decide)⟩
    | 2,hv=>cases hv;exact⟨ph,hi,rfl,h5',by grind,by grind,ev.hi.z.1.mono (by decide),ev.hi.z.2.mono (by decide)⟩
   dsimp only[zA]
   have akO:=akN.same sO
   refine⟨_,rfl,_,rfl,_,rfl,_,rfl,_,rfl,_,rfl,_,_,_,_,_,_,rfl,λH1 Q1 E1 s1 kE=>?_,λw6 GP sP hw6=>?_⟩
   ·have ak1:=akO.same s1
    exact⟨r,a,mv,tm,sp,k,bs,lo,hi,x,yv,v,rfl,ak1.ak ((sO.trans s1) _ _ hmv) ysz,ak1.sp,ak1.sk.sm,k0,k1,yv0,yv1,λz H' ys s' _ _ _=>kE z H' s'⟩
   ·refine⟨by show 0<=sizeLine;decide,λv6 hv6=>?_⟩
    exact Vn (.lst (zr.upd hv6 _ _ hw6) .nil) (.lst zj .nil) rfl ⟨_,rfl,xb ⟨sO.trans (sP.trans (zr.upd hv6)),_,rfl⟩⟩
  ·rintro σ GO ⟨sO,y14,rfl⟩
   exact⟨S6M.trans (sN.trans sO),_,_,_,_,_,_,_,_,_,_,_,_,_,_,rfl⟩
 ·rintro σ G _
  exact kk _
end
end KK
end
section
set_option maxHeartbeats 8000000
set_option Elab.async false
set_option linter.all false
set_option maxRecDepth 100000
namespace KK
open PySem L2 KM PySem.W
def xKB (K:Frag) (C:Addr):Bool:=findIn K (.ref C) "__getattribute__" == some (some (.builtin "BaseException.__getattribute__"))&&findIn K (.ref C) "__getattr__" == some none&&subIn K (.ref C) (.type "BaseException") == some true&&mroIn K C (.type "object") == some true&&hasDictIn K C &&
 findIn K (.ref C) "__class__" == some (some (.builtin "object.__class__"))&&specialIn K (.builtin "object.__class__") "__get__" == some (some (.builtin "getset_descriptor.__get__"))&&takesIn K (.builtin "object.__class__") == some true
theorem zaC {K:Frag}{C:Addr}(h:xKB K C=true):VD K C:=by
 simp only[xKB,Bool.and_eq_true,beq_iff_eq]at h
 obtain⟨⟨⟨⟨⟨⟨⟨h1,h2⟩,h3⟩,h4⟩,h5⟩,h6⟩,h7⟩,h8⟩:=h
 exact⟨h1,h2,h3,h4,h5,h6,h7,h8⟩
theorem QQ {K:Frag}{h:Heap}{mg:Str->Option Value}{x:Str}{C:Addr}(X:K.In h) (G:h.Ns mainGlobals mg) (e:nsIn K mainGlobals x=some (some (.ref C))) (q:excIn K C zay "ValueError.__new__" = true):Jf x C mg h:=by
 unfold excIn at q
 split at q
 case h_2=>cases q
 case h_1 dd cd sl ho =>
  split at q
  case h_2=>cases q
  case h_1 C' bm k0 k1 k2 k3 n k5 hm hs =>
   obtain⟨cnm,cbs,cmro,cns,cqn,chd,csn,csub,cab,ccol,cdel⟩:=cd
   obtain⟨sll⟩:=sl
   simp only at hm hs q
   subst hm;subst hs
   simp only[Bool.and_eq_true,beq_iff_eq,Bool.not_eq_true']at q
   obtain⟨⟨⟨⟨⟨eC,en⟩,ed⟩,et⟩,eo⟩,ei⟩:=q
   subst eC;subst en;subst ed
   exact⟨mg_of X G e,bm,cns,cnm,cqn,cbs,chd,csn,csub,cab,ccol,dd,k0,k1,k2,k3,k5,_,X _ _ ho,.of_isNs (isNs_of_in X eo),nsMap_none_of_in X eo ei,tail_of_in X et⟩
end KK
end
set_option linter.all false
def PySem.W.Fast.tw10323121948472906844:Nat:=0
def PySem.W.Fast.tw16728538106940208675:Nat:=0
def PySem.W.Fast.tw8002720171930670576:Nat:=0
def PySem.W.Fast.tw5341908108670631274:Nat:=0
def PySem.W.Fast.tw5773831445526204412:Nat:=0
def PySem.W.Fast.tw5539776264227521758:Nat:=0
def PySem.W.Fast.tw847369075279876811:Nat:=0
def PySem.W.Fast.tw12550605637687165146:Nat:=0
def PySem.W.Fast.tw15021118149212091351:Nat:=0
def PySem.W.Fast.tw8700643071613627535:Nat:=0
def PySem.W.Fast.tw13713702740585162936:Nat:=0
def PySem.W.Fast.tw2020754354393658531:Nat:=0
def PySem.W.Fast.tw7021767338336609974:Nat:=0
def PySem.W.Fast.tw12741452179807996764:Nat:=0
def PySem.W.Fast.tw5658315912899235277:Nat:=0
def PySem.W.Fast.tw168519999879293060:Nat:=0
def PySem.W.Fast.tw13773034697384141127:Nat:=0
def PySem.W.Fast.tw12548539609886404533:Nat:=0
def PySem.W.Fast.tw6271122022089314340:Nat:=0
def PySem.W.Fast.tw17433210915540856572:Nat:=0
def PySem.W.Fast.tw13215028438402575943:Nat:=0
def PySem.W.Fast.tw1317525118596276903:Nat:=0
def PySem.W.Fast.tw17818190465953022906:Nat:=0
def PySem.W.Fast.tw9944647500336378581:Nat:=0
def PySem.W.Fast.tw6580304175881699415:Nat:=0
def PySem.W.Fast.tw7035184885325202683:Nat:=0
section
set_option maxHeartbeats 8000000
set_option Elab.async false
set_option linter.all false
set_option maxRecDepth 100000
namespace KK
open PySem L2 KM
theorem zcz (K:PySem.W.Frag):PySem.W.kitOne K (.type "int") (.type "int")=some true:=by
 unfold PySem.W.kitOne;rw[if_pos (by decide +kernel)]
theorem zcy (K:PySem.W.Frag):PySem.W.kitOne K (.type "int") (.type "bool")=some false:=by
 with_unfolding_all rfl
theorem zcA (K:PySem.W.Frag):PySem.W.kitOne K (.type "tuple") (.type "tuple")=some true:=by
 unfold PySem.W.kitOne;rw[if_pos (by decide +kernel)]
theorem zci {l:PySem.W.OpenLaw}{w:World}{K:PySem.W.Frag}{h:Heap}{mg:Str->Option Value}{fa:Addr}(X:K.In h) (G:h.Ns mainGlobals mg) (hfa:mg "law" = some (.ref fa))
  {f0:Addr}{od0 an0:Option Addr}{sl0:Array (Option Value)}{oc0 kV0 dc0 pm0 cd0 ct0:Value}
  (a0:PySem.W.nsIn K mainGlobals "is_whole" = some (some (.ref f0))) (l0:K.lookup f0=some ⟨oc0,od0,.func (PySem.W.fnOf "is_whole" "is_whole" (zy qy) (zv qy) (zh qy) .none kV0 dc0 pm0 an0 cd0 ct0),sl0⟩) (c0:PySem.W.codeIn K cd0 "is_whole" = true) (k0:PySem.W.keepIn K (.ref f0)=true)
  {f1:Addr}{od1 an1:Option Addr}{sl1:Array (Option Value)}{oc1 kV1 dc1 pm1 cd1 ct1:Value}
  (a1:PySem.W.nsIn K mainGlobals "is_tuple" = some (some (.ref f1))) (l1:K.lookup f1=some ⟨oc1,od1,.func (PySem.W.fnOf "is_tuple" "is_tuple" (zy qx) (zv qx) (zh qx) .none kV1 dc1 pm1 an1 cd1 ct1),sl1⟩) (c1:PySem.W.codeIn K cd1 "is_tuple" = true) (k1:PySem.W.keepIn K (.ref f1)=true)
  {f2:Addr}{od2 an2:Option Addr}{sl2:Array (Option Value)}{oc2 kV2 dc2 pm2 cd2 ct2:Value}
  (a2:PySem.W.nsIn K mainGlobals "greatest_divisor" = some (some (.ref f2))) (l2:K.lookup f2=some ⟨oc2,od2,.func (PySem.W.fnOf "greatest_divisor" "greatest_divisor" (zy xc) (zv xc) (zh xc) .none kV2 dc2 pm2 an2 cd2 ct2),sl2⟩) (c2:PySem.W.codeIn K cd2 "greatest_divisor" = true) (k2:PySem.W.keepIn K (.ref f2)=true)
  {f3:Addr}{od3 an3:Option Addr}{sl3:Array (Option Value)}{oc3 kV3 dc3 pm3 cd3 ct3:Value}
  (a3:PySem.W.nsIn K mainGlobals "is_ratio" = some (some (.ref f3))) (l3:K.lookup f3=some ⟨oc3,od3,.func (PySem.W.fnOf "is_ratio" "is_ratio" (zy qv) (zv qv) (zh qv) .none kV3 dc3 pm3 an3 cd3 ct3),sl3⟩) (c3:PySem.W.codeIn K cd3 "is_ratio" = true) (k3:PySem.W.keepIn K (.ref f3)=true)
  {f4:Addr}{od4 an4:Option Addr}{sl4:Array (Option Value)}{oc4 kV4 dc4 pm4 cd4 ct4:Value}{Td4:Addr}{ocd4:Value}{odd4:Option Addr}{tkd4:Tok}{nd4:Nat}{sld4:Array (Option Value)}
  (a4:PySem.W.nsIn K mainGlobals "ratio" = some (some (.ref f4))) (l4:K.lookup f4=some ⟨oc4,od4,.func (PySem.W.fnOf "ratio" "ratio" (zy jd) (zv jd) (zh jd) (.ref Td4) kV4 dc4 pm4 an4 cd4 ct4),sl4⟩) (c4:PySem.W.codeIn K cd4 "ratio" = true) (k4:PySem.W.keepIn K (.ref f4)=true)
  (ld4:K.lookup Td4=some ⟨ocd4,odd4,.seq #[.int 1 tkd4] nd4,sld4⟩)
  {f5:Addr}{od5 an5:Option Addr}{sl5:Array (Option Value)}{oc5 kV5 dc5 pm5 cd5 ct5:Value}
  (a5:PySem.W.nsIn K mainGlobals "minus" = some (some (.ref f5))) (l5:K.lookup f5=some ⟨oc5,od5,.func (PySem.W.fnOf "minus" "minus" (zy jD) (zv jD) (zh jD) .none kV5 dc5 pm5 an5 cd5 ct5),sl5⟩) (c5:PySem.W.codeIn K cd5 "minus" = true) (k5:PySem.W.keepIn K (.ref f5)=true)
  {f6:Addr}{od6 an6:Option Addr}{sl6:Array (Option Value)}{oc6 kV6 dc6 pm6 cd6 ct6:Value}
  (a6:PySem.W.nsIn K mainGlobals "times" = some (some (.ref f6))) (l6:K.lookup f6=some ⟨oc6,od6,.func (PySem.W.fnOf "times" "times" (zy jE) (zv jE) (zh jE) .none kV6 dc6 pm6 an6 cd6 ct6),sl6⟩) (c6:PySem.W.codeIn K cd6 "times" = true) (k6:PySem.W.keepIn K (.ref f6)=true)
  {f7:Addr}{od7 an7:Option Addr}{sl7:Array (Option Value)}{oc7 kV7 dc7 pm7 cd7 ct7:Value}
  (a7:PySem.W.nsIn K mainGlobals "over" = some (some (.ref f7))) (l7:K.lookup f7=some ⟨oc7,od7,.func (PySem.W.fnOf "over" "over" (zy Ze) (zv Ze) (zh Ze) .none kV7 dc7 pm7 an7 cd7 ct7),sl7⟩) (c7:PySem.W.codeIn K cd7 "over" = true) (k7:PySem.W.keepIn K (.ref f7)=true)
  {f8:Addr}{od8 an8:Option Addr}{sl8:Array (Option Value)}{oc8 kV8 dc8 pm8 cd8 ct8:Value}
  (a8:PySem.W.nsIn K mainGlobals "less" = some (some (.ref f8))) (l8:K.lookup f8=some ⟨oc8,od8,.func (PySem.W.fnOf "less" "less" (zy Zd) (zv Zd) (zh Zd) .none kV8 dc8 pm8 an8 cd8 ct8),sl8⟩) (c8:PySem.W.codeIn K cd8 "less" = true) (k8:PySem.W.keepIn K (.ref f8)=true)
  {f9:Addr}{od9 an9:Option Addr}{sl9:Array (Option Value)}{oc9 kV9 dc9 pm9 cd9 ct9:Value}
  (a9:PySem.W.nsIn K mainGlobals "rest_of" = some (some (.ref f9))) (l9:K.lookup f9=some ⟨oc9,od9,.func (PySem.W.fnOf "rest_of" "rest_of" (zy vc) (zv vc) (zh vc) .none kV9 dc9 pm9 an9 cd9 ct9),sl9⟩) (c9:PySem.W.codeIn K cd9 "rest_of" = true) (k9:PySem.W.keepIn K (.ref f9)=true)
  {f10:Addr}{od10 an10:Option Addr}{sl10:Array (Option Value)}{oc10 kV10 dc10 pm10 cd10 ct10:Value}
  (a10:PySem.W.nsIn K mainGlobals "least_multiple" = some (some (.ref f10))) (l10:K.lookup f10=some ⟨oc10,od10,.func (PySem.W.fnOf "least_multiple" "least_multiple" (zy xm) (zv xm) (zh xm) .none kV10 dc10 pm10 an10 cd10 ct10),sl10⟩) (c10:PySem.W.codeIn K cd10 "least_multiple" = true) (k10:PySem.W.keepIn K (.ref f10)=true)
  {f11:Addr}{od11 an11:Option Addr}{sl11:Array (Option Value)}{oc11 kV11 dc11 pm11 cd11 ct11:Value}
  (a11:PySem.W.nsIn K mainGlobals "common_bottom" = some (some (.ref f11))) (l11:K.lookup f11=some ⟨oc11,od11,.func (PySem.W.fnOf "common_bottom" "common_bottom" (zy xt) (zv xt) (zh xt) .none kV11 dc11 pm11 an11 cd11 ct11),sl11⟩) (c11:PySem.W.codeIn K cd11 "common_bottom" = true) (k11:PySem.W.keepIn K (.ref f11)=true)
  {f12:Addr}{od12 an12:Option Addr}{sl12:Array (Option Value)}{oc12 kV12 dc12 pm12 cd12 ct12:Value}
  (a12:PySem.W.nsIn K mainGlobals "track_of" = some (some (.ref f12))) (l12:K.lookup f12=some ⟨oc12,od12,.func (PySem.W.fnOf "track_of" "track_of" (zy qH) (zv qH) (zh qH) .none kV12 dc12 pm12 an12 cd12 ct12),sl12⟩) (c12:PySem.W.codeIn K cd12 "track_of" = true) (k12:PySem.W.keepIn K (.ref f12)=true)
  {f13:Addr}{od13 an13:Option Addr}{sl13:Array (Option Value)}{oc13 kV13 dc13 pm13 cd13 ct13:Value}
  (a13:PySem.W.nsIn K mainGlobals "ticks_of" = some (some (.ref f13))) (l13:K.lookup f13=some ⟨oc13,od13,.func (PySem.W.fnOf "ticks_of" "ticks_of" (zy qG) (zv qG) (zh qG) .none kV13 dc13 pm13 an13 cd13 ct13),sl13⟩) (c13:PySem.W.codeIn K cd13 "ticks_of" = true) (k13:PySem.W.keepIn K (.ref f13)=true)
  {f14:Addr}{od14 an14:Option Addr}{sl14:Array (Option Value)}{oc14 kV14 dc14 pm14 cd14 ct14:Value}
  (a14:PySem.W.nsIn K mainGlobals "is_wall" = some (some (.ref f14))) (l14:K.lookup f14=some ⟨oc14,od14,.func (PySem.W.fnOf "is_wall" "is_wall" (zy qU) (zv qU) (zh qU) .none kV14 dc14 pm14 an14 cd14 ct14),sl14⟩) (c14:PySem.W.codeIn K cd14 "is_wall" = true) (k14:PySem.W.keepIn K (.ref f14)=true)
  {f15:Addr}{od15 an15:Option Addr}{sl15:Array (Option Value)}{oc15 kV15 dc15 pm15 cd15 ct15:Value}
  (a15:PySem.W.nsIn K mainGlobals "is_wall_pair" = some (some (.ref f15))) (l15:K.lookup f15=some ⟨oc15,od15,.func (PySem.W.fnOf "is_wall_pair" "is_wall_pair" (zy xE) (zv xE) (zh xE) .none kV15 dc15 pm15 an15 cd15 ct15),sl15⟩) (c15:PySem.W.codeIn K cd15 "is_wall_pair" = true) (k15:PySem.W.keepIn K (.ref f15)=true)
  {f16:Addr}{od16 an16:Option Addr}{sl16:Array (Option Value)}{oc16 kV16 dc16 pm16 cd16 ct16:Value}
  (a16:PySem.W.nsIn K mainGlobals "is_ball_form" = some (some (.ref f16))) (l16:K.lookup f16=some ⟨oc16,od16,.func (PySem.W.fnOf "is_ball_form" "is_ball_form" (zy xD) (zv xD) (zh xD) .none kV16 dc16 pm16 an16 cd16 ct16),sl16⟩) (c16:PySem.W.codeIn K cd16 "is_ball_form" = true) (k16:PySem.W.keepIn K (.ref f16)=true)
  {f17:Addr}{od17 an17:Option Addr}{sl17:Array (Option Value)}{oc17 kV17 dc17 pm17 cd17 ct17:Value}
  (a17:PySem.W.nsIn K mainGlobals "is_row_form" = some (some (.ref f17))) (l17:K.lookup f17=some ⟨oc17,od17,.func (PySem.W.fnOf "is_row_form" "is_row_form" (zy xM) (zv xM) (zh xM) .none kV17 dc17 pm17 an17 cd17 ct17),sl17⟩) (c17:PySem.W.codeIn K cd17 "is_row_form" = true) (k17:PySem.W.keepIn K (.ref f17)=true)
  {f18:Addr}{od18 an18:Option Addr}{sl18:Array (Option Value)}{oc18 kV18 dc18 pm18 cd18 ct18:Value}
  (a18:PySem.W.nsIn K mainGlobals "is_even" = some (some (.ref f18))) (l18:K.lookup f18=some ⟨oc18,od18,.func (PySem.W.fnOf "is_even" "is_even" (zy qT) (zv qT) (zh qT) .none kV18 dc18 pm18 an18 cd18 ct18),sl18⟩) (c18:PySem.W.codeIn K cd18 "is_even" = true) (k18:PySem.W.keepIn K (.ref f18)=true)
  {f19:Addr}{od19 an19:Option Addr}{sl19:Array (Option Value)}{oc19 kV19 dc19 pm19 cd19 ct19:Value}
  (a19:PySem.W.nsIn K mainGlobals "is_still" = some (some (.ref f19))) (l19:K.lookup f19=some ⟨oc19,od19,.func (PySem.W.fnOf "is_still" "is_still" (zy qw) (zv qw) (zh qw) .none kV19 dc19 pm19 an19 cd19 ct19),sl19⟩) (c19:PySem.W.codeIn K cd19 "is_still" = true) (k19:PySem.W.keepIn K (.ref f19)=true)
  {f20:Addr}{od20 an20:Option Addr}{sl20:Array (Option Value)}{oc20 kV20 dc20 pm20 cd20 ct20:Value}
  (a20:PySem.W.nsIn K mainGlobals "is_plain" = some (some (.ref f20))) (l20:K.lookup f20=some ⟨oc20,od20,.func (PySem.W.fnOf "is_plain" "is_plain" (zy qu) (zv qu) (zh qu) .none kV20 dc20 pm20 an20 cd20 ct20),sl20⟩) (c20:PySem.W.codeIn K cd20 "is_plain" = true) (k20:PySem.W.keepIn K (.ref f20)=true)
  {f21:Addr}{od21 an21:Option Addr}{sl21:Array (Option Value)}{oc21 kV21 dc21 pm21 cd21 ct21:Value}
  (a21:PySem.W.nsIn K mainGlobals "refuse_uneven" = some (some (.ref f21))) (l21:K.lookup f21=some ⟨oc21,od21,.func (PySem.W.fnOf "refuse_uneven" "refuse_uneven" (zy xi) (zv xi) (zh xi) .none kV21 dc21 pm21 an21 cd21 ct21),sl21⟩) (c21:PySem.W.codeIn K cd21 "refuse_uneven" = true) (k21:PySem.W.keepIn K (.ref f21)=true)
  {f22:Addr}{od22 an22:Option Addr}{sl22:Array (Option Value)}{oc22 kV22 dc22 pm22 cd22 ct22:Value}
  (a22:PySem.W.nsIn K mainGlobals "refuse_no_box" = some (some (.ref f22))) (l22:K.lookup f22=some ⟨oc22,od22,.func (PySem.W.fnOf "refuse_no_box" "refuse_no_box" (zy xh) (zv xh) (zh xh) .none kV22 dc22 pm22 an22 cd22 ct22),sl22⟩) (c22:PySem.W.codeIn K cd22 "refuse_no_box" = true) (k22:PySem.W.keepIn K (.ref f22)=true)
  {f23:Addr}{od23 an23:Option Addr}{sl23:Array (Option Value)}{oc23 kV23 dc23 pm23 cd23 ct23:Value}
  (a23:PySem.W.nsIn K mainGlobals "refuse_no_ball" = some (some (.ref f23))) (l23:K.lookup f23=some ⟨oc23,od23,.func (PySem.W.fnOf "refuse_no_ball" "refuse_no_ball" (zy xf) (zv xf) (zh xf) .none kV23 dc23 pm23 an23 cd23 ct23),sl23⟩) (c23:PySem.W.codeIn K cd23 "refuse_no_ball" = true) (k23:PySem.W.keepIn K (.ref f23)=true)
  {f24:Addr}{od24 an24:Option Addr}{sl24:Array (Option Value)}{oc24 kV24 dc24 pm24 cd24 ct24:Value}
  (a24:PySem.W.nsIn K mainGlobals "refuse_no_place" = some (some (.ref f24))) (l24:K.lookup f24=some ⟨oc24,od24,.func (PySem.W.fnOf "refuse_no_place" "refuse_no_place" (zy z7) (zv z7) (zh z7) .none kV24 dc24 pm24 an24 cd24 ct24),sl24⟩) (c24:PySem.W.codeIn K cd24 "refuse_no_place" = true) (k24:PySem.W.keepIn K (.ref f24)=true)
  {f25:Addr}{od25 an25:Option Addr}{sl25:Array (Option Value)}{oc25 kV25 dc25 pm25 cd25 ct25:Value}
  (a25:PySem.W.nsIn K mainGlobals "line_at" = some (some (.ref f25))) (l25:K.lookup f25=some ⟨oc25,od25,.func (PySem.W.fnOf "line_at" "line_at" (zy va) (zv va) (zh va) .none kV25 dc25 pm25 an25 cd25 ct25),sl25⟩) (c25:PySem.W.codeIn K cd25 "line_at" = true) (k25:PySem.W.keepIn K (.ref f25)=true)
  {f26:Addr}{od26 an26:Option Addr}{sl26:Array (Option Value)}{oc26 kV26 dc26 pm26 cd26 ct26:Value}
  (a26:PySem.W.nsIn K mainGlobals "at_once" = some (some (.ref f26))) (l26:K.lookup f26=some ⟨oc26,od26,.func (PySem.W.fnOf "at_once" "at_once" (zy qS) (zv qS) (zh qS) .none kV26 dc26 pm26 an26 cd26 ct26),sl26⟩) (c26:PySem.W.codeIn K cd26 "at_once" = true) (k26:PySem.W.keepIn K (.ref f26)=true)
  {f27:Addr}{od27 an27:Option Addr}{sl27:Array (Option Value)}{oc27 kV27 dc27 pm27 cd27 ct27:Value}
  (a27:PySem.W.nsIn K mainGlobals "wished" = some (some (.ref f27))) (l27:K.lookup f27=some ⟨oc27,od27,.func (PySem.W.fnOf "wished" "wished" (zy vS) (zv vS) (zh vS) .none kV27 dc27 pm27 an27 cd27 ct27),sl27⟩) (c27:PySem.W.codeIn K cd27 "wished" = true) (k27:PySem.W.keepIn K (.ref f27)=true)
  {f28:Addr}{od28 an28:Option Addr}{sl28:Array (Option Value)}{oc28 kV28 dc28 pm28 cd28 ct28:Value}
  (a28:PySem.W.nsIn K mainGlobals "joined" = some (some (.ref f28))) (l28:K.lookup f28=some ⟨oc28,od28,.func (PySem.W.fnOf "joined" "joined" (zy vQ) (zv vQ) (zh vQ) .none kV28 dc28 pm28 an28 cd28 ct28),sl28⟩) (c28:PySem.W.codeIn K cd28 "joined" = true) (k28:PySem.W.keepIn K (.ref f28)=true)
  {f29:Addr}{od29 an29:Option Addr}{sl29:Array (Option Value)}{oc29 kV29 dc29 pm29 cd29 ct29:Value}
  (a29:PySem.W.nsIn K mainGlobals "beginnings" = some (some (.ref f29))) (l29:K.lookup f29=some ⟨oc29,od29,.func (PySem.W.fnOf "beginnings" "beginnings" (zy xS) (zv xS) (zh xS) .none kV29 dc29 pm29 an29 cd29 ct29),sl29⟩) (c29:PySem.W.codeIn K cd29 "beginnings" = true) (k29:PySem.W.keepIn K (.ref f29)=true)
  {f30:Addr}{od30 an30:Option Addr}{sl30:Array (Option Value)}{oc30 kV30 dc30 pm30 cd30 ct30:Value}
  (a30:PySem.W.nsIn K mainGlobals "aims" = some (some (.ref f30))) (l30:K.lookup f30=some ⟨oc30,od30,.func (PySem.W.fnOf "aims" "aims" (zy jc) (zv jc) (zh jc) .none kV30 dc30 pm30 an30 cd30 ct30),sl30⟩) (c30:PySem.W.codeIn K cd30 "aims" = true) (k30:PySem.W.keepIn K (.ref f30)=true)
  {f31:Addr}{od31 an31:Option Addr}{sl31:Array (Option Value)}{oc31 kV31 dc31 pm31 cd31 ct31:Value}
  (a31:PySem.W.nsIn K mainGlobals "_law_left" = some (some (.ref f31))) (l31:K.lookup f31=some ⟨oc31,od31,.func (PySem.W.fnOf "_law_left" "_law_left" (zy qA) (zv qA) (zh qA) .none kV31 dc31 pm31 an31 cd31 ct31),sl31⟩) (c31:PySem.W.codeIn K cd31 "_law_left" = true) (k31:PySem.W.keepIn K (.ref f31)=true)
  {f32:Addr}{od32 an32:Option Addr}{sl32:Array (Option Value)}{oc32 kV32 dc32 pm32 cd32 ct32:Value}
  (a32:PySem.W.nsIn K mainGlobals "_law_next" = some (some (.ref f32))) (l32:K.lookup f32=some ⟨oc32,od32,.func (PySem.W.fnOf "_law_next" "_law_next" (zy qC) (zv qC) (zh qC) .none kV32 dc32 pm32 an32 cd32 ct32),sl32⟩) (c32:PySem.W.codeIn K cd32 "_law_next" = true) (k32:PySem.W.keepIn K (.ref f32)=true)
  {f33:Addr}{od33 an33:Option Addr}{sl33:Array (Option Value)}{oc33 kV33 dc33 pm33 cd33 ct33:Value}
  (a33:PySem.W.nsIn K mainGlobals "_law_wide" = some (some (.ref f33))) (l33:K.lookup f33=some ⟨oc33,od33,.func (PySem.W.fnOf "_law_wide" "_law_wide" (zy qF) (zv qF) (zh qF) .none kV33 dc33 pm33 an33 cd33 ct33),sl33⟩) (c33:PySem.W.codeIn K cd33 "_law_wide" = true) (k33:PySem.W.keepIn K (.ref f33)=true)
  {f34:Addr}{od34 an34:Option Addr}{sl34:Array (Option Value)}{oc34 kV34 dc34 pm34 cd34 ct34:Value}
  (a34:PySem.W.nsIn K mainGlobals "_law_low" = some (some (.ref f34))) (l34:K.lookup f34=some ⟨oc34,od34,.func (PySem.W.fnOf "_law_low" "_law_low" (zy qX) (zv qX) (zh qX) .none kV34 dc34 pm34 an34 cd34 ct34),sl34⟩) (c34:PySem.W.codeIn K cd34 "_law_low" = true) (k34:PySem.W.keepIn K (.ref f34)=true)
  {f35:Addr}{od35 an35:Option Addr}{sl35:Array (Option Value)}{oc35 kV35 dc35 pm35 cd35 ct35:Value}
  (a35:PySem.W.nsIn K mainGlobals "_law_add" = some (some (.ref f35))) (l35:K.lookup f35=some ⟨oc35,od35,.func (PySem.W.fnOf "_law_add" "_law_add" (zy qV) (zv qV) (zh qV) .none kV35 dc35 pm35 an35 cd35 ct35),sl35⟩) (c35:PySem.W.codeIn K cd35 "_law_add" = true) (k35:PySem.W.keepIn K (.ref f35)=true)
  {f36:Addr}{od36 an36:Option Addr}{sl36:Array (Option Value)}{oc36 kV36 dc36 pm36 cd36 ct36:Value}
  (a36:PySem.W.nsIn K mainGlobals "_law_off" = some (some (.ref f36))) (l36:K.lookup f36=some ⟨oc36,od36,.func (PySem.W.fnOf "_law_off" "_law_off" (zy qY) (zv qY) (zh qY) .none kV36 dc36 pm36 an36 cd36 ct36),sl36⟩) (c36:PySem.W.codeIn K cd36 "_law_off" = true) (k36:PySem.W.keepIn K (.ref f36)=true)
  {f37:Addr}{od37 an37:Option Addr}{sl37:Array (Option Value)}{oc37 kV37 dc37 pm37 cd37 ct37:Value}
  (a37:PySem.W.nsIn K mainGlobals "_law_by" = some (some (.ref f37))) (l37:K.lookup f37=some ⟨oc37,od37,.func (PySem.W.fnOf "_law_by" "_law_by" (zy vR) (zv vR) (zh vR) .none kV37 dc37 pm37 an37 cd37 ct37),sl37⟩) (c37:PySem.W.codeIn K cd37 "_law_by" = true) (k37:PySem.W.keepIn K (.ref f37)=true)
  {f38:Addr}{od38 an38:Option Addr}{sl38:Array (Option Value)}{oc38 kV38 dc38 pm38 cd38 ct38:Value}
  (a38:PySem.W.nsIn K mainGlobals "_law_part" = some (some (.ref f38))) (l38:K.lookup f38=some ⟨oc38,od38,.func (PySem.W.fnOf "_law_part" "_law_part" (zy qD) (zv qD) (zh qD) .none kV38 dc38 pm38 an38 cd38 ct38),sl38⟩) (c38:PySem.W.codeIn K cd38 "_law_part" = true) (k38:PySem.W.keepIn K (.ref f38)=true)
  {f39:Addr}{od39 an39:Option Addr}{sl39:Array (Option Value)}{oc39 kV39 dc39 pm39 cd39 ct39:Value}
  (a39:PySem.W.nsIn K mainGlobals "_law_below" = some (some (.ref f39))) (l39:K.lookup f39=some ⟨oc39,od39,.func (PySem.W.fnOf "_law_below" "_law_below" (zy qd) (zv qd) (zh qd) .none kV39 dc39 pm39 an39 cd39 ct39),sl39⟩) (c39:PySem.W.codeIn K cd39 "_law_below" = true) (k39:PySem.W.keepIn K (.ref f39)=true)
  {f40:Addr}{od40 an40:Option Addr}{sl40:Array (Option Value)}{oc40 kV40 dc40 pm40 cd40 ct40:Value}
  (a40:PySem.W.nsIn K mainGlobals "_law_ratio" = some (some (.ref f40))) (l40:K.lookup f40=some ⟨oc40,od40,.func (PySem.W.fnOf "_law_ratio" "_law_ratio" (zy qe) (zv qe) (zh qe) .none kV40 dc40 pm40 an40 cd40 ct40),sl40⟩) (c40:PySem.W.codeIn K cd40 "_law_ratio" = true) (k40:PySem.W.keepIn K (.ref f40)=true)
  {f41:Addr}{od41 an41:Option Addr}{sl41:Array (Option Value)}{oc41 kV41 dc41 pm41 cd41 ct41:Value}
  (a41:PySem.W.nsIn K mainGlobals "_law_speed" = some (some (.ref f41))) (l41:K.lookup f41=some ⟨oc41,od41,.func (PySem.W.fnOf "_law_speed" "_law_speed" (zy qg) (zv qg) (zh qg) .none kV41 dc41 pm41 an41 cd41 ct41),sl41⟩) (c41:PySem.W.codeIn K cd41 "_law_speed" = true) (k41:PySem.W.keepIn K (.ref f41)=true)
  {f42:Addr}{od42 an42:Option Addr}{sl42:Array (Option Value)}{oc42 kV42 dc42 pm42 cd42 ct42:Value}
  (a42:PySem.W.nsIn K mainGlobals "_law_rest" = some (some (.ref f42))) (l42:K.lookup f42=some ⟨oc42,od42,.func (PySem.W.fnOf "_law_rest" "_law_rest" (zy qE) (zv qE) (zh qE) .none kV42 dc42 pm42 an42 cd42 ct42),sl42⟩) (c42:PySem.W.codeIn K cd42 "_law_rest" = true) (k42:PySem.W.keepIn K (.ref f42)=true)
  {f43:Addr}{od43 an43:Option Addr}{sl43:Array (Option Value)}{oc43 kV43 dc43 pm43 cd43 ct43:Value}
  (a43:PySem.W.nsIn K mainGlobals "_law_put" = some (some (.ref f43))) (l43:K.lookup f43=some ⟨oc43,od43,.func (PySem.W.fnOf "_law_put" "_law_put" (zy qZ) (zv qZ) (zh qZ) .none kV43 dc43 pm43 an43 cd43 ct43),sl43⟩) (c43:PySem.W.codeIn K cd43 "_law_put" = true) (k43:PySem.W.keepIn K (.ref f43)=true)
  {f44:Addr}{od44 an44:Option Addr}{sl44:Array (Option Value)}{oc44 kV44 dc44 pm44 cd44 ct44:Value}
  (a44:PySem.W.nsIn K mainGlobals "_law_even" = some (some (.ref f44))) (l44:K.lookup f44=some ⟨oc44,od44,.func (PySem.W.fnOf "_law_even" "_law_even" (zy qz) (zv qz) (zh qz) .none kV44 dc44 pm44 an44 cd44 ct44),sl44⟩) (c44:PySem.W.codeIn K cd44 "_law_even" = true) (k44:PySem.W.keepIn K (.ref f44)=true)
  {f45:Addr}{od45 an45:Option Addr}{sl45:Array (Option Value)}{oc45 kV45 dc45 pm45 cd45 ct45:Value}
  (a45:PySem.W.nsIn K mainGlobals "_law_moment" = some (some (.ref f45))) (l45:K.lookup f45=some ⟨oc45,od45,.func (PySem.W.fnOf "_law_moment" "_law_moment" (zy xU) (zv xU) (zh xU) .none kV45 dc45 pm45 an45 cd45 ct45),sl45⟩) (c45:PySem.W.codeIn K cd45 "_law_moment" = true) (k45:PySem.W.keepIn K (.ref f45)=true)
  {f46:Addr}{od46 an46:Option Addr}{sl46:Array (Option Value)}{oc46 kV46 dc46 pm46 cd46 ct46:Value}
  (a46:PySem.W.nsIn K mainGlobals "_law_line" = some (some (.ref f46))) (l46:K.lookup f46=some ⟨oc46,od46,.func (PySem.W.fnOf "_law_line" "_law_line" (zy qB) (zv qB) (zh qB) .none kV46 dc46 pm46 an46 cd46 ct46),sl46⟩) (c46:PySem.W.codeIn K cd46 "_law_line" = true) (k46:PySem.W.keepIn K (.ref f46)=true)
  {f47:Addr}{od47 an47:Option Addr}{sl47:Array (Option Value)}{oc47 kV47 dc47 pm47 cd47 ct47:Value}
  (a47:PySem.W.nsIn K mainGlobals "_law_sorted" = some (some (.ref f47))) (l47:K.lookup f47=some ⟨oc47,od47,.func (PySem.W.fnOf "_law_sorted" "_law_sorted" (zy xV) (zv xV) (zh xV) .none kV47 dc47 pm47 an47 cd47 ct47),sl47⟩) (c47:PySem.W.codeIn K cd47 "_law_sorted" = true) (k47:PySem.W.keepIn K (.ref f47)=true)
  {f48:Addr}{od48 an48:Option Addr}{sl48:Array (Option Value)}{oc48 kV48 dc48 pm48 cd48 ct48:Value}
  (a48:PySem.W.nsIn K mainGlobals "_law_all" = some (some (.ref f48))) (l48:K.lookup f48=some ⟨oc48,od48,.func (PySem.W.fnOf "_law_all" "_law_all" (zy qW) (zv qW) (zh qW) .none kV48 dc48 pm48 an48 cd48 ct48),sl48⟩) (c48:PySem.W.codeIn K cd48 "_law_all" = true) (k48:PySem.W.keepIn K (.ref f48)=true)
  {f49:Addr}{od49 an49:Option Addr}{sl49:Array (Option Value)}{oc49 kV49 dc49 pm49 cd49 ct49:Value}
  (a49:PySem.W.nsIn K mainGlobals "_law_asking" = some (some (.ref f49))) (l49:K.lookup f49=some ⟨oc49,od49,.func (PySem.W.fnOf "_law_asking" "_law_asking" (zy xT) (zv xT) (zh xT) .none kV49 dc49 pm49 an49 cd49 ct49),sl49⟩) (c49:PySem.W.codeIn K cd49 "_law_asking" = true) (k49:PySem.W.keepIn K (.ref f49)=true)
  {f50:Addr}{od50 an50:Option Addr}{sl50:Array (Option Value)}{oc50 kV50 dc50 pm50 cd50 ct50:Value}
  (a50:PySem.W.nsIn K mainGlobals "_law_refused" = some (some (.ref f50))) (l50:K.lookup f50=some ⟨oc50,od50,.func (PySem.W.fnOf "_law_refused" "_law_refused" (zy xy) (zv xy) (zh xy) .none kV50 dc50 pm50 an50 cd50 ct50),sl50⟩) (c50:PySem.W.codeIn K cd50 "_law_refused" = true) (k50:PySem.W.keepIn K (.ref f50)=true)
  {f51:Addr}{od51 an51:Option Addr}{sl51:Array (Option Value)}{oc51 kV51 dc51 pm51 cd51 ct51:Value}
  (a51:PySem.W.nsIn K mainGlobals "_law_uneven" = some (some (.ref f51))) (l51:K.lookup f51=some ⟨oc51,od51,.func (PySem.W.fnOf "_law_uneven" "_law_uneven" (zy xW) (zv xW) (zh xW) .none kV51 dc51 pm51 an51 cd51 ct51),sl51⟩) (c51:PySem.W.codeIn K cd51 "_law_uneven" = true) (k51:PySem.W.keepIn K (.ref f51)=true)
  {f52:Addr}{od52 an52:Option Addr}{sl52:Array (Option Value)}{oc52 kV52 dc52 pm52 cd52 ct52:Value}
  (a52:PySem.W.nsIn K mainGlobals "law" = some (some (.ref f52))) (l52:K.lookup f52=some ⟨oc52,od52,.func (PySem.W.fnOf "law" "law" (zy s_law) (zv s_law) (zh s_law) .none kV52 dc52 pm52 an52 cd52 ct52),sl52⟩) (c52:PySem.W.codeIn K cd52 "law" = true) (k52:PySem.W.keepIn K (.ref f52)=true)
  (z_isinstance:PySem.W.nsIn K mainGlobals "isinstance" = some none)
  (z_int:PySem.W.nsIn K mainGlobals "int" = some none)
  (z_bool:PySem.W.nsIn K mainGlobals "bool" = some none)
  (z_abs:PySem.W.nsIn K mainGlobals "abs" = some none)
  (z_len:PySem.W.nsIn K mainGlobals "len" = some none)
  (z_max:PySem.W.nsIn K mainGlobals "max" = some none)
  (z_min:PySem.W.nsIn K mainGlobals "min" = some none)
  (z_range:PySem.W.nsIn K mainGlobals "range" = some none)
  (z_tuple:PySem.W.nsIn K mainGlobals "tuple" = some none)
  (z_sum:PySem.W.nsIn K mainGlobals "sum" = some none)
  (z_zip:PySem.W.nsIn K mainGlobals "zip" = some none)
  (z_list:PySem.W.nsIn K mainGlobals "list" = some none)
  (z_enumerate:PySem.W.nsIn K mainGlobals "enumerate" = some none)
  (z_sorted:PySem.W.nsIn K mainGlobals "sorted" = some none)
  (z_all:PySem.W.nsIn K mainGlobals "all" = some none)
  (z_ValueError:PySem.W.nsIn K mainGlobals "ValueError" = some none)
  {C_ClackError:Addr}(a_ClackError:PySem.W.nsIn K mainGlobals "ClackError" = some (some (.ref C_ClackError)))
  {C_NotEven:Addr}(a_NotEven:PySem.W.nsIn K mainGlobals "NotEven" = some (some (.ref C_NotEven)))
  {C_NoBall:Addr}(a_NoBall:PySem.W.nsIn K mainGlobals "NoBall" = some (some (.ref C_NoBall)))
  {C_NoPlace:Addr}(a_NoPlace:PySem.W.nsIn K mainGlobals "NoPlace" = some (some (.ref C_NoPlace)))
  {C_NoEnd:Addr}(a_NoEnd:PySem.W.nsIn K mainGlobals "NoEnd" = some (some (.ref C_NoEnd)))
  {C_TooMany:Addr}(a_TooMany:PySem.W.nsIn K mainGlobals "TooMany" = some (some (.ref C_TooMany)))
  {C_Course:Addr}(a_Course:PySem.W.nsIn K mainGlobals "Course" = some (some (.ref C_Course)))
  (kp_Course:PySem.W.keepIn K (.ref C_Course)=true)
  {fI_Course:Addr}{odI_Course anI_Course:Option Addr}{slI_Course:Array (Option Value)}{kVI_Course dcI_Course pmI_Course cdI_Course ctI_Course:Value}(fi_Course:PySem.W.findIn K (.ref C_Course) "__init__" = some (some (.ref fI_Course)))
  (li_Course:K.lookup fI_Course=some ⟨.type "function",odI_Course,.func (PySem.W.fnOf "__init__" "Course.__init__" (zy xL) (zv xL) (zh xL) .none kVI_Course dcI_Course pmI_Course anI_Course cdI_Course ctI_Course),slI_Course⟩) (ci_Course:PySem.W.codeIn K cdI_Course "Course.__init__" = true) (ki_Course:PySem.W.keepIn K (.ref fI_Course)=true)
  (sa_Course:PySem.W.findIn K (.ref C_Course) "__setattr__" = some (some (.builtin "object.__setattr__")))
  (x_NotEven:PySem.W.excIn K C_NotEven zay "ValueError.__new__" = true)
  (xkE:xKB K C_NotEven=true)
  (exE:PySem.W.exmOne K (.ref C_NotEven) (.ref C_ClackError)=some true)
  (veE:PySem.W.kitOne K (.ref C_NotEven) (.type "ValueError")=some true)
  (k1E:PySem.W.kitOne K (.ref C_NotEven) (.ref C_NotEven)=some true)
  (k2E:PySem.W.kitOne K (.ref C_NotEven) (.ref C_NoBall)=some false)
  (k4E:PySem.W.kitOne K (.ref C_NotEven) (.ref C_NoPlace)=some false)
  (k3E:PySem.W.kitAny K (.ref C_NotEven) [.ref C_NoEnd,.ref C_TooMany]=some false)
  (x_NoBall:PySem.W.excIn K C_NoBall zay "ValueError.__new__" = true)
  (xkB:xKB K C_NoBall=true)
  (exB:PySem.W.exmOne K (.ref C_NoBall) (.ref C_ClackError)=some true)
  (veB:PySem.W.kitOne K (.ref C_NoBall) (.type "ValueError")=some true)
  (k1B:PySem.W.kitOne K (.ref C_NoBall) (.ref C_NotEven)=some false)
  (k2B:PySem.W.kitOne K (.ref C_NoBall) (.ref C_NoBall)=some true)
  (k4B:PySem.W.kitOne K (.ref C_NoBall) (.ref C_NoPlace)=some false)
  (k3B:PySem.W.kitAny K (.ref C_NoBall) [.ref C_NoEnd,.ref C_TooMany]=some false)
  (x_NoPlace:PySem.W.excIn K C_NoPlace zay "ValueError.__new__" = true)
  (xkP:xKB K C_NoPlace=true)
  (exP:PySem.W.exmOne K (.ref C_NoPlace) (.ref C_ClackError)=some true)
  (veP:PySem.W.kitOne K (.ref C_NoPlace) (.type "ValueError")=some true)
  (k1P:PySem.W.kitOne K (.ref C_NoPlace) (.ref C_NotEven)=some false)
  (k2P:PySem.W.kitOne K (.ref C_NoPlace) (.ref C_NoBall)=some false)
  (k4P:PySem.W.kitOne K (.ref C_NoPlace) (.ref C_NoPlace)=some true)
  (k3P:PySem.W.kitAny K (.ref C_NoPlace) [.ref C_NoEnd,.ref C_TooMany]=some false)
  (mkC:PySem.W.makesIn K C_Course=true)
  (ifC:PySem.W.isFn K (.ref fI_Course)=true)
  (pgC:PySem.W.plainGet K C_Course Str.empty=true)
  (hdC:PySem.W.hasDictIn K C_Course=true)
  (poC:PySem.W.plainOver K C_Course=true)
  (nc_place_bottom:PySem.W.findIn K (.ref C_Course) "place_bottom" = some none)
  (nc_speed_bottom:PySem.W.findIn K (.ref C_Course) "speed_bottom" = some none)
  (nc_tick:PySem.W.findIn K (.ref C_Course) "tick" = some none)
  (nc_weights:PySem.W.findIn K (.ref C_Course) "weights" = some none)
  (nc_tracks:PySem.W.findIn K (.ref C_Course) "tracks" = some none)
  (nc_low:PySem.W.findIn K (.ref C_Course) "low" = some none)
  (nc_high:PySem.W.findIn K (.ref C_Course) "high" = some none)
  {a_NOUGHT:Addr}{t1_NOUGHT t2_NOUGHT:Tok}{n_NOUGHT:Nat}{od_NOUGHT:Option Addr}{sl_NOUGHT:Array (Option Value)} (v_NOUGHT:PySem.W.nsIn K mainGlobals "NOUGHT" = some (some (.ref a_NOUGHT))) (l_NOUGHT:K.lookup a_NOUGHT=some ⟨.type "tuple",od_NOUGHT,.seq #[.int 0 t1_NOUGHT,.int 1 t2_NOUGHT] n_NOUGHT,sl_NOUGHT⟩) :
  ∃fd:FuncData,(∀(s:Shared) (v:Value),BindsTo s fd ⟨[v],[]⟩ [("script",v)])/\∀base:Heap,K.In base->base.Ns mainGlobals mg->jH l.prog w K mg base CX0 12 fa fd ["script"] (Vv K):=by
 have e:=hfa.symm.trans (PySem.W.mg_of X G a52)
 cases e
 have d_is_whole:Df K mg "is_whole" qy ["thing"] []:=zQ l0 c0 k0 (PySem.W.mg_of X G a0) λus hl=>match us,hl with | [_],_=>rfl
 have d_is_tuple:Df K mg "is_tuple" qx ["thing","many"] []:=zQ l1 c1 k1 (PySem.W.mg_of X G a1) λus hl=>match us,hl with | [_,_],_=>rfl
 have d_greatest_divisor:Df K mg "greatest_divisor" xc ["one","other"] []:=zQ l2 c2 k2 (PySem.W.mg_of X G a2) λus hl=>match us,hl with | [_,_],_=>rfl
 have d_is_ratio:Df K mg "is_ratio" qv ["thing"] []:=zQ l3 c3 k3 (PySem.W.mg_of X G a3) λus hl=>match us,hl with | [_],_=>rfl
 have d_ratio:Df K mg "ratio" jd ["top","bottom"] []:=⟨⟨f4,_,_,_,_,_,_,_,_,_,_,[],l4,c4,k4,PySem.W.mg_of X G a4,.nil,λs us KX hl=>match us,hl with | [_,_],_=>.of_defaults rfl (KX _ _ ld4) rfl rfl rfl⟩⟩
 have dd_ratio:Df K mg "ratio" jd ["top","bottom"] [.int 1]:=⟨⟨f4,_,_,_,_,_,_,_,_,_,_,[.int 1 tkd4],l4,c4,k4,PySem.W.mg_of X G a4,.cons ⟨_,rfl⟩ .nil,λs us KX hl=>have hl2:us.length=1:=(by simpa using hl);match us,hl2 with | [_],_=>.of_defaults rfl (KX _ _ ld4) rfl rfl rfl⟩⟩
 have d_minus:Df K mg "minus" jD ["one","other"] []:=zQ l5 c5 k5 (PySem.W.mg_of X G a5) λus hl=>match us,hl with | [_,_],_=>rfl
 have d_times:Df K mg "times" jE ["one","other"] []:=zQ l6 c6 k6 (PySem.W.mg_of X G a6) λus hl=>match us,hl with | [_,_],_=>rfl
 have d_over:Df K mg "over" Ze ["one","other"] []:=zQ l7 c7 k7 (PySem.W.mg_of X G a7) λus hl=>match us,hl with | [_,_],_=>rfl
 have d_less:Df K mg "less" Zd ["one","other"] []:=zQ l8 c8 k8 (PySem.W.mg_of X G a8) λus hl=>match us,hl with | [_,_],_=>rfl
 have d_rest_of:Df K mg "rest_of" vc ["one","other"] []:=zQ l9 c9 k9 (PySem.W.mg_of X G a9) λus hl=>match us,hl with | [_,_],_=>rfl
 have d_least_multiple:Df K mg "least_multiple" xm ["numbers"] []:=zQ l10 c10 k10 (PySem.W.mg_of X G a10) λus hl=>match us,hl with | [_],_=>rfl
 have d_common_bottom:Df K mg "common_bottom" xt ["ratios"] []:=zQ l11 c11 k11 (PySem.W.mg_of X G a11) λus hl=>match us,hl with | [_],_=>rfl
 have d_track_of:Df K mg "track_of" qH ["course","thing"] []:=zQ l12 c12 k12 (PySem.W.mg_of X G a12) λus hl=>match us,hl with | [_,_],_=>rfl
 have d_ticks_of:Df K mg "ticks_of" qG ["course","moment"] []:=zQ l13 c13 k13 (PySem.W.mg_of X G a13) λus hl=>match us,hl with | [_,_],_=>rfl
 have d_is_wall:Df K mg "is_wall" qU ["thing"] []:=zQ l14 c14 k14 (PySem.W.mg_of X G a14) λus hl=>match us,hl with | [_],_=>rfl
 have d_is_wall_pair:Df K mg "is_wall_pair" xE ["thing"] []:=zQ l15 c15 k15 (PySem.W.mg_of X G a15) λus hl=>match us,hl with | [_],_=>rfl
 have d_is_ball_form:Df K mg "is_ball_form" xD ["thing"] []:=zQ l16 c16 k16 (PySem.W.mg_of X G a16) λus hl=>match us,hl with | [_],_=>rfl
 have d_is_row_form:Df K mg "is_row_form" xM ["thing"] []:=zQ l17 c17 k17 (PySem.W.mg_of X G a17) λus hl=>match us,hl with | [_],_=>rfl
 have d_is_even:Df K mg "is_even" qT ["row"] []:=zQ l18 c18 k18 (PySem.W.mg_of X G a18) λus hl=>match us,hl with | [_],_=>rfl
 have d_is_still:Df K mg "is_still" qw ["walls"] []:=zQ l19 c19 k19 (PySem.W.mg_of X G a19) λus hl=>match us,hl with | [_],_=>rfl
 have d_is_plain:Df K mg "is_plain" qu ["row","walls"] []:=zQ l20 c20 k20 (PySem.W.mg_of X G a20) λus hl=>match us,hl with | [_,_],_=>rfl
 have d_refuse_uneven:Df K mg "refuse_uneven" xi ["row","walls"] []:=zQ l21 c21 k21 (PySem.W.mg_of X G a21) λus hl=>match us,hl with | [_,_],_=>rfl
 have d_refuse_no_box:Df K mg "refuse_no_box" xh ["row","walls"] []:=zQ l22 c22 k22 (PySem.W.mg_of X G a22) λus hl=>match us,hl with | [_,_],_=>rfl
 have d_refuse_no_ball:Df K mg "refuse_no_ball" xf ["many","k"] []:=zQ l23 c23 k23 (PySem.W.mg_of X G a23) λus hl=>match us,hl with | [_,_],_=>rfl
 have d_refuse_no_place:Df K mg "refuse_no_place" z7 ["walls","place"] []:=zQ l24 c24 k24 (PySem.W.mg_of X G a24) λus hl=>match us,hl with | [_,_],_=>rfl
 have d_line_at:Df K mg "line_at" va ["course","track","ticks"] []:=zQ l25 c25 k25 (PySem.W.mg_of X G a25) λus hl=>match us,hl with | [_,_,_],_=>rfl
 have d_at_once:Df K mg "at_once" qS ["row","walls","t"] []:=zQ l26 c26 k26 (PySem.W.mg_of X G a26) λus hl=>match us,hl with | [_,_,_],_=>rfl
 have d_wished:Df K mg "wished" vS ["row","walls","k","place","t"] []:=zQ l27 c27 k27 (PySem.W.mg_of X G a27) λus hl=>match us,hl with | [_,_,_,_,_],_=>rfl
 have d_joined:Df K mg "joined" vQ ["stretches"] []:=zQ l28 c28 k28 (PySem.W.mg_of X G a28) λus hl=>match us,hl with | [_],_=>rfl
 have d_beginnings:Df K mg "beginnings" xS ["low","high","gone_on","first","last"] []:=zQ l29 c29 k29 (PySem.W.mg_of X G a29) λus hl=>match us,hl with | [_,_,_,_,_],_=>rfl
 have d_aims:Df K mg "aims" jc ["row","walls","speed","k","place","t"] []:=zQ l30 c30 k30 (PySem.W.mg_of X G a30) λus hl=>match us,hl with | [_,_,_,_,_,_],_=>rfl
 have d_law_left:Df K mg "_law_left" qA ["cell"] []:=zQ l31 c31 k31 (PySem.W.mg_of X G a31) λus hl=>match us,hl with | [_],_=>rfl
 have d_law_next:Df K mg "_law_next" qC ["pool","base"] []:=zQ l32 c32 k32 (PySem.W.mg_of X G a32) λus hl=>match us,hl with | [_,_],_=>rfl
 have d_law_wide:Df K mg "_law_wide" qF ["pool","base"] []:=zQ l33 c33 k33 (PySem.W.mg_of X G a33) λus hl=>match us,hl with | [_,_],_=>rfl
 have d_law_low:Df K mg "_law_low" qX ["top","bottom"] []:=zQ l34 c34 k34 (PySem.W.mg_of X G a34) λus hl=>match us,hl with | [_,_],_=>rfl
 have d_law_add:Df K mg "_law_add" qV ["a","b"] []:=zQ l35 c35 k35 (PySem.W.mg_of X G a35) λus hl=>match us,hl with | [_,_],_=>rfl
 have d_law_off:Df K mg "_law_off" qY ["a","b"] []:=zQ l36 c36 k36 (PySem.W.mg_of X G a36) λus hl=>match us,hl with | [_,_],_=>rfl
 have d_law_by:Df K mg "_law_by" vR ["a","b"] []:=zQ l37 c37 k37 (PySem.W.mg_of X G a37) λus hl=>match us,hl with | [_,_],_=>rfl
 have d_law_part:Df K mg "_law_part" qD ["a","b"] []:=zQ l38 c38 k38 (PySem.W.mg_of X G a38) λus hl=>match us,hl with | [_,_],_=>rfl
 have d_law_below:Df K mg "_law_below" qd ["a","b"] []:=zQ l39 c39 k39 (PySem.W.mg_of X G a39) λus hl=>match us,hl with | [_,_],_=>rfl
 have d_law_ratio:Df K mg "_law_ratio" qe ["pool","size"] []:=zQ l40 c40 k40 (PySem.W.mg_of X G a40) λus hl=>match us,hl with | [_,_],_=>rfl
 have d_law_speed:Df K mg "_law_speed" qg ["pool"] []:=zQ l41 c41 k41 (PySem.W.mg_of X G a41) λus hl=>match us,hl with | [_],_=>rfl
 have d_law_rest:Df K mg "_law_rest" qE ["a","b"] []:=zQ l42 c42 k42 (PySem.W.mg_of X G a42) λus hl=>match us,hl with | [_,_],_=>rfl
 have d_law_put:Df K mg "_law_put" qZ ["row","ball"] []:=zQ l43 c43 k43 (PySem.W.mg_of X G a43) λus hl=>match us,hl with | [_,_],_=>rfl
 have d_law_even:Df K mg "_law_even" qz ["pool","most"] []:=zQ l44 c44 k44 (PySem.W.mg_of X G a44) λus hl=>match us,hl with | [_,_],_=>rfl
 have d_law_moment:Df K mg "_law_moment" xU ["pool"] []:=zQ l45 c45 k45 (PySem.W.mg_of X G a45) λus hl=>match us,hl with | [_],_=>rfl
 have d_law_line:Df K mg "_law_line" qB ["ball","walls","t"] []:=zQ l46 c46 k46 (PySem.W.mg_of X G a46) λus hl=>match us,hl with | [_,_,_],_=>rfl
 have d_law_sorted:Df K mg "_law_sorted" xV ["ratios"] []:=zQ l47 c47 k47 (PySem.W.mg_of X G a47) λus hl=>match us,hl with | [_],_=>rfl
 have d_law_all:Df K mg "_law_all" qW ["row","walls","ball","t"] []:=zQ l48 c48 k48 (PySem.W.mg_of X G a48) λus hl=>match us,hl with | [_,_,_,_],_=>rfl
 have d_law_asking:Df K mg "_law_asking" xT ["pool"] []:=zQ l49 c49 k49 (PySem.W.mg_of X G a49) λus hl=>match us,hl with | [_],_=>rfl
 have d_law_refused:Df K mg "_law_refused" xy ["row","walls","speed","k","place","t"] []:=zQ l50 c50 k50 (PySem.W.mg_of X G a50) λus hl=>match us,hl with | [_,_,_,_,_,_],_=>rfl
 have d_law_uneven:Df K mg "_law_uneven" xW ["pool","row","walls"] []:=zQ l51 c51 k51 (PySem.W.mg_of X G a51) λus hl=>match us,hl with | [_,_,_],_=>rfl
 have T:TxB K mg:=⟨zcz K,zcy K,PySem.W.mg_none_of X G z_isinstance,PySem.W.mg_none_of X G z_int,PySem.W.mg_none_of X G z_bool,PySem.W.mg_none_of X G z_abs,PySem.W.mg_none_of X G z_len,PySem.W.mg_none_of X G z_max,PySem.W.mg_none_of X G z_min,PySem.W.mg_none_of X G z_range,PySem.W.mg_none_of X G z_tuple,PySem.W.mg_none_of X G z_sum⟩
 have F:=JC (st:=s_law) l52 c52 k52
 refine⟨PySem.W.fnOf "law" "law" (zy s_law) (zv s_law) (zh s_law) .none kV52 dc52 pm52 an52 cd52 ct52,λs v=>.of_eq rfl,λbase hKb hGb=>?_⟩
 have T3:Tx3 K mg a_NOUGHT:=⟨PySem.W.mg_none_of X G z_all,PySem.W.mg_none_of X G z_sorted,PySem.W.mg_none_of X G z_enumerate,PySem.W.mg_of X G v_NOUGHT,⟨_,_,_,_,l_NOUGHT,rfl,rfl⟩,zcA K⟩
 have TQ:TxQ K mg:=⟨T,PySem.W.mg_none_of X G z_list,PySem.W.mg_none_of X G z_zip⟩
 have mCo:=PySem.W.mg_of X G a_Course
 have FUC:=JC (st:=xL) li_Course ci_Course ki_Course
 have BIC:=FUC.binds (ps:=["self","row","walls"]) λ_ _ _ _ _ _ us hl=>match us,hl with | [_,_,_],_=>rfl
 have TC:TCo K C_Course:=⟨⟨pgC,hdC,poC,sa_Course⟩,nc_place_bottom,nc_speed_bottom,nc_tick,nc_weights,nc_tracks,nc_low,nc_high⟩
 have M:Mk K C_Course fI_Course:=⟨mkC,fi_Course,ifC,kp_Course⟩
 have OE:=QQ hKb hGb a_NotEven x_NotEven
 have OB:=QQ hKb hGb a_NoBall x_NoBall
 have OP:=QQ hKb hGb a_NoPlace x_NoPlace
 let XC:Xc K mg C_ClackError C_NotEven C_NoBall C_NoPlace:=⟨C_NoEnd,C_TooMany,PySem.W.mg_of X G a_ClackError,PySem.W.mg_of X G a_NoEnd,PySem.W.mg_of X G a_TooMany,PySem.W.mg_of X G a_NotEven,PySem.W.mg_of X G a_NoBall,PySem.W.mg_of X G a_NoPlace,PySem.W.mg_none_of X G z_ValueError⟩
 have kE:Xk K [XC.c0,XC.c1] C_NotEven C_ClackError C_NotEven C_NoBall C_NoPlace true false false:=⟨veE,k3E,k1E,k2E,k4E,exE,zaC xkE⟩
 have kB:Xk K [XC.c0,XC.c1] C_NoBall C_ClackError C_NotEven C_NoBall C_NoPlace false true false:=⟨veB,k3B,k1B,k2B,k4B,exB,zaC xkB⟩
 have kP:Xk K [XC.c0,XC.c1] C_NoPlace C_ClackError C_NotEven C_NoBall C_NoPlace false false true:=⟨veP,k3P,k1P,k2P,k4P,exP,zaC xkP⟩
 have cW:=JW (P:=l.prog) (w:=w) (base:=base) d_is_whole T
 have cG:=zcN (P:=l.prog) (w:=w) (base:=base) d_greatest_divisor
 have cR:=Qb d_ratio T cW cG
 have cRd:=Qb dd_ratio T cW cG
 have cOv:=zbc d_over cR
 have cTi:=JV d_times cR
 have cMi:=JT d_minus cR
 have cRs:=zdP d_rest_of cR
 have cLs:=zcV (P:=l.prog) (w:=w) (base:=base) d_less
 have cTu:=zdV (P:=l.prog) (w:=w) (base:=base) d_is_tuple T T3
 have cIr:=zdL d_is_ratio T cTu cW cG
 have cWa:=zdW d_is_wall cTu cIr
 have cWp:=zdY d_is_wall_pair cTu cWa
 have cBf:=zdH d_is_ball_form cTu cIr cW
 have cRf:=JU d_is_row_form T T3 cBf
 have cEv:=zdK d_is_even T T3 cRf
 have cSt:=zdS d_is_still T3 cWp
 have cLcm:=zcS d_least_multiple cG
 have cB:=zdI d_common_bottom cLcm
 have cTr:=zdU (P:=l.prog) (w:=w) (base:=base) d_track_of TC
 have Fi:=zdJ FUC TQ TC cB cR cTr
 have cTk:=zdT d_ticks_of TC cOv
 have cPl:=zdN d_is_plain cEv cSt
 have cRu:=zdQ d_refuse_uneven cPl
 have cNx:=zcY d_refuse_no_box cRu
 have cNb:=zdM (P:=l.prog) (w:=w) (base:=base) d_refuse_no_ball
 have cRnp:=zc0 d_refuse_no_place cLs
 have cLa:=zcP (P:=l.prog) (w:=w) (base:=base) d_line_at T TC
 have cAo:=zdG d_at_once T T3 TC M Fi mCo BIC cRu cTk cLa cR
 have cWis:=zc3 d_wished T cLs cAo
 have cJo:=zcO (P:=l.prog) (w:=w) (base:=base) d_joined T
 have cBeg:=zcL d_beginnings T cJo
 have cAi:=zcK d_aims T cNx cNb cRnp cWis cRs cTi cR cRd cMi cB cBeg
 have cD:=zcM (P:=l.prog) (w:=w) (base:=base) d_law_left T
 have cN:=zbb (P:=l.prog) (w:=w) (base:=base) d_law_next
 have cWi:=zdX d_law_wide T cN
 have cL:=zcU (P:=l.prog) (w:=w) (base:=base) d_law_low T
 have cA:=za3 d_law_add cL
 have cO:=za8 d_law_off cL
 have cBy:=zcR d_law_by cL
 have cPt:=JR d_law_part cL
 have cBl:=za6 (P:=l.prog) (w:=w) (base:=base) d_law_below
 have cRa:=zdO d_law_ratio cN cWi cL
 have cSp:=zdR d_law_speed cN cL
 have cMo:=za7 d_law_moment cN cWi cL
 have cLr:=JS d_law_rest cPt cO cBy
 have cLi:=JQ d_law_line cA cO cBy cLr cBl
 have cSr:=zc2 d_law_sorted TQ cBl
 have cAl:=za4 d_law_all cLi cSr
 have cPu:=za9 d_law_put cBl
 have cEv8:=zcT d_law_even T cN cRa cL cA cBy cO cSp cPu
 have cAs:=za5 d_law_asking T cN cL cA cBy cO cSp cEv8 cMo cAl cLi
 have cRuE:=zc1 d_refuse_uneven OE cPl
 have cNxE:=zba d_refuse_no_box OE cRu cRuE
 have cNbE:=zcX (P:=l.prog) (w:=w) (base:=base) d_refuse_no_ball OB
 have cRnpE:=zbd d_refuse_no_place OP cLs
 have cAiE:=zcI d_aims cNxE
 have cAiB:=zcH d_aims T cNx cNbE
 have cAiP:=zcJ d_aims T cNx cNb cRnpE
 have cRfE:=QO d_law_refused T XC kE cAiE
 have cRfB:=QO d_law_refused T XC kB cAiB
 have cRfP:=QO d_law_refused T XC kP cAiP
 have cRfG:=zcZ d_law_refused XC kE.ex cAi
 have cUn:=zcW d_law_uneven T cN
 exact zcQ F T cD cN cL cA cO cAs cUn cRfE cRfB cRfP cRfG
theorem walk {l:PySem.W.OpenLaw}{q:Program}{loose:List Str}{XP:(Str->Option Value)->Heap->Prop}{YP:World->Heap->Prop}{d:DefRec}{K:Params->PySem.W.Frag}(hn:l.most=some 63) (hdf:d.params.defaults=[])
  (hY:∀(w:World) (h:Heap),YP w h->(K w.params).In h)
  (F:∀(w:World) (mg:Str->Option Value) (fa:Addr) (h:Heap),(K w.params).In h->h.Ns mainGlobals mg->mg d.name=some (.ref fa) →
   ∃fd:FuncData,(∀(s:Shared) (u:Value),BindsTo s fd ⟨[u],[]⟩ [("script",u)])/\∀base:Heap,(K w.params).In base->base.Ns mainGlobals mg->jH l.prog w (K w.params) mg base CX0 12 fa fd ["script"] (Vv (K w.params))) :
  PySem.W.WalkO q loose XP YP l.row.toRowW d [] (λf vs=>PySem.call f vs) :=
 L2.zbF (n:=63) (k:=12) (x:="script") (CX:=λ_=>CX0) (sp:=λw=>Vv (K w.params)) hn (by decide) hdf ⟨rfl,by decide,by decide⟩ hY F (λ_ _ a ns hl _ hS=>⟨a,ns,rfl,hS,hl,λ_=>rfl⟩) λ_ _ _ _ _ z=>z
end KK
open PySem PySem.W PyProof.Rows
set_option maxRecDepth 100000 in
set_option maxHeartbeats 0 in
theorem PySem.Challenge.cw_clackrow_k42_beginnings_refused_holds : PySem.Challenge.rw_clackrow_k42_beginnings_refused.Holds := by
 w_on;o_law;k_head;(case hw=>w_witness2)
 k_fill
 refine KK.walk (l:=PySem.Challenge.rw_clackrow_k42_beginnings_refused) rfl rfl (λw h Y=>PySem.W.kIn_of Y) ?F
 case F =>
  intro w mg fa h KX G hmg
  refine' KK.zci KX G hmg ?a0 ?l0 ?c0 ?k0 ?a1 ?l1 ?c1 ?k1 ?a2 ?l2 ?c2 ?k2 ?a3 ?l3 ?c3 ?k3 ?a4 ?l4 ?c4 ?k4 ?ld4 ?a5 ?l5 ?c5 ?k5 ?a6 ?l6 ?c6 ?k6 ?a7 ?l7 ?c7 ?k7 ?a8 ?l8 ?c8 ?k8 ?a9 ?l9 ?c9 ?k9 ?a10 ?l10 ?c10 ?k10 ?a11 ?l11 ?c11 ?k11 ?a12 ?l12 ?c12 ?k12 ?a13 ?l13 ?c13 ?k13 ?a14 ?l14 ?c14 ?k14 ?a15 ?l15 ?c15 ?k15 ?a16 ?l16 ?c16 ?k16 ?a17 ?l17 ?c17 ?k17 ?a18 ?l18 ?c18 ?k18 ?a19 ?l19 ?c19 ?k19 ?a20 ?l20 ?c20 ?k20 ?a21 ?l21 ?c21 ?k21 ?a22 ?l22 ?c22 ?k22 ?a23 ?l23 ?c23 ?k23 ?a24 ?l24 ?c24 ?k24 ?a25 ?l25 ?c25 ?k25 ?a26 ?l26 ?c26 ?k26 ?a27 ?l27 ?c27 ?k27 ?a28 ?l28 ?c28 ?k28 ?a29 ?l29 ?c29 ?k29 ?a30 ?l30 ?c30 ?k30 ?a31 ?l31 ?c31 ?k31 ?a32 ?l32 ?c32 ?k32 ?a33 ?l33 ?c33 ?k33 ?a34 ?l34 ?c34 ?k34 ?a35 ?l35 ?c35 ?k35 ?a36 ?l36 ?c36 ?k36 ?a37 ?l37 ?c37 ?k37 ?a38 ?l38 ?c38 ?k38 ?a39 ?l39 ?c39 ?k39 ?a40 ?l40 ?c40 ?k40 ?a41 ?l41 ?c41 ?k41 ?a42 ?l42 ?c42 ?k42 ?a43 ?l43 ?c43 ?k43 ?a44 ?l44 ?c44 ?k44 ?a45 ?l45 ?c45 ?k45 ?a46 ?l46 ?c46 ?k46 ?a47 ?l47 ?c47 ?k47 ?a48 ?l48 ?c48 ?k48 ?a49 ?l49 ?c49 ?k49 ?a50 ?l50 ?c50 ?k50 ?a51 ?l51 ?c51 ?k51 ?a52 ?l52 ?c52 ?k52 ?z_isinstance ?z_int ?z_bool ?z_abs ?z_len ?z_max ?z_min ?z_range ?z_tuple ?z_sum ?z_zip ?z_list ?z_enumerate ?z_sorted ?z_all ?z_ValueError ?a_ClackError ?a_NotEven ?a_NoBall ?a_NoPlace ?a_NoEnd ?a_TooMany ?a_Course ?kp_Course ?fi_Course ?li_Course ?ci_Course ?ki_Course ?sa_Course ?x_NotEven ?xkE ?exE ?veE ?k1E ?k2E ?k4E ?k3E ?x_NoBall ?xkB ?exB ?veB ?k1B ?k2B ?k4B ?k3B ?x_NoPlace ?xkP ?exP ?veP ?k1P ?k2P ?k4P ?k3P ?mkC ?ifC ?pgC ?hdC ?poC ?nc_place_bottom ?nc_speed_bottom ?nc_tick ?nc_weights ?nc_tracks ?nc_low ?nc_high ?v_NOUGHT ?l_NOUGHT
  (case a0=>k_is)
  (case l0=>k_is)
  (case c0=>k_is)
  (case k0=>k_is)
  (case a1=>k_is)
  (case l1=>k_is)
  (case c1=>k_is)
  (case k1=>k_is)
  (case a2=>k_is)
  (case l2=>k_is)
  (case c2=>k_is)
  (case k2=>k_is)
  (case a3=>k_is)
  (case l3=>k_is)
  (case c3=>k_is)
  (case k3=>k_is)
  (case a4=>k_is)
  (case l4=>k_is)
  (case c4=>k_is)
  (case k4=>k_is)
  (case ld4=>k_is)
  (case a5=>k_is)
  (case l5=>k_is)
  (case c5=>k_is)
  (case k5=>k_is)
  (case a6=>k_is)
  (case l6=>k_is)
  (case c6=>k_is)
  (case k6=>k_is)
  (case a7=>k_is)
  (case l7=>k_is)
  (case c7=>k_is)
  (case k7=>k_is)
  (case a8=>k_is)
  (case l8=>k_is)
  (case c8=>k_is)
  (case k8=>k_is)
  (case a9=>k_is)
  (case l9=>k_is)
  (case c9=>k_is)
  (case k9=>k_is)
  (case a10=>k_is)
  (case l10=>k_is)
  (case c10=>k_is)
  (case k10=>k_is)
  (case a11=>k_is)
  (case l11=>k_is)
  (case c11=>k_is)
  (case k11=>k_is)
  (case a12=>k_is)
  (case l12=>k_is)
  (case c12=>k_is)
  (case k12=>k_is)
  (case a13=>k_is)
  (case l13=>k_is)
  (case c13=>k_is)
  (case k13=>k_is)
  (case a14=>k_is)
  (case l14=>k_is)
  (case c14=>k_is)
  (case k14=>k_is)
  (case a15=>k_is)
  (case l15=>k_is)
  (case c15=>k_is)
  (case k15=>k_is)
  (case a16=>k_is)
  (case l16=>k_is)
  (case c16=>k_is)
  (case k16=>k_is)
  (case a17=>k_is)
  (case l17=>k_is)
  (case c17=>k_is)
  (case k17=>k_is)
  (case a18=>k_is)
  (case l18=>k_is)
  (case c18=>k_is)
  (case k18=>k_is)
  (case a19=>k_is)
  (case l19=>k_is)
  (case c19=>k_is)
  (case k19=>k_is)
  (case a20=>k_is)
  (case l20=>k_is)
  (case c20=>k_is)
  (case k20=>k_is)
  (case a21=>k_is)
  (case l21=>k_is)
  (case c21=>k_is)
  (case k21=>k_is)
  (case a22=>k_is)
  (case l22=>k_is)
  (case c22=>k_is)
  (case k22=>k_is)
  (case a23=>k_is)
  (case l23=>k_is)
  (case c23=>k_is)
  (case k23=>k_is)
  (case a24=>k_is)
  (case l24=>k_is)
  (case c24=>k_is)
  (case k24=>k_is)
  (case a25=>k_is)
  (case l25=>k_is)
  (case c25=>k_is)
  (case k25=>k_is)
  (case a26=>k_is)
  (case l26=>k_is)
  (case c26=>k_is)
  (case k26=>k_is)
  (case a27=>k_is)
  (case l27=>k_is)
  (case c27=>k_is)
  (case k27=>k_is)
  (case a28=>k_is)
  (case l28=>k_is)
  (case c28=>k_is)
  (case k28=>k_is)
  (case a29=>k_is)
  (case l29=>k_is)
  (case c29=>k_is)
  (case k29=>k_is)
  (case a30=>k_is)
  (case l30=>k_is)
  (case c30=>k_is)
  (case k30=>k_is)
  (case a31=>k_is)
  (case l31=>k_is)
  (case c31=>k_is)
  (case k31=>k_is)
  (case a32=>k_is)
  (case l32=>k_is)
  (case c32=>k_is)
  (case k32=>k_is)
  (case a33=>k_is)
  (case l33=>k_is)
  (case c33=>k_is)
  (case k33=>k_is)
  (case a34=>k_is)
  (case l34=>k_is)
  (case c34=>k_is)
  (case k34=>k_is)
  (case a35=>k_is)
  (case l35=>k_is)
  (case c35=>k_is)
  (case k35=>k_is)
  (case a36=>k_is)
  (case l36=>k_is)
  (case c36=>k_is)
  (case k36=>k_is)
  (case a37=>k_is)
  (case l37=>k_is)
  (case c37=>k_is)
  (case k37=>k_is)
  (case a38=>k_is)
  (case l38=>k_is)
  (case c38=>k_is)
  (case k38=>k_is)
  (case a39=>k_is)
  (case l39=>k_is)
  (case c39=>k_is)
  (case k39=>k_is)
  (case a40=>k_is)
  (case l40=>k_is)
  (case c40=>k_is)
  (case k40=>k_is)
  (case a41=>k_is)
  (case l41=>k_is)
  (case c41=>k_is)
  (case k41=>k_is)
  (case a42=>k_is)
  (case l42=>k_is)
  (case c42=>k_is)
  (case k42=>k_is)
  (case a43=>k_is)
  (case l43=>k_is)
  (case c43=>k_is)
  (case k43=>k_is)
  (case a44=>k_is)
  (case l44=>k_is)
  (case c44=>k_is)
  (case k44=>k_is)
  (case a45=>k_is)
  (case l45=>k_is)
  (case c45=>k_is)
  (case k45=>k_is)
  (case a46=>k_is)
  (case l46=>k_is)
  (case c46=>k_is)
  (case k46=>k_is)
  (case a47=>k_is)
  (case l47=>k_is)
  (case c47=>k_is)
  (case k47=>k_is)
  (case a48=>k_is)
  (case l48=>k_is)
  (case c48=>k_is)
  (case k48=>k_is)
  (case a49=>k_is)
  (case l49=>k_is)
  (case c49=>k_is)
  (case k49=>k_is)
  (case a50=>k_is)
  (case l50=>k_is)
  (case c50=>k_is)
  (case k50=>k_is)
  (case a51=>k_is)
  (case l51=>k_is)
  (case c51=>k_is)
  (case k51=>k_is)
  (case a52=>k_is)
  (case l52=>k_is)
  (case c52=>k_is)
  (case k52=>k_is)
  (case z_isinstance=>k_is)
  (case z_int=>k_is)
  (case z_bool=>k_is)
  (case z_abs=>k_is)
  (case z_len=>k_is)
  (case z_max=>k_is)
  (case z_min=>k_is)
  (case z_range=>k_is)
  (case z_tuple=>k_is)
  (case z_sum=>k_is)
  (case z_zip=>k_is)
  (case z_list=>k_is)
  (case z_enumerate=>k_is)
  (case z_sorted=>k_is)
  (case z_all=>k_is)
  (case z_ValueError=>k_is)
  (case a_ClackError=>k_is)
  (case a_NotEven=>k_is)
  (case a_NoBall=>k_is)
  (case a_NoPlace=>k_is)
  (case a_NoEnd=>k_is)
  (case a_TooMany=>k_is)
  (case a_Course=>k_is)
  (case kp_Course=>k_is)
  (case fi_Course=>k_is)
  (case li_Course=>k_is)
  (case ci_Course=>k_is)
  (case ki_Course=>k_is)
  (case sa_Course=>k_is)
  (case x_NotEven=>k_exc)
  (case xkE=>kernel_rfl)
  (case exE=>kernel_rfl)
  (case veE=>kernel_rfl)
  (case k1E=>kernel_rfl)
  (case k2E=>kernel_rfl)
  (case k4E=>kernel_rfl)
  (case k3E=>kernel_rfl)
  (case x_NoBall=>k_exc)
  (case xkB=>kernel_rfl)
  (case exB=>kernel_rfl)
  (case veB=>kernel_rfl)
  (case k1B=>kernel_rfl)
  (case k2B=>kernel_rfl)
  (case k4B=>kernel_rfl)
  (case k3B=>kernel_rfl)
  (case x_NoPlace=>k_exc)
  (case xkP=>kernel_rfl)
  (case exP=>kernel_rfl)
  (case veP=>kernel_rfl)
  (case k1P=>kernel_rfl)
  (case k2P=>kernel_rfl)
  (case k4P=>kernel_rfl)
  (case k3P=>kernel_rfl)
  (case mkC=>kernel_rfl)
  (case ifC=>kernel_rfl)
  (case pgC=>kernel_rfl)
  (case hdC=>kernel_rfl)
  (case poC=>kernel_rfl)
  (case nc_place_bottom=>k_is)
  (case nc_speed_bottom=>k_is)
  (case nc_tick=>k_is)
  (case nc_weights=>k_is)
  (case nc_tracks=>k_is)
  (case nc_low=>k_is)
  (case nc_high=>k_is)
  (case v_NOUGHT=>k_is)
  (case l_NOUGHT=>k_is)
end
