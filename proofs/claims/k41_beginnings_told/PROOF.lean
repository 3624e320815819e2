import PyProof.Rows.All
import Wide.All
import OpenK.AllK
import Wide.FinOn
import Lean
import PyProof.EqAt
import PyProof.EqKinds
import PyProof.TupleCall
import PyProof.CompFree
import PyProof.Rows.SumAny
import PyProof.ZipIter
import PyProof.ConsumeWalk
import PySem.Challenge.RW_clackrow_k41_beginnings_told
import KE.KSortTup
import KE.KDictSum
import PyProof.Sound
import KE.KLam
import PyProof.WalkInts
import PyProof.Rows.SeqCalls
import PyProof.Draws
import KE.KTryMore
set_option Elab.async false
set_option linter.all false
set_option maxRecDepth 100000
namespace L2
open PySem PySem.Spec PyProof.Rows
abbrev Key:=Sum Int Str
def zce:Key->Value->Bool
 | .inl k,v=>Value.isInt k v
 | .inr x,v=>Value.isStrOf x v
def keyH (w:World):Key->Int
 | .inl k=>hashInt k
 | .inr x=>hashStr w x
theorem xA:∀{k:Key}{v:Value},zce k v=true->(∃i t,k=Sum.inl i/\v=Value.int i t)\/(∃x t,k=Sum.inr x/\v=Value.str x t)
 | .inl i,v,h=>by
  obtain⟨t,e⟩:=Value.isInt_shape (k:=i) (v:=v) h
  exact .inl ⟨i,t,rfl,e⟩
 | .inr x,v,h=>by
  obtain⟨t,e⟩:=Value.isStrOf_shape (x:=x) (v:=v) h
  exact .inr ⟨x,t,rfl,e⟩
theorem zcO (a b:Int):decide ((Sum.inl a:Key)=Sum.inl b)=(a == b):=by
 by_cases e:a=b
 ·subst e;simp
 ·have h:¬(Sum.inl a:Key)=Sum.inl b:=λq=>e (Sum.inl.inj q)
  rw[decide_eq_false h]
  exact(beq_eq_false_iff_ne.mpr e).symm
theorem zcR (a b:Str):decide ((Sum.inr a:Key)=Sum.inr b)=decide (a=b):=by
 by_cases e:a=b
 ·subst e;simp
 ·have h:¬(Sum.inr a:Key)=Sum.inr b:=λq=>e (Sum.inr.inj q)
  rw[decide_eq_false h,decide_eq_false e]
theorem zcP (a:Int) (b:Str):decide ((Sum.inl a:Key)=Sum.inr b)=false:=decide_eq_false (λq=>nomatch q)
theorem zcQ (a:Str) (b:Int):decide ((Sum.inr a:Key)=Sum.inl b)=false:=decide_eq_false (λq=>nomatch q)
def XH (prog:Program) (w:World):PySem.KeyKind prog w Key where
 is:=zce
 hash:=keyH w
 inj:=λv a b ha hb=>by
  rcases xA ha with⟨i,t,rfl,rfl⟩ | ⟨x,t,rfl,rfl⟩
  ·rcases xA hb with⟨j,u,rfl,e⟩ | ⟨y,u,rfl,e⟩
   ·injection e with e1 _;rw[e1]
   ·exact nomatch e
  ·rcases xA hb with⟨j,u,rfl,e⟩ | ⟨y,u,rfl,e⟩
   ·exact nomatch e
   ·injection e with e1 _;rw[e1]
 byValue:=λk v h=>by
  rcases xA h with⟨i,t,rfl,rfl⟩ | ⟨x,t,rfl,rfl⟩ <;> rfl
 pyHash:=λhv h=>by
  rcases xA hv with⟨i,t,rfl,rfl⟩ | ⟨x,t,rfl,rfl⟩
  ·exact wpAny_pyHash_int h
  ·exact wpAny_pyHash_str h
 eqBool:=λhu hv h=>by
  rcases xA hu with⟨i,t,rfl,rfl⟩ | ⟨x,t,rfl,rfl⟩
  ·rcases xA hv with⟨j,u,rfl,rfl⟩ | ⟨y,u,rfl,rfl⟩
   ·rw[zcO]at h;exact wpAny_eqBool_int h
   ·rw[zcP]at h;exact SeqAt.EqAt.int_str i t y u _ _ _ _ h
  ·rcases xA hv with⟨j,u,rfl,rfl⟩ | ⟨y,u,rfl,rfl⟩
   ·rw[zcQ]at h;exact SeqAt.EqAt.str_int x t j u _ _ _ _ h
   ·rw[zcR]at h;exact wpAny_eqBool_str h
 «strs»:=λk x t v h=>by
  rcases xA h with⟨i,u,rfl,e⟩ | ⟨y,u,rfl,e⟩
  ·exact nomatch e
  ·injection e with e1 _
   subst e1
   cases v <;> rfl
end L2
namespace L2
open PySem PySem.Spec PyProof.Rows
inductive V where
 | non | bl (b:Bool) | int (i:Int) | str (x:Str) | byt (b:Array UInt8) | flt (b:UInt64) | ref (a:Addr) | ty (n:String)
 deriving DecidableEq
def xj:V->Value->Prop
 | .non,u=>u=Value.none
 | .bl b,u=>u=Value.bool b
 | .int i,u=>∃t,u=Value.int i t
 | .str x,u=>∃t,u=Value.str x t
 | .byt b,u=>∃t,u=Value.bytes b t
 | .flt b,u=>∃t,u=Value.float b t
 | .ref a,u=>u=Value.ref a
 | .ty n,u=>u=Value.type n
abbrev zS:List V->List Value->Prop:=Paired xj
theorem zS.length {xs:List V}{us:List Value}(r:zS xs us):xs.length=us.length:=Paired.length r
theorem zS.get:∀{xs:List V}{us:List Value}{i:Nat}{x:V},zS xs us->xs[i]? = some x->∃u,us[i]? = some u/\xj x u
 | _,_,_,_,.nil,e=>by simp at e
 | _,_,0,_,.cons r _,e=>by simp at e;subst e;exact⟨_,rfl,r⟩
 | _,_,i+1,x,.cons _ t,e=>by
  obtain⟨u,h1,h2⟩:=zS.get (i:=i) (x:=x) t (by simpa using e)
  exact⟨u,by simpa using h1,h2⟩
theorem zS.set {x:V}{u:Value}(r:xj x u):∀{xs:List V}{us:List Value}(i:Nat),zS xs us->zS (xs.set i x) (us.set i u)
 | _,_,_,.nil=>.nil
 | _,_,0,.cons _ t=>.cons r t
 | _,_,i+1,.cons q t=>.cons q (zS.set r i t)
theorem zS.append:∀{xs ys:List V}{us ws:List Value},zS xs us->zS ys ws->zS (xs++ys) (us++ws)
 | _,_,_,_,.nil,s=>s
 | _,_,_,_,.cons r t,s=>.cons r (zS.append t s)
theorem zS.take:∀{xs:List V}{us:List Value}(n:Nat),zS xs us->zS (xs.take n) (us.take n)
 | _,_,0,_=>.nil
 | _,_,_+1,.nil=>.nil
 | _,_,n+1,.cons r t=>.cons r (zS.take n t)
theorem zS.drop:∀{xs:List V}{us:List Value}(n:Nat),zS xs us->zS (xs.drop n) (us.drop n)
 | _,_,0,r=>r
 | _,_,_+1,.nil=>.nil
 | _,_,n+1,.cons _ t=>zS.drop n t
def QI:Option V->Option Value->Prop
 | some v,some u=>xj v u
 | none,none=>True
 | _,_=>False
def KV {κ:Type}:List (κ×V)->List (κ×Value)->Prop:=Paired λ(p:κ×V) (q:κ×Value)=>p.1=q.1/\xj p.2 q.2
def kV:Key->V
 | .inl i=>.int i
 | .inr x=>.str x
inductive HO where
 | lst (xs:List V)
 | tup (xs:List V)
 | dK (kvs:List (Key×V)) | dT (kvs:List (List Key×V))
 | set (S:Int->Bool) (n:Nat)
 | ins (C dx:Addr) (fs:List (Str×V))
 | own (x:Addr)
 | xd (fs:List (Str×V))
 | met (f x:Addr)
 | rng (lo hi:Int)
 | frz (o:Obj) (u:HO)
 | tbl (ps:Array Value)
 | ext (φ:Heap->Prop)
abbrev Hp:=Addr->Option HO
def upd (H:Hp) (a:Addr) (o:HO):Hp:=λb=>if b=a then some o else H b
theorem zo {H:Hp}{a:Addr}{o:HO}:upd H a o a=some o:=by unfold upd;rw[if_pos rfl]
theorem zK {H:Hp}{a b:Addr}{o:HO}(h:b≠a):upd H a o b=H b:=by unfold upd;rw[if_neg h]
theorem zdY {H:Hp}{a b:Addr}{o u:HO}(h:H a=some o) (h':H b=some u) (d:o≠u):a≠b:=by
 intro e;subst e;rw[h]at h';exact d (Option.some.inj h')
theorem zN {H:Hp}{a b:Addr}{o:HO}(h:H a=some o) (h':H b=none):a≠b:=by
 intro e;subst e;rw[h]at h';cases h'
section
variable (P:Program) (w:World)
def xU (H:Hp) (h:Heap) (a:Addr):HO->Prop
 | .lst xs=>xs.length<=sizeLine/\∃(its:List Value) (n:Nat),zS xs its/\h.get? a=some { cls:=.type "list",data:=.seq its.toArray n }
 | .tup xs=>xs.length<=sizeLine/\∃its:List Value,zS xs its/\IsTup h a its.toArray
 | .dK kvs=>kvs.length<=sizeLine/\(a == sysModules)=false/\∃vs,KV kvs vs/\h.DictOf (XH P w) a vs
 | .dT kvs=>kvs.length<=sizeLine/\(a == sysModules)=false/\∃xs:List (List Key×Addr×Value),
   Paired (λ(p:List Key×V) (q:List Key×Addr×Value)=>p.1=q.1/\H q.2.1=some (.tup (p.1.map kV))/\xj p.2 q.2.2) kvs xs ∧
   ∃o es ep,h.get? a=some o/\o.ExactDict/\o.data = .dict es ep/\es.toList=xs.map (entryOfKey (tupleKind (XH P w)))/\(xs.map (·.1)).Nodup
 | .set S n=>h.SetOf (intKind P w) a S n
 | .ins C dx fs=>H dx=some (.own a)/\fs.length<=1000/\dx≠a/\h.get? a=some (PySem.W.instObj C dx) ∧
   ∃mA,h.Ns1 dx mA/\(∀f,QI (fs.lookup f) (mA f))/\PySem.Within mA (fs.map (·.1))
 | .own _=>∃o,h.get? a=some o
 | .xd fs=>∃mA,h.Ns1 a mA/\∀f,QI (fs.lookup f) (mA f)
 | .rng lo hi=>∃t u v,h.get? a=some { cls:=.type "range",data:=.fields #[.int lo t,.int hi u,.int 1 v] }
 | .frz o u=>h.get? a=some o/\xU H h a u
 | .tbl ps=>h.get? a=some { cls:=.none,data:=.fields ps }
 | .met f x=>h.get? a=some (PySem.W.methodObj (.ref f) (.ref x))
 | .ext φ=>φ h/\(∃o,h.get? a=some o)/\∀h1 h2:Heap,φ h1->(∀o,h1.get? a=some o->h2.get? a=some o)->φ h2
def HOk (H:Hp) (h:Heap):Prop:=∀a o,H a=some o->xU P w H h a o
end
section
variable {P:Program}{w:World}{H H':Hp}{h h':Heap}{a:Addr}{o:HO}
theorem xU.lt (x:xU P w H h a o):a<h.objs.size:=by
 cases o with
 | lst xs=>obtain⟨_,_,_,_,e⟩:=x;exact Heap.lt_size e
 | tup xs=>obtain⟨_,_,_,p⟩:=x;exact p.lt
 | dK kvs=>obtain⟨_,_,_,_,o,_,_,e,_⟩:=x;exact Heap.lt_size e
 | dT kvs=>obtain⟨_,_,_,_,o,_,_,e,_⟩:=x;exact Heap.lt_size e
 | set S n=>obtain⟨o,_,_,_,e,_⟩:=x;exact Heap.lt_size e
 | ins C dx fs=>obtain⟨_,_,_,e,_⟩:=x;exact Heap.lt_size e
 | own y=>obtain⟨_,e⟩:=x;exact Heap.lt_size e
 | xd fs=>obtain⟨_,⟨_,_,_,e,_⟩,_⟩:=x;exact Heap.lt_size e
 | rng lo hi=>obtain⟨_,_,_,e⟩:=x;exact Heap.lt_size e
 | frz ob u=>obtain⟨e,_⟩:=x;exact Heap.lt_size e
 | tbl ps=>exact Heap.lt_size (show h.get? a=some _ from x)
 | met f y=>exact Heap.lt_size (show h.get? a=some _ from x)
 | ext φ=>obtain⟨_,⟨_,e⟩,_⟩:=x;exact Heap.lt_size e
theorem Paired.mapP {α β:Type}{F G:α->β->Prop}:∀{l₁:List α}{l₂:List β},Paired F l₁ l₂->(∀a b,F a b->G a b)->Paired G l₁ l₂
 | _,_,.nil,_=>.nil
 | _,_,.cons r t,f=>.cons (f _ _ r) (Paired.mapP t f)
theorem xU.stay (x:xU P w H h a o) (k:∀b u,(b=a\/H b=some (.own a))->h.get? b=some u->h'.get? b=some u)
  (ho:∀b,H b=some (.own a)->H' b=some (.own a)) (ht:∀b xs,H b=some (.tup xs)->H' b=some (.tup xs)):xU P w H' h' a o:=by
 induction o with
 | lst xs=>obtain⟨z,its,n,r,e⟩:=x;exact⟨z,its,n,r,k _ _ (.inl rfl) e⟩
 | tup xs=>obtain⟨z,its,r,ob,e,c⟩:=x;exact⟨z,its,r,ob,k _ _ (.inl rfl) e,c⟩
 | dK kvs=>obtain⟨z,y,vs,r,ob,es,ep,e,c⟩:=x;exact⟨z,y,vs,r,ob,es,ep,k _ _ (.inl rfl) e,c⟩
 | dT kvs =>
  obtain⟨z,y,xs,r,ob,es,ep,e,c⟩:=x
  exact⟨z,y,xs,Paired.mapP r λp q z=>⟨z.1,ht _ _ z.2.1,z.2.2⟩,ob,es,ep,k _ _ (.inl rfl) e,c⟩
 | set S n=>obtain⟨ob,es,ep,t,e,c⟩:=x;exact⟨ob,es,ep,t,k _ _ (.inl rfl) e,c⟩
 | ins C dx fs =>
  obtain⟨d,z,ne,e,mA,⟨od,es,ep,e2,c⟩,r⟩:=x
  exact⟨ho _ d,z,ne,k _ _ (.inl rfl) e,mA,⟨od,es,ep,k _ _ (.inr d) e2,c⟩,r⟩
 | own y=>obtain⟨ob,e⟩:=x;exact⟨ob,k _ _ (.inl rfl) e⟩
 | xd fs=>obtain⟨mA,⟨od,es,ep,e,c⟩,r⟩:=x;exact⟨mA,⟨od,es,ep,k _ _ (.inl rfl) e,c⟩,r⟩
 | rng lo hi=>obtain⟨t,u,v,e⟩:=x;exact⟨t,u,v,k _ _ (.inl rfl) e⟩
 | frz ob u ih=>obtain⟨e,q⟩:=x;exact⟨k _ _ (.inl rfl) e,ih q⟩
 | tbl ps =>
  have e:h.get? a=some { cls:=.none,data:=.fields ps }:=x
  show h'.get? a=some { cls:=.none,data:=.fields ps }
  exact k a _ (.inl rfl) e
 | met f y =>
  have e:h.get? a=some (PySem.W.methodObj (.ref f) (.ref y)):=x
  show h'.get? a=some (PySem.W.methodObj (.ref f) (.ref y))
  exact k a _ (.inl rfl) e
 | ext φ=>obtain⟨p,⟨o,e⟩,st⟩:=x;exact⟨st _ _ p λo q=>k _ _ (.inl rfl) q,⟨o,k _ _ (.inl rfl) e⟩,st⟩
theorem HOk.lt (x:HOk P w H h) (e:H a=some o):a<h.objs.size:=(x a o e).lt
theorem HOk.fresh (x:HOk P w H h) (e:h.objs.size<=a):H a=none:=by
 cases q:H a with
 | none=>rfl
 | some u=>exact absurd (Nat.lt_of_lt_of_le (x.lt q) e) (Nat.lt_irrefl _)
theorem HOk.kept (x:HOk P w H h) (k:∀b u,h.get? b=some u->h'.get? b=some u):HOk P w H h':=λa o e =>
 (x a o e).stay (λb u _ q=>k b u q) (λ_ q=>q) λ_ _ q=>q
theorem HOk.laid (x:HOk P w H h) (k:∀b u,h.get? b=some u->h'.get? b=some u) (hp:h.objs.size<=a) (new:xU P w (upd H a o) h' a o):HOk P w (upd H a o) h':=λb u e=>by
 have hn:=x.fresh hp
 by_cases hb:b=a
 ·subst hb;rw[zo]at e;cases e;exact new
 ·rw[zK hb]at e
  exact(x b u e).stay (λc v _ q=>k c v q) (λc q=>by rw[zK (zN q hn)];exact q) λc xs q=>by rw[zK (zN q hn)];exact q
end
def Rd (H:Hp) (a:Addr) (u:HO):Prop:=H a=some u\/∃o,H a=some (.frz o u)
theorem Rd.ok {P:Program}{w:World}{H:Hp}{h:Heap}{a:Addr}{u:HO}(r:Rd H a u) (x:HOk P w H h):xU P w H h a u:=by
 rcases r with r | ⟨o,r⟩
 ·exact x a u r
 ·obtain⟨_,q⟩:=x a _ r
  exact q
def Mut:Option HO->Prop
 | some (.lst _)=>True
 | some (.dK _)=>True
 | some (.dT _)=>True
 | some (.set _ _)=>True
 | some (.ins _ _ _)=>True
 | some (.ext _)=>True
 | _=>False
section
variable {P:Program}{w:World}{H:Hp}{h h':Heap}{x e:Addr}{o':HO}
theorem HOk.write (ok:HOk P w H h) (mu:Mut (H x)) (he:e=x\/H e=some (.own x)) (k:∀b u,b≠e->h.get? b=some u->h'.get? b=some u) (heo:∃u,h'.get? e=some u)
  (new:xU P w (upd H x o') h' x o'):HOk P w (upd H x o') h':=λb u q=>by
 have nown:∀c y,H c=some (.own y)->c≠x:=λc y r z=>by subst z;rw[r]at mu;exact mu
 have ntup:∀c xs,H c=some (.tup xs)->c≠x:=λc xs r z=>by subst z;rw[r]at mu;exact mu
 by_cases hb:b=x
 ·subst hb;rw[zo]at q;cases q;exact new
 ·rw[zK hb]at q
  by_cases hbe:b=e
  ·have q':H b=some (.own x):=by
    rcases he with z | z
    ·exact absurd (hbe.trans z) hb
    ·rw[hbe];exact z
   rw[q]at q';cases q'
   obtain⟨v,hv⟩:=heo
   exact⟨v,by rw[hbe];exact hv⟩
  ·refine(ok b u q).stay (λc v hc r=>k c v ?_ r) (λc r=>by rw[zK (nown c b r)];exact r) λc xs r=>by rw[zK (ntup c xs r)];exact r
   rcases hc with rfl | hc
   ·exact hbe
   ·rintro rfl
    rcases he with z | z
    ·exact nown c b hc z
    ·rw[hc]at z;cases z;exact hb rfl
end
structure Un (fs ex:List Addr) (H H':Hp) (h h':Heap):Prop where
 keep:∀b o,h.get? b=some o->H b=none->b∉fs->b∉ex->h'.get? b=some o
 slot:∀b o,h.get? b=some o->H b=none->b∈fs->b∉ex->∃sl,h'.get? b=some { o with slots:=sl }
 free:∀b o,h.get? b=some o->H b=none->b∉ex->H' b=none
 there:∀b o,h.get? b=some o->b∉ex->∃o',h'.get? b=some o'
 tups:∀b xs,H b=some (.tup xs)->H' b=some (.tup xs)
 frzs:∀b o u,H b=some (.frz o u)->H' b=some (.frz o u)
 tbls:∀b ps,H b=some (.tbl ps)->∃more,H' b=some (.tbl (ps++more))
section
variable {fs fs' ex ex':List Addr}{H H1 H2:Hp}{h h1 h2 h':Heap}{a x e:Addr}{o:HO}
theorem Un.any (u:Un fs ex H H1 h h1){b:Addr}{ob:Obj}(q:h.get? b=some ob) (n:H b=none) (hx:b∉ex):∃sl,h1.get? b=some { ob with slots:=sl }:=by
 by_cases hb:b∈fs
 ·exact u.slot b ob q n hb hx
 ·exact⟨ob.slots,u.keep b ob q n hb hx⟩
theorem Un.kept (k:∀b u,h.get? b=some u->h'.get? b=some u):Un fs ex H H h h' :=
 ⟨λb ob q _ _ _=>k b ob q,λb ob q _ _ _=>⟨ob.slots,k b ob q⟩,λ_ _ _ n _=>n,λb ob q _=>⟨ob,k b ob q⟩,λ_ _ q=>q,λ_ _ _ q=>q,λ_ ps q=>⟨#[],by rw[q];simp⟩⟩
theorem Un.refl:Un fs ex H H h h:=Un.kept λ_ _ q=>q
theorem Un.laid (k:∀b u,h.get? b=some u->h'.get? b=some u) (hp:h.objs.size<=a) (hn:H a=none):Un fs ex H (upd H a o) h h' where
 keep:=λb u q _ _ _=>k b u q
 slot:=λb u q _ _ _=>⟨u.slots,k b u q⟩
 free:=λb u q n _=>by rw[zK (Nat.ne_of_lt (Nat.lt_of_lt_of_le (Heap.lt_size q) hp))];exact n
 there:=λb u q _=>⟨u,k b u q⟩
 tups:=λb xs q=>by rw[zK (zN q hn)];exact q
 frzs:=λb u xs q=>by rw[zK (zN q hn)];exact q
 tbls:=λb ps q=>⟨#[],by rw[zK (zN q hn),q];simp⟩
theorem Un.write (mu:Mut (H x)) (he:e=x\/H e=some (.own x)) (k:∀b u,b≠e->h.get? b=some u->h'.get? b=some u) (heo:∃u,h'.get? e=some u):Un fs ex H (upd H x o) h h':=by
 have hx:∀b,H b=none->b≠x:=λb n z=>by subst z;rw[n]at mu;exact mu
 have hb:∀b,H b=none->b≠e:=λb n z=>by
  subst z
  rcases he with r | r
  ·exact hx b n r
  ·rw[n]at r;cases r
 have hm:∀b u,H b=some u->¬Mut (some u)->b≠x:=λb u q nm z=>by subst z;rw[q]at mu;exact nm mu
 refine⟨λb u q n _ _=>k b u (hb b n) q,λb u q n _ _=>⟨u.slots,k b u (hb b n) q⟩,λb u q n _=>by rw[zK (hx b n)];exact n,λb u q _=>?_,
  λb xs q=>by rw[zK (hm b _ q λz=>z)];exact q,λb u xs q=>by rw[zK (hm b _ q λz=>z)];exact q,λb ps q=>⟨#[],by rw[zK (hm b _ q λz=>z),q];simp⟩⟩
 by_cases hbe:b=e
 ·subst hbe;exact heo
 ·exact⟨u,k b u hbe q⟩
end
def trk (h:Heap) (H:Hp):List Addr:=(List.range h.objs.size).filter λa=>(H a).isSome
def XC (h:Heap) (H:Hp):Heap:=PySem.W.hideAll h (trk h H)
theorem V1 (h:Heap) (H:Hp):(XC h H).objs.size=h.objs.size:=PySem.W.hideAll_size _ _
theorem JR {h:Heap}{H:Hp}{b:Addr}{o:Obj}(e:h.get? b=some o) (n:H b=none):(XC h H).get? b=some o :=
 PySem.W.hideAll_get _ e λhm=>by
  have q:(H b).isSome=true:=(List.mem_filter.mp hm).2
  rw[n]at q;simp at q
theorem zbk {h:Heap}{H:Hp}{b:Addr}{o:Obj}(e:(XC h H).get? b=some o):h.get? b=some o/\H b=none:=by
 have e':h.get? b=some o:=PySem.W.of_hideAll (trk h H) e
 refine⟨e',?_⟩
 cases q:H b with
 | none=>rfl
 | some x =>
  have hm:b∈trk h H:=List.mem_filter.mpr ⟨List.mem_range.mpr (Heap.lt_size e'),by simp[q]⟩
  have z:(XC h H).get? b=none:=PySem.W.hideAll_none (trk h H) hm
  rw[z]at e;cases e
end L2
namespace L2
open PySem PySem.Spec PyProof.Rows
structure Mod (K:PySem.W.Frag) (mg:Str->Option Value) (base:Heap):Prop where
 kin:K.In base
 glob:base.Ns mainGlobals mg
 blt:∃mb,base.Ns builtinsNs mb/\∀x:Str,x≠"__name__"->mb x=bootBuiltins x
 nolimit:base.NoLimit
structure Cx where
 prog:Program
 w:World
 K:PySem.W.Frag
 mg:Str->Option Value
 base:Heap
 A:Around
 N:List Str
 s₀:Shared
 H₀:Hp
 env:Env
 outer:List Env
 stack:List Env
 ex:List Addr
 fn:Str->Bool
 calm:Bool
 pn:List (Addr×Obj)
 xe:Value->Shared->Prop
def frs (l:List Env):List Addr:=l.filterMap (·.frame)
abbrev Cx.fs (X:Cx):List Addr:=frs X.outer
def Vis (sc:Scope) (x:Str):Prop:=sc.names.lookup x=some .local ∨ sc.names.lookup x=some .cell\/sc.names.lookup x=some .free
def Loc (sc:Scope) (x:Str):Prop:=sc.names.lookup x=some .local ∨ sc.names.lookup x=some .cell
def Look (env:Env) (h:Heap) (m:Str->Option Value) (x:Str) (u:Value):Prop :=
 (env.kindOf x=some .local ∧ m x=some u)\/((env.kindOf x=some .cell\/env.kindOf x=some .free)/\∃c,env.cells.lookup x=some c/\h.IsCell c (some u))
structure Cx.Ok (X:Cx):Prop where
 mod:Mod X.K X.mg X.base
 kind:X.env.scope.kind = .function
 glob:X.env.globals=mainGlobals
 blt:X.env.builtins=builtinsNs
 above:X.s₀.heap.objs.size<=X.env.locals
 inj:∀x y c,X.env.cells.lookup x=some c->X.env.cells.lookup y=some c->x=y
 has:∀x,(X.env.kindOf x=some .cell\/X.env.kindOf x=some .free)->∃c,X.env.cells.lookup x=some c
 cab:∀x c,X.fn x=true->X.env.cells.lookup x=some c->X.s₀.heap.objs.size<=c
 hd:X.calm=true->X.A.handled=none
 frames:X.A.frames=some X.stack
 stk:X.stack=X.outer\/(X.stack=X.env::X.outer/\X.env.frame=some X.env.locals)
 exf:∀b∈X.ex,b≠X.env.locals/\∀x c,X.env.cells.lookup x=some c->c≠b
 bs:∀b o,X.base.get? b=some o->X.s₀.heap.get? b=some o/\X.H₀ b=none
 bsz:X.base.objs.size<=X.s₀.heap.objs.size
 noex:∀b o,X.base.get? b=some o->b∉X.ex
 exfs:∀b∈X.ex,b∉X.fs
 funs:X.s₀.heap.FunFrames X.base X.outer
 frf:∀b∈X.fs,X.H₀ b=none
structure Inv (X:Cx) (pins:List (Addr×Obj)) (σ:List (Option V)) (H:Hp) (s:Shared):Prop where
 ok:X.Ok
 os:s.os=X.s₀.os
 bare:AllBare s.gens
 base:Un X.fs X.ex X.H₀ H X.s₀.heap s.heap
 loc:∃m,s.heap.Ns X.env.locals m/\∀(i:Nat) (x:Str) (v:V),X.N[i]? = some x->σ[i]? = some (some v)->Vis X.env.scope x->∃u,xj v u/\Look X.env s.heap m x u
 cell:∀x c,X.env.cells.lookup x=some c->∃v,s.heap.IsCell c v
 free:H X.env.locals=none
 freeC:∀x c,X.env.cells.lookup x=some c->H c=none
 pin:∀p∈X.pn++pins,s.heap.get? p.1=some p.2/\H p.1=none/\p.1≠X.env.locals/\p.1∉X.fs/\∀v,p.2.data≠.cell v
 hok:HOk X.prog X.w H s.heap
 len:σ.length=X.N.length
section
variable {X:Cx}{pins:List (Addr×Obj)}{σ:List (Option V)}{H H':Hp}{s:Shared}{h':Heap}
theorem Cx.Ok.nofr (ok:X.Ok){b:Addr}{o:Obj}(e:X.base.get? b=some o):b∉X.fs:=λhb=>by
 have:=(ok.funs.mem hb).1
 rw[e]at this;cases this
theorem Inv.bs (I:Inv X pins σ H s):∀b o,X.base.get? b=some o->s.heap.get? b=some o/\H b=none:=λb o e =>
 ⟨I.base.keep b o (I.ok.bs b o e).1 (I.ok.bs b o e).2 (I.ok.nofr e) (I.ok.noex b o e),I.base.free b o (I.ok.bs b o e).1 (I.ok.bs b o e).2 (I.ok.noex b o e)⟩
theorem Inv.bk (I:Inv X pins σ H s):∀b o,X.base.get? b=some o->s.heap.get? b=some o:=λb o e=>(I.bs b o e).1
theorem Inv.mod (I:Inv X pins σ H s):Mod X.K X.mg X.base:=I.ok.mod
theorem Inv.kIn (I:Inv X pins σ H s):X.K.In s.heap:=I.ok.mod.kin.keeps I.bk
theorem Inv.lt (I:Inv X pins σ H s):X.env.locals<s.heap.objs.size:=let ⟨_,hn,_⟩:=I.loc;hn.lt
theorem Inv.sz (I:Inv X pins σ H s):X.s₀.heap.objs.size<=s.heap.objs.size:=Nat.le_trans I.ok.above (Nat.le_of_lt I.lt)
theorem Inv.nofs (I:Inv X pins σ H s){a:Addr}(h:s.heap.objs.size<=a):a∉X.fs:=λhb=>by
 obtain⟨_,o,ho,_⟩:=I.ok.funs.mem hb
 exact absurd (Nat.lt_of_lt_of_le (Heap.lt_size ho) (Nat.le_trans I.sz h)) (Nat.lt_irrefl _)
theorem Inv.cne (I:Inv X pins σ H s):∀x c,X.env.cells.lookup x=some c->c≠X.env.locals:=λx c e z=>by
 obtain⟨v,o,ho,hd⟩:=I.cell x c e
 obtain⟨m,⟨o',es,ep,ho',hd',_⟩,_⟩:=I.loc
 rw[z,ho']at ho;cases ho;rw[hd']at hd;cases hd
theorem Inv.funs (I:Inv X pins σ H s):s.heap.FunFrames X.base X.outer:=by
 have all:∀(l:List Env),(∀b∈frs l,b∈X.fs)->X.s₀.heap.FunFrames X.base l->s.heap.FunFrames X.base l:=by
  intro l
  induction l with
  | nil=>intro _ _;trivial
  | cons env r ih =>
   intro hs hl
   obtain⟨hk,⟨L,o,hf,hn,ho,hd⟩,hr⟩:=hl
   have hL:L∈X.fs:=hs L (by unfold frs;rw[List.filterMap_cons,hf];exact List.mem_cons_self)
   obtain⟨sl,e⟩:=I.base.slot L o ho (I.ok.frf L hL) hL λz=>I.ok.exfs L z hL
   exact⟨hk,⟨L,_,hf,hn,e,hd⟩,ih (λb hb=>hs b (by unfold frs;rw[List.filterMap_cons,hf];exact List.mem_cons_of_mem _ hb)) hr⟩
 exact all X.outer (λ_ hb=>hb) I.ok.funs
theorem Inv.stack (I:Inv X pins σ H s):s.heap.FunFrames X.base X.stack:=by
 rcases I.ok.stk with e | ⟨e,hf⟩
 ·rw[e];exact I.funs
 ·rw[e]
  obtain⟨m,hn,_⟩:=I.loc
  refine .cons (by rw[I.ok.kind];decide) hf hn ?_ I.funs
  exact Heap.get?_none_of_le (Nat.le_trans I.ok.bsz I.ok.above)
theorem Inv.stkSub (I:Inv X pins σ H s):∀b∈frs X.stack,b∈X.env.locals::X.fs:=λb hb=>by
 rcases I.ok.stk with e | ⟨e,hf⟩
 ·rw[e]at hb;exact List.mem_cons_of_mem _ hb
 ·rw[e]at hb
  unfold frs at hb
  rw[List.filterMap_cons,hf]at hb
  exact hb
theorem Inv.stkFree (I:Inv X pins σ H s):∀b∈frs X.stack,H b=none:=λb hb=>by
 rcases List.mem_cons.mp (I.stkSub b hb)with e | hb
 ·rw[e];exact I.free
 ·obtain⟨_,o,ho,_⟩:=I.ok.funs.mem hb
  exact I.base.free b o ho (I.ok.frf b hb) λz=>I.ok.exfs b z hb
theorem Inv.step {g':Array GenState}{t':Nat}{d':Drawn}{ch:List Addr}(I:Inv X pins σ H s)
  (hch:∀b∈ch,(b∈X.ex\/X.s₀.heap.objs.size<=b)/\b≠X.env.locals/\(∀x c,X.env.cells.lookup x=some c->c≠b)/\∀p∈X.pn++pins,p.1≠b)
  (keep:∀b o,b≠X.env.locals->b∉X.fs->b∉ch->s.heap.get? b=some o->H b=none->h'.get? b=some o)
  (slot:∀b o,b≠X.env.locals->b∈X.fs->b∉ch->s.heap.get? b=some o->H b=none->∃sl,h'.get? b=some { o with slots:=sl }) (free:∀b o,b∉ch->s.heap.get? b=some o->H b=none->H' b=none)
  (there:∀b o,b∉ch->s.heap.get? b=some o->∃o',h'.get? b=some o')
  (tups:∀b xs,H b=some (.tup xs)->H' b=some (.tup xs)) (frzs:∀b o u,H b=some (.frz o u)->H' b=some (.frz o u)) (tbls:∀b ps,H b=some (.tbl ps)->∃more,H' b=some (.tbl (ps++more)))
  (ns:∀m,s.heap.Ns X.env.locals m->h'.Ns X.env.locals m) (hok:HOk X.prog X.w H' h') (hg:AllBare g') :
  Inv X pins σ H' { s with heap:=h',gens:=g',drawn:=d',toks:=t' }:=by
 have neL:∀b o,X.s₀.heap.get? b=some o->b≠X.env.locals:=λb o e=>Nat.ne_of_lt (Nat.lt_of_lt_of_le (Heap.lt_size e) I.ok.above)
 have neC:∀b o,X.s₀.heap.get? b=some o->b∉X.ex->b∉ch:=λb o e hx hb=>by
  rcases(hch b hb).1 with z | z
  ·exact hx z
  ·exact absurd (Nat.lt_of_lt_of_le (Heap.lt_size e) z) (Nat.lt_irrefl _)
 have cellK:∀x c,X.env.cells.lookup x=some c->∀v,s.heap.IsCell c v->h'.IsCell c v:=λx c e v ⟨o,ho,hd⟩=>by
  have nch:c∉ch:=λz=>(hch c z).2.2.1 x c e rfl
  by_cases hc:c∈X.fs
  ·obtain⟨sl,q⟩:=slot c o (I.cne x c e) hc nch ho (I.freeC x c e)
   exact⟨_,q,hd⟩
  ·exact⟨o,keep c o (I.cne x c e) hc nch ho (I.freeC x c e),hd⟩
 refine⟨I.ok,I.os,hg,⟨λb o e n hb hx=>?_,λb o e n hb hx=>?_,λb o e n hx=>?_,λb o e hx=>?_,λb xs e=>tups b xs (I.base.tups b xs e),λb o xs e=>frzs b o xs (I.base.frzs b o xs e),λb ps e=>?_⟩,?_,λx c e=>?_,?_,λx c e=>?_,λp hp=>?_,hok,I.len⟩
 ·exact keep b o (neL b o e) hb (neC b o e hx) (I.base.keep b o e n hb hx) (I.base.free b o e n hx)
 ·obtain⟨sl,e1⟩:=I.base.slot b o e n hb hx
  obtain⟨sl',e2⟩:=slot b _ (neL b o e) hb (neC b o e hx) e1 (I.base.free b o e n hx)
  exact⟨sl',e2⟩
 ·obtain⟨o',e1⟩:=I.base.there b o e hx
  exact free b o' (neC b o e hx) e1 (I.base.free b o e n hx)
 ·obtain⟨o',e1⟩:=I.base.there b o e hx
  exact there b o' (neC b o e hx) e1
 ·obtain⟨m1,e1⟩:=I.base.tbls b ps e
  obtain⟨m2,e2⟩:=tbls b _ e1
  exact⟨m1++m2,by rw[e2,Array.append_assoc]⟩
 ·obtain⟨m,hn,hl⟩:=I.loc
  refine⟨m,ns m hn,λi x v e1 e2 e3=>?_⟩
  obtain⟨u,r,l⟩:=hl i x v e1 e2 e3
  refine⟨u,r,?_⟩
  rcases l with l | ⟨k,c,e,z⟩
  ·exact .inl l
  ·exact .inr ⟨k,c,e,cellK x c e _ z⟩
 ·obtain⟨v,z⟩:=I.cell x c e
  exact⟨v,cellK x c e v z⟩
 ·obtain⟨m,⟨o,_,_,ho,_⟩,_⟩:=I.loc
  exact free _ o (λz=>(hch _ z).2.1 rfl) ho I.free
 ·obtain⟨v,o,ho,hd⟩:=I.cell x c e
  exact free c o (λz=>(hch c z).2.2.1 x c e rfl) ho (I.freeC x c e)
 ·obtain⟨e,n,ne,nf,d⟩:=I.pin p hp
  have nch:p.1∉ch:=λz=>(hch p.1 z).2.2.2 p hp rfl
  exact⟨keep p.1 p.2 ne nf nch e n,free p.1 p.2 nch e n,ne,nf,d⟩
theorem Inv.un {t':Nat}(I:Inv X pins σ H s) (u:Un X.fs [] H H' s.heap h') (hok:HOk X.prog X.w H' h'):Inv X pins σ H' { s with heap:=h',toks:=t' }:=by
 obtain⟨m,⟨o,es,ep,ho,r⟩,_⟩:=id I.loc
 obtain⟨sl,hL⟩:=u.any ho I.free (by simp)
 exact I.step (g':=s.gens) (d':=s.drawn) (ch:=[]) (λ_ z=>nomatch z) (λb o _ hb _ e n=>u.keep b o e n hb (by simp)) (λb o _ hb _ e n=>u.slot b o e n hb (by simp)) (λb o _ e n=>u.free b o e n (by simp)) (λb o _ e=>u.there b o e (by simp)) u.tups u.frzs u.tbls (λm' hm=>by
  obtain⟨o',es',ep',ho',r'⟩:=hm
  rw[ho]at ho';cases ho'
  exact⟨_,es',ep',hL,r'⟩) hok I.bare
theorem Inv.call {g':Array GenState}{t':Nat}{d':Drawn}{ch:List Addr}(I:Inv X pins σ H s) (u:Un (frs X.stack) ch H H' s.heap h') (hok:HOk X.prog X.w H' h') (hg:AllBare g')
  (hch:∀b∈ch,(b∈X.ex\/X.s₀.heap.objs.size<=b)/\b≠X.env.locals/\(∀x c,X.env.cells.lookup x=some c->c≠b)/\∀p∈X.pn++pins,p.1≠b) :
  Inv X pins σ H' { s with heap:=h',gens:=g',drawn:=d',toks:=t' }:=by
 obtain⟨m,⟨o,es,ep,ho,r⟩,_⟩:=id I.loc
 obtain⟨sl,hL⟩:=u.any ho I.free λz=>(hch _ z).2.1 rfl
 exact I.step (ch:=ch) hch (λb o hL hb hc e n=>u.keep b o e n (λz=>(List.mem_cons.mp (I.stkSub b z)).elim hL hb) hc) (λb o _ _ hc e n=>u.any e n hc) (λb o hc e n=>u.free b o e n hc) (λb o hc e=>u.there b o e hc) u.tups u.frzs u.tbls (λm' hm=>by
  obtain⟨o',es',ep',ho',r'⟩:=hm
  rw[ho]at ho';cases ho'
  exact⟨_,es',ep',hL,r'⟩) hok hg
theorem Inv.turned {t':Nat}{it:Addr}(I:Inv X pins σ H s) (k:∀b o,b≠it->s.heap.get? b=some o->h'.get? b=some o) (hn:H it=none) (hL:it≠X.env.locals)
  (h1:it∈X.ex\/X.s₀.heap.objs.size<=it) (h2:∀x c,X.env.cells.lookup x=some c->c≠it) (h3:∀p∈X.pn++pins,p.1≠it):Inv X pins σ H { s with heap:=h',toks:=t' }:=by
 have nit:∀b u,H b=some u->b≠it:=λb u e z=>by rw[z,hn]at e;cases e
 refine I.step (g':=s.gens) (d':=s.drawn) (ch:=[it]) (λb hb=>?_) (λb o _ _ hc e _=>k b o (λz=>hc (by simp[z])) e) (λb o _ _ hc e _=>⟨o.slots,k b o (λz=>hc (by simp[z])) e⟩) (λ_ _ _ _ n=>n)
  (λb o hc e=>⟨o,k b o (λz=>hc (by simp[z])) e⟩) (λ_ _ e=>e) (λ_ _ _ e=>e) (λb ps e=>⟨#[],by rw[e];simp⟩) (λm hm=>?_) (λb u e=>?_) I.bare
 ·have e:b=it:=by simpa using hb
  subst e
  exact⟨h1,hL,h2,h3⟩
 ·obtain⟨o,es,ep,ho,r⟩:=hm
  exact⟨o,es,ep,k _ o (Ne.symm hL) ho,r⟩
 ·refine(I.hok b u e).stay (λc v hc q=>k c v ?_ q) (λ_ q=>q) λ_ _ q=>q
  rcases hc with z | z
  ·rw[z];exact nit b u e
  ·exact nit c _ z
theorem Inv.tok (I:Inv X pins σ H s) (t:Nat):Inv X pins σ H { s with toks:=t }:=I.un (h':=s.heap) (t':=t) Un.refl I.hok
theorem Inv.kept {t':Nat}(I:Inv X pins σ H s) (k:∀b u,s.heap.get? b=some u->h'.get? b=some u):Inv X pins σ H { s with heap:=h',toks:=t' }:=I.un (Un.kept k) (I.hok.kept k)
theorem Inv.laid {a:Addr}{o:HO}{t':Nat}(I:Inv X pins σ H s) (k:∀b u,s.heap.get? b=some u->h'.get? b=some u) (hp:s.heap.objs.size<=a) (new:xU X.prog X.w (upd H a o) h' a o) :
  Inv X pins σ (upd H a o) { s with heap:=h',toks:=t' }:=I.un (Un.laid k hp (I.hok.fresh hp)) (I.hok.laid k hp new)
theorem Inv.write {x e:Addr}{o:HO}{t':Nat}(I:Inv X pins σ H s) (mu:Mut (H x)) (he:e=x\/H e=some (.own x)) (k:∀b u,b≠e->s.heap.get? b=some u->h'.get? b=some u) (heo:∃u,h'.get? e=some u)
  (new:xU X.prog X.w (upd H x o) h' x o):Inv X pins σ (upd H x o) { s with heap:=h',toks:=t' }:=I.un (Un.write mu he k heo) (I.hok.write mu he k heo new)
theorem Inv.pins_of {pins':List (Addr×Obj)} (I:Inv X pins σ H s) (h:∀p∈pins',s.heap.get? p.1=some p.2/\H p.1=none/\p.1≠X.env.locals/\p.1∉X.fs/\∀v,p.2.data≠.cell v):Inv X pins' σ H s :=
 ⟨I.ok,I.os,I.bare,I.base,I.loc,I.cell,I.free,I.freeC,λp hp=>(List.mem_append.mp hp).elim (λz=>I.pin p (List.mem_append_left _ z)) (h p),I.hok,I.len⟩
theorem Qr {N:List Str}(hN:N.Nodup){i j:Nat}{x:Str}(a:N[i]? = some x) (b:N[j]? = some x):i=j:=by
 obtain⟨h1,e1⟩:=List.getElem?_eq_some_iff.mp a
 obtain⟨h2,e2⟩:=List.getElem?_eq_some_iff.mp b
 exact(List.getElem_inj hN).mp (e1.trans e2.symm)
theorem Xq {M:Model}{A:Around}{E:Value->Shared->Prop}{i:Nat}{x:Str}{v:V}{u:Value}{Q:Unit->Shared->Prop}(I:Inv X pins σ H s) (hN:X.N.Nodup) (hi:X.N[i]? = some x) (hx:Loc X.env.scope x) (r:xj v u)
  (h:∀s',Inv X pins (σ.set i (some v)) H s'->(∃a,Heap.SameBut a s.heap s'.heap/\(a=X.env.locals\/X.env.cells.lookup x=some a))->Q () s') (hf:X.fn x=true\/X.env.scope.names.lookup x=some .local := by first | exact .inl rfl | exact .inr rfl | assumption):wpAny M A (storeName X.env x u) Q E s:=by
 obtain⟨m,hn,hl⟩:=id I.loc
 have hcls:(X.env.scope.kind == .class || (X.env.scope.kind == .module&&X.env.locals != X.env.globals))=false:=by rw[I.ok.kind];rfl
 have hiσ:i<σ.length:=by rw[I.len];exact(List.getElem?_eq_some_iff.mp hi).1
 have cne:=I.cne
 have tracked:∀{a:Addr}{h':Heap},(∃o,s.heap.get? a=some o/\H a=none)->Heap.SameBut a s.heap h'->HOk X.prog X.w H h':=λ{a h'} ha hs b ob e=>by
  obtain⟨_,_,hfree⟩:=ha
  refine(I.hok b ob e).stay (λc w' hc q=>(hs.2 c ?_).trans q) (λ_ q=>q) λ_ _ q=>q
  rintro rfl
  rcases hc with rfl | hc
  ·rw[hfree]at e;cases e
  ·rw[hfree]at hc;cases hc
 rcases hx with hk | hk
 ·refine wpAny_storeName_local hk hn (λh' hn' hs=>?_) hcls
  obtain⟨oL,_,_,hoL,_⟩:=id hn
  refine h _ ⟨I.ok,I.os,I.bare,⟨λb o e n hb hx=>?_,λb o e n hb hx=>?_,I.base.free,λb o e hx=>?_,I.base.tups,I.base.frzs,I.base.tbls⟩,⟨_,hn',λj y v' e1 e2 e3=>?_⟩,λy c e=>?_,I.free,I.freeC,λp hp=>?_,tracked ⟨oL,hoL,I.free⟩ hs,by simpa using I.len⟩ ⟨_,hs,.inl rfl⟩
  ·exact(hs.2 b (Nat.ne_of_lt (Nat.lt_of_lt_of_le (Heap.lt_size e) I.ok.above))).trans (I.base.keep b o e n hb hx)
  ·obtain⟨sl,e1⟩:=I.base.slot b o e n hb hx
   exact⟨sl,(hs.2 b (Nat.ne_of_lt (Nat.lt_of_lt_of_le (Heap.lt_size e) I.ok.above))).trans e1⟩
  ·obtain⟨o',e1⟩:=I.base.there b o e hx
   exact⟨o',(hs.2 b (Nat.ne_of_lt (Nat.lt_of_lt_of_le (Heap.lt_size e) I.ok.above))).trans e1⟩
  ·by_cases hj:j=i
   ·subst hj
    rw[hi]at e1;cases e1
    rw[List.getElem?_set_self hiσ]at e2
    cases e2
    exact⟨u,r,.inl ⟨hk,by simp⟩⟩
   ·rw[List.getElem?_set_ne (Ne.symm hj)]at e2
    obtain⟨u',r',q⟩:=hl j y v' e1 e2 e3
    refine⟨u',r',?_⟩
    rcases q with⟨k,e⟩ | ⟨k,c,e,z⟩
    ·refine .inl ⟨k,?_⟩
     have:y≠x:=λe=>hj (Qr hN e1 (e ▸ hi))
     simp[this,e]
    ·exact .inr ⟨k,c,e,z.sameBut hs (cne y c e)⟩
  ·obtain⟨w',z⟩:=I.cell y c e
   exact⟨w',z.sameBut hs (cne y c e)⟩
  ·obtain⟨e,n,ne,nf,d⟩:=I.pin p hp
   exact⟨(hs.2 p.1 ne).trans e,n,ne,nf,d⟩
 ·have hfn:X.fn x=true:=by
   rcases hf with z | z
   ·exact z
   ·rw[z]at hk;cases hk
  obtain⟨c,hc⟩:=I.ok.has x (.inl hk)
  obtain⟨w',z⟩:=I.cell x c hc
  refine wpAny_storeName_cell I.ok.kind hk hc z (λh' hc' hs=>?_)
  obtain⟨oc,hoc,hocd⟩:=id z
  refine h { s with heap:=h' } ⟨I.ok,I.os,I.bare,⟨λb o e n hb hx=>?_,λb o e n hb hx=>?_,I.base.free,λb o e hx=>?_,I.base.tups,I.base.frzs,I.base.tbls⟩,⟨m,hn.sameBut hs (Ne.symm (cne x c hc)),λj y v' e1 e2 e3=>?_⟩,λy c' e=>?_,I.free,I.freeC,λp hp=>?_,tracked ⟨oc,hoc,I.freeC x c hc⟩ hs,by simpa using I.len⟩ ⟨c,hs,.inr hc⟩
  ·exact(hs.2 b (Nat.ne_of_lt (Nat.lt_of_lt_of_le (Heap.lt_size e) (I.ok.cab x c hfn hc)))).trans (I.base.keep b o e n hb hx)
  ·obtain⟨sl,e1⟩:=I.base.slot b o e n hb hx
   exact⟨sl,(hs.2 b (Nat.ne_of_lt (Nat.lt_of_lt_of_le (Heap.lt_size e) (I.ok.cab x c hfn hc)))).trans e1⟩
  ·obtain⟨o',e1⟩:=I.base.there b o e hx
   exact⟨o',(hs.2 b (Nat.ne_of_lt (Nat.lt_of_lt_of_le (Heap.lt_size e) (I.ok.cab x c hfn hc)))).trans e1⟩
  ·by_cases hj:j=i
   ·subst hj
    rw[hi]at e1;cases e1
    rw[List.getElem?_set_self hiσ]at e2
    cases e2
    exact⟨u,r,.inr ⟨.inl hk,c,hc,hc'⟩⟩
   ·rw[List.getElem?_set_ne (Ne.symm hj)]at e2
    obtain⟨u',r',q⟩:=hl j y v' e1 e2 e3
    refine⟨u',r',?_⟩
    rcases q with q | ⟨k,c',e,z'⟩
    ·exact .inl q
    ·refine .inr ⟨k,c',e,z'.sameBut hs ?_⟩
     rintro rfl
     exact hj (Qr hN e1 (I.ok.inj _ _ _ e hc ▸ hi))
  ·by_cases hcc:c'=c
   ·subst hcc;exact⟨_,hc'⟩
   ·obtain⟨w2,z2⟩:=I.cell y c' e
    exact⟨w2,z2.sameBut hs hcc⟩
  ·obtain⟨e,n,ne,nf,d⟩:=I.pin p hp
   refine⟨(hs.2 p.1 ?_).trans e,n,ne,nf,d⟩
   intro q
   rw[q,hoc]at e
   have q':oc=p.2:=Option.some.inj e
   exact d w' (by rw[<-q'];exact hocd)
theorem j0 {M:Model}{A:Around}{E:Value->Shared->Prop}{i:Nat}{x:Str}{v:V}{u:Value}{Q:Unit->Shared->Prop}(I:Inv X pins σ H s) (hN:X.N.Nodup) (hi:X.N[i]? = some x) (hx:Loc X.env.scope x) (r:xj v u)
  (h:∀s',Inv X pins (σ.set i (some v)) H s'->Q () s') (hf:X.fn x=true\/X.env.scope.names.lookup x=some .local := by first | exact .inl rfl | exact .inr rfl | assumption):wpAny M A (storeName X.env x u) Q E s :=
 Xq I hN hi hx r (λs' I' _=>h s' I') hf
theorem Inv.call' {s':Shared}{ch:List Addr}(I:Inv X pins σ H s) (ho:s'.os=s.os) (u:Un (frs X.stack) ch H H' s.heap s'.heap) (hok:HOk X.prog X.w H' s'.heap) (hg:AllBare s'.gens)
  (hch:∀b∈ch,(b∈X.ex\/X.s₀.heap.objs.size<=b)/\b≠X.env.locals/\(∀x c,X.env.cells.lookup x=some c->c≠b)/\∀p∈X.pn++pins,p.1≠b):Inv X pins σ H' s':=by
 obtain⟨h',g',d',t',o'⟩:=s'
 have e:o'=s.os:=ho
 subst e
 exact I.call (g':=g') (t':=t') (d':=d') u hok hg hch
end
abbrev XK:=Value->Option Addr->Hp->Prop
abbrev St:=List (Option V)
abbrev VK:=V->Hp->Prop
abbrev TE:=St->Hp->VK->Prop
abbrev TT:=St->Hp->(Bool->Hp->Prop)->Prop
abbrev TA:=St->Hp->(List V->Hp->Prop)->Prop
structure jC where
 nx:St->Hp->Prop
 rt:VK
 bk:St->Hp->Prop:=λ_ _=>False
 ct:St->Hp->Prop:=λ_ _=>False
abbrev TS:=jC->St->Hp->Prop
def EP (X:Cx) (pins:List (Addr×Obj)) (σ:St) (Q:VK) (u:Value) (s':Shared):Prop:=∃v H',Inv X pins σ H' s'/\xj v u/\Q v H'
def TP (X:Cx) (pins:List (Addr×Obj)) (σ:St) (Q:Bool->Hp->Prop) (b:Bool) (s':Shared):Prop:=∃H',Inv X pins σ H' s'/\Q b H'
def AP (X:Cx) (pins:List (Addr×Obj)) (σ:St) (Q:List V->Hp->Prop) (us:List Value) (s':Shared):Prop:=∃vs H',Inv X pins σ H' s'/\zS vs us/\Q vs H'
def SP (X:Cx) (pins:List (Addr×Obj)) (D:jC) (f:Flow) (s':Shared):Prop :=
 match f with
 | .next=>∃σ' H',Inv X pins σ' H' s'/\D.nx σ' H'
 | .brk=>∃σ' H',Inv X pins σ' H' s'/\D.bk σ' H'
 | .cont=>∃σ' H',Inv X pins σ' H' s'/\D.ct σ' H'
 | .ret u=>∃v σ' H',Inv X pins σ' H' s'/\xj v u/\D.rt v H'
def PE (X:Cx) (e:Expr) (t:TE):Prop :=
 ∀(pins:List (Addr×Obj)) (s:Shared) (σ:St) (H:Hp) (Q:VK),Inv X pins σ H s->t σ H Q->wpAny (model X.prog X.w) X.A (eval e X.env) (EP X pins σ Q) X.xe s
def PT (X:Cx) (e:Expr) (t:TT):Prop :=
 ∀(pins:List (Addr×Obj)) (s:Shared) (σ:St) (H:Hp) (Q:Bool->Hp->Prop),Inv X pins σ H s->t σ H Q->wpAny (model X.prog X.w) X.A (isTrue e X.env (eval e X.env)) (TP X pins σ Q) X.xe s
def PW (X:Cx) (e:Expr) (t:TT):Prop :=
 ∀(whole:Sem Value) (pins:List (Addr×Obj)) (s:Shared) (σ:St) (H:Hp) (Q:Bool->Hp->Prop),Inv X pins σ H s->t σ H Q->wpAny (model X.prog X.w) X.A (isTrue e X.env whole) (TP X pins σ Q) X.xe s
theorem PW.pt {X:Cx}{e:Expr}{t:TT}(h:PW X e t):PT X e t:=h _
def PA (X:Cx) (es:List Expr) (t:TA):Prop :=
 ∀(pos:Pos) (pins:List (Addr×Obj)) (s:Shared) (σ:St) (H:Hp) (Q:List V->Hp->Prop),Inv X pins σ H s->t σ H Q->wpAny (model X.prog X.w) X.A (spliced (backTo pos (starEach es X.env))) (AP X pins σ Q) X.xe s
def PS (X:Cx) (st:Stmt) (t:TS):Prop :=
 ∀(pins:List (Addr×Obj)) (s:Shared) (σ:St) (H:Hp) (D:jC),Inv X pins σ H s->t D σ H->wpAny (model X.prog X.w) X.A (exec st X.env) (SP X pins D) X.xe s
def PSs (X:Cx) (st:List Stmt) (t:TS):Prop :=
 ∀(pins:List (Addr×Obj)) (s:Shared) (σ:St) (H:Hp) (D:jC),Inv X pins σ H s->t D σ H->wpAny (model X.prog X.w) X.A (execs st X.env) (SP X pins D) X.xe s
theorem thn {α:Type}{t:Sem α}{Q Q':α->Shared->Prop}{M:Model}{A:Around}{E:Value->Shared->Prop}{s:Shared}(h:wpAny M A t Q E s) (hQ:∀a s,Q a s->Q' a s):wpAny M A t Q' E s:=wpAny_mono h hQ λ_ _ x=>x
end L2
namespace L2
open PySem PySem.Spec PyProof.Rows
section
variable {X:Cx}
def z8 (i:Nat):TE:=λσ H Q=>∃v,σ[i]? = some (some v)/\Q v H
def tC (v:V):TE:=λ_ H Q=>Q v H
theorem zdn {i:Nat}{x:Str}{pos:Pos}(hN:X.N[i]? = some x) (hv:Vis X.env.scope x) (hd:(x == ("__debug__":Str))=false:=by decide) (hcd:(x == ("__classdict__":Str))=false:=by decide):PE X (.Name x pos) (z8 i):=by
 intro pins s σ H Q I h
 obtain⟨v,e,h⟩:=h
 obtain⟨m,hn,hl⟩:=I.loc
 obtain⟨u,r,l⟩:=hl i x v hN e hv
 have fin:EP X pins σ Q u s:=⟨v,H,I,r,h⟩
 rcases l with⟨hk,hm⟩ | ⟨hk,c,hc,hcell⟩
 ·exact wpAny_Name (wpAny_loadName_local I.ok.kind hk hn hm fin) hd
 ·rcases hk with hk | hk
  ·exact wpAny_Name (wpAny_loadName_cell I.ok.kind hk hc hcell fin) hd
  ·exact wpAny_Name (wpAny_loadName_free I.ok.kind hk hc hcell fin hcd) hd
theorem ze {i j pos}:PE X (.Constant (.int i) j pos) (tC (.int i)):=λ_ _ _ H _ I h=>wpAny_Constant_int ⟨.int i,H,I.tok _,⟨_,rfl⟩,h⟩
theorem jd {b j pos}:PE X (.Constant (.bool b) j pos) (tC (.bl b)):=λ_ _ _ H _ I h=>Constant_bool ⟨.bl b,H,I,rfl,h⟩
theorem xE {j pos}:PE X (.Constant .none j pos) (tC .non):=λ_ _ _ H _ I h=>Constant_none ⟨.non,H,I,rfl,h⟩
def Gl (X:Cx) (x:Str):Prop:=X.env.kindOf x=some .globalImplicit
theorem XG {E:Value->Shared->Prop}{pins:List (Addr×Obj)}{s:Shared}{σ:St}{H:Hp}{x:Str}{u:Value}{pos:Pos}{Q:Value->Shared->Prop}(I:Inv X pins σ H s) (hg:Gl X x) (hm:X.mg x=some u) (h:Q u s)
  (hd:(x == ("__debug__":Str))=false:=by decide):wpAny (model X.prog X.w) X.A (eval (.Name x pos) X.env) Q E s :=
 Calls.Name_function_global I.ok.kind hg (Calls.loadGlobal_global (by rw[I.ok.glob];exact I.mod.glob.keeps I.bk) hm h) hd
theorem ZL {E:Value->Shared->Prop}{pins:List (Addr×Obj)}{s:Shared}{σ:St}{H:Hp}{x:Str}{u:Value}{pos:Pos}{Q:Value->Shared->Prop}(I:Inv X pins σ H s) (hg:Gl X x) (hm:X.mg x=none) (hv:bootBuiltins x=some u) (h:Q u s)
  (hn:x≠"__name__":=by decide) (hd:(x == ("__debug__":Str))=false:=by decide):wpAny (model X.prog X.w) X.A (eval (.Name x pos) X.env) Q E s:=by
 obtain⟨mb,h1,h2⟩:=I.mod.blt
 exact Calls.Name_function_global I.ok.kind hg (Calls.loadGlobal_builtin (by rw[I.ok.glob];exact I.mod.glob.keeps I.bk) hm (by rw[I.ok.blt];exact h1.keeps I.bk) ((h2 x hn).trans hv) h) hd
theorem zbC {x:Str}{v:V}{u:Value}{pos:Pos}(hg:Gl X x) (hm:X.mg x=some u) (r:xj v u) (hd:(x == ("__debug__":Str))=false:=by decide):PE X (.Name x pos) (tC v) :=
 λ_ _ _ H _ I h=>XG I hg hm ⟨v,H,I,r,h⟩ hd
theorem ju {x:Str}{v:V}{u:Value}{pos:Pos}(hg:Gl X x) (hm:X.mg x=none) (hv:bootBuiltins x=some u) (r:xj v u) (hn:x≠"__name__":=by decide) (hd:(x == ("__debug__":Str))=false:=by decide):PE X (.Name x pos) (tC v) :=
 λ_ _ _ H _ I h=>ZL I hg hm hv ⟨v,H,I,r,h⟩ hn hd
variable {a b:Expr}{ta tb:TE}{pos:Pos}
variable {tA tB':TT}{rest:List Expr}
def tAnd (t u:TT):TT:=λσ H Q=>t σ H λc H1=>if c=true then u σ H1 Q else Q false H1
def tOr (t u:TT):TT:=λσ H Q=>t σ H λc H1=>if c=true then Q true H1 else u σ H1 Q
def tNot (t:TT):TT:=λσ H Q=>t σ H λc H1=>Q (!c) H1
theorem qu (ha:PT X a tA):PW X (.BoolOp .And [a] pos) tA:=by
 intro wh pins s σ H Q I h
 refine isTrue_and (thn (ha pins s σ H Q I h) λc s1 e=>?_)
 cases c with
 | true=>exact isTrue_and_nil e
 | false=>exact e
theorem v8 (ha:PT X a tA):PW X (.BoolOp .Or [a] pos) tA:=by
 intro wh pins s σ H Q I h
 refine isTrue_or (thn (ha pins s σ H Q I h) λc s1 e=>?_)
 cases c with
 | false=>exact isTrue_or_nil e
 | true=>exact e
theorem vy (ha:PT X a tA) (hb:PW X (.BoolOp .And (b::rest) pos) tB'):PW X (.BoolOp .And (a::b::rest) pos) (tAnd tA tB'):=by
 intro wh pins s σ H Q I h
 refine isTrue_and (thn (ha pins s σ H _ I h) λc s1 ⟨H1,I1,q1⟩=>?_)
 cases c with
 | true=>exact hb wh pins s1 σ H1 Q I1 q1
 | false=>exact⟨H1,I1,q1⟩
theorem vS (ha:PT X a tA) (hb:PW X (.BoolOp .Or (b::rest) pos) tB'):PW X (.BoolOp .Or (a::b::rest) pos) (tOr tA tB'):=by
 intro wh pins s σ H Q I h
 refine isTrue_or (thn (ha pins s σ H _ I h) λc s1 ⟨H1,I1,q1⟩=>?_)
 cases c with
 | true=>exact⟨H1,I1,q1⟩
 | false=>exact hb wh pins s1 σ H1 Q I1 q1
theorem qt (ha:PT X a tA):PT X (.UnaryOp .Not a pos) (tNot tA):=by
 intro pins s σ H Q I h
 exact isTrue_not (ha pins s σ H (λc H1=>Q (!c) H1) I h)
def zeP (ta tb:TE):TE:=λσ H Q=>ta σ H λx H1=>∃c,x = .bl c/\if c=true then tb σ H1 Q else Q (.bl false) H1
def zdH (ta tb:TE):TE:=λσ H Q=>ta σ H λx H1=>∃c,x = .bl c/\if c=true then Q (.bl true) H1 else tb σ H1 Q
def zeU (ta:TE):TE:=λσ H Q=>ta σ H λx H1=>∃c,x = .bl c/\Q (.bl (!c)) H1
theorem vw {op}{t:TE}(h:PE X a t):PE X (.BoolOp op [a] pos) t:=λpins s σ H Q I hw=>BoolOp_one (h pins s σ H Q I hw)
theorem qg (ha:PE X a ta) (hb:PE X (.BoolOp .And (b::rest) pos) tb):PE X (.BoolOp .And (a::b::rest) pos) (zeP ta tb):=by
 intro pins s σ H Q I h
 refine BoolOp_and (thn (ha pins s σ H _ I h) λv s1 ⟨x,H1,I1,r1,q1⟩=>?_)
 obtain⟨c,rfl,q1⟩:=q1
 cases r1
 refine wpAny_truthy_bool ?_
 cases c with
 | true=>exact hb pins s1 σ H1 Q I1 q1
 | false=>exact⟨.bl false,H1,I1,rfl,q1⟩
theorem zej (ha:PE X a ta) (hb:PE X (.BoolOp .Or (b::rest) pos) tb):PE X (.BoolOp .Or (a::b::rest) pos) (zdH ta tb):=by
 intro pins s σ H Q I h
 refine BoolOp_or (thn (ha pins s σ H _ I h) λv s1 ⟨x,H1,I1,r1,q1⟩=>?_)
 obtain⟨c,rfl,q1⟩:=q1
 cases r1
 refine wpAny_truthy_bool ?_
 cases c with
 | false=>exact hb pins s1 σ H1 Q I1 q1
 | true=>exact⟨.bl true,H1,I1,rfl,q1⟩
theorem Q7 (ha:PE X a ta):PE X (.UnaryOp .Not a pos) (zeU ta):=by
 intro pins s σ H Q I h
 refine UnaryOp_ (thn (ha pins s σ H _ I h) λv s1 ⟨x,H1,I1,r1,q1⟩=>?_)
 obtain⟨c,rfl,q1⟩:=q1
 cases r1
 exact not_of (wpAny_truthy_bool ⟨.bl (!c),H1,I1,rfl,q1⟩)
def tIf (t:TT) (ta tb:TE):TE:=λσ H Q=>t σ H λc H1=>if c=true then ta σ H1 Q else tb σ H1 Q
theorem jW {c:Expr}(hc:PT X c tA) (ha:PE X a ta) (hb:PE X b tb):PE X (.IfExp c a b pos) (tIf tA ta tb):=by
 intro pins s σ H Q I h
 refine wpAny_IfExp (thn (hc pins s σ H _ I h) λd s1 ⟨H1,I1,q1⟩=>?_)
 cases d with
 | true=>exact ha pins s1 σ H1 Q I1 q1
 | false=>exact hb pins s1 σ H1 Q I1 q1
end
end L2
namespace L2
open PySem PySem.Spec PyProof.Rows
def SqL (K:PySem.W.Frag) (H:Hp) (a:Addr) (xs:List V):Prop :=
 Rd H a (.lst xs) ∨
  ∃(o:Obj) (its:Array Value) (n:Nat),K.lookup a=some o/\o.cls = .type "list"/\o.dict=none/\o.data = .seq its n/\its.size<=sizeLine/\zS xs its.toList
def SqT (K:PySem.W.Frag) (H:Hp) (a:Addr) (xs:List V):Prop :=
 Rd H a (.tup xs) ∨
  ∃(o:Obj) (its:Array Value) (n:Nat),K.lookup a=some o/\o.cls = .type "tuple"/\o.data = .seq its n/\its.size<=sizeLine/\zS xs its.toList
def absV:Value->Option V
 | .none=>some .non
 | .bool b=>some (.bl b)
 | .int i _=>some (.int i)
 | .str x _=>some (.str x)
 | .bytes b _=>some (.byt b)
 | .float b _=>some (.flt b)
 | .ref a=>some (.ref a)
 | .type n=>some (.ty n)
 | _=>none
theorem xj.abs {x:V}{u:Value}(r:xj x u):absV u=some x:=by
 cases x with
 | non=>cases r;rfl
 | bl _=>cases r;rfl
 | int _=>obtain⟨t,rfl⟩:=r;rfl
 | str _=>obtain⟨t,rfl⟩:=r;rfl
 | byt _=>obtain⟨t,rfl⟩:=r;rfl
 | flt _=>obtain⟨t,rfl⟩:=r;rfl
 | ref _=>cases r;rfl
 | ty _=>cases r;rfl
theorem xj.inj {x y:V}{u:Value}(r:xj x u) (q:xj y u):x=y:=Option.some.inj (r.abs.symm.trans q.abs)
theorem zS.inj:∀{xs ys:List V}{us:List Value},zS xs us->zS ys us->xs=ys
 | _,_,_,.nil,.nil=>rfl
 | _,_,_,.cons r t,.cons r' t'=>by rw[r.inj r',zS.inj t t']
section
variable {X:Cx}{pins:List (Addr×Obj)}{σ:St}{H:Hp}{s:Shared}{a:Addr}{xs ys:List V}
theorem SqL.of {K:PySem.W.Frag}(h:H a=some (.lst xs)):SqL K H a xs:=.inl (.inl h)
theorem SqT.of {K:PySem.W.Frag}(h:H a=some (.tup xs)):SqT K H a xs:=.inl (.inl h)
theorem Inv.list (I:Inv X pins σ H s) (h:SqL X.K H a xs):∃its:List Value,zS xs its/\PlainL s.heap a its.toArray/\xs.length<=sizeLine:=by
 rcases h with h | ⟨o,its,n,hk,hc,hd,hs,hz,r⟩
 ·obtain⟨z,its,n,r,e⟩:=h.ok I.hok
  exact⟨its,r,⟨_,n,e,rfl,rfl,rfl⟩,z⟩
 ·refine⟨its.toList,r,⟨o,n,I.kIn a o hk,hc,hd,by simpa using hs⟩,?_⟩
  have e:=r.length
  simp only[Array.length_toList]at e
  omega
theorem Inv.tuple (I:Inv X pins σ H s) (h:SqT X.K H a xs):∃its:List Value,zS xs its/\IsTup s.heap a its.toArray/\xs.length<=sizeLine:=by
 rcases h with h | ⟨o,its,n,hk,hc,hs,hz,r⟩
 ·obtain⟨z,its,r,p⟩:=h.ok I.hok
  exact⟨its,r,p,z⟩
 ·refine⟨its.toList,r,⟨o,I.kIn a o hk,hc,n,by simpa using hs⟩,?_⟩
  have e:=r.length
  simp only[Array.length_toList]at e
  omega
theorem Inv.list_inj (I:Inv X pins σ H s) (h:SqL X.K H a xs) (h':SqL X.K H a ys):xs=ys:=by
 obtain⟨its,r,⟨o,n,e,_,_,d⟩,_⟩:=I.list h
 obtain⟨its',r',⟨o',n',e',_,_,d'⟩,_⟩:=I.list h'
 rw[e]at e';cases e'
 rw[d]at d'
 injection d' with d1 _
 have:its=its':=by simpa using congrArg Array.toList d1
 subst this
 exact r.inj r'
theorem Inv.tuple_inj (I:Inv X pins σ H s) (h:SqT X.K H a xs) (h':SqT X.K H a ys):xs=ys:=by
 obtain⟨its,r,⟨o,e,_,n,d⟩,_⟩:=I.tuple h
 obtain⟨its',r',⟨o',e',_,n',d'⟩,_⟩:=I.tuple h'
 rw[e]at e';cases e'
 rw[d]at d'
 injection d' with d1 _
 have:its=its':=by simpa using congrArg Array.toList d1
 subst this
 exact r.inj r'
end
abbrev Cx.wish (X:Cx) (E:Value->Shared->Prop):Cx:={ X with xe:=E }
abbrev Cx.nox (X:Cx):Cx:=X.wish λ_ _=>False
theorem Cx.Ok.wish {X:Cx}(ok:X.Ok) (E:Value->Shared->Prop):(X.wish E).Ok :=
 ⟨ok.mod,ok.kind,ok.glob,ok.blt,ok.above,ok.inj,ok.has,ok.cab,ok.hd,ok.frames,ok.stk,ok.exf,ok.bs,ok.bsz,ok.noex,ok.exfs,ok.funs,ok.frf⟩
theorem Cx.Ok.unwish {X:Cx}{E:Value->Shared->Prop}(ok:(X.wish E).Ok):X.Ok :=
 ⟨ok.mod,ok.kind,ok.glob,ok.blt,ok.above,ok.inj,ok.has,ok.cab,ok.hd,ok.frames,ok.stk,ok.exf,ok.bs,ok.bsz,ok.noex,ok.exfs,ok.funs,ok.frf⟩
section
variable {X:Cx}{pins:List (Addr×Obj)}{σ:St}{H:Hp}{s:Shared}{E:Value->Shared->Prop}
theorem Inv.wish (I:Inv X pins σ H s) (E:Value->Shared->Prop):Inv (X.wish E) pins σ H s:=⟨I.ok.wish E,I.os,I.bare,I.base,I.loc,I.cell,I.free,I.freeC,I.pin,I.hok,I.len⟩
theorem Inv.unwish (I:Inv (X.wish E) pins σ H s):Inv X pins σ H s:=⟨I.ok.unwish,I.os,I.bare,I.base,I.loc,I.cell,I.free,I.freeC,I.pin,I.hok,I.len⟩
theorem SP.unwish {D:jC}{f:Flow}{s':Shared}(h:SP (X.wish E) pins D f s'):SP X pins D f s':=by
 cases f with
 | next=>obtain⟨σ',H',I,q⟩:=h;exact⟨σ',H',I.unwish,q⟩
 | brk=>obtain⟨σ',H',I,q⟩:=h;exact⟨σ',H',I.unwish,q⟩
 | cont=>obtain⟨σ',H',I,q⟩:=h;exact⟨σ',H',I.unwish,q⟩
 | ret u=>obtain⟨v,σ',H',I,r,q⟩:=h;exact⟨v,σ',H',I.unwish,r,q⟩
theorem PSs.nox {st:List Stmt}{t:TS}(h:PSs X.nox st t):PSs X st t:=λpins s σ H D I hw =>
 wpAny_mono (h pins s σ H D (I.wish _) hw) (λ_ _ q=>q.unwish) λ_ _ z=>False.elim z
end
section
variable {X:Cx}{st:Stmt}{rest:List Stmt}{t u:TS}{e:Expr}{te:TE}{pos:Pos}
def zcx:TS:=λD σ H=>D.nx σ H
def Jl (t u:TS):TS:=λD σ H=>t { D with nx:=u D } σ H
theorem zO:PSs X [] zcx:=λ_ _ σ H _ I h=>wpAny_execs_nil ⟨σ,H,I,h⟩
theorem zj (h1:PS X st t) (h2:PSs X rest u):PSs X (st::rest) (Jl t u):=by
 intro pins s σ H D I h
 refine wpAny_execs_cons (thn (h1 pins s σ H { D with nx:=u D } I h) λf s1 q=>?_)
 cases f with
 | next =>
  obtain⟨σ',H',I',q⟩:=q
  exact h2 pins s1 σ' H' D I' q
 | ret v=>exact q
 | brk=>exact q
 | cont=>exact q
theorem zr (h1:PS X st t):PSs X [st] t:=by
 intro pins s σ H D I h
 refine wpAny_execs_cons (thn (h1 pins s σ H D I h) λf s1 q=>?_)
 cases f with
 | next=>exact wpAny_execs_nil q
 | ret v=>exact q
 | brk=>exact q
 | cont=>exact q
theorem Inv.quiet {pins:List (Addr×Obj)}{σ:St}{H:Hp}{s:Shared}(I:Inv X pins σ H s):interactive X.env=false:=by simp[interactive,I.ok.kind]
def zeQ (te:TE):TS:=λD σ H=>te σ H λ_ H1=>D.nx σ H1
theorem vG (he:PE X e te) (hs:swapsWith e none pos.line X.env=pure false:=by rfl):PS X (.Expr e pos) (zeQ te):=by
 intro pins s σ H D I h
 exact wpAny_Expr_any (thn (he pins s σ H _ I h) λv s1 ⟨x,H1,I1,r1,q1⟩=>⟨σ,H1,I1,q1⟩) I.quiet hs
def zaC (te:TE):TS:=λD σ H=>te σ H D.rt
theorem zF (he:PE X e te):PS X (.Return (some e) pos) (zaC te):=by
 intro pins s σ H D I h
 exact wpAny_Return_some (thn (he pins s σ H _ I h) λv s1 ⟨x,H1,I1,r1,q1⟩=>⟨x,σ,H1,I1,r1,q1⟩)
def tIfS (c:TT) (t u:TS):TS:=λD σ H=>c σ H λb H1=>if b=true then t D σ H1 else u D σ H1
theorem xa {c:Expr}{a b:List Stmt}{tc:TT}(hc:PT X c tc) (ha:PSs X a t) (hb:PSs X b u):PS X (.If c a b pos) (tIfS tc t u):=by
 intro pins s σ H D I h
 refine wpAny_If (thn (hc pins s σ H _ I h) λd s1 ⟨H1,I1,q1⟩=>?_)
 cases d with
 | true=>exact ha pins s1 σ H1 D I1 q1
 | false=>exact hb pins s1 σ H1 D I1 q1
def zdG:TS:=λ_ _ _=>False
theorem vQ {sts:List Stmt}:PSs X sts zdG:=λ_ _ _ _ _ _ h=>h.elim
end
abbrev TG:=V->St->Hp->(St->Hp->Prop)->Prop
abbrev TGs:=List V->St->Hp->(St->Hp->Prop)->Prop
def PG (X:Cx) (target:Expr) (t:TG):Prop :=
 ∀(pins:List (Addr×Obj)) (s:Shared) (σ:St) (H:Hp) (v:V) (u:Value) (Q:St->Hp->Prop),Inv X pins σ H s->xj v u->t v σ H Q →
  wpAny (model X.prog X.w) X.A (assign target X.env u) (λ_ s'=>∃σ' H',Inv X pins σ' H' s'/\Q σ' H') X.xe s
def PGs (X:Cx) (ts:List Expr) (t:TGs):Prop :=
 ∀(pins:List (Addr×Obj)) (s:Shared) (σ:St) (H:Hp) (vs:List V) (us:List Value) (Q:St->Hp->Prop),Inv X pins σ H s->zS vs us->t vs σ H Q →
  wpAny (model X.prog X.w) X.A (assignInOrder ((assignEach ts X.env).map (·.2)) us) (λ_ s'=>∃σ' H',Inv X pins σ' H' s'/\Q σ' H') X.xe s
abbrev zcA:=V->V->V->Hp->(Hp->Prop)->Prop
def zdO (X:Cx) (t:zcA):Prop :=
 ∀(pins:List (Addr×Obj)) (s:Shared) (σ:St) (H:Hp) (o i v:V) (ov iv u:Value) (Q:Hp->Prop),Inv X pins σ H s->xj o ov->xj i iv->xj v u->t o i v H Q →
  wpAny (model X.prog X.w) X.A (setItem ov iv u) (λ_ s'=>∃H',Inv X pins σ H' s'/\Q H') X.xe s
section
variable {X:Cx}{pos:Pos}
def zA (i:Nat):TG:=λv σ H Q=>Q (σ.set i (some v)) H
theorem zG {i:Nat}{x:Str}(hN:X.N.Nodup) (hi:X.N[i]? = some x) (hx:Loc X.env.scope x) (hf:X.fn x=true\/X.env.scope.names.lookup x=some .local := by first | exact .inl rfl | exact .inr rfl | assumption):PG X (.Name x pos) (zA i):=by
 intro pins s σ H v u Q I r h
 exact wpAny_assign_Name (j0 I hN hi hx r (λs' I'=>⟨_,H,I',h⟩) hf)
def XB:TGs:=λvs σ H Q=>vs=[]/\Q σ H
def qR (t:TG) (u:TGs):TGs:=λvs σ H Q=>∃v r,vs=v::r/\t v σ H λσ' H'=>u r σ' H' Q
theorem xS:PGs X [] XB:=by
 intro pins s σ H vs us Q I r h
 obtain⟨e,h⟩:=h
 subst e
 cases r
 exact assignInOrder_nil ⟨σ,H,I,h⟩
theorem zM {e:Expr}{es:List Expr}{t:TG}{u:TGs}(h1:PG X e t) (h2:PGs X es u)
  (hs:(assignEach (e::es) X.env).map (·.2)=assign e X.env::(assignEach es X.env).map (·.2):=by rfl):PGs X (e::es) (qR t u):=by
 intro pins s σ H vs us Q I r h
 obtain⟨v,vr,e1,h⟩:=h
 subst e1
 cases r with
 | cons r rr =>
  rw[hs]
  refine assignInOrder_cons (thn (h1 pins s σ H _ _ _ I r h) λ_ s1 ⟨σ1,H1,I1,q1⟩=>?_)
  exact h2 pins s1 σ1 H1 _ _ Q I1 rr q1
def Z4 (K:PySem.W.Frag) (n:Nat) (t:TGs):TG:=λv σ H Q=>∃a xs,v = .ref a/\SqT K H a xs/\xs.length=n/\t xs σ H Q
theorem jj {es:List Expr}{k:Nat}{t:TGs}{n:Nat}(hc:X.calm=true) (h:PGs X es t)
  (hn:(assignEach es X.env).length=n:=by rfl) (hst:(assignEach es X.env).findIdx? (·.1)=none:=by rfl):PG X (.Tuple es k pos) (Z4 X.K n t):=by
 intro pins s σ H v u Q I r hw
 obtain⟨a,xs,e1,hq,hl,hw⟩:=hw
 subst e1
 cases r
 obtain⟨its,rv,ht,hz⟩:=I.tuple hq
 refine assign_Tuple_tuple (I.ok.hd hc) ht (by simp[hn,<-hl,rv.length]) hst λh' hx=>?_
 have I1:Inv X pins σ H { s with heap:=h' }:=I.kept (t':=s.toks) λb o e=>hx b o (Nat.ne_of_lt (Heap.lt_size e)) e
 exact h pins _ σ H xs _ Q I1 (by simpa using rv) hw
def gSub (to ti:TE) (t:zcA):TG:=λv σ H Q=>to σ H λo H1=>ti σ H1 λi H2=>t o i v H2 λH3=>Q σ H3
theorem ZR {o i:Expr}{to ti:TE}{t:zcA}(ho:PE X o to) (hi:PE X i ti) (hs:zdO X t)
  (ha:∀v,assign (.Subscript o i pos) X.env v=(do
   let ov <-holding [v] (eval o X.env)
   let iv <-holding [v,ov] (eval i X.env)
   standAt pos
   holding [v,ov,iv] (setItem ov iv v)
   release [v,ov,iv] []):=by intro _;rfl):PG X (.Subscript o i pos) (gSub to ti t):=by
 intro pins s σ H v u Q I r h
 rw[ha]
 refine wpAny_bind (wpAny_holding (thn (ho pins s σ H _ I h) λov s1 ⟨x,H1,I1,r1,q1⟩=>?_))
 refine wpAny_bind (wpAny_holding (thn (hi pins s1 σ H1 _ I1 q1) λiv s2 ⟨y,H2,I2,r2,q2⟩=>?_))
 refine wpAny_bind (wpAny_standAt (wpAny_bind (wpAny_holding (thn (hs pins s2 σ H2 x y v ov iv u _ I2 r1 r2 r q2) λ_ s3 ⟨H3,I3,q3⟩=>?_))))
 exact wpAny_release ⟨σ,H3,I3,q3⟩
def zaB (te:TE) (g:TG):TS:=λD σ H=>te σ H λx H1=>g x σ H1 D.nx
theorem jk {tg e:Expr}{te:TE}{g:TG}(he:PE X e te) (hg:PG X tg g) (hs:swapsWithSole [tg] e pos.line X.env=pure false:=by rfl) (hw:swappedStores [tg] e X.env=pure none:=by rfl)
  (h1:(assignEach [tg] X.env).map (·.2)=[assign tg X.env]:=by rfl):PS X (.Assign [tg] e pos) (zaB te g):=by
 intro pins s σ H D I h
 refine wpAny_Assign_stores (thn (he pins s σ H _ I h) λv s1 ⟨x,H1,I1,r1,q1⟩=>?_) hs hw
 rw[h1]
 exact thn (hg pins s1 σ H1 x v _ I1 r1 q1) λ_ s2 q=>q
theorem zE {i:Nat}{x:Str}{e:Expr}{te:TE}{pos':Pos}(hN:X.N.Nodup) (hi:X.N[i]? = some x) (hx:Loc X.env.scope x) (he:PE X e te) (hs:swapsWith e (some (.Name x pos')) pos.line X.env=pure false:=by rfl) (hf:X.fn x=true\/X.env.scope.names.lookup x=some .local := by first | exact .inl rfl | exact .inr rfl | assumption) :
  PS X (.Assign [.Name x pos'] e pos) (zaB te (zA i)):=by
 intro pins s σ H D I h
 refine wpAny_Assign_Name (thn (he pins s σ H _ I h) λv s1 ⟨y,H1,I1,r1,q1⟩=>?_) hs
 exact j0 I1 hN hi hx r1 (λs2 I2=>⟨_,H1,I2,q1⟩) hf
def tPar (i j:Nat) (ta:TA):TS:=λD σ H=>ta σ H λvs H1=>∃v w,vs=[v,w]/\D.nx ((σ.set i (some v)).set j (some w)) H1
theorem Zc {i j:Nat}{x y:Str}{a b:Expr}{ta:TA}{px py pt:Pos} {kt k2 pt2} (hc:X.calm=true) (hN:X.N.Nodup) (hi:X.N[i]? = some x) (hj:X.N[j]? = some y) (hij:i≠j)
  (hx:X.env.scope.names.lookup x=some .local) (hy:X.env.scope.names.lookup y=some .local) (ha:PA X [a,b] ta)
  (hw:swappedStores [.Tuple [.Name x px,.Name y py] kt pt] (.Tuple [a,b] k2 pt2) X.env=pure (some [x,y]))
  (hs:swapsWithSole [.Tuple [.Name x px,.Name y py] kt pt] (.Tuple [a,b] k2 pt2) pos.line X.env=pure false:=by rfl) :
  PS X (.Assign [.Tuple [.Name x px,.Name y py] kt pt] (.Tuple [a,b] k2 pt2) pos) (tPar i j ta):=by
 intro pins s σ H D I h
 rw[exec_Assign_arm]
 refine wpAny_bind (wpAny_standAt ?_)
 rw[hs]
 refine wpAny_bind (wpAny_pure ?_)
 rw[if_neg (by decide)]
 refine wpAny_bind (Tuple_ (thn (ha _ pins s σ H _ I h) λus s1 ⟨vs,H1,I1,r1,q1⟩=>?_))
 obtain⟨v,w,e1,q1⟩:=q1
 subst e1
 obtain⟨u1,u2,rfl,rv,rw'⟩:∃u1 u2,us=[u1,u2]/\xj v u1/\xj w u2:=by
  cases r1 with
  | cons p q =>
   cases q with
   | cons p' q' =>
    cases q'
    exact⟨_,_,rfl,p,p'⟩
 refine wpAny_newObj_type ?_ (by show 2<=sizeLine;decide)
 have I2:Inv X pins σ H1 { s1 with heap:=s1.heap.push { cls:=.type "tuple",data:=.seq [u1,u2].toArray } }:=I1.kept (t':=s1.toks) λb o e=>Heap.get?_push_of_some _ e
 rw[hw]
 refine wpAny_bind (wpAny_pure ?_)
 show wpAny (model X.prog X.w) X.A (do rule "assign.swapped-stores";let items <-unpackItems (.ref s1.heap.objs.size) 2 none;assignInOrder [λv=>bindName X.env y v,λv=>bindName X.env x v] items.reverse;pure Flow.next) _ _ _
 refine wpAny_bind (wpAny_rule (wpAny_bind (unpackItems_tuple (items:=#[u1,u2]) (I.ok.hd hc) (IsTup.new s1.heap _) λh' hx'=>?_)))
 have I3:=I2.kept (h':=h') (t':=s1.toks) λb o e=>hx' b o (Nat.ne_of_lt (Heap.lt_size e)) e
 show wpAny _ _ (assignInOrder [λv=>bindName X.env y v,λv=>bindName X.env x v] [u2,u1] >>= λ_=>pure Flow.next) _ _ _
 refine wpAny_bind (assignInOrder_cons (wpAny_bindName (j0 I3 hN hj (.inl hy) rw' (λs2 I4=>?_) (.inr hy))))
 refine assignInOrder_cons (wpAny_bindName (j0 I4 hN hi (.inl hx) rv (λs3 I5=>assignInOrder_nil (wpAny_pure ?_)) (.inr hx)))
 rw[List.set_comm _ _ (Ne.symm hij)]at I5
 exact⟨_,H1,I5,q1⟩
end
section
variable {X:Cx}{pos:Pos}
def zaE (c:TT) (tb:TS):TS:=λD σ H=>∃W:Nat->St->Hp->Prop,(∃m,W m σ H)/\∀m σ H,W m σ H →
 c σ H λb H1=>if b=true then ∃N:St->Hp->Prop,(∀σ' H',N σ' H'->∃m',m'<m/\W m' σ' H')/\tb { D with nx:=N,ct:=N,bk:=D.nx } σ H1 else D.nx σ H1
theorem Qu {c:Expr}{body:List Stmt}{tc:TT}{tb:TS}(hp:PassesOwn (model X.prog X.w) X.A X.env X.xe) (hc:PT X c tc) (hb:PSs X body tb):PS X (.While c body [] pos) (zaE tc tb):=by
 intro pins s σ H D I h
 obtain⟨W,⟨m0,w0⟩,turn⟩:=h
 refine wpAny_While (codeAny_whileLoop (λn s'=>∃σ' H',Inv X pins σ' H' s'/\W n σ' H') ?_ m0 ⟨σ,H,I,w0⟩)
 rintro n s1 ⟨σ1,H1,I1,w1⟩
 refine wpAny_passesOwn hp (thn (hc pins s1 σ1 H1 _ I1 (turn n σ1 H1 w1)) λb s2 ⟨H2,I2,q2⟩=>?_)
 cases b with
 | true =>
  obtain⟨N,hN,q2⟩:=q2
  rw[if_pos rfl]
  refine wpAny_passesOwn hp (thn (hb pins s2 σ1 H2 _ I2 q2) λf s3 q3=>?_)
  cases f with
  | next =>
   obtain⟨σ3,H3,I3,n3⟩:=q3
   obtain⟨m',hm,w3⟩:=hN σ3 H3 n3
   exact⟨m',hm,σ3,H3,I3,w3⟩
  | cont =>
   obtain⟨σ3,H3,I3,n3⟩:=q3
   obtain⟨m',hm,w3⟩:=hN σ3 H3 n3
   exact⟨m',hm,σ3,H3,I3,w3⟩
  | brk=>exact q3
  | ret v=>exact q3
 | false =>
  rw[if_neg Bool.false_ne_true]
  exact wpAny_execs_nil ⟨σ1,H2,I2,q2⟩
end
structure It where
 go:Nat->Hp->Prop
 yld:Nat->Hp->V->Hp->Prop
 stop:Nat->Hp->Prop
def Zy (X:Cx) (pins:List (Addr×Obj)) (H:Hp) (b:Addr):Prop :=
 H b=none/\b≠X.env.locals/\b∉X.fs/\(b∈X.ex\/X.s₀.heap.objs.size<=b)/\(∀x c,X.env.cells.lookup x=some c->c≠b)/\∀p∈X.pn++pins,p.1≠b
theorem Inv.fpOk {X:Cx}{pins:List (Addr×Obj)}{σ:St}{H H':Hp}{s:Shared}{b:Addr}(I:Inv X pins σ H s) (hb:s.heap.objs.size<=b) (hn:H' b=none):Zy X pins H' b:=by
 refine⟨hn,Nat.ne_of_gt (Nat.lt_of_lt_of_le I.lt hb),I.nofs hb,.inr (Nat.le_trans I.sz hb),λx c e z=>?_,λp hp z=>?_⟩
 ·obtain⟨v,q⟩:=I.cell x c e
  exact absurd (Nat.lt_of_lt_of_le q.lt (by rw[z];exact hb)) (Nat.lt_irrefl _)
 ·exact absurd (Nat.lt_of_lt_of_le (Heap.lt_size (I.pin p hp).1) (by rw[z];exact hb)) (Nat.lt_irrefl _)
structure Jr (P:Program) (w:World) (K:PySem.W.Frag) (tg:Expr) (J:It) (fp:List Addr) (it:Addr) (tn:Nat->Heap->Prop):Prop where
 mem:it∈fp
 obj:∀i h,tn i h->∀b∈fp,∃o,h.get? b=some o/\∀v,o.data≠.cell v
 keep:∀i h h',tn i h->(∀b∈fp,∀o,h.get? b=some o->h'.get? b=some o)->tn i h'
 item:∀(X:Cx),X.prog=P->X.w=w->X.K=K->X.calm=true->∀(i:Nat) (pins:List (Addr×Obj)) (s:Shared) (σ:St) (H:Hp) (E:Value->Shared->Prop),Inv X pins σ H s->(∀b∈fp,Zy X pins H b)->tn i s.heap->J.go i H →
  wpAny (model P w) X.A (pyNext (.ref it)) (λr s1=>∃u,r=some u ∧
   wpAny (model P w) X.A (letOwnedTupleGo tg (.ref it) u) (λ_ s2=>∃x H',Inv X pins σ H' s2/\xj x u/\J.yld i H x H'/\tn (i+1) s2.heap/\∀b∈fp,H' b=none) E s1) E s
 done:∀(X:Cx),X.prog=P->X.w=w->X.K=K->X.calm=true->∀(i:Nat) (pins:List (Addr×Obj)) (s:Shared) (σ:St) (H:Hp) (E:Value->Shared->Prop),Inv X pins σ H s->(∀b∈fp,Zy X pins H b)->tn i s.heap->J.stop i H →
  wpAny (model P w) X.A (pyNext (.ref it)) (λr s1=>r=none/\Inv X pins σ H s1) E s
 self:∀(A:Around) (i:Nat) (s:Shared) (Q:Value->Shared->Prop) (E:Value->Shared->Prop),tn i s.heap->Q (.ref it) s->wpAny (model P w) A (pyIter (.ref it)) Q E s
abbrev TI:=St->Hp->(It->Hp->Prop)->Prop
def PIE (X:Cx) (pins:List (Addr×Obj)) (σ:St) (tg:Expr) (R:It->Hp->Prop) (itv:Value) (s2:Shared):Prop :=
 ∃(it:Addr) (fp:List Addr) (tn:Nat->Heap->Prop) (J:It) (H':Hp),itv = .ref it/\Inv X pins σ H' s2/\Jr X.prog X.w X.K tg J fp it tn/\tn 0 s2.heap/\(∀b∈fp,Zy X pins H' b)/\R J H'
def PI (X:Cx) (tg iter:Expr) (wi:TI):Prop :=
 ∀(pins:List (Addr×Obj)) (s:Shared) (σ:St) (H:Hp) (R:It->Hp->Prop),Inv X pins σ H s->wi σ H R →
  wpAny (model X.prog X.w) X.A (eval iter X.env) (λv s1=>wpAny (model X.prog X.w) X.A (pyIter v) (PIE X pins σ tg R) X.xe s1) X.xe s
theorem JQ {M:Model}{A:Around}{E:Value->Shared->Prop}{s:Shared}{tg:Expr}{it:Addr}{u:Value}{o:Obj}{n:String}{vs:Array Value}{Q:Unit->Shared->Prop}(ho:s.heap.get? it=some o) (hc:o.cls = .type n) (hd:o.data = .fields vs)
  (hn:["enumerate","zip","dict_itemiterator","dict_reverseitemiterator","odict_iterator","itertools.zip_longest","itertools.pairwise"].contains n=false) (hQ:Q () s):wpAny M A (letOwnedTupleGo tg (.ref it) u) Q E s:=by
 unfold letOwnedTupleGo
 cases tg <;> first
  | exact wpAny_pure hQ
  | (cases u <;> first
    | exact wpAny_pure hQ
    | (refine wpAny_bind (wpAny_load ho ?_)
       rw[hc,hd]
       show wpAny M A (if(["enumerate","zip","dict_itemiterator","dict_reverseitemiterator","odict_iterator","itertools.zip_longest","itertools.pairwise"].contains n&&vs[0]? == some (rawInt _))=true then _ else _) Q E s
       rw[if_neg (by intro h;rw[hn,Bool.false_and]at h;cases h)]
       exact wpAny_pure hQ))
def Itl (K:PySem.W.Frag) (a:Addr):It :=
 ⟨λi H=>∃xs x,SqL K H a xs/\xs[i]? = some x,λi H x H'=>H'=H/\∀xs,SqL K H a xs->xs[i]? = some x,λi H=>∃xs,SqL K H a xs/\xs.length<=i⟩
def Itt (K:PySem.W.Frag) (a:Addr):It :=
 ⟨λi H=>∃xs x,SqT K H a xs/\xs[i]? = some x,λi H x H'=>H'=H/\∀xs,SqT K H a xs->xs[i]? = some x,λi H=>∃xs,SqT K H a xs/\xs.length<=i⟩
def Itr (lo:Int) (n:Nat):It:=⟨λi _=>i<n,λi H x H'=>H'=H/\x = .int (lo+i),λi _=>n<=i⟩
theorem Jn {P:Program}{w:World}{K:PySem.W.Frag}{tg:Expr}(a it:Addr):Jr P w K tg (Itl K a) [it] it (λi h=>h.IsListIter it a i) where
 mem:=by simp
 obj:=λi h st b hb=>by
  have e:b=it:=by simpa using hb
  subst e
  obtain⟨o,e,c,d⟩:=st
  exact⟨o,e,λv z=>by rw[d]at z;cases z⟩
 keep:=λi h h' st k=>st.at λo e=>k it (by simp) o e
 item:=by
  intro X hP hw hK hc i pins s σ H E I hf st hg
  subst hP hw hK
  obtain⟨xs,x,hq,hx⟩:=hg
  obtain⟨its,rv,p,hz⟩:=I.list hq
  obtain⟨u,hu,ru⟩:=rv.get hx
  obtain⟨f0,f1,f2,f3,f4,f5⟩:=hf it (by simp)
  refine wpAny_pyNext_list_item st p.isList (x:=u) (by simpa using hu) λh' st' sb=>?_
  have I1:Inv X pins σ H { s with heap:=h' }:=I.turned (t':=s.toks) (λb o hb e=>(sb.2 b hb).trans e) f0 f1 f3 f4 f5
  obtain⟨o,e,c,d⟩:=id st'
  exact⟨u,rfl,JQ (s:={ s with heap:=h' }) e c d (by decide) ⟨x,H,I1,ru,⟨rfl,λys hy=>by rw[I.list_inj hy hq];exact hx⟩,st',λb hb=>(hf b hb).1⟩⟩
 done:=by
  intro X hP hw hK hc i pins s σ H E I hf st hg
  subst hP hw hK
  obtain⟨xs,hq,hx⟩:=hg
  obtain⟨its,rv,p,hz⟩:=I.list hq
  obtain⟨f0,f1,f2,f3,f4,f5⟩:=hf it (by simp)
  have hl:=rv.length
  exact wpAny_pyNext_list_end (I.ok.hd hc) st p.isList (by simp;omega) λh' eb=>⟨rfl,I.turned (t':=s.toks) (λb o hb e=>eb b o hb e) f0 f1 f3 f4 f5⟩
 self:=λ_ _ _ _ _ st h=>wpAny_pyIter_listiter st h
theorem Vh {P:Program}{w:World}{K:PySem.W.Frag}{tg:Expr}(a it:Addr):Jr P w K tg (Itt K a) [it] it (λi h=>h.IsTupleIter it a i) where
 mem:=by simp
 obj:=λi h st b hb=>by
  have e:b=it:=by simpa using hb
  subst e
  obtain⟨o,e,c,d⟩:=st
  exact⟨o,e,λv z=>by rw[d]at z;cases z⟩
 keep:=λi h h' st k=>st.at λo e=>k it (by simp) o e
 item:=by
  intro X hP hw hK hc i pins s σ H E I hf st hg
  subst hP hw hK
  obtain⟨xs,x,hq,hx⟩:=hg
  obtain⟨its,rv,p,hz⟩:=I.tuple hq
  obtain⟨u,hu,ru⟩:=rv.get hx
  obtain⟨f0,f1,f2,f3,f4,f5⟩:=hf it (by simp)
  refine wpAny_pyNext_tuple_item st (show s.heap.IsTuple a its.toArray from p) (x:=u) (by simpa using hu) λh' st' sb=>?_
  have I1:Inv X pins σ H { s with heap:=h' }:=I.turned (t':=s.toks) (λb o hb e=>(sb.2 b hb).trans e) f0 f1 f3 f4 f5
  obtain⟨o,e,c,d⟩:=id st'
  exact⟨u,rfl,JQ (s:={ s with heap:=h' }) e c d (by decide) ⟨x,H,I1,ru,⟨rfl,λys hy=>by rw[I.tuple_inj hy hq];exact hx⟩,st',λb hb=>(hf b hb).1⟩⟩
 done:=by
  intro X hP hw hK hc i pins s σ H E I hf st hg
  subst hP hw hK
  obtain⟨xs,hq,hx⟩:=hg
  obtain⟨its,rv,p,hz⟩:=I.tuple hq
  obtain⟨f0,f1,f2,f3,f4,f5⟩:=hf it (by simp)
  have hl:=rv.length
  exact wpAny_pyNext_tuple_end (I.ok.hd hc) st (show s.heap.IsTuple a its.toArray from p) (by simp;omega) λh' eb=>⟨rfl,I.turned (t':=s.toks) (λb o hb e=>eb b o hb e) f0 f1 f3 f4 f5⟩
 self:=λ_ _ _ _ _ st h=>wpAny_pyIter_tupleiter st h
theorem Vg {P:Program}{w:World}{K:PySem.W.Frag}{tg:Expr}(it:Addr) (lo:Int) (n:Nat):Jr P w K tg (Itr lo n) [it] it (λi h=>IsRangeIter h it (lo+(i:Nat)*1) ((n:Int) - (i:Nat)) 1) where
 mem:=by simp
 obj:=λi h st b hb=>by
  have e:b=it:=by simpa using hb
  subst e
  exact⟨_,st,λv z=>by
   have z':Data.fields _=Data.cell v:=z
   cases z'⟩
 keep:=λi h h' st k=>k it (by simp) _ st
 item:=by
  intro X hP hw hK hc i pins s σ H E I hf st hg
  subst hP hw hK
  obtain⟨f0,f1,f2,f3,f4,f5⟩:=hf it (by simp)
  have W:=Walks.range (prog:=X.prog) (w:=X.w) (I.ok.hd hc) it lo 1 n
  refine W.item i s _ _ hg st λv h' tk hv st' kk=>?_
  obtain⟨t,rfl⟩:=hv
  have I1:Inv X pins σ H { s with heap:=h',toks:=tk }:=I.turned (λb o hb e=>kk b o (by simpa using hb) e) f0 f1 f3 f4 f5
  refine⟨_,rfl,JQ (s:={ s with heap:=h',toks:=tk }) (n:="range_iterator") st' rfl rfl (by decide) ⟨.int (lo+i),H,I1,⟨t,?_⟩,⟨rfl,rfl⟩,st',λb hb=>(hf b hb).1⟩⟩
  rw[Int.mul_one]
 done:=by
  intro X hP hw hK hc i pins s σ H E I hf st hg
  subst hP hw hK
  obtain⟨f0,f1,f2,f3,f4,f5⟩:=hf it (by simp)
  exact wpAny_pyNext_range_end (I.ok.hd hc) st (by have:n<=i:=hg;omega) λh' eb=>⟨rfl,I.turned (t':=s.toks) (λb o hb e=>eb b o hb e) f0 f1 f3 f4 f5⟩
 self:=λ_ _ _ _ _ st h=>wpAny_pyIter_rangeiter st h
end L2
namespace L2
open PySem PySem.Spec PyProof.Rows
section
variable {X:Cx}{tg:Expr}
def zcb (K:PySem.W.Frag) (tl:TE):TI:=λσ H R=>tl σ H λx H1=>∃a,x = .ref a/\(∃xs,SqL K H1 a xs)/\R (Itl K a) H1
def za8 (K:PySem.W.Frag) (tl:TE):TI:=λσ H R=>tl σ H λx H1=>∃a,x = .ref a/\(∃xs,SqT K H1 a xs)/\R (Itt K a) H1
theorem xB {l:Expr}{tl:TE}(hl:PE X l tl):PI X tg l (zcb X.K tl):=by
 intro pins s σ H R I h
 refine thn (hl pins s σ H _ I h) λv s1 ⟨x,H1,I1,r1,q1⟩=>?_
 obtain⟨a,e,⟨xs,hq⟩,q⟩:=q1
 subst e
 cases r1
 obtain⟨its,rv,p,hz⟩:=I1.list hq
 refine wpAny_pyIter_list p.isList ?_
 refine⟨s1.heap.objs.size,[s1.heap.objs.size],_,_,H1,rfl,I1.kept (t':=s1.toks) λb o e=>Heap.get?_push_of_some _ e,Jn a _,⟨_,Heap.get?_push_size _ rfl,rfl,rfl⟩,λb hb=>?_,q⟩
 have e:b=s1.heap.objs.size:=by simpa using hb
 subst e
 exact I1.fpOk (Nat.le_refl _) (I1.hok.fresh (Nat.le_refl _))
theorem v7 {l:Expr}{tl:TE}(hl:PE X l tl):PI X tg l (za8 X.K tl):=by
 intro pins s σ H R I h
 refine thn (hl pins s σ H _ I h) λv s1 ⟨x,H1,I1,r1,q1⟩=>?_
 obtain⟨a,e,⟨xs,hq⟩,q⟩:=q1
 subst e
 cases r1
 obtain⟨its,rv,p,hz⟩:=I1.tuple hq
 refine wpAny_pyIter_tuple (show s1.heap.IsTuple a its.toArray from p) ?_
 refine⟨s1.heap.objs.size,[s1.heap.objs.size],_,_,H1,rfl,I1.kept (t':=s1.toks) λb o e=>Heap.get?_push_of_some _ e,Vh a _,⟨_,Heap.get?_push_size _ rfl,rfl,rfl⟩,λb hb=>?_,q⟩
 have e:b=s1.heap.objs.size:=by simpa using hb
 subst e
 exact I1.fpOk (Nat.le_refl _) (I1.hok.fresh (Nat.le_refl _))
theorem zad {pins:List (Addr×Obj)}{σ:St}{H:Hp}{s:Shared}{R:It->Hp->Prop}{E:Value->Shared->Prop}{lo hi:Int}{t u v:Tok}{tk:Nat}(I:Inv X pins σ H s) (h1 : -(2^62)<=lo) (h2:lo<2^62) (h3 : -(2^62)<=hi) (h4:hi<2^62)
  (q:R (Itr lo (hi - lo).toNat) H):wpAny (model X.prog X.w) X.A (pyIter (.ref s.heap.objs.size)) (PIE X pins σ tg R) E { s with heap:=s.heap.push { cls:=.type "range",data:=.fields #[.int lo t,.int hi u,.int 1 v] },toks:=tk }:=by
 refine wpAny_pyIter_range (IsRange.new ..) (small_one h1 h2 h3 h4) ?_
 have I1:Inv X pins σ H { s with heap:=s.heap.push { cls:=.type "range",data:=.fields #[.int lo t,.int hi u,.int 1 v] },toks:=tk }:=I.kept λb o e=>Heap.get?_push_of_some _ e
 refine⟨(s.heap.push { cls:=.type "range",data:=.fields #[.int lo t,.int hi u,.int 1 v] }).objs.size,[(s.heap.push { cls:=.type "range",data:=.fields #[.int lo t,.int hi u,.int 1 v] }).objs.size],_,_,H,rfl,
  I1.kept (t':=tk) λb o e=>Heap.get?_push_of_some _ e,Vg _ lo (hi - lo).toNat,?_,λb hb=>?_,q⟩
 ·have e1:lo+((0:Nat):Int)*1=lo:=by simp
  have e2:(((hi - lo).toNat:Nat):Int) - ((0:Nat):Int)=Builtin.Range.rangeSize lo hi 1:=by rw[rangeSize_one];split <;> omega
  show IsRangeIter _ _ (lo+((0:Nat):Int)*1) ((((hi - lo).toNat:Nat):Int) - ((0:Nat):Int)) 1
  rw[e1,e2]
  exact Heap.get?_push_size _ rfl
 ·have e:b=(s.heap.push { cls:=.type "range",data:=.fields #[.int lo t,.int hi u,.int 1 v] }).objs.size:=by simpa using hb
  subst e
  exact I1.fpOk (Nat.le_refl _) (I1.hok.fresh (Nat.le_refl _))
def zdR (ta:TA):TI:=λσ H R=>ta σ H λvs H1=>∃j:Int,vs=[.int j] ∧ -(2^62)<=j/\j<2^62/\R (Itr 0 j.toNat) H1
theorem vP {a:Expr}{ta:TA}{p pos:Pos}(hg:Gl X "range") (hm:X.mg "range" = none) (ha:PA X [a] ta) (hs:starEach [a] X.env=[(false,eval a X.env)]:=by rfl):PI X tg (.Call (.Name "range" p) [a] [] pos) (zdR ta):=by
 intro pins s σ H R I h
 refine Call_ (ZL I hg hm boot_range (PyProof.Rows.callWith_type1 (thn (ha pos pins s σ H _ I h) λus s1 ⟨vs,H1,I1,r1,q1⟩=>?_) hs rfl))
 obtain⟨j,e,q1,q2,q⟩:=q1
 subst e
 cases r1 with
 | cons r rr =>
  cases rr
  obtain⟨t,rfl⟩:=r
  exact call_range_1 (zad I1 (by omega) (by omega) q1 q2 (by simpa using q))
def zdF (wi:TI) (g:TG) (tb:TS):TS:=λD σ H=>wi σ H λJ H1=>∃W:Nat->Nat->St->Hp->Prop,(∃m,W 0 m σ H1)/\∀i m σ H,W i m σ H →
 (J.stop i H/\D.nx σ H)\/(J.go i H/\∃N:St->Hp->Prop,(∀σ' H',N σ' H'->∃m',m'<m/\W (i+1) m' σ' H')/\∀x H',J.yld i H x H'->g x σ H' λσ2 H2=>tb { D with nx:=N,ct:=N,bk:=D.nx } σ2 H2)
def Zb (fp:List Addr) (h:Heap):List (Addr×Obj):=fp.filterMap λb=>(h.get? b).map λo=>(b,o)
theorem qw {fp:List Addr}{h:Heap}{b:Addr}{o:Obj}(hb:b∈fp) (e:h.get? b=some o):(b,o)∈Zb fp h:=List.mem_filterMap.mpr ⟨b,hb,by rw[e];rfl⟩
theorem Je {fp:List Addr}{h:Heap}{p:Addr×Obj}(hp:p∈Zb fp h):p.1∈fp/\h.get? p.1=some p.2:=by
 obtain⟨b,hb,e⟩:=List.mem_filterMap.mp hp
 cases q:h.get? b with
 | none=>rw[q]at e;cases e
 | some o =>
  rw[q]at e
  have e':(b,o)=p:=Option.some.inj e
  subst e'
  exact⟨hb,q⟩
theorem Inv.pinned {pins:List (Addr×Obj)}{σ:St}{H:Hp}{s:Shared}{fp:List Addr}(I:Inv X pins σ H s) (hf:∀b∈fp,Zy X pins H b) (ho:∀b∈fp,∃o,s.heap.get? b=some o/\∀v,o.data≠.cell v):Inv X (pins++Zb fp s.heap) σ H s :=
 I.pins_of λp hp=>(List.mem_append.mp hp).elim (λz=>I.pin p (List.mem_append_right _ z)) λz=>by
  obtain⟨hb,e⟩:=Je z
  obtain⟨f0,f1,f2,_⟩:=hf p.1 hb
  obtain⟨o,e',d⟩:=ho p.1 hb
  rw[e]at e';cases e'
  exact⟨e,f0,f1,f2,d⟩
theorem Inv.unpinned {pins pl:List (Addr×Obj)}{σ:St}{H:Hp}{s:Shared}(I:Inv X (pins++pl) σ H s):Inv X pins σ H s:=I.pins_of λp hp=>I.pin p (List.mem_append_right _ (List.mem_append_left _ hp))
theorem vx {iter:Expr}{body:List Stmt}{wi:TI}{g:TG}{tb:TS}{pos:Pos}(hp:PassesOwn (model X.prog X.w) X.A X.env X.xe) (hc:X.calm=true) (hi:PI X tg iter wi) (hg:PG X tg g) (hb:PSs X body tb)
  (hs:∀x,foldedSetIterable iter X.env x=pure x:=by intro _;rfl):PS X (.For tg iter body [] pos) (zdF wi g tb):=by
 intro pins s σ H D I h
 refine wpAny_For (thn (hi pins s σ H _ I h) λv s1 h1=>thn h1 λitv s2 h2=>?_) hs
 obtain⟨it,fp,tn,J,H2,e,I2,T,st2,f2,W,⟨m0,w0⟩,turn⟩:=h2
 subst e
 have stat:∀{H':Hp},(∀b∈fp,H' b=none)->∀b∈fp,Zy X pins H' b:=λhn b hb=>⟨hn b hb,(f2 b hb).2⟩
 refine codeAny_forLoop_any (λn s'=>∃i σ' H',Inv X pins σ' H' s'/\tn i s'.heap/\(∀b∈fp,H' b=none)/\W i n σ' H') ?_ m0 ⟨0,σ,H2,I2,st2,λb hb=>(f2 b hb).1,w0⟩
 rintro n s3 ⟨i,σ3,H3,I3,st3,fr3,w3⟩
 rcases turn i n σ3 H3 w3 with⟨stop,qn⟩ | ⟨go,N,hN,step⟩
 ·refine wpAny_passesOwn hp (thn (T.done X rfl rfl rfl hc i pins s3 σ3 H3 X.xe I3 (stat fr3) st3 stop) λr s4 ⟨hr,I4⟩=>?_)
  subst hr
  exact wpAny_execs_nil ⟨σ3,H3,I4,qn⟩
 ·refine wpAny_passesOwn hp (thn (T.item X rfl rfl rfl hc i pins s3 σ3 H3 X.xe I3 (stat fr3) st3 go) λr s4 ⟨u,hr,h4⟩=>?_)
  subst hr
  refine wpAny_passesOwn hp (thn h4 λ_ s5 ⟨x,H5,I5,r5,y5,st5,fr5⟩=>?_)
  have I5':=I5.pinned (stat fr5) (T.obj _ _ st5)
  refine wpAny_passesOwn hp (thn (hg _ s5 σ3 H5 x u _ I5' r5 (step x H5 y5)) λ_ s6 ⟨σ6,H6,I6,q6⟩=>?_)
  refine wpAny_passesOwn hp (thn (hb _ s6 σ6 H6 _ I6 q6) λf s7 q7=>?_)
  have again:∀{σ7:St}{H7:Hp},Inv X (pins++Zb fp s5.heap) σ7 H7 s7->N σ7 H7->∃m,m<n/\∃i σ' H',Inv X pins σ' H' s7/\tn i s7.heap/\(∀b∈fp,H' b=none)/\W i m σ' H':=λ{σ7 H7} I7 n7=>by
   obtain⟨m',hm,w7⟩:=hN σ7 H7 n7
   refine⟨m',hm,i+1,σ7,H7,I7.unpinned,T.keep _ _ _ st5 λb hb o e=>(I7.pin (b,o) (List.mem_append_right _ (List.mem_append_right _ (qw hb e)))).1,λb hb=>?_,w7⟩
   obtain⟨o,e,d⟩:=T.obj _ _ st5 b hb
   exact(I7.pin (b,o) (List.mem_append_right _ (List.mem_append_right _ (qw hb e)))).2.1
  cases f with
  | next=>obtain⟨σ7,H7,I7,n7⟩:=q7;exact again I7 n7
  | cont=>obtain⟨σ7,H7,I7,n7⟩:=q7;exact again I7 n7
  | brk=>obtain⟨σ7,H7,I7,q7⟩:=q7;exact⟨σ7,H7,I7.unpinned,q7⟩
  | ret v=>obtain⟨x7,σ7,H7,I7,r7,q7⟩:=q7;exact⟨x7,σ7,H7,I7.unpinned,r7,q7⟩
end
theorem vM {K:PySem.W.Frag}{a:Addr}{xs:List V}{g:TG}{tb:TS}{D:jC}{σ:St}{H:Hp}(Pv:Nat->St->Hp->Prop) (h0:Pv 0 σ H) (hl:∀i σ H,i<=xs.length->Pv i σ H->SqL K H a xs)
  (hs:∀i x σ H,xs[i]? = some x->Pv i σ H->g x σ H λσ2 H2=>tb { D with nx:=Pv (i+1),ct:=Pv (i+1),bk:=D.nx } σ2 H2) (hd:∀σ H,Pv xs.length σ H->D.nx σ H) :
  ∃W:Nat->Nat->St->Hp->Prop,(∃m,W 0 m σ H)/\∀i m σ H,W i m σ H →
   ((Itl K a).stop i H/\D.nx σ H)\/((Itl K a).go i H/\∃N:St->Hp->Prop,(∀σ' H',N σ' H'->∃m',m'<m/\W (i+1) m' σ' H')/\∀x H',(Itl K a).yld i H x H'->g x σ H' λσ2 H2=>tb { D with nx:=N,ct:=N,bk:=D.nx } σ2 H2):=by
 refine⟨λi m σ H=>m=xs.length - i/\i<=xs.length/\Pv i σ H,⟨xs.length,by simp,Nat.zero_le _,h0⟩,?_⟩
 rintro i m σ H ⟨rfl,hi,p⟩
 have q:=hl i σ H hi p
 by_cases hlt:i<xs.length
 ·refine .inr ⟨⟨xs,xs[i],q,by simp[hlt]⟩,Pv (i+1),λσ' H' p'=>⟨xs.length - (i+1),by omega,rfl,hlt,p'⟩,λx H' y=>?_⟩
  obtain⟨e,y⟩:=y
  subst e
  exact hs i x σ _ (y xs q) p
 ·have e:i=xs.length:=by omega
  subst e
  exact .inl ⟨⟨xs,q,Nat.le_refl _⟩,hd σ H p⟩
theorem za3 {K:PySem.W.Frag}{a:Addr}{xs:List V}{g:TG}{tb:TS}{D:jC}{σ:St}{H:Hp}(Pv:Nat->St->Hp->Prop) (h0:Pv 0 σ H) (hl:∀i σ H,i<=xs.length->Pv i σ H->SqT K H a xs)
  (hs:∀i x σ H,xs[i]? = some x->Pv i σ H->g x σ H λσ2 H2=>tb { D with nx:=Pv (i+1),ct:=Pv (i+1),bk:=D.nx } σ2 H2) (hd:∀σ H,Pv xs.length σ H->D.nx σ H) :
  ∃W:Nat->Nat->St->Hp->Prop,(∃m,W 0 m σ H)/\∀i m σ H,W i m σ H →
   ((Itt K a).stop i H/\D.nx σ H)\/((Itt K a).go i H/\∃N:St->Hp->Prop,(∀σ' H',N σ' H'->∃m',m'<m/\W (i+1) m' σ' H')/\∀x H',(Itt K a).yld i H x H'->g x σ H' λσ2 H2=>tb { D with nx:=N,ct:=N,bk:=D.nx } σ2 H2):=by
 refine⟨λi m σ H=>m=xs.length - i/\i<=xs.length/\Pv i σ H,⟨xs.length,by simp,Nat.zero_le _,h0⟩,?_⟩
 rintro i m σ H ⟨rfl,hi,p⟩
 have q:=hl i σ H hi p
 by_cases hlt:i<xs.length
 ·refine .inr ⟨⟨xs,xs[i],q,by simp[hlt]⟩,Pv (i+1),λσ' H' p'=>⟨xs.length - (i+1),by omega,rfl,hlt,p'⟩,λx H' y=>?_⟩
  obtain⟨e,y⟩:=y
  subst e
  exact hs i x σ _ (y xs q) p
 ·have e:i=xs.length:=by omega
  subst e
  exact .inl ⟨⟨xs,q,Nat.le_refl _⟩,hd σ H p⟩
theorem jr {lo:Int}{n:Nat}{g:TG}{tb:TS}{D:jC}{σ:St}{H:Hp}(Pv:Nat->St->Hp->Prop) (h0:Pv 0 σ H)
  (hs:∀i σ H,i<n->Pv i σ H->g (.int (lo+i)) σ H λσ2 H2=>tb { D with nx:=Pv (i+1),ct:=Pv (i+1),bk:=D.nx } σ2 H2) (hd:∀σ H,Pv n σ H->D.nx σ H) :
  ∃W:Nat->Nat->St->Hp->Prop,(∃m,W 0 m σ H)/\∀i m σ H,W i m σ H →
   ((Itr lo n).stop i H/\D.nx σ H)\/((Itr lo n).go i H/\∃N:St->Hp->Prop,(∀σ' H',N σ' H'->∃m',m'<m/\W (i+1) m' σ' H')/\∀x H',(Itr lo n).yld i H x H'->g x σ H' λσ2 H2=>tb { D with nx:=N,ct:=N,bk:=D.nx } σ2 H2):=by
 refine⟨λi m σ H=>m=n - i/\i<=n/\Pv i σ H,⟨n,by simp,Nat.zero_le _,h0⟩,?_⟩
 rintro i m σ H ⟨rfl,hi,p⟩
 by_cases hlt:i<n
 ·refine .inr ⟨hlt,Pv (i+1),λσ' H' p'=>⟨n - (i+1),by omega,rfl,hlt,p'⟩,λx H' y=>?_⟩
  obtain⟨e,y⟩:=y
  subst e y
  exact hs i σ _ hlt p
 ·have e:i=n:=by omega
  subst e
  exact .inl ⟨Nat.le_refl _,hd σ H p⟩
theorem QG {c:TT}{tb:TS}{D:jC}{σ:St}{H:Hp}(Pv:St->Hp->Prop) (μ:St->Hp->Nat) (h0:Pv σ H)
  (hs:∀σ H,Pv σ H->c σ H λb H1=>if b=true then tb { D with nx:=λσ' H'=>Pv σ' H'/\μ σ' H'<μ σ H,ct:=λσ' H'=>Pv σ' H'/\μ σ' H'<μ σ H,bk:=D.nx } σ H1 else D.nx σ H1)
  (mono:∀σ H Q Q',(∀b H1,Q b H1->Q' b H1)->c σ H Q->c σ H Q'):zaE c tb D σ H:=by
 refine⟨λm σ H=>m=μ σ H/\Pv σ H,⟨_,rfl,h0⟩,?_⟩
 rintro m σ H ⟨rfl,p⟩
 refine mono σ H _ _ (λb H1 q=>?_) (hs σ H p)
 cases b with
 | true=>exact⟨_,λσ' H' ⟨p',l⟩=>⟨_,l,rfl,p'⟩,q⟩
 | false=>exact q
end L2
namespace L2
open PySem PySem.Spec PyProof.Rows
abbrev R2:=V->V->Hp->VK->Prop
def OpR (X:Cx) (f:Value->Value->Sem Value) (r:R2):Prop :=
 ∀(pins:List (Addr×Obj)) (s:Shared) (σ:St) (H:Hp) (x y:V) (v u:Value) (Q:VK),Inv X pins σ H s->xj x v->xj y u->r x y H Q →
  wpAny (model X.prog X.w) X.A (f v u) (EP X pins σ Q) X.xe s
def UnR (X:Cx) (f:Value->Sem Value) (r:V->Hp->VK->Prop):Prop :=
 ∀(pins:List (Addr×Obj)) (s:Shared) (σ:St) (H:Hp) (x:V) (v:Value) (Q:VK),Inv X pins σ H s->xj x v->r x H Q →
  wpAny (model X.prog X.w) X.A (f v) (EP X pins σ Q) X.xe s
def jb (X:Cx) (f:Value) (r:List V->Hp->VK->Prop):Prop :=
 ∀(pins:List (Addr×Obj)) (s:Shared) (σ:St) (H:Hp) (xs:List V) (us:List Value) (Q:VK),Inv X pins σ H s->zS xs us->r xs H Q →
  wpAny (model X.prog X.w) X.A (call f us) (EP X pins σ Q) X.xe s
def TruR (X:Cx) (r:V->Hp->(Bool->Hp->Prop)->Prop):Prop :=
 ∀(pins:List (Addr×Obj)) (s:Shared) (σ:St) (H:Hp) (x:V) (v:Value) (Q:Bool->Hp->Prop),Inv X pins σ H s->xj x v->r x H Q →
  wpAny (model X.prog X.w) X.A (truthy v) (TP X pins σ Q) X.xe s
def tOp (r:R2) (ta tb:TE):TE:=λσ H Q=>ta σ H λx H1=>tb σ H1 λy H2=>r x y H2 Q
def tUn (r:V->Hp->VK->Prop) (ta:TE):TE:=λσ H Q=>ta σ H λx H1=>r x H1 Q
def rI (C:Int->Int->Prop) (g:Int->Int->V):R2:=λx y H Q=>∃i j,x = .int i/\y = .int j/\C i j/\Q (g i j) H
def rI0 (g:Int->Int->V):R2:=λx y H Q=>∃i j,x = .int i/\y = .int j/\Q (g i j) H
def rU (g:Int->V):V->Hp->VK->Prop:=λx H Q=>∃i,x = .int i/\Q (g i) H
section
variable {X:Cx}{a b c:Expr}{ta tb tc:TE}{pos:Pos}
theorem zcF (ha:PE X a ta) (hb:PE X b tb){pins:List (Addr×Obj)}{s:Shared}{σ:St}{H:Hp}{R:V->V->Hp->Prop}(I:Inv X pins σ H s)
  (h:ta σ H λx H1=>tb σ H1 λy H2=>R x y H2){Q:Value->Shared->Prop}{f:Value->Value->Sem Value}
  (hf:∀v u s2 x y H2,Inv X pins σ H2 s2->xj x v->xj y u->R x y H2->wpAny (model X.prog X.w) X.A (f v u) Q X.xe s2) :
  wpAny (model X.prog X.w) X.A (eval a X.env) (λv s₁=>wpAny (model X.prog X.w) X.A (eval b X.env) (λu s₂=>wpAny (model X.prog X.w) X.A (f v u) Q X.xe s₂) X.xe s₁) X.xe s:=by
 refine thn (ha pins s σ H _ I h) λv s1 ⟨x,H1,I1,r1,q1⟩=>?_
 refine thn (hb pins s1 σ H1 _ I1 q1) λu s2 ⟨y,H2,I2,r2,q2⟩=>?_
 exact hf v u s2 x y H2 I2 r1 r2 q2
theorem zw {op:Operator}{r:R2}(ho:OpR X (binaryOp op) r) (ha:PE X a ta) (hb:PE X b tb):PE X (.BinOp a op b pos) (tOp r ta tb):=by
 intro pins s σ H Q I h
 exact wpAny_BinOp (zcF ha hb I h λv u s2 x y H2 I2 rx ry q=>ho pins s2 σ H2 x y v u Q I2 rx ry q)
theorem ZQ {op:UnaryOp}{r:V->Hp->VK->Prop}(ho:UnR X (unaryOp op) r) (ha:PE X a ta):PE X (.UnaryOp op a pos) (tUn r ta):=by
 intro pins s σ H Q I h
 exact UnaryOp_ (thn (ha pins s σ H _ I h) λv s1 ⟨x,H1,I1,r1,q1⟩=>ho pins s1 σ H1 x v Q I1 r1 q1)
theorem opI {f:Value->Value->Sem Value}{C:Int->Int->Prop}{g:Int->Int->Int}
  (rule:∀(i j:Int) (t u:Tok) (s:Shared) (Q:Value->Shared->Prop) (E:Value->Shared->Prop),C i j->Q (.int (g i j) s.toks) { s with toks:=s.toks+1 }->wpAny (model X.prog X.w) X.A (f (.int i t) (.int j u)) Q E s) :
  OpR X f (rI C λi j=>.int (g i j)):=by
 intro pins s σ H x y v u Q I rx ry h
 obtain⟨i,j,rfl,rfl,hc,q⟩:=h
 obtain⟨t,rfl⟩:=rx
 obtain⟨t',rfl⟩:=ry
 exact rule i j t t' s _ _ hc ⟨.int (g i j),H,I.tok _,⟨_,rfl⟩,q⟩
theorem zei {f:Value->Value->Sem Value}{g:Int->Int->Int}
  (rule:∀(i j:Int) (t u:Tok) (s:Shared) (Q:Value->Shared->Prop) (E:Value->Shared->Prop),Q (.int (g i j) s.toks) { s with toks:=s.toks+1 }->wpAny (model X.prog X.w) X.A (f (.int i t) (.int j u)) Q E s) :
  OpR X f (rI0 λi j=>.int (g i j)):=by
 intro pins s σ H x y v u Q I rx ry h
 obtain⟨i,j,rfl,rfl,q⟩:=h
 obtain⟨t,rfl⟩:=rx
 obtain⟨t',rfl⟩:=ry
 exact rule i j t t' s _ _ ⟨.int (g i j),H,I.tok _,⟨_,rfl⟩,q⟩
theorem zdj {f:Value->Value->Sem Value}{g:Int->Int->Bool}
  (rule:∀(i j:Int) (t u:Tok) (s:Shared) (Q:Value->Shared->Prop) (E:Value->Shared->Prop),Q (.bool (g i j)) s->wpAny (model X.prog X.w) X.A (f (.int i t) (.int j u)) Q E s) :
  OpR X f (rI0 λi j=>.bl (g i j)):=by
 intro pins s σ H x y v u Q I rx ry h
 obtain⟨i,j,rfl,rfl,q⟩:=h
 obtain⟨t,rfl⟩:=rx
 obtain⟨t',rfl⟩:=ry
 exact rule i j t t' s _ _ ⟨.bl (g i j),H,I,rfl,q⟩
def CDiv (i j:Int):Prop:=0<j/\j<1073741824
def CPow (i j:Int):Prop:=0<=j/\j<=1000000/\i.natAbs<2^64
def zcy (i j:Int):Prop:=(-(2^64)<i/\i<2^64)\/(-(2^64)<j/\j<2^64)
theorem zcy.ok {i j:Int}(h:zcy i j):IntMulOk i j:=by
 rcases h with⟨h1,h2⟩ | ⟨h1,h2⟩
 ·exact .of_left (intBits_le_64 h1 h2)
 ·exact .of_right (intBits_le_64 h1 h2)
theorem xt:OpR X (binaryOp .Add) (rI0 λi j=>.int (i+j)):=zei λ_ _ _ _ _ _ _ q=>add_int q
theorem xW:OpR X (binaryOp .Sub) (rI0 λi j=>.int (i - j)):=zei λ_ _ _ _ _ _ _ q=>sub_int q
theorem Q6:OpR X (binaryOp .Mult) (rI zcy λi j=>.int (i*j)):=opI λ_ _ _ _ _ _ _ hc q=>mul_int q hc.ok
theorem Vy:OpR X (binaryOp .FloorDiv) (rI CDiv λi j=>.int (i/j)):=opI λi j _ _ _ _ _ hc q=>by
 have h1:(0:Int)<j:=hc.1
 have h2:j<1073741824:=hc.2
 exact floordiv_int (by omega) (by rw[Int.fdiv_eq_ediv_of_nonneg i (by omega)];exact q) (.inl (PyProof.noPylong_small (by omega)))
theorem vv:OpR X (binaryOp .Mod) (rI (λ_ j=>0<j) λi j=>.int (i % j)):=opI λi j _ _ _ _ _ hc q=>by
 have h1:(0:Int)<j:=hc
 exact mod_int' (by omega) (by rw[Int.fmod_eq_emod_of_nonneg i (by omega)];exact q)
theorem v5:OpR X (binaryOp .Pow) (rI CPow λi j=>.int (i^j.toNat)):=opI λ_ _ _ _ _ _ _ hc q=>pow_int_small hc.1 hc.2.1 hc.2.2 q
theorem unI {f:Value->Sem Value}{g:Int->Int}
  (rule:∀(i:Int) (t:Tok) (s:Shared) (Q:Value->Shared->Prop) (E:Value->Shared->Prop),Q (.int (g i) s.toks) { s with toks:=s.toks+1 }->wpAny (model X.prog X.w) X.A (f (.int i t)) Q E s) :
  UnR X f (rU λi=>.int (g i)):=by
 intro pins s σ H x v Q I rx h
 obtain⟨i,rfl,q⟩:=h
 obtain⟨t,rfl⟩:=rx
 exact rule i t s _ _ ⟨.int (g i),H,I.tok _,⟨_,rfl⟩,q⟩
theorem jL:UnR X (unaryOp .USub) (rU λi=>.int (-i)):=unI λ_ _ _ _ _ q=>neg_int q
end
def zew:V->V->Bool
 | .non,.non=>true | .non,.int _=>true | .int _,.non=>true | .non,.bl _=>true | .bl _,.non=>true | .non,.str _=>true | .str _,.non=>true
 | .int _,.int _=>true | .bl _,.bl _=>true | .str _,.str _=>true | .byt _,.byt _=>true
 | .int _,.str _=>true | .str _,.int _=>true | .bl _,.str _=>true | .str _,.bl _=>true
 | _,_=>false
def rEq:R2:=λx y H Q=>zew x y=true/\Q (.bl (decide (x=y))) H
def rNe:R2:=λx y H Q=>zew x y=true/\Q (.bl (!decide (x=y))) H
theorem Vr {i j:Int}:decide (V.int i=V.int j)=(i == j):=by
 rw[Bool.eq_iff_iff]
 simp
theorem JJ {i j:Bool}:decide (V.bl i=V.bl j)=(i == j):=by
 rw[Bool.eq_iff_iff]
 simp
theorem Vs {i j:Str}:decide (V.str i=V.str j)=(i == j):=by
 rw[Bool.eq_iff_iff]
 simp
theorem Vq {i j:Array UInt8}:decide (V.byt i=V.byt j)=(i.toList == j.toList):=by
 rw[Bool.eq_iff_iff]
 cases i
 cases j
 simp
section
variable {X:Cx}{a b c:Expr}{ta tb tc:TE}{pos:Pos}
theorem zX {pins:List (Addr×Obj)}{σ:St}{H:Hp}{s:Shared}{Q:VK}{k k':Bool}(I:Inv X pins σ H s) (q:Q (.bl k) H) (e:k=k'):EP X pins σ Q (.bool k') s:=by
 subst e
 exact⟨.bl k,H,I,rfl,q⟩
theorem jc:OpR X (compareOp .Eq) rEq:=by
 intro pins s σ H x y v u Q I rx ry h
 obtain⟨hs,q⟩:=h
 cases x with
 | non =>
  cases rx
  cases y with
  | non=>cases ry;exact PySem.EqNone.eq_none_none (zX I q (by simp))
  | bl j=>cases ry;exact PySem.EqNone.eq_none_bool (zX I q (by simp))
  | int j=>obtain⟨t',rfl⟩:=ry;exact PySem.EqNone.eq_none_int (zX I q (by simp))
  | str j=>obtain⟨t',rfl⟩:=ry;exact PySem.EqNone.eq_none_str (zX I q (by simp))
  | _=>exact absurd (show false=true from hs) Bool.false_ne_true
 | bl i =>
  cases rx
  cases y with
  | non=>cases ry;exact PySem.EqNone.eq_bool_none (zX I q (by simp))
  | bl j=>cases ry;exact eq_bool (zX I q JJ)
  | str j=>obtain⟨t',rfl⟩:=ry;exact PySem.EqMixed.eq_bool_str (zX I q (by simp))
  | _=>exact absurd (show false=true from hs) Bool.false_ne_true
 | int i =>
  obtain⟨t,rfl⟩:=rx
  cases y with
  | non=>cases ry;exact PySem.EqNone.eq_int_none (zX I q (by simp))
  | int j=>obtain⟨t',rfl⟩:=ry;exact eq_int (zX I q Vr)
  | str j=>obtain⟨t',rfl⟩:=ry;exact PySem.EqMixed.eq_int_str (zX I q (by simp))
  | _=>exact absurd (show false=true from hs) Bool.false_ne_true
 | str i =>
  obtain⟨t,rfl⟩:=rx
  cases y with
  | non=>cases ry;exact PySem.EqNone.eq_str_none (zX I q (by simp))
  | bl j=>cases ry;exact PySem.EqMixed.eq_str_bool (zX I q (by simp))
  | int j=>obtain⟨t',rfl⟩:=ry;exact PySem.EqMixed.eq_str_int (zX I q (by simp))
  | str j=>obtain⟨t',rfl⟩:=ry;exact eq_str (zX I q Vs)
  | _=>exact absurd (show false=true from hs) Bool.false_ne_true
 | byt i =>
  obtain⟨t,rfl⟩:=rx
  cases y with
  | byt j=>obtain⟨t',rfl⟩:=ry;exact PySem.W.eq_bytes (zX I q Vq)
  | _=>exact absurd (show false=true from hs) Bool.false_ne_true
 | _=>cases y <;> exact absurd (show false=true from hs) Bool.false_ne_true
theorem zaa:OpR X (compareOp .NotEq) rNe:=by
 intro pins s σ H x y v u Q I rx ry h
 obtain⟨hs,q⟩:=h
 cases x with
 | non =>
  cases rx
  cases y with
  | non=>cases ry;exact PySem.EqNone.ne_none_none (zX I q (by simp))
  | bl j=>cases ry;exact PySem.EqNone.ne_none_bool (zX I q (by simp))
  | int j=>obtain⟨t',rfl⟩:=ry;exact PySem.EqNone.ne_none_int (zX I q (by simp))
  | str j=>obtain⟨t',rfl⟩:=ry;exact PySem.EqNone.ne_none_str (zX I q (by simp))
  | _=>exact absurd (show false=true from hs) Bool.false_ne_true
 | bl i =>
  cases rx
  cases y with
  | non=>cases ry;exact PySem.EqNone.ne_bool_none (zX I q (by simp))
  | bl j=>cases ry;exact ne_bool (zX I q (congrArg not JJ))
  | str j=>obtain⟨t',rfl⟩:=ry;exact PySem.EqMixed.ne_bool_str (zX I q (by simp))
  | _=>exact absurd (show false=true from hs) Bool.false_ne_true
 | int i =>
  obtain⟨t,rfl⟩:=rx
  cases y with
  | non=>cases ry;exact PySem.EqNone.ne_int_none (zX I q (by simp))
  | int j=>obtain⟨t',rfl⟩:=ry;exact ne_int (zX I q (congrArg not Vr))
  | str j=>obtain⟨t',rfl⟩:=ry;exact PySem.EqMixed.ne_int_str (zX I q (by simp))
  | _=>exact absurd (show false=true from hs) Bool.false_ne_true
 | str i =>
  obtain⟨t,rfl⟩:=rx
  cases y with
  | non=>cases ry;exact PySem.EqNone.ne_str_none (zX I q (by simp))
  | bl j=>cases ry;exact PySem.EqMixed.ne_str_bool (zX I q (by simp))
  | int j=>obtain⟨t',rfl⟩:=ry;exact PySem.EqMixed.ne_str_int (zX I q (by simp))
  | str j=>obtain⟨t',rfl⟩:=ry;exact ne_str (zX I q (congrArg not Vs))
  | _=>exact absurd (show false=true from hs) Bool.false_ne_true
 | byt i =>
  obtain⟨t,rfl⟩:=rx
  cases y with
  | byt j=>obtain⟨t',rfl⟩:=ry;exact PySem.W.ne_bytes (zX I q (congrArg not Vq))
  | _=>exact absurd (show false=true from hs) Bool.false_ne_true
 | _=>cases y <;> exact absurd (show false=true from hs) Bool.false_ne_true
theorem jF:OpR X (compareOp .Lt) (rI0 λi j=>.bl (decide (i<j))):=zdj λ_ _ _ _ _ _ _ q=>lt_int q
theorem Qt:OpR X (compareOp .LtE) (rI0 λi j=>.bl (decide (i<=j))):=zdj λ_ _ _ _ _ _ _ q=>le_int q
theorem Zn:OpR X (compareOp .Gt) (rI0 λi j=>.bl (decide (j<i))):=zdj λ_ _ _ _ _ _ _ q=>gt_int q
theorem ji:OpR X (compareOp .Is) (λx y H Q=>y = .non/\Q (.bl (decide (x = .non))) H):=by
 intro pins s σ H x y v u Q I rx ry h
 obtain⟨rfl,q⟩:=h
 cases ry
 refine is_none_gen (zX I q ?_)
 cases x <;> first
  | (cases rx;rfl)
  | (obtain⟨t,rfl⟩:=rx;rfl)
theorem vE:OpR X (compareOp .IsNot) (λx y H Q=>y = .non/\Q (.bl (!decide (x = .non))) H):=by
 intro pins s σ H x y v u Q I rx ry h
 obtain⟨rfl,q⟩:=h
 cases ry
 refine isnot_none_gen (zX I q ?_)
 cases x <;> first
  | (cases rx;rfl)
  | (obtain⟨t,rfl⟩:=rx;rfl)
theorem zI (b:Expr){op:CmpOp}(h:op≠.In:=by decide) (h2:op≠.NotIn:=by decide):behindInMarks op b=false:=by
 have e1:(op == CmpOp.In)=false:=by cases op <;> first | rfl | exact absurd rfl h
 have e2:(op == CmpOp.NotIn)=false:=by cases op <;> first | rfl | exact absurd rfl h2
 cases b <;> simp[behindInMarks,e1,e2]
theorem va {op:CmpOp}{r:R2}(ho:OpR X (compareOp op) r) (ha:PE X a ta) (hb:PE X b tb) (hm:behindInMarks op b=false):PE X (.Compare a [op] [b] pos) (tOp r ta tb):=by
 intro pins s σ H Q I h
 exact wpAny_Compare1 (zcF ha hb I h λv u s2 x y H2 I2 rx ry q=>ho pins s2 σ H2 x y v u Q I2 rx ry q) hm
def VI (t:TE):TT:=λσ H Q=>t σ H λx H'=>∃k,x = .bl k/\Q k H'
theorem zH {op:CmpOp}{r:R2}(ho:OpR X (compareOp op) r) (ha:PE X a ta) (hb:PE X b tb) (hm:behindInMarks op b=false):PT X (.Compare a [op] [b] pos) (VI (tOp r ta tb)):=by
 intro pins s σ H Q I h
 refine wpAny_isTrue_Compare1 (thn (ha pins s σ H _ I h) λv s1 ⟨x,H1,I1,r1,q1⟩=>thn (hb pins s1 σ H1 _ I1 q1) λu s2 ⟨y,H2,I2,r2,q2⟩ =>
  thn (ho pins s2 σ H2 x y v u _ I2 r1 r2 q2) λc s3 ⟨z,H3,I3,r3,k,e,q3⟩=>?_) hm
 subst e
 cases r3
 exact wpAny_truthy_bool ⟨H3,I3,q3⟩
def zdE (r r':R2) (ta tb tc:TE):TE:=λσ H Q=>ta σ H λx H1=>tb σ H1 λy H2=>r x y H2 λz H3=>∃k,z = .bl k ∧
 (if k=true then tc σ H3 λw' H4=>r' y w' H4 Q else Q (.bl false) H3)
theorem Qv {op op':CmpOp}{r r':R2}(ho:OpR X (compareOp op) r) (ho':OpR X (compareOp op') r') (ha:PE X a ta) (hb:PE X b tb) (hc:PE X c tc)
  (hm:lastMarks [op,op'] [b,c]=false:=by with_unfolding_all rfl):PT X (.Compare a [op,op'] [b,c] pos) (VI (zdE r r' ta tb tc)):=by
 intro pins s σ H Q I h
 refine isTrue_chain (thn (ha pins s σ H _ I h) λv s1 ⟨x,H1,I1,r1,q1⟩=>test_link (thn (hb pins s1 σ H1 _ I1 q1) λu s2 ⟨y,H2,I2,r2,q2⟩ =>
  thn (ho pins s2 σ H2 x y v u _ I2 r1 r2 q2) λd s3 ⟨z,H3,I3,r3,k,e,q3⟩=>?_)) hm
 subst e
 cases r3
 refine wpAny_truthy_bool ?_
 cases k with
 | false =>
  obtain⟨k',e',q'⟩:=q3
  cases e'
  exact ite_ff ⟨H3,I3,q'⟩
 | true =>
  refine ite_tt (test_last (thn (hc pins s3 σ H3 _ I3 q3) λw' s4 ⟨z',H4,I4,r4,q4⟩=>thn (ho' pins s4 σ H4 y z' u w' _ I4 r2 r4 q4) λd' s5 ⟨z2,H5,I5,r5,k2,e2,q5⟩=>?_))
  subst e2
  cases r5
  exact wpAny_truthy_bool ⟨H5,I5,q5⟩
def zaP (K:PySem.W.Frag) (x:V) (H:Hp) (k:Bool):Prop :=
 match x with
 | .non=>k=false
 | .bl b=>k=b
 | .int i=>k=(i != 0)
 | .str y=>y.length<=sizeLine/\k=((y.length:Int) != 0)
 | .byt y=>y.size<=sizeLine/\k=((y.size:Int) != 0)
 | .ref p=>(∃xs,SqL K H p xs/\k = !xs.isEmpty)\/(∃xs,SqT K H p xs/\k = !xs.isEmpty)\/∃kvs,H p=some (.dK kvs)/\k = !kvs.isEmpty
 | _=>False
theorem QU {κ:Type}{kvs:List (κ×V)}{vs:List (κ×Value)} (r:KV kvs vs):(!vs.isEmpty) = !kvs.isEmpty:=by
 cases r <;> rfl
theorem ZH {xs:List V}{its:List Value}(r:zS xs its):(!its.toArray.isEmpty) = !xs.isEmpty:=by
 cases r <;> simp
theorem ZN:(sizeLine:Nat)<2^63:=by rw[sizeLine_eq];decide
theorem zdI:TruR X (λx H Q=>∃k,zaP X.K x H k/\Q k H):=by
 intro pins s σ H x v Q I rx h
 obtain⟨k,e,q⟩:=h
 have hl:=ZN
 have hs:sizeLine=16777216:=sizeLine_eq
 cases x with
 | non =>
  cases rx
  have e':k=false:=e
  subst e'
  exact truthy_none ⟨H,I,q⟩
 | bl b =>
  cases rx
  have e':k=b:=e
  subst e'
  exact wpAny_truthy_bool ⟨H,I,q⟩
 | int i =>
  obtain⟨t,rfl⟩:=rx
  have e':k=(i != 0):=e
  subst e'
  exact PySem.P.truthy_int ⟨H,I,q⟩
 | str y =>
  obtain⟨t,rfl⟩:=rx
  obtain⟨hy,e'⟩:y.length<=sizeLine/\k=((y.length:Int) != 0):=e
  subst e'
  exact PySem.P.truthy_str (by omega) ⟨H,I.tok _,q⟩
 | byt y =>
  obtain⟨t,rfl⟩:=rx
  obtain⟨hy,e'⟩:y.size<=sizeLine/\k=((y.size:Int) != 0):=e
  subst e'
  exact PySem.W.truthy_bytes (by omega) ⟨H,I.tok _,q⟩
 | ref p =>
  cases rx
  have e':(∃xs,SqL X.K H p xs/\k = !xs.isEmpty)\/(∃xs,SqT X.K H p xs/\k = !xs.isEmpty)\/∃kvs,H p=some (.dK kvs)/\k = !kvs.isEmpty:=e
  rcases e' with⟨xs,hx,e'⟩ | ⟨xs,hx,e'⟩ | ⟨kvs,hx,e'⟩
  ·subst e'
   obtain⟨its,r,pl,hz⟩:=I.list hx
   have hlen:=r.length
   exact wpAny_truthy_list pl.isList (by simp only[List.size_toArray];omega) ⟨H,I.tok _,by rw[ZH r];exact q⟩
  ·subst e'
   obtain⟨its,r,pl,hz⟩:=I.tuple hx
   have hlen:=r.length
   exact truthy_tuple pl (by simp only[List.size_toArray];omega) ⟨H,I.tok _,by rw[ZH r];exact q⟩
  ·subst e'
   obtain⟨hz,hS,vs,r,m⟩:kvs.length<=sizeLine/\(p == sysModules)=false/\∃vs,KV kvs vs/\s.heap.DictOf (XH X.prog X.w) p vs:=I.hok p _ hx
   have hlen:kvs.length=vs.length:=Paired.length r
   exact wpAny_truthy_dict hS m (by omega) ⟨H,I.tok _,by rw[QU r];exact q⟩
 | _=>exact(show False from e).elim
theorem zT (ha:PE X a ta) (he:∀whole,isTrue a X.env whole=(do let v <-whole;standAt a.pos;holding [v] (truthy v))) :
  PT X a (λσ H Q=>ta σ H λx H'=>∃k,zaP X.K x H' k/\Q k H'):=by
 intro pins s σ H Q I h
 exact isTrue_plain (thn (ha pins s σ H _ I h) λv s1 ⟨x,H1,I1,r1,q1⟩=>zdI pins s1 σ H1 x v Q I1 r1 q1) (he _)
theorem ZW {x:V}{us:List Value}(r:zS [x] us):∃u,us=[u]/\xj x u:=by
 cases r with
 | cons r1 r2=>cases r2;exact⟨_,rfl,r1⟩
theorem VN {x y:V}{us:List Value}(r:zS [x,y] us):∃u w',us=[u,w']/\xj x u/\xj y w':=by
 cases r with
 | cons r1 r2 =>
  cases r2 with
  | cons r3 r4=>cases r4;exact⟨_,_,rfl,r1,r3⟩
theorem vq:jb X (.builtin "abs") (λxs H Q=>∃i,xs=[.int i]/\Q (.int (if i<0 then -i else i)) H):=by
 intro pins s σ H xs us Q I r h
 obtain⟨i,rfl,q⟩:=h
 obtain⟨u,rfl,t,rfl⟩:=ZW r
 exact call_abs_int λu tk=>⟨.int (if i<0 then -i else i),H,I.tok _,⟨_,rfl⟩,q⟩
theorem Xh (hc:X.calm=true):jb X (.builtin "max") (λxs H Q=>∃i j,xs=[.int i,.int j]/\Q (.int (if j>i then j else i)) H):=by
 intro pins s σ H xs us Q I r h
 obtain⟨i,j,rfl,q⟩:=h
 obtain⟨u,w',rfl,⟨t,rfl⟩,⟨t',rfl⟩⟩:=VN r
 refine max_two_ints (I.ok.hd hc) λh' tk k=>⟨_,H,I.kept k,?_,q⟩
 by_cases hj:j>i
 ·rw[if_pos hj,if_pos hj];exact⟨_,rfl⟩
 ·rw[if_neg hj,if_neg hj];exact⟨_,rfl⟩
theorem VS (hc:X.calm=true):jb X (.builtin "min") (λxs H Q=>∃i j,xs=[.int i,.int j]/\Q (.int (if j<i then j else i)) H):=by
 intro pins s σ H xs us Q I r h
 obtain⟨i,j,rfl,q⟩:=h
 obtain⟨u,w',rfl,⟨t,rfl⟩,⟨t',rfl⟩⟩:=VN r
 refine min_two_ints (I.ok.hd hc) λh' tk k=>⟨_,H,I.kept k,?_,q⟩
 by_cases hj:j<i
 ·rw[if_pos hj,if_pos hj];exact⟨_,rfl⟩
 ·rw[if_neg hj,if_neg hj];exact⟨_,rfl⟩
end
end L2
namespace L2
open PySem PySem.Spec PyProof.Rows
structure VP (h:Heap) (x dx C:Addr) (mA:Str->Option Value):Prop where
 obj:h.get? x=some (PySem.W.instObj C dx)
 ns:h.Ns1 dx mA
 ne:dx≠x
theorem Ja {h:Heap}{dx:Addr}{mA:Str->Option Value}(n:h.Ns1 dx mA):∃od,h.get? dx=some od/\∀name,PySem.W.lookIn name od=some (mA name):=by
 obtain⟨o,es,ep,ho,hd,hk,_,hm⟩:=n
 refine⟨o,ho,λname=>?_⟩
 have e:=hm name
 unfold nsFind findBy at e
 rw[<-Array.find?_toList]at e
 unfold PySem.W.lookIn
 rw[hd]
 dsimp only
 split
 ·rename_i y q
  rw[q]at e
  exact congrArg some e
 ·rename_i q
  rw[q]at e
  have a:es.toList.any (·.refKey)=false:=by
   rw[List.any_eq_false]
   intro y hy
   obtain⟨z,t,hkey⟩:=hk y (Array.mem_toList_iff.mp hy)
   simp[DictEntry.refKey,hkey]
  have a':¬es.toList.any (·.refKey)=true:=by rw[a];exact Bool.false_ne_true
  rw[if_neg a']
  exact congrArg some e
theorem VP.look {h:Heap}{x dx C:Addr}{mA:Str->Option Value}(I:VP h x dx C mA):∃od,PySem.W.InstAt h x (PySem.W.instObj C dx) C (some od)/\∀name,PySem.W.lookIn name od=some (mA name) :=
 let ⟨od,ho,hl⟩:=Ja I.ns
 ⟨od,⟨I.obj,rfl,rfl,ho⟩,hl⟩
section
variable {prog:Program}{w:World}{A:Around}{E:Value->Shared->Prop}{s:Shared}{K:PySem.W.Frag}{x dx C f:Addr}{mA:Str->Option Value}{name:Str}{v:Value}
theorem za7 {expr:Bool}{Q:Value->Shared->Prop}(X:K.In s.heap) (I:VP s.heap x dx C mA) (hg:PySem.W.plainGet K C name=true) (hh:PySem.W.hasDictIn K C=true)
  (ha:PySem.W.findIn K (.ref C) name=some none) (hv:mA name=some v) (hv':PySem.W.handedIn v=true) (h:Q v { s with toks:=s.toks+1 }) :
  wpAny (model prog w) A (getAttr (.ref x) name expr) Q E s:=by
 obtain⟨od,J,hl⟩:=I.look
 exact PySem.W.get_value X J (PySem.W.plainGet_of hg).1 (PySem.W.findObj_own hh ha rfl (by rw[hl,hv])) hv' h
theorem zbS {ns:List Str}{Q:Unit->Shared->Prop}(X:K.In s.heap) (I:VP s.heap x dx C mA)
  (hs:PySem.W.findIn K (.ref C) "__setattr__" = some (some (.builtin "object.__setattr__"))) (hp:PySem.W.plainOver K C=true) (ht:PySem.W.takerIn K C name=some none) (hh:PySem.W.hasDictIn K C=true)
  (hw:PySem.Within mA ns) (hsz:ns.length<=sizeLine)
  (h:∀h',VP h' x dx C (λy=>if y=name then some v else mA y)->Heap.SameBut dx s.heap h'->Q () { s with heap:=h',toks:=s.toks+2 }) :
  wpAny (model prog w) A (setAttr (.ref x) name v) Q E s:=by
 obtain⟨od,J,hl⟩:=I.look
 refine PySem.W.set_plain X J hs (PySem.W.osa_open (s:={ s with toks:=s.toks+1 }) (r:=none) X J hp ht λb=>?_)
 obtain⟨cd,hc,hd'⟩:=PySem.W.any_some hh
 have hx:s.heap.get? x=some ⟨.ref C,some dx,.plain,#[]⟩:=I.obj
 refine wpAny_bind (wpAny_pure (wpAny_bind (wpAny_bind (wpAny_loadPart hx (wpAny_bind (PySem.W.Looks.here (s:={ s with toks:=s.toks+1 }) (PySem.W.looks_clsIn X hc) ?_))))))
 rw[hd']
 refine wpAny_pure (a:=some dx) (wpAny_bind (wpAny_pure (wpAny_bind ?_)))
 refine wpAny_nsSet1 (s:={ s with toks:=s.toks+1 }) I.ns λh' hn2 hs2=>?_
 obtain⟨oD,esD,epD,hoD,hdD,hcD⟩:=hn2.count (PySem.Within.cons name v hw)
 refine wpAny_bind (wpAny_lookBehind hoD (by rw[hdD];exact pastItsLine_dict (Nat.le_trans hcD (by rw[List.length_cons];omega))) ?_)
 exact wpAny_pure (h _ ⟨(hs2.2 _ (Ne.symm I.ne)).trans I.obj,hn2,I.ne⟩ hs2)
theorem JY {R:Result->Shared->Prop}{vs:List Value}{kw:List (Str×Value)} (X:K.In s.heap) (hm:PySem.W.makesIn K C=true)
  (hi:PySem.W.findIn K (.ref C) "__init__" = some (some (.ref f))) (hf:PySem.W.typeIn K (.ref f)=some (.type "function"))
  (h:codeAny (model prog w) (A.under (.builtin "type.__call__" ⟨.ref C::vs,kw⟩)) (.call (.ref f) ⟨.ref (s.heap.objs.size+1)::vs,kw⟩) (PySem.W.InitBack (s.heap.objs.size+1) R)
   { s with heap:=(s.heap.push PySem.W.emptyDict).push (PySem.W.instObj C s.heap.objs.size) }) :
  codeAny (model prog w) A (.call (.ref C) ⟨vs,kw⟩) R s:=by
 obtain⟨hh,g,d,t,os⟩:=s
 exact PySem.W.make_core (PySem.W.makes_of X hm) (PySem.W.looks_findIn X hi) (λself=>PySem.W.bind_fn X self hf) (.inl rfl) h
end
def vR (f:Str) (v:V):List (Str×V)->List (Str×V)
 | []=>[(f,v)]
 | (g,x)::r=>if g=f then(g,v)::r else(g,x)::vR f v r
theorem Zm (f g:Str) (v:V):∀fs:List (Str×V),(vR f v fs).lookup g=if g=f then some v else fs.lookup g
 | []=>by
  show List.lookup g [(f,v)]=_
  by_cases h:g=f
  ·have hb:(g == f)=true:=beq_iff_eq.mpr h
   simp only[List.lookup,hb,if_pos h]
  ·have hb:(g == f)=false:=beq_eq_false_iff_ne.mpr h
   simp only[List.lookup,hb,if_neg h]
 | (k,x)::r=>by
  have ih:=Zm f g v r
  rw[show vR f v ((k,x)::r)=(if k=f then(k,v)::r else(k,x)::vR f v r)from rfl]
  by_cases hk:k=f
  ·rw[if_pos hk]
   by_cases h:g=k
   ·have hb:(g == k)=true:=beq_iff_eq.mpr h
    simp only[List.lookup,hb,if_pos (h.trans hk)]
   ·have hb:(g == k)=false:=beq_eq_false_iff_ne.mpr h
    simp only[List.lookup,hb,if_neg (λe:g=f=>h (e.trans hk.symm))]
  ·rw[if_neg hk]
   by_cases h:g=k
   ·have hb:(g == k)=true:=beq_iff_eq.mpr h
    simp only[List.lookup,hb,if_neg (λe:g=f=>hk (h.symm.trans e))]
   ·have hb:(g == k)=false:=beq_eq_false_iff_ne.mpr h
    simp only[List.lookup,hb]
    exact ih
theorem Za (f:Str) (v:V):∀fs:List (Str×V),f∈(vR f v fs).map (·.1)/\∀g,g∈fs.map (·.1)->g∈(vR f v fs).map (·.1)
 | []=>⟨by simp[vR],λg h=>by simp at h⟩
 | (k,x)::r=>by
  obtain⟨i1,i2⟩:=Za f v r
  rw[show vR f v ((k,x)::r)=(if k=f then(k,v)::r else(k,x)::vR f v r)from rfl]
  by_cases hk:k=f
  ·rw[if_pos hk]
   subst hk
   exact⟨by simp,λg h=>by simpa using h⟩
  ·rw[if_neg hk]
   refine⟨?_,λg h=>?_⟩
   ·rw[List.map_cons]
    exact List.mem_cons_of_mem _ i1
   ·rw[List.map_cons]at h ⊢
    rcases List.mem_cons.mp h with e | e
    ·exact List.mem_cons.mpr (.inl e)
    ·exact List.mem_cons_of_mem _ (i2 g e)
theorem Zl (f:Str) (v:V):∀fs:List (Str×V),(vR f v fs).length<=fs.length+1
 | []=>by simp[vR]
 | (k,x)::r=>by
  have ih:=Zl f v r
  rw[show vR f v ((k,x)::r)=(if k=f then(k,v)::r else(k,x)::vR f v r)from rfl]
  by_cases hk:k=f
  ·rw[if_pos hk,List.length_cons,List.length_cons];omega
  ·rw[if_neg hk,List.length_cons,List.length_cons];omega
theorem QI.some_of {v:V}{o:Option Value}(r:QI (some v) o):∃u,o=some u/\xj v u:=by
 cases o with
 | none=>exact(show False from r).elim
 | some u=>exact⟨u,rfl,r⟩
theorem V0 {v:V}{u:Value}(r:xj v u):PySem.W.handedIn u=true:=by
 cases v with
 | non=>cases(show u=Value.none from r);rfl
 | bl b=>cases(show u=Value.bool b from r);rfl
 | int i=>obtain⟨t,e⟩:=(show ∃t,u=Value.int i t from r);cases e;rfl
 | str x=>obtain⟨t,e⟩:=(show ∃t,u=Value.str x t from r);cases e;rfl
 | byt b=>obtain⟨t,e⟩:=(show ∃t,u=Value.bytes b t from r);cases e;rfl
 | flt b=>obtain⟨t,e⟩:=(show ∃t,u=Value.float b t from r);cases e;rfl
 | ref a=>cases(show u=Value.ref a from r);rfl
 | ty n=>cases(show u=Value.type n from r);rfl
section
variable {P:Program}{w:World}{H H':Hp}{h h':Heap}{a C dx:Addr}{fs fs':List (Str×V)}
theorem XD (hok:HOk P w H h) (e:H a=some (.ins C dx fs)):∃mA,VP h a dx C mA/\(∀f,QI (fs.lookup f) (mA f))/\PySem.Within mA (fs.map (·.1))/\fs.length<=1000/\H dx=some (.own a):=by
 obtain⟨d,z,ne,ob,mA,n,r,q⟩:=(show xU P w H h a (.ins C dx fs)from hok a _ e)
 exact⟨mA,⟨ob,n,ne⟩,r,q,z,d⟩
end
structure Cls (K:PySem.W.Frag) (C:Addr):Prop where
 pg:PySem.W.plainGet K C Str.empty=true
 hd:PySem.W.hasDictIn K C=true
 po:PySem.W.plainOver K C=true
 sa:PySem.W.findIn K (.ref C) "__setattr__" = some (some (.builtin "object.__setattr__"))
theorem Cls.get {K:PySem.W.Frag}{C:Addr}(c:Cls K C) (f:Str):PySem.W.plainGet K C f=true:=c.pg
def xT (K:PySem.W.Frag) (C:Addr) (f:Str):Prop:=PySem.W.findIn K (.ref C) f=some none
theorem xT.taker {K:PySem.W.Frag}{C:Addr}{f:Str}(n:xT K C f):PySem.W.takerIn K C f=some none:=by
 unfold PySem.W.takerIn
 rw[show PySem.W.findIn K (.ref C) f=some none from n]
 rfl
section
variable {X:Cx}{pins:List (Addr×Obj)}{σ:St}{H:Hp}{s:Shared}{a C dx:Addr}{fs:List (Str×V)}{f:Str}{v:V}{A:Around}{E:Value->Shared->Prop}
theorem QS {b:Bool}{Q:Value->Shared->Prop}(I:Inv X pins σ H s) (e:H a=some (.ins C dx fs)) (c:Cls X.K C) (n:xT X.K C f) (l:fs.lookup f=some v)
  (h:∀u s',Inv X pins σ H s'->xj v u->Q u s'):wpAny (model X.prog X.w) A (getAttr (.ref a) f b) Q E s:=by
 obtain⟨mA,O,r,_,_,_⟩:=XD I.hok e
 obtain⟨u,hu,ru⟩:=QI.some_of (v:=v) (o:=mA f) (by rw[<-l];exact r f)
 exact za7 I.kIn O (c.get f) c.hd n hu (V0 ru) (h u _ (I.tok _) ru)
theorem Vb {y:V}{u:Value}{Q:Unit->Shared->Prop}(I:Inv X pins σ H s) (e:H a=some (.ins C dx fs)) (c:Cls X.K C) (n:xT X.K C f) (hl:fs.length<1000) (ry:xj y u)
  (h:∀s',Inv X pins σ (upd H a (.ins C dx (vR f y fs))) s'->Q () s'):wpAny (model X.prog X.w) A (setAttr (.ref a) f u) Q E s:=by
 obtain⟨mA,O,r,wi,_,ho⟩:=XD I.hok e
 have hz:(fs.map (·.1)).length<=sizeLine:=by rw[List.length_map,sizeLine_eq];omega
 refine zbS I.kIn O c.sa c.po n.taker c.hd wi hz λh' O' sb=>h _ ?_
 have hd:∃o,h'.get? dx=some o:=let ⟨o,_,_,e',_⟩:=O'.ns;⟨o,e'⟩
 refine I.write (x:=a) (e:=dx) (by rw[e];exact True.intro) (.inr ho) (λb q hb z=>(sb.2 b hb).trans z) hd ?_
 refine⟨by rw[zK O.ne];exact ho,?_,O.ne,O'.obj,_,O'.ns,λg=>?_,λg hg=>?_⟩
 ·have:=Zl f y fs;omega
 ·show QI ((vR f y fs).lookup g) (if g=f then some u else mA g)
  rw[Zm]
  by_cases q:g=f
  ·rw[if_pos q,if_pos q];exact ry
  ·rw[if_neg q,if_neg q];exact r g
 ·by_cases q:g=f
  ·rw[q];exact(Za f y fs).1
  ·refine(Za f y fs).2 g (wi g λz=>hg ?_)
   show (if g=f then some u else mA g)=none
   rw[if_neg q];exact z
theorem Inv.made (I:Inv X pins σ H s):Inv X pins σ (upd (upd H s.heap.objs.size (.own (s.heap.objs.size+1))) (s.heap.objs.size+1) (.ins C s.heap.objs.size []))
  { s with heap:=(s.heap.push PySem.W.emptyDict).push (PySem.W.instObj C s.heap.objs.size) }:=by
 have e1:(s.heap.push PySem.W.emptyDict).get? s.heap.objs.size=some PySem.W.emptyDict:=Heap.get?_push_size s.heap rfl
 have e2:((s.heap.push PySem.W.emptyDict).push (PySem.W.instObj C s.heap.objs.size)).get? (s.heap.objs.size+1)=some (PySem.W.instObj C s.heap.objs.size):=by
  have:=Heap.get?_push_size (s.heap.push PySem.W.emptyDict) (o:=PySem.W.instObj C s.heap.objs.size) rfl
  rwa [Heap.size_push]at this
 have e3:(s.heap.push PySem.W.emptyDict).Ns s.heap.objs.size (λ_=>none):=⟨PySem.W.emptyDict,#[],_,e1,rfl,(λe he=>absurd he (by simp)),λ_=>rfl⟩
 have I1:=I.laid (a:=s.heap.objs.size) (o:=.own (s.heap.objs.size+1)) (h':=s.heap.push PySem.W.emptyDict) (t':=s.toks) (λb u q=>Heap.get?_push_of_some _ q) (Nat.le_refl _) ⟨_,e1⟩
 refine I1.laid (a:=s.heap.objs.size+1) (o:=.ins C s.heap.objs.size []) (t':=s.toks) (λb u q=>Heap.get?_push_of_some _ q) (Nat.le_of_eq (Heap.size_push _ _)) ?_
 have ne:s.heap.objs.size≠s.heap.objs.size+1:=Nat.ne_of_lt (Nat.lt_succ_self _)
 refine⟨by rw[zK ne,zo],Nat.zero_le _,ne,e2,λ_=>none,(Heap.Ns1.of_empty e3).at λo q=>Heap.get?_push_of_some _ q,λ_=>True.intro,λy hy=>absurd rfl hy⟩
theorem zaW {prog:Program}{w:World}{env:Env}{e:Expr}{f:Str}{pos:Pos}{s:Shared}{Q:Value->Shared->Prop}(hb:attributeBase e f env (eval e env)=eval e env)
  (h:wpAny (model prog w) A (eval e env) (λo s₁=>wpAny (model prog w) A (getAttr o f true) Q E s₁) E s):wpAny (model prog w) A (eval (.Attribute e f pos) env) Q E s :=
 Attribute_any_ h (by rw[arm_eval_Attribute,hb])
end
def zeR (K:PySem.W.Frag) (ta:TE) (f:Str):TE:=λσ H Q=>ta σ H λx H1=>∃a C dx fs v,x = .ref a/\H1 a=some (.ins C dx fs)/\Cls K C/\xT K C f/\fs.lookup f=some v/\Q v H1
def zds (K:PySem.W.Frag) (ta tv:TE) (f:Str):TS:=λD σ H=>tv σ H λy H1=>ta σ H1 λx H2=>∃a C dx fs,x = .ref a/\H2 a=some (.ins C dx fs)/\Cls K C/\xT K C f/\fs.length<1000 ∧
 D.nx σ (upd H2 a (.ins C dx (vR f y fs)))
section
variable {X:Cx}{o e value:Expr}{f:Str}{pos pos' tpos:Pos}{ta tv:TE}
theorem qT (he:PE X e ta) (hb:attributeBase e f X.env (eval e X.env)=eval e X.env):PE X (.Attribute e f pos) (zeR X.K ta f):=by
 intro pins s σ H Q I h
 refine zaW hb (thn (he pins s σ H _ I h) λu s1 ⟨x,H1,I1,rx,a,C,dx,fs,v,ex,ea,c,n,l,q⟩=>?_)
 subst ex
 obtain rfl:u=Value.ref a:=rx
 exact QS I1 ea c n l λu' s2 I2 ru=>⟨v,H1,I2,ru,q⟩
theorem jJ (ha:PE X o ta) (hv:PE X value tv) (hs:swapsWith value (some (.Attribute o f pos')) pos.line X.env=pure false):PS X (.Assign [.Attribute o f pos'] value pos) (zds X.K ta tv f):=by
 intro pins s σ H D I h
 refine plainObj_wpAny_Assign_Attribute (thn (hv pins s σ H _ I h) λu s1 ⟨y,H1,I1,ry,q⟩=>thn (ha pins s1 σ H1 _ I1 q) λov s2 ⟨x,H2,I2,rx,a,C,dx,fs,ex,ea,c,n,l,q2⟩=>?_) hs
 subst ex
 obtain rfl:ov=Value.ref a:=rx
 exact Vb I2 ea c n l ry λs3 I3=>⟨σ,_,I3,q2⟩
end
section
variable {X:Cx}{pins:List (Addr×Obj)}{σ:St}{H:Hp}{s:Shared}{A:Around}{E:Value->Shared->Prop}{Q:Value->Shared->Prop}{c:Value}{b:Bool}
inductive j7 (K:PySem.W.Frag) (H:Hp):V->Value->Prop where
 | non:j7 K H .non (.type "NoneType")
 | bl (x:Bool):j7 K H (.bl x) (.type "bool")
 | int (i:Int):j7 K H (.int i) (.type "int")
 | str (x:Str):j7 K H (.str x) (.type "str")
 | flt (x:UInt64):j7 K H (.flt x) (.type "float")
 | lst {a:Addr}{xs:List V}(e:H a=some (.lst xs)):j7 K H (.ref a) (.type "list")
 | frz {a:Addr}{o:Obj}{xs:List V}(e:H a=some (.frz o (.lst xs))):j7 K H (.ref a) (.type "list")
 | tup {a:Addr}{xs:List V}(e:H a=some (.tup xs)):j7 K H (.ref a) (.type "tuple")
 | dK {a:Addr}{kvs:List (Key×V)} (e:H a=some (.dK kvs)):j7 K H (.ref a) (.type "dict")
 | dT {a:Addr}{kvs:List (List Key×V)} (e:H a=some (.dT kvs)):j7 K H (.ref a) (.type "dict")
 | ins {a C dx:Addr}{fs:List (Str×V)} (e:H a=some (.ins C dx fs)) (cl:Cls K C) (ha:PySem.W.findIn K (.ref C) "__class__" = some (some (.builtin "object.__class__")))
   (hn:PySem.W.specialIn K (.builtin "object.__class__") "__get__" = some (some (.builtin "getset_descriptor.__get__"))) (htk:PySem.W.takesIn K (.builtin "object.__class__")=some true)
   (hm:PySem.W.mroIn K C (.type "object")=some true):j7 K H (.ref a) (.ref C)
theorem V3 {x:V}{u t:Value}(I:Inv X pins σ H s) (rx:xj x u) (ty:j7 X.K H x t) (e:PySem.W.kitOne X.K t c=some b) (h:∀tk,Q (.bool b) { s with toks:=tk }) :
  wpAny (model X.prog X.w) A (call (.builtin "isinstance") [u,c]) Q E s:=by
 cases ty with
 | non=>cases(show u=Value.none from rx);exact PySem.W.kia_one PySem.W.kitx_none I.kIn True.intro e (λz=>nomatch z) h
 | bl y=>cases(show u=Value.bool y from rx);exact PySem.W.kia_one PySem.W.kitx_bool I.kIn True.intro e (λz=>nomatch z) h
 | int i=>obtain⟨t,q⟩:=(show ∃t,u=Value.int i t from rx);cases q;exact PySem.W.kia_one PySem.W.kitx_int I.kIn True.intro e (λz=>nomatch z) h
 | str y=>obtain⟨t,q⟩:=(show ∃t,u=Value.str y t from rx);cases q;exact PySem.W.kia_one PySem.W.kitx_str I.kIn True.intro e (λz=>nomatch z) h
 | flt y=>obtain⟨t,q⟩:=(show ∃t,u=Value.float y t from rx);cases q;exact PySem.W.kia_one PySem.W.kitx_float I.kIn True.intro e (λz=>nomatch z) h
 | @lst a xs ea =>
  cases(show u=Value.ref a from rx)
  obtain⟨_,_,n,_,h1⟩:=(show xU X.prog X.w H s.heap a (.lst xs)from I.hok a _ ea)
  exact PySem.W.kia_one PySem.W.kitx_list I.kIn ⟨_,h1,rfl⟩ e (λz=>nomatch z) h
 | @frz a ob xs ea =>
  cases(show u=Value.ref a from rx)
  obtain⟨_,_,_,n,_,h1⟩:=(show xU X.prog X.w H s.heap a (.frz ob (.lst xs))from I.hok a _ ea)
  exact PySem.W.kia_one PySem.W.kitx_list I.kIn ⟨_,h1,rfl⟩ e (λz=>nomatch z) h
 | @tup a xs ea =>
  cases(show u=Value.ref a from rx)
  obtain⟨_,_,_,p⟩:=(show xU X.prog X.w H s.heap a (.tup xs)from I.hok a _ ea)
  obtain⟨o,h1,h2,_⟩:=p
  exact PySem.W.kia_one PySem.W.kitx_tuple I.kIn ⟨o,h1,h2⟩ e (λz=>nomatch z) h
 | @dK a kvs ea =>
  cases(show u=Value.ref a from rx)
  obtain⟨_,_,vs,_,p⟩:=(show xU X.prog X.w H s.heap a (.dK kvs)from I.hok a _ ea)
  obtain⟨o,es,ep,h1,h2,_⟩:=p
  exact PySem.W.kia_one PySem.W.kitx_dict I.kIn ⟨o,h1,h2.1⟩ e (λz=>nomatch z) h
 | @dT a kvs ea =>
  cases(show u=Value.ref a from rx)
  obtain⟨_,_,xs,_,o,es,ep,h1,h2,_⟩:=(show xU X.prog X.w H s.heap a (.dT kvs)from I.hok a _ ea)
  exact PySem.W.kia_one PySem.W.kitx_dict I.kIn ⟨o,h1,h2.1⟩ e (λz=>nomatch z) h
 | @ins a C dx fs ea cl ha hn htk hm =>
  cases(show u=Value.ref a from rx)
  obtain⟨mA,O,_⟩:=XD I.hok ea
  obtain⟨od,J,_⟩:=O.look
  exact PySem.W.kia_one (PySem.W.kitx_own (cl.get _) cl.hd ha hn htk hm) I.kIn J e (λz=>nomatch z) h
end
end L2
namespace L2
open PySem PySem.Spec PyProof.Rows
structure xb (k:Nat) (A:Around):Prop where
 hd:A.handled=none
 dp:A.depth+3*k+5<recursionLimit
 un:A.units+16*k+200<cLine
theorem xb.mono {j k:Nat}{A:Around}(r:xb k A) (h:j<=k):xb j A:=⟨r.hd,by have:=r.dp;omega,by have:=r.un;omega⟩
theorem xb.deeper {k:Nat}{A:Around}(r:xb (k+1) A) (env:Env):xb k (A.deeper env) :=
 ⟨r.hd,by have:=r.dp;show A.depth+1+3*k+5<_;omega,by have:=r.un;show A.units+3+16*k+200<_;omega⟩
theorem QX {A:Around}{C:Addr}{us:List Value}{kw:List (Str×Value)}:(A.under (.builtin "type.__call__" ⟨.ref C::us,kw⟩)).depth=A.depth+1:=by
 first | rfl | simp[Around.under,Code.weight,Code.isCreation,Code.isGuard,Code.isCaller,Code.frames,Code.isFrame,guardIds]
theorem QY {A:Around}{C:Addr}{us:List Value}{kw:List (Str×Value)}:(A.under (.builtin "type.__call__" ⟨.ref C::us,kw⟩)).units=A.units+1:=by
 first | rfl | simp[Around.under,Code.cUnits,Code.frames,Code.isFrame]
theorem xb.make {k:Nat}{A:Around}(r:xb (k+1) A) (C:Addr) (us:List Value) (kw:List (Str×Value)):xb k (A.under (.builtin "type.__call__" ⟨.ref C::us,kw⟩)) :=
 ⟨r.hd,by have:=r.dp;rw[QX];omega,by have:=r.un;rw[QY];omega⟩
theorem xb.depth {k:Nat}{A:Around}(r:xb k A):A.depth<recursionLimit:=by have:=r.dp;omega
theorem xb.units {k:Nat}{A:Around}(r:xb k A):A.units+64<cLine:=by have:=r.un;omega
def jD:TA:=λ_ H Q=>Q [] H
def xr (ta:TE) (tr:TA):TA:=λσ H Q=>ta σ H λx H1=>tr σ H1 λxs H2=>Q (x::xs) H2
section
variable {X:Cx}{e:Expr}{es:List Expr}{te:TE}{t:TA}{pos:Pos}
theorem zf:PA X [] jD:=λ_ _ _ _ H Q I h=>Calls.spliced_nil ⟨[],H,I,.nil,h⟩
theorem zd (ha:PE X e te) (hr:PA X es t) (hs:starEach (e::es) X.env=(false,eval e X.env)::starEach es X.env:=by rfl):PA X (e::es) (xr te t):=by
 intro pos pins s σ H Q I h
 rw[hs]
 show wpAny _ _ (spliced ((false,eval e X.env)::backTo pos (starEach es X.env))) _ _ s
 refine Calls.spliced_cons (thn (ha pins s σ H _ I h) λu s1 ⟨x,H1,I1,r1,q1⟩=>?_)
 exact thn (hr pos pins s1 σ H1 _ I1 q1) λus s2 ⟨xs,H2,I2,r2,q2⟩=>⟨x::xs,H2,I2,.cons r1 r2,q2⟩
def zaD (t:TA):TE:=λσ H Q=>t σ H λxs H1=>xs.length<=sizeLine/\∀p,H1 p=none->Q (.ref p) (upd H1 p (.tup xs))
def zeS (t:TA):TE:=λσ H Q=>t σ H λxs H1=>xs.length<=sizeLine/\∀p,H1 p=none->Q (.ref p) (upd H1 p (.lst xs))
theorem zU {x1} (h:PA X es t):PE X (.Tuple es x1 pos) (zaD t):=by
 intro pins s σ H Q I hq
 refine wpAny_Tuple_spliced (thn (h pos pins s σ H _ I hq) λus s1 ⟨xs,H1,I1,r,z,q⟩=>⟨by rw[<-r.length];exact z,?_⟩)
 have hf:H1 s1.heap.objs.size=none:=I1.hok.fresh (Nat.le_refl _)
 refine⟨.ref s1.heap.objs.size,upd H1 s1.heap.objs.size (.tup xs),I1.laid (t':=s1.toks) (λb u e=>Heap.get?_push_of_some _ e) (Nat.le_refl _) ?_,rfl,q _ hf⟩
 exact⟨z,us,r,⟨_,Heap.get?_push_size _ rfl,rfl,_,rfl⟩⟩
theorem qh (h:PA X es t):PE X (.List es pos) (zeS t):=by
 intro pins s σ H Q I hq
 refine wpAny_List_spliced (thn (h pos pins s σ H _ I hq) λus s1 ⟨xs,H1,I1,r,z,q⟩=>⟨by rw[<-r.length];exact z,?_⟩)
 have hf:H1 s1.heap.objs.size=none:=I1.hok.fresh (Nat.le_refl _)
 refine⟨.ref s1.heap.objs.size,upd H1 s1.heap.objs.size (.lst xs),I1.laid (t':=s1.toks) (λb u e=>Heap.get?_push_of_some _ e) (Nat.le_refl _) ?_,rfl,q _ hf⟩
 exact⟨z,us,0,r,Heap.get?_push_size _ rfl⟩
end
abbrev Sp:=List V->Hp->VK->XK->Prop
abbrev CXT:=List Env->Hp->Shared->XK->Value->Shared->Prop
structure QH (P:Program) (w:World) (K:PySem.W.Frag) (mg:Str->Option Value) (base:Heap) (A:Around) (outer:List Env) (s:Shared) (H:Hp):Prop where
 frames:A.frames=some outer
 mod:Mod K mg base
 bs:∀b o,base.get? b=some o->s.heap.get? b=some o/\H b=none
 bsz:base.objs.size<=s.heap.objs.size
 funs:s.heap.FunFrames base outer
 frf:∀b∈frs outer,H b=none
 hok:HOk P w H s.heap
 bare:AllBare s.gens
def CE (outer:List Env) (P:Program) (w:World) (H:Hp) (s:Shared) (Q:VK) (u:Value) (s':Shared):Prop :=
 ∃v H',s'.os=s.os/\AllBare s'.gens/\Un (frs outer) [] H H' s.heap s'.heap/\HOk P w H' s'.heap/\xj v u/\Q v H'
def CR (CX:CXT) (outer:List Env) (P:Program) (w:World) (H:Hp) (s:Shared) (Q:VK) (E:XK) (r:Result) (s':Shared):Prop :=
 match r with
 | .ok (.ret u)=>CE outer P w H s Q u s'
 | .ok _=>False
 | .error e=>CX outer H s E e s'
structure jN (P:Program) (w:World) (K:PySem.W.Frag) (mg:Str->Option Value) (base:Heap) (CX:CXT) (k:Nat) (f:Addr) (fd:FuncData) (ps:List Str) (sp:Sp):Prop where
 len:∀vs H Q E,sp vs H Q E->vs.length=ps.length
 run:∀(A:Around) (outer:List Env) (s:Shared) (H:Hp) (args:Args) (us:List Value) (vs:List V) (Q:VK) (E:XK),xb k A->QH P w K mg base A outer s H->BindsTo s fd args (ps.zip us)->zS vs us->sp vs H Q E →
  codeAny (model P w) A (.call (.ref f) args) (CR CX outer P w H s Q E) s
theorem QH.make {P:Program}{w:World}{K:PySem.W.Frag}{mg:Str->Option Value}{base:Heap}{A:Around}{outer:List Env}{s:Shared}{H:Hp}(e:QH P w K mg base A outer s H) (C:Addr) (us:List Value) (kw:List (Str×Value)) :
  QH P w K mg base (A.under (.builtin "type.__call__" ⟨.ref C::us,kw⟩)) outer s H:=⟨by first | exact e.frames | (simpa [Around.under,Code.envs,Code.isFrame,pushEnvs]using e.frames),e.mod,e.bs,e.bsz,e.funs,e.frf,e.hok,e.bare⟩
section
variable {X:Cx}{pins:List (Addr×Obj)}{σ:St}{H:Hp}{s s':Shared}
theorem Inv.env0 (I:Inv X pins σ H s):QH X.prog X.w X.K X.mg X.base X.A X.stack s H :=
 ⟨I.ok.frames,I.ok.mod,I.bs,Nat.le_trans I.ok.bsz I.sz,I.stack,I.stkFree,I.hok,I.bare⟩
theorem Inv.after {Q:VK}{u:Value}(I:Inv X pins σ H s) (h:CE X.stack X.prog X.w H s Q u s'):EP X pins σ Q u s':=by
 obtain⟨v,H',os,bare,un,hok,r,q⟩:=h
 obtain⟨hh,g,d,t,os'⟩:=s'
 obtain rfl:os'=s.os:=os
 exact⟨v,H',I.call (h':=hh) (g':=g) (d':=d) (t':=t) (ch:=[]) un hok bare (λb z=>absurd z (by simp)),r,q⟩
end
def jq (sp:Sp) (dvs:List V) (E:XK) (t:TA):TE:=λσ H Q=>t σ H λvs H1=>sp (vs++dvs) H1 Q E
def zeT (C:Addr) (sp:Sp) (dvs:List V) (E:XK) (t:TA):TE:=λσ H Q=>t σ H λvs H1=>∀x dx,H1 x=none->H1 dx=none->dx≠x →
 sp (.ref x::(vs++dvs)) (upd (upd H1 dx (.own x)) x (.ins C dx [])) (λv H2=>v = .non/\Q (.ref x) H2) E
def jE (K:PySem.W.Frag) (fd:FuncData) (ps:List Str) (ds:List Value):Prop :=
 ∀(s:Shared) (us:List Value),K.In s.heap->(us++ds).length=ps.length->BindsTo s fd ⟨us,[]⟩ (ps.zip (us++ds))
theorem jE.all {K:PySem.W.Frag}{fd:FuncData}{ps:List Str}(h:∀us:List Value,us.length=ps.length->bindArgs fd ⟨us,[]⟩=pure (ps.zip us)):jE K fd ps []:=λs us _ hl=>by
 rw[List.append_nil]at hl ⊢
 exact .of_eq (h us hl)
def ZA (CX:CXT) (X:Cx) (E:XK):Prop:=∀(pins:List (Addr×Obj)) (σ:St) (H:Hp) (s:Shared) (e:Value) (s':Shared),Inv X pins σ H s->CX X.stack H s E e s'->X.xe e s'
section
variable {X:Cx}{CX:CXT}{k:Nat}{f C:Addr}{fd:FuncData}{ps:List Str}{sp:Sp}{dvs:List V}{ds:List Value}{E:XK}{x m:Str}{p pos apos:Pos}{e o:Expr}{es:List Expr}{ta:TE}{t:TA}
theorem zdr {pins:List (Addr×Obj)}{σ:St}{H:Hp}{s:Shared}{Q:VK}{us:List Value}{vs:List V}(F:jN X.prog X.w X.K X.mg X.base CX k f fd ps sp) (hr:xb k X.A) (hb:jE X.K fd ps ds) (hd:zS dvs ds) (hx:ZA CX X E)
  (I:Inv X pins σ H s) (r:zS vs us) (h:sp (vs++dvs) H Q E):wpAny (model X.prog X.w) X.A (call (.ref f) us) (EP X pins σ Q) X.xe s:=by
 have r2:zS (vs++dvs) (us++ds):=r.append hd
 have hl:(us++ds).length=ps.length:=by rw[<-r2.length];exact F.len _ _ _ _ h
 refine wpAny_call (codeAny_mono (F.run X.A X.stack s H ⟨us,[]⟩ (us++ds) (vs++dvs) Q E hr I.env0 (hb s us I.kIn hl) r2 h) λr s' hq=>?_)
 cases r with
 | error e=>exact hx pins σ H s e s' I hq
 | ok fl =>
  cases fl with
  | ret u=>exact I.after hq
  | next=>exact False.elim hq
  | brk=>exact False.elim hq
  | cont=>exact False.elim hq
theorem zbA (F:jN X.prog X.w X.K X.mg X.base CX k f fd ps sp) (hr:xb k X.A) (hg:Gl X x) (hm:X.mg x=some (.ref f)) (hk:PySem.W.keepIn X.K (.ref f)=true) (hb:jE X.K fd ps ds) (hd:zS dvs ds) (hx:ZA CX X E)
  (ha:PA X (e::es) t) (hdb:(x == ("__debug__":Str))=false:=by decide) (he:starEach (e::es) X.env=(false,eval e X.env)::starEach es X.env:=by rfl) (hpl:(backTo pos (starEach es X.env)).any (·.1)=false:=by rfl) :
  PE X (.Call (.Name x p) (e::es) [] pos) (jq sp dvs E t):=by
 intro pins s σ H Q I h
 refine wpAny_Call_Name_kw (XG I hg hm ?_ hdb)
 refine PySem.W.callWith_K (h₀:=X.base) I.ok.mod.kin hk (thn (ha pos pins s σ H _ I h) λus s1 ⟨vs,H1,I1,r,q⟩=>⟨I1.kIn,?_⟩) he hpl
 exact zdr F hr hb hd hx I1 r q
structure Mk (K:PySem.W.Frag) (C f:Addr):Prop where
 makes:PySem.W.makesIn K C=true
 init:PySem.W.findIn K (.ref C) "__init__" = some (some (.ref f))
 fn:PySem.W.isFn K (.ref f)=true
 kp:PySem.W.keepIn K (.ref C)=true
theorem zah {pins:List (Addr×Obj)}{σ:St}{H:Hp}{s:Shared}{Q:VK}{us:List Value}{vs:List V}(M:Mk X.K C f) (F:jN X.prog X.w X.K X.mg X.base CX k f fd ps sp) (hr:xb (k+1) X.A) (hb:jE X.K fd ps ds) (hd:zS dvs ds)
  (hx:ZA CX X E) (I:Inv X pins σ H s) (r:zS vs us)
  (h:∀x dx,H x=none->H dx=none->dx≠x->sp (.ref x::(vs++dvs)) (upd (upd H dx (.own x)) x (.ins C dx [])) (λv H2=>v = .non/\Q (.ref x) H2) E) :
  wpAny (model X.prog X.w) X.A (call (.ref C) us) (EP X pins σ Q) X.xe s:=by
 have hq:=h (s.heap.objs.size+1) s.heap.objs.size (I.hok.fresh (Nat.le_succ _)) (I.hok.fresh (Nat.le_refl _)) (Nat.ne_of_lt (Nat.lt_succ_self _))
 have I2:=Inv.made (C:=C) I
 have r2:zS (V.ref (s.heap.objs.size+1)::(vs++dvs)) (Value.ref (s.heap.objs.size+1)::(us++ds)):=.cons rfl (r.append hd)
 have hl:(Value.ref (s.heap.objs.size+1)::us++ds).length=ps.length:=by
  have e:=r2.length
  rw[F.len _ _ _ _ hq]at e
  exact e.symm
 refine wpAny_call (JY (f:=f) I.kIn M.makes M.init (beq_iff_eq.mp M.fn) (codeAny_mono (F.run _ X.stack _ _ ⟨Value.ref (s.heap.objs.size+1)::us,[]⟩ (Value.ref (s.heap.objs.size+1)::(us++ds)) _ _ E (hr.make C us [])
  (I2.env0.make C us []) (hb _ (Value.ref (s.heap.objs.size+1)::us) I2.kIn hl) r2 hq) λr s' hq'=>?_))
 cases r with
 | error e=>exact hx pins σ _ _ e s' I2 hq'
 | ok fl =>
  cases fl with
  | ret u =>
   obtain⟨v,H',I3,rv,ev,q3⟩:=I2.after hq'
   subst ev
   exact⟨rv,⟨V.ref (s.heap.objs.size+1),H',I3,rfl,q3⟩⟩
  | next=>exact False.elim hq'
  | brk=>exact False.elim hq'
  | cont=>exact False.elim hq'
theorem zbD (M:Mk X.K C f) (F:jN X.prog X.w X.K X.mg X.base CX k f fd ps sp) (hr:xb (k+1) X.A) (hg:Gl X x) (hm:X.mg x=some (.ref C)) (hb:jE X.K fd ps ds) (hd:zS dvs ds) (hx:ZA CX X E)
  (ha:PA X (e::es) t) (hdb:(x == ("__debug__":Str))=false:=by decide) (he:starEach (e::es) X.env=(false,eval e X.env)::starEach es X.env:=by rfl) (hpl:(backTo pos (starEach es X.env)).any (·.1)=false:=by rfl) :
  PE X (.Call (.Name x p) (e::es) [] pos) (zeT C sp dvs E t):=by
 intro pins s σ H Q I h
 refine wpAny_Call_Name_kw (XG I hg hm ?_ hdb)
 refine PySem.W.callWith_K (h₀:=X.base) I.ok.mod.kin M.kp (thn (ha pos pins s σ H _ I h) λus s1 ⟨vs,H1,I1,r,q⟩=>⟨I1.kIn,?_⟩) he hpl
 exact zah M F hr hb hd hx I1 r q
end
structure zD (N P:List Str) (sc:Scope):Prop where
 kind:sc.kind = .function
 co:sc.isCoroutine=false
 gen:sc.isGenerator=false
 nd:N.Nodup
 pre:N.take P.length=P
 par:∀x∈P,sc.names.lookup x=some .local ∨ sc.names.lookup x=some .cell
 nofree:∀y∈sc.names,y.2≠.free
theorem Xg {kindOf:Str->Option NameKind}{x:Str}:∀{binds:List (Str×Value)}{m:Str->Option Value},(∀v,(x,v)∉binds)->bindL kindOf binds m x=m x
 | [],_,_=>rfl
 | (n,v)::r,m,h=>by
  unfold bindL
  rw[Xg λw hw=>h w (List.mem_cons_of_mem _ hw)]
  split
  ·have:x≠n:=by rintro rfl;exact h v List.mem_cons_self
   simp[this]
  ·rfl
theorem Xe {kindOf:Str->Option NameKind}{x:Str}:∀{binds:List (Str×Value)}{m:Str->Option Value},(∀v,(x,v)∉binds)->bindC kindOf binds m x=m x
 | [],_,_=>rfl
 | (n,v)::r,m,h=>by
  unfold bindC
  rw[Xe λw hw=>h w (List.mem_cons_of_mem _ hw)]
  split
  ·rfl
  ·have:x≠n:=by rintro rfl;exact h v List.mem_cons_self
   simp[this]
theorem Xf {kindOf:Str->Option NameKind}{x:Str}{v:Value}:∀{P:List Str}{vs:List Value}{i:Nat}{m:Str->Option Value},P.Nodup->P[i]? = some x->vs[i]? = some v->kindOf x=some .local →
  bindL kindOf (P.zip vs) m x=some v
 | [],_,_,_,_,h,_,_=>by simp at h
 | _::_,[],_,_,_,_,h,_=>by simp at h
 | p::P,w::vs,0,m,nd,h1,h2,hk=>by
  simp at h1 h2;subst h1;subst h2
  show bindL kindOf ((p,w)::P.zip vs) m p=_
  unfold bindL
  rw[Xg λv hv=>(List.nodup_cons.mp nd).1 (List.of_mem_zip hv).1,if_pos hk]
  simp
 | p::P,w::vs,i+1,m,nd,h1,h2,hk=>by
  show bindL kindOf ((p,w)::P.zip vs) m x=_
  unfold bindL
  exact Xf (i:=i) (List.nodup_cons.mp nd).2 (by simpa using h1) (by simpa using h2) hk
theorem Xd {kindOf:Str->Option NameKind}{x:Str}{v:Value}:∀{P:List Str}{vs:List Value}{i:Nat}{m:Str->Option Value},P.Nodup->P[i]? = some x->vs[i]? = some v->kindOf x≠some .local →
  bindC kindOf (P.zip vs) m x=some v
 | [],_,_,_,_,h,_,_=>by simp at h
 | _::_,[],_,_,_,_,h,_=>by simp at h
 | p::P,w::vs,0,m,nd,h1,h2,hk=>by
  simp at h1 h2;subst h1;subst h2
  show bindC kindOf ((p,w)::P.zip vs) m p=_
  unfold bindC
  rw[Xe λv hv=>(List.nodup_cons.mp nd).1 (List.of_mem_zip hv).1,if_neg hk]
  simp
 | p::P,w::vs,i+1,m,nd,h1,h2,hk=>by
  show bindC kindOf ((p,w)::P.zip vs) m x=_
  unfold bindC
  exact Xd (i:=i) (List.nodup_cons.mp nd).2 (by simpa using h1) (by simpa using h2) hk
def jG (N:List Str) (vs:List V):St:=vs.map some++List.replicate (N.length - vs.length) none
def Qn (CX:CXT) (P:Program) (w:World) (K:PySem.W.Frag) (mg:Str->Option Value) (base:Heap) (N:List Str) (qual:Str) (scope:Scope) (f:Addr) (cd:Value) (A:Around) (outer:List Env) (s:Shared) (H:Hp) (E:XK):Cx where
 prog:=P
 w:=w
 K:=K
 mg:=mg
 base:=base
 A:=A.deeper (envOfC qual scope s.heap.objs.size f cd)
 N:=N
 s₀:=s
 H₀:=H
 env:=envOfC qual scope s.heap.objs.size f cd
 outer:=outer
 stack:=envOfC qual scope s.heap.objs.size f cd::outer
 ex:=[]
 calm:=true
 fn:=λ_=>true
 pn:=[]
 xe:=λe s'=>wpAny (model P w) (A.deeper (envOfC qual scope s.heap.objs.size f cd)) (leaving (envOfC qual scope s.heap.objs.size f cd) e) (λ_ s''=>CX outer H s E e s'') (λe' s''=>CX outer H s E e' s'') s'
theorem Qk {sc:Scope}{n:Nat}{x:Str}(h:sc.names.lookup x=some .cell):∃c,(cellsFrom n sc.names []).lookup x=some c:=by
 have q:=PySem.W.cellsFrom_some sc.names n [] (.inl h)
 exact Option.isSome_iff_exists.mp q
theorem V2 {CX:CXT}{P:Program}{w:World}{K:PySem.W.Frag}{mg:Str->Option Value}{base:Heap}{N ps:List Str}{qual:Str}{scope:Scope}{f:Addr}{cd:Value}{A:Around}{outer:List Env}{s s1:Shared}{H:Hp}{E:XK}{us:List Value}{vs:List V}
  (S:zD N ps scope) (hd:A.handled=none) (e0:QH P w K mg base A outer s H) (hl:vs.length=ps.length) (r:zS vs us)
  (x:InCallC s s.heap.objs.size (bindL (envOfC qual scope s.heap.objs.size f cd).kindOf (ps.zip us) λ_=>none) (cellsFrom (s.heap.objs.size+1) scope.names []) (bindC (envOfC qual scope s.heap.objs.size f cd).kindOf (ps.zip us) λ_=>none) s1) :
  Inv (Qn CX P w K mg base N qual scope f cd A outer s H E) [] (jG N vs) H s1:=by
 have hpl:ps.length<=N.length:=by have:=congrArg List.length S.pre;rw[List.length_take]at this;omega
 obtain⟨h1,tk,rfl,hk⟩:=x.done
 have noA:∀b:Addr,b∉(Qn CX P w K mg base N qual scope f cd A outer s H E).ex:=λb z=>absurd (show b∈([]:List Addr)from z) (by simp)
 refine⟨⟨e0.mod,S.kind,rfl,rfl,Nat.le_refl _,λy z c h1 h2=>?_,λy hy=>?_,λy c _ h=>?_,λ_=>hd,Around.frames_deeper e0.frames,.inr ⟨rfl,rfl⟩,λb z=>absurd z (noA b),e0.bs,e0.bsz,λb _ _=>noA b,λb z=>absurd z (noA b),e0.funs,e0.frf⟩,
  rfl,e0.bare,Un.kept hk,⟨_,x.toInCall.ns,λi y v h1 h2 h3=>?_⟩,λy c h=>⟨_,x.cell y c h⟩,e0.hok.fresh (Nat.le_refl _),λy c h=>?_,λp hp=>absurd (show p∈([]:List (Addr×Obj))from hp) (by simp),e0.hok.kept hk,?_⟩
 ·exact name_of_addr x.apart (PySem.mem_of_lookup h1) (PySem.mem_of_lookup h2)
 ·have hy:scope.names.lookup y=some .cell\/scope.names.lookup y=some .free:=hy
  rcases hy with hy | hy
  ·exact Qk hy
  ·exact absurd rfl (S.nofree _ (PySem.mem_of_lookup hy))
 ·exact Nat.le_of_lt (x.above y c (PySem.mem_of_lookup h))
 ·have hi:i<vs.length:=by
   unfold jG at h2
   by_cases hi:i<vs.length
   ·exact hi
   ·rw[List.getElem?_append_right (by simpa using hi)]at h2
    rw[List.getElem?_replicate]at h2
    split at h2 <;> cases h2
  have ha:vs[i]? = some v:=by
   unfold jG at h2
   rw[List.getElem?_append_left (by simpa using hi),List.getElem?_map]at h2
   cases e:vs[i]? with
   | none=>rw[e]at h2;cases h2
   | some a=>rw[e]at h2;cases h2;rfl
  obtain⟨u,hu,rv⟩:=r.get ha
  have hp:ps[i]? = some y:=by
   rw[<-S.pre,List.getElem?_take_of_lt (by omega)];exact h1
  have ndP:ps.Nodup:=by rw[<-S.pre];exact S.nd.sublist (List.take_sublist _ _)
  refine⟨u,rv,?_⟩
  rcases S.par y (List.mem_of_getElem? hp)with k | k
  ·exact .inl ⟨k,Xf ndP hp hu k⟩
  ·obtain⟨c,e⟩:=Qk (n:=s.heap.objs.size+1) k
   refine .inr ⟨.inl k,c,e,?_⟩
   have q:=x.cell y c e
   rw[Xd ndP hp hu (by show scope.names.lookup y≠_;rw[k];decide)]at q
   exact q
 ·exact e0.hok.fresh (Nat.le_of_lt (x.above y c (PySem.mem_of_lookup h)))
 ·unfold jG
  show _=N.length
  rw[List.length_append,List.length_map,List.length_replicate]
  omega
theorem zca {CX:CXT}{P:Program}{w:World}{K:PySem.W.Frag}{mg:Str->Option Value}{base:Heap}{k:Nat}{f:Addr}{name qual:Str}{params:Arguments}{body:List Stmt}{scope:Scope}{dV kV doc pm cdv ct oc:Value}{an od:Option Addr}
  {osl:Array (Option Value)}{N ps:List Str}{sp:Sp}(lk:K.lookup f=some ⟨oc,od,.func (PySem.W.fnOf name qual params body scope dV kV doc pm an cdv ct),osl⟩) (hcd:PySem.W.codeIn K cdv qual=true) (S:zD N ps scope)
  (len:∀vs H Q E,sp vs H Q E->vs.length=ps.length)
  (hbody:∀(A:Around) (outer:List Env) (s:Shared) (H:Hp) (vs:List V) (Q:VK) (E:XK),xb k (A.deeper (envOfC qual scope s.heap.objs.size f cdv))->sp vs H Q E →
   ∃t,PSs (Qn CX P w K mg base N qual scope f cdv A outer s H E) body t/\t { nx:=λ_ H'=>Q .non H',rt:=Q } (jG N vs) H) :
  jN P w K mg base CX (k+1) f (PySem.W.fnOf name qual params body scope dV kV doc pm an cdv ct) ps sp:=by
 refine⟨len,λA outer s H args us vs Q E hr e0 hb r hsp=>?_⟩
 have hl:=len _ _ _ _ hsp
 have KX:K.In s.heap:=e0.mod.kin.keeps λb o e=>(e0.bs b o e).1
 have lim:s.heap.NoLimit:=e0.mod.nolimit.keeps λb o e=>(e0.bs b o e).1
 have hkind:∀y∈ps.zip us,scope.names.lookup y.1=some .local ∨ (scope.names.lookup y.1=some .cell/\((cellsFrom (s.heap.objs.size+1) scope.names []).lookup y.1).isSome=true):=λ⟨n,v⟩ hy=>by
  rcases S.par n (List.of_mem_zip hy).1 with q | q
  ·exact .inl q
  ·exact .inr ⟨q,PySem.W.cellsFrom_some _ _ _ (.inl q)⟩
 refine codeAny_call_function hr.depth (KX _ _ lk) rfl S.co S.gen rfl (PySem.W.codeRec_of KX hcd) (hb _ _ _ _ ?_)
 refine wpAny_newFunctionEnv_cells S.kind hkind λenv he s1 x=>?_
 subst he
 refine⟨lim.keeps x.toInCall.keep,codeAny_func ?_⟩
 obtain⟨t,ht,hq⟩:=hbody A outer s H vs Q E (hr.deeper _) hsp
 have I:Inv (Qn CX P w K mg base N qual scope f cdv A outer s H E) [] (jG N vs) H s1:=V2 S hr.hd e0 hl r x
 refine wpAny_mono (ht [] s1 (jG N vs) H _ I hq) (λfl s' hs=>?_) λe s' hs=>hs
 have fin:∀{σ':St}{H':Hp}{v:V}{u:Value},Inv (Qn CX P w K mg base N qual scope f cdv A outer s H E) [] σ' H' s'->xj v u->Q v H'->CE outer P w H s Q u s' :=
  λ{σ' H' v u} J rv q=>⟨v,H',J.os,J.bare,J.base,J.hok,rv,q⟩
 cases fl with
 | ret u =>
  obtain⟨v,σ',H',J,rv,q⟩:=hs
  exact fin J rv q
 | next =>
  obtain⟨σ',H',J,q⟩:=hs
  exact fin (v:=V.non) (u:=Value.none) J rfl q
 | brk =>
  obtain⟨_,_,_,q⟩:=hs
  exact False.elim q
 | cont =>
  obtain⟨_,_,_,q⟩:=hs
  exact False.elim q
end L2
namespace L2
open PySem PySem.Spec PyProof.Rows
section
variable {X:Cx}{x:Str}{p pos:Pos}{e:Expr}{es:List Expr}{t:TA}{id T:String}{r:List V->Hp->VK->Prop}
def tCB (r:List V->Hp->VK->Prop) (t:TA):TE:=λσ H Q=>t σ H λvs H1=>r vs H1 Q
theorem zL (hc:jb X (.builtin id) r) (hg:Gl X x) (hm:X.mg x=none) (hv:bootBuiltins x=some (.builtin id)) (ha:PA X (e::es) t) (hn:x≠"__name__":=by decide) (hdb:(x == ("__debug__":Str))=false:=by decide)
  (he:starEach (e::es) X.env=(false,eval e X.env)::starEach es X.env:=by rfl) (hpl:(backTo pos (starEach es X.env)).any (·.1)=false:=by rfl):PE X (.Call (.Name x p) (e::es) [] pos) (tCB r t):=by
 intro pins s σ H Q I h
 refine wpAny_Call_Name_kw (ZL I hg hm hv ?_ hn hdb)
 exact PyProof.Rows.callWith_builtin1 (thn (ha pos pins s σ H _ I h) λus s1 ⟨vs,H1,I1,r1,q1⟩=>hc pins s1 σ H1 vs us Q I1 r1 q1) he hpl
theorem jv (hc:jb X (.type T) r) (hg:Gl X x) (hm:X.mg x=none) (hv:bootBuiltins x=some (.type T)) (ha:PA X (e::es) t) (hn:x≠"__name__":=by decide) (hdb:(x == ("__debug__":Str))=false:=by decide)
  (he:starEach (e::es) X.env=(false,eval e X.env)::starEach es X.env:=by rfl) (hpl:(backTo pos (starEach es X.env)).any (·.1)=false:=by rfl):PE X (.Call (.Name x p) (e::es) [] pos) (tCB r t):=by
 intro pins s σ H Q I h
 refine wpAny_Call_Name_kw (ZL I hg hm hv ?_ hn hdb)
 exact PyProof.Rows.callWith_type1 (thn (ha pos pins s σ H _ I h) λus s1 ⟨vs,H1,I1,r1,q1⟩=>hc pins s1 σ H1 vs us Q I1 r1 q1) he hpl
end
end L2
namespace HT
open PySem PyProof.Rows
section
variable {prog:Program}{w:World}{A:Around}{E:Value->Shared->Prop}{s:Shared}
theorem cat_tup {t b:Addr}{vs ws:List Value}{Q:Value->Shared->Prop}(ht:IsTup s.heap t vs.toArray) (hb:IsTup s.heap b ws.toArray) (hv:vs≠[])
  (h1:ws=[]->Q (.ref t) s) (h2:ws≠[]->Q (.ref s.heap.objs.size) { s with heap:=s.heap.push { cls:=.type "tuple",data:=.seq (vs++ws).toArray } })
  (hsz:vs.length+ws.length<=sizeLine):wpAny (model prog w) A (binaryOp .Add (.ref t) (.ref b)) Q E s:=by
 obtain⟨⟨cls,dd,data,sl⟩,ho,hc,n,hd⟩:=id ht
 obtain⟨⟨cls2,dd2,data2,sl2⟩,ho2,hc2,n2,hd2⟩:=id hb
 simp only at hc hd hc2 hd2
 subst hc hd hc2 hd2
 have e:vs.toArray++ws.toArray=(vs++ws).toArray:=by simp
 by_cases hw:ws=[]
 ·exact concat_meets ⟨_,ho,rfl⟩ ⟨_,ho2,rfl⟩ noFill_tuple_add seq_tuple_add PySem.F.slot_tuple_add PySem.F.entry_tuple_add (PySem.F.args_tuple_add_2 _ _)
   (tuple_addW1 t b vs.toArray ws.toArray n n2 dd dd2 sl sl2 (by simpa using hv) (by simp[hw])) ⟨ho,ho2,h1 hw⟩
 ·refine concat_meets ⟨_,ho,rfl⟩ ⟨_,ho2,rfl⟩ noFill_tuple_add seq_tuple_add PySem.F.slot_tuple_add PySem.F.entry_tuple_add (PySem.F.args_tuple_add_2 _ _)
   (tuple_addW2 t b vs.toArray ws.toArray n n2 dd dd2 sl sl2 (by simpa using hv) (by simpa using hw) (by rw[List.size_toArray,List.size_toArray];exact hsz)) ⟨ho,ho2,?_⟩
  rw[e]
  exact h2 hw
def sIx (n d:Nat):Option Int->Nat
 | none=>d
 | some v=>if v<0 then(v+(n:Int)).toNat else min v.toNat n
theorem sIx_none (n d:Nat):sIx n d none=d:=rfl
theorem sIx_nat (n d k:Nat):sIx n d (some (k:Int))=min k n:=by
 show (if(k:Int)<0 then((k:Int)+(n:Int)).toNat else min (k:Int).toNat n)=min k n
 rw[if_neg (by omega),Int.toNat_natCast]
theorem zdt (n d:Nat) (hd:d<=n) (o:Option Int):sIx n d o<=n:=by
 cases o with
 | none=>exact hd
 | some v =>
  show (if v<0 then(v+(n:Int)).toNat else min v.toNat n)<=n
  by_cases hv:v<0
  ·rw[if_pos hv];omega
  ·rw[if_neg hv];exact Nat.min_le_right _ _
theorem Vo (v:Int) (n d:Nat):(if v<0 then max (v+(n:Int)) 0 else min v (n:Int))=((sIx n d (some v):Nat):Int):=by
 show (if v<0 then max (v+(n:Int)) 0 else min v (n:Int))=(((if v<0 then(v+(n:Int)).toNat else min v.toNat n):Nat):Int)
 by_cases hv:v<0
 ·simp only[if_pos hv];omega
 ·simp only[if_neg hv];omega
theorem QJ (lo hi:Option Int) (n:Nat):Builtin.Slice.sliceAdjust lo hi 1 (n:Int)=(((sIx n 0 lo:Nat):Int),((sIx n n hi:Nat):Int)):=by
 have h1:¬((1:Int)<0):=by omega
 unfold Builtin.Slice.sliceAdjust
 simp only[h1,if_false]
 refine Prod.ext ?_ ?_
 ·cases lo with
  | none=>rfl
  | some v=>exact Vo v n 0
 ·cases hi with
  | none=>rfl
  | some v=>exact Vo v n n
theorem Q8 (i j:Nat):Builtin.Slice.slicePlaces (i:Int) (j:Int) 1=j - i:=by
 unfold Builtin.Slice.slicePlaces
 have h1:(1:Int)>0:=by omega
 simp only[h1,if_true,Int.ediv_one]
 split <;> omega
theorem ZU {v:Value}{o:Option Int}{Q:Option Int->Shared->Prop}(p:IsPart v o) (h:Q o s):wpAny (model prog w) A (Builtin.Slice.slicePartIndex v) Q E s:=by
 cases p with
 | none=>exact slicePart_none h
 | int i t=>exact slicePart_int h
theorem vW {sl:Addr}{vl vu:Value}{lo hi:Option Int}{n:Nat}{Q:Int×Int×Nat->Shared->Prop}(hs:s.heap.IsSliceOf sl vl vu .none) (pl:IsPart vl lo) (pu:IsPart vu hi)
  (h:Q (((sIx n 0 lo:Nat):Int),1,sIx n n hi - sIx n 0 lo) s):wpAny (model prog w) A (Builtin.Slice.sliceApplied (.ref sl) (pure (n:Int))) Q E s:=by
 obtain⟨os,hos,hcs,hds⟩:=id hs
 unfold Builtin.Slice.sliceApplied Builtin.Slice.sliceFields
 refine wpAny_bind (wpAny_bind (wpAny_field hos hds (x:=vl) rfl (wpAny_bind (wpAny_field hos hds (x:=vu) rfl (wpAny_bind (wpAny_field hos hds (x:=.none) rfl (wpAny_pure ?_)))))))
 refine wpAny_bind (slicePart_none ?_)
 show wpAny _ _ (if((1:Int) == 0)=true then _ else _) _ _ s
 rw[if_neg (by decide)]
 refine wpAny_bind (ZU pl (wpAny_bind (ZU pu (wpAny_bind (wpAny_pure ?_)))))
 show wpAny _ _ (match Builtin.Slice.sliceAdjust lo hi 1 (n:Int)with | (lo,hi)=>pure (lo,(1:Int),Builtin.Slice.slicePlaces lo hi 1)) _ _ s
 rw[QJ lo hi n]
 show wpAny _ _ (pure (((sIx n 0 lo:Nat):Int),(1:Int),Builtin.Slice.slicePlaces ((sIx n 0 lo:Nat):Int) ((sIx n n hi:Nat):Int) 1)) _ _ s
 rw[Q8]
 exact wpAny_pure h
theorem zab (xs:Array Value) (i k:Nat):((List.range k).filterMap λ(m:Nat)=>xs[((i:Int)+(m:Int)*1).toNat]?).toArray=((xs.toList.drop i).take k).toArray:=by
 have e:(λ(m:Nat)=>xs[((i:Int)+(m:Int)*1).toNat]?)=λm=>xs[i+m]?:=by
  funext m
  have:((i:Int)+(m:Int)*1).toNat=i+m:=by omega
  rw[this]
 rw[e]
 have:=pick_run xs i k
 rw[List.filterMap_map]at this
 have e2:((λx=>xs[x]?) ∘ λx=>i+x)=λm=>xs[i+m]?:=rfl
 rw[e2]at this
 rw[this]
theorem getItem_tuple_cut {t sl:Addr}{items:Array Value}{vl vu:Value}{lo hi:Option Int}{Q:Value->Shared->Prop}(ht:IsTup s.heap t items) (hs:s.heap.IsSliceOf sl vl vu .none) (pl:IsPart vl lo) (pu:IsPart vu hi)
  (hw:¬(sIx items.size 0 lo=0/\sIx items.size items.size hi=items.size))
  (h:Q (.ref s.heap.objs.size) { s with heap:=s.heap.push { cls:=.type "tuple",data:=.seq ((items.toList.drop (sIx items.size 0 lo)).take (sIx items.size items.size hi - sIx items.size 0 lo)).toArray } })
  (hsz:items.size<=sizeLine):wpAny (model prog w) A (getItem (.ref t) (.ref sl)) Q E s:=by
 have htake:sizeOk (.seq ((items.toList.drop (sIx items.size 0 lo)).take (sIx items.size items.size hi - sIx items.size 0 lo)).toArray):=by
  show ((items.toList.drop (sIx items.size 0 lo)).take (sIx items.size items.size hi - sIx items.size 0 lo)).toArray.size<=sizeLine
  rw[List.size_toArray,List.length_take,List.length_drop,Array.length_toList]
  omega
 have hj:sIx items.size items.size hi<=items.size:=zdt _ _ (Nat.le_refl _) hi
 obtain⟨os,hos,hcs,hds⟩:=id hs
 have hTs:s.TypeIs (.ref sl) "slice":=⟨os,hos,hcs⟩
 unfold getItem
 try with_reducible refine wpAny_holding ?_
 first | refine wpAny_bind (wpAny_pure ?_) | skip
 refine wpAny_bind (wpAny_sequenceKey ht.typeIs (by decide) ?_)
 refine wpAny_bind (wpAny_callSpecial?_slot (name:=Str.ofString "__getitem__") ht.typeIs PyProof.Rows.slot_tuple_getitem
  (wpAny_call_entry PyProof.Rows.slot_tuple_getitem ht.typeIs entry_tuple_getitem ?_ (args_tuple_getitem _ _)))
 show wpAny _ _ (Builtin.Tuple.tupleItemsOf (.ref t) >>= _) _ _ s
 refine wpAny_bind (tupleItemsOf_ ht ?_)
 refine wpAny_bind (wpAny_typeOf hTs ?_)
 rw[if_pos (by decide)]
 refine wpAny_bind (vW hs pl pu ?_)
 have hno:¬((((sIx items.size 0 lo:Nat):Int) == 0&&(1:Int) == 1&&(sIx items.size items.size hi - sIx items.size 0 lo) == items.size)=true):=by
  intro q
  rw[Bool.and_eq_true,Bool.and_eq_true]at q
  have q1:((sIx items.size 0 lo:Nat):Int)=0:=eq_of_beq q.1.1
  have q2:sIx items.size items.size hi - sIx items.size 0 lo=items.size:=eq_of_beq q.2
  exact hw ⟨by omega,by omega⟩
 show wpAny _ _ (if(((sIx items.size 0 lo:Nat):Int) == 0&&(1:Int) == 1&&(sIx items.size items.size hi - sIx items.size 0 lo) == items.size)=true then _ else _) _ _ s
 rw[if_neg hno,zab]
 first
  | exact wpAny_bind (m:=Builtin.Tuple.tupleExact _) (wpAny_newObj_type (wpAny_pure ⟨_,rfl,wpAny_pure h⟩) htake)
  | exact wpAny_bind (m:=Builtin.Tuple.tupleExact _) (wpAny_newObj_type (wpAny_bind (wpAny_pure (wpAny_pure ⟨_,rfl,wpAny_pure h⟩))) htake)
  | exact wpAny_bind (wpAny_bind (m:=Builtin.Tuple.tupleExact _) (wpAny_newObj_type (wpAny_pure (wpAny_pure ⟨_,rfl,wpAny_pure h⟩)) htake))
  | exact wpAny_bind (wpAny_bind (m:=Builtin.Tuple.tupleExact _) (wpAny_newObj_type (wpAny_pure ⟨_,rfl,wpAny_pure h⟩) htake))
end
end HT
namespace L2
open PySem PySem.Spec PyProof.Rows
abbrev TO:=St->Hp->(Option Int->Hp->Prop)->Prop
def PO (X:Cx) (e:Option Expr) (t:TO):Prop :=
 ∀(pins:List (Addr×Obj)) (s:Shared) (σ:St) (H:Hp) (Q:Option Int->Hp->Prop),Inv X pins σ H s->t σ H Q →
  wpAny (model X.prog X.w) X.A (evalPart e X.env) (λu s'=>∃o H',Inv X pins σ H' s'/\IsPart u o/\Q o H') X.xe s
def zbY:TO:=λ_ H Q=>Q none H
def zeV (t:TE):TO:=λσ H Q=>t σ H λx H1=>∃i,x = .int i/\Q (some i) H1
theorem QT {ns:List Int}:∀{us:List Value},zS (ns.map V.int) us->IntsAre us ns:=by
 induction ns with
 | nil=>intro us r;rw[List.map_nil]at r;cases r;exact .nil
 | cons n ns ih =>
  intro us r
  rw[List.map_cons]at r
  cases r with
  | cons r1 r2 =>
   obtain⟨t,e⟩:=r1
   subst e
   exact .cons n t (ih r2)
section
variable {X:Cx}{e:Expr}{te:TE}{lo hi:Option Expr}{tl th:TO}{pos p2:Pos}
theorem jw:PO X none zbY:=by
 intro pins s σ H Q I h
 rw[evalPart_none]
 exact wpAny_pure ⟨none,H,I,.none,h⟩
theorem jx (h:PE X e te):PO X (some e) (zeV te):=by
 intro pins s σ H Q I hw
 rw[evalPart_some]
 refine thn (h pins s σ H _ I hw) λu s1 ⟨x,H1,I1,r1,q1⟩=>?_
 obtain⟨i,rfl,q⟩:=q1
 obtain⟨t,rfl⟩:=r1
 exact⟨some i,H1,I1,.int i t,q⟩
def SlR (X:Cx) (r:V->Option Int->Option Int->Hp->VK->Prop):Prop :=
 ∀(pins:List (Addr×Obj)) (s:Shared) (σ:St) (H:Hp) (x:V) (v vl vu:Value) (lo hi:Option Int) (sl:Addr) (Q:VK),Inv X pins σ H s->xj x v->s.heap.IsSliceOf sl vl vu .none->IsPart vl lo->IsPart vu hi->r x lo hi H Q →
  ∃T id,typeLookup (.type T) "__getitem__" = pure (some (.builtin id))/\s.TypeIs v T/\wpAny (model X.prog X.w) X.A (getItem v (.ref sl)) (EP X pins σ Q) X.xe s
theorem SlR.or {r r':V->Option Int->Option Int->Hp->VK->Prop}(h:SlR X r) (h':SlR X r'):SlR X (λx lo hi H Q=>r x lo hi H Q\/r' x lo hi H Q):=by
 intro pins s σ H x v vl vu lo hi sl Q I rx hs pl pu q
 rcases q with q | q
 ·exact h pins s σ H x v vl vu lo hi sl Q I rx hs pl pu q
 ·exact h' pins s σ H x v vl vu lo hi sl Q I rx hs pl pu q
def tSl (r:V->Option Int->Option Int->Hp->VK->Prop) (te:TE) (tl th:TO):TE:=λσ H Q=>te σ H λx H1=>tl σ H1 λl H2=>th σ H2 λu H3=>r x l u H3 Q
theorem vO {r:V->Option Int->Option Int->Hp->VK->Prop}(hr:SlR X r) (he:PE X e te) (hl:PO X lo tl) (hu:PO X hi th):PE X (.Subscript e (.Slice lo hi none p2) pos) (tSl r te tl th):=by
 intro pins s σ H Q I h
 refine Subscript_ (thn (he pins s σ H _ I h) λv s1 ⟨x,H1,I1,r1,q1⟩=>?_)
 refine wpAny_Slice (thn (hl pins s1 σ H1 _ I1 q1) λvl s2 ⟨l,H2,I2,pl,q2⟩=>thn (hu pins s2 σ H2 _ I2 q2) λvu s3 ⟨u,H3,I3,pu,q3⟩=>?_)
 rw[evalPart_none]
 refine wpAny_pure ?_
 have I4:Inv X pins σ H3 { s3 with heap:=s3.heap.push { cls:=.type "slice",data:=.fields #[vl,vu,.none] } }:=I3.kept (t':=s3.toks) λb ob q=>Heap.get?_push_of_some _ q
 obtain⟨T,id,hT,ht,hg⟩:=hr pins { s3 with heap:=s3.heap.push { cls:=.type "slice",data:=.fields #[vl,vu,.none] } } σ H3 x v vl vu l u s3.heap.objs.size Q I4 r1 (Heap.IsSliceOf.new ..) pl pu q3
 show wpAny (model X.prog X.w) X.A (subscriptTail e (.Slice lo hi none p2) v (.ref s3.heap.objs.size)) (EP X pins σ Q) X.xe { s3 with heap:=s3.heap.push { cls:=.type "slice",data:=.fields #[vl,vu,.none] } }
 exact tail_any (ops:=[.ref s3.heap.objs.size,v]) ht hT hg (by with_unfolding_all rfl)
def jg (xs:List V) (lo hi:Option Int):List V:=(xs.drop (HT.sIx xs.length 0 lo)).take (HT.sIx xs.length xs.length hi - HT.sIx xs.length 0 lo)
theorem Zk (xs:List V) (lo hi:Option Int):(jg xs lo hi).length<=xs.length:=by
 unfold jg
 rw[List.length_take,List.length_drop]
 omega
def zeo (K:PySem.W.Frag):V->Option Int->Option Int->Hp->VK->Prop:=λx lo hi H Q=>∃a xs,x = .ref a/\SqT K H a xs ∧
 ¬(HT.sIx xs.length 0 lo=0/\HT.sIx xs.length xs.length hi=xs.length)/\∀p,H p=none->Q (.ref p) (upd H p (.tup (jg xs lo hi)))
theorem X0:SlR X (zeo X.K):=by
 intro pins s σ H x v vl vu lo hi sl Q I rx hs pl pu h
 obtain⟨a,xs,rfl,hx,hw,q⟩:=h
 cases rx
 obtain⟨its,r,ht,hz⟩:=I.tuple hx
 have hlen:its.toArray.size=xs.length:=by rw[List.size_toArray];exact r.length.symm
 refine⟨"tuple",_,PyProof.Rows.slot_tuple_getitem.lookup,ht.typeIs,?_⟩
 refine HT.getItem_tuple_cut ht hs pl pu (by rw[hlen];exact hw) ?_ (by rw[hlen];exact hz)
 rw[hlen]
 refine⟨.ref s.heap.objs.size,_,I.laid (t':=s.toks) (o:=.tup (jg xs lo hi)) (λb ob q=>Heap.get?_push_of_some _ q) (Nat.le_refl _) ?_,rfl,q _ (I.hok.fresh (Nat.le_refl _))⟩
 exact⟨Nat.le_trans (Zk xs lo hi) hz,_,(r.drop (HT.sIx xs.length 0 lo)).take (HT.sIx xs.length xs.length hi - HT.sIx xs.length 0 lo),IsTup.new _ _⟩
def zel (K:PySem.W.Frag):R2:=λx y H Q=>∃a b xs ys,x = .ref a/\y = .ref b/\SqT K H a xs/\SqT K H b ys/\xs≠[]/\xs.length+ys.length<=sizeLine ∧
 (ys=[]->Q (.ref a) H)/\(ys≠[]->∀p,H p=none->Q (.ref p) (upd H p (.tup (xs++ys))))
theorem zS.nil_iff {xs:List V}{us:List Value}(r:zS xs us):us=[]↔xs=[]:=by
 cases r with
 | nil=>simp
 | cons _ _=>simp
theorem zby:OpR X (binaryOp .Add) (zel X.K):=by
 intro pins s σ H x y v u Q I rx ry h
 obtain⟨a,b,xs,ys,rfl,rfl,ha,hb,hx,hz,q1,q2⟩:=h
 cases rx
 cases ry
 obtain⟨its,r1,p1,_⟩:=I.tuple ha
 obtain⟨its2,r2,p2,_⟩:=I.tuple hb
 refine HT.cat_tup p1 p2 (λz=>hx (r1.nil_iff.mp z)) (λz=>⟨.ref a,H,I,rfl,q1 (r2.nil_iff.mp z)⟩) (λz=>?_) (by rw[<-r1.length,<-r2.length];exact hz)
 refine⟨.ref s.heap.objs.size,_,I.laid (t':=s.toks) (o:=.tup (xs++ys)) (λb ob q=>Heap.get?_push_of_some _ q) (Nat.le_refl _) ?_,rfl,q2 (λw=>z (r2.nil_iff.mpr w)) _ (I.hok.fresh (Nat.le_refl _))⟩
 exact⟨by rw[List.length_append];exact hz,_,r1.append r2,IsTup.new _ _⟩
end
end L2
namespace L2
open PySem PySem.Spec PyProof.Rows
def ixN (n:Nat) (i:Int):Option Nat:=if 0<=i then(if i<n then some i.toNat else none)else if -(n:Int)<=i then some (i+n).toNat else none
def atI {α:Type}(xs:List α) (i:Int):Option α:=(ixN xs.length i).bind λj=>xs[j]?
theorem Vv {n:Nat}{i:Int}{j:Nat}(h:ixN n i=some j):seqIndex? i n=some j/\j<n ∧ -(n:Int)<=i/\i<n:=by
 unfold ixN at h
 by_cases h0:0<=i
 ·rw[if_pos h0]at h
  by_cases h1:i<n
  ·rw[if_pos h1]at h
   have e:i.toNat=j:=Option.some.inj h
   exact⟨by rw[seqIndex_of h0 h1,e],by omega,by omega,h1⟩
  ·rw[if_neg h1]at h;cases h
 ·rw[if_neg h0]at h
  by_cases h1 : -(n:Int)<=i
  ·rw[if_pos h1]at h
   have e:(i+n).toNat=j:=Option.some.inj h
   exact⟨by rw[seqIndex_neg (by omega) h1,e],by omega,h1,by omega⟩
  ·rw[if_neg h1]at h;cases h
theorem Vl {α:Type}{xs:List α}{i:Int}{v:α}(h:atI xs i=some v):∃j,seqIndex? i xs.length=some j/\xs[j]? = some v/\j<xs.length ∧ -(xs.length:Int)<=i/\i<xs.length:=by
 unfold atI at h
 cases e:ixN xs.length i with
 | none=>rw[e]at h;cases h
 | some j =>
  rw[e]at h
  obtain⟨h1,h2,h3,h4⟩:=Vv e
  exact⟨j,h1,h,h2,h3,h4⟩
theorem qX {α:Type}{xs:List α}{j:Nat}{v:α}(h:xs[j]? = some v):atI xs (j:Int)=some v:=by
 have hj:j<xs.length:=(List.getElem?_eq_some_iff.mp h).1
 have e:ixN xs.length (j:Int)=some j:=by
  unfold ixN
  rw[if_pos (by omega),if_pos (by omega)];simp
 unfold atI;rw[e];exact h
def Vj (b:Expr):Prop:=∀o i,subscripted b false o i=operate [o,i] (getItem o i)
def IxR (X:Cx) (r:R2):Prop :=
 ∀(value slice:Expr) (pins:List (Addr×Obj)) (s:Shared) (σ:St) (H:Hp) (x y:V) (v u:Value) (Q:VK),Inv X pins σ H s->xj x v->xj y u->r x y H Q →
  subscripted slice false v u=operate [v,u] (getItem v u)->wpAny (model X.prog X.w) X.A (subscriptTail value slice v u) (EP X pins σ Q) X.xe s
def MtR (X:Cx) (id:String) (r:V->List V->Hp->VK->Prop):Prop :=
 ∀(pins:List (Addr×Obj)) (s:Shared) (σ:St) (H:Hp) (x:V) (xs:List V) (v:Value) (us:List Value) (Q:VK),Inv X pins σ H s->xj x v->zS xs us->r x xs H Q →
  wpAny (model X.prog X.w) X.A (call (.builtin id) (v::us)) (EP X pins σ Q) X.xe s
section
variable {X:Cx}{a b:Expr}{ta tb:TE}{pos:Pos}
theorem zn {r:R2}(hr:IxR X r) (ha:PE X a ta) (hb:PE X b tb) (hs:Vj b):PE X (.Subscript a b pos) (tOp r ta tb):=by
 intro pins s σ H Q I h
 exact Subscript_ (zcF ha hb I h λv u s2 x y H2 I2 rx ry q=>hr a b pins s2 σ H2 x y v u Q I2 rx ry q (hs _ _))
def rIxL (K:PySem.W.Frag):R2:=λx y H Q=>∃p xs i v,x = .ref p/\y = .int i/\SqL K H p xs/\atI xs i=some v/\Q v H
def vz (K:PySem.W.Frag):R2:=λx y H Q=>∃p xs i v,x = .ref p/\y = .int i/\SqT K H p xs/\atI xs i=some v/\Q v H
theorem zV:IxR X (rIxL X.K):=by
 intro value slice pins s σ H x y v u Q I rx ry h hs
 obtain⟨p,xs,i,z,rfl,rfl,hq,he,q⟩:=h
 cases rx
 obtain⟨t,rfl⟩:=ry
 obtain⟨its,r,pl,hz⟩:=I.list hq
 obtain⟨j,h1,h2,h3,h4,h5⟩:=Vl he
 obtain⟨w,ew,rw'⟩:=r.get h2
 have hl:=r.length
 have hn:=ZN
 have fin:EP X pins σ Q w s:=⟨z,H,I,rw',q⟩
 by_cases h0:0<=i
 ·have hj:i.toNat=j:=by
   rw[seqIndex_of h0 h5]at h1
   exact Option.some.inj h1
  exact item_listR pl.isList h0 (by omega) (by rw[hj];simpa using ew) fin hs
 ·have hj:(i+(its.toArray.size:Int)).toNat=j:=by
   rw[seqIndex_neg (by omega) h4]at h1
   rw[List.size_toArray,<-hl]
   exact Option.some.inj h1
  exact subscriptTail_builtinR (x:=w) pl.isList.typeIs slot_list_getitem.lookup
   (wpAny_getItem_list_neg (Q:=λr s'=>r=w/\EP X pins σ Q r s') pl.isList (by omega) (by rw[List.size_toArray] <;> omega) (by omega) (by rw[hj];simpa using ew) ⟨rfl,fin⟩) hs
theorem zm:IxR X (vz X.K):=by
 intro value slice pins s σ H x y v u Q I rx ry h hs
 obtain⟨p,xs,i,z,rfl,rfl,hq,he,q⟩:=h
 cases rx
 obtain⟨t,rfl⟩:=ry
 obtain⟨its,r,pl,hz⟩:=I.tuple hq
 obtain⟨j,h1,h2,h3,h4,h5⟩:=Vl he
 obtain⟨w,ew,rw'⟩:=r.get h2
 have hl:=r.length
 have hn:=ZN
 have fin:EP X pins σ Q w s:=⟨z,H,I,rw',q⟩
 exact subscriptTail_builtinR (x:=w) pl.typeIs slot_tuple_getitem.lookup
  (getItem_tuple (j:=j) (Q:=λr s'=>r=w/\EP X pins σ Q r s') pl (by omega) (by omega) (by rw[List.size_toArray,<-hl];exact h1) (by simpa using ew) ⟨rfl,fin⟩) hs
theorem QZ (its:List Value) (n j:Nat) (u:Value):Obj.mapSeq (·.setIfInBounds j u) { cls:=.type "list",data:=.seq its.toArray n } = { cls:=.type "list",data:=.seq (its.set j u).toArray n }:=by
 simp[Obj.mapSeq]
theorem Inv.lst {pins:List (Addr×Obj)}{σ:St}{H:Hp}{s:Shared}{p:Addr}{xs:List V}(I:Inv X pins σ H s) (h:H p=some (.lst xs)) :
  ∃(its:List Value) (n:Nat),zS xs its/\s.heap.get? p=some { cls:=.type "list",data:=.seq its.toArray n }/\xs.length<=sizeLine:=by
 obtain⟨z,its,n,r,e⟩:=I.hok p _ h
 exact⟨its,n,r,e,z⟩
theorem Inv.lstUpd {pins:List (Addr×Obj)}{σ:St}{H:Hp}{s:Shared}{p:Addr}{xs ys:List V}{its its':List Value}{n n':Nat}{f:Obj->Obj}(I:Inv X pins σ H s) (h:H p=some (.lst xs))
  (ho:s.heap.get? p=some { cls:=.type "list",data:=.seq its.toArray n }) (hf:f { cls:=.type "list",data:=.seq its.toArray n } = { cls:=.type "list",data:=.seq its'.toArray n' }) (r:zS ys its') (hz:ys.length<=sizeLine) (t:Nat) :
  Inv X pins σ (upd H p (.lst ys)) { s with heap:=s.heap.update p f,toks:=t }:=by
 have e:(s.heap.update p f).get? p=some { cls:=.type "list",data:=.seq its'.toArray n' }:=by
  rw[Heap.get?_update_self f ho (by rw[hf] <;> rfl),hf]
 refine I.write (x:=p) (e:=p) (by rw[h];trivial) (.inl rfl) (λb u hb q=>(Heap.get?_update_other _ _ (Ne.symm hb)).trans q) ⟨_,e⟩ ?_
 exact⟨hz,its',n',r,e⟩
def zen:V->V->V->Hp->(Hp->Prop)->Prop:=λo i v H Q=>∃p xs k j,o = .ref p/\i = .int k/\H p=some (.lst xs)/\ixN xs.length k=some j/\Q (upd H p (.lst (xs.set j v)))
theorem jp:zdO X zen:=by
 intro pins s σ H o i v ov iv u Q I ro ri rv h
 obtain⟨p,xs,k,j,rfl,rfl,hp,hj,q⟩:=h
 cases ro
 obtain⟨t,rfl⟩:=ri
 obtain⟨its,n,r,ho,hz⟩:=I.lst hp
 obtain⟨h1,h2,h3,h4⟩:=Vv hj
 have hl:=r.length
 have hn:=ZN
 have I':Inv X pins σ (upd H p (.lst (xs.set j v))) { s with heap:=s.heap.update p (Obj.mapSeq (·.setIfInBounds j u)) } :=
  I.lstUpd hp ho (QZ its n j u) (r.set rv j) (by rw[List.length_set];exact hz) s.toks
 by_cases h0:0<=k
 ·have hk:k.toNat=j:=by
   rw[seqIndex_of h0 h4]at h1
   exact Option.some.inj h1
  exact PySem.W.ki_setAt ho h0 (by omega) (by rw[List.size_toArray,<-hl];exact h4) (by rw[hk];exact⟨_,I',q⟩)
 ·have hk:(k+(its.toArray.size:Int)).toNat=j:=by
   rw[seqIndex_neg (by omega) h3]at h1
   rw[List.size_toArray,<-hl]
   exact Option.some.inj h1
  exact PySem.W.ki_setBack ho (by omega) (by rw[List.size_toArray,<-hl];exact h3) (by omega) (by rw[hk];exact⟨_,I',q⟩)
theorem X8 (lo hi:Option Int) (n:Nat):(sliceBounds lo hi none n).1=((HT.sIx n 0 lo:Nat):Int)/\(sliceBounds lo hi none n).2.1=((HT.sIx n n hi:Nat):Int)/\(sliceBounds lo hi none n).2.2=1:=by
 refine⟨?_,?_,rfl⟩
 ·cases lo with
  | none=>simp[sliceBounds,HT.sIx]
  | some i =>
   simp only[sliceBounds,HT.sIx,Option.getD_none,show (1:Int)>0 by decide,if_true]
   by_cases h:i<0
   ·simp only[h,if_true] <;> omega
   ·simp only[h,if_false] <;> omega
 ·cases hi with
  | none=>simp[sliceBounds,HT.sIx]
  | some i =>
   simp only[sliceBounds,HT.sIx,Option.getD_none,show (1:Int)>0 by decide,if_true]
   by_cases h:i<0
   ·simp only[h,if_true] <;> omega
   ·simp only[h,if_false] <;> omega
theorem Z7 (its:List Value) (lo hi:Option Int):slicePick its.toArray lo hi none=((its.drop (HT.sIx its.length 0 lo)).take (HT.sIx its.length its.length hi - HT.sIx its.length 0 lo)).toArray:=by
 obtain⟨h1,h2,h3⟩:=X8 lo hi its.toArray.size
 unfold slicePick
 rw[h1,h2,h3]
 simp only[sliceRange_one,pick_run,List.size_toArray] <;> rfl
def rSlL (K:PySem.W.Frag):V->Option Int->Option Int->Hp->VK->Prop:=λx lo hi H Q=>∃a xs,x = .ref a/\SqL K H a xs/\∀p,H p=none->Q (.ref p) (upd H p (.lst (jg xs lo hi)))
theorem VD:SlR X (rSlL X.K):=by
 intro pins s σ H x v vl vu lo hi sl Q I rx hs pl pu h
 obtain⟨a,xs,rfl,hx,q⟩:=h
 cases rx
 obtain⟨its,r,ht,hz⟩:=I.list hx
 have hlen:=r.length
 refine⟨"list",_,slot_list_getitem.lookup,ht.isList.typeIs,?_⟩
 refine wpAny_getItem_list_slice ht.isList hs pl pu .none (by simp) ?_ (by rw[List.size_toArray] <;> omega)
 rw[Z7,<-hlen]
 refine⟨.ref s.heap.objs.size,_,I.laid (t':=s.toks) (o:=.lst (jg xs lo hi)) (λb ob q=>Heap.get?_push_of_some _ q) (Nat.le_refl _) ?_,rfl,q _ (I.hok.fresh (Nat.le_refl _))⟩
 exact⟨Nat.le_trans (Zk xs lo hi) hz,_,0,(r.drop (HT.sIx xs.length 0 lo)).take (HT.sIx xs.length xs.length hi - HT.sIx xs.length 0 lo),Heap.get?_push_size _ rfl⟩
theorem zY:jb X (.builtin "len") (λxs H Q=>∃p ys,xs=[.ref p]/\(SqL X.K H p ys\/SqT X.K H p ys)/\Q (.int ys.length) H):=by
 intro pins s σ H xs us Q I r h
 obtain⟨p,ys,rfl,hq,q⟩:=h
 obtain⟨u,rfl,rx⟩:=ZW r
 cases rx
 have hn:=ZN
 rcases hq with hq | hq
 ·obtain⟨its,r',pl,hz⟩:=I.list hq
  have hlen:=r'.length
  exact Calls.call_len_list pl.isList (by simp only[List.size_toArray] <;> omega) ⟨.int ys.length,H,I.tok _,⟨s.toks+1,by rw[List.size_toArray,hlen]⟩,q⟩
 ·obtain⟨its,r',pl,hz⟩:=I.tuple hq
  have hlen:=r'.length
  exact len_tuple pl (by simp only[List.size_toArray] <;> omega) ⟨.int ys.length,H,I.tok _,⟨s.toks+1,by rw[List.size_toArray,hlen]⟩,q⟩
theorem vZ:jb X (.type "list") (λxs H Q=>∃p ys,xs=[.ref p]/\(SqL X.K H p ys\/SqT X.K H p ys)/\∀l,H l=none->Q (.ref l) (upd H l (.lst ys))):=by
 intro pins s σ H xs us Q I r h
 obtain⟨p,ys,rfl,hq,q⟩:=h
 obtain⟨u,rfl,rx⟩:=ZW r
 cases rx
 have fin:∀(its:List Value),zS ys its->ys.length<=sizeLine->∀(h':Heap) (c':Nat),(∀b o',s.heap.get? b=some o'->h'.get? b=some o') →
   h'.get? s.heap.objs.size=some { cls:=.type "list",dict:=none,data:=.seq its.toArray c',slots:=#[] }->EP X pins σ Q (.ref s.heap.objs.size) { s with heap:=h' }:=λits r' hz h' c' kp e =>
  ⟨.ref s.heap.objs.size,_,I.laid (t':=s.toks) kp (Nat.le_refl _) (show xU X.prog X.w _ h' _ (.lst ys)from⟨hz,its,c',r',e⟩),rfl,q _ (I.hok.fresh (Nat.le_refl _))⟩
 rcases hq with hq | hq
 ·obtain⟨its,r',pl,hz⟩:=I.list hq
  have hlen:=r'.length
  obtain⟨o,ho,hc,n,hd⟩:=pl.isList
  exact call_list_seq p (.inl rfl) ho hc hd (λh' c' kp e=>fin its r' hz h' c' kp e) (by simp only[List.size_toArray] <;> omega)
 ·obtain⟨its,r',pl,hz⟩:=I.tuple hq
  have hlen:=r'.length
  obtain⟨o,ho,hc,n,hd⟩:=pl
  exact call_list_seq p (.inr rfl) ho hc hd (λh' c' kp e=>fin its r' hz h' c' kp e) (by simp only[List.size_toArray] <;> omega)
theorem Z0:jb X (.type "tuple") (λxs H Q=>∃p ys,xs=[.ref p]/\((SqL X.K H p ys/\∀l,H l=none->Q (.ref l) (upd H l (.tup ys)))\/(SqT X.K H p ys/\Q (.ref p) H))):=by
 intro pins s σ H xs us Q I r h
 obtain⟨p,ys,rfl,h⟩:=h
 obtain⟨u,rfl,rx⟩:=ZW r
 cases rx
 rcases h with⟨hq,q⟩ | ⟨hq,q⟩
 ·obtain⟨its,r',pl,hz⟩:=I.list hq
  have hlen:=r'.length
  refine call_tuple_list pl.isList (λh' kp=>?_) (by simp only[List.size_toArray] <;> omega)
  have I1:Inv X pins σ H { s with heap:=h' }:=I.kept (t':=s.toks) kp
  have I2:Inv X pins σ (upd H h'.objs.size (.tup ys)) { s with heap:=h'.push { cls:=.type "tuple",data:=.seq its.toArray } } :=
   I1.laid (t':=s.toks) (λb o e=>Heap.get?_push_of_some _ e) (Nat.le_refl _) (show xU X.prog X.w _ _ _ (.tup ys)from⟨hz,its,r',IsTup.new _ _⟩)
  exact⟨.ref h'.objs.size,_,I2,rfl,q _ (I1.hok.fresh (Nat.le_refl _))⟩
 ·obtain⟨its,r',pl,hz⟩:=I.tuple hq
  exact call_tuple_same pl ⟨.ref p,H,I,rfl,q⟩
def tyV (K:PySem.W.Frag) (T:String) (x:V) (H:Hp):Prop:=match x with
 | .str _=>T = "str"
 | .int _=>T = "int"
 | .ref p=>(T = "list"/\∃xs,SqL K H p xs)\/(T = "tuple"/\∃o,K.lookup p=some o/\o.cls = .type "tuple"/\o.dict=none) ∨
   (T = "dict"/\((∃kvs,H p=some (.dK kvs))\/∃kvs,H p=some (.dT kvs)))\/(T = "set"/\∃S n,H p=some (.set S n))
 | _=>False
theorem zdJ {pins:List (Addr×Obj)}{σ:St}{H:Hp}{s:Shared}{T:String}{x:V}{v:Value}(I:Inv X pins σ H s) (r:xj x v) (ty:tyV X.K T x H) :
  s.TypeIs v T/\∀a,v = .ref a->∃ob,s.heap.get? a=some ob/\ob.dict=none:=by
 cases x with
 | str z =>
  obtain⟨t,rfl⟩:=r
  cases(show T = "str" from ty)
  exact⟨typeIs_str s z t,λ_ e=>nomatch e⟩
 | int i =>
  obtain⟨t,rfl⟩:=r
  cases(show T = "int" from ty)
  exact⟨typeIs_int s i t,λ_ e=>nomatch e⟩
 | ref p =>
  cases r
  rcases ty with⟨rfl,xs,hq⟩ | ⟨rfl,o,hk,hc,hd⟩ | ⟨rfl,hk⟩ | ⟨rfl,S,n,hk⟩
  ·obtain⟨its,_,pl,_⟩:=I.list hq
   refine⟨pl.isList.typeIs,λa e=>?_⟩
   cases e
   obtain⟨o,n,e,c,hd,_⟩:=pl
   exact⟨o,e,hd⟩
  ·refine⟨⟨o,I.kIn p o hk,hc⟩,λa e=>?_⟩
   cases e
   exact⟨o,I.kIn _ o hk,hd⟩
  ·have z:∃o,s.heap.get? p=some o/\o.ExactDict:=by
    rcases hk with⟨kvs,hk⟩ | ⟨kvs,hk⟩
    ·obtain⟨_,_,_,_,o,_,_,e,ex,_⟩:=I.hok p _ hk
     exact⟨o,e,ex⟩
    ·obtain⟨_,_,_,_,o,_,_,e,ex,_⟩:=I.hok p _ hk
     exact⟨o,e,ex⟩
   obtain⟨o,e,ex⟩:=z
   refine⟨⟨o,e,ex.1⟩,λa e2=>?_⟩
   cases e2
   exact⟨o,e,ex.2.1⟩
  ·obtain⟨o,_,_,_,e,ex,_⟩:=I.hok p _ hk
   refine⟨⟨o,e,ex.1⟩,λa e2=>?_⟩
   cases e2
   exact⟨o,e,ex.2.1⟩
 | _=>exact False.elim ty
def tBM (K:PySem.W.Frag) (T:String) (r:V->List V->Hp->VK->Prop) (to:TE) (t:TA):TE:=λσ H Q=>to σ H λx H1=>tyV K T x H1/\t σ H1 λxs H2=>r x xs H2 Q
variable {o e:Expr}{es:List Expr}{to:TE}{t:TA}{name:Str}{apos cpos:Pos}{T id:String}{r:V->List V->Hp->VK->Prop}
theorem Vz (pa:PlainAttrs T) (slot:Slot T name id) (hty:typeOf (.builtin id)=pure (.type "method_descriptor")) (hm:MtR X id r) (ho:PE X o to) (ha:PA X (e::es) t)
  (hbase:attributeBase o name X.env (eval o X.env)=eval o X.env:=by rfl)
  (hfew:((backTo cpos (starEach (e::es) X.env)).all (λx=>!x.1)&&(backToKw cpos (keywordEach [] X.env)).all (λx=>x.1.isSome)
   && decide ((e::es).length+([]:List Keyword).length+(if([]:List Keyword).isEmpty then 0 else 1)<30))=true:=by rfl)
  (hline:(apos.endLine == cpos.line)=true:=by rfl) (hs:starEach (e::es) X.env=(false,eval e X.env)::starEach es X.env:=by rfl) (hplain:(backTo cpos (starEach es X.env)).any (·.1)=false:=by rfl) :
  PE X (.Call (.Attribute o name apos) (e::es) [] cpos) (tBM X.K T r to t):=by
 intro pins s σ H Q I h
 refine wpAny_Call_method_late hbase hfew hline rfl (thn (ho pins s σ H _ I h) λv s1 ⟨x,H1,I1,r1,ty,q1⟩=>?_)
 obtain⟨h1,h2⟩:=zdJ I1 r1 ty
 refine⟨T,id,pa,slot,hty,h1,h2,?_⟩
 have hA:=ha cpos pins s1 σ H1 _ I1 q1
 rw[hs]at hA ⊢
 refine Calls.callWith_builtin (by show (false || (backTo cpos (starEach es X.env)).any (·.1))=false;rw[hplain] <;> rfl) (Calls.evalArgs_plain ?_)
 exact thn hA λus s2 ⟨vs,H2,I2,r2,q2⟩=>hm pins s2 σ H2 x vs v us Q I2 r1 r2 q2
end
end L2
namespace L2
open PySem PySem.Spec PyProof.Rows
def MtM (X:Cx) (id:String) (r:V->List V->Hp->VK->Prop):Prop :=
 ∀(pins:List (Addr×Obj)) (s:Shared) (σ:St) (H:Hp) (x:V) (xs:List V) (v:Value) (us:List Value) (Q:VK),Inv X pins σ H s->xj x v->zS xs us->r x xs H Q →
  wpAny (model X.prog X.w) X.A (call (.builtin id) (v::us)) (EP X pins σ Q) X.xe s
theorem zS.one:∀{x:V}{us:List Value},zS [x] us->∃u,us=[u]/\xj x u
 | _,_,.cons r .nil=>⟨_,rfl,r⟩
section
variable {X:Cx}{pins:List (Addr×Obj)}{σ:St}{H:Hp}{s:Shared}{l b:Addr}{xs ys zs:List V}
theorem Inv.lset {its its':List Value}{n:Nat}{f:Array Value->Array Value}{t':Nat}(I:Inv X pins σ H s) (hH:H l=some (.lst xs))
  (e:s.heap.get? l=some { cls:=.type "list",data:=.seq its.toArray n }) (hf:f its.toArray=its'.toArray) (hv:zS ys its') (hz:ys.length<=sizeLine) :
  Inv X pins σ (upd H l (.lst ys)) { s with heap:=s.heap.update l (Obj.mapSeq f),toks:=t' }:=by
 have q:=PySem.IsL.update e f
 rw[hf]at q
 refine I.write (x:=l) (e:=l) (by rw[hH];exact trivial) (.inl rfl) (λb' u hb hu=>(Heap.get?_update_other s.heap (Obj.mapSeq f) (Ne.symm hb)).trans hu) ⟨_,q⟩ ?_
 exact⟨hz,its',_,hv,q⟩
theorem Inv.lnew {its:List Value}{t':Nat}(I:Inv X pins σ H s) (hv:zS ys its) (hz:ys.length<=sizeLine) :
  Inv X pins σ (upd H s.heap.objs.size (.lst ys)) { s with heap:=s.heap.push { cls:=.type "list",data:=.seq its.toArray },toks:=t' } :=
 I.laid (λ_ _ q=>Heap.get?_push_of_some _ q) (Nat.le_refl _) ⟨hz,its,0,hv,Heap.get?_push_size _ rfl⟩
theorem Inv.fresh (I:Inv X pins σ H s):H s.heap.objs.size=none:=I.hok.fresh (Nat.le_refl _)
theorem Inv.lstM (I:Inv X pins σ H s) (hH:H l=some (.lst xs)):xs.length<=sizeLine/\∃(its:List Value) (n:Nat),zS xs its/\xs.length=its.length/\s.heap.get? l=some { cls:=.type "list",data:=.seq its.toArray n }:=by
 obtain⟨z,its,n,r,e⟩:=I.hok l _ hH
 exact⟨z,its,n,r,r.length,e⟩
theorem J0 {n:Nat}(h:n<=sizeLine):Builtin.List.listTooLong n=false:=by
 unfold Builtin.List.listTooLong
 exact decide_eq_false (by omega)
end
section
variable {X:Cx}
def zbF:V->List V->Hp->VK->Prop:=λx vs H Q=>∃l xs y,x = .ref l/\vs=[y]/\H l=some (.lst xs)/\xs.length<sizeLine/\Q .non (upd H l (.lst (xs++[y])))
theorem jt:MtM X "list.append" zbF:=by
 intro pins s σ H x vs v us Q I rx rv h
 obtain⟨l,xs,y,rfl,rfl,hH,hz,q⟩:=h
 cases rx
 obtain⟨u,rfl,ru⟩:=rv.one
 obtain⟨z,its,n,r,hl,e⟩:=I.lstM hH
 refine call_meets F.slot_list_append ⟨_,e,rfl⟩ F.entry_list_append (F.args_list_append_2 _ _) (PySem.list_append l its.toArray n u (by rw[List.size_toArray];omega)) ⟨e,?_⟩
 refine⟨.non,_,I.lset (its':=its++[u]) hH e (by simp) (r.append (.cons ru .nil)) ?_,rfl,q⟩
 rw[List.length_append,List.length_singleton]
 omega
def zbH:V->List V->Hp->VK->Prop:=λx vs H Q=>∃l b xs zs,x = .ref l/\vs=[.ref b]/\H l=some (.lst xs)/\H b=some (.lst zs)/\xs.length+zs.length<=sizeLine/\Q .non (upd H l (.lst (xs++zs)))
theorem Jc:MtM X "list.extend" zbH:=by
 intro pins s σ H x vs v us Q I rx rv h
 obtain⟨l,b,xs,zs,rfl,rfl,hH,hB,hz,q⟩:=h
 cases rx
 obtain⟨u,rfl,ru⟩:=rv.one
 cases ru
 obtain⟨z,its,n,r,hl,e⟩:=I.lstM hH
 obtain⟨z2,its2,n2,r2,hl2,e2⟩:=I.lstM hB
 have hsz:its.toArray.size+its2.toArray.size<=sizeLine:=by rw[List.size_toArray,List.size_toArray];omega
 have hlong:¬(!its.toArray.isEmpty&&Builtin.List.listTooLong (its.toArray.size+its2.toArray.size))=true:=by
  rw[J0 hsz,Bool.and_false]
  exact Bool.false_ne_true
 refine call_meets F.slot_list_extend ⟨_,e,rfl⟩ F.entry_list_extend (F.args_list_extend_2 _ _)
  (AutoSeq1.list_extend_list_list_0 l its.toArray n b its2.toArray n2 hlong (by rw[List.size_toArray];omega) (by omega)) ⟨e,e2,?_⟩
 refine⟨.non,_,I.lset (its':=its++its2) hH e (by simp) (r.append r2) ?_,rfl,q⟩
 rw[List.length_append]
 omega
def rCat:R2:=λx y H Q=>∃l b xs zs,x = .ref l/\y = .ref b/\H l=some (.lst xs)/\H b=some (.lst zs)/\xs.length+zs.length<=sizeLine/\∀p,H p=none->Q (.ref p) (upd H p (.lst (xs++zs)))
theorem zdk:OpR X (binaryOp .Add) rCat:=by
 intro pins s σ H x y v u Q I rx ry h
 obtain⟨l,b,xs,zs,rfl,rfl,hH,hB,hz,q⟩:=h
 cases rx
 cases ry
 obtain⟨z,its,n,r,hl,e⟩:=I.lstM hH
 obtain⟨z2,its2,n2,r2,hl2,e2⟩:=I.lstM hB
 refine PySem.P.add_list e e2 ?_ (by rw[List.size_toArray,List.size_toArray];omega)
 have ea:its.toArray++its2.toArray=(its++its2).toArray:=by simp
 rw[ea]
 exact⟨.ref _,_,I.lnew (t':=s.toks) (r.append r2) (by rw[List.length_append];omega),rfl,q _ I.fresh⟩
end
end L2
namespace Att
open PySem PySem.W PySem.Calls PyProof.Rows
theorem Zp {P:Params}{h:Heap}:∀(ns:List Int) (vs:List Value),WellAll P h vs (ns.map WData.int)->IntsAre vs ns:=by
 intro ns
 induction ns with
 | nil =>
  intro vs w
  rw[List.map_nil]at w
  cases w
  exact .nil
 | cons n ns ih =>
  intro vs w
  rw[List.map_cons]at w
  cases w with
  | cons a b =>
   cases a
   exact .cons _ _ (ih _ b)
theorem Ji {l:OpenLaw}{n:Nat}(hn:l.most=some n){P:Params}{h:Heap}{args:List WData}{vals:List Value}
  (hpre:l.row.toRowW.claim.pre args=true) (hwl:WellAll P h vals args) :
  ∃a vs ns,vals=[Value.ref a]/\args=[WData.list (ns.map WData.int)]/\h.get? a=some { cls:=.type "list",data:=.seq vs.toArray }/\IntsAre vs ns/\ns.length<=n:=by
 have hsh:WShape.hasAll [] args [.list .int]=true:=(pre_splitW hpre).1
 have hc:l.pre.holds [] { args:=args } = true:=(pre_splitW hpre).2
 obtain⟨d,r,rfl,h1,h2⟩:=hasAllW_cons hsh
 obtain rfl:=hasAllW_nil h2
 obtain⟨xs,rfl,h3⟩:=hasW_list h1
 obtain⟨ns,rfl⟩:=items_int h3
 have hlen:ns.length<=n:=by
  unfold OpenLaw.pre at hc
  have h4:(WTm.not (.lt (.lit (.int (n:Int))) (.len (.arg 0)))).holds [] { args:=[.list (ns.map .int)] } = true:=by
   have h4:=(holds_andW hc).1
   rw[hn]at h4
   exact h4
  have h5:=condW_of h4 (w_not (w_lt w_lit (w_len_list (w_arg rfl))))
  rw[List.length_map]at h5
  refine Nat.le_of_not_lt λq=>?_
  have q':(n:Int)<((ns.length:Nat):Int):=by omega
  first
   | (rw[decide_eq_true q']at h5;exact absurd h5 (by decide))
   | (simp at h5;omega)
 cases hwl with
 | cons w1 w2 =>
  cases w2
  cases w1 with
  | list ho hall=>exact⟨_,_,ns,rfl,rfl,ho,Zp ns _ hall,hlen⟩
theorem Jf (l:OpenLaw) (args:List WData):l.row.toRowW.claim.post args (.bool true) args=true :=
 postW_of (r:=l.row.toRowW) (X:=(true == true))
  (show WShape.has [] (.bool true) .bool=true by first | rfl | decide | simp[WShape.has,WShape.arms,WShape.armsAll])
  (show (WTm.eq .res (.lit (.bool true))).value [] { args:=args,res:=some (.bool true),after:=args } = some (.bool (true == true))from w_eq_bool (w_res rfl) w_lit) rfl
theorem attach_call {l:OpenLaw}{n:Nat}{q:Program}{loose:List Str}{XP:(Str->Option Value)->Heap->Prop}{YP:World->Heap->Prop}{d:DefRec}
  (hn:l.most=some n) (hdf:d.params.defaults=[])
  (call:∀(w:World) (s₀ s₁:Shared) (mg mb:Str->Option Value) (fa:Addr) (o:Obj) (pm cd doc:Value) (a:Addr) (vs:List Value) (ns:List Int),
   Ground q loose [] XP w s₀ mg mb s₁.heap->YP w s₁.heap →
   s₁.heap.get? fa=some o->o.data = .func (docDef d.name d.params d.body d.scope pm cd doc)->s₁.heap.CodeRec cd d.name->mg d.name=some (.ref fa) →
   s₁.heap.get? a=some { cls:=.type "list",data:=.seq vs.toArray }->IntsAre vs ns->ns.length<=n->s₁.gens = #[] →
   codeAny (model l.prog w) callerA (.call (.ref fa) ⟨[.ref a],[]⟩) (λr s'=>r = .ok (.ret (.bool true))/\OldK s₁.heap s'.heap/\s'.os=s₁.os/\AllBare s'.gens) s₁) :
  WalkO q loose XP YP l.row.toRowW d [] (λf vs=>PySem.call f vs):=by
 intro w s₀ s₁ mg mb G Y fa o pm cd doc dV kV ho hd hcd hD hmg hg args vals as hpre hlay hrd hwl hlo
 obtain rfl:dV = .none:=Dflts.none hD hdf
 obtain rfl:kV = .none:=Dflts.noKw hD
 obtain⟨a,vs,ns,rfl,rfl,hobj,hints,hlen⟩:=Ji hn hpre hwl
 refine enter_call (codeAny_mono (call w s₀ s₁ mg mb fa o pm cd doc a vs ns G Y ho (fd_plain hd) hcd hmg hobj hints hlen hg) λr s' hq=>?_)
 obtain⟨rfl,h2,h3,h4⟩:=hq
 exact⟨.inl ⟨.bool true,.bool true,[],rfl,λ_=>rfl,.bool true,Jf l _,λ_=>⟨List.Pairwise.nil,λ_ hm=>(nomatch hm)⟩⟩,h2,h3,h4⟩
end Att
namespace L2
open PySem PySem.Spec PyProof.Rows
theorem Xs:∀{vs:List Value}{ns:List Int},IntsAre vs ns->zS (ns.map V.int) vs
 | _,_,.nil=>.nil
 | _,_,.cons n t h=>.cons ⟨t,rfl⟩ (Xs h)
def zcz (H:Hp):Prop:=∀b,H b=none\/∃o xs,H b=some (.frz o (.lst xs))
theorem JU {P:Program}{w:World}{K:PySem.W.Frag}{mg mb:Str->Option Value}{CX:CXT}{k:Nat}{fa a:Addr}{fd:FuncData}{x:Str}{sp:Sp}{s₁:Shared}{vs:List Value}{ns:List Int}
  (KX:K.In s₁.heap) (hns:s₁.heap.Ns mainGlobals mg) (hb:s₁.heap.Ns builtinsNs mb) (hbb:∀x:Str,x≠"__name__"->mb x=bootBuiltins x) (hlim:s₁.heap.NoLimit) (hg:s₁.gens = #[])
  (ha:s₁.heap.get? a=some { cls:=.type "list",data:=.seq vs.toArray }) (hi:IntsAre vs ns) (hl:ns.length<=sizeLine) (hr:xb k callerA)
  (F:∀base:Heap,K.In base->base.Ns mainGlobals mg->jN P w K mg base CX k fa fd [x] sp) (hbind:∀(s:Shared) (u:Value),BindsTo s fd ⟨[u],[]⟩ [(x,u)])
  (hsp:∀H:Hp,zcz H->SqL K H a (ns.map V.int)->sp [.ref a] H (λv _=>v = .bl true) λ_ _ _=>False)
  (hCX:∀H e s',CX [] H s₁ (λ_ _ _=>False) e s'->False) :
  codeAny (model P w) callerA (.call (.ref fa) ⟨[.ref a],[]⟩) (λr s'=>r = .ok (.ret (.bool true))/\OldK s₁.heap s'.heap/\s'.os=s₁.os/\AllBare s'.gens) s₁:=by
 have rv:=Xs hi
 have lenV:=hi.length
 have core:∀H:Hp,zcz H->SqL K H a (ns.map V.int)->HOk P w H s₁.heap->(∀b,H b≠none->b=a)->(H a≠none->K.lookup a=none) →
   codeAny (model P w) callerA (.call (.ref fa) ⟨[.ref a],[]⟩) (λr s'=>r = .ok (.ret (.bool true))/\OldK s₁.heap s'.heap/\s'.os=s₁.os/\AllBare s'.gens) s₁:=by
  intro H hO hS hok hA hK
  have base_of:∀{b:Addr}{o:Obj},s₁.heap.get? b=some o->H b=none->(XC s₁.heap H).get? b=some o:=λe n=>JR e n
  have noA:∀{b:Addr}{o:Obj}{es:Array DictEntry}{ep:Nat},s₁.heap.get? b=some o->o.data = .dict es ep->H b=none:=λ{b o es ep} e d=>by
   cases q:H b with
   | none=>rfl
   | some u =>
    have e':b=a:=hA b (by rw[q];simp)
    subst e'
    rw[ha]at e;cases e
    have d':Data.seq vs.toArray _=Data.dict es ep:=d
    cases d'
  have nsK:∀{b:Addr}{m:Str->Option Value},s₁.heap.Ns b m->(XC s₁.heap H).Ns b m:=λ{b m} ⟨o,es,ep,e,d,r⟩=>⟨o,es,ep,base_of e (noA e d),d,r⟩
  have hKb:K.In (XC s₁.heap H):=λb o e=>base_of (KX b o e) (by
   cases q:H b with
   | none=>rfl
   | some u =>
    have e':b=a:=hA b (by rw[q];simp)
    subst e'
    rw[hK (by rw[q];simp)]at e;cases e)
  have hM:Mod K mg (XC s₁.heap H):=⟨hKb,nsK hns,⟨mb,nsK hb,hbb⟩,let ⟨mc,h1,h2⟩:=hlim;⟨mc,nsK h1,h2⟩⟩
  have e0:QH P w K mg (XC s₁.heap H) callerA [] s₁ H:=⟨rfl,hM,λb o e=>zbk e,Nat.le_of_eq (V1 _ _),trivial,λb hb=>absurd (show b∈([]:List Addr)from hb) (by simp),hok,.of_eq hg⟩
  refine codeAny_mono ((F _ hKb (nsK hns)).run callerA [] s₁ H ⟨[.ref a],[]⟩ [.ref a] [.ref a] _ _ hr e0 (hbind s₁ (.ref a)) (.cons rfl .nil) (hsp H hO hS)) λr s' h=>?_
  cases r with
  | error e=>exact(hCX H e s' h).elim
  | ok fl =>
   cases fl with
   | next=>exact False.elim h
   | brk=>exact False.elim h
   | cont=>exact False.elim h
   | ret u =>
    obtain⟨v,H',os,bare,un,hok',r',q⟩:=h
    have q':v = .bl true:=q
    subst q'
    obtain rfl:u=Value.bool true:=r'
    refine⟨rfl,OldK.of_keep λb o e=>?_,os,bare⟩
    cases q:H b with
    | none=>exact un.keep b o e q (by intro z;exact absurd (show b∈([]:List Addr)from z) (by simp)) (by simp)
    | some u =>
     rcases hO b with z | ⟨ob,xs,z⟩
     ·rw[q]at z;cases z
     ·have z2:=un.frzs b ob _ z
      obtain⟨e1,_⟩:=hok b _ z
      obtain⟨e2,_⟩:=hok' b _ z2
      rw[e]at e1;cases e1
      exact e2
 cases hk:K.lookup a with
 | some o =>
  have e:=KX a o hk
  rw[ha]at e
  cases e
  refine core (λ_=>none) (λ_=>.inl rfl) (.inr ⟨_,vs.toArray,_,hk,rfl,rfl,rfl,by rw[List.size_toArray,lenV];exact hl,by simpa using rv⟩) (λb u z=>by have z':(none:Option HO)=some u:=z;cases z') (λb z=>absurd rfl z) λz=>absurd rfl z
 | none =>
  refine core (λb=>if b=a then some (.frz { cls:=.type "list",data:=.seq vs.toArray } (.lst (ns.map V.int)))else none) (λb=>?_) (.inl (.inr ⟨{ cls:=.type "list",data:=.seq vs.toArray },if_pos rfl⟩)) (λb u z=>?_) (λb z=>?_) λ_=>hk
  ·by_cases hb:b=a
   ·exact .inr ⟨_,_,if_pos hb⟩
   ·exact .inl (if_neg hb)
  ·by_cases hb:b=a
   ·have z':=(if_pos hb).symm.trans z
    cases z'
    subst hb
    exact⟨ha,by rw[List.length_map];exact hl,vs,_,rv,ha⟩
   ·have z':=(if_neg hb).symm.trans z
    cases z'
  ·by_cases hb:b=a
   ·exact hb
   ·exact absurd (if_neg hb) z
end L2
namespace L2
open PySem PySem.Spec PyProof.Rows
theorem zb1 {l:PySem.W.OpenLaw}{n k:Nat}{q:Program}{loose:List Str}{XP:(Str->Option Value)->Heap->Prop}{YP:World->Heap->Prop}{d:DefRec}{K:Params->PySem.W.Frag}{CX:World->CXT}{sp:World->Sp}{x:Str}
  (hn:l.most=some n) (hn2:n<=sizeLine) (hdf:d.params.defaults=[]) (hr:xb k callerA)
  (hY:∀(w:World) (h:Heap),YP w h->(K w.params).In h)
  (F:∀(w:World) (mg:Str->Option Value) (fa:Addr) (h:Heap),(K w.params).In h->h.Ns mainGlobals mg->mg d.name=some (.ref fa) →
   ∃fd:FuncData,(∀(s:Shared) (u:Value),BindsTo s fd ⟨[u],[]⟩ [(x,u)]) ∧
    ∀base:Heap,(K w.params).In base->base.Ns mainGlobals mg->jN l.prog w (K w.params) mg base (CX w) k fa fd [x] (sp w))
  (hsp:∀(w:World) (H:Hp) (a:Addr) (ns:List Int),ns.length<=n->zcz H->SqL (K w.params) H a (ns.map V.int)->sp w [.ref a] H (λv _=>v = .bl true) λ_ _ _=>False)
  (hCX:∀(w:World) (H:Hp) (s:Shared) (e:Value) (s':Shared),CX w [] H s (λ_ _ _=>False) e s'->False) :
  PySem.W.WalkO q loose XP YP l.row.toRowW d [] (λf vs=>PySem.call f vs):=by
 refine Att.attach_call hn hdf λw s₀ s₁ mg mb fa o pm cd doc a vs ns G Y ho hd hcd hmg hobj hints hlen hg=>?_
 have KX:=hY w _ Y
 obtain⟨fd,hb,hF⟩:=F w mg fa _ KX G.T.g hmg
 exact JU KX G.T.g G.T.b G.T.builtins G.T.nolimit hg hobj hints (Nat.le_trans hlen hn2) hr hF hb (λH hO hS=>hsp w H a ns hlen hO hS) λH e s'=>hCX w H s₁ e s'
end L2
namespace L2
open PySem PySem.Spec PyProof.Rows
def za9 (s:Stmt) (j:Nat):Stmt:=match s with
 | .ClassDef _ _ _ body _ _ _ _ _ _ _=>body.getD j (.Pass ⟨0,0,0,0⟩)
 | _=>.Pass ⟨0,0,0,0⟩
def zB (s:Stmt):Arguments:=match s with
 | .FunctionDef _ a _ _ _ _ _ _ _ _=>a
 | _=>{ posonlyargs:=[],args:=[],vararg:=none,kwonlyargs:=[],kw_defaults:=[],kwarg:=none,defaults:=[] }
def zy (s:Stmt):List Stmt:=match s with
 | .FunctionDef _ _ b _ _ _ _ _ _ _=>b
 | _=>[]
def zi (s:Stmt):Scope:=match s with
 | .FunctionDef _ _ _ _ _ _ sc _ _ _=>sc
 | _=>{ kind:=.function,names:=[],isGenerator:=false,isCoroutine:=false }
abbrev CX0:CXT:=λ_ _ _ _ _ _=>False
abbrev E0:XK:=λ_ _ _=>False
theorem zch {X:Cx}:ZA CX0 X E0:=λ_ _ _ _ _ _ _ h=>h.elim
structure Fun (K:PySem.W.Frag) (x qual:Str) (st:Stmt) (f:Addr) (fd:FuncData):Prop where
 ex:∃(oc:Value) (od:Option Addr) (kV doc pm:Value) (an:Option Addr) (cdv ct:Value) (osl:Array (Option Value)),
  fd=PySem.W.fnOf x qual (zB st) (zy st) (zi st) .none kV doc pm an cdv ct/\K.lookup f=some ⟨oc,od,.func fd,osl⟩/\PySem.W.codeIn K cdv qual=true
 kp:PySem.W.keepIn K (.ref f)=true
section
variable {P:Program}{w:World}{K:PySem.W.Frag}{mg:Str->Option Value}{base:Heap}
theorem Fun.ok {x qual:Str}{st:Stmt}{f:Addr}{fd:FuncData}{N ps:List Str}{k:Nat}{sp:Sp}(F:Fun K x qual st f fd) (S:zD N ps (zi st)) (len:∀vs H Q E,sp vs H Q E->vs.length=ps.length)
  (hbody:∀(cdv:Value) (A:Around) (outer:List Env) (s:Shared) (H:Hp) (vs:List V) (Q:VK) (E:XK),xb k (A.deeper (envOfC qual (zi st) s.heap.objs.size f cdv))->sp vs H Q E →
   ∃t,PSs (Qn CX0 P w K mg base N qual (zi st) f cdv A outer s H E).nox (zy st) t/\t { nx:=λ_ H'=>Q .non H',rt:=Q } (jG N vs) H):jN P w K mg base CX0 (k+1) f fd ps sp:=by
 obtain⟨oc,od,kV,doc,pm,an,cdv,ct,osl,rfl,lk,hcd⟩:=F.ex
 refine zca lk hcd S len λA outer s H vs Q E hr hsp=>?_
 obtain⟨t,h,q⟩:=hbody cdv A outer s H vs Q E hr hsp
 exact⟨t,h.nox,q⟩
theorem Fun.binds {x qual:Str}{st:Stmt}{f:Addr}{fd:FuncData}{ps:List Str}(F:Fun K x qual st f fd)
  (h:∀(kV doc pm:Value) (an:Option Addr) (cdv ct:Value) (us:List Value),us.length=ps.length->bindArgs (PySem.W.fnOf x qual (zB st) (zy st) (zi st) .none kV doc pm an cdv ct) ⟨us,[]⟩=pure (ps.zip us)):jE K fd ps []:=by
 obtain⟨oc,od,kV,doc,pm,an,cdv,ct,osl,rfl,lk,hcd⟩:=F.ex
 exact .all (h kV doc pm an cdv ct)
theorem JP {x qual:Str}{st:Stmt}{f:Addr}{oc:Value}{od an:Option Addr}{osl:Array (Option Value)}{kV doc pm cdv ct:Value}(l:K.lookup f=some ⟨oc,od,.func (PySem.W.fnOf x qual (zB st) (zy st) (zi st) .none kV doc pm an cdv ct),osl⟩)
  (c:PySem.W.codeIn K cdv qual=true) (k:PySem.W.keepIn K (.ref f)=true):Fun K x qual st f (PySem.W.fnOf x qual (zB st) (zy st) (zi st) .none kV doc pm an cdv ct):=⟨⟨oc,od,kV,doc,pm,an,cdv,ct,osl,rfl,l,c⟩,k⟩
end
theorem vX {n:Nat}(h:n<=1000):n<sizeLine:=Nat.lt_of_le_of_lt h (by decide)
section
variable {X:Cx}
theorem pv (i:Nat){x:Str}{pos:Pos}(hN:X.N[i]? = some x:=by rfl) (hv:Vis X.env.scope x:=by first | exact Or.inl rfl | exact Or.inr (Or.inl rfl) | exact Or.inr (Or.inr rfl)) (hd:(x == ("__debug__":Str))=false:=by decide)
  (hcd:(x == ("__classdict__":Str))=false:=by decide):PE X (.Name x pos) (z8 i):=zdn hN hv hd hcd
end
theorem z7 {A B:Prop}(h:B):if false=true then A else B:=by
 rw[if_neg Bool.false_ne_true]
 exact h
theorem xD {A B:Prop}(h:A):if true=true then A else B:=by
 rw[if_pos rfl]
 exact h
theorem qo {c A B:Prop} [Decidable c] (h1:c->A) (h2:¬c->B):if c then A else B:=by
 by_cases h:c
 ·rw[if_pos h]
  exact h1 h
 ·rw[if_neg h]
  exact h2 h
def zt (H H':Hp):Prop:=∀b o,H b=some o->H' b=some o
theorem zt.refl (H:Hp):zt H H:=λ_ _ h=>h
theorem zt.trans {H H1 H2:Hp}(a:zt H H1) (b:zt H1 H2):zt H H2:=λc o h=>b c o (a c o h)
theorem zt.seq {K:PySem.W.Frag}{H H':Hp}{a:Addr}{xs:List V}(e:zt H H') (h:SqL K H a xs):SqL K H' a xs:=by
 rcases h with(h | ⟨o,h⟩) | h
 ·exact .inl (.inl (e _ _ h))
 ·exact .inl (.inr ⟨o,e _ _ h⟩)
 ·exact .inr h
end L2
set_option Elab.async false
set_option linter.all false
set_option maxRecDepth 100000
namespace L2
open PySem PySem.Spec PyProof.Rows
section
variable {prog:Program}{w:World}{A:Around}{R:Result->Shared->Prop}{s:Shared}
theorem jP {elt target iter:Expr}{ifs:List Expr}{scope:Scope}{pos:Pos}{it acc:Value}{env:Env}(I:Nat->Shared->Prop)
  (turn:∀n s,I n s->wpAny (model prog w) A (pyNext it) (λr s₁=>match r with
   | none=>R (.ok .next) s₁
   | some v=>wpAny (model prog w) A (letOwnedTupleGo target it v) (λ_ s₀=>wpAny (model prog w) A (assign target env v) (λ_ s₂ =>
     wpAny (model prog w) A (forIn ifs true λc r=>if r=true then do let ok <-isTrue c env (eval c env);pure (ForInStep.yield ok)else pure (ForInStep.yield r)) (λok s₃ =>
      if ok=true then wpAny (model prog w) A (eval elt env) (λx s₄ =>
       wpAny (model prog w) A (call (.builtin "list.append") [acc,x]) (λ_ s₅=>∃m,m<n/\I m s₅) (λ_ _=>False) s₄) (λ_ _=>False) s₃
      else ∃m,m<n/\I m s₃) (λ_ _=>False) s₂) (λ_ _=>False) s₀) (λ_ _=>False) s₁) (λ_ _=>False) s)
  (n:Nat) (h:I n s) :
  codeAny (model prog w) A (.compLoop (.ListComp elt [⟨target,iter,ifs,0⟩] scope pos) 0 it acc env) R s:=by
 refine codeAny_loop rfl I (λn s hI=>?_) n h
 show wpAny _ A ((compTurn (.ListComp elt [⟨target,iter,ifs,0⟩] scope pos) 0 it acc env).onRaise (λx=>do noteFrame x env;theTreesLotGoes x)) _ _ s
 refine wpAny_noted ?_
 rw[compTurn_list]
 have no:∀{X:Prop},∀(e:Value) (s':Shared),(λ_ _=>False:Value->Shared->Prop) e s'->X:=λ_ _ z=>False.elim z
 refine wpAny_bind (wpAny_standAt (wpAny_bind (wpAny_mono (turn n s hI) (λr s₁ h₁=>?_) λe s'=>no e s')))
 cases r with
 | none=>exact wpAny_pure h₁
 | some v =>
  refine wpAny_bind (wpAny_mono h₁ (λ_ s₀ h₀=>?_) λe s'=>no e s')
  refine wpAny_bind (wpAny_mono h₀ (λ_ s₂ h₂=>wpAny_bind (wpAny_mono h₂ (λok s₃ h₃=>?_) λe s'=>no e s')) λe s'=>no e s')
  cases ok with
  | false=>exact wpAny_pure ⟨rfl,h₃⟩
  | true =>
   exact wpAny_bind (wpAny_bind (wpAny_mono h₃ (λx s₄ h₄=>wpAny_bind (wpAny_mono h₄ (λ_ s₅ h₅=>wpAny_pure (wpAny_pure ⟨rfl,h₅⟩)) λe s'=>no e s')) λe s'=>no e s'))
end
def qv (X:Cx) (NB:List Str) (scope:Scope) (s3:Shared) (H3:Hp) (fp:List Addr):Cx :=
 { X with N:=NB,s₀:=s3,H₀:=H3,env:=compEnv scope s3.heap.objs.size X.env,outer:=X.stack,stack:=X.stack,ex:=fp,fn:=λ_=>true,pn:=[],xe:=λ_ _=>False }
def PTs (X:Cx) (ifs:List Expr) (t:TT):Prop :=
 ∀(pins:List (Addr×Obj)) (s:Shared) (σ:St) (H:Hp) (Q:Bool->Hp->Prop),Inv X pins σ H s->t σ H Q →
  wpAny (model X.prog X.w) X.A (forIn ifs true λc r=>if r=true then do let ok <-isTrue c X.env (eval c X.env);pure (ForInStep.yield ok)else pure (ForInStep.yield r)) (TP X pins σ Q) X.xe s
theorem xq {X:Cx}:PTs X [] (λ_ H Q=>Q true H):=λ_ _ _ H _ I h=>wpAny_tests_nil ⟨H,I,h⟩
theorem XQ {X:Cx}{c:Expr}{t:TT}(h:PT X c t):PTs X [c] t:=λpins s σ H Q I q=>wpAny_tests_one (h pins s σ H Q I q)
def VH (n:Nat) (wi:TI) (g:TG) (tt:TT) (te:TE):TE:=λσ H Q=>wi σ H λJ H1=>∀D,H1 D=none->∃W:Nat->Nat->Hp->List V->Prop,(∃m,W 0 m (upd H1 D (.lst [])) []) ∧
 ∀i m H2 ys,W i m H2 ys->H2 D=some (.lst ys)->(J.stop i H2/\Q (.ref D) H2) ∨
  (J.go i H2/\∀σB x H3,σB.length=n->J.yld i H2 x H3->g x σB H3 λσ4 H4=>tt σ4 H4 λb H5=>if b=true then te σ4 H5 (λv H6=>H6 D=some (.lst ys)/\ys.length<sizeLine/\∃m',m'<m/\W (i+1) m' (upd H6 D (.lst (ys++[v]))) (ys++[v]))
   else H5 D=some (.lst ys)/\∃m',m'<m/\W (i+1) m' H5 ys)
theorem vF {X:Cx}{elt tg iter:Expr}{ifs:List Expr}{scope:Scope}{pos:Pos}{NB:List Str}{wi:TI}{g:TG}{tt:TT}{te:TE}
  (hc:X.calm=true) (hfree:∀x∈scope.names,x.2≠.free) (hcell:∀x∈scope.names,x.2≠.cell) (hkind:scope.kind = .function) (hnames:∀x∈scope.names,x.2 = .local → scope.names.lookup x.1=some .local)
  (hi:PI X tg iter wi) (hb:∀s3 H3 fp,PG (qv X NB scope s3 H3 fp) tg g/\PTs (qv X NB scope s3 H3 fp) ifs tt/\PE (qv X NB scope s3 H3 fp) elt te)
  (hs:∀x,foldedSetIterable iter X.env x=pure x:=by intro _;rfl) :
  PE X (.ListComp elt [⟨tg,iter,ifs,0⟩] scope pos) (VH NB.length wi g tt te):=by
 intro pins s σ H Q I h
 refine wpAny_ListComp hfree hkind hnames (thn (hi pins s σ H _ I h) λv s1 h1=>thn h1 λitv s2 h2=>?_) hs
 obtain⟨it,fp,tn,J,H2,e,I2,T,st2,f2,q2⟩:=h2
 subst e
 have hf2:H2 s2.heap.objs.size=none:=I2.hok.fresh (Nat.le_refl _)
 obtain⟨W,⟨m0,w0⟩,turn⟩:=q2 _ hf2
 refine wpAny_newObj_type (hd:=by size_fits) ?_
 have I3:Inv X pins σ (upd H2 s2.heap.objs.size (.lst [])) { s2 with heap:=s2.heap.push { cls:=.type "list",dict:=none,data:=.seq ([]:List Value).toArray } } :=
  I2.laid (t':=s2.toks) (λb u e=>Heap.get?_push_of_some _ e) (Nat.le_refl _) ⟨by decide,[],0,.nil,Heap.get?_push_size _ rfl⟩
 generalize hD:s2.heap.objs.size=D at *
 generalize hs3:({ s2 with heap:=s2.heap.push { cls:=.type "list",dict:=none,data:=.seq ([]:List Value).toArray } }:Shared)=s3 at *
 generalize hH3:upd H2 D (.lst [])=H3 at *
 have h3D:H3 D=some (.lst []):=by rw[<-hH3];exact zo
 have fpD:∀b∈fp,b≠D:=λb hb=>by
  obtain⟨o,e,_⟩:=T.obj _ _ st2 b hb
  rw[<-hD];exact Nat.ne_of_lt (Heap.lt_size e)
 have k23:∀b u,s2.heap.get? b=some u->s3.heap.get? b=some u:=λb u e=>by rw[<-hs3];exact Heap.get?_push_of_some _ e
 have st3:tn 0 s3.heap:=T.keep _ _ _ st2 λb _ o e=>k23 b o e
 have f3:∀b∈fp,Zy X pins H3 b:=λb hb=>⟨by rw[<-hH3,zK (fpD b hb)];exact(f2 b hb).1,(f2 b hb).2⟩
 refine wpAny_newFunctionEnv hcell (by intro y hy;simp at hy) (λh4 hns4 hsb4=>?_) hkind
 have k34:∀b u,s3.heap.get? b=some u->h4.get? b=some u:=λb u e=>hsb4.extBut b u (Nat.ne_of_lt (Heap.lt_size e)) (Heap.get?_push_of_some _ e)
 have okB:(qv X NB scope s3 H3 fp).Ok:=by
  refine⟨I3.ok.mod,hkind,I3.ok.glob,I3.ok.blt,Nat.le_refl _,λx y c e _=>?_,λx e=>?_,λx c _ e=>?_,I3.ok.hd,I3.ok.frames,.inl rfl,λb hb=>⟨?_,λx c e=>?_⟩,I3.bs,Nat.le_trans I3.ok.bsz I3.sz,λb o e hb=>?_,λb hb z=>?_,I3.stack,I3.stkFree⟩
  ·exact absurd (show ([]:List (Str×Addr)).lookup x=some c from e) (by simp)
  ·have e':scope.names.lookup x=some .cell\/scope.names.lookup x=some .free:=e
   rcases e' with e' | e'
   ·exact absurd rfl (hcell _ (PySem.mem_of_lookup e'))
   ·exact absurd rfl (hfree _ (PySem.mem_of_lookup e'))
  ·exact absurd (show ([]:List (Str×Addr)).lookup x=some c from e) (by simp)
  ·obtain⟨o,e,_⟩:=T.obj _ _ st3 b hb
   exact Nat.ne_of_lt (Heap.lt_size e)
  ·exact absurd (show ([]:List (Str×Addr)).lookup x=some c from e) (by simp)
  ·obtain⟨_,_,_,z,_⟩:=f3 b hb
   rcases z with z | z
   ·exact I3.ok.noex b o e z
   ·exact absurd (Nat.lt_of_lt_of_le (Heap.lt_size e) (Nat.le_trans I3.ok.bsz z)) (Nat.lt_irrefl _)
  ·obtain⟨_,z1,z2,_⟩:=f3 b hb
   rcases List.mem_cons.mp (I3.stkSub b z)with e | e
   ·exact z1 e
   ·exact z2 e
 have IB:Inv (qv X NB scope s3 H3 fp) [] (List.replicate NB.length none) H3 { s3 with heap:=h4,toks:=s3.toks+([]:List (Str×Value)).length }:=by
  refine⟨okB,rfl,I3.bare,Un.kept k34,⟨_,hns4,λi x v _ e _=>?_⟩,λx c e=>?_,I3.hok.fresh (Nat.le_refl _),λx c e=>?_,λp hp=>?_,I3.hok.kept k34,by simp[qv]⟩
  ·rw[List.getElem?_replicate]at e
   split at e <;> cases e
  ·exact absurd (show ([]:List (Str×Addr)).lookup x=some c from e) (by simp)
  ·exact absurd (show ([]:List (Str×Addr)).lookup x=some c from e) (by simp)
  ·exact absurd (show p∈([]:List (Addr×Obj))from hp) (by simp)
 have st4:tn 0 h4:=T.keep _ _ _ st3 λb _ o e=>k34 b o e
 have C_ne:∀b∈fp,b≠s3.heap.objs.size:=λb hb=>(okB.exf b hb).1
 have stat:∀{H':Hp},(∀b∈fp,H' b=none)->∀b∈fp,Zy (qv X NB scope s3 H3 fp) [] H' b:=λhn b hb =>
  ⟨hn b hb,C_ne b hb,okB.exfs b hb,.inl hb,λx c e=>absurd (show ([]:List (Str×Addr)).lookup x=some c from e) (by simp),λp hp=>absurd (show p∈([]:List (Addr×Obj))from hp) (by simp)⟩
 obtain⟨hg,ht,he⟩:=hb s3 H3 fp
 have fin:∀{σ':St}{H':Hp}{s':Shared},Inv (qv X NB scope s3 H3 fp) [] σ' H' s'->Q (.ref D) H' →
   ∃m,s'.heap.Ns s3.heap.objs.size m/\∀h',Heap.SameBut s3.heap.objs.size s'.heap h'->EP X pins σ Q (.ref D) { s' with heap:=h' }:=λ{σ' H' s'} J q=>by
  obtain⟨m,hm,_⟩:=J.loc
  refine⟨m,hm,λh' sb=>⟨.ref D,H',?_,rfl,q⟩⟩
  have neC:∀b o,s3.heap.get? b=some o->b≠s3.heap.objs.size:=λb o e=>Nat.ne_of_lt (Heap.lt_size e)
  have hfr:H' s3.heap.objs.size=none:=J.free
  have up:∀b o,b≠s3.heap.objs.size->s'.heap.get? b=some o->h'.get? b=some o:=λb o hb e=>(sb.2 b hb).trans e
  have hok':HOk X.prog X.w H' h':=λb ob e=>(J.hok b ob e).stay (λc w' hc q=>up c w' (by
   rintro rfl
   rcases hc with rfl | hc
   ·rw[hfr]at e;cases e
   ·rw[hfr]at hc;cases hc) q) (λ_ q=>q) λ_ _ q=>q
  have u:Un (frs X.stack) fp H3 H' s3.heap h' :=
   ⟨λb o e n hb hx=>up b o (neC b o e) (J.base.keep b o e n hb hx),λb o e n hb hx=>by
    obtain⟨sl,e'⟩:=J.base.slot b o e n hb hx
    exact⟨sl,up b _ (neC b o e) e'⟩,J.base.free,λb o e hx=>by
    obtain⟨o',e'⟩:=J.base.there b o e hx
    exact⟨o',up b _ (neC b o e) e'⟩,J.base.tups,J.base.frzs,J.base.tbls⟩
  refine I3.call' (s':={ s' with heap:=h' }) (ch:=fp) J.os u hok' J.bare λb hb=>?_
  obtain⟨z0,z1,z2,z3,z4,z5⟩:=f3 b hb
  exact⟨z3,z1,z4,z5⟩
 have loop:∀s5:Shared,s5 = { s3 with heap:=h4,toks:=s3.toks+([]:List (Str×Value)).length } →
   codeAny (model X.prog X.w) X.A (.compLoop (.ListComp elt [⟨tg,iter,ifs,0⟩] scope pos) 0 (.ref it) (.ref D) (compEnv scope s3.heap.objs.size X.env))
    (λr s'=>∃m,s'.heap.Ns s3.heap.objs.size m/\∀h',Heap.SameBut s3.heap.objs.size s'.heap h' →
     match r with | .ok _=>EP X pins σ Q (.ref D) { s' with heap:=h' } | .error x=>wpAny (model X.prog X.w) X.A (passOn "comprehension.variables-let-go" x (compEnv scope s3.heap.objs.size X.env)) (EP X pins σ Q) X.xe { s' with heap:=h' }) s5:=by
  rintro s5 rfl
  refine jP (λn s'=>∃i σ' H' ys,Inv (qv X NB scope s3 H3 fp) [] σ' H' s'/\tn i s'.heap/\(∀b∈fp,H' b=none)/\H' D=some (.lst ys)/\W i n H' ys) ?_ m0
   ⟨0,_,H3,[],IB,st4,λb hb=>(f3 b hb).1,h3D,by rw[<-hH3]at *;exact w0⟩
  rintro n s6 ⟨i,σ6,H6,ys,I6,st6,fr6,hD6,w6⟩
  rcases turn i n H6 ys w6 hD6 with⟨stop,qn⟩ | ⟨go,step⟩
  ·refine thn (T.done (qv X NB scope s3 H3 fp) rfl rfl rfl hc i [] s6 σ6 H6 _ I6 (stat fr6) st6 stop) λr s7 ⟨hr,I7⟩=>?_
   subst hr
   exact fin I7 qn
  ·refine thn (T.item (qv X NB scope s3 H3 fp) rfl rfl rfl hc i [] s6 σ6 H6 _ I6 (stat fr6) st6 go) λr s7 ⟨u,hr,h7⟩=>?_
   subst hr
   refine thn h7 λ_ s8 ⟨x,H8,I8,r8,y8,st8,fr8⟩=>?_
   have I8':=I8.pinned (stat fr8) (T.obj _ _ st8)
   have again:∀{σ9:St}{H9:Hp}{s9:Shared}{zs:List V}{m':Nat},Inv (qv X NB scope s3 H3 fp) ([]++Zb fp s8.heap) σ9 H9 s9->H9 D=some (.lst zs)->m'<n->W (i+1) m' H9 zs →
     ∃m,m<n/\∃i σ' H' ys,Inv (qv X NB scope s3 H3 fp) [] σ' H' s9/\tn i s9.heap/\(∀b∈fp,H' b=none)/\H' D=some (.lst ys)/\W i m H' ys:=λ{σ9 H9 s9 zs m'} I9 hz hm w9=>by
    refine⟨m',hm,i+1,σ9,H9,zs,I9.unpinned,T.keep _ _ _ st8 λb hb o e=>(I9.pin (b,o) (List.mem_append_right _ (List.mem_append_right _ (qw hb e)))).1,λb hb=>?_,hz,w9⟩
    obtain⟨o,e,d⟩:=T.obj _ _ st8 b hb
    exact(I9.pin (b,o) (List.mem_append_right _ (List.mem_append_right _ (qw hb e)))).2.1
   refine thn (hg _ s8 σ6 H8 x u _ I8' r8 (step σ6 x H8 I6.len y8)) λ_ s9 ⟨σ9,H9,I9,q9⟩=>?_
   refine thn (ht _ s9 σ9 H9 _ I9 q9) λok s10 ⟨H10,I10,q10⟩=>?_
   cases ok with
   | false =>
    rw[if_neg (by decide)]at q10 ⊢
    obtain⟨hz,m',hm,w'⟩:=q10
    exact again I10 hz hm w'
   | true =>
    rw[if_pos rfl]at q10 ⊢
    refine thn (he _ s10 σ9 H10 _ I10 q10) λy s11 ⟨v,H11,I11,r11,hz,hlen,m',hm,w'⟩=>?_
    refine thn (jt _ s11 σ9 H11 (.ref D) [v] (.ref D) [y] (λ_ H12=>H12=upd H11 D (.lst (ys++[v]))) I11 rfl (.cons r11 .nil) ⟨D,ys,v,rfl,rfl,hz,hlen,rfl⟩) λ_ s12 ⟨_,H12,I12,_,e12⟩=>?_
    subst e12
    exact again I12 zo hm w'
 exact codeAny_compStart_list (loop _ rfl) (T.self X.A 0 _ _ _ st4 (loop _ rfl))
end L2
set_option Elab.async false
set_option linter.all false
set_option maxRecDepth 100000
namespace L2
open PySem PySem.Spec PyProof.Rows
mutual
inductive RdD (H:Hp):V->PyData->Prop
 | non:RdD H .non .none
 | bl (b:Bool):RdD H (.bl b) (.bool b)
 | int (i:Int):RdD H (.int i) (.int i)
 | str (x:Str):RdD H (.str x) (.str x)
 | tup {a:Addr}{xs:List V}{ds:List PyData}:H a=some (.tup xs)->ZB H xs ds->RdD H (.ref a) (.tuple ds)
 | lst {a:Addr}{xs:List V}{ds:List PyData}:H a=some (.lst xs)->ZB H xs ds->RdD H (.ref a) (.list ds)
inductive ZB (H:Hp):List V->List PyData->Prop
 | nil:ZB H [] []
 | cons {x:V}{d:PyData}{xs:List V}{ds:List PyData}:RdD H x d->ZB H xs ds->ZB H (x::xs) (d::ds)
end
section
variable {X:Cx}{pins:List (Addr×Obj)}{σ:St}{H:Hp}{s:Shared}
mutual
theorem RdD.reads (I:Inv X pins σ H s):∀{x:V}{d:PyData},RdD H x d->∀{u:Value},xj x u->∃as,Reads s.heap u d as
 | _,_,.non,u,r=>by cases(show u=Value.none from r);exact⟨_,.none⟩
 | _,_,.bl b,u,r=>by cases(show u=Value.bool b from r);exact⟨_,.bool b⟩
 | _,_,.int i,u,r=>by obtain⟨t,e⟩:=(show ∃t,u=Value.int i t from r);subst e;exact⟨_,.int i t⟩
 | _,_,.str x,u,r=>by obtain⟨t,e⟩:=(show ∃t,u=Value.str x t from r);subst e;exact⟨_,.str x t⟩
 | _,_,@RdD.tup _ a xs ds e h,u,r=>by
  cases(show u=Value.ref a from r)
  obtain⟨_,its,rv,o,h1,h2,n,h3⟩:=(show xU X.prog X.w H s.heap a (.tup xs)from I.hok a _ e)
  obtain⟨as,ra⟩:=ZB.reads I h rv
  exact⟨_,.tuple h1 h2 h3 (by simpa using ra)⟩
 | _,_,@RdD.lst _ a xs ds e h,u,r=>by
  cases(show u=Value.ref a from r)
  obtain⟨_,its,n,rv,h1⟩:=(show xU X.prog X.w H s.heap a (.lst xs)from I.hok a _ e)
  obtain⟨as,ra⟩:=ZB.reads I h rv
  exact⟨_,.list h1 rfl rfl (by simpa using ra)⟩
theorem ZB.reads (I:Inv X pins σ H s):∀{xs:List V}{ds:List PyData},ZB H xs ds->∀{us:List Value},zS xs us->∃as,ReadsAll s.heap us ds as
 | _,_,.nil,us,r=>by cases r;exact⟨_,.nil⟩
 | _,_,.cons h t,us,r=>by
  cases r with
  | cons r1 r2 =>
   obtain⟨a1,q1⟩:=RdD.reads I h r1
   obtain⟨a2,q2⟩:=ZB.reads I t r2
   exact⟨_,.cons q1 q2⟩
end
end
def rEqD:R2:=λx y H Q=>∃d e,RdD H x d/\RdD H y e/\SeqAt.shaped d=true/\SeqAt.shaped e=true/\Q (.bl (PyData.eqv d e)) H
def zem:R2:=λx y H Q=>∃d e,RdD H x d/\RdD H y e/\SeqAt.shaped d=true/\SeqAt.shaped e=true/\Q (.bl (!PyData.eqv d e)) H
section
variable {X:Cx}
theorem ZP (hu:X.A.units+64<cLine):OpR X (compareOp .Eq) rEqD:=by
 intro pins s σ H x y v u Q I rx ry h
 obtain⟨d,e,hd,he,s1,s2,q⟩:=h
 obtain⟨as,r1⟩:=hd.reads I rx
 obtain⟨bs,r2⟩:=he.reads I ry
 exact eq_dataH r1 r2 s1 s2 hu ⟨.bl _,H,I,rfl,q⟩
theorem zdm (hu:X.A.units+64<cLine):OpR X (compareOp .NotEq) zem:=by
 intro pins s σ H x y v u Q I rx ry h
 obtain⟨d,e,hd,he,s1,s2,q⟩:=h
 obtain⟨as,r1⟩:=hd.reads I rx
 obtain⟨bs,r2⟩:=he.reads I ry
 exact ne_dataH r1 r2 s1 s2 hu ⟨.bl _,H,I,rfl,q⟩
def Bd (n:Nat) (i:Int):Prop:=i.natAbs<2^n
theorem Bd.mono {m n:Nat}{i:Int}(h:Bd m i) (l:m<=n):Bd n i:=Nat.lt_of_lt_of_le h (Nat.pow_le_pow_right (by decide) l)
theorem Bd.bits {n:Nat}{i:Int}(h:Bd n i):Builtin.Int.intBits i<=n:=intBits_le_iff.mpr h
theorem Bd.of_bits {n:Nat}{i:Int}(h:Builtin.Int.intBits i<=n):Bd n i:=intBits_le_iff.mp h
theorem Bd.mul {m n:Nat}{i j:Int}(h:Bd m i) (k:Bd n j):Bd (m+n) (i*j):=.of_bits (intBits_mul_le h.bits k.bits)
theorem Bd.add {m n:Nat}{i j:Int}(h:Bd m i) (k:Bd n j):Bd (max m n+1) (i+j):=.of_bits (intBits_add_le h.bits k.bits)
theorem Bd.neg {n:Nat}{i:Int}(h:Bd n i):Bd n (-i):=by unfold Bd;rw[Int.natAbs_neg];exact h
theorem Bd.sub {m n:Nat}{i j:Int}(h:Bd m i) (k:Bd n j):Bd (max m n+1) (i - j):=by rw[Int.sub_eq_add_neg];exact h.add k.neg
def Z9 (i j:Int):Prop:=Bd 1000000 i/\Bd 1000000 j
theorem zJ:OpR X (binaryOp .Mult) (rI Z9 λi j=>.int (i*j)):=opI λ_ _ _ _ _ _ _ hc q=>mul_int q (IntMulOk.of_le hc.1.bits hc.2.bits (by decide))
def Qi (i j:Int):Prop:=j≠0/\Bd 8900 j
theorem qr:OpR X (binaryOp .FloorDiv) (rI Qi λi j=>.int (i.fdiv j)):=opI λ_ j _ _ _ _ _ hc q=>floordiv_int hc.1 q (.inl (PyProof.noPylong_of_log2 (by
 have h1:j.natAbs≠0:=λz=>hc.1 (Int.natAbs_eq_zero.mp z)
 have h2:j.natAbs<2^9000:=Nat.lt_of_lt_of_le hc.2 (Nat.pow_le_pow_right (by decide) (by decide))
 exact(Nat.log2_lt h1).mpr h2)))
theorem qi:jb X (.builtin "isinstance") (λxs H Q=>∃x t n b,xs=[x,.ty n]/\j7 X.K H x t/\PySem.W.kitOne X.K t (.type n)=some b/\Q (.bl b) H):=by
 intro pins s σ H xs us Q I r h
 obtain⟨x,t,n,b,rfl,ty,e,q⟩:=h
 obtain⟨u,w',rfl,r1,r2⟩:=VN r
 cases(show w'=Value.type n from r2)
 exact V3 I r1 ty e λtk=>⟨.bl b,H,I.tok tk,rfl,q⟩
end
end L2
set_option Elab.async false
set_option linter.all false
set_option maxRecDepth 100000
namespace HT
open PySem PySem.Spec PyProof.Rows L2
end HT
namespace L2
open PySem PySem.Spec PyProof.Rows
end L2
namespace KM
theorem Qo {a b:Int}(ha:0<=a) (hb:0<b):Int.gcd b (a % b)=Int.gcd a b:=by
 obtain⟨m,rfl⟩:=Int.eq_ofNat_of_zero_le ha
 obtain⟨n,rfl⟩:=Int.eq_ofNat_of_zero_le (Int.le_of_lt hb)
 rw[<-Int.natCast_emod,Int.gcd_comm (m:Int)]
 show Nat.gcd n (m % n)=Nat.gcd n m
 rw[Nat.gcd_comm n (m % n)]
 exact(Nat.gcd_rec n m).symm
theorem zR (q:Rat):(q.den:Int)≠0:=by have:=q.den_nz;omega
theorem den_pos (q:Rat):(0:Int)<q.den:=by have:=q.den_nz;omega
def dv (t b:Int):Int:=if b<0 then -(Int.gcd t b:Int)else(Int.gcd t b:Int)
theorem za5 {t b:Int}(hb:b≠0):0<Int.gcd t b:=Int.gcd_pos_of_ne_zero_right _ hb
theorem zb8 {t b:Int}(hb:b≠0):dv t b≠0:=by
 have:=za5 (t:=t) hb
 unfold dv;split <;> omega
theorem zcJ {t b:Int}:(dv t b).natAbs=Int.gcd t b:=by
 unfold dv;split <;> omega
theorem zb7 {t b:Int}(hb:b≠0):(dv t b).natAbs<=b.natAbs:=by
 rw[zcJ];exact Nat.le_of_dvd (by omega) (Int.gcd_dvd_natAbs_right t b)
theorem QR {t b:Int}(hb:b≠0):t.fdiv (dv t b)=(Rat.divInt t b).num:=by
 rw[Rat.num_divInt,Int.gcd_comm b t]
 have h1:((Int.gcd t b:Nat):Int) ∣ t:=Int.gcd_dvd_left ..
 unfold dv
 split
 ·rename_i h
  rw[Int.fdiv_eq_ediv_of_dvd (Int.neg_dvd.mpr h1),Int.ediv_neg,Int.sign_eq_neg_one_of_neg h]
  rw[show (-1*t) = -t by omega,Int.neg_ediv_of_dvd h1]
 ·rename_i h
  rw[Int.fdiv_eq_ediv_of_dvd h1,Int.sign_eq_one_of_pos (by omega),Int.one_mul]
theorem JK {t b:Int}(hb:b≠0):b.fdiv (dv t b)=((Rat.divInt t b).den:Int):=by
 rw[Rat.den_divInt,if_neg hb,Int.gcd_comm b t]
 have h1:((Int.gcd t b:Nat):Int) ∣ b:=Int.gcd_dvd_right ..
 have h2:Int.gcd t b ∣ b.natAbs:=Int.gcd_dvd_natAbs_right t b
 unfold dv
 split
 ·rename_i h
  rw[Int.fdiv_eq_ediv_of_dvd (Int.neg_dvd.mpr h1),Int.ediv_neg]
  rw[Int.natCast_ediv,show ((b.natAbs:Nat):Int) = -b by omega,Int.neg_ediv_of_dvd h1]
 ·rename_i h
  rw[Int.fdiv_eq_ediv_of_dvd h1,Int.natCast_ediv,show ((b.natAbs:Nat):Int)=b by omega]
theorem J1 {t b:Int}(hb:b≠0):(Rat.divInt t b).num.natAbs<=t.natAbs:=by
 rw[<-QR hb]
 have:t.fdiv (dv t b) ∣ t:=by
  have h1:dv t b ∣ t:=by
   unfold dv;split
   ·exact Int.neg_dvd.mpr (Int.gcd_dvd_left ..)
   ·exact Int.gcd_dvd_left ..
  obtain⟨c,hc⟩:=h1
  rw[Int.fdiv_eq_ediv_of_dvd ⟨c,hc⟩]
  refine⟨dv t b,?_⟩
  exact(Int.ediv_mul_cancel ⟨c,hc⟩).symm
 by_cases h0:t=0
 ·subst h0;simp
 ·exact Nat.le_of_dvd (by omega) (Int.natAbs_dvd_natAbs.mpr this)
theorem qS {t b:Int}(hb:b≠0):(Rat.divInt t b).den<=b.natAbs:=by
 rw[Rat.den_divInt,if_neg hb];exact Nat.div_le_self _ _
theorem XN (a b:Rat):Rat.divInt (a.num*b.den+b.num*a.den) (a.den*b.den)=a+b:=by
 rw[Rat.add_def',<-Rat.divInt_ofNat];simp
theorem ZV (a b:Rat):Rat.divInt (a.num*b.num) (a.den*b.den)=a*b:=by
 rw[Rat.mul_def',<-Rat.divInt_ofNat];simp
theorem jV (a b:Rat):Rat.divInt (a.num*b.den) (a.den*b.num)=a/b:=by
 rw[Rat.div_def,Rat.inv_def,<-Rat.divInt_mul_divInt,Rat.num_divInt_den]
theorem jS (a b:Rat):a.num*b.den<b.num*a.den↔a<b:=(Rat.lt_iff a b).symm
theorem Q0 (n:Int):Rat.divInt n 1=(n:Rat):=by simpa using Rat.num_divInt_den (n:Rat)
theorem Vu (n:Int):(n:Rat).num=n:=Rat.num_intCast n
theorem Vt (n:Int):(n:Rat).den=1:=Rat.den_intCast n
structure vY where
 pl:Rat
 sp:Rat
 wt:Int
end KM
set_option Elab.async false
set_option linter.all false
set_option maxRecDepth 100000
namespace L2
open PySem PySem.Spec PyProof.Rows
structure Cal (P:Program) (w:World) (K:PySem.W.Frag) (mg:Str->Option Value) (base:Heap) (x:Str) (k:Nat) (ps:List Str) (dvs:List V) (sp:Sp):Prop where
 ex:∃f fd ds,jN P w K mg base CX0 k f fd ps sp/\mg x=some (.ref f)/\PySem.W.keepIn K (.ref f)=true/\jE K fd ps ds/\zS dvs ds
theorem zC {X:Cx}{x:Str}{k:Nat}{ps:List Str}{dvs:List V}{sp:Sp}{p pos:Pos}{e:Expr}{es:List Expr}{t:TA}
  (c:Cal X.prog X.w X.K X.mg X.base x k ps dvs sp) (hr:xb k X.A) (ha:PA X (e::es) t) (hg:Gl X x:=by rfl) (hdb:(x == ("__debug__":Str))=false:=by decide)
  (he:starEach (e::es) X.env=(false,eval e X.env)::starEach es X.env:=by rfl) (hpl:(backTo pos (starEach es X.env)).any (·.1)=false:=by rfl) :
  PE X (.Call (.Name x p) (e::es) [] pos) (jq sp dvs E0 t):=by
 obtain⟨f,fd,ds,F,hm,hk,hb,hd⟩:=c.ex
 exact zbA F hr hg hm hk hb hd zch ha hdb he hpl
structure Df (K:PySem.W.Frag) (mg:Str->Option Value) (x:Str) (st:Stmt) (ps:List Str) (dvs:List V):Prop where
 ex:∃(f:Addr) (oc:Value) (od:Option Addr) (dV kV doc pm:Value) (an:Option Addr) (cdv ct:Value) (osl:Array (Option Value)) (ds:List Value),
  K.lookup f=some ⟨oc,od,.func (PySem.W.fnOf x x (zB st) (zy st) (zi st) dV kV doc pm an cdv ct),osl⟩/\PySem.W.codeIn K cdv x=true/\PySem.W.keepIn K (.ref f)=true/\mg x=some (.ref f) ∧
  zS dvs ds/\jE K (PySem.W.fnOf x x (zB st) (zy st) (zi st) dV kV doc pm an cdv ct) ps ds
section
variable {P:Program}{w:World}{K:PySem.W.Frag}{mg:Str->Option Value}{base:Heap}
theorem Df.cal {x:Str}{st:Stmt}{N ps:List Str}{dvs:List V}{k:Nat}{sp:Sp}(D:Df K mg x st ps dvs) (S:zD N ps (zi st)) (len:∀vs H Q E,sp vs H Q E->vs.length=ps.length)
  (hbody:∀(f:Addr) (cdv:Value) (A:Around) (outer:List Env) (s:Shared) (H:Hp) (vs:List V) (Q:VK) (E:XK),xb k (A.deeper (envOfC x (zi st) s.heap.objs.size f cdv))->sp vs H Q E →
   ∃t,PSs (Qn CX0 P w K mg base N x (zi st) f cdv A outer s H E).nox (zy st) t/\t { nx:=λ_ H'=>Q .non H',rt:=Q } (jG N vs) H):Cal P w K mg base x (k+1) ps dvs sp:=by
 obtain⟨f,oc,od,dV,kV,doc,pm,an,cdv,ct,osl,ds,lk,hcd,hk,hm,hv,hb⟩:=D.ex
 refine⟨⟨f,_,ds,zca lk hcd S len λA outer s H vs Q E hr hsp=>?_,hm,hk,hb,hv⟩⟩
 obtain⟨t,h,q⟩:=hbody f cdv A outer s H vs Q E hr hsp
 exact⟨t,h.nox,q⟩
theorem zQ {x:Str}{st:Stmt}{ps:List Str}{f:Addr}{oc:Value}{od an:Option Addr}{osl:Array (Option Value)}{dV kV doc pm cdv ct:Value}
  (l:K.lookup f=some ⟨oc,od,.func (PySem.W.fnOf x x (zB st) (zy st) (zi st) dV kV doc pm an cdv ct),osl⟩) (c:PySem.W.codeIn K cdv x=true) (k:PySem.W.keepIn K (.ref f)=true) (m:mg x=some (.ref f))
  (hb:∀us:List Value,us.length=ps.length->bindArgs (PySem.W.fnOf x x (zB st) (zy st) (zi st) dV kV doc pm an cdv ct) ⟨us,[]⟩=pure (ps.zip us)):Df K mg x st ps [] :=
 ⟨⟨f,oc,od,dV,kV,doc,pm,an,cdv,ct,osl,[],l,c,k,m,.nil,.all hb⟩⟩
end
def rp (q:Rat):List V:=[.int q.num,.int (q.den:Int)]
def zv (H:Hp) (p:Addr) (q:Rat):Prop:=H p=some (.tup (rp q))
theorem zv.same {H H':Hp}{p:Addr}{q:Rat}(h:zv H p q) (e:zt H H'):zv H' p q:=e _ _ h
def Sz (n:Nat) (q:Rat):Prop:=Bd n q.num/\Bd n (q.den:Int)
theorem Sz.mono {m n:Nat}{q:Rat}(h:Sz m q) (l:m<=n):Sz n q:=⟨h.1.mono l,h.2.mono l⟩
theorem Bd.of_le {n:Nat}{i j:Int}(h:i.natAbs<=j.natAbs) (b:Bd n j):Bd n i:=Nat.lt_of_le_of_lt h b
theorem Sz.divInt {n:Nat}{t b:Int}(hb:b≠0) (h1:Bd n t) (h2:Bd n b):Sz n (Rat.divInt t b) :=
 ⟨h1.of_le (KM.J1 hb),h2.of_le (by have:=KM.qS (t:=t) hb;omega)⟩
theorem Sz.add {m n:Nat}{x y:Rat}(h:Sz m x) (k:Sz n y):Sz (m+n+1) (x+y):=by
 rw[<-KM.XN]
 refine .divInt (Int.mul_ne_zero (KM.zR x) (KM.zR y)) ?_ ((h.2.mul k.2).mono (by omega))
 exact((h.1.mul k.2).add (k.1.mul h.2)).mono (by omega)
theorem Sz.mul {m n:Nat}{x y:Rat}(h:Sz m x) (k:Sz n y):Sz (m+n) (x*y):=by
 rw[<-KM.ZV]
 exact .divInt (Int.mul_ne_zero (KM.zR x) (KM.zR y)) (h.1.mul k.1) (h.2.mul k.2)
theorem Sz.int {n:Nat}{i:Int}(h:Bd n i) (hn:1<=n):Sz n (i:Rat):=by
 refine⟨by rw[KM.Vu];exact h,?_⟩
 rw[KM.Vt]
 exact Bd.mono (m:=1) (show (1:Int).natAbs<2^1 by decide) hn
theorem Jj (q:Rat):SeqAt.shaped (.tuple [.int q.num,.int (q.den:Int)])=true:=rfl
theorem zv.rd {H:Hp}{p:Addr}{q:Rat}(h:zv H p q):RdD H (.ref p) (.tuple [.int q.num,.int (q.den:Int)]):=.tup h (.cons (.int _) (.cons (.int _) .nil))
theorem zcL (x y:Rat):PyData.eqv (.tuple [.int x.num,.int (x.den:Int)]) (.tuple [.int y.num,.int (y.den:Int)])=decide (x=y):=by
 simp only[PyData.eqv,PyData.eqvAll,Bool.and_true]
 rw[Bool.eq_iff_iff]
 simp only[Bool.and_eq_true,beq_iff_eq,decide_eq_true_eq]
 constructor
 ·rintro ⟨h1,h2⟩;exact Rat.ext h1 (by omega)
 ·rintro rfl;exact⟨rfl,rfl⟩
def qd:Sp:=λvs H Q _=>∃t b,vs=[.int t,.int b]/\b≠0/\Bd 8900 b/\∀p H',zt H H'->zv H' p (Rat.divInt t b)->Q (.ref p) H'
def xK (C:Rat->Rat->Prop) (f:Rat->Rat->Rat):Sp:=λvs H Q _=>∃p q x y,vs=[.ref p,.ref q]/\zv H p x/\zv H q y/\C x y/\∀r H',zt H H'->zv H' r (f x y)->Q (.ref r) H'
def Sz2 (x y:Rat):Prop:=Sz 4000 x/\Sz 4000 y
theorem at0 {α:Type}(a b:α):atI [a,b] 0=some a:=rfl
theorem at1 {α:Type}(a b:α):atI [a,b] 1=some b:=rfl
theorem zt.upd {H:Hp}{p:Addr}{o:HO}(h:H p=none):zt H (upd H p o):=λb u e=>by rw[zK (zN e h)];exact e
end L2
set_option Elab.async false
set_option linter.all false
set_option maxRecDepth 100000
namespace L2
open PySem PySem.Spec PyProof.Rows
end L2
set_option Elab.async false
set_option linter.all false
set_option maxRecDepth 100000
namespace L2
open PySem PySem.Spec PyProof.Rows
end L2
set_option Elab.async false
set_option linter.all false
set_option maxRecDepth 100000
namespace L2
open PySem PySem.Spec PyProof.Rows
end L2
set_option Elab.async false
set_option linter.all false
set_option maxRecDepth 100000
namespace L2
open PySem PySem.Spec PyProof.Rows PySem.W
end L2
set_option Elab.async false
set_option linter.all false
set_option maxRecDepth 100000
namespace L2
open PySem PySem.Spec PyProof.Rows
def qm (σ:St) (js:List Nat):St:=js.map λj=>(σ[j]?).getD none
inductive jM (X:Cx) (scope:Scope) (cl:List (Str×Addr)):List Str->List Nat->Prop
 | nil:jM X scope cl [] []
 | cons {x:Str}{j:Nat}{r:List Str}{js:List Nat}:X.N[j]? = some x->X.env.kindOf x=some .cell->(relabel scope X.env).names.lookup x=some .cell->(∃c,cl.lookup x=some c)->jM X scope cl r js->jM X scope cl (x::r) (j::js)
section
variable {X:Cx}{scope:Scope}{cl:List (Str×Addr)}
theorem jM.length:∀{r:List Str}{js:List Nat},jM X scope cl r js->r.length=js.length
 | _,_,.nil=>rfl
 | _,_,.cons _ _ _ _ t=>by rw[List.length_cons,List.length_cons,jM.length t]
theorem jM.get:∀{r:List Str}{js:List Nat}{k:Nat}{x:Str},jM X scope cl r js->r[k]? = some x->∃j,js[k]? = some j/\X.N[j]? = some x/\X.env.kindOf x=some .cell/\(relabel scope X.env).names.lookup x=some .cell/\∃c,cl.lookup x=some c
 | _,_,_,_,.nil,e=>by simp at e
 | _,_,0,_,.cons h1 h2 h3 h4 _,e=>by
  simp at e;subst e
  exact⟨_,rfl,h1,h2,h3,h4⟩
 | _,_,k+1,x,.cons _ _ _ _ t,e=>by
  obtain⟨j,r⟩:=jM.get (k:=k) t (by simpa using e)
  exact⟨j,by simpa using r⟩
theorem jM.has {r:List Str}{js:List Nat}(h:jM X scope cl r js){x:Str}(hx:x∈r):∃c,cl.lookup x=some c:=by
 obtain⟨k,hk⟩:=List.getElem?_of_mem hx
 obtain⟨_,_,_,_,_,z⟩:=h.get hk
 exact z
end
def xp (X:Cx) (NB FR:List Str) (scope:Scope) (cl:List (Str×Addr)) (s3:Shared) (H3:Hp) (fp:List Addr):Cx :=
 { X with N:=NB++FR,s₀:=s3,H₀:=H3,env:=compEnvC scope cl s3.heap.objs.size X.env,outer:=X.stack,stack:=X.stack,ex:=fp,fn:=λ_=>false,pn:=[],xe:=λ_ _=>False }
def X9 (n:Nat) (js:List Nat) (wi:TI) (g:TG) (tt:TT) (te:TE):TE:=λσ H Q=>wi σ H λJ H1=>∀D,H1 D=none->∃W:Nat->Nat->Hp->List V->Prop,(∃m,W 0 m (upd H1 D (.lst [])) []) ∧
 ∀i m H2 ys,W i m H2 ys->H2 D=some (.lst ys)->(J.stop i H2/\Q (.ref D) H2) ∨
  (J.go i H2/\∀zs x H3,zs.length=n->J.yld i H2 x H3->g x (zs++qm σ js) H3 λσ4 H4=>σ4.drop n=qm σ js/\tt σ4 H4 λb H5 =>
   if b=true then te σ4 H5 (λv H6=>H6 D=some (.lst ys)/\ys.length<sizeLine/\∃m',m'<m/\W (i+1) m' (upd H6 D (.lst (ys++[v]))) (ys++[v]))
   else H5 D=some (.lst ys)/\∃m',m'<m/\W (i+1) m' H5 ys)
theorem Qx {scope:Scope}{env:Env}{FR:List Str}{x:Str}(h:(relabel scope env).names.all (λy=>!(y.2 == .cell || y.2 == .free) || FR.contains y.1)=true)
  (e:(relabel scope env).names.lookup x=some .cell\/(relabel scope env).names.lookup x=some .free):x∈FR:=by
 have key:∀k:NameKind,(k == .cell || k == .free)=true->(x,k)∈(relabel scope env).names->x∈FR:=λk hk hm=>by
  have z:=List.all_eq_true.mp h _ hm
  simp only[hk,Bool.not_true,Bool.false_or,List.contains_iff_mem]at z
  exact z
 rcases e with e | e
 ·exact key .cell rfl (PySem.mem_of_lookup e)
 ·exact key .free rfl (PySem.mem_of_lookup e)
theorem Xi {X:Cx}{elt tg iter:Expr}{ifs:List Expr}{scope:Scope}{cl:List (Str×Addr)}{pos:Pos}{NB FR:List Str}{js:List Nat}{wi:TI}{g:TG}{tt:TT}{te:TE}{Q:VK}{RR:Value->Addr->Result->Shared->Prop}
  {pins:List (Addr×Obj)}{s:Shared}{σ:St}{H:Hp}(hc:X.calm=true) (hcl:∀x c,cl.lookup x=some c->X.env.cells.lookup x=some c) (hcap:jM X scope cl FR js)
  (hnm:(relabel scope X.env).names.all (λy=>!(y.2 == .cell || y.2 == .free) || FR.contains y.1)=true) (hcell:∀x∈scope.names,x.2≠.cell) (hkind:scope.kind = .function)
  (hi:PI X tg iter wi) (hb:∀s3 H3 fp,PG (xp X NB FR scope cl s3 H3 fp) tg g/\PTs (xp X NB FR scope cl s3 H3 fp) ifs tt/\PE (xp X NB FR scope cl s3 H3 fp) elt te)
  (I:Inv X pins σ H s) (h:X9 NB.length js wi g tt te σ H Q)
  (hRR:∀D C H' s',Inv X pins σ H' s'->Zy X pins H' C->(∃m,s'.heap.Ns C m)->Q (.ref D) H'->RR (.ref D) C (.ok .next) s') :
  wpAny (model X.prog X.w) X.A (eval iter X.env) (λv s1=>wpAny (model X.prog X.w) X.A (pyIter v) (λit s2=>wpAny (model X.prog X.w) X.A (newList []) (λacc s3 =>
   wpAny (model X.prog X.w) X.A (newFunctionEnv scope X.env.globals cl [] X.env.qual none .none (some X.env)) (λcenv s4 =>
    codeAny (model X.prog X.w) X.A (.compStart (.ListComp elt [⟨tg,iter,ifs,0⟩] scope pos) 0 it acc { cenv with scope:=relabel scope X.env }) (RR acc cenv.locals) s4) X.xe s3) X.xe s2) X.xe s1) X.xe s:=by
 refine thn (hi pins s σ H _ I h) λv s1 h1=>thn h1 λitv s2 h2=>?_
 obtain⟨it,fp,tn,J,H2,e,I2,T,st2,f2,q2⟩:=h2
 subst e
 have hf2:H2 s2.heap.objs.size=none:=I2.hok.fresh (Nat.le_refl _)
 obtain⟨W,⟨m0,w0⟩,turn⟩:=q2 _ hf2
 refine wpAny_newObj_type (hd:=by size_fits) ?_
 have I3:Inv X pins σ (upd H2 s2.heap.objs.size (.lst [])) { s2 with heap:=s2.heap.push { cls:=.type "list",dict:=none,data:=.seq ([]:List Value).toArray } } :=
  I2.laid (t':=s2.toks) (λb u e=>Heap.get?_push_of_some _ e) (Nat.le_refl _) ⟨by decide,[],0,.nil,Heap.get?_push_size _ rfl⟩
 generalize hD:s2.heap.objs.size=D at *
 generalize hs3:({ s2 with heap:=s2.heap.push { cls:=.type "list",dict:=none,data:=.seq ([]:List Value).toArray } }:Shared)=s3 at *
 generalize hH3:upd H2 D (.lst [])=H3 at *
 have h3D:H3 D=some (.lst []):=by rw[<-hH3];exact zo
 have fpD:∀b∈fp,b≠D:=λb hb=>by
  obtain⟨o,e,_⟩:=T.obj _ _ st2 b hb
  rw[<-hD];exact Nat.ne_of_lt (Heap.lt_size e)
 have k23:∀b u,s2.heap.get? b=some u->s3.heap.get? b=some u:=λb u e=>by rw[<-hs3];exact Heap.get?_push_of_some _ e
 have st3:tn 0 s3.heap:=T.keep _ _ _ st2 λb _ o e=>k23 b o e
 have f3:∀b∈fp,Zy X pins H3 b:=λb hb=>⟨by rw[<-hH3,zK (fpD b hb)];exact(f2 b hb).1,(f2 b hb).2⟩
 refine wpAny_newFunctionEnv hcell (by intro y hy;simp at hy) (λh4 hns4 hsb4=>?_) hkind
 have k34:∀b u,s3.heap.get? b=some u->h4.get? b=some u:=λb u e=>hsb4.extBut b u (Nat.ne_of_lt (Heap.lt_size e)) (Heap.get?_push_of_some _ e)
 have okB:(xp X NB FR scope cl s3 H3 fp).Ok:=by
  refine⟨I3.ok.mod,hkind,I3.ok.glob,I3.ok.blt,Nat.le_refl _,λx y c e1 e2=>I3.ok.inj x y c (hcl _ _ e1) (hcl _ _ e2),λx e=>hcap.has (Qx hnm e),(λx c e=>nomatch e),I3.ok.hd,I3.ok.frames,.inl rfl,λb hb=>⟨?_,λx c e=>?_⟩,I3.bs,Nat.le_trans I3.ok.bsz I3.sz,λb o e hb=>?_,λb hb z=>?_,I3.stack,I3.stkFree⟩
  ·obtain⟨o,e,_⟩:=T.obj _ _ st3 b hb
   exact Nat.ne_of_lt (Heap.lt_size e)
  ·exact(f3 b hb).2.2.2.2.1 x c (hcl _ _ e)
  ·obtain⟨_,_,_,z,_⟩:=f3 b hb
   rcases z with z | z
   ·exact I3.ok.noex b o e z
   ·exact absurd (Nat.lt_of_lt_of_le (Heap.lt_size e) (Nat.le_trans I3.ok.bsz z)) (Nat.lt_irrefl _)
  ·obtain⟨_,z1,z2,_⟩:=f3 b hb
   rcases List.mem_cons.mp (I3.stkSub b z)with e | e
   ·exact z1 e
   ·exact z2 e
 have IB:Inv (xp X NB FR scope cl s3 H3 fp) [] (List.replicate NB.length none++qm σ js) H3 { s3 with heap:=h4,toks:=s3.toks+([]:List (Str×Value)).length }:=by
  refine⟨okB,rfl,I3.bare,Un.kept k34,⟨_,hns4,λi x v e1 e2 e3=>?_⟩,λx c e=>?_,I3.hok.fresh (Nat.le_refl _),λx c e=>I3.freeC x c (hcl _ _ e),λp hp=>?_,I3.hok.kept k34,?_⟩
  ·by_cases hi:i<NB.length
   ·rw[List.getElem?_append_left (by simpa using hi),List.getElem?_replicate,if_pos hi]at e2
    cases e2
   ·have e1':FR[i - NB.length]? = some x:=by
     have z:(NB++FR)[i]? = some x:=e1
     rw[List.getElem?_append_right (by omega)]at z;exact z
    rw[List.getElem?_append_right (by simp;omega),List.length_replicate]at e2
    obtain⟨j,hj,hN,hk,hb',c,hc'⟩:=hcap.get e1'
    have e2':σ[j]? = some (some v):=by
     unfold qm at e2
     rw[List.getElem?_map,hj]at e2
     simp only[Option.map_some,Option.some.injEq]at e2
     cases hσ:σ[j]? with
     | none=>rw[hσ]at e2;cases e2
     | some o=>rw[hσ]at e2;simp only[Option.getD_some]at e2;rw[e2]
    obtain⟨m,hn,hl⟩:=I3.loc
    obtain⟨u,ru,lu⟩:=hl j x v hN e2' (.inr (.inl hk))
    refine⟨u,ru,.inr ⟨.inl hb',c,hc',?_⟩⟩
    rcases lu with⟨z,_⟩ | ⟨_,c',z,q⟩
    ·rw[hk]at z;cases z
    ·rw[hcl _ _ hc']at z;cases z
     obtain⟨o,ho,hd⟩:=q
     exact⟨o,k34 _ _ ho,hd⟩
  ·obtain⟨v,o,ho,hd⟩:=I3.cell x c (hcl _ _ e)
   exact⟨v,o,k34 _ _ ho,hd⟩
  ·exact absurd (show p∈([]:List (Addr×Obj))from hp) (by simp)
  ·show _=(NB++FR).length
   rw[List.length_append,List.length_append,List.length_replicate,hcap.length]
   unfold qm;rw[List.length_map]
 have st4:tn 0 h4:=T.keep _ _ _ st3 λb _ o e=>k34 b o e
 have stat:∀{H':Hp},(∀b∈fp,H' b=none)->∀b∈fp,Zy (xp X NB FR scope cl s3 H3 fp) [] H' b:=λhn b hb =>
  ⟨hn b hb,(okB.exf b hb).1,okB.exfs b hb,.inl hb,λx c e=>(f3 b hb).2.2.2.2.1 x c (hcl _ _ e),λp hp=>absurd (show p∈([]:List (Addr×Obj))from hp) (by simp)⟩
 obtain⟨hg,ht,he⟩:=hb s3 H3 fp
 have fin:∀{σ':St}{H':Hp}{s':Shared},Inv (xp X NB FR scope cl s3 H3 fp) [] σ' H' s'->Q (.ref D) H'->RR (.ref D) s3.heap.objs.size (.ok .next) s':=λ{σ' H' s'} J q=>by
  have hm:∃m,s'.heap.Ns s3.heap.objs.size m:=by
   obtain⟨m,hm,_⟩:=J.loc
   exact⟨m,hm⟩
  refine hRR D _ H' s' (I3.call' (ch:=fp) J.os J.base J.hok J.bare λb hb=>?_) (I3.fpOk (Nat.le_refl _) J.free) hm q
  obtain⟨_,z1,z2,z3,z4,z5⟩:=f3 b hb
  exact⟨z3,z1,z4,z5⟩
 have loop:∀s5:Shared,s5 = { s3 with heap:=h4,toks:=s3.toks+([]:List (Str×Value)).length } →
   codeAny (model X.prog X.w) X.A (.compLoop (.ListComp elt [⟨tg,iter,ifs,0⟩] scope pos) 0 (.ref it) (.ref D) (compEnvC scope cl s3.heap.objs.size X.env)) (RR (.ref D) s3.heap.objs.size) s5:=by
  rintro s5 rfl
  refine jP (λn s'=>∃i zs H' ys,zs.length=NB.length/\Inv (xp X NB FR scope cl s3 H3 fp) [] (zs++qm σ js) H' s'/\tn i s'.heap/\(∀b∈fp,H' b=none)/\H' D=some (.lst ys)/\W i n H' ys) ?_ m0
   ⟨0,_,H3,[],List.length_replicate,IB,st4,λb hb=>(f3 b hb).1,h3D,by rw[<-hH3]at *;exact w0⟩
  rintro n s6 ⟨i,zs,H6,ys,hzs,I6,st6,fr6,hD6,w6⟩
  rcases turn i n H6 ys w6 hD6 with⟨stop,qn⟩ | ⟨go,step⟩
  ·refine thn (T.done (xp X NB FR scope cl s3 H3 fp) rfl rfl rfl hc i [] s6 _ H6 _ I6 (stat fr6) st6 stop) λr s7 ⟨hr,I7⟩=>?_
   subst hr
   exact fin I7 qn
  ·refine thn (T.item (xp X NB FR scope cl s3 H3 fp) rfl rfl rfl hc i [] s6 _ H6 _ I6 (stat fr6) st6 go) λr s7 ⟨u,hr,h7⟩=>?_
   subst hr
   refine thn h7 λ_ s8 ⟨x,H8,I8,r8,y8,st8,fr8⟩=>?_
   have I8':=I8.pinned (stat fr8) (T.obj _ _ st8)
   have again:∀{σ9:St}{H9:Hp}{s9:Shared}{ws:List V}{m':Nat},σ9.drop NB.length=qm σ js->Inv (xp X NB FR scope cl s3 H3 fp) ([]++Zb fp s8.heap) σ9 H9 s9->H9 D=some (.lst ws)->m'<n->W (i+1) m' H9 ws →
     ∃m,m<n/\∃i zs H' ys,zs.length=NB.length/\Inv (xp X NB FR scope cl s3 H3 fp) [] (zs++qm σ js) H' s9/\tn i s9.heap/\(∀b∈fp,H' b=none)/\H' D=some (.lst ys)/\W i m H' ys:=λ{σ9 H9 s9 ws m'} hdr I9 hz hm w9=>by
    have hl:σ9.length=(NB++FR).length:=I9.len
    rw[List.length_append]at hl
    refine⟨m',hm,i+1,σ9.take NB.length,H9,ws,by rw[List.length_take];omega,?_,T.keep _ _ _ st8 λb hb o e=>(I9.pin (b,o) (List.mem_append_right _ (List.mem_append_right _ (qw hb e)))).1,λb hb=>?_,hz,w9⟩
    ·rw[<-hdr,List.take_append_drop];exact I9.unpinned
    ·obtain⟨o,e,d⟩:=T.obj _ _ st8 b hb
     exact(I9.pin (b,o) (List.mem_append_right _ (List.mem_append_right _ (qw hb e)))).2.1
   refine thn (hg _ s8 _ H8 x u _ I8' r8 (step zs x H8 hzs y8)) λ_ s9 ⟨σ9,H9,I9,hdr,q9⟩=>?_
   refine thn (ht _ s9 σ9 H9 _ I9 q9) λok s10 ⟨H10,I10,q10⟩=>?_
   cases ok with
   | false =>
    rw[if_neg (by decide)]at q10 ⊢
    obtain⟨hz,m',hm,w'⟩:=q10
    exact again hdr I10 hz hm w'
   | true =>
    rw[if_pos rfl]at q10 ⊢
    refine thn (he _ s10 σ9 H10 _ I10 q10) λy s11 ⟨v,H11,I11,r11,hz,hlen,m',hm,w'⟩=>?_
    refine thn (jt _ s11 σ9 H11 (.ref D) [v] (.ref D) [y] (λ_ H12=>H12=upd H11 D (.lst (ys++[v]))) I11 rfl (.cons r11 .nil) ⟨D,ys,v,rfl,rfl,hz,hlen,rfl⟩) λ_ s12 ⟨_,H12,I12,_,e12⟩=>?_
    subst e12
    exact again hdr I12 zo hm w'
 exact codeAny_compStart_list (loop _ rfl) (T.self X.A 0 _ _ _ st4 (loop _ rfl))
section
variable {X:Cx}{elt tg iter:Expr}{ifs:List Expr}{scope:Scope}{cl:List (Str×Addr)}{pos spos py:Pos}{NB FR:List Str}{js:List Nat}{wi:TI}{g:TG}{tt:TT}{te:TE}
theorem qe (hc:X.calm=true) (hclos:closureFor scope X.env=pure cl) (hcl:∀x c,cl.lookup x=some c->X.env.cells.lookup x=some c) (hcap:jM X scope cl FR js)
  (hnm:(relabel scope X.env).names.all (λy=>!(y.2 == .cell || y.2 == .free) || FR.contains y.1)=true) (hcell:∀x∈scope.names,x.2≠.cell) (hkind:scope.kind = .function) (hnames:∀x∈scope.names,x.2 = .local → scope.names.lookup x.1=some .local)
  (hi:PI X tg iter wi) (hb:∀s3 H3 fp,PG (xp X NB FR scope cl s3 H3 fp) tg g/\PTs (xp X NB FR scope cl s3 H3 fp) ifs tt/\PE (xp X NB FR scope cl s3 H3 fp) elt te)
  (hs:∀x,foldedSetIterable iter X.env x=pure x:=by intro _;rfl) :
  PE X (.ListComp elt [⟨tg,iter,ifs,0⟩] scope pos) (X9 NB.length js wi g tt te):=by
 intro pins s σ H Q I h
 rw[eval_ListComp]
 refine wpAny_comprehension_free (use:=none) rfl hs hclos hkind hnames (Xi (RR:=λacc C=>compPost (model X.prog X.w) X.A X.xe none (EP X pins σ Q) acc C) hc hcl hcap hnm hcell hkind hi hb I h ?_)
 intro D C H' s' I' ⟨f0,f1,f2,f3,f4,f5⟩ ⟨m,hm⟩ q
 exact⟨m,hm,λh' sb=>⟨.ref D,H',I'.turned (t':=s'.toks) (λb o hb e=>(sb.2 b hb).trans e) f0 f1 f3 f4 f5,rfl,q⟩⟩
theorem XO {i:Nat}{y:Str}(hc:X.calm=true) (hclos:closureFor scope X.env=pure cl) (hcl:∀x c,cl.lookup x=some c->X.env.cells.lookup x=some c) (hcap:jM X scope cl FR js)
  (hnm:(relabel scope X.env).names.all (λy=>!(y.2 == .cell || y.2 == .free) || FR.contains y.1)=true) (hcell:∀x∈scope.names,x.2≠.cell) (hkind:scope.kind = .function) (hnames:∀x∈scope.names,x.2 = .local → scope.names.lookup x.1=some .local)
  (hN:X.N.Nodup) (hiN:X.N[i]? = some y) (hy:X.env.kindOf y=some .local) (hsw:swapsWith (.ListComp elt [⟨tg,iter,ifs,0⟩] scope pos) (some (.Name y py)) spos.line X.env=pure true)
  (hi:PI X tg iter wi) (hb:∀s3 H3 fp,PG (xp X NB FR scope cl s3 H3 fp) tg g/\PTs (xp X NB FR scope cl s3 H3 fp) ifs tt/\PE (xp X NB FR scope cl s3 H3 fp) elt te)
  (hs:∀x,foldedSetIterable iter X.env x=pure x:=by intro _;rfl) :
  PS X (.Assign [.Name y py] (.ListComp elt [⟨tg,iter,ifs,0⟩] scope pos) spos) (zaB (X9 NB.length js wi g tt te) (zA i)):=by
 intro pins s σ H D I h
 rw[exec_Assign_Name_used _ _ _ _ hsw]
 refine wpAny_bind (wpAny_standAt (wpAny_bind ?_))
 show wpAny _ _ (do let _ <-comprehension (.ListComp elt [⟨tg,iter,ifs,0⟩] scope pos) scope X.env _ (newList []) false (eval iter X.env) (some (assign (.Name y py) X.env))) _ _ s
 refine wpAny_bind (wpAny_mono (wpAny_comprehension_free (use:=some (assign (.Name y py) X.env)) (Q:=λ_ s'=>SP X pins D .next s') rfl hs hclos hkind hnames
  (Xi (RR:=λacc C=>compPost (model X.prog X.w) X.A X.xe (some (assign (.Name y py) X.env)) (λ_ s'=>SP X pins D .next s') acc C) hc hcl hcap hnm hcell hkind hi hb I h ?_)) (λ_ s' hq=>wpAny_pure (wpAny_pure hq)) λ_ _ e=>e)
 intro DD C H' s' I' ⟨f0,f1,f2,f3,f4,f5⟩ ⟨m,hm⟩ q
 show wpAny _ _ (assign (.Name y py) X.env (.ref DD)) _ _ s'
 refine wpAny_assign_Name (Xq (v:=.ref DD) I' hN hiN (.inl hy) rfl (λs'' I'' ⟨a,sa,ha⟩=>?_) (.inr hy))
 have hCa:C≠a:=by
  rcases ha with rfl | ha
  ·exact f1
  ·exact λz=>f4 y a ha z.symm
 exact⟨m,hm.sameBut sa hCa,λh' sb=>⟨_,H',I''.turned (t':=s''.toks) (λb o hb e=>(sb.2 b hb).trans e) f0 f1 f3 f4 f5,q⟩⟩
end
end L2
set_option Elab.async false
set_option linter.all false
set_option maxRecDepth 100000
namespace L2
open PySem PySem.Spec PyProof.Rows
section
variable {prog:Program}{w:World}{A:Around}{E:Value->Shared->Prop}{s:Shared}
theorem zbj {j t:Addr}{i:Nat}{vs:Array Value}{x:Value}{Q:Value->Shared->Prop}(kj:s.heap.IsTupleIter j t i) (kt:s.heap.IsTuple t vs) (kx:vs[i]? = some x)
  (q:∀h',h'.IsTupleIter j t (i+1)->Heap.SameBut j s.heap h'->Q x { s with heap:=h' }):wpAny (model prog w) A (Builtin.SmallTypes.nextOf (.ref j)) Q E s:=by
 obtain⟨oj,e1,e2,e3⟩:=id kj
 obtain⟨ot,f1,_,nt,f3⟩:=kt
 unfold Builtin.SmallTypes.nextOf
 refine wpAny_bind (wpAny_callSpecial?_slot (name:=Str.ofString "__next__") kj.typeIs F.slot_tuple_iterator_next (wpAny_call_entry F.slot_tuple_iterator_next kj.typeIs F.entry_tuple_iterator_next ?_ (F.args_tuple_iterator_next_1 _)))
 show wpAny _ _ (field (.ref j) 0 >>= _) _ _ s
 refine wpAny_bind (wpAny_field e1 e3 (x:=.ref t) rfl ?_)
 show wpAny _ _ (if(Value.ref t == .none)=true then _ else _) _ _ s
 rw[if_neg (show ¬((Value.ref t == .none)=true)from Bool.false_ne_true)]
 show wpAny _ _ (field (.ref j) 1 >>= _) _ _ s
 refine wpAny_bind (wpAny_field e1 e3 (x:=.int i 0) rfl (?_:wpAny _ _ (seqItems? (.ref t) >>= _) _ _ s))
 refine wpAny_bind (wpAny_seqItems f1 f3 ?_)
 simp only[Int.toNat_natCast,kx]
 refine wpAny_bind (wpAny_setField e1 e3 (by simp) (wpAny_pure ⟨x,rfl,wpAny_pure (q _ ⟨_,Heap.get?_update_self _ e1 (Obj.isFreed_of_fields (Obj.data_mapFields e3 _)),(Obj.cls_mapFields ..).trans e2,?_⟩ (Heap.SameBut.update ..))⟩))
 rw[Obj.data_mapFields e3];simp[rawInt]
theorem zc2 {j t:Addr}{i:Nat}{vs:Array Value}{Q:Value->Shared->Prop}(hh:A.handled=none) (kj:s.heap.IsTupleIter j t i) (kt:s.heap.IsTuple t vs) (kx:vs[i]? = none)
  (q:∀h' e,Heap.ExtBut j s.heap h'->(∃o,h'.get? e=some o/\o.cls = .type "StopIteration")->E (.ref e) { s with heap:=h' }):wpAny (model prog w) A (Builtin.SmallTypes.nextOf (.ref j)) Q E s:=by
 obtain⟨oj,e1,e2,e3⟩:=id kj
 obtain⟨ot,f1,_,nt,f3⟩:=kt
 unfold Builtin.SmallTypes.nextOf
 refine wpAny_bind (wpAny_callSpecial?_slot (name:=Str.ofString "__next__") kj.typeIs F.slot_tuple_iterator_next (wpAny_call_entry F.slot_tuple_iterator_next kj.typeIs F.entry_tuple_iterator_next ?_ (F.args_tuple_iterator_next_1 _)))
 show wpAny _ _ (field (.ref j) 0 >>= _) _ _ s
 refine wpAny_bind (wpAny_field e1 e3 (x:=.ref t) rfl ?_)
 show wpAny _ _ (if(Value.ref t == .none)=true then _ else _) _ _ s
 rw[if_neg (show ¬((Value.ref t == .none)=true)from Bool.false_ne_true)]
 show wpAny _ _ (field (.ref j) 1 >>= _) _ _ s
 refine wpAny_bind (wpAny_field e1 e3 (x:=.int i 0) rfl (?_:wpAny _ _ (seqItems? (.ref t) >>= _) _ _ s))
 refine wpAny_bind (wpAny_seqItems f1 f3 ?_)
 simp only[Int.toNat_natCast,kx]
 refine wpAny_bind (wpAny_rule (wpAny_bind (wpAny_setField e1 e3 (by simp) (?_:wpAny _ _ (newExc (.type "StopIteration") [] >>= _) _ _ _))))
 refine wpAny_bind ?_
 simp only[newExc,newTuple]
 refine wpAny_bind (wpAny_newObj_type (wpAny_bind (m:=firstArgMember _ _) (wpAny_of_eq (a:=Value.none) (by first | rfl | (simp only[firstArgMember];rfl)) (wpAny_newObj_type ?_ (by size_fits)))) (by size_fits))
 simp only[raiseNew]
 refine wpAny_bind (wpAny_handled (?_))
 first | rw[show A.in1.handled=none from hh] | rw[hh]
 exact wpAny_bind (wpAny_pure (wpAny_throw (q _ _ (((Heap.SameBut.update ..).extBut.push _).push _) ⟨_,Heap.get?_push_size _ rfl,rfl⟩)))
section
variable {z TI TO j1 j2 t1 t2:Addr}{i:Nat}{xs ys:Array Value}
theorem zaG {h:Heap}{f0:Value}{vs:Array Value}{t:Addr}(ht:h.IsTuple t vs) (hz:IsZip h z TI TO f0):t≠z:=λe=>by
 obtain⟨o,e1,e2,_⟩:=ht
 rw[e,hz]at e1;cases e1;simp at e2
end
end
end L2
set_option Elab.async false
set_option linter.all false
set_option maxRecDepth 100000
namespace L2
open PySem PySem.Spec PyProof.Rows
section
variable {X:Cx}
theorem nne {a b:Nat}(h:a<b):a≠b:=Nat.ne_of_lt h
theorem Xw:∀{bs:List Bool}{us:List Value}{i:Nat}{v:Value},zS (bs.map V.bl) us->us[i]? = some v->∃b,bs[i]? = some b/\v = .bool b
 | [],_,_,_,r,e=>by cases r;simp at e
 | b::bs,_,i,v,r,e=>by
  cases r with
  | cons h t =>
   cases i with
   | zero=>simp at e;subst e;exact⟨b,rfl,h⟩
   | succ i=>obtain⟨c,e1,e2⟩:=Xw (i:=i) t (by simpa using e);exact⟨c,by simpa using e1,e2⟩
theorem Xb:∀(bs:List Bool) (k:Nat),((List.range' k bs.length).all λi=>(bs[i - k]?).getD true)=bs.all id
 | [],k=>rfl
 | b::bs,k=>by
  rw[List.length_cons,List.range'_succ,List.all_cons,List.all_cons]
  simp only[Nat.sub_self,List.getElem?_cons_zero,Option.getD_some,id]
  congr 1
  rw[<-Xb bs (k+1)]
  apply Bool.eq_iff_iff.mpr
  simp only[List.all_eq_true,List.mem_range'_1]
  constructor
  ·intro h i hi
   have:=h i hi
   rw[show i - k=(i - (k+1))+1 by omega,List.getElem?_cons_succ]at this;exact this
  ·intro h i hi
   rw[show i - k=(i - (k+1))+1 by omega,List.getElem?_cons_succ];exact h i hi
theorem ZE (hc:X.calm=true):jb X (.builtin "all") (λxs H Q=>∃(p:Addr) (bs:List Bool),xs=[.ref p]/\SqL X.K H p (bs.map V.bl)/\Q (.bl (bs.all id)) H):=by
 intro pins s σ H xs us Q I r h
 obtain⟨p,bs,rfl,hq,q⟩:=h
 obtain⟨u,rfl,ru⟩:=ZW r
 cases ru
 obtain⟨its,rv,pl,_⟩:=I.list hq
 have hlt:p<s.heap.objs.size:=by obtain⟨o,n,e,_⟩:=pl;exact Heap.lt_size e
 have hl:=rv.length
 rw[List.length_map]at hl
 refine call_all_walk (wpAny_pyIter_list pl.isList ⟨s.heap.objs.size,_,_,_,_,_,λi=>(bs[i]?).getD true,rfl,Walks.list (A:=X.A.in1) (show X.A.in1.handled=none from I.ok.hd hc) s.heap.objs.size p (Nat.ne_of_lt hlt) its.toArray,
  ⟨⟨_,Heap.get?_push_size _ rfl,rfl,rfl⟩,pl.isList.push _⟩,λi v s' Q' E' hv hQ'=>?_,λh' tk k=>⟨.bl (bs.all id),H,I.kept λb o e=>k b o (by simpa using Nat.ne_of_lt (Heap.lt_size e)) (Heap.get?_push_of_some _ e),?_,q⟩⟩)
 ·obtain⟨b,e1,rfl⟩:=Xw rv (by simpa using hv)
  simp only[e1,Option.getD_some]at hQ'
  exact wpAny_pure hQ'
 ·have:=Xb bs 0
  simp only[Nat.sub_zero]at this
  rw[show its.toArray.size=bs.length by simp[hl],List.range_eq_range',this];rfl
def Jo (K:PySem.W.Frag) (a:Addr) (i j:Int):Prop:=∃o t u n,K.lookup a=some o/\o.cls = .type "tuple"/\o.data = .seq #[.int i t,.int j u] n
def zbG (K:PySem.W.Frag):R2:=λx y H Q=>∃d a i j,RdD H x d/\y = .ref a/\Jo K a i j/\SeqAt.shaped d=true/\Q (.bl (PyData.eqv d (.tuple [.int i,.int j]))) H
theorem zdl (hu:X.A.units+64<cLine):OpR X (compareOp .Eq) (zbG X.K):=by
 intro pins s σ H x y v u Q I rx ry h
 obtain⟨d,a,i,j,hd,rfl,⟨o,t1,t2,n,hk,h1,h2⟩,s1,q⟩:=h
 obtain⟨as,r1⟩:=hd.reads I rx
 cases(show u=Value.ref a from ry)
 have r2:Reads s.heap (.ref a) (.tuple [.int i,.int j]) _:=.tuple (I.kIn _ _ hk) h1 h2 (.cons (.int i t1) (.cons (.int j t2) .nil))
 exact eq_dataH r1 r2 s1 rfl hu ⟨.bl _,H,I,rfl,q⟩
end
end L2
set_option Elab.async false
set_option linter.all false
set_option maxRecDepth 100000
namespace HT
open PySem PyProof.Rows
section
variable {prog:Program}{w:World}{A:Around}{E:Value->Shared->Prop}{s:Shared}
theorem whole_cut {t sl:Addr}{items:Array Value}{vl vu:Value}{lo hi:Option Int}{Q:Value->Shared->Prop}(ht:IsTup s.heap t items) (hs:s.heap.IsSliceOf sl vl vu .none) (pl:IsPart vl lo) (pu:IsPart vu hi)
  (hw:sIx items.size 0 lo=0/\sIx items.size items.size hi=items.size) (h:Q (.ref t) s):wpAny (model prog w) A (getItem (.ref t) (.ref sl)) Q E s:=by
 obtain⟨os,hos,hcs,hds⟩:=id hs
 have hTs:s.TypeIs (.ref sl) "slice":=⟨os,hos,hcs⟩
 unfold getItem
 try with_reducible refine wpAny_holding ?_
 first | refine wpAny_bind (wpAny_pure ?_) | skip
 refine wpAny_bind (wpAny_sequenceKey ht.typeIs (by decide) ?_)
 refine wpAny_bind (wpAny_callSpecial?_slot (name:=Str.ofString "__getitem__") ht.typeIs PyProof.Rows.slot_tuple_getitem
  (wpAny_call_entry PyProof.Rows.slot_tuple_getitem ht.typeIs entry_tuple_getitem ?_ (args_tuple_getitem _ _)))
 show wpAny _ _ (Builtin.Tuple.tupleItemsOf (.ref t) >>= _) _ _ s
 refine wpAny_bind (tupleItemsOf_ ht ?_)
 refine wpAny_bind (wpAny_typeOf hTs ?_)
 rw[if_pos (by decide)]
 refine wpAny_bind (vW hs pl pu ?_)
 show wpAny _ _ (if(((sIx items.size 0 lo:Nat):Int) == 0&&(1:Int) == 1&&(sIx items.size items.size hi - sIx items.size 0 lo) == items.size)=true then _ else _) _ _ s
 rw[if_pos (by rw[hw.1,hw.2];simp)]
 refine wpAny_bind ?_
 unfold Builtin.Tuple.tupleIsExact
 refine wpAny_bind (wpAny_typeOf ht.typeIs (wpAny_pure ?_))
 rw[if_pos (by decide)]
 first
  | exact wpAny_bind (wpAny_rule (wpAny_pure ⟨_,rfl,wpAny_pure h⟩))
  | exact wpAny_bind (wpAny_rule (wpAny_bind (wpAny_pure (wpAny_pure ⟨_,rfl,wpAny_pure h⟩))))
  | exact wpAny_bind (wpAny_rule (wpAny_bind (wpAny_pure ⟨_,rfl,wpAny_pure h⟩)))
end
end HT
namespace L2
open PySem PySem.Spec PyProof.Rows
section
variable {X:Cx}
def zep (K:PySem.W.Frag):V->Option Int->Option Int->Hp->VK->Prop:=λx lo hi H Q=>∃a xs,x = .ref a/\SqT K H a xs/\(HT.sIx xs.length 0 lo=0/\HT.sIx xs.length xs.length hi=xs.length)/\Q x H
theorem jZ:SlR X (zep X.K):=by
 intro pins s σ H x v vl vu lo hi sl Q I rx hs pl pu h
 obtain⟨a,xs,rfl,hx,hw,q⟩:=h
 cases rx
 obtain⟨its,r,ht,hz⟩:=I.tuple hx
 have hlen:its.toArray.size=xs.length:=by rw[List.size_toArray];exact r.length.symm
 exact⟨"tuple",_,PyProof.Rows.slot_tuple_getitem.lookup,ht.typeIs,HT.whole_cut ht hs pl pu (by rw[hlen];exact hw) ⟨.ref a,H,I,rfl,q⟩⟩
end
end L2
set_option Elab.async false
set_option linter.all false
set_option maxRecDepth 100000
namespace L2
open PySem PySem.Spec PyProof.Rows
section
variable {J:It}{D:Addr}{N n:Nat}{js:List Nat}{σ:St}{g:TG}{tt:TT}{te:TE}{Q:VK}{H:Hp}
theorem jQ (Pv:Nat->Hp->List V->Prop) (h0:Pv 0 (upd H D (.lst [])) []) (hgo:∀i H ys,i<N->Pv i H ys->J.go i H) (hst:∀H ys,Pv N H ys->J.stop N H)
  (hs:∀i x zs H2 H3 ys (Nx:Hp->List V->Prop),(∀H ys,Pv (i+1) H ys->Nx H ys)->i<N->zs.length=n->J.yld i H2 x H3->Pv i H2 ys->H2 D=some (.lst ys)->g x zs H3 λσ4 H4=>tt σ4 H4 λb H5 =>
   if b=true then te σ4 H5 (λv H6=>H6 D=some (.lst ys)/\ys.length<sizeLine/\Nx (upd H6 D (.lst (ys++[v]))) (ys++[v]))else H5 D=some (.lst ys)/\Nx H5 ys)
  (hd:∀H ys,Pv N H ys->H D=some (.lst ys)->Q (.ref D) H) :
  ∃W:Nat->Nat->Hp->List V->Prop,(∃m,W 0 m (upd H D (.lst [])) [])/\∀i m H2 ys,W i m H2 ys->H2 D=some (.lst ys)->(J.stop i H2/\Q (.ref D) H2) ∨
   (J.go i H2/\∀σB x H3,σB.length=n->J.yld i H2 x H3->g x σB H3 λσ4 H4=>tt σ4 H4 λb H5=>if b=true then te σ4 H5 (λv H6=>H6 D=some (.lst ys)/\ys.length<sizeLine/\∃m',m'<m/\W (i+1) m' (upd H6 D (.lst (ys++[v]))) (ys++[v]))
    else H5 D=some (.lst ys)/\∃m',m'<m/\W (i+1) m' H5 ys):=by
 refine⟨λi m H ys=>m=N - i/\i<=N/\Pv i H ys,⟨N,by simp,Nat.zero_le _,h0⟩,?_⟩
 rintro i m H2 ys ⟨rfl,hi,p⟩ hD
 by_cases hlt:i<N
 ·exact .inr ⟨hgo i H2 ys hlt p,λσB x H3 hB y=>hs i x σB H2 H3 ys (λH' ys'=>∃m',m'<N - i/\(m'=N - (i+1)/\i+1<=N/\Pv (i+1) H' ys')) (λH' ys' z=>⟨N - (i+1),by omega,rfl,hlt,z⟩) hlt hB y p hD⟩
 ·obtain rfl:i=N:=by omega
  exact .inl ⟨hst H2 ys p,hd H2 ys p hD⟩
theorem jf (Pv:Nat->Hp->List V->Prop) (h0:Pv 0 (upd H D (.lst [])) []) (hgo:∀i H ys,i<N->Pv i H ys->J.go i H) (hst:∀H ys,Pv N H ys->J.stop N H)
  (hs:∀i x zs H2 H3 ys (Nx:Hp->List V->Prop),(∀H ys,Pv (i+1) H ys->Nx H ys)->i<N->zs.length=n->J.yld i H2 x H3->Pv i H2 ys->H2 D=some (.lst ys)->g x (zs++qm σ js) H3 λσ4 H4=>σ4.drop n=qm σ js/\tt σ4 H4 λb H5 =>
   if b=true then te σ4 H5 (λv H6=>H6 D=some (.lst ys)/\ys.length<sizeLine/\Nx (upd H6 D (.lst (ys++[v]))) (ys++[v]))else H5 D=some (.lst ys)/\Nx H5 ys)
  (hd:∀H ys,Pv N H ys->H D=some (.lst ys)->Q (.ref D) H) :
  ∃W:Nat->Nat->Hp->List V->Prop,(∃m,W 0 m (upd H D (.lst [])) [])/\∀i m H2 ys,W i m H2 ys->H2 D=some (.lst ys)->(J.stop i H2/\Q (.ref D) H2) ∨
   (J.go i H2/\∀zs x H3,zs.length=n->J.yld i H2 x H3->g x (zs++qm σ js) H3 λσ4 H4=>σ4.drop n=qm σ js/\tt σ4 H4 λb H5=>if b=true then te σ4 H5 (λv H6=>H6 D=some (.lst ys)/\ys.length<sizeLine/\∃m',m'<m/\W (i+1) m' (upd H6 D (.lst (ys++[v]))) (ys++[v]))
    else H5 D=some (.lst ys)/\∃m',m'<m/\W (i+1) m' H5 ys):=by
 refine⟨λi m H ys=>m=N - i/\i<=N/\Pv i H ys,⟨N,by simp,Nat.zero_le _,h0⟩,?_⟩
 rintro i m H2 ys ⟨rfl,hi,p⟩ hD
 by_cases hlt:i<N
 ·exact .inr ⟨hgo i H2 ys hlt p,λσB x H3 hB y=>hs i x σB H2 H3 ys (λH' ys'=>∃m',m'<N - i/\(m'=N - (i+1)/\i+1<=N/\Pv (i+1) H' ys')) (λH' ys' z=>⟨N - (i+1),by omega,rfl,hlt,z⟩) hlt hB y p hD⟩
 ·obtain rfl:i=N:=by omega
  exact .inl ⟨hst H2 ys p,hd H2 ys p hD⟩
end
theorem XU {H H2 H3:Hp}{D:Addr}{o:HO}(hD:H D=none) (e:zt H H2) (e2:zt H2 H3):zt H (upd H3 D o):=λb u z=>by rw[zK (zN z hD)];exact e2 _ _ (e _ _ z)
end L2
set_option Elab.async false
set_option linter.all false
set_option maxRecDepth 100000
namespace L2
open PySem PySem.Spec PyProof.Rows
section
variable {prog:Program}{w:World}{A:Around}{E:Value->Shared->Prop}{s:Shared}
theorem JC {t b:Addr}{ws:List Value}{Q:Value->Shared->Prop}(ht:IsTup s.heap t ([]:List Value).toArray) (hb:IsTup s.heap b ws.toArray) (h0:Q (.ref b) s):wpAny (model prog w) A (binaryOp .Add (.ref t) (.ref b)) Q E s:=by
 obtain⟨⟨cls,dd,data,sl⟩,ho,hc,n,hd⟩:=id ht
 obtain⟨⟨cls2,dd2,data2,sl2⟩,ho2,hc2,n2,hd2⟩:=id hb
 simp only at hc hd hc2 hd2
 subst hc hd hc2 hd2
 exact concat_meets ⟨_,ho,rfl⟩ ⟨_,ho2,rfl⟩ noFill_tuple_add seq_tuple_add PySem.F.slot_tuple_add PySem.F.entry_tuple_add (PySem.F.args_tuple_add_2 _ _)
   (tuple_addW0 t b ([]:List Value).toArray ws.toArray n n2 dd dd2 sl sl2 (by simp)) ⟨ho,ho2,h0⟩
end
def zci (K:PySem.W.Frag):R2:=λx y H Q=>∃a b xs ys,x = .ref a/\y = .ref b/\SqT K H a xs/\SqT K H b ys/\xs.length+ys.length<=sizeLine/\(xs=[]->Q (.ref b) H) ∧
 (xs≠[]->ys=[]->Q (.ref a) H)/\(xs≠[]->ys≠[]->∀p,H p=none->Q (.ref p) (upd H p (.tup (xs++ys))))
theorem XL {X:Cx}:OpR X (binaryOp .Add) (zci X.K):=by
 intro pins s σ H x y v u Q I rx ry h
 have h':=h
 obtain⟨a,b,xs,ys,rfl,rfl,ha,hb,hz,q0,q1,q2⟩:=h'
 by_cases hx:xs=[]
 ·cases rx
  cases ry
  obtain⟨its,r1,p1,_⟩:=I.tuple ha
  obtain⟨its2,r2,p2,_⟩:=I.tuple hb
  subst hx
  cases r1
  exact JC p1 p2 ⟨.ref b,H,I,rfl,q0 rfl⟩
 ·exact zby pins s σ H _ _ v u Q I rx ry ⟨a,b,xs,ys,rfl,rfl,ha,hb,hx,hz,q1 hx,q2 hx⟩
end L2
set_option Elab.async false
set_option linter.all false
set_option maxRecDepth 100000
namespace L2
open PySem PySem.Spec PyProof.Rows
end L2
set_option Elab.async false
set_option linter.all false
set_option maxRecDepth 100000
namespace L2
open PySem PySem.Spec PyProof.Rows
theorem szl {n:Nat}(h:n<=1000):n<=sizeLine:=Nat.le_of_lt (vX h)
theorem zdD {wi:TI}{g:TG}{tb:TS}{u:TS}{D:jC}{σ:St}{H:Hp}(h:zdF wi g tb { D with nx:=u D } σ H):Jl (zdF wi g tb) u D σ H:=h
end L2
set_option Elab.async false
set_option linter.all false
set_option maxRecDepth 100000
namespace L2
open PySem PySem.Spec PyProof.Rows
inductive Bx (p:Prop):Prop
 | mk (h:p):Bx p
section
variable {X:Cx}
theorem zcH:Bx (PA X [] jD):=⟨zf⟩
theorem vD {e:Expr}{es:List Expr}{te:TE}{t:TA}(ha:Bx (PE X e te)) (hr:Bx (PA X es t)) (hs:starEach (e::es) X.env=(false,eval e X.env)::starEach es X.env:=by rfl):Bx (PA X (e::es) (xr te t)):=by
 obtain⟨ha⟩:=ha;obtain⟨hr⟩:=hr;exact⟨zd ha hr hs⟩
theorem zcG {es:List Expr}{t:TA}{pos:Pos}(h:Bx (PA X es t)):Bx (PE X (.List es pos) (zeS t)):=by
 obtain⟨h⟩:=h;exact⟨qh h⟩
theorem zcI {i:Nat}{x:Str}{e:Expr}{te:TE}{pos pos':Pos}(hN:X.N.Nodup) (hi:X.N[i]? = some x) (hx:Loc X.env.scope x) (he:Bx (PE X e te)) (hs:swapsWith e (some (.Name x pos')) pos.line X.env=pure false:=by rfl)
  (hf:X.fn x=true\/X.env.scope.names.lookup x=some .local := by first | exact .inl rfl | exact .inr rfl | assumption):Bx (PS X (.Assign [.Name x pos'] e pos) (zaB te (zA i))):=by
 obtain⟨he⟩:=he;exact⟨zE hN hi hx he hs hf⟩
theorem ZD {st:Stmt}{rest:List Stmt}{t u:TS}(h1:Bx (PS X st t)) (h2:Bx (PSs X rest u)):Bx (PSs X (st::rest) (Jl t u)):=by
 obtain⟨h1⟩:=h1;obtain⟨h2⟩:=h2;exact⟨zj h1 h2⟩
end
section
variable {P:Program}{w:World}{K:PySem.W.Frag}{mg:Str->Option Value}{base:Heap}
theorem Df.calB {x:Str}{st:Stmt}{N ps:List Str}{dvs:List V}{k:Nat}{sp:Sp}(D:Df K mg x st ps dvs) (S:zD N ps (zi st)) (len:∀vs H Q E,sp vs H Q E->vs.length=ps.length)
  (hbody:∀(f:Addr) (cdv:Value) (A:Around) (outer:List Env) (s:Shared) (H:Hp) (vs:List V) (Q:VK) (E:XK),xb k (A.deeper (envOfC x (zi st) s.heap.objs.size f cdv))->sp vs H Q E →
   ∃t,Bx (PSs (Qn CX0 P w K mg base N x (zi st) f cdv A outer s H E).nox (zy st) t)/\t { nx:=λ_ H'=>Q .non H',rt:=Q } (jG N vs) H):Cal P w K mg base x (k+1) ps dvs sp :=
 D.cal S len λf cdv A outer s H vs Q E hr h=>by
  obtain⟨t,⟨p⟩,q⟩:=hbody f cdv A outer s H vs Q E hr h
  exact⟨t,p,q⟩
end
end L2
set_option Elab.async false
set_option linter.all false
set_option maxRecDepth 100000
namespace L2
open PySem PySem.Spec PyProof.Rows
end L2
set_option Elab.async false
set_option linter.all false
set_option maxRecDepth 100000
namespace L2
open PySem PySem.Spec PyProof.Rows PySem.W
end L2
set_option Elab.async false
set_option linter.all false
set_option maxRecDepth 100000
namespace L2
open PySem PySem.Spec PyProof.Rows
def xh (H H':Hp):Prop:=∀b xs,H b=some (.tup xs)->H' b=some (.tup xs)
theorem xh.of {H H':Hp}(h:zt H H'):xh H H':=λb xs e=>h b _ e
theorem xh.trans {H H1 H2:Hp}(a:xh H H1) (b:xh H1 H2):xh H H2:=λc xs e=>b c xs (a c xs e)
theorem xh.upd {H:Hp}{D:Addr}{ys:List V}{o:HO}(h:H D=some (.lst ys)):xh H (upd H D o):=λb xs e=>by rw[zK (λz=>by subst z;rw[h]at e;cases e)];exact e
structure VQ (J:It) (H:Hp) (xs:List V):Prop where
 go:∀i H',i<xs.length->zt H H'->J.go i H'
 stop:∀H',zt H H'->J.stop xs.length H'
 yld:∀i x H2 H3,zt H H2->J.yld i H2 x H3->H3=H2/\xs[i]? = some x
theorem xu {K:PySem.W.Frag}{H:Hp}{a:Addr}{xs:List V}(h:H a=some (.lst xs)):VQ (Itl K a) H xs :=
 ⟨λi H' hi s=>⟨xs,xs[i],.of (s _ _ h),by simp[hi]⟩,λH' s=>⟨xs,.of (s _ _ h),Nat.le_refl _⟩,λi x H2 H3 s y=>⟨y.1,y.2 xs (.of (s _ _ h))⟩⟩
theorem jm {K:PySem.W.Frag}{H:Hp}{a:Addr}{xs:List V}(h:H a=some (.tup xs)):VQ (Itt K a) H xs :=
 ⟨λi H' hi s=>⟨xs,xs[i],.of (s _ _ h),by simp[hi]⟩,λH' s=>⟨xs,.of (s _ _ h),Nat.le_refl _⟩,λi x H2 H3 s y=>⟨y.1,y.2 xs (.of (s _ _ h))⟩⟩
section
variable {J:It}{D:Addr}{n:Nat}{js:List Nat}{σ:St}{g:TG}{te:TE}{Z:Hp->Prop}{H:Hp}{xs:List V}
theorem j9 (R:Nat->V->Hp->Prop) (hR:∀i v H H',xh H H'->R i v H->R i v H') (hD:H D=none) (hJ:VQ J H xs) (hl:xs.length<sizeLine)
  (hs:∀i x zs H2 Q',xs[i]? = some x->zs.length=n->zt H H2->(∀v H6,zt H2 H6->R i v H6->Q' v H6)->g x zs H2 λσ4 H4=>te σ4 H4 Q')
  (k:∀ys H',zt H H'->H' D=some (.lst ys)->ys.length=xs.length->(∀i v,ys[i]? = some v->R i v H')->Z H') :
  ∃W:Nat->Nat->Hp->List V->Prop,(∃m,W 0 m (upd H D (.lst [])) [])/\∀i m H2 ys,W i m H2 ys->H2 D=some (.lst ys)->(J.stop i H2/\Z H2) ∨
   (J.go i H2/\∀σB x H3,σB.length=n->J.yld i H2 x H3->g x σB H3 λσ4 H4=>(λ_ H Q=>Q true H:TT) σ4 H4 λb H5=>if b=true then te σ4 H5 (λv H6=>H6 D=some (.lst ys)/\ys.length<sizeLine/\∃m',m'<m/\W (i+1) m' (upd H6 D (.lst (ys++[v]))) (ys++[v]))
    else H5 D=some (.lst ys)/\∃m',m'<m/\W (i+1) m' H5 ys):=by
 refine jQ (Q:=λ_ H=>Z H) (tt:=λ_ H Q=>Q true H) (N:=xs.length) (λi H2 ys=>zt H H2/\ys.length=i/\∀j v,ys[j]? = some v->R j v H2) ⟨zt.upd hD,rfl,λj v e=>by simp at e⟩ (λi H2 ys hi p=>hJ.go i H2 hi p.1) (λH2 ys p=>hJ.stop H2 p.1) ?_ (λH2 ys p e=>k ys H2 p.1 e p.2.1 p.2.2)
 rintro i x zs H2 H3 ys Nx hN hi hz hy ⟨s2,hyl,hyR⟩ hD2
 obtain⟨rfl,hx⟩:=hJ.yld i x H2 H3 s2 hy
 refine hs i x zs H3 _ hx hz s2 λv H6 s6 r6=>⟨s6 _ _ hD2,by omega,hN _ _ ⟨λc o e=>?_,by simp[hyl],λj u e=>?_⟩⟩
 ·rw[zK (zN e hD)];exact s6 _ _ (s2 _ _ e)
 ·have T6:xh H6 (upd H6 D (.lst (ys++[v]))):=.upd (s6 _ _ hD2)
  by_cases hj:j<ys.length
  ·rw[List.getElem?_append_left hj]at e
   exact hR _ _ _ _ ((xh.of s6).trans T6) (hyR j u e)
  ·rw[List.getElem?_append_right (by omega)]at e
   have:j - ys.length=0:=by
    rcases Nat.eq_zero_or_pos (j - ys.length)with z | z
    ·exact z
    ·rw[List.getElem?_eq_none (by simp;omega)]at e;cases e
   rw[this]at e
   simp at e
   subst e
   rw[show j=i by omega]
   exact hR _ _ _ _ T6 r6
theorem xM (R:Nat->V->Hp->Prop) (hR:∀i v H H',xh H H'->R i v H->R i v H') (hD:H D=none) (hJ:VQ J H xs) (hl:xs.length<sizeLine)
  (hs:∀i x zs H2 Q',xs[i]? = some x->zs.length=n->zt H H2->(∀v H6,zt H2 H6->R i v H6->Q' v H6)->g x (zs++qm σ js) H2 λσ4 H4=>σ4.drop n=qm σ js/\te σ4 H4 Q')
  (k:∀ys H',zt H H'->H' D=some (.lst ys)->ys.length=xs.length->(∀i v,ys[i]? = some v->R i v H')->Z H') :
  ∃W:Nat->Nat->Hp->List V->Prop,(∃m,W 0 m (upd H D (.lst [])) [])/\∀i m H2 ys,W i m H2 ys->H2 D=some (.lst ys)->(J.stop i H2/\Z H2) ∨
   (J.go i H2/\∀zs x H3,zs.length=n->J.yld i H2 x H3->g x (zs++qm σ js) H3 λσ4 H4=>σ4.drop n=qm σ js/\(λ_ H Q=>Q true H:TT) σ4 H4 λb H5=>if b=true then te σ4 H5 (λv H6=>H6 D=some (.lst ys)/\ys.length<sizeLine/\∃m',m'<m/\W (i+1) m' (upd H6 D (.lst (ys++[v]))) (ys++[v]))
    else H5 D=some (.lst ys)/\∃m',m'<m/\W (i+1) m' H5 ys):=by
 refine jf (Q:=λ_ H=>Z H) (tt:=λ_ H Q=>Q true H) (N:=xs.length) (λi H2 ys=>zt H H2/\ys.length=i/\∀j v,ys[j]? = some v->R j v H2) ⟨zt.upd hD,rfl,λj v e=>by simp at e⟩ (λi H2 ys hi p=>hJ.go i H2 hi p.1) (λH2 ys p=>hJ.stop H2 p.1) ?_ (λH2 ys p e=>k ys H2 p.1 e p.2.1 p.2.2)
 rintro i x zs H2 H3 ys Nx hN hi hz hy ⟨s2,hyl,hyR⟩ hD2
 obtain⟨rfl,hx⟩:=hJ.yld i x H2 H3 s2 hy
 refine hs i x zs H3 _ hx hz s2 λv H6 s6 r6=>⟨s6 _ _ hD2,by omega,hN _ _ ⟨λc o e=>?_,by simp[hyl],λj u e=>?_⟩⟩
 ·rw[zK (zN e hD)];exact s6 _ _ (s2 _ _ e)
 ·have T6:xh H6 (upd H6 D (.lst (ys++[v]))):=.upd (s6 _ _ hD2)
  by_cases hj:j<ys.length
  ·rw[List.getElem?_append_left hj]at e
   exact hR _ _ _ _ ((xh.of s6).trans T6) (hyR j u e)
  ·rw[List.getElem?_append_right (by omega)]at e
   have:j - ys.length=0:=by
    rcases Nat.eq_zero_or_pos (j - ys.length)with z | z
    ·exact z
    ·rw[List.getElem?_eq_none (by simp;omega)]at e;cases e
   rw[this]at e
   simp at e
   subst e
   rw[show j=i by omega]
   exact hR _ _ _ _ T6 r6
end
end L2
namespace L2
open PySem PySem.Spec PyProof.Rows
section
variable {J:It}{D:Addr}{n:Nat}{σ:St}{g:TG}{tt:TT}{te:TE}{Z:Hp->Prop}{H:Hp}{xs:List V}
theorem JE (p:V->Bool) (hD:H D=none) (hJ:VQ J H xs) (hl:xs.length<sizeLine)
  (hs:∀(i:Nat) (x:V) (zs:St) (H2:Hp) (A:VK) (B:Hp->Prop),xs[i]? = some x->zs.length=n->zt H H2->(p x=true->A x H2)->(p x=false->B H2)->g x zs H2 λσ4 H4=>tt σ4 H4 λb H5=>if b=true then te σ4 H5 A else B H5)
  (k:∀H',zt H H'->H' D=some (.lst (xs.filter p))->Z H') :
  ∃W:Nat->Nat->Hp->List V->Prop,(∃m,W 0 m (upd H D (.lst [])) [])/\∀i m H2 ys,W i m H2 ys->H2 D=some (.lst ys)->(J.stop i H2/\Z H2) ∨
   (J.go i H2/\∀σB x H3,σB.length=n->J.yld i H2 x H3->g x σB H3 λσ4 H4=>tt σ4 H4 λb H5=>if b=true then te σ4 H5 (λv H6=>H6 D=some (.lst ys)/\ys.length<sizeLine/\∃m',m'<m/\W (i+1) m' (upd H6 D (.lst (ys++[v]))) (ys++[v]))
    else H5 D=some (.lst ys)/\∃m',m'<m/\W (i+1) m' H5 ys):=by
 refine jQ (Q:=λ_ H=>Z H) (tt:=tt) (N:=xs.length) (λi H2 ys=>zt H H2/\ys=(xs.take i).filter p) ⟨zt.upd hD,rfl⟩ (λi H2 ys hi p=>hJ.go i H2 hi p.1) (λH2 ys p=>hJ.stop H2 p.1) ?_ (λH2 ys q e=>k H2 q.1 (by rw[e,q.2,List.take_length]))
 rintro i x zs H2 H3 ys Nx hN hi hz hy ⟨s2,rfl⟩ hD2
 obtain⟨rfl,hx⟩:=hJ.yld i x H2 H3 s2 hy
 have et:xs.take (i+1)=xs.take i++[x]:=by rw[List.take_add_one,hx];rfl
 refine hs i x zs H3 _ _ hx hz s2 (λhp=>⟨hD2,?_,hN _ _ ⟨λc o e=>?_,?_⟩⟩) (λhp=>⟨hD2,hN _ _ ⟨s2,?_⟩⟩)
 ·have:=List.length_filter_le p (xs.take i)
  have:=List.length_take_le i xs
  omega
 ·rw[zK (zN e hD)];exact s2 _ _ e
 ·rw[et,List.filter_append];simp[hp]
 ·rw[et,List.filter_append];simp[hp]
end
end L2
set_option Elab.async false
set_option linter.all false
set_option maxRecDepth 100000
namespace L2
open PySem PySem.Spec PyProof.Rows
section
variable {prog:Program}{w:World}{A:Around}{E:Value->Shared->Prop}{s:Shared}
theorem zbi {j t:Addr}{i:Nat}{vs:Array Value}{x:Value}{Q:Value->Shared->Prop}(kj:s.heap.IsListIter j t i) (kt:s.heap.IsList t vs) (kx:vs[i]? = some x)
  (q:∀h',h'.IsListIter j t (i+1)->Heap.SameBut j s.heap h'->Q x { s with heap:=h' }):wpAny (model prog w) A (Builtin.SmallTypes.nextOf (.ref j)) Q E s:=by
 obtain⟨oj,e1,e2,e3⟩:=id kj
 obtain⟨ot,f1,_,nt,f3⟩:=kt
 unfold Builtin.SmallTypes.nextOf
 refine wpAny_bind (wpAny_callSpecial?_slot (name:=Str.ofString "__next__") kj.typeIs slot_listiter_next (wpAny_call_entry slot_listiter_next kj.typeIs entry_listiter_next ?_ (args_listiter_next _)))
 show wpAny _ _ (field (.ref j) 0 >>= _) _ _ s
 refine wpAny_bind (wpAny_field e1 e3 (x:=.ref t) rfl ?_)
 show wpAny _ _ (if(Value.ref t == .none)=true then _ else _) _ _ s
 rw[if_neg (show ¬((Value.ref t == .none)=true)from Bool.false_ne_true)]
 show wpAny _ _ (field (.ref j) 1 >>= _) _ _ s
 refine wpAny_bind (wpAny_field e1 e3 (x:=.int i 0) rfl (?_:wpAny _ _ (seqItems? (.ref t) >>= _) _ _ s))
 refine wpAny_bind (wpAny_seqItems f1 f3 ?_)
 simp only[Int.toNat_natCast,kx]
 refine wpAny_bind (wpAny_setField e1 e3 (by simp) (wpAny_pure ⟨x,rfl,wpAny_pure (q _ ⟨_,Heap.get?_update_self _ e1 (Obj.isFreed_of_fields (Obj.data_mapFields e3 _)),(Obj.cls_mapFields ..).trans e2,?_⟩ (Heap.SameBut.update ..))⟩))
 rw[Obj.data_mapFields e3];simp[rawInt]
theorem zc1 {j t:Addr}{i:Nat}{vs:Array Value}{Q:Value->Shared->Prop}(hh:A.handled=none) (kj:s.heap.IsListIter j t i) (kt:s.heap.IsList t vs) (kx:vs[i]? = none)
  (q:∀h' e,Heap.ExtBut j s.heap h'->(∃o,h'.get? e=some o/\o.cls = .type "StopIteration")->E (.ref e) { s with heap:=h' }):wpAny (model prog w) A (Builtin.SmallTypes.nextOf (.ref j)) Q E s:=by
 obtain⟨oj,e1,e2,e3⟩:=id kj
 obtain⟨ot,f1,_,nt,f3⟩:=kt
 unfold Builtin.SmallTypes.nextOf
 refine wpAny_bind (wpAny_callSpecial?_slot (name:=Str.ofString "__next__") kj.typeIs slot_listiter_next (wpAny_call_entry slot_listiter_next kj.typeIs entry_listiter_next ?_ (args_listiter_next _)))
 show wpAny _ _ (field (.ref j) 0 >>= _) _ _ s
 refine wpAny_bind (wpAny_field e1 e3 (x:=.ref t) rfl ?_)
 show wpAny _ _ (if(Value.ref t == .none)=true then _ else _) _ _ s
 rw[if_neg (show ¬((Value.ref t == .none)=true)from Bool.false_ne_true)]
 show wpAny _ _ (field (.ref j) 1 >>= _) _ _ s
 refine wpAny_bind (wpAny_field e1 e3 (x:=.int i 0) rfl (?_:wpAny _ _ (seqItems? (.ref t) >>= _) _ _ s))
 refine wpAny_bind (wpAny_seqItems f1 f3 ?_)
 simp only[Int.toNat_natCast,kx]
 refine wpAny_bind (wpAny_rule (wpAny_bind (wpAny_setField e1 e3 (by simp) (?_:wpAny _ _ (newExc (.type "StopIteration") [] >>= _) _ _ _))))
 refine wpAny_bind ?_
 simp only[newExc,newTuple]
 refine wpAny_bind (wpAny_newObj_type (wpAny_bind (m:=firstArgMember _ _) (wpAny_of_eq (a:=Value.none) (by first | rfl | (simp only[firstArgMember];rfl)) (wpAny_newObj_type ?_ (by size_fits)))) (by size_fits))
 simp only[raiseNew]
 refine wpAny_bind (wpAny_handled (?_))
 first | rw[show A.in1.handled=none from hh] | rw[hh]
 exact wpAny_bind (wpAny_pure (wpAny_throw (q _ _ (((Heap.SameBut.update ..).extBut.push _).push _) ⟨_,Heap.get?_push_size _ rfl,rfl⟩)))
section
variable {z TI TO j1 j2 t1 t2:Addr}{i:Nat}{xs ys:Array Value}
theorem JW {h:Heap}{f0:Value}{vs:Array Value}{t:Addr}(ht:h.IsList t vs) (hz:IsZip h z TI TO f0):t≠z:=λe=>by
 obtain⟨o,e1,e2,_⟩:=ht
 rw[e,hz]at e1;cases e1;simp at e2
end
end
end L2
set_option Elab.async false
set_option linter.all false
set_option maxRecDepth 100000
namespace L2
open PySem PySem.Spec PyProof.Rows
end L2
set_option Elab.async false
set_option linter.all false
set_option maxRecDepth 100000
namespace L2
open PySem PySem.Spec PyProof.Rows
end L2
set_option Elab.async false
set_option linter.all false
set_option maxRecDepth 100000
namespace L2
open PySem PySem.Spec PyProof.Rows
structure zb4 (J:It) (H:Hp) (N:Nat) (xs ys:List V):Prop where
 go:∀i H',i<N->zt H H'->J.go i H'
 stop:∀H',zt H H'->J.stop N H'
 yld:∀i v H2 H3,zt H H2->J.yld i H2 v H3->∃T x y,v = .ref T/\H2 T=none/\H3=upd H2 T (.tup [x,y])/\xs[i]? = some x/\ys[i]? = some y
def sel (p:Nat->Bool) (N:Nat):List Nat:=(List.range N).filter p
theorem jY (p:Nat->Bool) (N:Nat):sel p (N+1)=sel p N++(if p N=true then [N]else []):=by
 unfold sel
 rw[List.range_succ,List.filter_append]
 by_cases h:p N=true <;> simp[h]
section
variable {J:It}{D:Addr}{n N:Nat}{js:List Nat}{σ:St}{g:TG}{tt:TT}{te:TE}{Z:Hp->Prop}{H:Hp}{xs ys:List V}
theorem VW (p:Nat->Bool) (R:Nat->V->Hp->Prop) (hR:∀i v H H',xh H H'->R i v H->R i v H') (hD:H D=none) (hJ:zb4 J H N xs ys) (hl:N<sizeLine)
  (hs:∀(i:Nat) (T:Addr) (x y:V) (zs:St) (H2:Hp) (A:VK) (B:Hp->Prop),xs[i]? = some x->ys[i]? = some y->zs.length=n->zt H H2->H2 T=some (.tup [x,y])->(p i=true->∀v H6,zt H2 H6->R i v H6->A v H6)->(p i=false->∀H6,zt H2 H6->B H6) →
   g (.ref T) (zs++qm σ js) H2 λσ4 H4=>σ4.drop n=qm σ js/\tt σ4 H4 λb H5=>if b=true then te σ4 H5 A else B H5)
  (k:∀us H',zt H H'->H' D=some (.lst us)->us.length=(sel p N).length->(∀(j i:Nat) (v:V),(sel p N)[j]? = some i->us[j]? = some v->R i v H')->Z H') :
  ∃W:Nat->Nat->Hp->List V->Prop,(∃m,W 0 m (upd H D (.lst [])) [])/\∀i m H2 ys,W i m H2 ys->H2 D=some (.lst ys)->(J.stop i H2/\Z H2) ∨
   (J.go i H2/\∀zs x H3,zs.length=n->J.yld i H2 x H3->g x (zs++qm σ js) H3 λσ4 H4=>σ4.drop n=qm σ js/\tt σ4 H4 λb H5=>if b=true then te σ4 H5 (λv H6=>H6 D=some (.lst ys)/\ys.length<sizeLine/\∃m',m'<m/\W (i+1) m' (upd H6 D (.lst (ys++[v]))) (ys++[v]))
    else H5 D=some (.lst ys)/\∃m',m'<m/\W (i+1) m' H5 ys):=by
 refine jf (Q:=λ_ H=>Z H) (N:=N) (λi H2 us=>zt H H2/\us.length=(sel p i).length/\∀(j q:Nat) (v:V),(sel p i)[j]? = some q->us[j]? = some v->R q v H2)
  ⟨zt.upd hD,rfl,λj q v e=>by simp[sel]at e⟩ (λi H2 us hi q=>hJ.go i H2 hi q.1) (λH2 us q=>hJ.stop H2 q.1) ?_ (λH2 us q e=>k us H2 q.1 e q.2.1 q.2.2)
 rintro i x zs H2 H3 us Nx hN hi hz hy ⟨s2,hul,huR⟩ hD2
 obtain⟨T,a,b,rfl,hT,rfl,e1,e2⟩:=hJ.yld i x H2 H3 s2 hy
 have hDT:D≠T:=λz=>by rw[z,hT]at hD2;cases hD2
 have s3:zt H2 (upd H2 T (.tup [a,b])):=zt.upd hT
 have hD3:upd H2 T (.tup [a,b]) D=some (.lst us):=s3 _ _ hD2
 have hsl:us.length<sizeLine:=by
  have h1:(sel p i).length<=i:=by
   have:=List.length_filter_le p (List.range i)
   rw[List.length_range]at this;exact this
  omega
 refine hs i T a b zs _ _ _ e1 e2 hz (s2.trans s3) zo (λhp v H6 s6 r6=>⟨s6 _ _ hD3,hsl,hN _ _ ⟨λc o e=>?_,?_,λj q u f1 f2=>?_⟩⟩) (λhp H6 s6=>⟨s6 _ _ hD3,hN _ _ ⟨λc o e=>s6 _ _ (s3 _ _ (s2 _ _ e)),?_,λj q u f1 f2=>?_⟩⟩)
 ·rw[zK (zN e hD)];exact s6 _ _ (s3 _ _ (s2 _ _ e))
 ·rw[jY,if_pos hp];simp[hul]
 ·rw[jY,if_pos hp]at f1
  have T6:xh H6 (upd H6 D (.lst (us++[v]))):=.upd (s6 _ _ hD3)
  by_cases hj:j<us.length
  ·rw[List.getElem?_append_left hj]at f2
   rw[List.getElem?_append_left (by omega)]at f1
   exact hR _ _ _ _ ((xh.of (s3.trans s6)).trans T6) (huR j q u f1 f2)
  ·rw[List.getElem?_append_right (by omega)]at f2
   rw[List.getElem?_append_right (by omega)]at f1
   have:j - us.length=0:=by
    rcases Nat.eq_zero_or_pos (j - us.length)with z | z
    ·exact z
    ·rw[List.getElem?_eq_none (by simp;omega)]at f2;cases f2
   rw[this]at f2
   rw[show j - (sel p i).length=0 by omega]at f1
   simp at f1 f2
   subst f1;subst f2
   exact hR _ _ _ _ T6 r6
 ·rw[jY,if_neg (by simp[hp])];simp[hul]
 ·rw[jY,if_neg (by simp[hp])]at f1
  rw[List.append_nil]at f1
  exact hR _ _ _ _ (xh.of (s3.trans s6)) (huR j q u f1 f2)
end
theorem zaV {α:Type}{xs:List α}{j:Nat}{v:α}(h1:1<=j) (h2:j<=xs.length) (h:xs[xs.length - j]? = some v):atI xs (-(j:Int))=some v:=by
 unfold atI ixN
 rw[if_neg (by omega),if_pos (by omega)]
 show xs[(-(j:Int)+(xs.length:Int)).toNat]? = some v
 rw[show (-(j:Int)+(xs.length:Int)).toNat=xs.length - j by omega];exact h
end L2
section
set_option maxHeartbeats 4000000
set_option Elab.async false
set_option linter.all false
set_option maxRecDepth 100000
namespace L2
open PySem PySem.Spec PyProof.Rows
def KIt (k:Bool) (h:Heap) (j t:Addr) (i:Nat):Prop:=match k with | true=>h.IsTupleIter j t i | false=>h.IsListIter j t i
def KSq (k:Bool) (h:Heap) (t:Addr) (xs:Array Value):Prop:=match k with | true=>h.IsTuple t xs | false=>h.IsList t xs
def SqK (k:Bool) (K:PySem.W.Frag) (H:Hp) (t:Addr) (xs:List V):Prop:=match k with | true=>SqT K H t xs | false=>SqL K H t xs
def Zr (k:Bool) (t:Addr):Obj:={ cls:=.type (match k with | true=>"tuple_iterator" | false=>"list_iterator"),data:=.fields #[.ref t,.int 0 0] }
theorem KIt.at {k:Bool}{h h':Heap}{j t:Addr}{i:Nat}(x:KIt k h j t i) (e:∀o,h.get? j=some o->h'.get? j=some o):KIt k h' j t i:=by
 cases k
 ·exact Heap.IsListIter.at x e
 ·exact Heap.IsTupleIter.at x e
theorem KIt.ob {k:Bool}{h:Heap}{j t:Addr}{i:Nat}(x:KIt k h j t i):∃o,h.get? j=some o/\∀v,o.data≠.cell v:=by
 cases k
 ·obtain⟨o,e,_,d⟩:=x;exact⟨o,e,λ_ r=>by rw[d]at r;cases r⟩
 ·obtain⟨o,e,_,d⟩:=x;exact⟨o,e,λ_ r=>by rw[d]at r;cases r⟩
theorem KSq.keep {k:Bool}{h h':Heap}{t:Addr}{xs:Array Value}(x:KSq k h t xs) (e:∀o,h.get? t=some o->h'.get? t=some o):KSq k h' t xs:=by
 cases k
 ·obtain⟨o,ho,r⟩:=x;exact⟨o,e _ ho,r⟩
 ·obtain⟨o,ho,r⟩:=x;exact⟨o,e _ ho,r⟩
theorem KSq.push {k:Bool}{h:Heap}{t:Addr}{xs:Array Value}{ob:Obj}(x:KSq k h t xs):KSq k (h.push ob) t xs:=x.keep λ_ e=>Heap.get?_push_of_some _ e
theorem KSq.lt {k:Bool}{h:Heap}{t:Addr}{xs:Array Value}(x:KSq k h t xs):t<h.objs.size:=by
 cases k
 ·obtain⟨o,ho,r⟩:=x;exact Heap.lt_size ho
 ·obtain⟨o,ho,r⟩:=x;exact Heap.lt_size ho
theorem KSq.ne_z {k:Bool}{h:Heap}{f0:Value}{vs:Array Value}{t z TI TO:Addr}(x:KSq k h t vs) (hz:IsZip h z TI TO f0):t≠z:=by
 cases k
 ·exact JW x hz
 ·exact zaG x hz
theorem KSq.ne_j {k k':Bool}{h:Heap}{vs:Array Value}{t j u:Addr}{n:Nat}(x:KSq k h t vs) (hj:KIt k' h j u n):t≠j:=by
 rintro rfl
 cases k <;> cases k' <;> (obtain⟨o,e1,e2,_⟩:=x;obtain⟨o',f1,f2,_⟩:=hj;rw[f1]at e1;cases e1;rw[f2]at e2;simp at e2)
theorem XR {h:Heap}{a:Addr}{o o':Obj}(e:a=h.objs.size) (q:o=o') (f:o.isFreed=false:=by rfl):(h.push o).get? a=some o':=by subst e;subst q;exact Heap.get?_push_size _ f
theorem Vx {k:Bool}{h:Heap}{j t:Addr}(e:h.get? j=some (Zr k t)):KIt k h j t 0:=by
 cases k
 ·exact⟨_,e,rfl,rfl⟩
 ·exact⟨_,e,rfl,rfl⟩
section
variable {prog:Program}{w:World}{A:Around}{E:Value->Shared->Prop}{s:Shared}
theorem QV {k:Bool}{j t:Addr}{i:Nat}{vs:Array Value}{x:Value}{Q:Value->Shared->Prop}(kj:KIt k s.heap j t i) (kt:KSq k s.heap t vs) (kx:vs[i]? = some x)
  (q:∀h',KIt k h' j t (i+1)->Heap.SameBut j s.heap h'->Q x { s with heap:=h' }):wpAny (model prog w) A (Builtin.SmallTypes.nextOf (.ref j)) Q E s:=by
 cases k
 ·exact zbi kj kt kx q
 ·exact zbj kj kt kx q
theorem zcd {k:Bool}{j t:Addr}{i:Nat}{vs:Array Value}{Q:Value->Shared->Prop}(hh:A.handled=none) (kj:KIt k s.heap j t i) (kt:KSq k s.heap t vs) (kx:vs[i]? = none)
  (q:∀h' e,Heap.ExtBut j s.heap h'->(∃o,h'.get? e=some o/\o.cls = .type "StopIteration")->E (.ref e) { s with heap:=h' }):wpAny (model prog w) A (Builtin.SmallTypes.nextOf (.ref j)) Q E s:=by
 cases k
 ·exact zc1 hh kj kt kx q
 ·exact zc2 hh kj kt kx q
theorem zcc {k:Bool}{t:Addr}{vs:Array Value}{Q:Value->Shared->Prop}(kt:KSq k s.heap t vs) (q:Q (.ref s.heap.objs.size) { s with heap:=s.heap.push (Zr k t) }):wpAny (model prog w) A (pyIter (.ref t)) Q E s:=by
 cases k
 ·exact wpAny_pyIter_list kt q
 ·exact wpAny_pyIter_tuple kt q
end
theorem Zh {k:Bool}{X:Cx}{pins:List (Addr×Obj)}{σ:St}{H:Hp}{s:Shared}{a:Addr}{xs:List V}(I:Inv X pins σ H s) (h:SqK k X.K H a xs):∃its:List Value,zS xs its/\KSq k s.heap a its.toArray:=by
 cases k
 ·obtain⟨us,r,p,_⟩:=I.list h;exact⟨us,r,p.isList⟩
 ·obtain⟨us,r,p,_⟩:=I.tuple h;exact⟨us,r,p⟩
theorem VG {k:Bool}{X:Cx}{pins:List (Addr×Obj)}{σ:St}{H:Hp}{s:Shared}{a:Addr}{xs ys:List V}(I:Inv X pins σ H s) (h:SqK k X.K H a xs) (h':SqK k X.K H a ys):xs=ys:=by
 cases k
 ·exact I.list_inj h h'
 ·exact I.tuple_inj h h'
structure ZN2 (z TI TO j1 j2:Addr):Prop where
 z_TI:z≠TI
 z_TO:z≠TO
 z_j1:z≠j1
 z_j2:z≠j2
 TI_TO:TI≠TO
 TI_j1:TI≠j1
 TI_j2:TI≠j2
 TO_j1:TO≠j1
 TO_j2:TO≠j2
 j1_j2:j1≠j2
abbrev j6 (h:Heap) (T:Addr) (a1 a2:Value):Prop:=h.get? T=some { cls:=.type "tuple",data:=.seq #[a1,a2] }
section
variable {prog:Program}{w:World}{A:Around}{E:Value->Shared->Prop}{s:Shared}
theorem Vi {T:Addr}{a1 a2 x:Value}{k:Nat}{Q:Unit->Shared->Prop}(hT:j6 s.heap T a1 a2)
  (h:∀h',h'.get? T=some { cls:=.type "tuple",data:=.seq ((#[a1,a2]:Array Value).setIfInBounds k x) }->Heap.SameBut T s.heap h'->Q () { s with heap:=h' }) :
  wpAny (model prog w) A (updateSeq T (·.setIfInBounds k x)) Q E s:=by
 refine wpAny_updateSeq hT rfl (h _ ?_ (Heap.SameBut.update ..))
 rw[Heap.get?_update_self _ hT rfl]
 simp[Obj.mapSeq]
structure ZS2 (z TI TO j1 j2 t1 t2:Addr) (k1 k2:Bool) (f0:Value) (i:Nat) (h:Heap):Prop where
 z:IsZip h z TI TO f0
 ti:j6 h TI (.ref j1) (.ref j2)
 to:∃a1 a2,j6 h TO a1 a2
 i1:KIt k1 h j1 t1 i
 i2:KIt k2 h j2 t2 i
variable {z TI TO j1 j2 t1 t2:Addr}{k1 k2:Bool}{i:Nat}{xs1 xs2:Array Value}
theorem zb2 {x1 x2:Value}{Q:Option Value->Shared->Prop}(D:ZN2 z TI TO j1 j2) (Z:ZS2 z TI TO j1 j2 t1 t2 k1 k2 .none i s.heap) (q1:KSq k1 s.heap t1 xs1) (q2:KSq k2 s.heap t2 xs2) (n1:t1≠TO) (n2:t2≠TO) (ex1:xs1[i]? = some x1) (ex2:xs2[i]? = some x2)
  (q:∀h',ZS2 z TI TO j1 j2 t1 t2 k1 k2 (rawInt s.heap.objs.size) (i+1) h'->j6 h' s.heap.objs.size x1 x2->h'.objs.size=s.heap.objs.size+1 →
   (∀c o,c≠z->c≠TO->c≠j1->c≠j2->s.heap.get? c=some o->h'.get? c=some o)->Q (some (.ref s.heap.objs.size)) { s with heap:=h' }):wpAny (model prog w) A (pyNext (.ref z)) Q E s:=by
 obtain⟨Zz,Zi,⟨a1,a2,Zo⟩,Z1,Z2⟩:=Z
 have ty:s.TypeIs (.ref z) "zip":=⟨_,Zz,rfl⟩
 unfold pyNext
 refine wpAny_bind (wpAny_attempt (wpAny_callSpecial?_slot (name:=Str.ofString "__next__") ty F.slot_zip_next (wpAny_call_entry F.slot_zip_next ty F.entry_zip_next ?_ (F.args_zip_next_1 _))))
 show wpAny _ _ (field (.ref z) 2 >>= _) _ _ s
 refine wpAny_bind (wpAny_field Zz rfl (x:=.bool false) rfl (?_:wpAny _ _ (field (.ref z) 3 >>= _) _ _ s))
 refine wpAny_bind (wpAny_field Zz rfl (x:=.ref TI) rfl (wpAny_bind (wpAny_seqItems Zi rfl (?_:wpAny _ _ (Builtin.SmallTypes.ownedTupleIsFree (.ref z) >>= _) _ _ s))))
 refine wpAny_bind ?_;unfold Builtin.SmallTypes.ownedTupleIsFree
 refine wpAny_bind (wpAny_field Zz rfl (x:=.none) rfl (wpAny_pure ?_))
 simp only[if_true]
 refine wpAny_bind (wpAny_rule (wpAny_bind (wpAny_field Zz rfl (x:=.ref TO) rfl (wpAny_bind (wpAny_setField_rec Zz (by simp) λg1 Zz1 m1=>?_)))))
 replace Zz1:IsZip g1 z TI TO .ellipsis:=Zz1
 refine wpAny_bind ?_;simp only[List.zipIdx_cons,List.zipIdx_nil,List.forIn_cons,List.forIn_nil]
 refine wpAny_bind (wpAny_bind (wpAny_onRaise (?_:wpAny _ _ (Builtin.SmallTypes.nextOf (.ref j1) >>= _) _ _ _)))
 refine wpAny_bind (QV (Z1.at λo e=>(m1.extBut _ _ D.z_j1.symm e)) (q1.keep λo e=>(m1.extBut _ _ (q1.ne_z Zz) e)) ex1 λg2 Y1 m2=>wpAny_pure ?_)
 have Zo2:j6 g2 TO a1 a2:=m2.extBut _ _ D.TO_j1 (m1.extBut _ _ D.z_TO.symm Zo)
 refine wpAny_bind (wpAny_seqItems Zo2 rfl (wpAny_bind (Vi Zo2 λg3 Zo3 m3=>wpAny_bind (wpAny_letGo (wpAny_pure ?_)))))
 replace Zo3:j6 g3 TO x1 a2:=Zo3
 refine wpAny_bind (wpAny_bind (wpAny_onRaise (?_:wpAny _ _ (Builtin.SmallTypes.nextOf (.ref j2) >>= _) _ _ _)))
 refine wpAny_bind (QV (Z2.at λo e=>(m3.extBut _ _ D.TO_j2.symm (m2.extBut _ _ D.j1_j2.symm (m1.extBut _ _ D.z_j2.symm e)))) (q2.keep λo e=>(m3.extBut _ _ n2 (m2.extBut _ _ (q2.ne_j Z1) (m1.extBut _ _ (q2.ne_z Zz) e)))) ex2 λg4 Y2 m4=>wpAny_pure ?_)
 have Zo4:j6 g4 TO x1 a2:=m4.extBut _ _ D.TO_j2 Zo3
 refine wpAny_bind (wpAny_seqItems Zo4 rfl (wpAny_bind (Vi Zo4 λg5 Zo5 m5=>wpAny_bind (wpAny_letGo (wpAny_pure (wpAny_pure ?_))))))
 replace Zo5:j6 g5 TO x1 x2:=Zo5
 refine wpAny_bind (wpAny_seqItems Zo5 rfl (wpAny_bind (wpAny_newTuple ?_)))
 have sz:g5.objs.size=s.heap.objs.size:=by rw[m5.1,m4.1,m3.1,m2.1,m1.1]
 have ZzL:IsZip g5 z TI TO .ellipsis:=(m5.extBut _ _ D.z_TO (m4.extBut _ _ D.z_j2 (m3.extBut _ _ D.z_TO (m2.extBut _ _ D.z_j1 Zz1))))
 have kp:∀c o,c≠z->c≠TO->c≠j1->c≠j2->s.heap.get? c=some o->g5.get? c=some o:=λc o c_z c_TO c_j1 c_j2 e=>(m5.extBut _ _ c_TO (m4.extBut _ _ c_j2 (m3.extBut _ _ c_TO (m2.extBut _ _ c_j1 (m1.extBut _ _ c_z e)))))
 have W1:KIt k1 g5 j1 t1 (i+1):=Y1.at λo e=>(m5.extBut _ _ D.TO_j1.symm (m4.extBut _ _ D.j1_j2 (m3.extBut _ _ D.TO_j1.symm e)))
 have W2:KIt k2 g5 j2 t2 (i+1):=Y2.at λo e=>(m5.extBut _ _ D.TO_j2.symm e)
 have zlt:g5.objs.size≠z:=Nat.ne_of_gt (Heap.lt_size ZzL)
 show wpAny _ _ (Builtin.SmallTypes.ownedTupleHandOut (.ref z) (.ref g5.objs.size) >>= _) _ _ _
 refine wpAny_bind ?_;unfold Builtin.SmallTypes.ownedTupleHandOut
 refine wpAny_bind (wpAny_setField_rec (Heap.get?_push_of_some _ ZzL) (by simp) λh7 Zz7 p7=>?_)
 replace Zz7:IsZip h7 z TI TO (rawInt g5.objs.size):=Zz7
 refine wpAny_setField_rec Zz7 (by simp) λh8 Zz8 p8=>?_
 replace Zz8:IsZip h8 z TI TO (rawInt g5.objs.size):=Zz8
 have up:∀c o,c≠z->g5.get? c=some o->h8.get? c=some o:=λc o c1 e=>p8.extBut _ _ c1 (p7.extBut _ _ c1 (Heap.get?_push_of_some _ e))
 have T8:j6 h8 g5.objs.size x1 x2:=p8.extBut _ _ zlt (p7.extBut _ _ zlt (Heap.get?_push_size _ rfl))
 have s8:h8.objs.size=g5.objs.size+1:=by rw[p8.1,p7.1,Heap.size_push]
 refine wpAny_pure ⟨_,rfl,wpAny_pure ?_⟩
 rw[sz]at Zz8 T8 s8
 show Q (some (.ref g5.objs.size)) _
 rw[sz]
 exact q h8 ⟨Zz8,up _ _ D.z_TI.symm (kp _ _ D.z_TI.symm D.TI_TO D.TI_j1 D.TI_j2 Zi),⟨_,_,up _ _ D.z_TO.symm Zo5⟩,W1.at λo e=>up _ o D.z_j1.symm e,W2.at λo e=>up _ o D.z_j2.symm e⟩ T8 s8 λc o c_z c_TO c_j1 c_j2 e=>up c o c_z (kp c o c_z c_TO c_j1 c_j2 e)
theorem zdL {Q:Option Value->Shared->Prop}(hh:A.handled=none) (D:ZN2 z TI TO j1 j2) (Z:ZS2 z TI TO j1 j2 t1 t2 k1 k2 .none i s.heap) (q1:KSq k1 s.heap t1 xs1) (q2:KSq k2 s.heap t2 xs2) (n1:t1≠TO) (n2:t2≠TO) (en:xs1[i]? = none\/xs2[i]? = none)
  (q:∀h',(∀c o,c≠z->c≠TO->c≠j1->c≠j2->s.heap.get? c=some o->h'.get? c=some o)->Q none { s with heap:=h' }):wpAny (model prog w) A (pyNext (.ref z)) Q E s:=by
 obtain⟨Zz,Zi,⟨a1,a2,Zo⟩,Z1,Z2⟩:=Z
 have ty:s.TypeIs (.ref z) "zip":=⟨_,Zz,rfl⟩
 have fin:∀(g':Heap) (e:Addr),(∀c o,c≠z->c≠TO->c≠j1->c≠j2->s.heap.get? c=some o->g'.get? c=some o)->(∃o,g'.get? e=some o/\o.cls = .type "StopIteration") →
   wpAny (model prog w) A (do if <-isInstance (.ref e) (.type "StopIteration")then pure none else throw (.ref e):Sem (Option Value)) Q E { s with heap:=g' }:=λg' e kk ⟨o,ho,hc⟩ =>
  wpAny_bind (wpAny_isInstance (T:="StopIteration") (b:=true) ⟨o,ho,hc⟩ isSubtype_stop (wpAny_pure (q g' kk)))
 unfold pyNext
 refine wpAny_bind (wpAny_attempt (wpAny_callSpecial?_slot (name:=Str.ofString "__next__") ty F.slot_zip_next (wpAny_call_entry F.slot_zip_next ty F.entry_zip_next ?_ (F.args_zip_next_1 _))))
 show wpAny _ _ (field (.ref z) 2 >>= _) _ _ s
 refine wpAny_bind (wpAny_field Zz rfl (x:=.bool false) rfl (?_:wpAny _ _ (field (.ref z) 3 >>= _) _ _ s))
 refine wpAny_bind (wpAny_field Zz rfl (x:=.ref TI) rfl (wpAny_bind (wpAny_seqItems Zi rfl (?_:wpAny _ _ (Builtin.SmallTypes.ownedTupleIsFree (.ref z) >>= _) _ _ s))))
 refine wpAny_bind ?_;unfold Builtin.SmallTypes.ownedTupleIsFree
 refine wpAny_bind (wpAny_field Zz rfl (x:=.none) rfl (wpAny_pure ?_))
 simp only[if_true]
 refine wpAny_bind (wpAny_rule (wpAny_bind (wpAny_field Zz rfl (x:=.ref TO) rfl (wpAny_bind (wpAny_setField_rec Zz (by simp) λg1 Zz1 m1=>?_)))))
 replace Zz1:IsZip g1 z TI TO .ellipsis:=Zz1
 refine wpAny_bind ?_;simp only[List.zipIdx_cons,List.zipIdx_nil,List.forIn_cons,List.forIn_nil]
 refine wpAny_bind (wpAny_bind (wpAny_onRaise (?_:wpAny _ _ (Builtin.SmallTypes.nextOf (.ref j1) >>= _) _ _ _)))
 cases ex1:xs1[i]? with
 | none =>
  refine wpAny_bind (zcd hh (Z1.at λo e=>(m1.extBut _ _ D.z_j1.symm e)) (q1.keep λo e=>(m1.extBut _ _ (q1.ne_z Zz) e)) ex1 λg2 e m2 ⟨oe,e1,e2⟩=>?_)
  have ZzE:IsZip g2 z TI TO .ellipsis:=m2 _ _ D.z_j1 Zz1
  have nz:e≠z:=λr=>by subst r;rw[ZzE]at e1;cases e1;simp at e2
  exact wpAny_setField_rec ZzE (by simp) λgE _ mE=>fin gE e (λc o c_z c_TO c_j1 c_j2 r=>mE.extBut _ _ c_z (m2 _ _ c_j1 (m1.extBut _ _ c_z r))) ⟨oe,mE.extBut _ _ nz e1,e2⟩
 | some x1 =>
  refine wpAny_bind (QV (Z1.at λo e=>(m1.extBut _ _ D.z_j1.symm e)) (q1.keep λo e=>(m1.extBut _ _ (q1.ne_z Zz) e)) ex1 λg2 Y1 m2=>wpAny_pure ?_)
  have Zo2:j6 g2 TO a1 a2:=m2.extBut _ _ D.TO_j1 (m1.extBut _ _ D.z_TO.symm Zo)
  refine wpAny_bind (wpAny_seqItems Zo2 rfl (wpAny_bind (Vi Zo2 λg3 Zo3 m3=>wpAny_bind (wpAny_letGo (wpAny_pure ?_)))))
  replace Zo3:j6 g3 TO x1 a2:=Zo3
  refine wpAny_bind (wpAny_bind (wpAny_onRaise (?_:wpAny _ _ (Builtin.SmallTypes.nextOf (.ref j2) >>= _) _ _ _)))
  have ex2:xs2[i]? = none:=by
   rcases en with r | r
   ·rw[ex1]at r;cases r
   ·exact r
  refine wpAny_bind (zcd hh (Z2.at λo e=>(m3.extBut _ _ D.TO_j2.symm (m2.extBut _ _ D.j1_j2.symm (m1.extBut _ _ D.z_j2.symm e)))) (q2.keep λo e=>(m3.extBut _ _ n2 (m2.extBut _ _ (q2.ne_j Z1) (m1.extBut _ _ (q2.ne_z Zz) e)))) ex2 λg4 e m4 ⟨oe,e1,e2⟩=>?_)
  have ZzE:IsZip g4 z TI TO .ellipsis:=m4 _ _ D.z_j2 (m3.extBut _ _ D.z_TO (m2.extBut _ _ D.z_j1 Zz1))
  have nz:e≠z:=λr=>by subst r;rw[ZzE]at e1;cases e1;simp at e2
  exact wpAny_setField_rec ZzE (by simp) λgE _ mE=>fin gE e (λc o c_z c_TO c_j1 c_j2 r=>mE.extBut _ _ c_z (m4 _ _ c_j2 (m3.extBut _ _ c_TO (m2.extBut _ _ c_j1 (m1.extBut _ _ c_z r))))) ⟨oe,mE.extBut _ _ nz e1,e2⟩
end
def zaO (k1 k2:Bool) (K:PySem.W.Frag) (t1 t2:Addr):It :=
 ⟨λi H=>∃(xs1:List V) (xs2:List V) (x1:V) (x2:V),SqK k1 K H t1 xs1/\SqK k2 K H t2 xs2/\xs1[i]? = some x1/\xs2[i]? = some x2,
  λi H v H'=>∃(T:Addr) (x1 x2:V),v = .ref T/\H T=none/\H'=upd H T (.tup [x1,x2])/\(∀xs,SqK k1 K H t1 xs->xs[i]? = some x1)/\(∀xs,SqK k2 K H t2 xs->xs[i]? = some x2),
  λi H=>∃(xs1:List V) (xs2:List V),SqK k1 K H t1 xs1/\SqK k2 K H t2 xs2/\(xs1.length<=i\/xs2.length<=i)⟩
theorem zbZ {P:Program}{w:World}{K:PySem.W.Frag}{elts:List Expr}{kc:Nat}{tp:Pos}(k1 k2:Bool) (z TI TO j1 j2 t1 t2:Addr) (D:ZN2 z TI TO j1 j2) (n1:t1≠TO) (n2:t2≠TO) :
  Jr P w K (.Tuple elts kc tp) (zaO k1 k2 K t1 t2) [z,TI,TO,j1,j2] z (λi h=>ZS2 z TI TO j1 j2 t1 t2 k1 k2 .none i h) where
 mem:=by simp
 obj:=λi h st b hb=>by
  obtain⟨Zz,Zi,⟨a1,a2,Zo⟩,Z1,Z2⟩:=st
  simp only[List.mem_cons,List.not_mem_nil,or_false]at hb
  rcases hb with rfl | rfl | rfl | rfl | rfl
  ·exact⟨_,Zz,λ_ r=>by cases r⟩
  ·exact⟨_,Zi,λ_ r=>by cases r⟩
  ·exact⟨_,Zo,λ_ r=>by cases r⟩
  ·exact Z1.ob
  ·exact Z2.ob
 keep:=λi h h' st k=>by
  obtain⟨Zz,Zi,⟨a1,a2,Zo⟩,Z1,Z2⟩:=st
  exact⟨k z (by simp) _ Zz,k TI (by simp) _ Zi,⟨a1,a2,k TO (by simp) _ Zo⟩,Z1.at λo e=>k j1 (by simp) o e,Z2.at λo e=>k j2 (by simp) o e⟩
 item:=by
  intro X hP hw hK hc i pins s σ H E I hf st hg
  subst hP hw hK
  obtain⟨xs1,xs2,x1,x2,h1,h2,ex1,ex2⟩:=hg
  obtain⟨us1,r1,p1⟩:=Zh I h1
  obtain⟨us2,r2,p2⟩:=Zh I h2
  obtain⟨u1,eu1,rx1⟩:=r1.get ex1
  obtain⟨u2,eu2,rx2⟩:=r2.get ex2
  refine zb2 D st (xs1:=us1.toArray) (xs2:=us2.toArray) p1 p2 n1 n2 (by simpa using eu1) (by simpa using eu2) λh' st' pr sz kk=>⟨_,rfl,?_⟩
  obtain⟨Zz,Zi,⟨a1,a2,Zo⟩,Z1,Z2⟩:=st'
  refine wpAny_letOwnedTupleGo_zip Zz λh2' Zz' sb=>?_
  have hTz:s.heap.objs.size≠z:=Nat.ne_of_gt (Heap.lt_size st.z)
  have kk2:∀c o,c≠z->c≠TO->c≠j1->c≠j2->s.heap.get? c=some o->h2'.get? c=some o:=λc o c_z c_TO c_j1 c_j2 e=>(sb.2 c c_z).trans (kk c o c_z c_TO c_j1 c_j2 e)
  have prT:h2'.get? s.heap.objs.size=some { cls:=.type "tuple",data:=.seq #[u1,u2] }:=(sb.2 _ hTz).trans pr
  have hT:H s.heap.objs.size=none:=I.hok.fresh (Nat.le_refl _)
  have neC:∀b,b∉[z,TO,j1,j2]->b≠z/\b≠TO/\b≠j1/\b≠j2:=λb hb=>by simpa using hb
  have trk:∀b u,H b=some u->b≠z/\b≠TO/\b≠j1/\b≠j2:=λb u e=>by
   refine⟨?_,?_,?_,?_⟩ <;> rintro rfl
   ·rw[(hf b (by simp)).1]at e;cases e
   ·rw[(hf b (by simp)).1]at e;cases e
   ·rw[(hf b (by simp)).1]at e;cases e
   ·rw[(hf b (by simp)).1]at e;cases e
  have ltT:∀b o,s.heap.get? b=some o->b≠s.heap.objs.size:=λb o e=>Nat.ne_of_lt (Heap.lt_size e)
  have u:Un (frs X.stack) [z,TO,j1,j2] H (upd H s.heap.objs.size (.tup [x1,x2])) s.heap h2' :=
   ⟨λb o e n _ hb=>by obtain⟨d0,d1,d2,d3⟩:=neC b hb;exact kk2 b o d0 d1 d2 d3 e,λb o e n _ hb=>by obtain⟨d0,d1,d2,d3⟩:=neC b hb;exact⟨o.slots,kk2 b o d0 d1 d2 d3 e⟩,
    λb o e n hb=>by rw[zK (ltT b o e)];exact n,λb o e hb=>by obtain⟨d0,d1,d2,d3⟩:=neC b hb;exact⟨o,kk2 b o d0 d1 d2 d3 e⟩,
    λb ws e=>by rw[zK (zN e hT)];exact e,λb o ws e=>by rw[zK (zN e hT)];exact e,λb ps e=>⟨#[],by rw[zK (zN e hT),e];simp⟩⟩
  have hok:HOk X.prog X.w (upd H s.heap.objs.size (.tup [x1,x2])) h2':=λb ob e=>by
   by_cases hb:b=s.heap.objs.size
   ·subst hb
    rw[zo]at e;cases e
    exact⟨by show 2<=sizeLine;decide,[u1,u2],(.cons rx1 (.cons rx2 .nil)),_,prT,rfl,0,rfl⟩
   ·rw[zK hb]at e
    refine(I.hok b ob e).stay (λc v hc' qc=>?_) (λc q=>by rw[zK (zN q hT)];exact q) λc ws q=>by rw[zK (zN q hT)];exact q
    have:∃o,H c=some o:=by
     rcases hc' with rfl | hc'
     ·exact⟨_,e⟩
     ·exact⟨_,hc'⟩
    obtain⟨o,ho⟩:=this
    obtain⟨d0,d1,d2,d3⟩:=trk c o ho
    exact kk2 c v d0 d1 d2 d3 qc
  refine⟨.ref s.heap.objs.size,upd H s.heap.objs.size (.tup [x1,x2]),?_,rfl,⟨_,x1,x2,rfl,hT,rfl,λxs' h=>by rw[VG I h h1];exact ex1,λxs' h=>by rw[VG I h h2];exact ex2⟩,
   ⟨Zz',(sb.2 _ D.z_TI.symm).trans Zi,⟨_,_,(sb.2 _ D.z_TO.symm).trans Zo⟩,Z1.at λo e=>(sb.2 _ D.z_j1.symm).trans e,Z2.at λo e=>(sb.2 _ D.z_j2.symm).trans e⟩,λb hb=>?_⟩
  ·refine I.call' (s':={ s with heap:=h2' }) (ch:=[z,TO,j1,j2]) rfl u hok I.bare λb hb=>?_
   obtain⟨_,y1,y2,y3,y4,y5⟩:=hf b (by simp only[List.mem_cons,List.not_mem_nil,or_false]at hb ⊢;rcases hb with r | r | r | r <;> simp[r])
   exact⟨y3,y1,y4,y5⟩
  ·obtain⟨o,e,_⟩:∃o,s.heap.get? b=some o/\True:=by
    obtain⟨Zz,Zi,⟨a1,a2,Zo⟩,Z1,Z2⟩:=st
    simp only[List.mem_cons,List.not_mem_nil,or_false]at hb
    rcases hb with rfl | rfl | rfl | rfl | rfl
    ·exact⟨_,Zz,trivial⟩
    ·exact⟨_,Zi,trivial⟩
    ·exact⟨_,Zo,trivial⟩
    ·obtain⟨o,e,_⟩:=Z1.ob;exact⟨o,e,trivial⟩
    ·obtain⟨o,e,_⟩:=Z2.ob;exact⟨o,e,trivial⟩
   rw[zK (ltT b o e)];exact(hf b hb).1
 done:=by
  intro X hP hw hK hc i pins s σ H E I hf st hg
  subst hP hw hK
  obtain⟨xs1,xs2,h1,h2,en⟩:=hg
  obtain⟨us1,r1,p1⟩:=Zh I h1
  have l1:=r1.length
  obtain⟨us2,r2,p2⟩:=Zh I h2
  have l2:=r2.length
  refine zdL (I.ok.hd hc) D st (xs1:=us1.toArray) (xs2:=us2.toArray) p1 p2 n1 n2 (by rcases en with r | r;exact .inl (by simp;omega);exact .inr ((by simp;omega))) λh' kk=>⟨rfl,?_⟩
  have neC:∀b,b∉[z,TO,j1,j2]->b≠z/\b≠TO/\b≠j1/\b≠j2:=λb hb=>by simpa using hb
  have u:Un (frs X.stack) [z,TO,j1,j2] H H s.heap h' :=
   ⟨λb o e n _ hb=>by obtain⟨d0,d1,d2,d3⟩:=neC b hb;exact kk b o d0 d1 d2 d3 e,λb o e n _ hb=>by obtain⟨d0,d1,d2,d3⟩:=neC b hb;exact⟨o.slots,kk b o d0 d1 d2 d3 e⟩,
    λb o e n hb=>n,λb o e hb=>by obtain⟨d0,d1,d2,d3⟩:=neC b hb;exact⟨o,kk b o d0 d1 d2 d3 e⟩,λb ws e=>e,λb o ws e=>e,λb ps e=>⟨#[],by rw[e];simp⟩⟩
  have hok:HOk X.prog X.w H h':=λb ob e=>by
   refine(I.hok b ob e).stay (λc v hc' qc=>?_) (λc q=>q) λc ws q=>q
   have:∃o,H c=some o:=by
    rcases hc' with rfl | hc'
    ·exact⟨_,e⟩
    ·exact⟨_,hc'⟩
   obtain⟨o,ho⟩:=this
   have nn:∀d∈[z,TI,TO,j1,j2],c≠d:=λd hd r=>by subst r;rw[(hf c hd).1]at ho;cases ho
   exact kk c v (nn _ (by simp)) (nn _ (by simp)) (nn _ (by simp)) (nn _ (by simp)) qc
  refine I.call' (s':={ s with heap:=h' }) (ch:=[z,TO,j1,j2]) rfl u hok I.bare λb hb=>?_
  obtain⟨_,y1,y2,y3,y4,y5⟩:=hf b (by simp only[List.mem_cons,List.not_mem_nil,or_false]at hb ⊢;rcases hb with r | r | r | r <;> simp[r])
  exact⟨y3,y1,y4,y5⟩
 self:=λ_ _ _ _ _ st h=>wpAny_pyIter_zip st.z h
def Qg (h:Heap) (k1 k2:Bool) (t1 t2:Addr):Heap:=((((h.push (Zr k1 t1)).push (Zr k2 t2)).push { cls:=.type "tuple",data:=.seq #[.ref h.objs.size,.ref (h.objs.size+1)] }).push { cls:=.type "tuple",data:=.seq #[.none,.none] }).push { cls:=.type "zip",data:=.fields #[.none,.bool false,.bool false,.ref (h.objs.size+2),.ref (h.objs.size+3)] }
theorem zaL (k1 k2:Bool) (t1 t2:Addr) (xs1 xs2:Array Value):Meets (Builtin.«zip.__new__» ⟨[.type "zip",.ref t1,.ref t2],[]⟩) (λ_ R s=>KSq k1 s.heap t1 xs1/\KSq k2 s.heap t2 xs2/\R (.ok (.ret (.ref (s.heap.objs.size+4)))) { s with heap:=Qg s.heap k1 k2 t1 t2 }) :=
 .of_wp λprog w A R s h=>by
  obtain⟨hp,g,d,tk,os⟩:=s;obtain⟨q1,q2,h⟩:=h
  have hs:=sub_zip
  have K1:KSq k1 (Shared.heap ⟨hp,g,d,tk,os⟩) t1 xs1:=q1
  have K2:KSq k2 (Shared.heap ⟨(hp.push (Zr k1 t1)),g,d,tk,os⟩) t2 xs2:=(KSq.push q2)
  wp_walk using zcc K1,zcc K2
  refine⟨_,rfl,?_⟩
  unfold Qg at h
  simp only[Heap.size_push]at h ⊢
  exact h
section
variable {X:Cx}
def zdS (K:PySem.W.Frag) (t:TA):TI:=λσ H R=>t σ H λvs H1=>∃(k1 k2:Bool) (t1 t2:Addr),vs=[.ref t1,.ref t2]/\(∃xs,SqK k1 K H1 t1 xs)/\(∃xs,SqK k2 K H1 t2 xs)/\R (zaO k1 k2 K t1 t2) H1
theorem zaN {h:Heap}{k1 k2:Bool}{t1 t2:Addr}:IsZip (Qg h k1 k2 t1 t2) (h.objs.size+4) (h.objs.size+2) (h.objs.size+3) .none/\j6 (Qg h k1 k2 t1 t2) (h.objs.size+2) (.ref h.objs.size) (.ref (h.objs.size+1))/\j6 (Qg h k1 k2 t1 t2) (h.objs.size+3) .none .none ∧
  KIt k1 (Qg h k1 k2 t1 t2) (h.objs.size) t1 0/\KIt k2 (Qg h k1 k2 t1 t2) (h.objs.size+1) t2 0/\∀c o,h.get? c=some o->(Qg h k1 k2 t1 t2).get? c=some o:=by
 have z1:(h.push (Zr k1 t1)).objs.size=h.objs.size+1:=by rw[Heap.size_push]
 have z2:((h.push (Zr k1 t1)).push (Zr k2 t2)).objs.size=h.objs.size+2:=by rw[Heap.size_push,z1]
 have z3:(((h.push (Zr k1 t1)).push (Zr k2 t2)).push { cls:=.type "tuple",data:=.seq #[.ref h.objs.size,.ref (h.objs.size+1)] }).objs.size=h.objs.size+3:=by rw[Heap.size_push,z2]
 have z4:((((h.push (Zr k1 t1)).push (Zr k2 t2)).push { cls:=.type "tuple",data:=.seq #[.ref h.objs.size,.ref (h.objs.size+1)] }).push { cls:=.type "tuple",data:=.seq #[.none,.none] }).objs.size=h.objs.size+4:=by rw[Heap.size_push,z3]
 unfold Qg
 refine⟨?_,?_,?_,?_,?_,λc o e=>?_⟩
 ·rw[<-z4];exact Heap.get?_push_size _ rfl
 ·refine Heap.get?_push_of_some _ (Heap.get?_push_of_some _ ?_)
  refine XR z2.symm ?_
  rfl
 ·refine Heap.get?_push_of_some _ ?_
  refine XR z3.symm ?_
  rfl
 ·refine Vx (Heap.get?_push_of_some _ (Heap.get?_push_of_some _ (Heap.get?_push_of_some _ (Heap.get?_push_of_some _ ?_))))
  exact Heap.get?_push_size _ rfl
 ·refine Vx (Heap.get?_push_of_some _ (Heap.get?_push_of_some _ (Heap.get?_push_of_some _ ?_)))
  exact XR z1.symm rfl
 ·exact(Heap.get?_push_of_some _ (Heap.get?_push_of_some _ (Heap.get?_push_of_some _ (Heap.get?_push_of_some _ (Heap.get?_push_of_some _ e)))))
theorem zbE {a b:Expr}{ta:TA}{p pos tp:Pos}{elts:List Expr}{kc:Nat}(hg:Gl X "zip") (hm:X.mg "zip" = none) (ha:PA X [a,b] ta) (hs:starEach [a,b] X.env=[(false,eval a X.env),(false,eval b X.env)]:=by rfl) (hs1:starEach [b] X.env=[(false,eval b X.env)]:=by rfl) :
  PI X (.Tuple elts kc tp) (.Call (.Name "zip" p) [a,b] [] pos) (zdS X.K ta):=by
 intro pins s σ H R I h
 refine Call_ (ZL I hg hm (by decide +kernel:bootBuiltins "zip" = some (.type "zip")) (PyProof.Rows.callWith_type1 (thn (ha pos pins s σ H _ I h) λus s1 ⟨vs,H1,I1,r1,q1⟩=>?_) (by rw[hs,hs1]) (by rw[hs1];rfl)))
 obtain⟨k1,k2,t1,t2,e,⟨xs1,k_1⟩,⟨xs2,k_2⟩,q⟩:=q1
 subst e
 obtain⟨u1,u2,rfl,ru1,ru2⟩:=VN r1
 cases(show u1=Value.ref t1 from ru1)
 cases(show u2=Value.ref t2 from ru2)
 obtain⟨as1,ra1,pa1⟩:=Zh I1 k_1
 obtain⟨as2,ra2,pa2⟩:=Zh I1 k_2
 refine callType_new F.called_zip (by decide) (F.typeCall_zip_2 _ _) (F.newCall_zip_2 _ _) (λobj=>F.args_object_init_3 obj _ _) F.entry_zip_new (zaL k1 k2 t1 t2 as1.toArray as2.toArray) ⟨pa1,pa2,?_⟩
 obtain⟨g1,g2,g3,g4,g5,g6⟩:=zaN (h:=s1.heap) (k1:=k1) (k2:=k2) (t1:=t1) (t2:=t2)
 show _/\_
 refine⟨⟨_,g1,rfl⟩,wpAny_pyIter_zip g1 ⟨_,[s1.heap.objs.size+4,s1.heap.objs.size+2,s1.heap.objs.size+3,s1.heap.objs.size,s1.heap.objs.size+1],_,_,H1,rfl,I1.kept (t':=s1.toks) g6,
  zbZ k1 k2 (s1.heap.objs.size+4) (s1.heap.objs.size+2) (s1.heap.objs.size+3) s1.heap.objs.size (s1.heap.objs.size+1) t1 t2 ?_ (nne (Nat.lt_of_lt_of_le pa1.lt (Nat.le_add_right _ _))) (nne (Nat.lt_of_lt_of_le pa2.lt (Nat.le_add_right _ _))),⟨g1,g2,⟨_,_,g3⟩,g4,g5⟩,λb hb=>?_,q⟩⟩
 ·constructor <;> (intro z;simp only[Nat.add_right_inj,Nat.add_eq_left,Nat.left_eq_add]at z;try omega)
 ·have hb':s1.heap.objs.size<=b:=by
   simp only[List.mem_cons,List.not_mem_nil,or_false]at hb
   rcases hb with rfl | rfl | rfl | rfl | rfl
   ·exact Nat.le_add_right _ _
   ·exact Nat.le_add_right _ _
   ·exact Nat.le_add_right _ _
   ·exact Nat.le_refl _
   ·exact Nat.le_add_right _ _
  exact I1.fpOk hb' (I1.hok.fresh hb')
end
def HSq (k:Bool) (H:Hp) (a:Addr) (xs:List V):Prop:=match k with | true=>H a=some (.tup xs) | false=>H a=some (.lst xs)
theorem HSq.sq {k:Bool}{K:PySem.W.Frag}{H:Hp}{a:Addr}{xs:List V}(h:HSq k H a xs):SqK k K H a xs:=by
 cases k
 ·exact SqL.of h
 ·exact SqT.of h
theorem HSq.same {k:Bool}{H H':Hp}{a:Addr}{xs:List V}(h:HSq k H a xs) (e:zt H H'):HSq k H' a xs:=by
 cases k <;> exact e _ _ h
end L2
end
namespace KM
theorem jU (a b:Rat):Rat.divInt (a.num*b.den - b.num*a.den) (a.den*b.den)=a - b:=by
 rw[Rat.sub_def',<-Rat.divInt_ofNat];simp
theorem QP (x s:Rat):(0:Int)<(x.den:Int)*s.den:=Int.mul_pos (den_pos x) (den_pos s)
theorem Jw (x:Rat){d:Int}(hd:d≠0):x=Rat.divInt (x.num*d) (x.den*d):=by rw[Rat.divInt_mul_right hd,Rat.num_divInt_den]
theorem vK {a b d:Int}(hd:0<d):Rat.divInt a d<Rat.divInt b d↔a<b:=by
 rw[Rat.divInt_eq_div,Rat.divInt_eq_div]
 have h:(0:Rat)<d:=Rat.intCast_pos.mpr hd
 rw[Rat.div_lt_iff h,Rat.div_mul_cancel (by grind)];exact Rat.intCast_lt_intCast
theorem ZG {a b d:Int}(hd:d≠0):Rat.divInt a d - Rat.divInt b d=Rat.divInt (a - b) d:=by
 rw[Rat.divInt_sub_divInt _ _ hd hd,<-Int.sub_mul,Rat.divInt_mul_right hd]
theorem qY (d:Int):Rat.divInt 0 d=0:=by simp
theorem QQ {a d:Int}(hd:0<d):0<Rat.divInt a d↔0<a:=by
 have:=vK (a:=0) (b:=a) hd
 rw[qY]at this;exact this
theorem vL {a d:Int}(hd:0<d) (h:0<=a):0<=Rat.divInt a d:=by
 have:=vK (a:=a) (b:=0) hd
 rw[qY]at this
 rw[<-Rat.not_lt,this];omega
def rst (x s:Rat):Rat:=Rat.divInt ((x.num*s.den) % (s.num*x.den)) (x.den*s.den)
section
variable {x s:Rat}
theorem Qy (hs:0<s.num):0<s.num*(x.den:Int):=Int.mul_pos hs (den_pos x)
theorem zeq (x s:Rat):s=Rat.divInt (s.num*x.den) (x.den*s.den):=by rw[Int.mul_comm (x.den:Int)];exact Jw s (zR x)
theorem XS (hs:0<s.num):0<=rst x s:=vL (QP x s) (Int.emod_nonneg _ (by have:=Qy (x:=x) hs;omega))
theorem XT (hs:0<s.num):rst x s<s:=by
 have h:rst x s<Rat.divInt (s.num*x.den) (x.den*s.den):=(vK (QP x s)).mpr (Int.emod_lt_of_pos _ (Qy hs))
 rw[<-zeq]at h;exact h
theorem ZS (hs:0<s.num):x - rst x s=(((x.num*s.den)/(s.num*x.den):Int):Rat)*s:=by
 have hb:=Qy (x:=x) hs
 have e1:x - rst x s=Rat.divInt (x.num*s.den - (x.num*s.den) % (s.num*x.den)) (x.den*s.den):=by
  have:=ZG (a:=x.num*s.den) (b:=(x.num*s.den) % (s.num*x.den)) (Int.ne_of_gt (QP x s))
  rw[<-Jw x (zR s)]at this;exact this
 have e2:x.num*s.den - (x.num*s.den) % (s.num*x.den)=((x.num*s.den)/(s.num*x.den))*(s.num*x.den):=by
  have:=Int.emod_add_mul_ediv (x.num*s.den) (s.num*x.den)
  rw[Int.mul_comm (x.num*s.den/(s.num*x.den))];omega
 rw[e1,e2]
 have e3:(((x.num*s.den)/(s.num*x.den):Int):Rat)*s=Rat.divInt ((x.num*s.den)/(s.num*x.den)) 1*Rat.divInt (s.num*x.den) (x.den*s.den):=by
  rw[<-zeq,Q0]
 rw[e3,Rat.divInt_mul_divInt,Int.one_mul]
end
end KM
section
set_option maxHeartbeats 8000000
set_option Elab.async false
set_option linter.all false
set_option maxRecDepth 100000
namespace L2
open PySem PySem.Spec PyProof.Rows
end L2
namespace L2
open PySem PySem.Spec PyProof.Rows
end L2
namespace L2
open PySem PySem.Spec PyProof.Rows
end L2
namespace L2
open PySem PySem.Spec PyProof.Rows
end L2
namespace L2
open PySem PySem.Spec PyProof.Rows
end L2
namespace L2
open PySem PySem.Spec PyProof.Rows
end L2
namespace L2
open PySem PySem.Spec PyProof.Rows
end L2
namespace L2
open PySem PySem.Spec PyProof.Rows
end L2
namespace L2
open PySem PySem.Spec PyProof.Rows
end L2
namespace L2
open PySem PySem.Spec PyProof.Rows
end L2
namespace L2
open PySem PySem.Spec PyProof.Rows
end L2
namespace Att
open PySem PySem.W PySem.Calls PyProof.Rows
end Att
namespace L2
open PySem PySem.Spec PyProof.Rows
end L2
namespace L2
open PySem PySem.Spec PyProof.Rows
end L2
end
section
set_option maxHeartbeats 4000000
set_option Elab.async false
set_option linter.all false
set_option maxRecDepth 100000
namespace L2
open PySem PySem.W PyProof.Rows
theorem zdK {α:Type}{M:Model}{c:Code}{t:Sem α}{Q:α->Prop}{p:Pos}{s:Shared}(h1:Sem.wp M (Ctx.of c []) t (λa _ _=>Q a) (λ_ _ _=>False) p s) (h2:Sem.wp M (Ctx.of c []) t (λa _ _=>¬Q a) (λ_ _ _=>False) p s):False:=by
 classical
 let f:α->Sem PySem.Fin:=λa=>if Q a then pure (.done (.ret .none))else throw Value.none
 have w1:Sem.wp M (Ctx.of c []) (t >>= f) (Sem.finPost M (Ctx.of c []) λr _=>∃z,r = .ok z) (λe _ s'=>(λ(r:Result) (_:Shared)=>∃z,r = .ok z) (.error e) s') p s:=by
  rw[Sem.wp_bind']
  refine Sem.wp_mono M _ t (λa p' s' q=>?_) (λ_ _ _ q=>q.elim) p s h1
  show Sem.wp M _ (if Q a then pure (PySem.Fin.done (.ret .none))else throw Value.none:Sem PySem.Fin) _ _ _ _
  rw[if_pos q]
  exact⟨_,rfl⟩
 have w2:Sem.wp M (Ctx.of c []) (t >>= f) (Sem.finPost M (Ctx.of c []) λr _=>∃z,r = .error z) (λe _ s'=>(λ(r:Result) (_:Shared)=>∃z,r = .error z) (.error e) s') p s:=by
  rw[Sem.wp_bind']
  refine Sem.wp_mono M _ t (λa p' s' q=>?_) (λ_ _ _ q=>q.elim) p s h2
  show Sem.wp M _ (if Q a then pure (PySem.Fin.done (.ret .none))else throw Value.none:Sem PySem.Fin) _ _ _ _
  rw[if_neg q]
  exact⟨_,rfl⟩
 obtain⟨r1,s1,a1,z1,e1⟩:=(wp_iff_reach _ _ p s).mp w1
 obtain⟨r2,s2,a2,z2,e2⟩:=(wp_iff_reach _ _ p s).mp w2
 obtain⟨_,e⟩:=Reach.det a1 a2
 subst e1;subst e2
 cases e
def Qz {α:Type}(lt:Nat->Nat->Bool):KasT α->α
 | .ret a=>a
 | .ask i j k=>Qz lt (k (lt i j))
def TOk {α:Type}(n:Nat) (R:α->Prop):KasT α->Prop
 | .ret a=>R a
 | .ask i j k=>i<n/\j<n/\∀b,TOk n R (k b)
theorem TOk.bind {α β:Type}{n:Nat}{R:α->Prop}{R':β->Prop}{f:α->KasT β}(hf:∀a,R a->TOk n R' (f a)):∀t:KasT α,TOk n R t->TOk n R' (t.bind f)
 | .ret a,h=>hf a h
 | .ask i j k,h=>⟨h.1,h.2.1,λb=>TOk.bind hf (k b) (h.2.2 b)⟩
theorem TOk.run {α:Type}{n:Nat}{R:α->Prop}{lt:Nat->Nat->Bool}:∀t:KasT α,TOk n R t->R (Qz lt t)
 | .ret a,h=>h
 | .ask i j k,h=>TOk.run (k (lt i j)) (h.2.2 _)
theorem TOk.wp {α:Type}{n:Nat}{R:α->Prop}{lt:Nat->Nat->Bool}{cmp:Nat->Nat->(Bool->Shared->Prop)->Shared->Prop}{s:Shared}(hc:∀i j C,i<n->j<n->C (lt i j) s->cmp i j C s){Q:α->Shared->Prop}:∀t:KasT α,TOk n R t->Q (Qz lt t) s->t.kasWp cmp Q s
 | .ret a,h,q=>q
 | .ask i j k,h,q=>hc i j _ h.1 h.2.1 (TOk.wp hc (k (lt i j)) (h.2.2 _) q)
def Bel (n:Nat) (p:Array Nat):Prop:=0<n/\∀x∈p.toList,x<n
theorem Bel.at {n:Nat}{p:Array Nat}(h:Bel n p) (k:Nat):p.getD k 0<n:=by
 unfold Array.getD
 split
 ·exact h.2 _ (by simp)
 ·exact h.1
theorem Bel.perm {n:Nat}{p q:Array Nat}(h:Bel n p) (e:q.Perm p):Bel n q:=⟨h.1,λx m=>h.2 x ((Array.perm_iff_toList_perm.mp e).mem_iff.mp m)⟩
theorem Bel.rev {n:Nat}{p:Array Nat}(h:Bel n p) (i j:Nat):Bel n (kas_rev p i j):=h.perm (mirror_perm _ _ _ _)
theorem Qc {n:Nat}{p:Array Nat}(h:Bel n p):∀f k,TOk n (λ_=>True) (kas_asc p f k)
 | 0,_=>trivial
 | f+1,k=>⟨h.at _,h.at _,λb=>by
  cases b with
  | true=>exact trivial
  | false=>exact Qc h f (k+1)⟩
theorem j3 {n:Nat}:∀f p k q,Bel n p->TOk n (λr=>Bel n r.1) (kas_desc f p k q)
 | 0,_,_,_,h=>h
 | f+1,p,k,q,h=>⟨h.at _,h.at _,λb=>by
  cases b with
  | true =>
   show TOk n _ (if q>0 then _ else _)
   by_cases hq:q>0
   ·rw[if_pos hq];exact j3 f _ _ _ (h.rev _ _)
   ·rw[if_neg hq];exact j3 f _ _ _ h
  | false =>
   refine⟨h.at _,h.at _,λd=>?_⟩
   cases d with
   | true=>exact h
   | false=>exact j3 f _ _ _ h⟩
theorem Xr {n k m:Nat}{p:Array Nat}(h:Bel n p):TOk n (λr=>Bel n r.2) (kas_tail3 k m p):=by
 refine TOk.bind (R:=λ_=>True) (λ_ _=>?_) _ (Qc (h.rev 0 k) _ _)
 exact h.rev 0 k
theorem QD {n k m:Nat}{p:Array Nat}(h:Bel n p):TOk n (λr=>Bel n r.2) (kas_descPart k m p):=by
 refine TOk.bind (λr hr=>?_) _ (j3 _ _ _ _ h)
 by_cases hq:r.2.2>0
 ·rw[if_pos hq];exact Xr (Bel.rev hr _ _)
 ·rw[if_neg hq];exact Xr hr
theorem Jm {n m:Nat}{p:Array Nat}(h:Bel n p):TOk n (λr=>Bel n r.2) (kas_count m p):=by
 refine TOk.bind (λk _=>?_) _ (Qc h _ _)
 by_cases e1:(k == m)=true
 ·rw[if_pos e1];exact h
 ·rw[if_neg e1]
  by_cases e2:k>1
  ·rw[if_pos e2]
   refine⟨h.at _,h.at _,λb=>?_⟩
   cases b with
   | true=>exact h
   | false=>exact QD (h.rev 0 k)
  ·rw[if_neg e2];exact QD h
theorem Zj {n k:Nat}{p:Array Nat}(h:Bel n p):∀f l r,TOk n (λ_=>True) (kas_place p k f l r)
 | 0,_,_=>trivial
 | f+1,l,r=>by
  unfold kas_place
  by_cases e:l>=r
  ·rw[if_pos e];exact trivial
  ·rw[if_neg e]
   refine⟨h.at _,h.at _,λb=>?_⟩
   cases b with
   | true=>exact Zj h f _ _
   | false=>exact Zj h f _ _
theorem VL {n:Nat}:∀f p k,Bel n p->TOk n (Bel n) (kas_bin f p k)
 | 0,_,_,h=>h
 | f+1,p,k,h=>TOk.bind (λl _=>VL f _ _ (h.perm (bubble_perm _ _ _))) _ (Zj h _ _ _)
theorem QE {n:Nat}(h:0<n):TOk n (Bel n) (kas_sort n):=by
 have h0:Bel n (List.toArray (List.range n)):=⟨h,λx m=>by simpa using m⟩
 refine TOk.bind (λr hr=>?_) _ (Jm h0)
 by_cases e:r.1<n
 ·rw[if_pos e];exact VL _ _ _ hr
 ·rw[if_neg e];exact hr
end L2
end
section
set_option maxHeartbeats 4000000
set_option Elab.async false
set_option linter.all false
set_option maxRecDepth 100000
namespace L2
open PySem PySem.W PyProof.Rows
def qy (r:Nat->Int) (n:Nat):Array Keyed:=((List.range n).map λi=>((.int (r i) 0,.int i 0):Keyed)).toArray
theorem vc (r:Nat->Int) (n:Nat):(qy r n).size=n:=by simp[qy]
theorem Zt {r:Nat->Int}{n i:Nat}(h:i<n):kas_item (qy r n) i=(.int (r i) 0,.int i 0):=by
 unfold kas_item Array.getD
 rw[dif_pos (by rw[vc];exact h)]
 simp[qy]
theorem Vd (prog:Program) (w:World) (s:Shared){n:Nat}(h2:2<=n) (h64:n<64) (r:Nat->Int) (p:Array Nat) (hp:p=Qz (λi j=>decide (r i<r j)) (kas_sort n)) :
  p.toList.Perm (List.range n)/\(p.toList.map r).Pairwise (·<=·):=by
 have tk:=QE (n:=n) (by omega)
 have hb:Bel n p:=hp ▸ TOk.run _ tk
 let A0:Around:={ handled:=(Ctx.of default []).handled,depth:=frameCount (Ctx.of default []).below+(Ctx.of default []).code.weight,units:=(Ctx.of default []).units }
 have hin:(Ctx.of default []).In A0:=⟨rfl,Nat.le_refl _,(λl h=>by cases h),(λg h=>by cases h),Nat.le_refl _⟩
 have est:arrOf (kas_st oneType' (qy r n) (List.toArray (List.range n)))=qy r n:=by
  have e:=kas_range (qy r n)
  rw[vc]at e
  exact e
 have k1:kasC (model prog w) A0 (λ_ _=>False) sortRuns' (λ_ st' _=>arrOf st'=p.map (kas_item (qy r n))) (kas_st oneType' (qy r n) (List.toArray (List.range n))) s:=by
  refine kas_runs (G:=λp' _=>p'=p) h2 h64 (λp' st' s' a1 a2 a3 a4=>by subst a4;exact a2) (TOk.wp (n:=n) (lt:=λi j=>decide (r i<r j)) (λi j C hi hj hC=>?_) _ tk hp.symm)
  unfold kas_cmp
  rw[Zt hi,Zt hj]
  exact kat_lt_int hC
 have k2:wpS (model prog w) A0 (λ_ _=>False) s sortRuns' (λ_ st'=>(arrOf st').Perm (qy r n)/\SortedTo (arrOf st') (qy r n).size) (kas_st oneType' (qy r n) (List.toArray (List.range n))):=by
  refine wpS_sortRuns (a₀:=qy r n) (λq m=>?_) ⟨by rw[est],rfl,rfl,rfl⟩ (by rw[vc];exact h2) (by rw[vc];exact h64) λst' a1 _ a3=>⟨a1,a3⟩
  simp[qy]at m
  obtain⟨i,_,rfl⟩:=m
  exact⟨_,_,rfl⟩
 have main:(p.map (kas_item (qy r n))).Perm (qy r n)/\SortedTo (p.map (kas_item (qy r n))) (qy r n).size:=by
  refine Classical.byContradiction λno=>?_
  refine zdK (M:=model prog w) (c:=default) (t:=sortRuns'.run (kas_st oneType' (qy r n) (List.toArray (List.range n)))) (Q:=λq=>(arrOf q.2).Perm (qy r n)/\SortedTo (arrOf q.2) (qy r n).size) (p:=default) (s:=s) ?_ ?_
  ·exact Sem.wp_mono _ _ _ (λa _ _ q=>q.2) (λ_ _ _ q=>q) _ _ (k2 _ default hin)
  ·refine Sem.wp_mono _ _ _ (λa _ _ q=>?_) (λ_ _ _ q=>q) _ _ (k1 _ default hin)
   rw[q];exact no
 have lt:∀i,(h:i<p.size)->p[i]<n:=λi h=>hb.2 _ (by simp)
 refine⟨?_,?_⟩
 ·have e:=(Array.perm_iff_toList_perm.mp main.1).map (λk:Keyed=>(numOf k.2).toNat)
  have e1:((p.map (kas_item (qy r n))).toList.map λk:Keyed=>(numOf k.2).toNat)=p.toList:=by
   rw[Array.toList_map,List.map_map]
   conv=>rhs;rw[<-List.map_id p.toList]
   refine List.map_congr_left λi m=>?_
   show (numOf (kas_item (qy r n) i).2).toNat=i
   rw[Zt (hb.2 i m)]
   rfl
  have e2:((qy r n).toList.map λk:Keyed=>(numOf k.2).toNat)=List.range n:=by
   simp[qy,Function.comp_def,numOf]
  rw[e1,e2]at e
  exact e
 ·have hs:=main.2
  rw[vc]at hs
  have hsz:p.size=n:=by
   have:=main.1.size_eq
   rw[Array.size_map,vc]at this
   exact this
  have hK:∀i (h:i<p.size),K (p.map (kas_item (qy r n))) i=r p[i]:=λi h=>by
   unfold K
   rw[Array.getElem?_map,Array.getElem?_eq_getElem h]
   show numOf (kas_item (qy r n) p[i]).1=_
   rw[Zt (lt i h)]
   rfl
  rw[List.pairwise_iff_getElem]
  intro i j hi hj hij
  simp only[List.length_map,Array.length_toList]at hi hj
  have:=hs i j (by omega) (by omega)
  rw[hK i hi,hK j hj]at this
  simpa using this
def xF:List Int->List Int->Bool
 | [],[]=>false
 | [],_::_=>true
 | _::_,[]=>false
 | a::x,b::y=>if a=b then xF x y else decide (a<b)
theorem Qp:∀x,xF x x=false
 | []=>rfl
 | a::x=>by rw[xF,if_pos rfl];exact Qp x
theorem jI:∀{x y z},xF x y=true->xF y z=true->xF x z=true
 | [],[],_,h,_=>by simp[xF]at h
 | [],_::_,[],_,h=>by simp[xF]at h
 | [],_::_,_::_,_,_=>rfl
 | _::_,[],_,h,_=>by simp[xF]at h
 | _::_,_::_,[],_,h=>by simp[xF]at h
 | a::x,b::y,c::z,h1,h2=>by
  rw[xF]at *
  by_cases e1:a=b
  ·subst e1
   by_cases e2:a=c
   ·subst e2
    simp only[if_true]at *
    exact jI h1 h2
   ·rw[if_neg e2]at *;exact h2
  ·rw[if_neg e1]at h1
   by_cases e2:b=c
   ·subst e2
    rw[if_neg e1];exact h1
   ·rw[if_neg e2]at h2
    have h1:=of_decide_eq_true h1
    have h2:=of_decide_eq_true h2
    rw[if_neg (by omega)]
    exact decide_eq_true (by omega)
theorem Qq:∀{x y},xF x y=false->xF y x=false->x=y
 | [],[],_,_=>rfl
 | [],_::_,h,_=>by simp[xF]at h
 | _::_,[],_,h=>by simp[xF]at h
 | a::x,b::y,h1,h2=>by
  rw[xF]at h1 h2
  by_cases e:a=b
  ·subst e
   simp only[if_true]at h1 h2
   rw[Qq h1 h2]
  ·rw[if_neg e]at h1
   rw[if_neg (Ne.symm e)]at h2
   have h1:=of_decide_eq_false h1
   have h2:=of_decide_eq_false h2
   omega
theorem zbe {x y z} (h1:xF y x=false) (h2:xF z y=false):xF z x=false:=by
 cases h:xF z x with
 | false=>rfl
 | true =>
  cases h3:xF x y with
  | true=>rw[jI h h3]at h2;cases h2
  | false=>have e:=Qq h3 h1;subst e;rw[h]at h2;cases h2
def vC (ks:List (List Int)) (x:List Int):Int:=((ks.countP λy=>xF y x:Nat):Int)
theorem Xj {α:Type}{p q:α->Bool}:∀{l:List α},(∀x,p x=true->q x=true)->(∃x∈l,p x=false/\q x=true)->l.countP p<l.countP q
 | [],_,⟨_,m,_⟩=>by simp at m
 | a::l,hi,⟨x,m,h1,h2⟩=>by
  have le:=List.countP_mono_left (l:=l) (p:=p) (q:=q) (λy _=>hi y)
  rw[List.countP_cons,List.countP_cons]
  rcases List.mem_cons.mp m with rfl | m
  ·rw[h1,h2];simp;omega
  ·have ih:=Xj (l:=l) hi ⟨x,m,h1,h2⟩
   cases ha:p a with
   | true=>rw[hi a ha];simp;exact ih
   | false=>cases q a <;> simp <;> omega
theorem zae {ks:List (List Int)}{x y:List Int}(hx:x∈ks):(vC ks x<vC ks y)↔xF x y=true:=by
 unfold vC
 constructor
 ·intro h
  cases e:xF x y with
  | true=>rfl
  | false =>
   have:=List.countP_mono_left (l:=ks) (p:=λz=>xF z y) (q:=λz=>xF z x) (λz _ hz=>by
    cases h3:xF z x with
    | true=>rfl
    | false=>rw[zbe e h3]at hz;cases hz)
   omega
 ·intro h
  have:=Xj (l:=ks) (p:=λz=>xF z x) (q:=λz=>xF z y) (λz hz=>jI hz h) ⟨x,hx,Qp x,h⟩
  omega
end L2
end
section
set_option maxHeartbeats 4000000
set_option Elab.async false
set_option linter.all false
set_option maxRecDepth 100000
namespace L2
open PySem PySem.W PyProof.Rows
section
variable {prog:Program}{w:World}{A:Around}{E:Value->Shared->Prop}{s:Shared}
theorem zbx {f:Bool}{a b:Int}{t u:Tok}{Q:Bool->Shared->Prop}(h:Q (decide (a<b)) s):wpAny (model prog w) A (oneLt' f (.int a t) (.int b u)) Q E s:=by
 cases f with
 | true=>exact oneLt_int h
 | false=>exact kat_one _ _ (wpAny_lt_int (Q:=W.BoolBack Q) h)
theorem zbf {Q:Bool->Shared->Prop}{b fin:Bool}{xs:List Value}{ns:List Int}(hx:IntsAre xs ns):∀{ys:List Value}{ms:List Int}(i:Nat),IntsAre ys ms->fin=decide (ns.length<ms.length)->Q (xF ns ms) s->KatLex prog w A b fin Q (xs.zip ys) i s:=by
 induction hx with
 | nil =>
  intro ys ms i hy hf h
  cases hy with
  | nil=>subst hf;exact kat_nil h
  | cons m u _=>subst hf;exact kat_nil (by simpa [xF]using h)
 | cons n t hx ih =>
  intro ys ms i hy hf h
  cases hy with
  | nil=>subst hf;exact kat_nil (by simpa [xF]using h)
  | @cons m u ys' ms' hy =>
   rw[List.zip_cons_cons]
   refine kat_cons (wpAny_eqBool_int ?_)
   rw[xF]at h
   by_cases e:n=m
   ·subst e
    rw[if_pos rfl]at h
    rw[beq_self_eq_true]
    exact kat_yes (ih (i+1) hy (by rw[hf];simp) h)
   ·rw[if_neg e]at h
    rw[beq_eq_false_iff_ne.mpr e]
    exact kat_no (zbx h)
def zdP (h:Heap) (v:Value) (k:List Int):Prop:=∃a o xs n,v = .ref a/\h.get? a=some o/\o.cls = .type "tuple"/\o.data = .seq xs n/\IntsAre xs.toList k/\k≠[]
inductive qQ (h:Heap):List Value->List (List Int)->Prop
 | nil:qQ h [] []
 | cons {v:Value}{k:List Int}{vs:List Value}{ks:List (List Int)} (a:zdP h v k) (t:qQ h vs ks):qQ h (v::vs) (k::ks)
theorem qQ.len {h:Heap}{vs:List Value}{ks:List (List Int)} (t:qQ h vs ks):vs.length=ks.length:=by
 induction t with
 | nil=>rfl
 | cons a t ih=>simp[ih]
theorem qQ.get {h:Heap}{vs:List Value}{ks:List (List Int)} (t:qQ h vs ks):∀{i:Nat},i<vs.length->zdP h (vs.getD i .none) (ks.getD i []):=by
 induction t with
 | nil=>intro i hi;simp at hi
 | cons a t ih =>
  intro i hi
  cases i with
  | zero=>exact a
  | succ i=>simpa using ih (by simpa using hi)
theorem qQ.keep {h h':Heap}{vs:List Value}{ks:List (List Int)} (t:qQ h vs ks) (k:∀v∈vs,∀a o,v = .ref a->h.get? a=some o->h'.get? a=some o):qQ h' vs ks:=by
 induction t with
 | nil=>exact .nil
 | @cons v q vs ks a t ih =>
  obtain⟨a,o,xs,n,rfl,ho,r⟩:=a
  exact .cons ⟨a,o,xs,n,rfl,k _ (.head _) a o rfl ho,r⟩ (ih λv m=>k v (.tail _ m))
theorem qQ.firsts {h:Heap}{vs:List Value}{ks:List (List Int)} (t:qQ h vs ks):∃fs,KatTups h vs fs/\fs.length=vs.length/\∀f∈fs,∃n u,f=Value.int n u:=by
 induction t with
 | nil=>exact⟨[],KatTups.nil,rfl,λ_ m=>by simp at m⟩
 | @cons v q vs ks a t ih =>
  obtain⟨fs,k1,k2,k3⟩:=ih
  obtain⟨a,o,xs,n,rfl,ho,hc,hd,hi,hne⟩:=a
  obtain⟨l,rfl⟩:∃l:List Value,xs=l.toArray:=⟨xs.toList,by simp⟩
  cases q with
  | nil=>exact absurd rfl hne
  | cons z q =>
   have hi':IntsAre l (z::q):=by simpa using hi
   cases hi' with
   | cons _ u hi''=>exact⟨_::fs,KatTups.cons ho hc hd (by simp;rfl) k1,by simp[k2],λf m=>by
     rcases List.mem_cons.mp m with rfl | m
     ·exact⟨_,_,rfl⟩
     ·exact k3 f m⟩
def Xa (vs:List Value) (ks:List (List Int)) (out:List Value):Prop:=∃ps:List (List Int×Value),ps.Perm (ks.zip vs)/\out=ps.map Prod.snd/\ps.Pairwise λa b=>xF b.1 a.1=false
theorem zat {n:Nat}{vs:List Value}{ks:List (List Int)} (hv:vs.length=n) (hk:ks.length=n) (h2:2<=n) (h64:n<64) (prog:Program) (w:World) (s:Shared){lt:Nat->Nat->Bool}(hlt:∀i j,lt i j=decide (vC ks (ks.getD i [])<vC ks (ks.getD j []))) :
  Xa vs ks ((Qz lt (kas_sort n)).toList.map λi=>vs.getD i Value.none):=by
 have elt:lt=λi j=>decide (vC ks (ks.getD i [])<vC ks (ks.getD j [])):=by funext i j;exact hlt i j
 obtain⟨hp,hs⟩:=Vd prog w s h2 h64 (λi=>vC ks (ks.getD i [])) _ rfl
 rw[<-elt]at hp hs
 refine⟨(Qz lt (kas_sort n)).toList.map λi=>(ks.getD i [],vs.getD i Value.none),?_,by simp,?_⟩
 ·have e:(List.range n).map (λi=>(ks.getD i [],vs.getD i Value.none))=ks.zip vs:=by
   refine List.ext_getElem (by simp[hv,hk]) λi h1 h2=>?_
   have hi:i<n:=by simpa using h1
   simp[hv,hk,hi]
  rw[<-e]
  exact hp.map _
 ·rw[List.pairwise_map]at hs ⊢
  refine List.Pairwise.imp_of_mem (λ{a b} ma mb q=>?_) hs
  have hb:b<n:=by simpa using hp.mem_iff.mp mb
  show xF (ks.getD b []) (ks.getD a [])=false
  cases e:xF (ks.getD b []) (ks.getD a [])with
  | false=>rfl
  | true =>
   have hm:ks.getD b []∈ks:=by
    have:b<ks.length:=by omega
    simp[this]
   have:=(zae hm).mpr e
   omega
theorem zbg {a:Addr}{vs:List Value}{ks:List (List Int)}{n:Nat}{P:PySem.Fin->Shared->Prop}(ho:s.heap.get? a=some (seqObj "list" vs.toArray n)) (hT:qQ s.heap vs ks) (hna:∀v∈vs,v≠.ref a) (h64:vs.length<64)
  (h:∀h' out c,(∀b o,b≠a->s.heap.get? b=some o->h'.get? b=some o)->h'.get? a=some (seqObj "list" (List.toArray out) c)->Xa vs ks out->P (.done (.ret .none)) { s with heap:=h' }) :
  wpAny (model prog w) A (Builtin.«list.sort» ⟨[.ref a],[]⟩) P E s:=by
 have hlen:=hT.len
 have ha:a<s.heap.objs.size:=Heap.lt_size ho
 obtain⟨e1,ho1⟩:∃e1,(s.heap.update a (Obj.mapSeq λ_=>(#[]:Array Value))).get? a=some (seqObj "list" #[] e1):=⟨_,get?_update_seq ho λ_=>#[]⟩
 have kp:∀b o,b≠a->s.heap.get? b=some o->(((s.heap.update a (Obj.mapSeq λ_=>(#[]:Array Value))).push (seqObj "tuple" vs.toArray 0)).push (seqObj "list" #[] 0)).get? b=some o:=λb o hb e =>
  Heap.get?_push_of_some _ (Heap.get?_push_of_some _ (((Heap.SameBut.update s.heap a _).2 b hb).trans e))
 have ho6:(((s.heap.update a (Obj.mapSeq λ_=>(#[]:Array Value))).push (seqObj "tuple" vs.toArray 0)).push (seqObj "list" #[] 0)).get? a=some (seqObj "list" #[] e1):=Heap.get?_push_of_some _ (Heap.get?_push_of_some _ ho1)
 have hT6:qQ (((s.heap.update a (Obj.mapSeq λ_=>(#[]:Array Value))).push (seqObj "tuple" vs.toArray 0)).push (seqObj "list" #[] 0)) vs ks:=hT.keep λv m b o e q=>kp b o (λz=>hna v m (by rw[e,z])) q
 rw[list_sort_plain]
 refine wpAny_bind (listItems_at ho rfl (wpAny_bind (listUpdate_at ho rfl (wpAny_bind (seqEpoch_at ho1 rfl (wpAny_bind (wpAny_newTuple (wpAny_bind (wpAny_newList (wpAny_holding ?_) (Nat.zero_le _))) (by show vs.length<=_;rw[sizeLine_eq];omega))))) (by rw[List.size_toArray,sizeLine_eq];omega) (Nat.zero_le _))))
 show wpAny (model prog w) A _ P E { s with heap:=((s.heap.update a (Obj.mapSeq λ_=>(#[]:Array Value))).push (seqObj "tuple" vs.toArray 0)).push (seqObj "list" #[] 0) }
 dsimp only
 have fin:∀(out:List Value) (c:Nat),out.length=vs.length->Xa vs ks out->(((((s.heap.update a (Obj.mapSeq λ_=>(#[]:Array Value))).push (seqObj "tuple" vs.toArray 0)).push (seqObj "list" #[] 0)).update a (Obj.mapSeq λ_=>List.toArray out)).get? a=some (seqObj "list" (List.toArray out) c)) →
   P (.done (.ret .none)) { s with heap:=(((s.heap.update a (Obj.mapSeq λ_=>(#[]:Array Value))).push (seqObj "tuple" vs.toArray 0)).push (seqObj "list" #[] 0)).update a (Obj.mapSeq λ_=>List.toArray out) }:=λout c _ hz hc =>
  h _ out c (λb o hb e=>((Heap.SameBut.update _ a _).2 b hb).trans (kp b o hb e)) hc hz
 by_cases h2:vs.toArray.size<2
 ·rw[if_pos h2,if_pos h2]
  refine wpAny_bind (wpAny_pure ?_)
  rw[StateT.run_pure]
  refine wpAny_bind (wpAny_pure ?_)
  have eo:(arrOf (SortSt.mk' general' (vs.toArray.zip vs.toArray) #[] 7 none)).map (·.2)=List.toArray vs:=by
   show (vs.toArray.zip vs.toArray).map (·.2)=_
   apply Array.toList_inj.mp
   simp[List.map_snd_zip]
  dsimp only
  refine wpAny_bind (seqEpoch_at ho6 rfl (wpAny_bind (listUpdate_at ho6 rfl ?_ (Nat.zero_le _) (by rw[eo,List.size_toArray,sizeLine_eq];omega))))
  simp only[bne_self_eq_false,Bool.false_eq_true,if_false]
  rw[eo]
  refine wpAny_pure (fin vs _ rfl ⟨ks.zip vs,.refl _,by rw[List.map_snd_zip];omega,?_⟩ (get?_update_seq ho6 _))
  rw[List.size_toArray]at h2
  match ks,vs,hlen,h2 with
  | [],[],_,_=>exact .nil
  | [k],[v],_,_=>exact List.pairwise_singleton _ _
  | _::_::_,_::_::_,_,h2=>simp at h2;omega
 ·rw[if_neg h2,if_neg h2]
  rw[List.size_toArray]at h2
  obtain⟨fs,k1,k2,k3⟩:=hT6.firsts
  refine wpAny_bind (kat_kind (T:=.type "int") k1 (by omega) (λv m=>?_) (by rfl) ?_)
  ·obtain⟨z,u,rfl⟩:=k3 v m
   exact Looks.of_pure rfl
  have hlt:∀i j,decide (vC ks (ks.getD i [])<vC ks (ks.getD j []))=decide (vC ks (ks.getD i [])<vC ks (ks.getD j [])):=λ_ _=>rfl
  have so:=zat (n:=vs.length) (ks:=ks) rfl hlen.symm (by omega) h64 prog w s (lt:=λi j=>decide (vC ks (ks.getD i [])<vC ks (ks.getD j []))) hlt
  have tk:=QE (n:=vs.length) (by omega)
  refine wpAny_bind (wpAny_mono (kat_run (ks:=vs) (vs:=vs) (κ:=tuples' (Value.type "int" != Value.type "tuple")) (Q:=λst' s'=>s' = { s with heap:=((s.heap.update a (Obj.mapSeq λ_=>(#[]:Array Value))).push (seqObj "tuple" vs.toArray 0)).push (seqObj "list" #[] 0) }/\failedOf st'=none/\∃p:Array Nat,p.size=vs.length/\arrOf st'=p.map (kas_item (vs.toArray.zip vs.toArray))/\p=Qz (λi j=>decide (vC ks (ks.getD i [])<vC ks (ks.getD j []))) (kas_sort vs.length))
   (G:=λp s'=>s' = { s with heap:=((s.heap.update a (Obj.mapSeq λ_=>(#[]:Array Value))).push (seqObj "tuple" vs.toArray 0)).push (seqObj "list" #[] 0) }/\p=Qz (λi j=>decide (vC ks (ks.getD i [])<vC ks (ks.getD j []))) (kas_sort vs.length)) rfl (by omega) h64 (λp st' s' a1 a2 a3 a4=>⟨a4.1,a3,p,a1,a2,a4.2⟩)
   (TOk.wp (n:=vs.length) (lt:=λi j=>decide (vC ks (ks.getD i [])<vC ks (ks.getD j []))) (λi j C hi hj hC=>?_) _ tk ⟨rfl,rfl⟩)) ?_ λ_ _ e=>e)
  ·unfold kas_ask
   obtain⟨x,ox,xs,nx,ex,hx,_,dx,ix,_⟩:=hT6.get hi
   obtain⟨y,oy,ys,ny,ey,hy,_,dy,iy,_⟩:=hT6.get hj
   rw[ex,ey]
   have hm:ks.getD i []∈ks:=by
    have:i<ks.length:=by omega
    simp[this]
   refine kat_lt hx dx hy dy (zbf ix 0 iy ?_ ?_)
   ·rw[<-ix.length,<-iy.length];simp
   ·have e:xF (ks.getD i []) (ks.getD j [])=decide (vC ks (ks.getD i [])<vC ks (ks.getD j [])):=by
     cases q:xF (ks.getD i []) (ks.getD j [])with
     | true=>exact(decide_eq_true ((zae hm).mpr q)).symm
     | false=>exact(decide_eq_false λz=>by rw[(zae hm).mp z]at q;cases q).symm
    rw[e];exact hC
  ·rintro ⟨⟨⟩,st'⟩ s' ⟨es,hf,p,hp,har,ep⟩
   dsimp only at es hf har
   subst es
   have eo:=kat_snds (ks:=vs) (vs:=vs) rfl har
   dsimp only
   have ln:(p.toList.map λi=>vs.getD i Value.none).length=vs.length:=by simp[hp]
   refine wpAny_bind (seqEpoch_at ho6 rfl (wpAny_bind (listUpdate_at ho6 rfl ?_ (Nat.zero_le _) (by rw[eo,List.size_toArray,ln,sizeLine_eq];omega))))
   rw[hf]
   simp only[bne_self_eq_false,Bool.false_eq_true,if_false]
   rw[eo]
   rw[<-ep]at so
   exact wpAny_pure (fin _ _ ln so (get?_update_seq ho6 _))
end
end L2
end
section
set_option maxHeartbeats 4000000
set_option Elab.async false
set_option linter.all false
set_option maxRecDepth 100000
namespace L2
open PySem PySem.W PyProof.Rows
section
variable {prog:Program}{w:World}{A:Around}{E:Value->Shared->Prop}{s:Shared}{it d v:Addr}{i ep:Nat}{es:Array DictEntry}
theorem Jb {x:Addr}{vs:List Value}{ks:List (List Int)}{Q:Value->Shared->Prop}(hT:qQ s.heap vs ks) (h64:vs.length<64)
  (hcol:∀R:List Value->Shared->Prop,(∀(h1:Heap) (tk:Nat),(∀b o,s.heap.get? b=some o->h1.get? b=some o)->R vs { s with heap:=h1,toks:=tk })->wpAny (model prog w) A.in1 (collect (.ref x)) R E s)
  (h:∀(h1 h':Heap) (tk:Nat) (out:List Value) (c:Nat),(∀b o,s.heap.get? b=some o->h1.get? b=some o)->(∀b o,h1.get? b=some o->h'.get? b=some o)->h'.get? h1.objs.size=some (seqObj "list" (List.toArray out) c)->Xa vs ks out->Q (.ref h1.objs.size) { s with heap:=h',toks:=tk }) :
  wpAny (model prog w) A (call (.builtin "sorted") [.ref x]) Q E s:=by
 refine Calls.call_function_entry kind_sorted plain_sorted entry_sorted (args_sorted1 _) ?_
 unfold Builtin.«sorted»
 refine wpAny_bind (m:=checkCount "sorted" 1 1 _) (wpAny_pure (wpAny_bind (hcol _ λh1 tk k1=>wpAny_bind (wpAny_newList ?_ (by rw[sizeLine_eq];omega)))))
 have hoL:(h1.push (seqObj "list" vs.toArray 0)).get? h1.objs.size=some (seqObj "list" vs.toArray 0):=Heap.get?_push_size _ rfl
 have kk:∀b o,s.heap.get? b=some o->(h1.push (seqObj "list" vs.toArray 0)).get? b=some o:=λb o e=>Heap.get?_push_of_some _ (k1 b o e)
 show wpAny _ _ _ _ _ { s with heap:=h1.push (seqObj "list" vs.toArray 0),toks:=tk }
 refine wpAny_bind (wpAny_holding (wpAny_call_entry slot_list_sort ⟨_,hoL,rfl⟩ entry_list_sort (zbg (s:={ s with heap:=h1.push (seqObj "list" vs.toArray 0),toks:=tk }) (ks:=ks) hoL (hT.keep λv m b o _ q=>kk b o q) (λv m z=>?_) h64 λh' out c k2 k3 k4=>⟨_,rfl,?_⟩) (args_list_sort _)))
 ·subst z
  have lt:∀{vs:List Value}{ks:List (List Int)},qQ s.heap vs ks->Value.ref h1.objs.size∈vs->h1.objs.size<h1.objs.size:=λt=>by
   induction t with
   | nil=>intro m;simp at m
   | cons a t ih =>
    intro m
    rcases List.mem_cons.mp m with e | m
    ·obtain⟨b,o,xs,n,rfl,ho,_⟩:=a
     cases e
     exact Heap.lt_size (k1 _ _ ho)
    ·exact ih m
  exact Nat.lt_irrefl _ (lt hT m)
 ·exact wpAny_pure ⟨_,rfl,h h1 h' tk out c k1 (λb o e=>k2 b o (Nat.ne_of_lt (Heap.lt_size e)) (Heap.get?_push_of_some _ e)) k3 k4⟩
end
end L2
end
section
set_option maxHeartbeats 4000000
set_option Elab.async false
set_option linter.all false
set_option maxRecDepth 100000
namespace L2
open PySem PySem.Spec PyProof.Rows
inductive qp (H:Hp):List V->List (List Int)->Prop
 | nil:qp H [] []
 | cons {a:Addr}{k:List Int}{xs:List V}{ks:List (List Int)} (e:H a=some (.tup (k.map V.int))) (ne:k≠[]) (t:qp H xs ks):qp H (.ref a::xs) (k::ks)
theorem qp.len {H:Hp}{xs:List V}{ks:List (List Int)} (t:qp H xs ks):xs.length=ks.length:=by
 induction t with
 | nil=>rfl
 | cons e ne t ih=>simp[ih]
theorem qp.same {H H':Hp}{xs:List V}{ks:List (List Int)} (t:qp H xs ks) (h:∀b o,H b=some o->H' b=some o):qp H' xs ks:=by
 induction t with
 | nil=>exact .nil
 | cons e ne t ih=>exact .cons (h _ _ e) ne ih
theorem qp.vals {P:Program}{w:World}{H:Hp}{h:Heap}{xs:List V}{ks:List (List Int)} (ok:HOk P w H h) (t:qp H xs ks):∀{its:List Value},zS xs its->qQ h its ks:=by
 induction t with
 | nil=>intro its r;cases r;exact .nil
 | @cons a k xs ks e ne t ih =>
  intro its r
  cases r with
  | cons ru rs =>
   cases ru
   obtain⟨_,ys,rv,o,ho,hc,n,hd⟩:=(show xU P w H h a (.tup (k.map V.int))from ok a _ e)
   exact .cons ⟨a,o,_,n,rfl,ho,hc,hd,by simpa using QT rv,ne⟩ (ih rs)
def ZC (xs:List V) (ks:List (List Int)) (ys:List V):Prop:=∃ps:List (List Int×V),ps.Perm (ks.zip xs)/\ys=ps.map Prod.snd/\ps.Pairwise λa b=>xF b.1 a.1=false
inductive Zq:List (List Int×V)->List (List Int×Value)->Prop where
 | nil:Zq [] []
 | cons {k:List Int}{v:V}{u:Value}{l:List (List Int×V)}{m:List (List Int×Value)} (r:xj v u) (t:Zq l m):Zq ((k,v)::l) ((k,u)::m)
theorem zaM:∀{kz:List (List Int)}{xs:List V}{vs:List Value},zS xs vs->Zq (kz.zip xs) (kz.zip vs)
 | [],_,_,_=>by simp;exact .nil
 | _::_,_,_,.nil=>by simp;exact .nil
 | k::kz,_,_,.cons r t=>by rw[List.zip_cons_cons,List.zip_cons_cons];exact .cons r (zaM t)
theorem zb3 {l1 l2:List (List Int×Value)} (p:l1.Perm l2):∀{m2:List (List Int×V)},Zq m2 l2->∃m1,m1.Perm m2/\Zq m1 l1:=by
 induction p with
 | nil=>intro m2 h;cases h;exact⟨[],.refl _,.nil⟩
 | cons x p ih=>intro m2 h;cases h with | cons r t=>obtain⟨m1,a,b⟩:=ih t;exact⟨_,a.cons _,.cons r b⟩
 | swap x y l=>intro m2 h;cases h with | cons r t=>cases t with | cons r' t'=>exact⟨_,List.Perm.swap ..,.cons r' (.cons r t')⟩
 | trans p1 p2 ih1 ih2=>intro m2 h;obtain⟨m1,a,b⟩:=ih2 h;obtain⟨m0,c,d⟩:=ih1 b;exact⟨m0,c.trans a,d⟩
theorem zdM {m:List (List Int×V)}{l:List (List Int×Value)} (h:Zq m l):m.map Prod.fst=l.map Prod.fst:=by
 induction h with
 | nil=>rfl
 | cons r t ih=>simp[ih]
theorem zdN {m:List (List Int×V)}{l:List (List Int×Value)} (h:Zq m l):zS (m.map Prod.snd) (l.map Prod.snd):=by
 induction h with
 | nil=>exact .nil
 | cons r t ih=>exact .cons r ih
theorem Jk {xs:List V}{ks:List (List Int)}{its out:List Value}(rv:zS xs its) (z:Xa its ks out):∃ys,ZC xs ks ys/\zS ys out:=by
 obtain⟨ps,hp,ho,hw⟩:=z
 obtain⟨ms,hm,hz⟩:=zb3 hp (zaM rv)
 have hw':(ps.map Prod.fst).Pairwise λa b=>xF b a=false:=List.pairwise_map.mpr hw
 rw[<-zdM hz]at hw'
 exact⟨ms.map Prod.snd,⟨ms,hm,rfl,List.pairwise_map.mp hw'⟩,ho ▸ zdN hz⟩
theorem ZC.len {xs:List V}{ks:List (List Int)}{ys:List V}(h:ZC xs ks ys) (e:xs.length=ks.length):ys.length=xs.length:=by
 obtain⟨ps,hp,rfl,_⟩:=h
 rw[List.length_map,hp.length_eq,List.length_zip]
 omega
theorem ZC.tups {H:Hp}{xs:List V}{ks:List (List Int)}{ys:List V}(t:qp H xs ks) (h:ZC xs ks ys):∃js:List (List Int),qp H ys js/\js.Perm ks/\js.Pairwise λa b=>xF b a=false:=by
 obtain⟨ps,hp,rfl,hw⟩:=h
 have all:∀{xs:List V}{ks:List (List Int)},qp H xs ks->∀p∈ks.zip xs,p.1≠[]/\∃a,p.2 = .ref a/\H a=some (.tup (p.1.map V.int)):=λt=>by
  induction t with
  | nil=>intro p m;simp at m
  | cons e ne t ih =>
   intro p m
   rw[List.zip_cons_cons]at m
   rcases List.mem_cons.mp m with rfl | m
   ·exact⟨ne,_,rfl,e⟩
   ·exact ih p m
 have mk:∀{ps:List (List Int×V)},(∀p∈ps,p.1≠[]/\∃a,p.2 = .ref a/\H a=some (.tup (p.1.map V.int)))->qp H (ps.map Prod.snd) (ps.map Prod.fst):=λ{ps}=>by
  induction ps with
  | nil=>intro _;exact .nil
  | cons p ps ih =>
   intro h
   obtain⟨ne,a,e1,e2⟩:=h p (.head _)
   obtain⟨k,v⟩:=p
   cases e1
   exact .cons e2 ne (ih λq m=>h q (.tail _ m))
 refine⟨ps.map Prod.fst,mk λp m=>all t p (hp.mem_iff.mp m),?_,List.pairwise_map.mpr hw⟩
 have e:=hp.map Prod.fst
 rw[List.map_fst_zip (by have:=t.len;omega)]at e
 exact e
section
variable {X:Cx}{pins:List (Addr×Obj)}{σ:St}{H:Hp}{s:Shared}
theorem Ve {xs:List V}{ks:List (List Int)}{its out:List Value}{h1 h':Heap}{tk c:Nat}{Q:VK}(I:Inv X pins σ H s) (t:qp H xs ks) (rv:zS xs its) (h64:xs.length<64) (k1:∀b o,s.heap.get? b=some o->h1.get? b=some o) (k2:∀b o,h1.get? b=some o->h'.get? b=some o)
  (hD:h'.get? h1.objs.size=some (seqObj "list" (List.toArray out) c)) (z:Xa its ks out) (q:∀D ys,H D=none->ZC xs ks ys->Q (.ref D) (upd H D (.lst ys))):EP X pins σ Q (.ref h1.objs.size) { s with heap:=h',toks:=tk }:=by
 obtain⟨ys,hy,hv⟩:=Jk rv z
 have J:=I.kept (t':=tk) k1
 refine⟨.ref h1.objs.size,_,J.laid (t':=tk) (o:=.lst ys) k2 (Nat.le_refl _) ⟨?_,out,c,hv,hD⟩,rfl,q _ ys (J.hok.fresh (Nat.le_refl _)) hy⟩
 rw[hy.len t.len,sizeLine_eq];omega
theorem QL:jb X (.builtin "sorted") (λvs H Q=>∃(p:Addr) (xs:List V) (ks:List (List Int)),vs=[.ref p]/\SqL X.K H p xs/\qp H xs ks/\xs.length<64/\∀D ys,H D=none->ZC xs ks ys->Q (.ref D) (upd H D (.lst ys))):=by
 intro pins s σ H vs us Q I r h
 obtain⟨p,xs,ks,rfl,hq,ht,h64,q⟩:=h
 obtain⟨u,rfl,ru⟩:=ZW r
 cases ru
 obtain⟨its,rv,pl,hz⟩:=I.list hq
 have hl:=rv.length
 refine Jb (vs:=its) (ks:=ks) (ht.vals I.hok rv) (by omega) (λR hR=>collect_list pl.isList (hR _ s.toks λb o e=>?_) (by omega)) λh1 h' tk out c k1 k2 hD z=>Ve I ht rv h64 k1 k2 hD z q
 have hlt:b<s.heap.objs.size:=Heap.lt_size e
 rw[Heap.get?_update_ne _ _ _ _ (Nat.ne_of_lt hlt),Heap.get?_push_ne _ _ _ (Nat.ne_of_lt hlt)]
 exact e
end
end L2
end
set_option Elab.async false
set_option linter.all false
set_option maxRecDepth 100000
namespace L2
open PySem PySem.Spec PyProof.Rows
end L2
section
set_option maxHeartbeats 8000000
set_option Elab.async false
set_option linter.all false
set_option maxRecDepth 100000
namespace L2
open PySem PySem.Spec PyProof.Rows
end L2
end
section
set_option maxHeartbeats 8000000
set_option Elab.async false
set_option linter.all false
set_option maxRecDepth 100000
namespace L2
open PySem PySem.Spec PyProof.Rows
open MeetsSeq MeetsSeq2 MeetsSeq3 SeqRoads2 SeqAt AutoSeq1
section
variable {X:Cx}
def PrL (H:Hp) (xs:List V) (ps:List (Int×Int)):Prop:=xs.length=ps.length/\∀(i:Nat) (v:V),xs[i]? = some v->∃u a,ps[i]? = some u/\v = .ref a/\H a=some (.tup [.int u.1,.int u.2])
theorem PrL.tail {H:Hp}{x:V}{xs:List V}{p:Int×Int}{ps:List (Int×Int)} (h:PrL H (x::xs) (p::ps)):PrL H xs ps:=⟨by simpa using h.1,λi v e=>by simpa using h.2 (i+1) v (by simpa using e)⟩
theorem PrL.head {H:Hp}{x:V}{xs:List V}{p:Int×Int}{ps:List (Int×Int)} (h:PrL H (x::xs) (p::ps)):∃a,x = .ref a/\H a=some (.tup [.int p.1,.int p.2]):=by
 obtain⟨u,a,e,e1,e2⟩:=h.2 0 x rfl
 cases e;exact⟨a,e1,e2⟩
def isP (H:Hp) (p:Int×Int):Value->Bool
 | .ref a=>match H a with
  | some (.tup [.int n,.int m])=>decide (n=p.1/\m=p.2)
  | _=>false
 | _=>false
theorem Xk {H:Hp}{p:Int×Int}:∀{xs:List V}{its:List Value}{ps:List (Int×Int)},zS xs its->PrL H xs ps->its.countP (isP H p)=ps.countP λu=>decide (u.1=p.1/\u.2=p.2)
 | [],its,ps,r,h=>by
  cases r
  have:=h.1
  cases ps with
  | nil=>rfl
  | cons _ _=>simp at this
 | x::xs,its,ps,r,h=>by
  cases r with
  | cons rx rs =>
   cases ps with
   | nil=>have:=h.1;simp at this
   | cons u ps =>
    obtain⟨a,rfl,ha⟩:=h.head
    cases rx
    rw[List.countP_cons,List.countP_cons,Xk rs h.tail]
    congr 1
    show (if(match H a with | some (.tup [.int n,.int m])=>decide (n=p.1/\m=p.2) | _=>false)=true then 1 else 0)=_
    rw[ha]
def rCnt:V->List V->Hp->VK->Prop:=λx vs H Q=>∃(l q:Addr) (xs:List V) (ps:List (Int×Int)) (p:Int×Int),x = .ref l/\vs=[.ref q]/\H l=some (.lst xs)/\PrL H xs ps/\H q=some (.tup [.int p.1,.int p.2])/\Q (.int ((ps.countP λu=>decide (u.1=p.1/\u.2=p.2):Nat):Int)) H
theorem JZ (hu:X.A.units+64<cLine):MtR X "list.count" rCnt:=by
 intro pins s σ H x vs v us Q I rx rv h
 obtain⟨l,q,xs,ps,p,rfl,rfl,hl,hp,hq,k⟩:=h
 cases rx
 obtain⟨u,rfl,ru⟩:=rv.one
 cases ru
 obtain⟨z,its,n,r,hz,e⟩:=I.lstM hl
 obtain⟨bs,rb⟩:=(show RdD H (.ref q) (.tuple [.int p.1,.int p.2])from .tup hq (.cons (.int _) (.cons (.int _) .nil))).reads I rfl
 have key:∀y,y∈its.toArray->EqAt X.A.in1 s y (.ref q) (isP H p y):=λy hy=>by
  obtain⟨j,hj⟩:=List.mem_iff_getElem?.mp (show y∈its by simpa using hy)
  have hl:=r.length
  have hj':=(List.getElem?_eq_some_iff.mp hj).1
  obtain⟨xv,exv⟩:∃xv,xs[j]? = some xv:=⟨_,List.getElem?_eq_getElem (by omega)⟩
  obtain⟨uv,euv,ruv⟩:=r.get exv
  rw[hj]at euv;cases euv
  obtain⟨w,a,ew,rfl,ha⟩:=hp.2 j xv exv
  obtain⟨as,ra⟩:=(show RdD H (.ref a) (.tuple [.int w.1,.int w.2])from .tup ha (.cons (.int _) (.cons (.int _) .nil))).reads I ruv
  cases ruv
  have ee:isP H p (.ref a)=PyData.eqv (.tuple [.int w.1,.int w.2]) (.tuple [.int p.1,.int p.2]):=by
   show (match H a with | some (.tup [.int n,.int m])=>decide (n=p.1/\m=p.2) | _=>false)=_
   rw[ha]
   show decide (w.1=p.1/\w.2=p.2)=(decide (w.1=p.1)&&(decide (w.2=p.2)&&true))
   rw[Bool.and_true,Bool.decide_and]
  rw[ee]
  exact eqAt_reads _ _ _ _ _ _ _ _ ra rb rfl rfl (by show X.A.units+1+min 1 1<cLine;omega)
 refine call_meets F.slot_list_count ⟨_,e,rfl⟩ F.entry_list_count (F.args_list_count_2 _ _) (list_countAt l its.toArray n none #[] (.ref q) (isP H p)) ⟨e,key,?_⟩
 refine⟨.int _,H,I.tok _,⟨_,rfl⟩,?_⟩
 rw[show its.toArray.toList=its from rfl,Xk r hp]
 exact k
end
end L2
end
section
set_option maxHeartbeats 8000000
set_option Elab.async false
set_option linter.all false
set_option maxRecDepth 100000
namespace L2
open PySem PySem.Spec PyProof.Rows
section
variable {X:Cx}
theorem Xc:∀(bs:List Bool) (k:Nat),((List.range' k bs.length).any λi=>(bs[i - k]?).getD false)=bs.any id
 | [],k=>rfl
 | b::bs,k=>by
  rw[List.length_cons,List.range'_succ,List.any_cons,List.any_cons]
  simp only[Nat.sub_self,List.getElem?_cons_zero,Option.getD_some,id]
  congr 1
  rw[<-Xc bs (k+1)]
  apply Bool.eq_iff_iff.mpr
  simp only[List.any_eq_true,List.mem_range'_1]
  constructor
  ·rintro ⟨i,hi,h⟩
   refine⟨i,hi,?_⟩
   rw[show i - k=(i - (k+1))+1 by omega,List.getElem?_cons_succ]at h;exact h
  ·rintro ⟨i,hi,h⟩
   refine⟨i,hi,?_⟩
   rw[show i - k=(i - (k+1))+1 by omega,List.getElem?_cons_succ];exact h
theorem JB (hc:X.calm=true):jb X (.builtin "any") (λxs H Q=>∃(p:Addr) (bs:List Bool),xs=[.ref p]/\SqL X.K H p (bs.map V.bl)/\Q (.bl (bs.any id)) H):=by
 intro pins s σ H xs us Q I r h
 obtain⟨p,bs,rfl,hq,q⟩:=h
 obtain⟨u,rfl,ru⟩:=ZW r
 cases ru
 obtain⟨its,rv,pl,_⟩:=I.list hq
 have hlt:p<s.heap.objs.size:=by obtain⟨o,n,e,_⟩:=pl;exact Heap.lt_size e
 have hl:=rv.length
 rw[List.length_map]at hl
 refine call_any_walk (wpAny_pyIter_list pl.isList ⟨s.heap.objs.size,_,_,_,_,_,λi=>(bs[i]?).getD false,rfl,Walks.list (A:=X.A.in1) (show X.A.in1.handled=none from I.ok.hd hc) s.heap.objs.size p (Nat.ne_of_lt hlt) its.toArray,
  ⟨⟨_,Heap.get?_push_size _ rfl,rfl,rfl⟩,pl.isList.push _⟩,λi v s' Q' E' hv hQ'=>?_,λh' tk k=>⟨.bl (bs.any id),H,I.kept λb o e=>k b o (by simpa using Nat.ne_of_lt (Heap.lt_size e)) (Heap.get?_push_of_some _ e),?_,q⟩⟩)
 ·obtain⟨b,e1,rfl⟩:=Xw rv (by simpa using hv)
  simp only[e1,Option.getD_some]at hQ'
  exact wpAny_pure hQ'
 ·have:=Xc bs 0
  simp only[Nat.sub_zero]at this
  rw[show its.toArray.size=bs.length by simp[hl],List.range_eq_range',this];rfl
end
end L2
end
set_option Elab.async false
set_option linter.all false
set_option maxRecDepth 100000
namespace KK
open PySem L2
def top (i:Nat):Stmt:=PySem.Challenge.pw_clackrow_k41_beginnings_told.main.body.getD i (.Pass ⟨0,0,0,0⟩)
abbrev qD:Stmt:=top 7
abbrev qC:Stmt:=top 8
abbrev xg:Stmt:=top 9
abbrev qA:Stmt:=top 10
abbrev v9:Stmt:=top 11
abbrev jy:Stmt:=top 12
abbrev jz:Stmt:=top 13
abbrev Zf:Stmt:=top 14
abbrev Ze:Stmt:=top 15
abbrev vp:Stmt:=top 16
abbrev xk:Stmt:=top 19
abbrev xw:Stmt:=top 20
abbrev qN:Stmt:=top 21
abbrev qM:Stmt:=top 22
abbrev vg:Stmt:=top 25
abbrev xI:Stmt:=top 26
abbrev xH:Stmt:=top 27
abbrev xP:Stmt:=top 28
abbrev vf:Stmt:=top 29
abbrev qB:Stmt:=top 30
abbrev qz:Stmt:=top 32
abbrev xz:Stmt:=top 33
abbrev xy:Stmt:=top 34
abbrev xl:Stmt:=top 35
abbrev xi:Stmt:=top 36
abbrev vo:Stmt:=top 37
abbrev ve:Stmt:=top 38
abbrev vV:Stmt:=top 40
abbrev vT:Stmt:=top 41
abbrev xX:Stmt:=top 42
abbrev Zd:Stmt:=top 43
abbrev qG:Stmt:=top 45
abbrev qI:Stmt:=top 46
abbrev qL:Stmt:=top 47
abbrev vk:Stmt:=top 48
abbrev vi:Stmt:=top 49
abbrev vm:Stmt:=top 50
abbrev vU:Stmt:=top 51
abbrev qJ:Stmt:=top 52
abbrev qj:Stmt:=top 53
abbrev qk:Stmt:=top 54
abbrev ql:Stmt:=top 55
abbrev qK:Stmt:=top 56
abbrev vn:Stmt:=top 57
abbrev qE:Stmt:=top 58
abbrev x3:Stmt:=top 59
abbrev qH:Stmt:=top 60
abbrev qa:Stmt:=top 61
abbrev vj:Stmt:=top 62
abbrev xY:Stmt:=top 63
abbrev xZ:Stmt:=top 64
abbrev qF:Stmt:=top 65
abbrev x4:Stmt:=top 66
abbrev s_law:Stmt:=top 67
abbrev xO:Stmt:=za9 (top 18) 0
end KK
set_option Elab.async false
set_option linter.all false
set_option maxRecDepth 100000
namespace KK
open PySem L2
structure TxB (K:PySem.W.Frag) (mg:Str->Option Value):Prop where
 ii:PySem.W.kitOne K (.type "int") (.type "int")=some true
 ib:PySem.W.kitOne K (.type "int") (.type "bool")=some false
 nIs:mg "isinstance" = none
 nInt:mg "int" = none
 nBool:mg "bool" = none
 nAbs:mg "abs" = none
 nLen:mg "len" = none
 nMax:mg "max" = none
 nMin:mg "min" = none
 nRange:mg "range" = none
 nTuple:mg "tuple" = none
 nSum:mg "sum" = none
section
variable {P:Program}{w:World}{K:PySem.W.Frag}{mg:Str->Option Value}{base:Heap}
def Zw:Sp:=λvs H Q _=>∃i,vs=[.int i]/\Q (.bl true) H
theorem zas:zD ["thing"] ["thing"] (zi qD):=⟨rfl,rfl,rfl,by decide +kernel,rfl,by decide +kernel,by decide +kernel⟩
theorem J9 (D:Df K mg "is_whole" qD ["thing"] []) (T:TxB K mg):Cal P w K mg base "is_whole" 1 ["thing"] [] Zw:=by
 refine D.cal (k:=0) zas (λvs H Q E h=>by obtain⟨i,rfl,_⟩:=h;rfl) (λf cdv A outer s H vs Q E hr h=>?_)
 obtain⟨i,rfl,k⟩:=h
 refine⟨_,zr (zF (qg
  (zL qi rfl T.nIs PyProof.Rows.boot_isinstance (zd (pv 0) (zd (ju (v:=.ty "int") (u:=.type "int") rfl T.nInt PyProof.Rows.boot_int rfl) zf)))
  (vw (Q7 (zL qi rfl T.nIs PyProof.Rows.boot_isinstance (zd (pv 0) (zd (ju (v:=.ty "bool") (u:=.type "bool") rfl T.nBool (by decide +kernel) rfl) zf))))))),?_⟩
 refine⟨_,rfl,_,_,_,true,rfl,.int i,T.ii,true,rfl,xD ?_⟩
 exact⟨_,rfl,_,_,_,false,rfl,.int i,T.ib,false,rfl,k⟩
def VE:Sp:=λvs H Q _=>∃a b:Int,vs=[.int a,.int b]/\0<=a/\0<=b/\Q (.int (Int.gcd a b:Nat)) H
theorem zak:zD ["one","other"] ["one","other"] (zi xg):=⟨rfl,rfl,rfl,by decide +kernel,rfl,by decide +kernel,by decide +kernel⟩
theorem zc6 (D:Df K mg "greatest_divisor" xg ["one","other"] []):Cal P w K mg base "greatest_divisor" 1 ["one","other"] [] VE:=by
 refine D.cal (k:=0) zak (λvs H Q E h=>by obtain⟨a,b,rfl,_⟩:=h;rfl) (λf cdv A outer s H vs Q E hr h=>?_)
 obtain⟨a,b,rfl,ha,hb,k⟩:=h
 refine⟨_,zj (Qu PassesOwn.never (zH Zn (pv 1) ze (zI _))
   (zr (Zc (i:=0) (j:=1) rfl zak.nd rfl rfl (by decide) rfl rfl (zd (pv 1) (zd (zw vv (pv 0) (pv 1)) zf)) (by rfl))))
  (zr (zF (pv 0))),?_⟩
 refine QG (λσ H1=>H1=H/\∃x y:Int,σ=[some (.int x),some (.int y)]/\0<=x/\0<=y/\Int.gcd x y=Int.gcd a b)
  (λσ _=>match σ with | [_,some (.int y)]=>y.toNat | _=>0) ⟨rfl,a,b,rfl,ha,hb,rfl⟩ ?_ ?_
 ·rintro σ H1 ⟨rfl,x,y,rfl,hx,hy,e⟩
  refine⟨_,rfl,_,_,rfl,rfl,_,rfl,qo (λh=>?_) (λh=>?_)⟩
  ·have h':0<y:=of_decide_eq_true h
   refine⟨_,rfl,_,rfl,_,rfl,_,_,rfl,rfl,h',_,_,rfl,⟨rfl,_,_,rfl,hy,Int.emod_nonneg _ (by omega),?_⟩,?_⟩
   ·rw[KM.Qo hx h'];exact e
   ·show (x % y).toNat<y.toNat
    have:=Int.emod_lt_of_pos x h'
    omega
  ·have h':¬ 0<y:=λz=>h (decide_eq_true z)
   have:y=0:=by omega
   subst this
   refine⟨_,rfl,?_⟩
   have e2:x=(Int.gcd a b:Nat):=by rw[<-e,Int.gcd_zero_right];omega
   rw[e2];exact k
 ·rintro σ H1 Q1 Q2 hq ⟨v,e,i,j,e1,e2,k1,e3,q⟩
  exact⟨v,e,i,j,e1,e2,k1,e3,hq _ _ q⟩
theorem ZT:zD ["top","bottom","divisor"] ["top","bottom"] (zi v9):=⟨rfl,rfl,rfl,by decide +kernel,rfl,by decide +kernel,by decide +kernel⟩
theorem vI (i:Int):(if i<0 then -i else i)=(i.natAbs:Int):=by split <;> omega
theorem Qs {dvs:List V}(D:Df K mg "ratio" v9 ["top","bottom"] dvs) (T:TxB K mg) (cW:Cal P w K mg base "is_whole" 1 ["thing"] [] Zw) (cG:Cal P w K mg base "greatest_divisor" 1 ["one","other"] [] VE) :
  Cal P w K mg base "ratio" 2 ["top","bottom"] dvs qd:=by
 refine D.cal (k:=1) ZT (λvs H Q E h=>by obtain⟨a,b,rfl,_⟩:=h;rfl) (λf cdv A outer s H vs Q E hr h=>?_)
 obtain⟨t,b,rfl,hb,hz,k⟩:=h
 refine⟨_,zj (xa (vS (qt (zT (zC cW hr (zd (pv 0) zf)) λ_=>rfl)) (vS (qt (zT (zC cW hr (zd (pv 1) zf)) λ_=>rfl)) (v8 (zH jc (pv 1) ze (zI _))))).pt vQ zO)
  (zj (zE (i:=2) ZT.nd rfl (Or.inl rfl) (zC cG hr (zd (zL vq rfl T.nAbs PyProof.Rows.boot_abs (zd (pv 0) zf)) (zd (zL vq rfl T.nAbs PyProof.Rows.boot_abs (zd (pv 1) zf)) zf))))
  (zj (xa (zH jF (pv 1) ze (zI _)) (zr (zE (i:=2) ZT.nd rfl (Or.inl rfl) (ZQ jL (pv 2)))) zO)
  (zr (zF (zU (zd (zw qr (pv 0) (pv 2)) (zd (zw qr (pv 1) (pv 2)) zf))))))),?_⟩
 refine⟨_,rfl,t,rfl,true,rfl,z7 ?_⟩
 refine⟨_,rfl,b,rfl,true,rfl,z7 ?_⟩
 refine⟨_,rfl,rfl,_,rfl,qo (λh=>absurd (of_decide_eq_true h) (by intro z;injection z with z;exact hb z)) (λ_=>?_)⟩
 refine⟨_,rfl,t,rfl,⟨_,rfl,b,rfl,⟨_,_,rfl,(by rw[vI];omega),(by rw[vI];omega),?_⟩⟩⟩
 have hd:=KM.zb8 (t:=t) hb
 have hdz:Bd 8900 (KM.dv t b):=hz.of_le (KM.zb7 hb)
 have fin:∀σ:St,σ=[some (.int t),some (.int b),some (.int (KM.dv t b))]->zaC (zaD (xr (tOp (rI Qi λi j=>V.int (i.fdiv j)) (z8 0) (z8 2)) (xr (tOp (rI Qi λi j=>V.int (i.fdiv j)) (z8 1) (z8 2)) jD))) { nx:=λ_ H'=>Q .non H',rt:=Q } σ H:=by
  rintro σ rfl
  refine⟨_,rfl,_,rfl,_,_,rfl,rfl,⟨hd,hdz⟩,_,rfl,_,rfl,_,_,rfl,rfl,⟨hd,hdz⟩,?_⟩
  refine⟨by show 2<=sizeLine;decide,λp hp=>k p _ (zt.upd hp) ?_⟩
  show upd H p _ p=_
  rw[zo]
  dsimp only
  rw[KM.QR hb,KM.JK hb];rfl
 have ge:(Int.gcd (if t<0 then -t else t) (if b<0 then -b else b):Nat)=Int.gcd t b:=by
  rw[vI,vI];simp[Int.gcd]
 refine⟨_,rfl,_,_,rfl,rfl,_,rfl,qo (λh=>?_) (λh=>?_)⟩
 ·have h':b<0:=of_decide_eq_true h
  refine⟨_,rfl,_,rfl,fin _ ?_⟩
  rw[ge];unfold KM.dv;rw[if_pos h'];rfl
 ·have h':¬b<0:=λz=>h (decide_eq_true z)
  refine fin _ ?_
  rw[ge];unfold KM.dv;rw[if_neg h'];rfl
end
end KK
set_option Elab.async false
set_option linter.all false
set_option maxRecDepth 100000
namespace KK
open PySem L2
section
variable {P:Program}{w:World}{K:PySem.W.Frag}{mg:Str->Option Value}{base:Heap}
theorem Bd4 {x:Rat}(h:Sz 4000 x):Bd 1000000 x.num/\Bd 1000000 (x.den:Int):=⟨h.1.mono (by decide),h.2.mono (by decide)⟩
section
variable {x y:Rat}{p q:Addr}{H:Hp}
theorem zbI {Q:VK}(hp:zv H p x) (hq:zv H q y) (hx:Sz 4000 x) (hy:Sz 4000 y) (k:∀r H',zt H H'->zv H' r (x+y)->Q (.ref r) H') :
  zaC (jq qd [] E0 (xr (tOp (rI0 λi j=>.int (i+j)) (tOp (rI Z9 λi j=>.int (i*j)) (tOp (vz K) (z8 0) (tC (.int 0))) (tOp (vz K) (z8 1) (tC (.int 1)))) (tOp (rI Z9 λi j=>.int (i*j)) (tOp (vz K) (z8 1) (tC (.int 0))) (tOp (vz K) (z8 0) (tC (.int 1)))))
   (xr (tOp (rI Z9 λi j=>.int (i*j)) (tOp (vz K) (z8 0) (tC (.int 1))) (tOp (vz K) (z8 1) (tC (.int 1)))) jD))) { nx:=λ_ H'=>Q .non H',rt:=Q } [some (.ref p),some (.ref q)] H:=by
 have bx:=Bd4 hx
 have b_y:=Bd4 hy
 refine⟨_,rfl,p,_,_,_,rfl,rfl,.of hp,at0 ..,_,rfl,q,_,_,_,rfl,rfl,.of hq,at1 ..,_,_,rfl,rfl,⟨bx.1,b_y.2⟩,?_⟩
 refine⟨_,rfl,q,_,_,_,rfl,rfl,.of hq,at0 ..,_,rfl,p,_,_,_,rfl,rfl,.of hp,at1 ..,_,_,rfl,rfl,⟨b_y.1,bx.2⟩,_,_,rfl,rfl,?_⟩
 refine⟨_,rfl,p,_,_,_,rfl,rfl,.of hp,at1 ..,_,rfl,q,_,_,_,rfl,rfl,.of hq,at1 ..,_,_,rfl,rfl,⟨bx.2,b_y.2⟩,?_⟩
 refine⟨_,_,rfl,Int.mul_ne_zero (KM.zR x) (KM.zR y),(hx.2.mul hy.2).mono (by decide),λr H' e h=>k r H' e ?_⟩
 rw[<-KM.XN];exact h
theorem Qw {Q:VK}(hp:zv H p x) (hq:zv H q y) (hx:Sz 4000 x) (hy:Sz 4000 y) (k:∀r H',zt H H'->zv H' r (x*y)->Q (.ref r) H') :
  zaC (jq qd [] E0 (xr (tOp (rI Z9 λi j=>.int (i*j)) (tOp (vz K) (z8 0) (tC (.int 0))) (tOp (vz K) (z8 1) (tC (.int 0))))
   (xr (tOp (rI Z9 λi j=>.int (i*j)) (tOp (vz K) (z8 0) (tC (.int 1))) (tOp (vz K) (z8 1) (tC (.int 1)))) jD))) { nx:=λ_ H'=>Q .non H',rt:=Q } [some (.ref p),some (.ref q)] H:=by
 have bx:=Bd4 hx
 have b_y:=Bd4 hy
 refine⟨_,rfl,p,_,_,_,rfl,rfl,.of hp,at0 ..,_,rfl,q,_,_,_,rfl,rfl,.of hq,at0 ..,_,_,rfl,rfl,⟨bx.1,b_y.1⟩,?_⟩
 refine⟨_,rfl,p,_,_,_,rfl,rfl,.of hp,at1 ..,_,rfl,q,_,_,_,rfl,rfl,.of hq,at1 ..,_,_,rfl,rfl,⟨bx.2,b_y.2⟩,?_⟩
 refine⟨_,_,rfl,Int.mul_ne_zero (KM.zR x) (KM.zR y),(hx.2.mul hy.2).mono (by decide),λr H' e h=>k r H' e ?_⟩
 rw[<-KM.ZV];exact h
end
theorem zar:zD ["one","other"] ["one","other"] (zi jz):=⟨rfl,rfl,rfl,by decide +kernel,rfl,by decide +kernel,by decide +kernel⟩
theorem J8 (D:Df K mg "times" jz ["one","other"] []) (c:Cal P w K mg base "ratio" 2 ["top","bottom"] [] qd):Cal P w K mg base "times" 3 ["one","other"] [] (xK Sz2 (· * ·)):=by
 refine D.cal (k:=2) zar (λvs H Q E h=>by obtain⟨_,_,_,_,rfl,_⟩:=h;rfl) (λf cdv A outer s H vs Q E hr h=>?_)
 obtain⟨p,q,x,y,rfl,hp,hq,⟨hx,hy⟩,k⟩:=h
 exact⟨_,zr (zF (zC c hr (zd (zw zJ (zn zm (pv 0) ze (λ_ _=>rfl)) (zn zm (pv 1) ze (λ_ _=>rfl)))
  (zd (zw zJ (zn zm (pv 0) ze (λ_ _=>rfl)) (zn zm (pv 1) ze (λ_ _=>rfl))) zf)))),Qw hp hq hx hy k⟩
theorem zbR:zD ["one","other"] ["one","other"] (zi Zf):=⟨rfl,rfl,rfl,by decide +kernel,rfl,by decide +kernel,by decide +kernel⟩
theorem zbv (D:Df K mg "over" Zf ["one","other"] []) (c:Cal P w K mg base "ratio" 2 ["top","bottom"] [] qd):Cal P w K mg base "over" 3 ["one","other"] [] (xK (λx y=>Sz2 x y/\y≠0) (· / ·)):=by
 refine D.cal (k:=2) zbR (λvs H Q E h=>by obtain⟨_,_,_,_,rfl,_⟩:=h;rfl) (λf cdv A outer s H vs Q E hr h=>?_)
 obtain⟨p,q,x,y,rfl,hp,hq,⟨⟨hx,hy⟩,hy0⟩,k⟩:=h
 have bx:=Bd4 hx
 have b_y:=Bd4 hy
 refine⟨_,zr (zF (zC c hr (zd (zw zJ (zn zm (pv 0) ze (λ_ _=>rfl)) (zn zm (pv 1) ze (λ_ _=>rfl)))
  (zd (zw zJ (zn zm (pv 0) ze (λ_ _=>rfl)) (zn zm (pv 1) ze (λ_ _=>rfl))) zf)))),?_⟩
 refine⟨_,rfl,p,_,_,_,rfl,rfl,.of hp,at0 ..,_,rfl,q,_,_,_,rfl,rfl,.of hq,at1 ..,_,_,rfl,rfl,⟨bx.1,b_y.2⟩,?_⟩
 refine⟨_,rfl,p,_,_,_,rfl,rfl,.of hp,at1 ..,_,rfl,q,_,_,_,rfl,rfl,.of hq,at0 ..,_,_,rfl,rfl,⟨bx.2,b_y.1⟩,?_⟩
 refine⟨_,_,rfl,Int.mul_ne_zero (KM.zR x) (λz=>hy0 (Rat.num_eq_zero.mp z)),(hx.2.mul hy.1).mono (by decide),λr H' e h=>k r H' e ?_⟩
 show zv H' r (x/y)
 rw[<-KM.jV];exact h
end
end KK
section
set_option maxHeartbeats 4000000
set_option Elab.async false
set_option linter.all false
set_option maxRecDepth 100000
namespace KK
open PySem L2
def je (H:Hp) (p:Addr):Prop:=∃a b c:Int,H p=some (.lst [.int a,.int b,.int c])
structure xJ (p:Addr) (H H':Hp):Prop where
 pool:je H' p
 keep:∀b o,H b=some o->b≠p->H' b=some o
theorem xJ.trans {p:Addr}{H H1 H2:Hp}(a:xJ p H H1) (b:xJ p H1 H2):xJ p H H2:=⟨b.pool,λc o e n=>b.keep c o (a.keep c o e n) n⟩
theorem xJ.same {p:Addr}{H H1 H2:Hp}(a:xJ p H H1) (b:zt H1 H2):xJ p H H2:=⟨by obtain⟨x,y,z,e⟩:=a.pool;exact⟨x,y,z,b _ _ e⟩,λc o e n=>b c o (a.keep c o e n)⟩
theorem xJ.pre {p:Addr}{H H1 H2:Hp}(b:xJ p H1 H2) (a:zt H H1):xJ p H H2:=⟨b.pool,λc o e n=>b.keep c o (a c o e) n⟩
theorem je.new {H:Hp}{p l:Addr}{o:HO}(h:je H p) (hl:H l=none):je (upd H l o) p:=by obtain⟨a,b,c,e⟩:=h;exact⟨a,b,c,zt.upd hl _ _ e⟩
theorem je.ne {H:Hp}{p l:Addr}(h:je H p) (hl:H l=none):l≠p:=by obtain⟨a,b,c,e⟩:=h;exact(zN e hl).symm
theorem xJ.refl {p:Addr}{H:Hp}(h:je H p):xJ p H H:=⟨h,λ_ _ e _=>e⟩
theorem xJ.tup {p a:Addr}{H H':Hp}{xs:List V}(s:xJ p H H') (hp:je H p) (h:H a=some (.tup xs)):H' a=some (.tup xs):=by
 obtain⟨_,_,_,e⟩:=hp
 exact s.keep a _ h (zdY h e (by intro z;cases z))
theorem xJ.rat {p a:Addr}{H H':Hp}{q:Rat}(s:xJ p H H') (hp:je H p) (h:zv H a q):zv H' a q:=s.tup hp h
section
variable {P:Program}{w:World}{K:PySem.W.Frag}{mg:Str->Option Value}{base:Heap}
def zco:Sp:=λvs H Q _=>∃c:Int,vs=[.int c]/\∀p H',H p=none->zt H H'->je H' p->Q (.ref p) H'
theorem zdu:zD ["cell"] ["cell"] (zi qG):=⟨rfl,rfl,rfl,by decide +kernel,rfl,by decide +kernel,by decide +kernel⟩
theorem zc5 (D:Df K mg "_law_left" qG ["cell"] []) (T:TxB K mg):Cal P w K mg base "_law_left" 1 ["cell"] [] zco:=by
 refine D.cal (k:=0) zdu (λvs H Q E h=>by obtain⟨a,rfl,_⟩:=h;rfl) (λf cdv A outer s H vs Q E hr h=>?_)
 obtain⟨c,rfl,k⟩:=h
 refine⟨_,zr (zF (qh (zd (zL (Xh rfl) (by rfl) T.nMax PyProof.Rows.boot_max (zd ze (zd (zw xW (pv 0) (zw v5 ze ze)) zf))) (zd (zw vv (pv 0) (zw v5 ze ze)) (zd ze zf))))),?_⟩
 refine⟨_,rfl,_,_,rfl,rfl,⟨by decide,by decide,by decide⟩,_,_,rfl,rfl,_,_,rfl,?_⟩
 refine⟨_,rfl,_,_,rfl,rfl,⟨by decide,by decide,by decide⟩,_,_,rfl,rfl,(by show (0:Int)<10^18;decide),(by show 3<=sizeLine;decide),λp hp=>?_⟩
 exact k p _ hp (zt.upd hp) ⟨_,_,_,zo⟩
def jK:Sp:=λvs H Q _=>∃(p:Addr) (n:Int),vs=[.ref p,.int n]/\0<n/\n<1073741824/\je H p/\∀(d:Int) H',0<=d->d<n->xJ p H H'->Q (.int d) H'
theorem Zv:zD ["pool","base","digit","mixed","stir"] ["pool","base"] (zi qI):=⟨rfl,rfl,rfl,by decide +kernel,rfl,by decide +kernel,by decide +kernel⟩
theorem QC {H:Hp}{p:Addr}{a b c:Int}:xJ p H (upd H p (.lst [.int a,.int b,.int c])):=⟨⟨a,b,c,zo⟩,λd o e n=>by rw[zK n];exact e⟩
theorem zbu (D:Df K mg "_law_next" qI ["pool","base"] []):Cal P w K mg base "_law_next" 1 ["pool","base"] [] jK:=by
 refine D.cal (k:=0) Zv (λvs H Q E h=>by obtain⟨a,b,rfl,_⟩:=h;rfl) (λf cdv A outer s H vs Q E hr h=>?_)
 obtain⟨p,n,rfl,n0,n1,⟨a,b,c,hp⟩,k⟩:=h
 refine⟨_,zj (xa (zH Zn (zn zV (pv 0) ze (λ_ _=>rfl)) ze (zI _))
   (zj (zE (i:=2) Zv.nd rfl (Or.inl rfl) (zw vv (zn zV (pv 0) ze (λ_ _=>rfl)) (pv 1)))
   (zj (jk (zw Vy (zn zV (pv 0) ze (λ_ _=>rfl)) (pv 1)) (ZR (pv 0) ze jp))
   (zr (zF (pv 2))))) zO)
  (zj (jk (zw xt (zn zV (pv 0) ze (λ_ _=>rfl)) ze) (ZR (pv 0) ze jp))
  (zj (zE (i:=3) Zv.nd rfl (Or.inl rfl) (zw vv (zw xt (zn zV (pv 0) ze (λ_ _=>rfl)) (zw Q6 ze (zn zV (pv 0) ze (λ_ _=>rfl)))) ze))
  (zj (zE (i:=4) Zv.nd rfl (Or.inl rfl) (zw vv (zw Q6 (zw xt (pv 3) ze) (zw xt (pv 3) ze)) ze))
  (zr (zF (zw vv (zw Vy (zw vv (zw Q6 (pv 4) (pv 4)) ze) ze) (pv 1))))))),?_⟩
 refine⟨_,rfl,p,_,_,_,rfl,rfl,.of hp,rfl,_,_,rfl,rfl,_,rfl,qo (λh=>?_) (λh=>?_)⟩
 ·refine⟨_,rfl,p,_,_,_,rfl,rfl,.of hp,rfl,_,rfl,_,_,rfl,rfl,n0,?_⟩
  refine⟨_,rfl,p,_,_,_,rfl,rfl,.of hp,rfl,_,rfl,_,_,rfl,rfl,⟨n0,n1⟩,?_⟩
  refine⟨_,rfl,p,_,_,0,rfl,rfl,hp,rfl,?_⟩
  exact⟨_,rfl,k _ _ (Int.emod_nonneg _ (by omega)) (Int.emod_lt_of_pos _ n0) QC⟩
 ·refine⟨_,rfl,p,_,_,_,rfl,rfl,.of hp,rfl,_,_,rfl,rfl,?_⟩
  refine⟨_,rfl,p,_,_,2,rfl,rfl,hp,rfl,?_⟩
  refine⟨_,rfl,p,_,_,_,rfl,rfl,.of zo,rfl,_,rfl,p,_,_,_,rfl,rfl,.of zo,rfl,_,_,rfl,rfl,.inl ⟨by decide,by decide⟩,_,_,rfl,rfl,_,_,rfl,rfl,(by show (0:Int)<1000000007;decide),?_⟩
  refine⟨_,rfl,_,_,rfl,rfl,_,rfl,_,_,rfl,rfl,_,_,rfl,rfl,.inl (by constructor <;> omega),_,_,rfl,rfl,(by show (0:Int)<998244353;decide),?_⟩
  refine⟨_,rfl,_,rfl,_,_,rfl,rfl,.inl (by constructor <;> omega),_,_,rfl,rfl,(by show (0:Int)<2147483647;decide),_,_,rfl,rfl,⟨by decide,by decide⟩,_,rfl,_,_,rfl,rfl,n0,?_⟩
  exact k _ _ (Int.emod_nonneg _ (by omega)) (Int.emod_lt_of_pos _ n0) QC
end
end KK
end
section
set_option maxHeartbeats 4000000
set_option Elab.async false
set_option linter.all false
set_option maxRecDepth 100000
namespace KK
open PySem L2 KM
inductive xf (H:Hp):List V->List vY->Prop
 | nil:xf H [] []
 | cons {a p q:Addr}{b:vY}{vs:List V}{bs:List vY}:H a=some (.tup [.ref p,.ref q,.int b.wt])->zv H p b.pl->zv H q b.sp->xf H vs bs->xf H (.ref a::vs) (b::bs)
theorem xf.mono {H H':Hp}(m:∀b xs,H b=some (.tup xs)->H' b=some (.tup xs)):∀{vs:List V}{bs:List vY},xf H vs bs->xf H' vs bs
 | _,_,.nil=>.nil
 | _,_,.cons h1 h2 h3 t=>.cons (m _ _ h1) (m _ _ h2) (m _ _ h3) (xf.mono m t)
theorem xf.same {H H':Hp}{vs:List V}{bs:List vY}(h:xf H vs bs) (e:zt H H'):xf H' vs bs:=h.mono λb xs z=>e b _ z
theorem xf.length {H:Hp}:∀{vs:List V}{bs:List vY},xf H vs bs->vs.length=bs.length
 | _,_,.nil=>rfl
 | _,_,.cons _ _ _ t=>by rw[List.length_cons,List.length_cons,xf.length t]
theorem xf.get {H:Hp}:∀{vs:List V}{bs:List vY}{i:Nat}{v:V},xf H vs bs->vs[i]? = some v->∃(a p q:Addr) (b:vY),bs[i]? = some b/\v = .ref a/\H a=some (.tup [.ref p,.ref q,.int b.wt])/\zv H p b.pl/\zv H q b.sp
 | _,_,_,_,.nil,e=>by simp at e
 | _,_,0,_,.cons h1 h2 h3 _,e=>by
  simp at e;subst e
  exact⟨_,_,_,_,rfl,rfl,h1,h2,h3⟩
 | _,_,i+1,v,.cons _ _ _ t,e=>by
  obtain⟨a,p,q,b,e1,r⟩:=xf.get (i:=i) t (by simpa using e)
  exact⟨a,p,q,b,by simpa using e1,r⟩
end KK
end
section
set_option maxHeartbeats 4000000
set_option Elab.async false
set_option linter.all false
set_option maxRecDepth 100000
namespace KK
open PySem L2 KM
theorem v6 {X:Cx}{es:List Expr}{k:Nat}{pos:Pos}{t:TGs}{n:Nat}{K:PySem.W.Frag}(hK:X.K=K) (hc:X.calm=true) (h:PGs X es t)
  (hn:(assignEach es X.env).length=n:=by rfl) (hst:(assignEach es X.env).findIdx? (·.1)=none:=by rfl):PG X (.Tuple es k pos) (Z4 K n t):=by subst hK;exact jj hc h hn hst
theorem xQ {X:Cx}{K:PySem.W.Frag}(hK:X.K=K):IxR X (vz K):=by subst hK;exact zm
section
variable {P:Program}{w:World}{K:PySem.W.Frag}{mg:Str->Option Value}{base:Heap}
theorem Bd9 {i:Int}(h:Bd 8900 i):Bd 1000000 i:=h.mono (by decide)
theorem ZM (x y:Rat):decide (x.num*(y.den:Int)<y.num*(x.den:Int))=decide (x<y):=by
 by_cases h:x<y
 ·rw[decide_eq_true h,decide_eq_true ((KM.jS x y).mpr h)]
 ·rw[decide_eq_false h,decide_eq_false λz=>h ((KM.jS x y).mp z)]
def vN (ks:List Int):Int:=ks.foldl (λc n=>c/(Int.gcd c n:Int)*n) 1
theorem ZK {c n:Int}(hc:0<c) (hn:0<n):0<c/(Int.gcd c n:Int)*n:=by
 refine Int.mul_pos ?_ hn
 have hg:0<(Int.gcd c n:Int):=by have:=Int.gcd_pos_of_ne_zero_left n (a:=c) (by omega);omega
 exact Int.ediv_pos_of_pos_of_dvd hc (by omega) (Int.gcd_dvd_left c n)
theorem zcV {c n:Int}(hc:0<c) (hn:0<n):c/(Int.gcd c n:Int)*n<=c*n:=by
 have hg:0<(Int.gcd c n:Int):=by have:=Int.gcd_pos_of_ne_zero_left n (a:=c) (by omega);omega
 exact Int.mul_le_mul_of_nonneg_right (Int.ediv_le_self _ (by omega)) (by omega)
theorem Jy {m n:Nat}{c k:Int}(hc:0<c) (hk:0<k) (h:Bd m c) (h':Bd n k):Bd (m+n) (c/(Int.gcd c k:Int)*k) :=
 (h.mul h').of_le (by have:=zcV hc hk;have:=ZK hc hk;omega)
def Pos (n:Nat) (ks:List Int):Prop:=∀k∈ks,0<k/\Bd n k
def zcr:Sp:=λvs H Q _=>∃p ks,vs=[.ref p]/\H p=some (.lst (ks.map V.int))/\Pos 400 ks/\ks.length<=20/\Q (.int (vN ks)) H
theorem XX:zD ["numbers","common","number"] ["numbers"] (zi xk):=⟨rfl,rfl,rfl,by decide +kernel,rfl,by decide +kernel,by decide +kernel⟩
theorem zdb (D:Df K mg "least_multiple" xk ["numbers"] []) (cG:Cal P w K mg base "greatest_divisor" 1 ["one","other"] [] VE):Cal P w K mg base "least_multiple" 2 ["numbers"] [] zcr:=by
 refine D.cal (k:=1) XX (λvs H Q E h=>by obtain⟨_,_,rfl,_⟩:=h;rfl) (λf cdv A outer s H vs Q E hr h=>?_)
 obtain⟨p,ks,rfl,hp,hk,hl,k⟩:=h
 refine⟨_,(zj (zE (i:=1) XX.nd rfl (Or.inl rfl) ze)
  (zj (vx PassesOwn.never rfl (xB (pv 0)) (zG (i:=2) XX.nd rfl (Or.inl rfl)) (zr (zE (i:=1) XX.nd rfl (Or.inl rfl) (zw zJ (zw qr (pv 1) (zC cG hr (zd (pv 1) (zd (pv 2) zf)))) (pv 2)))))
  (zr (zF (pv 1))))),?_⟩
 refine⟨_,rfl,p,rfl,⟨_,SqL.of hp⟩,vM (xs:=ks.map V.int) (λi σ H1=>H1=H/\∃z,σ=[some (.ref p),some (.int (vN (ks.take i))),z]/\0<vN (ks.take i)/\Bd (1+400*i) (vN (ks.take i))) ⟨rfl,none,rfl,(by show (0:Int)<1;decide),(show (1:Int).natAbs<2^1 by decide)⟩ ?_ ?_ ?_⟩
 ·rintro i σ H1 _ ⟨rfl,_⟩;exact .of hp
 ·rintro i x σ H1 hx ⟨rfl,z,rfl,h1,h2⟩
  have hi:i<ks.length:=by
   have:=(List.getElem?_eq_some_iff.mp hx).1
   simpa using this
  obtain⟨n,hn,rfl⟩:∃n,ks[i]? = some n/\V.int n=x:=by simpa using hx
  have hn':=hk n (List.mem_of_getElem? hn)
  have et:vN (ks.take (i+1))=vN (ks.take i)/(Int.gcd (vN (ks.take i)) n:Int)*n:=by
   rw[List.take_add_one,hn];simp[vN,List.foldl_append]
  have hg:0<(Int.gcd (vN (ks.take i)) n:Int):=by have:=Int.gcd_pos_of_ne_zero_left n (a:=vN (ks.take i)) (by omega);omega
  have b1:Bd 8900 (vN (ks.take i)):=h2.mono (by omega)
  have hgb:Bd 8900 (Int.gcd (vN (ks.take i)) n:Int):=b1.of_le (by have:=Int.le_of_dvd h1 (Int.gcd_dvd_left (vN (ks.take i)) n);omega)
  have hq:Bd 8900 ((vN (ks.take i)).fdiv (Int.gcd (vN (ks.take i)) n:Int)):=by
   rw[Int.fdiv_eq_ediv_of_nonneg _ (by omega)]
   exact b1.of_le (by have:=Int.ediv_le_self (Int.gcd (vN (ks.take i)) n:Int) (a:=vN (ks.take i)) (by omega);have:=Int.ediv_nonneg (a:=vN (ks.take i)) (b:=(Int.gcd (vN (ks.take i)) n:Int)) (by omega) (by omega);omega)
  refine⟨_,rfl,_,rfl,_,rfl,⟨_,_,rfl,by omega,by omega,?_⟩⟩
  refine⟨_,_,rfl,rfl,⟨by omega,hgb⟩,_,rfl,_,_,rfl,rfl,⟨Bd9 hq,hn'.2.mono (by decide)⟩,?_⟩
  refine⟨rfl,some (.int n),?_,?_,?_⟩
  ·rw[et,<-Int.fdiv_eq_ediv_of_nonneg _ (by omega)];rfl
  ·rw[et];exact ZK h1 hn'.1
  ·rw[et];exact(Jy h1 hn'.1 h2 hn'.2).mono (by omega)
 ·rintro σ H1 ⟨rfl,z,rfl,_⟩
  refine⟨_,rfl,?_⟩
  rw[List.length_map,List.take_length];exact k
end
end KK
end
section
set_option maxHeartbeats 4000000
set_option Elab.async false
set_option linter.all false
set_option maxRecDepth 100000
namespace KK
open PySem L2 KM
def vJ (H:Hp) (us:List V) (qs:List Rat):Prop:=us.length=qs.length/\∀(i:Nat) (v:V),us[i]? = some v->∃a q,v=V.ref a/\qs[i]? = some q/\zv H a q
theorem Xz {α:Type}{f:α->V}{ys:List V}{qs:List α}(h:ys.length=qs.length) (k:∀(i:Nat) (v:V),ys[i]? = some v->∃q,qs[i]? = some q/\v=f q):ys=qs.map f:=by
 refine List.ext_getElem? λi=>?_
 by_cases hi:i<ys.length
 ·obtain⟨q,e1,e2⟩:=k i ys[i] (by simp[hi])
  rw[List.getElem?_map,e1,List.getElem?_eq_getElem hi,e2];rfl
 ·rw[List.getElem?_eq_none (by omega),List.getElem?_eq_none (by rw[List.length_map];omega)]
theorem QW {σ:St}(h:σ.length=2):∃a b,σ=[a,b]:=by
 match σ,h with
 | [a,b],_=>exact⟨a,b,rfl⟩
theorem Z6 {σ:St}(h:σ.length=1):∃a,σ=[a]:=by
 match σ,h with
 | [a],_=>exact⟨a,rfl⟩
theorem qb {n:Nat}(h:n<=20):n<sizeLine:=Nat.lt_of_le_of_lt h (by decide)
section
variable {P:Program}{w:World}{K:PySem.W.Frag}{mg:Str->Option Value}{base:Heap}
def Z5 (qs:List Rat):Int:=vN (qs.map λq=>(q.den:Int))
def zdA:Sp:=λvs H Q _=>∃p us qs,vs=[.ref p]/\H p=some (.lst us)/\vJ H us qs/\(∀q∈qs,Bd 400 (q.den:Int))/\qs.length<=20/\∀H',zt H H'->Q (.int (Z5 qs)) H'
theorem zer:zD ["ratios"] ["ratios"] (zi xw):=⟨rfl,rfl,rfl,by decide +kernel,rfl,by decide +kernel,by decide +kernel⟩
theorem zd1 (D:Df K mg "common_bottom" xw ["ratios"] []) (cL:Cal P w K mg base "least_multiple" 2 ["numbers"] [] zcr):Cal P w K mg base "common_bottom" 3 ["ratios"] [] zdA:=by
 refine D.cal (k:=2) zer (λvs H Q E h=>by obtain⟨_,_,_,rfl,_⟩:=h;rfl) (λf cdv A outer s H vs Q E hr h=>?_)
 obtain⟨p,us,qs,rfl,hp,hR,hb,hl,k⟩:=h
 refine⟨_,(zr (zF (zC cL hr (zd (vF (NB:=["top","bottom"]) rfl (by decide +kernel) (by decide +kernel) rfl (by decide +kernel) (xB (pv 0)) (by intro _ _ _;refine⟨?_,?_,?_⟩;(exact(v6 (K:=K) (n:=2) rfl rfl (zM (zG (i:=0) (show List.Nodup (["top","bottom"]:List Str) by decide +kernel) rfl (Or.inl rfl)) (zM (zG (i:=1) (show List.Nodup (["top","bottom"]:List Str) by decide +kernel) rfl (Or.inl rfl)) xS))));(exact xq);(exact(pv 1)))) zf)))),?_⟩
 refine⟨_,rfl,p,rfl,⟨_,SqL.of hp⟩,λDa hD=>?_⟩
 refine j9 (J:=Itl K p) (n:=2) (g:=Z4 K 2 (qR (zA 0) (qR (zA 1) XB))) (te:=z8 1) (xs:=us) (λi v _=>∃q:Rat,qs[i]? = some q/\v = .int (q.den:Int)) (λ_ _ _ _ _ z=>z) hD (xu hp) (qb (by rw[hR.1];exact hl)) ?_ ?_
 ·intro i x zs H2 Q' hx hz s2 hk
  obtain⟨a,q,rfl,hq,ha⟩:=hR.2 i x hx
  obtain⟨z1,z2,rfl⟩:=QW hz
  exact⟨a,_,rfl,SqT.of (s2 _ _ ha),rfl,_,_,rfl,_,_,rfl,rfl,_,rfl,hk _ _ (zt.refl _) ⟨q,hq,rfl⟩⟩
 ·intro ys H' s' hy hyl hyR
  have e:=Xz (f:=λq:Rat=>V.int (q.den:Int)) (hyl.trans hR.1) hyR
  refine⟨Da,qs.map λq:Rat=>(q.den:Int),rfl,?_,λn hn=>?_,by simpa using hl,k H' s'⟩
  ·rw[hy,e,List.map_map];rfl
  ·obtain⟨q,hq,rfl⟩:=List.mem_map.mp hn
   exact⟨by have:=q.den_pos;omega,hb q hq⟩
theorem zcC {a:V}{r:List V}:atI (a::r) 0=some a:=by
 unfold atI ixN;rw[if_pos (by decide),if_pos (by simp only[List.length_cons];omega)];rfl
theorem zcD {a b:V}{r:List V}:atI (a::b::r) 1=some b:=by
 unfold atI ixN;rw[if_pos (by decide),if_pos (by simp only[List.length_cons];omega)];rfl
structure TCo (K:PySem.W.Frag) (C:Addr):Prop where
 cls:Cls K C
 pb:xT K C "place_bottom"
 sb:xT K C "speed_bottom"
 tick:xT K C "tick"
 weights:xT K C "weights"
 tracks:xT K C "tracks"
 low:xT K C "low"
 high:xT K C "high"
def ZY (H:Hp) (a:Addr) (x y:Rat):Prop:=∃p q r,H a=some (.tup (.ref p::.ref q::r))/\zv H p x/\zv H q y
theorem ZY.keeps {H H':Hp}{a:Addr}{x y:Rat}(h:ZY H a x y) (t:xh H H'):ZY H' a x y:=by
 obtain⟨p,q,r,h1,h2,h3⟩:=h
 exact⟨p,q,r,t _ _ h1,t _ _ h2,t _ _ h3⟩
def byB (x:Rat) (b:Int):Int:=x.num*b.fdiv (x.den:Int)
def zbU (C:Addr):Sp:=λvs H Q _=>∃(c dx:Addr) (fs:List (Str×V)) (pb sb:Int),H c=some (.ins C dx fs)/\fs.lookup ("place_bottom":Str)=some (V.int pb)/\fs.lookup ("speed_bottom":Str)=some (V.int sb) ∧
 ((vs=[.ref c,.non]/\Q .non H)\/∃a x y,vs=[.ref c,.ref a]/\ZY H a x y/\Sz 400 x/\Sz 400 y/\0<pb/\0<sb/\Bd 8900 pb/\Bd 8900 sb/\∀r H',zt H H'->H' r=some (.tup [.int (byB x pb),.int (byB y sb)])->Q (.ref r) H')
theorem zcl:zD ["course","thing","start"] ["course","thing"] (zi qN):=⟨rfl,rfl,rfl,by decide +kernel,rfl,by decide +kernel,by decide +kernel⟩
theorem Zs {b d:Int}(hb:0<b) (hd:0<d) (h:Bd 8900 b):Bd 8900 (b.fdiv d):=by
 rw[Int.fdiv_eq_ediv_of_nonneg _ (by omega)]
 exact h.of_le (by have:=Int.ediv_le_self d (a:=b) (by omega);have:=Int.ediv_nonneg (a:=b) (b:=d) (by omega) (by omega);omega)
theorem zed {C:Addr}(D:Df K mg "track_of" qN ["course","thing"] []) (TC:TCo K C):Cal P w K mg base "track_of" 1 ["course","thing"] [] (zbU C):=by
 refine D.cal (k:=0) zcl (λvs H Q E h=>by obtain⟨_,_,_,_,_,_,_,_,⟨rfl,_⟩ | ⟨_,_,_,rfl,_⟩⟩:=h <;> rfl) (λf cdv A outer s H vs Q E hr h=>?_)
 obtain⟨c,dx,fs,pb,sb,hc,e1,e2,h⟩:=h
 refine⟨_,(zj (xa (zH ji (pv 1) xE (zI _)) (zr (zF xE)) zO)
  (zj (zE (i:=2) zcl.nd rfl (Or.inl rfl) (zw zJ (zn zm (zn zm (pv 1) ze (λ_ _=>rfl)) ze (λ_ _=>rfl)) (zw qr (qT (pv 0) rfl) (zn zm (zn zm (pv 1) ze (λ_ _=>rfl)) ze (λ_ _=>rfl)))))
  (zr (zF (zU (zd (pv 2) (zd (zw zJ (zn zm (zn zm (pv 1) ze (λ_ _=>rfl)) ze (λ_ _=>rfl)) (zw qr (qT (pv 0) rfl) (zn zm (zn zm (pv 1) ze (λ_ _=>rfl)) ze (λ_ _=>rfl)))) zf))))))),?_⟩
 rcases h with⟨rfl,k⟩ | ⟨a,x,y,rfl,⟨p,q,r,ha,hp,hq⟩,hx,hy,p1,p2,b1,b2,k⟩
 ·refine⟨_,rfl,rfl,_,rfl,xD k⟩
 ·refine⟨_,rfl,rfl,_,rfl,z7 ?_⟩
  have d1:0<(x.den:Int):=by have:=x.den_pos;omega
  have d2:0<(y.den:Int):=by have:=y.den_pos;omega
  have z1:=Zs p1 d1 b1
  have z2:=Zs p2 d2 b2
  refine⟨_,rfl,a,_,_,_,rfl,rfl,.of ha,zcC,p,_,_,_,rfl,rfl,.of hp,at0 ..,_,rfl,c,C,dx,fs,_,rfl,hc,TC.cls,TC.pb,e1,_,rfl,a,_,_,_,rfl,rfl,.of ha,zcC,p,_,_,_,rfl,rfl,.of hp,at1 ..,_,_,rfl,rfl,⟨by omega,hx.2.mono (by decide)⟩,_,_,rfl,rfl,⟨hx.1.mono (by decide),Bd9 z1⟩,?_⟩
  refine⟨_,rfl,_,rfl,a,_,_,_,rfl,rfl,.of ha,zcD,q,_,_,_,rfl,rfl,.of hq,at0 ..,_,rfl,c,C,dx,fs,_,rfl,hc,TC.cls,TC.sb,e2,_,rfl,a,_,_,_,rfl,rfl,.of ha,zcD,q,_,_,_,rfl,rfl,.of hq,at1 ..,_,_,rfl,rfl,⟨by omega,hy.2.mono (by decide)⟩,_,_,rfl,rfl,⟨hy.1.mono (by decide),Bd9 z2⟩,?_⟩
  exact⟨by show 2<=sizeLine;decide,λr hr=>k r _ (zt.upd hr) (by rw[zo];rfl)⟩
end
end KK
end
section
set_option maxHeartbeats 4000000
set_option Elab.async false
set_option linter.all false
set_option maxRecDepth 100000
namespace KK
open PySem L2 KM
theorem zbd {c n:Int}(hc:0<c) (hn:0<n):c ∣ c/(Int.gcd c n:Int)*n/\n ∣ c/(Int.gcd c n:Int)*n:=by
 refine⟨?_,Int.dvd_mul_left ..⟩
 obtain⟨m,hm⟩:=Int.gcd_dvd_right c n
 have hg:0<(Int.gcd c n:Int):=by have:=Int.gcd_pos_of_ne_zero_left n (a:=c) (by omega);omega
 refine⟨m,?_⟩
 have e1:c/(Int.gcd c n:Int)*(Int.gcd c n:Int)=c:=Int.ediv_mul_cancel (Int.gcd_dvd_left c n)
 calc c/(Int.gcd c n:Int)*n=c/(Int.gcd c n:Int)*((Int.gcd c n:Int)*m):=by rw[<-hm]
  _=c/(Int.gcd c n:Int)*(Int.gcd c n:Int)*m:=by rw[Int.mul_assoc]
  _=c*m:=by rw[e1]
theorem ZJ {n:Nat}:∀{ks:List Int}{c:Int}{m:Nat},0<c->Bd m c->Pos n ks →
  0<ks.foldl (λc n=>c/(Int.gcd c n:Int)*n) c/\Bd (m+n*ks.length) (ks.foldl (λc n=>c/(Int.gcd c n:Int)*n) c)/\c ∣ ks.foldl (λc n=>c/(Int.gcd c n:Int)*n) c/\∀k∈ks,k ∣ ks.foldl (λc n=>c/(Int.gcd c n:Int)*n) c
 | [],c,m,hc,hm,_=>⟨hc,hm,Int.dvd_refl c,λk hk=>by cases hk⟩
 | k::r,c,m,hc,hm,hp=>by
  have hk:=hp k List.mem_cons_self
  have d:=zbd hc hk.1
  obtain⟨a1,a2,a3,a4⟩:=ZJ (ks:=r) (ZK hc hk.1) (Jy hc hk.1 hm hk.2) λx hx=>hp x (List.mem_cons_of_mem _ hx)
  refine⟨a1,a2.mono (by rw[List.length_cons,Nat.mul_add];omega),Int.dvd_trans d.1 a3,λx hx=>?_⟩
  rcases List.mem_cons.mp hx with rfl | hx
  ·exact Int.dvd_trans d.2 a3
  ·exact a4 x hx
theorem XF {qs:List Rat}(h:∀q∈qs,Bd 400 (q.den:Int)) (hl:qs.length<=20):0<Z5 qs/\Bd 8900 (Z5 qs)/\∀q∈qs,(q.den:Int) ∣ Z5 qs:=by
 obtain⟨a1,a2,_,a4⟩:=ZJ (n:=400) (ks:=qs.map λq=>(q.den:Int)) (c:=1) (m:=1) (by decide) (show (1:Int).natAbs<2^1 by decide) (λk hk=>by
  obtain⟨q,hq,rfl⟩:=List.mem_map.mp hk
  exact⟨by have:=q.den_pos;omega,h q hq⟩)
 exact⟨a1,a2.mono (by rw[List.length_map];omega),λq hq=>a4 _ (List.mem_map.mpr ⟨q,hq,rfl⟩)⟩
structure Bl where
 pl:Rat
 sp:Rat
 wt:Int
def Xt (H:Hp) (v:V) (b:Bl):Prop:=∃a p q,v=V.ref a/\H a=some (.tup [.ref p,.ref q,.int b.wt])/\zv H p b.pl/\zv H q b.sp
def xN (H:Hp) (us:List V) (bs:List Bl):Prop:=us.length=bs.length/\∀(i:Nat) (v:V),us[i]? = some v->∃b,bs[i]? = some b/\Xt H v b
def ZZ (H:Hp) (v:V):Option (Rat×Rat)->Prop
 | none=>v = .non
 | some w=>∃a,v=V.ref a/\ZY H a w.1 w.2
theorem Xt.keeps {H H':Hp}{v:V}{b:Bl}(h:Xt H v b) (t:xh H H'):Xt H' v b:=by
 obtain⟨a,p,q,e,h1,h2,h3⟩:=h
 exact⟨a,p,q,e,t _ _ h1,t _ _ h2,t _ _ h3⟩
theorem xN.keeps {H H':Hp}{us:List V}{bs:List Bl}(h:xN H us bs) (t:xh H H'):xN H' us bs :=
 ⟨h.1,λi v e=>by obtain⟨b,e1,e2⟩:=h.2 i v e;exact⟨b,e1,e2.keeps t⟩⟩
theorem ZZ.keeps {H H':Hp}{v:V}{w:Option (Rat×Rat)} (h:ZZ H v w) (t:xh H H'):ZZ H' v w:=by
 cases w with
 | none=>exact h
 | some w=>obtain⟨a,e,h⟩:=h;exact⟨a,e,h.keeps t⟩
def TsI (H:Hp) (vs:List V) (ts:List (Rat×Rat)):Prop:=vs.length=ts.length/\∀(i:Nat) (v:V),vs[i]? = some v->∃t a,ts[i]? = some t/\v=V.ref a/\ZY H a t.1 t.2
theorem TsI.keeps {H H':Hp}{vs:List V}{ts:List (Rat×Rat)} (h:TsI H vs ts) (t:xh H H'):TsI H' vs ts :=
 ⟨h.1,λi v e=>by obtain⟨x,a,e1,e2,e3⟩:=h.2 i v e;exact⟨x,a,e1,e2,e3.keeps t⟩⟩
theorem TsI.nil {H:Hp}:TsI H [] []:=⟨rfl,λi v e=>by simp at e⟩
theorem TsI.cons {H:Hp}{a:Addr}{t:Rat×Rat}{vs:List V}{ts:List (Rat×Rat)} (h:ZY H a t.1 t.2) (r:TsI H vs ts):TsI H (.ref a::vs) (t::ts):=by
 refine⟨by simp[r.1],λi v e=>?_⟩
 cases i with
 | zero=>simp at e;subst e;exact⟨t,a,rfl,rfl,h⟩
 | succ i=>obtain⟨x,b,e1,e2⟩:=r.2 i v (by simpa using e);exact⟨x,b,by simpa using e1,e2⟩
theorem TsI.append {H:Hp}{vs vs':List V}{ts ts':List (Rat×Rat)} (h:TsI H vs ts) (h':TsI H vs' ts'):TsI H (vs++vs') (ts++ts'):=by
 refine⟨by simp[h.1,h'.1],λi v e=>?_⟩
 by_cases hi:i<vs.length
 ·rw[List.getElem?_append_left hi]at e
  rw[List.getElem?_append_left (by rw[<-h.1];exact hi)]
  exact h.2 i v e
 ·rw[List.getElem?_append_right (by omega)]at e
  rw[List.getElem?_append_right (by rw[<-h.1];omega),<-h.1]
  exact h'.2 _ v e
theorem xN.ts {H:Hp}{us:List V}{bs:List Bl}(h:xN H us bs):TsI H us (bs.map λb=>(b.pl,b.sp)):=by
 refine⟨by simp[h.1],λi v e=>?_⟩
 obtain⟨b,e1,a,p,q,rfl,h1,h2,h3⟩:=h.2 i v e
 exact⟨(b.pl,b.sp),a,by rw[List.getElem?_map,e1];rfl,rfl,p,q,_,h1,h2,h3⟩
def ZO:Option (Rat×Rat)->List (Rat×Rat)
 | none=>[]
 | some w=>[w]
theorem zaK {H:Hp}{v1 v2:V}{lo hi:Option (Rat×Rat)} (h1:ZZ H v1 lo) (h2:ZZ H v2 hi):TsI H ([v1,v2].filter λv=>!decide (v = .non)) (ZO lo++ZO hi):=by
 have one:∀{v:V}{w:Option (Rat×Rat)},ZZ H v w->TsI H ([v].filter λv=>!decide (v = .non)) (ZO w):=λ{v w} h=>by
  cases w with
  | none =>
   have e:v = .non:=h
   subst e;exact .nil
  | some w =>
   obtain⟨a,e,h⟩:=h
   subst e
   rw[List.filter_cons_of_pos (by simp)]
   exact .cons h .nil
 have e:([v1,v2].filter λv=>!decide (v = .non))=([v1].filter λv=>!decide (v = .non))++([v2].filter λv=>!decide (v = .non)):=by
  rw[<-List.filter_append];rfl
 rw[e];exact(one h1).append (one h2)
def xm (c:Addr) (H H':Hp):Prop:=∀b o,b≠c->H b=some o->H' b=some o
theorem xm.of {c:Addr}{H H':Hp}(h:zt H H'):xm c H H':=λb o _ e=>h b o e
theorem xm.trans {c:Addr}{H H1 H2:Hp}(a:xm c H H1) (b:xm c H1 H2):xm c H H2:=λx o n e=>b x o n (a x o n e)
theorem xm.upd {c:Addr}{H:Hp}{o:HO}:xm c H (upd H c o):=λb u n e=>by rw[zK n];exact e
theorem xm.tup {c C dx:Addr}{fs:List (Str×V)}{H H':Hp}(h:xm c H H') (e:H c=some (.ins C dx fs)):xh H H':=λb xs q=>h b _ (λz=>by subst z;rw[e]at q;cases q) q
end KK
end
section
set_option maxHeartbeats 4000000
set_option Elab.async false
set_option linter.all false
set_option maxRecDepth 100000
namespace KK
open PySem L2 KM
structure TxQ (K:PySem.W.Frag) (mg:Str->Option Value):Prop extends TxB K mg where
 nList:mg "list" = none
 nZip:mg "zip" = none
def Xu (H:Hp) (v:V):Option (Int×Int)->Prop
 | none=>v = .non
 | some t=>∃a,v=V.ref a/\H a=some (.tup [.int t.1,.int t.2])
def Jq (H:Hp) (vs:List V) (ts:List (Int×Int)):Prop:=vs.length=ts.length/\∀(i:Nat) (v:V),vs[i]? = some v->∃t,ts[i]? = some t/\Xu H v (some t)
theorem Xu.keeps {H H':Hp}{v:V}{w:Option (Int×Int)} (h:Xu H v w) (t:xh H H'):Xu H' v w:=by
 cases w with
 | none=>exact h
 | some w=>obtain⟨a,e,h⟩:=h;exact⟨a,e,t _ _ h⟩
theorem Jq.keeps {H H':Hp}{vs:List V}{ts:List (Int×Int)} (h:Jq H vs ts) (t:xh H H'):Jq H' vs ts :=
 ⟨h.1,λi v e=>by obtain⟨x,e1,e2⟩:=h.2 i v e;exact⟨x,e1,e2.keeps t⟩⟩
structure CoF (H:Hp) (fs:List (Str×V)) (pb sb:Int) (tk:Rat) (ws:List Int) (trs:List (Int×Int)) (lo hi:Option (Int×Int)):Prop where
 pb:fs.lookup ("place_bottom":Str)=some (V.int pb)
 sb:fs.lookup ("speed_bottom":Str)=some (V.int sb)
 tick:∃tp,fs.lookup ("tick":Str)=some (V.ref tp)/\zv H tp tk
 weights:∃wl,fs.lookup ("weights":Str)=some (V.ref wl)/\H wl=some (.lst (ws.map V.int))
 tracks:∃tl tv,fs.lookup ("tracks":Str)=some (V.ref tl)/\H tl=some (.lst tv)/\Jq H tv trs
 low:∃v,fs.lookup ("low":Str)=some v/\Xu H v lo
 high:∃v,fs.lookup ("high":Str)=some v/\Xu H v hi
 len:fs.length<=20
def VO (H:Hp) (C c:Addr) (pb sb:Int) (tk:Rat) (ws:List Int) (trs:List (Int×Int)) (lo hi:Option (Int×Int)):Prop:=∃dx fs,H c=some (.ins C dx fs)/\CoF H fs pb sb tk ws trs lo hi
def CoN (H0 H:Hp) (C c:Addr) (pb sb:Int) (tk:Rat) (ws:List Int) (trs:List (Int×Int)) (lo hi:Option (Int×Int)):Prop:=∃dx fs tl,H c=some (.ins C dx fs)/\CoF H fs pb sb tk ws trs lo hi/\fs.lookup ("tracks":Str)=some (V.ref tl)/\H0 tl=none
theorem CoN.co {H0 H:Hp}{C c:Addr}{pb sb:Int}{tk:Rat}{ws:List Int}{trs:List (Int×Int)}{lo hi:Option (Int×Int)} (h:CoN H0 H C c pb sb tk ws trs lo hi):VO H C c pb sb tk ws trs lo hi:=by
 obtain⟨dx,fs,tl,h1,h2,_⟩:=h;exact⟨dx,fs,h1,h2⟩
def ths (bs:List Bl) (lo hi:Option (Rat×Rat)):List (Rat×Rat):=bs.map (λb=>(b.pl,b.sp))++(ZO lo++ZO hi)
def pbO (bs:List Bl) (lo hi:Option (Rat×Rat)):Int:=Z5 ((ths bs lo hi).map (·.1))
def sbO (bs:List Bl) (lo hi:Option (Rat×Rat)):Int:=Z5 ((ths bs lo hi).map (·.2))
def trB (pb sb:Int) (t:Rat×Rat):Int×Int:=(byB t.1 pb,byB t.2 sb)
section
variable {P:Program}{w:World}{K:PySem.W.Frag}{mg:Str->Option Value}{base:Heap}
def zeA (C:Addr):Sp:=λvs H Q _=>∃c dx r wa us bs v1 v2 lo hi,vs=[V.ref c,.ref r,.ref wa]/\H c=some (.ins C dx [])/\H r=some (.tup us)/\xN H us bs/\H wa=some (.tup [v1,v2])/\ZZ H v1 lo/\ZZ H v2 hi/\bs.length<=8 ∧
 (∀t∈ths bs lo hi,Sz 400 t.1/\Sz 400 t.2)/\∀H',xm c H H'->CoN H H' C c (pbO bs lo hi) (sbO bs lo hi) (Rat.divInt (sbO bs lo hi) (pbO bs lo hi)) (bs.map Bl.wt) (bs.map λb=>trB (pbO bs lo hi) (sbO bs lo hi) (b.pl,b.sp)) (lo.map (trB (pbO bs lo hi) (sbO bs lo hi))) (hi.map (trB (pbO bs lo hi) (sbO bs lo hi)))->Q .non H'
theorem zcj:zD ["self","row","walls","things"] ["self","row","walls"] (zi xO):=⟨rfl,rfl,rfl,by decide +kernel,rfl,by decide +kernel,by decide +kernel⟩
theorem vH {bs:List Bl}{lo hi:Option (Rat×Rat)} (h:bs.length<=8):(ths bs lo hi).length<=20:=by
 unfold ths
 have e:∀w:Option (Rat×Rat),(ZO w).length<=1:=λw=>by cases w <;> simp[ZO]
 have:=e lo
 have:=e hi
 simp only[List.length_append,List.length_map];omega
theorem Vp {σ:St}{H:Hp}{Q:VK}{L:Addr}{vs:List V}{ts:List (Rat×Rat)}{j:Nat}{i:Int}(f:Rat×Rat->Rat) (hσ:σ[j]? = some (some (.ref L))) (hL:H L=some (.lst vs)) (hT:TsI H vs ts) (hl:ts.length<=20)
  (hf:∀H2 a t,ZY H2 a t.1 t.2->∃xs p,H2 a=some (.tup xs)/\atI xs i=some (.ref p)/\zv H2 p (f t))
  (k:∀D ys H',zt H H'->H' D=some (.lst ys)->vJ H' ys (ts.map f)->Q (.ref D) H') :
  VH 1 (zcb K (z8 j)) (zA 0) (λ_ H Q=>Q true H) (tOp (vz K) (z8 0) (tC (.int i))) σ H Q:=by
 refine⟨_,hσ,L,rfl,⟨_,SqL.of hL⟩,λD hD=>?_⟩
 refine j9 (J:=Itl K L) (n:=1) (g:=zA 0) (te:=tOp (vz K) (z8 0) (tC (.int i))) (xs:=vs) (λm v H=>∃t p,ts[m]? = some t/\v = .ref p/\zv H p (f t)) (λ_ _ _ _ t ⟨x,p,e1,e2,e3⟩=>⟨x,p,e1,e2,t _ _ e3⟩) hD (xu hL) (qb (by rw[hT.1];exact hl)) ?_ ?_
 ·intro m x zs H2 Q' hx hz s2 hk
  obtain⟨t,a,e,rfl,ha⟩:=hT.2 m x hx
  obtain⟨z1,rfl⟩:=Z6 hz
  obtain⟨xs,p,h1,h2,h3⟩:=hf H2 a t (ha.keeps (.of s2))
  dsimp only[zA]
  try rw[if_pos rfl]
  exact⟨_,rfl,a,_,_,_,rfl,rfl,.of h1,h2,hk _ _ (zt.refl _) ⟨t,p,e,rfl,h3⟩⟩
 ·intro ys H' s' hy hyl hyR
  refine k D ys H' s' hy ⟨by simp[hyl,hT.1],λm v e=>?_⟩
  obtain⟨t,p,e1,e2,e3⟩:=hyR m v e
  exact⟨p,f t,e2,by rw[List.getElem?_map,e1];rfl,e3⟩
end
end KK
end
section
set_option maxHeartbeats 4000000
set_option Elab.async false
set_option linter.all false
set_option maxRecDepth 100000
namespace KK
open PySem L2 KM
section
variable {P:Program}{w:World}{K:PySem.W.Frag}{mg:Str->Option Value}{base:Heap}
theorem th0:∀(H2:Hp) (a:Addr) (t:Rat×Rat),ZY H2 a t.1 t.2->∃xs p,H2 a=some (.tup xs)/\atI xs 0=some (.ref p)/\zv H2 p t.1:=λH2 a t ⟨p,q,r,h1,h2,h3⟩=>⟨_,p,h1,zcC,h2⟩
theorem th1:∀(H2:Hp) (a:Addr) (t:Rat×Rat),ZY H2 a t.1 t.2->∃xs p,H2 a=some (.tup xs)/\atI xs 1=some (.ref p)/\zv H2 p t.2:=λH2 a t ⟨p,q,r,h1,h2,h3⟩=>⟨_,q,h1,zcD,h3⟩
theorem jA {tv:TE}{rest:TS}{f:Str}{D:jC}{σ:St}{H:Hp}(h:tv σ H λy H1=>z8 0 σ H1 λx H2=>∃a C dx fs,x = .ref a/\H2 a=some (.ins C dx fs)/\Cls K C/\xT K C f/\fs.length<1000/\rest D σ (upd H2 a (.ins C dx (vR f y fs)))):Jl (zds K (z8 0) tv f) rest D σ H:=h
theorem zbw {tv:TE}{f:Str}{D:jC}{σ:St}{H:Hp}(h:tv σ H λy H1=>z8 0 σ H1 λx H2=>∃a C dx fs,x = .ref a/\H2 a=some (.ins C dx fs)/\Cls K C/\xT K C f/\fs.length<1000/\D.nx σ (upd H2 a (.ins C dx (vR f y fs)))):zds K (z8 0) tv f D σ H:=h
theorem zb5 {te:TE}{sp:Sp}{σ:St}{H:Hp}{Q:VK}(h:te σ H λx H1=>sp [x] H1 Q E0):jq sp [] E0 (xr te jD) σ H Q:=h
theorem zb6 {ta tb:TE}{sp:Sp}{σ:St}{H:Hp}{Q:VK}(h:ta σ H λx H1=>tb σ H1 λy H2=>sp [x,y] H2 Q E0):jq sp [] E0 (xr ta (xr tb jD)) σ H Q:=h
theorem vB {c C dx:Addr}{fs:List (Str×V)}{f:Str}{y:V}{rest:TS}{D:jC}{σ:St}{H3:Hp}(hσ:σ[0]? = some (some (.ref c))) (hc:H3 c=some (.ins C dx fs)) (cl:Cls K C) (na:xT K C f) (hl:fs.length<1000)
  (k:∀G,xm c H3 G->G c=some (.ins C dx (vR f y fs))->rest D σ G):z8 0 σ H3 λx H2=>∃a C dx fs,x = .ref a/\H2 a=some (.ins C dx fs)/\Cls K C/\xT K C f/\fs.length<1000/\rest D σ (upd H2 a (.ins C dx (vR f y fs))) :=
 ⟨_,hσ,c,C,dx,fs,rfl,hc,cl,na,hl,k _ .upd zo⟩
theorem VM {C c dx:Addr}{fs:List (Str×V)}{pb sb:Int}{G:Hp}{v:V}{w:Option (Rat×Rat)}{Q:VK}{E:XK}(hc:G c=some (.ins C dx fs)) (e1:fs.lookup ("place_bottom":Str)=some (V.int pb)) (e2:fs.lookup ("speed_bottom":Str)=some (V.int sb)) (hw:ZZ G v w)
  (hz:∀t,w=some t->Sz 400 t.1/\Sz 400 t.2) (p1:0<pb/\Bd 8900 pb) (p2:0<sb/\Bd 8900 sb) (k:∀v' H',zt G H'->Xu H' v' (w.map (trB pb sb))->Q v' H'):zbU C [.ref c,v] G Q E:=by
 refine⟨c,dx,fs,pb,sb,hc,e1,e2,?_⟩
 cases w with
 | none =>
  have e:v = .non:=hw
  subst e
  exact .inl ⟨rfl,k _ _ (zt.refl _) rfl⟩
 | some t =>
  obtain⟨a,rfl,ha⟩:=hw
  have z:=hz t rfl
  exact .inr ⟨a,t.1,t.2,rfl,ha,z.1,z.2,p1.1,p2.1,p1.2,p2.2,λr H' s h=>k _ _ s ⟨r,rfl,h⟩⟩
theorem zd2 {C f:Addr}{fd:FuncData}(F:Fun K "__init__" "Course.__init__" xO f fd) (T:TxQ K mg) (TC:TCo K C) (cB:Cal P w K mg base "common_bottom" 3 ["ratios"] [] zdA) (cR:Cal P w K mg base "ratio" 2 ["top","bottom"] [] qd)
  (cT:Cal P w K mg base "track_of" 1 ["course","thing"] [] (zbU C)):jN P w K mg base CX0 4 f fd ["self","row","walls"] (zeA C):=by
 refine F.ok (k:=3) zcj (λvs H Q E h=>by obtain⟨_,_,_,_,_,_,_,_,_,_,rfl,_⟩:=h;rfl) (λcdv A outer s H vs Q E hr h=>?_)
 obtain⟨c,dx,r,wa,us,bs,v1,v2,lo,hi,rfl,hc,hrr,hB,hw,h1,h2,hl,hz,k⟩:=h
 have hr2:xb 2 _:=hr.mono (by decide)
 have hr1:xb 1 _:=hr.mono (by decide)
 refine⟨_,(zj (zE (i:=3) zcj.nd rfl (Or.inl rfl) (zw zdk (jv vZ (by rfl) T.nList PyProof.Rows.boot_list (zd (pv 1) zf)) (vF (NB:=["wall"]) rfl (by decide +kernel) (by decide +kernel) rfl (by decide +kernel) (v7 (pv 2)) (by intro _ _ _;refine⟨?_,?_,?_⟩;(exact(zG (i:=0) (show List.Nodup (["wall"]:List Str) by decide +kernel) rfl (Or.inl rfl)));(exact(XQ (zH vE (pv 0) xE (zI _))));(exact(pv 0))))))
  (zj (jJ (pv 0) (zC cB hr (zd (vF (NB:=["thing"]) rfl (by decide +kernel) (by decide +kernel) rfl (by decide +kernel) (xB (pv 3)) (by intro _ _ _;refine⟨?_,?_,?_⟩;(exact(zG (i:=0) (show List.Nodup (["thing"]:List Str) by decide +kernel) rfl (Or.inl rfl)));(exact xq);(exact(zn (xQ (K:=K) rfl) (pv 0) ze (λ_ _=>rfl))))) zf)) rfl)
  (zj (jJ (pv 0) (zC cB hr (zd (vF (NB:=["thing"]) rfl (by decide +kernel) (by decide +kernel) rfl (by decide +kernel) (xB (pv 3)) (by intro _ _ _;refine⟨?_,?_,?_⟩;(exact(zG (i:=0) (show List.Nodup (["thing"]:List Str) by decide +kernel) rfl (Or.inl rfl)));(exact xq);(exact(zn (xQ (K:=K) rfl) (pv 0) ze (λ_ _=>rfl))))) zf)) rfl)
  (zj (jJ (pv 0) (zC cR hr2 (zd (qT (pv 0) rfl) (zd (qT (pv 0) rfl) zf))) rfl)
  (zj (jJ (pv 0) (vF (NB:=["ball"]) rfl (by decide +kernel) (by decide +kernel) rfl (by decide +kernel) (v7 (pv 1)) (by intro _ _ _;refine⟨?_,?_,?_⟩;(exact(zG (i:=0) (show List.Nodup (["ball"]:List Str) by decide +kernel) rfl (Or.inl rfl)));(exact xq);(exact(zn (xQ (K:=K) rfl) (pv 0) ze (λ_ _=>rfl))))) rfl)
  (zj (jJ (pv 0) (qe (NB:=["ball"]) (FR:=["self"]) (js:=[0]) rfl rfl (λ_ _ h=>h) (.cons rfl rfl rfl ⟨_,rfl⟩ .nil) rfl (by decide +kernel) rfl (by decide +kernel) (v7 (pv 1)) (by intro _ _ _;refine⟨?_,?_,?_⟩;(exact(zG (i:=0) (show List.Nodup (["ball","self"]:List Str) by decide +kernel) rfl (Or.inl rfl)));(exact xq);(exact(zC cT hr1 (zd (pv 1) (zd (pv 0) zf)))))) rfl)
  (zj (jJ (pv 0) (zC cT hr1 (zd (pv 0) (zd (zn zm (pv 2) ze (λ_ _=>rfl)) zf))) rfl)
  (zr (jJ (pv 0) (zC cT hr1 (zd (pv 0) (zd (zn zm (pv 2) ze (λ_ _=>rfl)) zf))) rfl))))))))),?_⟩
 refine⟨_,rfl,r,us,rfl,.inr (.of hrr),λl hll=>?_⟩
 refine⟨_,rfl,wa,rfl,⟨_,SqT.of (zt.upd hll _ _ hw)⟩,λDa hD=>?_⟩
 refine JE (J:=Itt K wa) (n:=1) (g:=zA 0) (te:=z8 0) (xs:=[v1,v2]) (λv=>!decide (v = .non)) hD (jm (zt.upd hll _ _ hw)) (qb (by show 2<=20;decide)) ?_ ?_
 ·intro m x zs H2 A2 B2 hx hz2 s2 ka kb
  obtain⟨z1,rfl⟩:=Z6 hz2
  dsimp only[zA]
  refine⟨_,rfl,rfl,_,rfl,?_⟩
  cases e:decide (x=V.non)with
  | true=>exact kb (by simp[e])
  | false=>exact⟨_,rfl,ka (by simp[e])⟩
 intro H1 s1 hy
 have hl1:H1 l=some (.lst us):=s1 _ _ zo
 refine⟨l,Da,us,_,rfl,rfl,hl1,hy,?_,λL hL=>?_⟩
 ·have z1:=List.length_filter_le (λv=>!decide (v=V.non)) [v1,v2]
  have z2:=hB.1
  have z3:20<sizeLine:=qb (Nat.le_refl _)
  simp only[List.length_cons,List.length_nil]at z1
  omega
 have S1:zt H H1:=(zt.upd hll).trans s1
 have S2:zt H (upd H1 L (.lst (us++[v1,v2].filter λv=>!decide (v = .non)))):=S1.trans (zt.upd hL)
 have hT:TsI H (us++[v1,v2].filter λv=>!decide (v = .non)) (ths bs lo hi):=hB.ts.append (zaK h1 h2)
 have hLL:upd H1 L (.lst (us++[v1,v2].filter λv=>!decide (v = .non))) L=some (.lst (us++[v1,v2].filter λv=>!decide (v = .non))):=zo
 generalize upd H1 L (.lst (us++[v1,v2].filter λv=>!decide (v = .non)))=G0 at S2 hLL
 generalize (us++[v1,v2].filter λv=>!decide (v = .non))=tv at hT hLL
 have hw0:=S2 _ _ hw
 have hr0:=S2 _ _ hrr
 have hc0:=S2 _ _ hc
 have cL:L≠c:=λz=>by subst z;rw[hLL]at hc0;cases hc0
 dsimp only[zA]
 refine jA (K:=K) ?_
 refine zb5 ?_
 refine Vp (λt=>t.1) (by rfl) hLL (hT.keeps (.of S2)) (vH hl) th0 λD1 y1 H2 s2 hy1 hR1=>?_
 refine⟨D1,y1,_,rfl,hy1,hR1,λq hq=>?_,by rw[List.length_map];exact vH hl,λH3 s3=>?_⟩
 ·obtain⟨t,ht,rfl⟩:=List.mem_map.mp hq
  exact(hz t ht).1.2
 have p1:=XF (qs:=(ths bs lo hi).map (·.1)) (λq hq=>by obtain⟨t,ht,rfl⟩:=List.mem_map.mp hq;exact(hz t ht).1.2) (by rw[List.length_map];exact vH hl)
 have p2:=XF (qs:=(ths bs lo hi).map (·.2)) (λq hq=>by obtain⟨t,ht,rfl⟩:=List.mem_map.mp hq;exact(hz t ht).2.2) (by rw[List.length_map];exact vH hl)
 refine vB (by rfl) (s3 _ _ (s2 _ _ hc0)) TC.cls TC.pb (by decide) λG1 X1 c1=>?_
 replace X1:xm c G0 G1:=(xm.of (s2.trans s3)).trans X1
 have t1:xh H G1:=(xh.of S2).trans (X1.tup hc0)
 refine jA (K:=K) ?_
 refine zb5 ?_
 refine Vp (λt=>t.2) (by rfl) (X1 _ _ cL hLL) (hT.keeps t1) (vH hl) th1 λD2 y2 H4 s4 hy2 hR2=>?_
 refine⟨D2,y2,_,rfl,hy2,hR2,λq hq=>?_,by rw[List.length_map];exact vH hl,λH5 s5=>?_⟩
 ·obtain⟨t,ht,rfl⟩:=List.mem_map.mp hq
  exact(hz t ht).2.2
 refine vB (by rfl) (s5 _ _ (s4 _ _ c1)) TC.cls TC.sb (by show 1<1000;decide) λG2 X2 c2=>?_
 replace X2:xm c G0 G2:=X1.trans ((xm.of (s4.trans s5)).trans X2)
 refine jA (K:=K) ?_
 refine⟨_,rfl,c,C,dx,_,_,rfl,c2,TC.cls,TC.sb,rfl,_,rfl,c,C,dx,_,_,rfl,c2,TC.cls,TC.pb,rfl,_,_,rfl,by have:=p1.1;omega,p1.2.1,λtp H6 s6 htp=>?_⟩
 refine vB (by rfl) (s6 _ _ c2) TC.cls TC.tick (by show 2<1000;decide) λG3 X3' c3=>?_
 have X3:xm c G0 G3:=X2.trans ((xm.of s6).trans X3')
 have htp3:zv G3 tp _:=X3' _ _ (λz=>by subst z;have:=s6 _ _ c2;rw[htp]at this;cases this) htp
 have t3:xh H G3:=(xh.of S2).trans (X3.tup hc0)
 refine jA (K:=K) ?_
 have l20:us.length<sizeLine:=qb (by rw[hB.1];omega)
 refine⟨_,rfl,r,rfl,⟨_,SqT.of (t3 _ _ hrr)⟩,λD4 hD4=>?_⟩
 refine j9 (J:=Itt K r) (n:=1) (g:=zA 0) (te:=tOp (vz K) (z8 0) (tC (.int 2))) (xs:=us) (λm v _=>∃b:Bl,bs[m]? = some b/\v = .int b.wt) (λ_ _ _ _ _ z=>z) hD4 (jm (t3 _ _ hrr)) l20 ?_ ?_
 ·intro m x zs H7 Q' hx hz7 s7 hk
  obtain⟨b,e,a,p,q,rfl,ha,_⟩:=(hB.keeps (t3.trans (.of s7))).2 m x hx
  obtain⟨z1,rfl⟩:=Z6 hz7
  dsimp only[zA]
  exact⟨_,rfl,a,_,_,_,rfl,rfl,.of ha,rfl,hk _ _ (zt.refl _) ⟨b,e,rfl⟩⟩
 intro y4 H7 s7 hy4 hyl4 hyR4
 have e4:y4=(bs.map Bl.wt).map V.int:=by
  rw[List.map_map]
  exact Xz (hyl4.trans hB.1) hyR4
 refine vB (by rfl) (s7 _ _ c3) TC.cls TC.weights (by show 3<1000;decide) λG4 X4' c4=>?_
 have X4:xm c G0 G4:=X3.trans ((xm.of s7).trans X4')
 have nc:∀{G:Hp}{fs:List (Str×V)}{b:Addr}{o:HO},G c=some (.ins C dx fs)->G b=some o->(∀fs,o≠.ins C dx fs)->b≠c:=λh1 h2 h3 z=>by subst z;rw[h1]at h2;cases h2;exact h3 _ rfl
 have wl4:G4 D4=some (.lst ((bs.map Bl.wt).map V.int)):=by
  rw[<-e4];exact X4' _ _ (nc (s7 _ _ c3) hy4 (λ_ z=>by cases z)) hy4
 have htp4:zv G4 tp _:=X4' _ _ (nc (s7 _ _ c3) (s7 _ _ htp3) (λ_ z=>by cases z)) (s7 _ _ htp3)
 have t4:xh H G4:=(xh.of S2).trans (X4.tup hc0)
 refine jA (K:=K) ?_
 refine⟨_,rfl,r,rfl,⟨_,SqT.of (t4 _ _ hrr)⟩,λD5 hD5=>?_⟩
 refine xM (J:=Itt K r) (n:=1) (js:=[0]) (g:=zA 0) (te:=jq (zbU C) [] E0 (xr (z8 1) (xr (z8 0) jD))) (xs:=us) (λm v H=>∃t,(bs.map λb=>trB (pbO bs lo hi) (sbO bs lo hi) (b.pl,b.sp))[m]? = some t/\Xu H v (some t)) (λ_ _ _ _ t ⟨x,e1,e2⟩=>⟨x,e1,e2.keeps t⟩) hD5 (jm (t4 _ _ hrr)) l20 ?_ ?_
 ·intro m x zs H8 Q' hx hz8 s8 hk
  obtain⟨b,e,a,p,q,rfl,ha,hp,hq⟩:=(hB.keeps (t4.trans (.of s8))).2 m x hx
  obtain⟨z1,rfl⟩:=Z6 hz8
  dsimp only[zA]
  have zb:=hz (b.pl,b.sp) (List.mem_append_left _ (List.mem_map.mpr ⟨b,List.mem_of_getElem? e,rfl⟩))
  refine⟨rfl,_,rfl,_,rfl,c,dx,_,_,_,s8 _ _ c4,rfl,rfl,.inr ⟨a,b.pl,b.sp,rfl,⟨p,q,_,ha,hp,hq⟩,zb.1,zb.2,p1.1,p2.1,p1.2.1,p2.2.1,λr' H9 s9 h9=>hk _ _ s9 ⟨_,by rw[List.getElem?_map,e];rfl,r',rfl,h9⟩⟩⟩
 intro y5 H8 s8 hy5 hyl5 hyR5
 refine vB (by rfl) (s8 _ _ c4) TC.cls TC.tracks (by show 4<1000;decide) λG5 X5' c5=>?_
 have X5:xm c G0 G5:=X4.trans ((xm.of s8).trans X5')
 have tl5:G5 D5=some (.lst y5):=X5' _ _ (nc (s8 _ _ c4) hy5 (λ_ z=>by cases z)) hy5
 have tr5:Jq G5 y5 (bs.map λb=>trB (pbO bs lo hi) (sbO bs lo hi) (b.pl,b.sp)):=⟨by rw[hyl5,List.length_map,hB.1],λm v e=>by
  obtain⟨t,e1,e2⟩:=hyR5 m v e
  exact⟨t,e1,e2.keeps (X5'.tup (s8 _ _ c4))⟩⟩
 have wl5:=X5' _ _ (nc (s8 _ _ c4) (s8 _ _ wl4) (λ_ z=>by cases z)) (s8 _ _ wl4)
 have htp5:zv G5 tp _:=X5' _ _ (nc (s8 _ _ c4) (s8 _ _ htp4) (λ_ z=>by cases z)) (s8 _ _ htp4)
 have t5:xh H G5:=(xh.of S2).trans (X5.tup hc0)
 have zlo:∀t,lo=some t->Sz 400 t.1/\Sz 400 t.2:=λt e=>hz t (by unfold ths;rw[e];simp[ZO])
 have zhi:∀t,hi=some t->Sz 400 t.1/\Sz 400 t.2:=λt e=>hz t (by unfold ths;rw[e];simp[ZO])
 refine jA (K:=K) ?_
 refine zb6 ⟨_,rfl,_,rfl,wa,_,_,_,rfl,rfl,.of (t5 _ _ hw),at0 ..,?_⟩
 refine VM c5 rfl rfl (h1.keeps t5) zlo ⟨p1.1,p1.2.1⟩ ⟨p2.1,p2.2.1⟩ λlv H9 s9 hlv=>?_
 refine vB (by rfl) (s9 _ _ c5) TC.cls TC.low (by show 5<1000;decide) λG6 X6' c6=>?_
 have X6:xm c G0 G6:=X5.trans ((xm.of s9).trans X6')
 have t6:xh H G6:=(xh.of S2).trans (X6.tup hc0)
 have X56:xm c G5 G6:=(xm.of s9).trans X6'
 refine zbw (K:=K) ?_
 refine zb6 ⟨_,rfl,_,rfl,wa,_,_,_,rfl,rfl,.of (t6 _ _ hw),at1 ..,?_⟩
 refine VM c6 rfl rfl (h2.keeps t6) zhi ⟨p1.1,p1.2.1⟩ ⟨p2.1,p2.2.1⟩ λhv H10 s10 hhv=>?_
 refine vB (rest:=jC.nx) (by rfl) (s10 _ _ c6) TC.cls TC.high (by show 6<1000;decide) λG7 X7' c7=>?_
 have X67:xm c G6 G7:=(xm.of s10).trans X7'
 have X57:xm c G5 G7:=X56.trans X67
 have X7:xm c G0 G7:=X6.trans X67
 have hD5H:H D5=none:=by
  cases e:H D5 with
  | none=>rfl
  | some o =>
   by_cases z:D5=c
   ·rw[z,c4]at hD5;cases hD5
   ·rw[X4 _ _ z (S2 _ _ e)]at hD5;cases hD5
 refine k G7 ((xm.of S2).trans X7) ⟨dx,_,D5,c7,⟨rfl,rfl,⟨tp,rfl,X57 _ _ (nc c5 htp5 (λ_ z=>by cases z)) htp5⟩,⟨D4,rfl,X57 _ _ (nc c5 wl5 (λ_ z=>by cases z)) wl5⟩,
  ⟨D5,y5,rfl,X57 _ _ (nc c5 tl5 (λ_ z=>by cases z)) tl5,tr5.keeps (X57.tup c5)⟩,⟨lv,rfl,(hlv.keeps (X6'.tup (s9 _ _ c5))).keeps (X67.tup c6)⟩,⟨hv,rfl,hhv.keeps (X7'.tup (s10 _ _ c6))⟩,by show 7<=20;decide⟩,rfl,hD5H⟩
end
end KK
end
section
set_option maxHeartbeats 8000000
set_option Elab.async false
set_option linter.all false
set_option maxRecDepth 100000
namespace KK
open PySem L2 KM
structure Tx3 (K:PySem.W.Frag) (mg:Str->Option Value) (aN:Addr):Prop where
 nAll:mg "all" = none
 nSorted:mg "sorted" = none
 nEnum:mg "enumerate" = none
 mn:mg "NOUGHT" = some (.ref aN)
 kn:Jo K aN 0 1
 tt:PySem.W.kitOne K (.type "tuple") (.type "tuple")=some true
abbrev Wl:=Option (Rat×Rat)
def xL (H:Hp) (v:V):Wl->Prop
 | none=>v = .non
 | some (x,y)=>∃a p q,v = .ref a/\H a=some (.tup [.ref p,.ref q])/\zv H p x/\zv H q y
theorem xL.same {H H':Hp}{v:V}{l:Wl}(h:xL H v l) (e:zt H H'):xL H' v l:=by
 cases l with
 | none=>exact h
 | some z=>obtain⟨a,p,q,e1,e2,e3,e4⟩:=h;exact⟨a,p,q,e1,e _ _ e2,e3.same e,e4.same e⟩
theorem iteD {c:Prop} [Decidable c] {A B:Prop}(e:¬c) (h:B):if decide c=true then A else B:=by
 rw[decide_eq_false e];exact z7 h
theorem VJ {α:Type}{l:List α}{i:Nat}{x:α}(h:l[i]? = some x):l.take (i+1)=l.take i++[x]:=by rw[List.take_add_one,h];rfl
theorem ln1 {σ:St}(h:σ.length=1):∃a,σ=[a]:=by
 match σ,h with
 | [a],_=>exact⟨a,rfl⟩
section
variable {P:Program}{w:World}{K:PySem.W.Frag}{mg:Str->Option Value}{base:Heap}{aN:Addr}
def zaz:Sp:=λvs H Q _=>∃p xs n,vs=[.ref p,.int n]/\H p=some (.tup xs)/\Q (.bl (decide (V.int (xs.length:Nat)=V.int n))) H
theorem zal:zD ["thing","many"] ["thing","many"] (zi qC):=⟨rfl,rfl,rfl,by decide +kernel,rfl,by decide +kernel,by decide +kernel⟩
theorem zee (D:Df K mg "is_tuple" qC ["thing","many"] []) (T:TxB K mg) (T3:Tx3 K mg aN):Cal P w K mg base "is_tuple" 1 ["thing","many"] [] zaz:=by
 refine D.cal (k:=0) zal (λvs H Q E h=>by obtain⟨_,_,_,rfl,_⟩:=h;rfl) (λf cdv A outer s H vs Q E hr h=>?_)
 obtain⟨p,xs,n,rfl,hp,k⟩:=h
 refine⟨_,(zr (zF (qg (zL qi (by rfl) T.nIs PyProof.Rows.boot_isinstance (zd (pv 0) (zd (ju (v:=.ty "tuple") (u:=.type "tuple") (by rfl) T.nTuple PyProof.Rows.boot_tuple rfl) zf))) (vw (va jc (zL zY (by rfl) T.nLen PySem.boot_len (zd (pv 0) zf)) (pv 1) (zI _)))))),?_⟩
 exact⟨_,rfl,_,_,_,true,rfl,.tup hp,T3.tt,true,rfl,xD ⟨_,rfl,p,_,rfl,.inr (SqT.of hp),_,rfl,rfl,k⟩⟩
def zbT:Sp:=λvs H Q _=>∃p x,vs=[.ref p]/\zv H p x/\Q (.bl true) H
theorem za6 (x:Rat):(Int.gcd (if x.num<0 then -x.num else x.num) (x.den:Int):Int)=1:=by
 rw[vI]
 have:=x.reduced
 show ((Nat.gcd x.num.natAbs x.den:Nat):Int)=1
 rw[this];rfl
theorem Va:zD ["thing","top","bottom"] ["thing"] (zi qA):=⟨rfl,rfl,rfl,by decide +kernel,rfl,by decide +kernel,by decide +kernel⟩
theorem zd4 (D:Df K mg "is_ratio" qA ["thing"] []) (T:TxB K mg) (cTu:Cal P w K mg base "is_tuple" 1 ["thing","many"] [] zaz) (cW:Cal P w K mg base "is_whole" 1 ["thing"] [] Zw) (cG:Cal P w K mg base "greatest_divisor" 1 ["one","other"] [] VE) :
  Cal P w K mg base "is_ratio" 2 ["thing"] [] zbT:=by
 refine D.cal (k:=1) Va (λvs H Q E h=>by obtain⟨_,_,rfl,_⟩:=h;rfl) (λf cdv A outer s H vs Q E hr1 h=>?_)
 obtain⟨p,x,rfl,hp,k⟩:=h
 refine⟨_,(zj (xa (qt (zT (zC cTu hr1 (zd (pv 0) (zd ze zf))) λ_=>rfl)) (zr (zF jd)) zO)
  (zj (jk (pv 0) (jj rfl (zM (zG (i:=1) Va.nd rfl (Or.inl rfl)) (zM (zG (i:=2) Va.nd rfl (Or.inl rfl)) xS))))
  (zj (xa ((vS (qt (zT (zC cW hr1 (zd (pv 1) zf)) λ_=>rfl)) (vS (qt (zT (zC cW hr1 (zd (pv 2) zf)) λ_=>rfl)) (v8 (zH jF (pv 2) ze (zI _)))))).pt (zr (zF jd)) zO)
  (zr (zF (va jc (zC cG hr1 (zd (zL vq (by rfl) T.nAbs PyProof.Rows.boot_abs (zd (pv 1) zf)) (zd (pv 2) zf))) ze (zI _))))))),?_⟩
 refine⟨_,rfl,p,_,_,rfl,hp,_,rfl,z7 ?_⟩
 refine⟨_,rfl,p,_,rfl,SqT.of hp,rfl,_,_,rfl,_,_,rfl,rfl,?_⟩
 refine⟨_,rfl,_,rfl,true,rfl,z7 ⟨_,rfl,_,rfl,true,rfl,z7 ?_⟩⟩
 refine⟨_,rfl,_,_,rfl,rfl,_,rfl,iteD (by have:=den_pos x;omega) ?_⟩
 refine⟨_,rfl,_,rfl,_,rfl,_,_,rfl,(by rw[vI];omega),(by omega),rfl,?_⟩
 show Q (.bl (decide (V.int (Int.gcd (if x.num<0 then -x.num else x.num) (x.den:Int):Int)=V.int 1))) H
 rw[za6,decide_eq_true rfl];exact k
def zeN:Sp:=λvs H Q _=>∃v l,vs=[v]/\xL H v l/\Q (.bl true) H
theorem Jh:zD ["thing"] ["thing"] (zi vg):=⟨rfl,rfl,rfl,by decide +kernel,rfl,by decide +kernel,by decide +kernel⟩
theorem zef (D:Df K mg "is_wall" vg ["thing"] []) (cTu:Cal P w K mg base "is_tuple" 1 ["thing","many"] [] zaz) (cIr:Cal P w K mg base "is_ratio" 2 ["thing"] [] zbT):Cal P w K mg base "is_wall" 3 ["thing"] [] zeN:=by
 refine D.cal (k:=2) Jh (λvs H Q E h=>by obtain⟨_,_,rfl,_⟩:=h;rfl) (λf cdv A outer s H vs Q E hr2 h=>?_)
 obtain⟨v,l,rfl,hw,k⟩:=h
 have hr1:xb 1 _:=hr2.mono (by decide)
 refine⟨_,(zj (xa (zH ji (pv 0) xE (zI _)) (zr (zF jd)) zO)
  (zr (zF (qg (zC cTu hr1 (zd (pv 0) (zd ze zf))) (qg (zC cIr hr2 (zd (zn zm (pv 0) ze (λ_ _=>rfl)) zf)) (vw (zC cIr hr2 (zd (zn zm (pv 0) ze (λ_ _=>rfl)) zf)))))))),?_⟩
 cases l with
 | none =>
  obtain rfl:v = .non:=hw
  exact⟨_,rfl,rfl,_,rfl,xD k⟩
 | some z =>
  obtain⟨x,y⟩:=z
  obtain⟨a,p,q,rfl,ha,hp,hq⟩:=hw
  refine⟨_,rfl,rfl,_,rfl,z7 ?_⟩
  refine⟨_,rfl,a,_,_,rfl,ha,true,rfl,xD ?_⟩
  refine⟨_,rfl,a,_,_,_,rfl,rfl,.of ha,rfl,p,x,rfl,hp,true,rfl,xD ?_⟩
  exact⟨_,rfl,a,_,_,_,rfl,rfl,.of ha,rfl,q,y,rfl,hq,k⟩
def zeO:Sp:=λvs H Q _=>∃a v1 v2 l1 l2,vs=[.ref a]/\H a=some (.tup [v1,v2])/\xL H v1 l1/\xL H v2 l2/\Q (.bl true) H
theorem zbK:zD ["thing"] ["thing"] (zi xI):=⟨rfl,rfl,rfl,by decide +kernel,rfl,by decide +kernel,by decide +kernel⟩
theorem zeh (D:Df K mg "is_wall_pair" xI ["thing"] []) (cTu:Cal P w K mg base "is_tuple" 1 ["thing","many"] [] zaz) (cWa:Cal P w K mg base "is_wall" 3 ["thing"] [] zeN):Cal P w K mg base "is_wall_pair" 4 ["thing"] [] zeO:=by
 refine D.cal (k:=3) zbK (λvs H Q E h=>by obtain⟨_,_,_,_,_,rfl,_⟩:=h;rfl) (λf cdv A outer s H vs Q E hr3 h=>?_)
 obtain⟨a,v1,v2,l1,l2,rfl,ha,h1,h2,k⟩:=h
 have hr1:xb 1 _:=hr3.mono (by decide)
 refine⟨_,(zr (zF (qg (zC cTu hr1 (zd (pv 0) (zd ze zf))) (qg (zC cWa hr3 (zd (zn zm (pv 0) ze (λ_ _=>rfl)) zf)) (vw (zC cWa hr3 (zd (zn zm (pv 0) ze (λ_ _=>rfl)) zf))))))),?_⟩
 refine⟨_,rfl,a,_,_,rfl,ha,true,rfl,xD ?_⟩
 refine⟨_,rfl,a,_,_,_,rfl,rfl,.of ha,rfl,v1,l1,rfl,h1,true,rfl,xD ?_⟩
 exact⟨_,rfl,a,_,_,_,rfl,rfl,.of ha,rfl,v2,l2,rfl,h2,k⟩
def zez:Sp:=λvs H Q _=>∃a p q x y n,vs=[.ref a]/\H a=some (.tup [.ref p,.ref q,.int n])/\zv H p x/\zv H q y/\Q (.bl true) H
theorem zaj:zD ["thing"] ["thing"] (zi xH):=⟨rfl,rfl,rfl,by decide +kernel,rfl,by decide +kernel,by decide +kernel⟩
theorem zd0 (D:Df K mg "is_ball_form" xH ["thing"] []) (cTu:Cal P w K mg base "is_tuple" 1 ["thing","many"] [] zaz) (cIr:Cal P w K mg base "is_ratio" 2 ["thing"] [] zbT) (cW:Cal P w K mg base "is_whole" 1 ["thing"] [] Zw):Cal P w K mg base "is_ball_form" 3 ["thing"] [] zez:=by
 refine D.cal (k:=2) zaj (λvs H Q E h=>by obtain⟨_,_,_,_,_,_,rfl,_⟩:=h;rfl) (λf cdv A outer s H vs Q E hr2 h=>?_)
 obtain⟨a,p,q,x,y,n,rfl,ha,hp,hq,k⟩:=h
 have hr1:xb 1 _:=hr2.mono (by decide)
 refine⟨_,(zr (zF (qg (zC cTu hr1 (zd (pv 0) (zd ze zf))) (qg (zC cIr hr2 (zd (zn zm (pv 0) ze (λ_ _=>rfl)) zf)) (qg (zC cIr hr2 (zd (zn zm (pv 0) ze (λ_ _=>rfl)) zf)) (vw (zC cW hr1 (zd (zn zm (pv 0) ze (λ_ _=>rfl)) zf)))))))),?_⟩
 refine⟨_,rfl,a,_,_,rfl,ha,true,rfl,xD ?_⟩
 refine⟨_,rfl,a,_,_,_,rfl,rfl,.of ha,rfl,p,x,rfl,hp,true,rfl,xD ?_⟩
 refine⟨_,rfl,a,_,_,_,rfl,rfl,.of ha,rfl,q,y,rfl,hq,true,rfl,xD ?_⟩
 exact⟨_,rfl,a,_,_,_,rfl,rfl,.of ha,rfl,n,rfl,k⟩
theorem all_map (f:α->Bool) (l:List α):(l.map f).all id=l.all f:=by rw[List.all_map];rfl
theorem QN {σ:St}{H:Hp}{Q:VK}{j:Nat}{sp:Sp}{r:Addr}{us:List V}{bs:List vY}(hσ:σ[j]? = some (some (.ref r))) (hr:H r=some (.tup us)) (hB:xf H us bs) (hlen:bs.length<=8)
  (hsp:∀(H1:Hp) (v:V) (b:vY) (Q:VK),zt H H1->b∈bs->(∃a p q,v = .ref a/\H1 a=some (.tup [.ref p,.ref q,.int b.wt])/\zv H1 p b.pl/\zv H1 q b.sp)->Q (.bl true) H1->sp [v] H1 Q E0)
  (k:∀D H',zt H H'->H' D=some (.lst ((List.replicate bs.length true).map V.bl))->Q (.ref D) H') :
  VH 1 (za8 K (z8 j)) (zA 0) (λ_ H Q=>Q true H) (jq sp [] E0 (xr (z8 0) jD)) σ H Q:=by
 refine⟨_,hσ,r,rfl,⟨_,SqT.of hr⟩,λD hD=>?_⟩
 have hl:=hB.length
 refine jQ (J:=Itt K r) (g:=zA 0) (tt:=λ_ H Q=>Q true H) (te:=jq sp [] E0 (xr (z8 0) jD)) (Q:=Q) (N:=us.length) (n:=1) (λi H2 ys=>zt H H2/\ys=(List.replicate i true).map V.bl) ⟨zt.upd hD,rfl⟩ (λi H2 ys hi ⟨s2,_⟩=>?_) (λH2 ys ⟨s2,_⟩=>?_) ?_ ?_
 ·exact⟨us,us[i],.of (s2 _ _ hr),List.getElem?_eq_getElem hi⟩
 ·exact⟨us,.of (s2 _ _ hr),Nat.le_refl _⟩
 ·rintro i x zs H2 H3 ys Nx hNx hi hzs ⟨rfl,f1⟩ ⟨s2,rfl⟩ hD2
  obtain⟨z1,rfl⟩:=ln1 hzs
  obtain⟨a,p,q,b,eb,rfl,ha,hp,hq⟩:=hB.get (f1 us (.of (s2 _ _ hr)))
  dsimp only[zA]
  try rw[if_pos rfl]
  refine⟨_,rfl,?_⟩
  refine hsp H3 (.ref a) b _ s2 (List.mem_of_getElem? eb) ⟨a,p,q,rfl,s2 _ _ ha,hp.same s2,hq.same s2⟩ ?_
  refine⟨hD2,?_,hNx _ _ ⟨XU hD s2 (zt.refl _),?_⟩⟩
  ·rw[List.length_map,List.length_replicate];exact vX (by omega)
  ·rw[List.replicate_succ',List.map_append];rfl
 ·rintro H2 ys ⟨s2,rfl⟩ hD2
  rw[hl]at hD2
  exact k D H2 s2 hD2
theorem Jv (n:Nat):(List.replicate n true).all id=true:=by simp
def evB (b0:vY) (bs:List vY):Bool:=bs.all λb=>decide (b.wt=b0.wt)
def xc:Wl->Bool
 | none=>true
 | some (_,y)=>decide (y=0)
theorem zbz {X:Cx}{K:PySem.W.Frag}(hK:X.K=K) (hu:X.A.units+64<cLine):OpR X (compareOp .Eq) (zbG K):=by subst hK;exact zdl hu
theorem zaJ (i j:Int):decide (V.int i=V.int j)=decide (i=j):=by
 rw[Bool.eq_iff_iff,decide_eq_true_eq,decide_eq_true_eq]
 exact⟨λz=>by injection z,λz=>by rw[z]⟩
theorem VX {σ:St}{H:Hp}{Q:VK}{r:Addr}{us:List V}{bs:List vY}{b0:vY}(hσ:σ[0]? = some (some (.ref r))) (hr:H r=some (.tup us)) (hB:xf H us bs) (h0:bs[0]? = some b0) (hlen:bs.length<=8)
  (k:∀D H',zt H H'->H' D=some (.lst ((bs.map λb=>decide (b.wt=b0.wt)).map V.bl))->Q (.ref D) H') :
  X9 1 [0] (za8 K (z8 0)) (zA 0) (λ_ H Q=>Q true H) (tOp rEq (tOp (vz K) (z8 0) (tC (.int 2))) (tOp (vz K) (tOp (vz K) (z8 1) (tC (.int 0))) (tC (.int 2)))) σ H Q:=by
 have hcap:qm σ [0]=[some (.ref r)]:=by simp[qm,hσ]
 refine⟨_,hσ,r,rfl,⟨_,SqT.of hr⟩,λD hD=>?_⟩
 have hl:=hB.length
 have hu0:0<us.length:=by rw[hl];exact(List.getElem?_eq_some_iff.mp h0).1
 obtain⟨a0,p0,q0,b0',e0,f0,ha0,_,_⟩:=hB.get (i:=0) (List.getElem?_eq_getElem hu0)
 rw[h0]at e0;cases e0
 refine jf (J:=Itt K r) (g:=zA 0) (tt:=λ_ H Q=>Q true H) (te:=tOp rEq (tOp (vz K) (z8 0) (tC (.int 2))) (tOp (vz K) (tOp (vz K) (z8 1) (tC (.int 0))) (tC (.int 2)))) (Q:=Q) (N:=us.length) (n:=1)
  (λi H2 ys=>zt H H2/\ys=((bs.map λb=>decide (b.wt=b0.wt)).map V.bl).take i) ⟨zt.upd hD,rfl⟩ (λi H2 ys hi ⟨s2,_⟩=>?_) (λH2 ys ⟨s2,_⟩=>?_) ?_ ?_
 ·exact⟨us,us[i],.of (s2 _ _ hr),List.getElem?_eq_getElem hi⟩
 ·exact⟨us,.of (s2 _ _ hr),Nat.le_refl _⟩
 ·rintro i x zs H2 H3 ys Nx hNx hi hzs ⟨rfl,f1⟩ ⟨s2,rfl⟩ hD2
  obtain⟨z1,rfl⟩:=ln1 hzs
  obtain⟨a,p,q,b,eb,rfl,ha,hp,hq⟩:=hB.get (f1 us (.of (s2 _ _ hr)))
  rw[hcap]
  dsimp only[zA]
  refine⟨rfl,?_⟩
  rw[if_pos rfl]
  refine⟨_,rfl,a,_,_,_,rfl,rfl,.of (s2 _ _ ha),rfl,_,rfl,r,_,_,_,rfl,rfl,.of (s2 _ _ hr),(by rw[<-f0];exact qX (j:=0) (List.getElem?_eq_getElem hu0)),a0,_,_,_,rfl,rfl,.of (s2 _ _ ha0),rfl,rfl,?_⟩
  refine⟨hD2,?_,hNx _ _ ⟨XU hD s2 (zt.refl _),?_⟩⟩
  ·rw[List.length_take];exact vX (by omega)
  ·rw[VJ (x:=V.bl (decide (b.wt=b0.wt))) (by rw[List.getElem?_map,List.getElem?_map,eb];rfl)]
   show _++[V.bl (decide (V.int b.wt=V.int b0.wt))]=_
   rw[zaJ]
 ·rintro H2 ys ⟨s2,rfl⟩ hD2
  rw[List.take_of_length_le (by rw[List.length_map,List.length_map,hl];exact Nat.le_refl _)]at hD2
  exact k D H2 s2 hD2
def zeB:Sp:=λvs H Q _=>∃r us bs b0,vs=[.ref r]/\H r=some (.tup us)/\xf H us bs/\bs[0]? = some b0/\bs.length<=8/\∀H',zt H H'->Q (.bl (evB b0 bs)) H'
theorem zbJ:zD ["row"] ["row"] (zi vf):=⟨rfl,rfl,rfl,by decide +kernel,rfl,by decide +kernel,by decide +kernel⟩
def zeJ:Sp:=λvs H Q _=>∃r us bs,vs=[.ref r]/\H r=some (.tup us)/\xf H us bs/\0<bs.length/\bs.length<=8/\∀H',zt H H'->Q (.bl true) H'
theorem zap:zD ["thing"] ["thing"] (zi xP):=⟨rfl,rfl,rfl,by decide +kernel,rfl,by decide +kernel,by decide +kernel⟩
theorem J7 (D:Df K mg "is_row_form" xP ["thing"] []) (T:TxB K mg) (T3:Tx3 K mg aN) (cBf:Cal P w K mg base "is_ball_form" 3 ["thing"] [] zez):Cal P w K mg base "is_row_form" 4 ["thing"] [] zeJ:=by
 refine D.cal (k:=3) zap (λvs H Q E h=>by obtain⟨_,_,_,rfl,_⟩:=h;rfl) (λf cdv A outer s H vs Q E hr3 h=>?_)
 obtain⟨r,us,bs,rfl,hrr,hB,h0,hlen,k⟩:=h
 have hl:=hB.length
 refine⟨_,(zr (zF (qg (zL qi (by rfl) T.nIs PyProof.Rows.boot_isinstance (zd (pv 0) (zd (ju (v:=.ty "tuple") (u:=.type "tuple") (by rfl) T.nTuple PyProof.Rows.boot_tuple rfl) zf))) (qg (va Zn (zL zY (by rfl) T.nLen PySem.boot_len (zd (pv 0) zf)) ze (zI _)) (vw (zL (ZE rfl) (by rfl) T3.nAll (by decide +kernel) (zd (vF (NB:=["ball"]) rfl (by decide +kernel) (by decide +kernel) rfl (by decide +kernel) (v7 (pv 0)) (by intro _ _ _;refine⟨?_,?_,?_⟩;(exact(zG (i:=0) (show List.Nodup (["ball"]:List Str) by decide +kernel) rfl (Or.inl rfl)));(exact xq);(exact(zC cBf hr3 (zd (pv 0) zf))))) zf))))))),?_⟩
 refine⟨_,rfl,_,_,_,true,rfl,.tup hrr,T3.tt,true,rfl,xD ?_⟩
 refine⟨_,rfl,r,_,rfl,.inr (SqT.of hrr),_,_,rfl,rfl,_,rfl,?_⟩
 rw[show decide ((0:Int)<((us.length:Nat):Int))=true from decide_eq_true (by omega)]
 refine xD ?_
 unfold tCB xr
 refine QN (K:=K) (j:=0) rfl hrr hB hlen (λH1 v b Q e mb ⟨a,p,q,e1,e2,e3,e4⟩ q'=>?_) λDD H2 e2 hD=>⟨DD,_,rfl,SqL.of hD,?_⟩
 ·subst e1
  exact⟨a,p,q,b.pl,b.sp,b.wt,rfl,e2,e3,e4,q'⟩
 ·rw[Jv]
  exact k H2 e2
theorem zd3 (D:Df K mg "is_even" vf ["row"] []) (T:TxB K mg) (T3:Tx3 K mg aN) (cRf:Cal P w K mg base "is_row_form" 4 ["thing"] [] zeJ):Cal P w K mg base "is_even" 5 ["row"] [] zeB:=by
 refine D.cal (k:=4) zbJ (λvs H Q E h=>by obtain⟨_,_,_,_,rfl,_⟩:=h;rfl) (λf cdv A outer s H vs Q E hr4 h=>?_)
 obtain⟨r,us,bs,b0,rfl,hrr,hB,h0,hlen,k⟩:=h
 have hb0:0<bs.length:=(List.getElem?_eq_some_iff.mp h0).1
 refine⟨_,(zr (zF (qg (zC cRf hr4 (zd (pv 0) zf)) (vw (zL (ZE rfl) (by rfl) T3.nAll (by decide +kernel) (zd (qe (NB:=["ball"]) (FR:=["row"]) (js:=[0]) rfl rfl (λ_ _ h=>h) (.cons rfl rfl rfl ⟨_,rfl⟩ .nil) rfl (by decide +kernel) rfl (by decide +kernel) (v7 (pv 0)) (by intro _ _ _;refine⟨?_,?_,?_⟩;(exact(zG (i:=0) (show List.Nodup (["ball","row"]:List Str) by decide +kernel) rfl (Or.inl rfl)));(exact xq);(exact(va jc (zn (xQ (K:=K) rfl) (pv 0) ze (λ_ _=>rfl)) (zn (xQ (K:=K) rfl) (zn (xQ (K:=K) rfl) (pv 1) ze (λ_ _=>rfl)) ze (λ_ _=>rfl)) (zI _))))) zf)))))),?_⟩
 refine⟨_,rfl,r,us,bs,rfl,hrr,hB,hb0,hlen,λH2 e2=>⟨true,rfl,xD ?_⟩⟩
 unfold tCB xr
 refine VX (K:=K) rfl (e2 _ _ hrr) (hB.same e2) h0 hlen λD3 H3 e3 hD3=>⟨D3,_,rfl,SqL.of hD3,?_⟩
 rw[all_map];exact k H3 (e2.trans e3)
theorem QO {σ:St}{H:Hp}{Q:VK}{r:Addr}{v1 v2:V}{l1 l2:Wl}(hN:Jo K aN 0 1) (hσ:σ[0]? = some (some (.ref r))) (hr:H r=some (.tup [v1,v2])) (h1:xL H v1 l1) (h2:xL H v2 l2)
  (k:∀D H',zt H H'->H' D=some (.lst ([xc l1,xc l2].map V.bl))->Q (.ref D) H') :
  VH 1 (za8 K (z8 0)) (zA 0) (λ_ H Q=>Q true H) (zdH (tOp (λx y H Q=>y = .non/\Q (.bl (decide (x = .non))) H) (z8 0) (tC .non)) (tOp (zbG K) (tOp (vz K) (z8 0) (tC (.int 1))) (tC (.ref aN)))) σ H Q:=by
 refine⟨_,hσ,r,rfl,⟨_,SqT.of hr⟩,λD hD=>?_⟩
 refine jQ (J:=Itt K r) (g:=zA 0) (tt:=λ_ H Q=>Q true H) (te:=zdH (tOp (λx y H Q=>y = .non/\Q (.bl (decide (x = .non))) H) (z8 0) (tC .non)) (tOp (zbG K) (tOp (vz K) (z8 0) (tC (.int 1))) (tC (.ref aN)))) (Q:=Q) (N:=2) (n:=1)
  (λi H2 ys=>zt H H2/\ys=([xc l1,xc l2].map V.bl).take i) ⟨zt.upd hD,rfl⟩ (λi H2 ys hi ⟨s2,_⟩=>?_) (λH2 ys ⟨s2,_⟩=>?_) ?_ ?_
 ·exact⟨_,[v1,v2][i],.of (s2 _ _ hr),List.getElem?_eq_getElem hi⟩
 ·exact⟨_,.of (s2 _ _ hr),Nat.le_refl _⟩
 ·rintro i x zs H2 H3 ys Nx hNx hi hzs ⟨rfl,f1⟩ ⟨s2,rfl⟩ hD2
  obtain⟨z1,rfl⟩:=ln1 hzs
  have g1:=f1 _ (.of (s2 _ _ hr))
  obtain⟨l,hl,el⟩:∃l,xL H3 x l/\([xc l1,xc l2].map V.bl)[i]? = some (.bl (xc l)):=by
   match i,hi with
   | 0,_=>simp at g1;subst g1;exact⟨l1,h1.same s2,rfl⟩
   | 1,_=>simp at g1;subst g1;exact⟨l2,h2.same s2,rfl⟩
  dsimp only[zA]
  try rw[if_pos rfl]
  have fin:H3 D=some (.lst (([xc l1,xc l2].map V.bl).take i))/\(([xc l1,xc l2].map V.bl).take i).length<sizeLine/\Nx (upd H3 D (.lst (([xc l1,xc l2].map V.bl).take i++[.bl (xc l)]))) (([xc l1,xc l2].map V.bl).take i++[.bl (xc l)]):=by
   refine⟨hD2,?_,hNx _ _ ⟨XU hD s2 (zt.refl _),?_⟩⟩
   ·rw[List.length_take];exact vX (by omega)
   ·rw[VJ el]
  cases l with
  | none =>
   obtain rfl:x = .non:=hl
   exact⟨_,rfl,rfl,true,rfl,xD fin⟩
  | some z =>
   obtain⟨px,py⟩:=z
   obtain⟨a,p,q,rfl,ha,hp,hq⟩:=hl
   refine⟨_,rfl,rfl,false,rfl,z7 ⟨_,rfl,a,_,_,_,rfl,rfl,.of ha,rfl,_,aN,0,1,hq.rd,rfl,hN,Jj _,?_⟩⟩
   rw[show PyData.eqv (.tuple [.int py.num,.int (py.den:Int)]) (.tuple [.int 0,.int 1])=xc (some (px,py))from zcL py 0]
   exact fin
 ·rintro H2 ys ⟨s2,rfl⟩ hD2
  exact k D H2 s2 hD2
def zeL:Sp:=λvs H Q _=>∃a v1 v2 l1 l2,vs=[.ref a]/\H a=some (.tup [v1,v2])/\xL H v1 l1/\xL H v2 l2/\∀H',zt H H'->Q (.bl (xc l1&&xc l2)) H'
theorem zaq:zD ["walls"] ["walls"] (zi qB):=⟨rfl,rfl,rfl,by decide +kernel,rfl,by decide +kernel,by decide +kernel⟩
theorem zeb (D:Df K mg "is_still" qB ["walls"] []) (T3:Tx3 K mg aN) (cWp:Cal P w K mg base "is_wall_pair" 4 ["thing"] [] zeO):Cal P w K mg base "is_still" 5 ["walls"] [] zeL:=by
 refine D.cal (k:=4) zaq (λvs H Q E h=>by obtain⟨_,_,_,_,_,rfl,_⟩:=h;rfl) (λf cdv A outer s H vs Q E hr h=>?_)
 obtain⟨a,v1,v2,l1,l2,rfl,ha,h1,h2,k⟩:=h
 have hu:=hr.units
 refine⟨_,(zr (zF (qg (zC cWp hr (zd (pv 0) zf)) (vw (zL (ZE rfl) (by rfl) T3.nAll (by decide +kernel) (zd (vF (NB:=["wall"]) rfl (by decide +kernel) (by decide +kernel) rfl (by decide +kernel) (v7 (pv 0)) (by intro _ _ _;refine⟨?_,?_,?_⟩;(exact(zG (i:=0) (show List.Nodup (["wall"]:List Str) by decide +kernel) rfl (Or.inl rfl)));(exact xq);(exact(zej (va ji (pv 0) xE (zI _)) (vw (va (zbz (K:=K) rfl hu) (zn (xQ (K:=K) rfl) (pv 0) ze (λ_ _=>rfl)) (zbC (v:=.ref aN) (by rfl) T3.mn rfl) (zI _))))))) zf)))))),?_⟩
 refine⟨_,rfl,a,v1,v2,l1,l2,rfl,ha,h1,h2,true,rfl,xD ?_⟩
 unfold tCB xr
 refine QO (K:=K) T3.kn rfl ha h1 h2 λDD H2 e2 hD=>⟨DD,_,rfl,SqL.of hD,?_⟩
 rw[show ([xc l1,xc l2].all id)=(xc l1&&xc l2) by simp]
 exact k H2 e2
end
end KK
end
section
set_option maxHeartbeats 8000000
set_option Elab.async false
set_option linter.all false
set_option maxRecDepth 100000
namespace L2
open PySem PySem.Spec PyProof.Rows PySem.W
section
variable {X:Cx}
def zek (K:PySem.W.Frag):R2:=λx y H Q=>∃l b xs zs,x = .ref l/\y = .ref b/\SqL K H l xs/\SqL K H b zs/\xs.length+zs.length<=sizeLine/\∀p,H p=none->Q (.ref p) (upd H p (.lst (xs++zs)))
theorem XM:OpR X (binaryOp .Add) (zek X.K):=by
 intro pins s σ H x y v u Q I rx ry h
 obtain⟨l,b,xs,zs,rfl,rfl,hH,hB,hz,q⟩:=h
 cases rx
 cases ry
 obtain⟨its,r,pl,z⟩:=I.list hH
 obtain⟨its2,r2,pl2,z2⟩:=I.list hB
 have e1:=r.length
 have e2:=r2.length
 obtain⟨⟨cls,dd,data,sl⟩,n,ho,hc,hdn,hd⟩:=pl
 obtain⟨⟨cls2,dd2,data2,sl2⟩,n2,ho2,hc2,hdn2,hd2⟩:=pl2
 simp only at hc hd hc2 hd2
 subst hc hd hc2 hd2
 refine concat_meets ⟨_,ho,rfl⟩ ⟨_,ho2,rfl⟩ noFill_list_add seq_list_add PySem.F.slot_list_add PySem.F.entry_list_add (PySem.F.args_list_add_2 _ _) (list_addW l b its.toArray its2.toArray n n2 dd dd2 sl sl2 (by simp only[List.size_toArray];omega)) ⟨ho,ho2,?_⟩
 have ea:its.toArray++its2.toArray=(its++its2).toArray:=by simp
 rw[ea]
 exact⟨.ref _,_,I.lnew (t':=s.toks) (r.append r2) (by rw[List.length_append];omega),rfl,q _ I.fresh⟩
end
end L2
end
section
set_option maxHeartbeats 8000000
set_option Elab.async false
set_option linter.all false
set_option maxRecDepth 100000
namespace L2
open PySem
theorem zbV {D:jC}{σ:St}{H:Hp}(h:D.nx σ H):zcx D σ H:=h
theorem vA {t u:TS}{D:jC}{σ:St}{H:Hp}(R:St->Hp->Prop) (h2:∀σ' H',R σ' H'->u D σ' H') (h1:∀nx:St->Hp->Prop,(∀σ' H',R σ' H'->nx σ' H')->t { D with nx:=nx } σ H):Jl t u D σ H:=h1 (u D) h2
end L2
namespace KK
open PySem L2 KM
def lv:Option Int->V
 | none=>.non
 | some l=>.int l
def f1:Option Int->Option Int->Int->Int->Int×Int
 | some l,some h,s,v=>(l+(s - l) % (2*(h - l)),v)
 | some l,none,s,v=>if s<l then(2*l - s,-v)else(s,v)
 | none,_,s,v=>(s,v)
def f2:Option Int->Int×Int->Int×Int
 | some h,p=>if h<p.1 then(2*h - p.1,-p.2)else p
 | none,p=>p
def zaQ (i:Int):Int:=if i<0 then -i else i
def f3:Option Int->Int×Int->Int×Int
 | some l,p=>if p.1=l then(p.1,zaQ p.2)else p
 | none,p=>p
def f4:Option Int->Int×Int->Int×Int
 | some h,p=>if p.1=h then(p.1,-zaQ p.2)else p
 | none,p=>p
def jh (lo hi:Option Int) (s v:Int):Int×Int:=f4 hi (f3 lo (f2 hi (f1 lo hi s v)))
def wsc (w:Option (Int×Int)) (b:Int):Option Int:=w.map λt=>t.1*b
def Wb (w:Option (Int×Int)):Prop:=∀t,w=some t->Bd 2000 t.1
section
variable {P:Program}{w:World}{K:PySem.W.Frag}{mg:Str->Option Value}{base:Heap}{C:Addr}
theorem zb9 {H:Hp}{v:V}{w:Option (Int×Int)} (h:Xu H v w):(w=none/\v = .non)\/∃t a,w=some t/\v = .ref a/\H a=some (.tup [.int t.1,.int t.2]):=by
 cases w with
 | none=>exact .inl ⟨rfl,h⟩
 | some t=>obtain⟨a,e,h⟩:=h;exact .inr ⟨t,a,rfl,e,h⟩
theorem VO.same {H H':Hp}{c:Addr}{pb sb:Int}{tk:Rat}{ws:List Int}{trs:List (Int×Int)}{lo hi:Option (Int×Int)} (h:VO H C c pb sb tk ws trs lo hi) (e:zt H H'):VO H' C c pb sb tk ws trs lo hi:=by
 obtain⟨dx,fs,h1,F⟩:=h
 obtain⟨tp,t1,t2⟩:=F.tick
 obtain⟨wl,w1,w2⟩:=F.weights
 obtain⟨tl,tv,r1,r2,r3⟩:=F.tracks
 obtain⟨v,l1,l2⟩:=F.low
 obtain⟨u,g1,g2⟩:=F.high
 exact⟨dx,fs,e _ _ h1,F.pb,F.sb,⟨tp,t1,e _ _ t2⟩,⟨wl,w1,e _ _ w2⟩,⟨tl,tv,r1,e _ _ r2,r3.keeps (.of e)⟩,⟨v,l1,l2.keeps (.of e)⟩,⟨u,g1,g2.keeps (.of e)⟩,F.len⟩
def zaw (C:Addr):Sp:=λvs H Q _=>∃c a t pb sb tk ws trs lo hi x v top bot,vs=[.ref c,.ref a,.ref t]/\VO H C c pb sb tk ws trs lo hi/\H a=some (.tup [.int x,.int v])/\H t=some (.tup [.int top,.int bot]) ∧
 Bd 2000 x/\Bd 2000 v/\Bd 2000 top/\Bd 2000 bot/\0<bot/\Wb lo/\Wb hi/\(∀l h,lo=some l->hi=some h->l.1<h.1) ∧
 ∀r H',zt H H'->H' r=some (.tup [.int (jh (wsc lo bot) (wsc hi bot) (x*bot+v*top) v).1,.int (jh (wsc lo bot) (wsc hi bot) (x*bot+v*top) v).2])->Q (.ref r) H'
theorem qU:zD ["course","track","ticks","top","bottom","spot","speed","low","high"] ["course","track","ticks"] (zi vo):=⟨rfl,rfl,rfl,by decide +kernel,rfl,by decide +kernel,by decide +kernel⟩
theorem b2k {i:Int}(h:Bd 2000 i):Bd 1000000 i:=h.mono (by decide)
theorem b2i:Bd 1000000 (2:Int):=Bd.mono (m:=2) (show (2:Int).natAbs<2^2 by decide) (by decide)
theorem zc8 (D:Df K mg "line_at" vo ["course","track","ticks"] []) (T:TxB K mg) (TC:TCo K C):Cal P w K mg base "line_at" 1 ["course","track","ticks"] [] (zaw C):=by
 refine D.cal (k:=0) qU (λvs H Q E h=>by obtain⟨_,_,_,_,_,_,_,_,_,_,_,_,_,_,rfl,_⟩:=h;rfl) (λf cdv A outer s H vs Q E hr h=>?_)
 obtain⟨c,a,t,pb,sb,tk,ws,trs,lo,hi,x,v,top,bot,rfl,hco,ha,ht,bx,bv,btp,bbt,pbt,wl,wh,hlh,k⟩:=h
 obtain⟨dx,fs,hc,F⟩:=id hco
 obtain⟨vl,el,tl⟩:=F.low
 obtain⟨vh,eh,th⟩:=F.high
 refine⟨_,(zj (jk (pv 2) (jj rfl (zM (zG (i:=3) qU.nd rfl (Or.inl rfl)) (zM (zG (i:=4) qU.nd rfl (Or.inl rfl)) xS))))
  (zj (zE (i:=5) qU.nd rfl (Or.inl rfl) (zw xt (zw zJ (zn zm (pv 1) ze (λ_ _=>rfl)) (pv 4)) (zw zJ (zn zm (pv 1) ze (λ_ _=>rfl)) (pv 3))))
  (zj (zE (i:=6) qU.nd rfl (Or.inl rfl) (zn zm (pv 1) ze (λ_ _=>rfl)))
  (zj (zE (i:=7) qU.nd rfl (Or.inl rfl) (jW (zH ji (qT (pv 0) rfl) xE (zI _)) xE (zw zJ (zn zm (qT (pv 0) rfl) ze (λ_ _=>rfl)) (pv 4))))
  (zj (zE (i:=8) qU.nd rfl (Or.inl rfl) (jW (zH ji (qT (pv 0) rfl) xE (zI _)) xE (zw zJ (zn zm (qT (pv 0) rfl) ze (λ_ _=>rfl)) (pv 4))))
  (zj (xa ((vy (zH vE (pv 7) xE (zI _)) (qu (zH vE (pv 8) xE (zI _))))).pt (zr (zE (i:=5) qU.nd rfl (Or.inl rfl) (zw xt (pv 7) (zw vv (zw xW (pv 5) (pv 7)) (zw zJ ze (zw xW (pv 8) (pv 7))))))) (zr (xa ((vy (zH vE (pv 7) xE (zI _)) (qu (zH jF (pv 5) (pv 7) (zI _))))).pt (zr (Zc (i:=5) (j:=6) rfl qU.nd rfl rfl (by decide) rfl rfl (zd (zw xW (zw zJ ze (pv 7)) (pv 5)) (zd (ZQ jL (pv 6)) zf)) (by rfl))) zO)))
  (zj (xa ((vy (zH vE (pv 8) xE (zI _)) (qu (zH Zn (pv 5) (pv 8) (zI _))))).pt (zr (Zc (i:=5) (j:=6) rfl qU.nd rfl rfl (by decide) rfl rfl (zd (zw xW (zw zJ ze (pv 8)) (pv 5)) (zd (ZQ jL (pv 6)) zf)) (by rfl))) zO)
  (zj (xa ((vy (zH vE (pv 7) xE (zI _)) (qu (zH jc (pv 5) (pv 7) (zI _))))).pt (zr (zE (i:=6) qU.nd rfl (Or.inl rfl) (zL vq (by rfl) T.nAbs PyProof.Rows.boot_abs (zd (pv 6) zf)))) zO)
  (zj (xa ((vy (zH vE (pv 8) xE (zI _)) (qu (zH jc (pv 5) (pv 8) (zI _))))).pt (zr (zE (i:=6) qU.nd rfl (Or.inl rfl) (ZQ jL (zL vq (by rfl) T.nAbs PyProof.Rows.boot_abs (zd (pv 6) zf))))) zO)
  (zr (zF (zU (zd (pv 5) (zd (pv 6) zf)))))))))))))),?_⟩
 refine⟨_,rfl,t,_,rfl,.of ht,rfl,_,_,rfl,_,_,rfl,rfl,?_⟩
 dsimp only[zA]
 refine⟨_,rfl,a,_,_,_,rfl,rfl,.of ha,at0 ..,_,rfl,_,_,rfl,rfl,⟨b2k bx,b2k bbt⟩,_,rfl,a,_,_,_,rfl,rfl,.of ha,at1 ..,_,rfl,_,_,rfl,rfl,⟨b2k bv,b2k btp⟩,_,_,rfl,rfl,?_⟩
 dsimp only[zA]
 refine⟨_,rfl,a,_,_,_,rfl,rfl,.of ha,at1 ..,?_⟩
 dsimp only[zA]
 have bs0:Bd 4001 (x*bot+v*top):=((bx.mul bbt).add (bv.mul btp)).mono (by decide)
 generalize x*bot+v*top=s0 at *
 refine vA (λσ' G=>H=G/\σ'=[some (.ref c),some (.ref a),some (.ref t),some (.int top),some (.int bot),some (.int s0),some (.int v),some (lv (wsc lo bot)),none]) ?_ ?_
 rotate_left
 ·intro nx hnx
  rcases zb9 tl with⟨rfl,rfl⟩ | ⟨l,al,rfl,rfl,hal⟩
  ·exact⟨_,rfl,c,C,dx,fs,_,rfl,hc,TC.cls,TC.low,el,rfl,_,rfl,xD (hnx _ _ ⟨rfl,rfl⟩)⟩
  ·exact⟨_,rfl,c,C,dx,fs,_,rfl,hc,TC.cls,TC.low,el,rfl,_,rfl,z7 ⟨_,rfl,c,C,dx,fs,_,rfl,hc,TC.cls,TC.low,el,al,_,_,_,rfl,rfl,.of hal,at0 ..,_,rfl,_,_,rfl,rfl,⟨b2k (wl _ rfl),b2k bbt⟩,hnx _ _ ⟨rfl,rfl⟩⟩⟩
 rintro σ1 G ⟨rfl,rfl⟩
 refine vA (λσ' G=>H=G/\σ'=[some (.ref c),some (.ref a),some (.ref t),some (.int top),some (.int bot),some (.int s0),some (.int v),some (lv (wsc lo bot)),some (lv (wsc hi bot))]) ?_ ?_
 rotate_left
 ·intro nx hnx
  rcases zb9 th with⟨rfl,rfl⟩ | ⟨l,al,rfl,rfl,hal⟩
  ·exact⟨_,rfl,c,C,dx,fs,_,rfl,hc,TC.cls,TC.high,eh,rfl,_,rfl,xD (hnx _ _ ⟨rfl,rfl⟩)⟩
  ·exact⟨_,rfl,c,C,dx,fs,_,rfl,hc,TC.cls,TC.high,eh,rfl,_,rfl,z7 ⟨_,rfl,c,C,dx,fs,_,rfl,hc,TC.cls,TC.high,eh,al,_,_,_,rfl,rfl,.of hal,at0 ..,_,rfl,_,_,rfl,rfl,⟨b2k (wh _ rfl),b2k bbt⟩,hnx _ _ ⟨rfl,rfl⟩⟩⟩
 rintro σ1 G ⟨rfl,rfl⟩
 have bL:∀l,wsc lo bot=some l->Bd 4000 l:=λl e=>by
  cases lo with
  | none=>cases e
  | some z=>cases e;exact(wl _ rfl).mul bbt
 have bH:∀l,wsc hi bot=some l->Bd 4000 l:=λl e=>by
  cases hi with
  | none=>cases e
  | some z=>cases e;exact(wh _ rfl).mul bbt
 have hLH:∀l h,wsc lo bot=some l->wsc hi bot=some h->l<h:=λl h e1 e2=>by
  cases lo with
  | none=>cases e1
  | some z =>
   cases hi with
   | none=>cases e2
   | some y=>cases e1;cases e2;exact Int.mul_lt_mul_of_pos_right (hlh _ _ rfl rfl) pbt
 generalize wsc lo bot=L at *
 generalize wsc hi bot=R at *
 have b4:∀{i:Int},Bd 4000 i->Bd 1000000 i:=λh=>h.mono (by decide)
 refine vA (λσ' G=>H=G/\σ'=[some (.ref c),some (.ref a),some (.ref t),some (.int top),some (.int bot),some (.int (f1 L R s0 v).1),some (.int (f1 L R s0 v).2),some (lv L),some (lv R)]) ?_ ?_
 rotate_left
 ·intro nx hnx
  cases L with
  | none=>exact⟨_,rfl,rfl,_,rfl,z7 (z7 ⟨_,rfl,rfl,_,rfl,z7 (z7 (hnx _ _ ⟨rfl,rfl⟩))⟩)⟩
  | some l =>
   cases R with
   | none =>
    refine⟨_,rfl,rfl,_,rfl,xD ⟨_,rfl,rfl,_,rfl,z7 ?_⟩⟩
    refine⟨_,rfl,rfl,_,rfl,xD ⟨_,rfl,_,rfl,_,_,rfl,rfl,_,rfl,qo (λh=>?_) (λh=>?_)⟩⟩
    ·have h':s0<l:=of_decide_eq_true h
     refine⟨_,rfl,_,_,rfl,rfl,⟨b2i,b4 (bL _ rfl)⟩,_,rfl,_,_,rfl,rfl,_,rfl,_,rfl,_,_,rfl,hnx _ _ ⟨rfl,?_⟩⟩
     simp only[f1,if_pos h'] <;> rfl
    ·have h':¬s0<l:=λz=>h (decide_eq_true z)
     refine hnx _ _ ⟨rfl,?_⟩
     simp only[f1,if_neg h'] <;> rfl
   | some h =>
    have hp:0<2*(h - l):=by have:=hLH _ _ rfl rfl;omega
    exact⟨_,rfl,rfl,_,rfl,xD ⟨_,rfl,rfl,_,rfl,xD ⟨_,rfl,_,rfl,_,rfl,_,_,rfl,rfl,_,rfl,_,rfl,_,_,rfl,rfl,_,_,rfl,rfl,⟨b2i,((bH _ rfl).sub (bL _ rfl)).mono (by decide)⟩,_,_,rfl,rfl,hp,_,_,rfl,rfl,hnx _ _ ⟨rfl,rfl⟩⟩⟩⟩
 rintro σ1 G ⟨rfl,rfl⟩
 generalize hp1:f1 L R s0 v=p1 at *
 obtain⟨s1,v1⟩:=p1
 refine vA (λσ' G=>H=G/\σ'=[some (.ref c),some (.ref a),some (.ref t),some (.int top),some (.int bot),some (.int (f2 R (s1,v1)).1),some (.int (f2 R (s1,v1)).2),some (lv L),some (lv R)]) ?_ ?_
 rotate_left
 ·intro nx hnx
  cases R with
  | none=>exact⟨_,rfl,rfl,_,rfl,z7 (z7 (hnx _ _ ⟨rfl,rfl⟩))⟩
  | some h =>
   refine⟨_,rfl,rfl,_,rfl,xD ⟨_,rfl,_,rfl,_,_,rfl,rfl,_,rfl,qo (λz=>?_) (λz=>?_)⟩⟩
   ·have h':h<s1:=of_decide_eq_true z
    refine⟨_,rfl,_,_,rfl,rfl,⟨b2i,b4 (bH _ rfl)⟩,_,rfl,_,_,rfl,rfl,_,rfl,_,rfl,_,_,rfl,hnx _ _ ⟨rfl,?_⟩⟩
    simp only[f2,if_pos h'] <;> rfl
   ·have h':¬h<s1:=λy=>z (decide_eq_true y)
    refine hnx _ _ ⟨rfl,?_⟩
    simp only[f2,if_neg h'] <;> rfl
 rintro σ1 G ⟨rfl,rfl⟩
 generalize hp2:f2 R (s1,v1)=p2 at *
 obtain⟨s2,v2⟩:=p2
 refine vA (λσ' G=>H=G/\σ'=[some (.ref c),some (.ref a),some (.ref t),some (.int top),some (.int bot),some (.int (f3 L (s2,v2)).1),some (.int (f3 L (s2,v2)).2),some (lv L),some (lv R)]) ?_ ?_
 rotate_left
 ·intro nx hnx
  cases L with
  | none=>exact⟨_,rfl,rfl,_,rfl,z7 (z7 (hnx _ _ ⟨rfl,rfl⟩))⟩
  | some l =>
   refine⟨_,rfl,rfl,_,rfl,xD ⟨_,rfl,_,rfl,rfl,_,rfl,qo (λz=>?_) (λz=>?_)⟩⟩
   ·have h':s2=l:=by have:=of_decide_eq_true z;injection this
    refine⟨_,rfl,_,rfl,hnx _ _ ⟨rfl,?_⟩⟩
    simp only[f3,if_pos h'] <;> rfl
   ·have h':¬s2=l:=λy=>z (decide_eq_true (p:=V.int s2=V.int l) (by rw[y]))
    refine hnx _ _ ⟨rfl,?_⟩
    simp only[f3,if_neg h'] <;> rfl
 rintro σ1 G ⟨rfl,rfl⟩
 generalize hp3:f3 L (s2,v2)=p3 at *
 obtain⟨s3,v3⟩:=p3
 refine vA (λσ' G=>H=G/\σ'=[some (.ref c),some (.ref a),some (.ref t),some (.int top),some (.int bot),some (.int (f4 R (s3,v3)).1),some (.int (f4 R (s3,v3)).2),some (lv L),some (lv R)]) ?_ ?_
 rotate_left
 ·intro nx hnx
  cases R with
  | none=>exact⟨_,rfl,rfl,_,rfl,z7 (z7 (hnx _ _ ⟨rfl,rfl⟩))⟩
  | some l =>
   refine⟨_,rfl,rfl,_,rfl,xD ⟨_,rfl,_,rfl,rfl,_,rfl,qo (λz=>?_) (λz=>?_)⟩⟩
   ·have h':s3=l:=by have:=of_decide_eq_true z;injection this
    refine⟨_,rfl,_,rfl,_,rfl,hnx _ _ ⟨rfl,?_⟩⟩
    simp only[f4,if_pos h'] <;> rfl
   ·have h':¬s3=l:=λy=>z (decide_eq_true (p:=V.int s3=V.int l) (by rw[y]))
    refine hnx _ _ ⟨rfl,?_⟩
    simp only[f4,if_neg h'] <;> rfl
 rintro σ1 G ⟨rfl,rfl⟩
 refine⟨_,rfl,_,rfl,by show 2<=sizeLine;decide,λr hr=>k r _ (zt.upd hr) ?_⟩
 unfold jh
 rw[hp1,hp2,hp3]
 exact zo
end
end KK
end
section
set_option maxHeartbeats 8000000
set_option Elab.async false
set_option linter.all false
set_option maxRecDepth 100000
namespace KK
open PySem L2 KM
end KK
end
section
set_option maxHeartbeats 8000000
set_option Elab.async false
set_option linter.all false
set_option maxRecDepth 100000
namespace L2
open PySem
theorem zbB {X:Cx}{K:PySem.W.Frag}{e:Expr}{ta:TE}{f:Str}{pos:Pos}(hK:X.K=K) (he:PE X e ta) (hb:attributeBase e f X.env (eval e X.env)=eval e X.env):PE X (.Attribute e f pos) (zeR K ta f):=by
 subst hK;exact qT he hb
theorem QM {a b:Str}{m n:Addr}{cs:List (Str×Addr)} (h1:cs.lookup a=some m) (h2:cs.lookup b=some n) (x:Str) (c:Addr) (e:List.lookup x [(a,m),(b,n)]=some c):cs.lookup x=some c:=by
 simp only[List.lookup]at e
 cases q1:(x == a)with
 | true=>rw[q1]at e;cases e;rw[eq_of_beq q1];exact h1
 | false =>
  rw[q1]at e
  cases q2:(x == b)with
  | true=>rw[q2]at e;cases e;rw[eq_of_beq q2];exact h2
  | false=>rw[q2]at e;cases e
theorem Ql {a b d:Str}{m n k:Addr}{cs:List (Str×Addr)} (h1:cs.lookup a=some m) (h2:cs.lookup b=some n) (h3:cs.lookup d=some k) (x:Str) (c:Addr) (e:List.lookup x [(a,m),(b,n),(d,k)]=some c):cs.lookup x=some c:=by
 simp only[List.lookup]at e
 cases q1:(x == a)with
 | true=>rw[q1]at e;cases e;rw[eq_of_beq q1];exact h1
 | false =>
  rw[q1]at e
  cases q2:(x == b)with
  | true=>rw[q2]at e;cases e;rw[eq_of_beq q2];exact h2
  | false =>
   rw[q2]at e
   cases q3:(x == d)with
   | true=>rw[q3]at e;cases e;rw[eq_of_beq q3];exact h3
   | false=>rw[q3]at e;cases e
end L2
namespace KK
open PySem L2 KM
section
variable {P:Program}{w:World}{K:PySem.W.Frag}{mg:Str->Option Value}{base:Heap}{C CE:Addr}{aN:Addr}
def zeM (C:Addr):Sp:=λvs H Q _=>∃c m pb sb tk ws trs lo hi x,vs=[.ref c,.ref m]/\VO H C c pb sb tk ws trs lo hi/\zv H m x/\Sz2 x tk/\tk≠0/\∀r H',zt H H'->zv H' r (x/tk)->Q (.ref r) H'
theorem zdz:zD ["course","moment"] ["course","moment"] (zi qM):=⟨rfl,rfl,rfl,by decide +kernel,rfl,by decide +kernel,by decide +kernel⟩
theorem zec (D:Df K mg "ticks_of" qM ["course","moment"] []) (TC:TCo K C) (cO:Cal P w K mg base "over" 3 ["one","other"] [] (xK (λx y=>Sz2 x y/\y≠0) (· / ·))):Cal P w K mg base "ticks_of" 4 ["course","moment"] [] (zeM C):=by
 refine D.cal (k:=3) zdz (λvs H Q E h=>by obtain⟨_,_,_,_,_,_,_,_,_,_,rfl,_⟩:=h;rfl) (λf cdv A outer s H vs Q E hr h=>?_)
 obtain⟨c,m,pb,sb,tk,ws,trs,lo,hi,x,rfl,hco,hm,hz,h0,k⟩:=h
 obtain⟨dx,fs,hc,F⟩:=id hco
 obtain⟨tp,et,ht⟩:=F.tick
 refine⟨_,(zr (zF (zC cO hr (zd (pv 1) (zd (qT (pv 0) rfl) zf))))),?_⟩
 exact⟨_,rfl,_,rfl,c,C,dx,fs,_,rfl,hc,TC.cls,TC.tick,et,m,tp,x,tk,rfl,hm,ht,⟨hz,h0⟩,k⟩
structure Pl (H:Hp) (r a:Addr) (bs:List vY) (b0:vY) (l1 l2:Wl):Prop where
 row:∃us,H r=some (.tup us)/\xf H us bs
 b0:bs[0]? = some b0
 len:bs.length<=8
 walls:∃v1 v2,H a=some (.tup [v1,v2])/\xL H v1 l1/\xL H v2 l2
def plB (b0:vY) (bs:List vY) (l1 l2:Wl):Bool:=evB b0 bs&&(xc l1&&xc l2)
def zeG:Sp:=λvs H Q _=>∃r a bs b0 l1 l2,vs=[.ref r,.ref a]/\Pl H r a bs b0 l1 l2/\∀H',zt H H'->Q (.bl (plB b0 bs l1 l2)) H'
theorem zao:zD ["row","walls"] ["row","walls"] (zi qz):=⟨rfl,rfl,rfl,by decide +kernel,rfl,by decide +kernel,by decide +kernel⟩
theorem zd6 (D:Df K mg "is_plain" qz ["row","walls"] []) (cEv:Cal P w K mg base "is_even" 5 ["row"] [] zeB) (cSt:Cal P w K mg base "is_still" 5 ["walls"] [] zeL):Cal P w K mg base "is_plain" 6 ["row","walls"] [] zeG:=by
 refine D.cal (k:=5) zao (λvs H Q E h=>by obtain⟨_,_,_,_,_,_,rfl,_⟩:=h;rfl) (λf cdv A outer s H vs Q E hr h=>?_)
 obtain⟨r,a,bs,b0,l1,l2,rfl,pl,k⟩:=h
 obtain⟨us,hrr,hB⟩:=pl.row
 obtain⟨v1,v2,ha,h1,h2⟩:=pl.walls
 refine⟨_,(zr (zF (qg (zC cEv hr (zd (pv 0) zf)) (vw (zC cSt hr (zd (pv 1) zf)))))),?_⟩
 refine⟨_,rfl,r,us,bs,b0,rfl,hrr,hB,pl.b0,pl.len,λH1 e1=>⟨_,rfl,?_⟩⟩
 cases e:evB b0 bs with
 | false =>
  refine z7 ?_
  have:=k H1 e1
  unfold plB at this;rw[e]at this;exact this
 | true =>
  refine xD ⟨_,rfl,a,v1,v2,l1,l2,rfl,e1 _ _ ha,h1.same e1,h2.same e1,λH2 e2=>?_⟩
  have:=k H2 (e1.trans e2)
  unfold plB at this;rw[e]at this;exact this
def zdB:Sp:=λvs H Q _=>∃r a bs b0 l1 l2,vs=[.ref r,.ref a]/\Pl H r a bs b0 l1 l2/\plB b0 bs l1 l2=true/\∀H',zt H H'->Q .non H'
theorem zeu:zD ["row","walls"] ["row","walls"] (zi xz):=⟨rfl,rfl,rfl,by decide +kernel,rfl,by decide +kernel,by decide +kernel⟩
theorem zd9 (D:Df K mg "refuse_uneven" xz ["row","walls"] []) (cPl:Cal P w K mg base "is_plain" 6 ["row","walls"] [] zeG):Cal P w K mg base "refuse_uneven" 7 ["row","walls"] [] zdB:=by
 refine D.cal (k:=6) zeu (λvs H Q E h=>by obtain⟨_,_,_,_,_,_,rfl,_⟩:=h;rfl) (λf cdv A outer s H vs Q E hr h=>?_)
 obtain⟨r,a,bs,b0,l1,l2,rfl,pl,hp,k⟩:=h
 refine⟨_,(zr (xa (qt (zT (zC cPl hr (zd (pv 0) (zd (pv 1) zf))) λ_=>rfl)) vQ zO)),?_⟩
 refine⟨_,rfl,_,rfl,r,a,bs,b0,l1,l2,rfl,pl,λH1 e1=>⟨_,rfl,?_⟩⟩
 rw[hp]
 exact z7 (k H1 e1)
def zeE:Sp:=λvs H Q _=>∃m k:Int,vs=[.int m,.int k]/\0<=k/\k<m/\Q .non H
theorem zes:zD ["many","k"] ["many","k"] (zi xl):=⟨rfl,rfl,rfl,by decide +kernel,rfl,by decide +kernel,by decide +kernel⟩
theorem zd5 (D:Df K mg "refuse_no_ball" xl ["many","k"] []):Cal P w K mg base "refuse_no_ball" 1 ["many","k"] [] zeE:=by
 refine D.cal (k:=0) zes (λvs H Q E h=>by obtain⟨_,_,rfl,_⟩:=h;rfl) (λf cdv A outer s H vs Q E hr h=>?_)
 obtain⟨m,k,rfl,h0,h1,q⟩:=h
 refine⟨_,(zr (xa (qt (Qv Qt jF ze (pv 1) (pv 0))) vQ zO)),?_⟩
 refine⟨_,rfl,_,_,rfl,rfl,_,rfl,?_⟩
 rw[decide_eq_true h0]
 refine xD ⟨_,rfl,_,_,rfl,rfl,_,rfl,?_⟩
 rw[decide_eq_true h1]
 exact z7 q
end
end KK
end
section
set_option maxHeartbeats 8000000
set_option Elab.async false
set_option linter.all false
set_option maxRecDepth 100000
namespace KK
open PySem L2 KM
def tb (b:Bl):vY:=⟨b.pl,b.sp,b.wt⟩
def Sm (x:Rat):Prop:=Bd 200 x.num/\Bd 20 (x.den:Int)
theorem Sm.sz {x:Rat}(h:Sm x):Sz 400 x:=⟨h.1.mono (by decide),h.2.mono (by decide)⟩
structure Ln (H:Hp) (r a:Addr) (bs:List Bl) (lo hi:Wl):Prop where
 row:∃us,H r=some (.tup us)/\xN H us bs
 walls:∃v1 v2,H a=some (.tup [v1,v2])/\xL H v1 lo/\xL H v2 hi
 l1:1<=bs.length
 l8:bs.length<=8
theorem Ln.same {H H':Hp}{r a:Addr}{bs:List Bl}{lo hi:Wl}(h:Ln H r a bs lo hi) (e:zt H H'):Ln H' r a bs lo hi:=by
 obtain⟨us,h1,h2⟩:=h.row
 obtain⟨v1,v2,g1,g2,g3⟩:=h.walls
 exact⟨⟨us,e _ _ h1,h2.keeps (.of e)⟩,⟨v1,v2,e _ _ g1,g2.same e,g3.same e⟩,h.l1,h.l8⟩
structure LnZ (bs:List Bl) (lo hi:Wl):Prop where
 sz:∀t∈ths bs lo hi,Sm t.1/\Sm t.2
 lh:∀l h,lo=some l->hi=some h->l.1<h.1
theorem xN.balls {H:Hp}:∀{us:List V}{bs:List Bl},xN H us bs->xf H us (bs.map tb)
 | [],[],_=>.nil
 | [],_::_,h=>by have:=h.1;simp at this
 | _::_,[],h=>by have:=h.1;simp at this
 | u::us,b::bs,h=>by
  obtain⟨c,e,a,p,q,rfl,h1,h2,h3⟩:=h.2 0 u rfl
  simp at e;subst e
  exact .cons (b:=tb b) h1 h2 h3 (xN.balls ⟨by have:=h.1;simpa using this,λi v e=>by simpa using h.2 (i+1) v (by simpa using e)⟩)
theorem xL.wl {H:Hp}{v:V}{l:Wl}(h:xL H v l):ZZ H v l:=by
 cases l with
 | none=>exact h
 | some z=>obtain⟨x,y⟩:=z;obtain⟨a,p,q,e1,e2,e3,e4⟩:=h;exact⟨a,e1,p,q,[],e2,e3,e4⟩
theorem Ln.pl {H:Hp}{r a:Addr}{bs:List Bl}{lo hi:Wl}(h:Ln H r a bs lo hi):∃b0,bs[0]? = some b0/\Pl H r a (bs.map tb) (tb b0) lo hi:=by
 obtain⟨us,h1,h2⟩:=h.row
 have l1:=h.l1
 refine⟨bs[0],List.getElem?_eq_getElem l1,⟨us,h1,h2.balls⟩,by rw[List.getElem?_map,List.getElem?_eq_getElem l1];rfl,by rw[List.length_map];exact h.l8,h.walls⟩
theorem zbc {qs:List Rat}(h:∀q∈qs,Bd 20 (q.den:Int)) (hl:qs.length<=20):0<Z5 qs/\Bd 401 (Z5 qs)/\∀q∈qs,(q.den:Int) ∣ Z5 qs:=by
 obtain⟨a1,a2,_,a4⟩:=ZJ (n:=20) (ks:=qs.map λq=>(q.den:Int)) (c:=1) (m:=1) (by decide) (show (1:Int).natAbs<2^1 by decide) (λk hk=>by
  obtain⟨q,hq,rfl⟩:=List.mem_map.mp hk
  exact⟨by have:=q.den_pos;omega,h q hq⟩)
 exact⟨a1,a2.mono (by rw[List.length_map];omega),λq hq=>a4 _ (List.mem_map.mpr ⟨q,hq,rfl⟩)⟩
theorem Jz {x:Rat}{b:Int}(hx:Bd 200 x.num) (hb:0<b) (h:Bd 401 b):Bd 2000 (byB x b):=by
 have d1:0<(x.den:Int):=by have:=x.den_pos;omega
 unfold byB
 have z:Bd 401 (b.fdiv (x.den:Int)):=by
  rw[Int.fdiv_eq_ediv_of_nonneg _ (by omega)]
  exact h.of_le (by have:=Int.ediv_le_self (x.den:Int) (a:=b) (by omega);have:=Int.ediv_nonneg (a:=b) (b:=(x.den:Int)) (by omega) (by omega);omega)
 exact(hx.mul z).mono (by decide)
theorem JA {x y:Rat}{b:Int}(hb:0<b) (hx:(x.den:Int) ∣ b) (hy:(y.den:Int) ∣ b) (h:x<y):byB x b<byB y b:=by
 have d1:=den_pos x
 have d2:=den_pos y
 obtain⟨k,ek⟩:=hx
 obtain⟨m,em⟩:=hy
 have f1:b.fdiv (x.den:Int)=k:=by rw[Int.fdiv_eq_ediv_of_nonneg _ (by omega),ek];exact Int.mul_ediv_cancel_left _ (by omega)
 have f2:b.fdiv (y.den:Int)=m:=by rw[Int.fdiv_eq_ediv_of_nonneg _ (by omega),em];exact Int.mul_ediv_cancel_left _ (by omega)
 have k0:0<k:=by
  rcases Int.lt_or_le 0 k with h | h
  ·exact h
  ·have:=Int.mul_nonpos_of_nonneg_of_nonpos (a:=(x.den:Int)) (b:=k) (by omega) h;omega
 have m0:0<m:=by
  rcases Int.lt_or_le 0 m with h | h
  ·exact h
  ·have:=Int.mul_nonpos_of_nonneg_of_nonpos (a:=(y.den:Int)) (b:=m) (by omega) h;omega
 unfold byB
 rw[f1,f2]
 have h':=(jS x y).mpr h
 have h2:=Int.mul_lt_mul_of_pos_right h' (Int.mul_pos k0 m0)
 refine Int.lt_of_mul_lt_mul_right (a:=b) ?_ (by omega)
 have e1:x.num*k*b=x.num*(y.den:Int)*(k*m):=by rw[em];simp only[Int.mul_assoc,Int.mul_comm,Int.mul_left_comm]
 have e2:y.num*m*b=y.num*(x.den:Int)*(k*m):=by rw[ek];simp only[Int.mul_assoc,Int.mul_comm,Int.mul_left_comm]
 rw[e1,e2];exact h2
structure LnB (bs:List Bl) (lo hi:Wl) (p s:Int):Prop where
 pb:0<p/\Bd 401 p
 sb:0<s/\Bd 401 s
 tr:∀b∈bs,Bd 2000 (trB p s (b.pl,b.sp)).1/\Bd 2000 (trB p s (b.pl,b.sp)).2
 bl:Wb (lo.map (trB p s))
 bh:Wb (hi.map (trB p s))
 lh:∀l h,lo.map (trB p s)=some l->hi.map (trB p s)=some h->l.1<h.1
 t0:Rat.divInt s p≠0
 tz:Sz 401 (Rat.divInt s p)
theorem Qb {bs:List Bl}{lo hi:Wl}{t:Rat×Rat}(e:lo=some t):t∈ths bs lo hi:=by unfold ths;rw[e];simp[ZO]
theorem Qa {bs:List Bl}{lo hi:Wl}{t:Rat×Rat}(e:hi=some t):t∈ths bs lo hi:=by unfold ths;rw[e];simp[ZO]
theorem zaF {bs:List Bl}{lo hi:Wl}{b:Bl}(m:b∈bs):(b.pl,b.sp)∈ths bs lo hi:=by
 unfold ths;exact List.mem_append_left _ (List.mem_map.mpr ⟨b,m,rfl⟩)
theorem LnZ.bd {bs:List Bl}{lo hi:Wl}(h:LnZ bs lo hi) (l8:bs.length<=8):LnB bs lo hi (pbO bs lo hi) (sbO bs lo hi):=by
 have hl:=vH (lo:=lo) (hi:=hi) l8
 obtain⟨p1,p2,p3⟩:=zbc (qs:=(ths bs lo hi).map (·.1)) (λq m=>by obtain⟨t,mt,rfl⟩:=List.mem_map.mp m;exact(h.sz t mt).1.2) (by rw[List.length_map];exact hl)
 obtain⟨s1,s2,s3⟩:=zbc (qs:=(ths bs lo hi).map (·.2)) (λq m=>by obtain⟨t,mt,rfl⟩:=List.mem_map.mp m;exact(h.sz t mt).2.2) (by rw[List.length_map];exact hl)
 have tr:∀t∈ths bs lo hi,Bd 2000 (trB (pbO bs lo hi) (sbO bs lo hi) t).1/\Bd 2000 (trB (pbO bs lo hi) (sbO bs lo hi) t).2:=λt m=>⟨Jz (h.sz t m).1.1 p1 p2,Jz (h.sz t m).2.1 s1 s2⟩
 refine⟨⟨p1,p2⟩,⟨s1,s2⟩,λb m=>tr _ (zaF m),λt e=>?_,λt e=>?_,λl r e1 e2=>?_,?_,.divInt (by show pbO bs lo hi≠0;unfold pbO;omega) s2 p2⟩
 ·cases lo with
  | none=>cases e
  | some z=>cases e;exact(tr z (Qb rfl)).1
 ·cases hi with
  | none=>cases e
  | some z=>cases e;exact(tr z (Qa rfl)).1
 ·cases lo with
  | none=>cases e1
  | some z =>
   cases hi with
   | none=>cases e2
   | some y =>
    cases e1;cases e2
    exact JA p1 (p3 _ (List.mem_map.mpr ⟨z,Qb rfl,rfl⟩)) (p3 _ (List.mem_map.mpr ⟨y,Qa rfl,rfl⟩)) (h.lh _ _ rfl rfl)
 ·intro z
  have h1:0<sbO bs lo hi:=s1
  have h2:0<pbO bs lo hi:=p1
  rw[show (0:Rat)=Rat.divInt 0 1 by rfl,Rat.divInt_eq_divInt_iff (by omega) (by decide)]at z
  omega
end KK
end
section
set_option maxHeartbeats 8000000
set_option Elab.async false
set_option linter.all false
set_option maxRecDepth 100000
namespace KK
open PySem L2 KM
def vt (bs:List Bl) (lo hi:Wl) (x:Rat):List (Int×Int) :=
 let p:=pbO bs lo hi;let s:=sbO bs lo hi;let k:=x/Rat.divInt s p
 bs.map λb=>jh (wsc (lo.map (trB p s)) k.den) (wsc (hi.map (trB p s)) k.den) ((trB p s (b.pl,b.sp)).1*k.den+(trB p s (b.pl,b.sp)).2*k.num) (trB p s (b.pl,b.sp)).2
def prL (z:Int×Int):List Int:=[z.1,z.2]
theorem QF {H:Hp}:∀{ys:List V}{ks:List (List Int)},ys.length=ks.length->(∀(i:Nat) (v:V),ys[i]? = some v->∃q k,v = .ref q/\ks[i]? = some k/\H q=some (.tup (k.map V.int))/\k≠[])->qp H ys ks
 | [],[],_,_=>.nil
 | [],_::_,h,_=>by simp at h
 | _::_,[],h,_=>by simp at h
 | y::ys,k::ks,h,f=>by
  obtain⟨q,k',rfl,e,e2,e3⟩:=f 0 y rfl
  simp at e;subst e
  exact .cons e2 e3 (QF (by simpa using h) λi v e=>by simpa using f (i+1) v (by simpa using e))
theorem zaH {H:Hp}{ys:List V}{ks:List (List Int)} (t:qp H ys ks):∀{i:Nat}{v:V},ys[i]? = some v->∃q k,v = .ref q/\ks[i]? = some k/\H q=some (.tup (k.map V.int)):=by
 induction t with
 | nil=>intro i v e;simp at e
 | @cons a k xs ks e ne t ih =>
  intro i v h
  cases i with
  | zero=>simp at h;subst h;exact⟨a,k,rfl,rfl,e⟩
  | succ i=>simpa using ih (by simpa using h)
theorem unpr {l:List (Int×Int)}{js:List (List Int)} (h:js.Perm (l.map prL)):∃ks:List (Int×Int),js=ks.map prL/\ks.Perm l:=by
 refine⟨js.map λy=>(y.getD 0 0,y.getD 1 0),?_,?_⟩
 ·rw[List.map_map]
  conv=>lhs;rw[<-List.map_id js]
  refine List.map_congr_left λy m=>?_
  obtain⟨u,_,rfl⟩:=List.mem_map.mp (h.mem_iff.mp m)
  rfl
 ·have e:=h.map λy:List Int=>(y.getD 0 0,y.getD 1 0)
  rw[List.map_map]at e
  have:(l.map ((λy:List Int=>(y.getD 0 0,y.getD 1 0)) ∘ prL))=l:=by
   conv=>rhs;rw[<-List.map_id l]
   exact List.map_congr_left λu _=>rfl
  rw[this]at e
  exact e
section
variable {P:Program}{w:World}{K:PySem.W.Frag}{mg:Str->Option Value}{base:Heap}{C CE:Addr}{aN:Addr}
def zey:Sp:=λvs H Q _=>∃r a m bs b0 lo hi x,vs=[.ref r,.ref a,.ref m]/\Ln H r a bs lo hi/\LnZ bs lo hi/\bs[0]? = some b0/\plB (tb b0) (bs.map tb) lo hi=true/\zv H m x/\Sz 200 x ∧
 ∀z H',zt H H'->(∃(ys:List V) (js:List (Int×Int)),H' z=some (.tup ys)/\js.Perm (vt bs lo hi x)/\(js.Pairwise λu v=>xF (prL v) (prL u)=false) ∧
  xN H' ys (js.map λu=>⟨Rat.divInt u.1 (pbO bs lo hi*(x/Rat.divInt (sbO bs lo hi) (pbO bs lo hi)).den),Rat.divInt u.2 (sbO bs lo hi),b0.wt⟩))->Q (.ref z) H'
theorem QA:zD ["row","walls","t","course","ticks","bottom","lines"] ["row","walls","t"] (zi ve):=⟨rfl,rfl,rfl,by decide +kernel,rfl,by decide +kernel,by decide +kernel⟩
theorem zdZ {fi:Addr}{fdi:FuncData}(D:Df K mg "at_once" ve ["row","walls","t"] []) (T:TxB K mg) (T3:Tx3 K mg aN) (TC:TCo K C) (M:Mk K C fi) (Fi:jN P w K mg base CX0 4 fi fdi ["self","row","walls"] (zeA C)) (hmC:mg "Course" = some (.ref C)) (Bi:jE K fdi ["self","row","walls"] [])
  (cRu:Cal P w K mg base "refuse_uneven" 7 ["row","walls"] [] zdB) (cTk:Cal P w K mg base "ticks_of" 4 ["course","moment"] [] (zeM C)) (cLa:Cal P w K mg base "line_at" 1 ["course","track","ticks"] [] (zaw C)) (cR:Cal P w K mg base "ratio" 2 ["top","bottom"] [] qd) :
  Cal P w K mg base "at_once" 8 ["row","walls","t"] [] zey:=by
 refine D.cal (k:=7) QA (λvs H Q E h=>by obtain⟨_,_,_,_,_,_,_,_,rfl,_⟩:=h;rfl) (λf cdv A outer s H vs Q E hr8 h=>?_)
 obtain⟨r,a,m,bs,b0,lo,hi,x,rfl,ln,lz,h0,hp,hm,zx,k⟩:=h
 have hr5:xb 5 _:=hr8.mono (by decide)
 have hr4:xb 4 _:=hr8.mono (by decide)
 have hr1:xb 1 _:=hr8.mono (by decide)
 have hr2:xb 2 _:=hr8.mono (by decide)
 obtain⟨b0',e0',pl⟩:=ln.pl
 rw[h0]at e0';cases e0'
 refine⟨_,(zj (vG (zC cRu hr8 (zd (pv 0) (zd (pv 1) zf))))
  (zj (zE (i:=3) QA.nd rfl (Or.inr rfl) (zbD M Fi hr5 (by rfl) hmC Bi .nil zch (zd (pv 0) (zd (pv 1) zf))))
  (zj (zE (i:=4) QA.nd rfl (Or.inr rfl) (zC cTk hr4 (zd (pv 3) (zd (pv 2) zf))))
  (zj (zE (i:=5) QA.nd rfl (Or.inr rfl) (zw zJ (qT (pv 3) rfl) (zn zm (pv 4) ze (λ_ _=>rfl))))
  (zj (zE (i:=6) QA.nd rfl (Or.inl rfl) (zL QL (by rfl) T3.nSorted PyProof.Rows.boot_sorted (zd (qe (NB:=["track"]) (FR:=["course","ticks"]) (js:=[3,4]) rfl rfl (λx c h=>QM rfl rfl x c h) (.cons rfl rfl rfl ⟨_,rfl⟩ (.cons rfl rfl rfl ⟨_,rfl⟩ .nil)) rfl (by decide +kernel) rfl (by decide +kernel) (xB (qT (pv 3) rfl)) (by intro _ _ _;refine⟨?_,?_,?_⟩;(exact(zG (i:=0) (show List.Nodup (["track","course","ticks"]:List Str) by decide +kernel) rfl (Or.inl rfl)));(exact xq);(exact(zC cLa hr1 (zd (pv 1) (zd (pv 0) (zd (pv 2) zf))))))) zf)))
  (zr (zF (jv Z0 (by rfl) T.nTuple PyProof.Rows.boot_tuple (zd (qe (NB:=["spot","speed"]) (FR:=["bottom","course","row"]) (js:=[5,3,0]) rfl rfl (λx c h=>Ql rfl rfl rfl x c h) (.cons rfl rfl rfl ⟨_,rfl⟩ (.cons rfl rfl rfl ⟨_,rfl⟩ (.cons rfl rfl rfl ⟨_,rfl⟩ .nil))) rfl (by decide +kernel) rfl (by decide +kernel) (xB (pv 6)) (by intro _ _ _;refine⟨?_,?_,?_⟩;(exact(v6 (K:=K) (n:=2) rfl rfl (zM (zG (i:=0) (show List.Nodup (["spot","speed","bottom","course","row"]:List Str) by decide +kernel) rfl (Or.inl rfl)) (zM (zG (i:=1) (show List.Nodup (["spot","speed","bottom","course","row"]:List Str) by decide +kernel) rfl (Or.inl rfl)) xS))));(exact xq);(exact(zU (zd (zC cR hr2 (zd (pv 0) (zd (pv 2) zf))) (zd (zC cR hr2 (zd (pv 1) (zd (zbB (K:=K) rfl (pv 3) rfl) zf))) (zd (zn (xQ (K:=K) rfl) (zn (xQ (K:=K) rfl) (pv 4) ze (λ_ _=>rfl)) ze (λ_ _=>rfl)) zf))))))) zf))))))))),?_⟩
 refine⟨_,rfl,_,rfl,r,a,_,_,lo,hi,rfl,pl,hp,λH1 e1=>?_⟩
 dsimp only
 have ln1:=ln.same e1
 obtain⟨us,hrr,hB⟩:=ln1.row
 obtain⟨v1,v2,ha,h1,h2⟩:=ln1.walls
 refine⟨_,rfl,_,rfl,λc dx hc hdx ne=>?_⟩
 have S0:zt H1 (upd (upd H1 dx (.own c)) c (.ins C dx [])):=(zt.upd hdx).trans (zt.upd (by rw[zK ne.symm];exact hc))
 refine⟨c,dx,r,a,us,bs,v1,v2,lo,hi,rfl,zo,S0 _ _ hrr,hB.keeps (.of S0),S0 _ _ ha,h1.wl.keeps (.of S0),h2.wl.keeps (.of S0),ln.l8,λt mt=>⟨(lz.sz t mt).1.sz,(lz.sz t mt).2.sz⟩,λH2 X1 hcn=>⟨rfl,?_⟩⟩
 have hco:=hcn.co
 have S2:zt H H2:=e1.trans λb o e=>X1 b o (zN e hc) (S0 b o e)
 dsimp only[zA]
 have Z:=lz.bd ln.l8
 generalize hpb:pbO bs lo hi=pb at *
 generalize hsb:sbO bs lo hi=sb at *
 refine⟨_,rfl,_,rfl,c,m,pb,sb,_,_,_,_,_,x,rfl,hco,S2 _ _ hm,⟨zx.mono (by decide),Z.tz.mono (by decide)⟩,Z.t0,λtr H3 s3 htr=>?_⟩
 dsimp only[zA]
 have zk:Sz 601 (x/Rat.divInt sb pb):=by rw[<-jV];exact .divInt (Int.mul_ne_zero (zR x) (λz=>Z.t0 (Rat.num_eq_zero.mp z))) ((zx.1.mul Z.tz.2).mono (by decide)) ((zx.2.mul Z.tz.1).mono (by decide))
 have S3:zt H H3:=S2.trans s3
 have hlin:vt bs lo hi x=bs.map λb=>jh (wsc (lo.map (trB pb sb)) (x/Rat.divInt sb pb).den) (wsc (hi.map (trB pb sb)) (x/Rat.divInt sb pb).den) ((trB pb sb (b.pl,b.sp)).1*(x/Rat.divInt sb pb).den+(trB pb sb (b.pl,b.sp)).2*(x/Rat.divInt sb pb).num) (trB pb sb (b.pl,b.sp)).2:=by
  unfold vt;rw[hpb,hsb]
 generalize hkk:x/Rat.divInt sb pb=kk at *
 have kd:=den_pos kk
 have hco3:=hco.same s3
 obtain⟨dx',fs,hc3,F⟩:=id hco3
 obtain⟨L,tv,et,hL,hT⟩:=F.tracks
 refine⟨_,rfl,c,C,dx',fs,_,rfl,hc3,TC.cls,TC.pb,F.pb,_,rfl,tr,_,_,_,rfl,rfl,.of htr,at1 ..,_,_,rfl,rfl,⟨Z.pb.2.mono (by decide),zk.2.mono (by decide)⟩,?_⟩
 dsimp only[zA]
 unfold Jl zaB tCB xr
 refine⟨_,rfl,c,C,dx',fs,_,rfl,hc3,TC.cls,TC.tracks,et,L,rfl,⟨_,SqL.of hL⟩,λDc hDc=>?_⟩
 have htl:=hT.1
 rw[List.length_map]at htl
 have l8:=ln.l8
 refine xM (js:=[3,4]) (J:=Itl K L) (g:=zA 0) (te:=jq (zaw C) [] E0 (xr (z8 1) (xr (z8 0) (xr (z8 2) jD)))) (n:=1) (xs:=tv) (λi v G=>∃u q,(vt bs lo hi x)[i]? = some u/\v = .ref q/\G q=some (.tup [.int u.1,.int u.2])) (λi v G G' e ⟨u,q,q1,q2,q3⟩=>⟨u,q,q1,q2,e _ _ q3⟩) hDc (xu hL) (qb (by omega)) ?_ ?_
 ·intro i y zs G Q' hy hz S hQ
  obtain⟨t,e,p,rfl,hp'⟩:=hT.2 i y hy
  obtain⟨z1,rfl⟩:=Z6 hz
  rw[List.getElem?_map]at e
  cases hb:bs[i]? with
  | none=>rw[hb]at e;cases e
  | some b =>
   rw[hb]at e;cases e
   have bt:=Z.tr b (List.mem_of_getElem? hb)
   dsimp only[zA]
   refine⟨rfl,_,rfl,_,rfl,_,rfl,c,p,tr,pb,sb,_,_,_,_,_,(trB pb sb (b.pl,b.sp)).1,(trB pb sb (b.pl,b.sp)).2,kk.num,(kk.den:Int),rfl,hco3.same S,S _ _ hp',S _ _ htr,bt.1,bt.2,zk.1.mono (by decide),zk.2.mono (by decide),kd,Z.bl,Z.bh,Z.lh,λq G2 s2 hq=>hQ _ _ s2 ⟨_,q,?_,rfl,hq⟩⟩
   rw[hlin,List.getElem?_map,hb];rfl
 intro ys G S hDG hyl hR
 have hll:(vt bs lo hi x).length=bs.length:=by rw[hlin,List.length_map]
 have tups:qp G ys ((vt bs lo hi x).map prL):=QF (by rw[List.length_map,hll];omega) λi v e=>by
  obtain⟨u,q,q1,q2,q3⟩:=hR i v e
  exact⟨q,prL u,q2,by rw[List.getElem?_map,q1];rfl,q3,by simp[prL]⟩
 refine⟨Dc,ys,_,rfl,SqL.of hDG,tups,by omega,λDl zs hDl hso=>?_⟩
 obtain⟨js',ht',hperm,hpw⟩:=hso.tups tups
 have SL:zt G (upd G Dl (.lst zs)):=zt.upd hDl
 have hDL:upd G Dl (.lst zs) Dl=some (.lst zs):=zo
 have htL:=ht'.same SL
 have S4:zt H3 (upd G Dl (.lst zs)):=S.trans SL
 generalize upd G Dl (.lst zs)=G4 at SL hDL htL S4
 obtain⟨js,rfl,hjp⟩:=unpr hperm
 dsimp only[zA]
 have hzl:zs.length=js.length:=by have:=htL.len;simpa using this
 have hjl:js.length=bs.length:=by rw[hjp.length_eq,hll]
 refine⟨_,rfl,Dl,rfl,⟨_,SqL.of hDL⟩,λDd hDd=>?_⟩
 have S14:zt H1 G4:=λb o e=>S4 b o (s3 b o (X1 b o (zN e hc) (S0 b o e)))
 have hrr4:=S14 _ _ hrr
 have hB4:=hB.keeps (.of S14)
 have l1:=ln.l1
 have hul:=hB.1
 obtain⟨u0,hu0⟩:∃u,us[0]? = some u:=⟨_,List.getElem?_eq_getElem (by omega)⟩
 obtain⟨b0',e0',a0,p0,q0,rfl,ha0,_,_⟩:=hB4.2 0 u0 hu0
 rw[h0]at e0';cases e0'
 have hco4:=hco3.same S4
 obtain⟨dx4,fs4,hc4,F4⟩:=id hco4
 have bb:Bd 8900 (pb*(kk.den:Int)):=(Z.pb.2.mul zk.2).mono (by decide)
 have b0':pb*(kk.den:Int)≠0:=Int.ne_of_gt (Int.mul_pos Z.pb.1 kd)
 refine xM (js:=[5,3,0]) (J:=Itl K Dl) (g:=Z4 K 2 (qR (zA 0) (qR (zA 1) XB))) (te:=_) (n:=2) (xs:=zs) (λi v G=>∃u,js[i]? = some u/\Xt G v ⟨Rat.divInt u.1 (pb*kk.den),Rat.divInt u.2 sb,b0.wt⟩) (λi v G G' e ⟨u,q1,q2⟩=>⟨u,q1,q2.keeps e⟩) hDd (xu hDL) (qb (by omega)) ?_ ?_
 ·intro i y zs' G5 Q' hy hz S5 hQ
  obtain⟨q,kq,rfl,ek,hq⟩:=zaH htL hy
  rw[List.getElem?_map]at ek
  obtain⟨w1,w2,rfl⟩:=QW hz
  cases hu:js[i]? with
  | none=>rw[hu]at ek;cases ek
  | some u =>
   rw[hu]at ek;cases ek
   refine⟨q,_,rfl,.of (S5 _ _ hq),rfl,_,_,rfl,_,_,rfl,rfl,⟨rfl,?_⟩⟩
   refine⟨_,rfl,_,rfl,u.1,_,rfl,b0',bb,λp1 G6 s6 hp1=>?_⟩
   refine⟨_,rfl,_,rfl,c,C,dx4,fs4,_,rfl,s6 _ _ (S5 _ _ hc4),TC.cls,TC.sb,F4.sb,u.2,sb,rfl,Int.ne_of_gt Z.sb.1,Z.sb.2.mono (by decide),λp2 G7 s7 hp2=>?_⟩
   have S57:=S5.trans (s6.trans s7)
   refine⟨_,rfl,r,_,_,_,rfl,rfl,.of (S57 _ _ hrr4),qX (j:=0) hu0,a0,_,_,_,rfl,rfl,.of (S57 _ _ ha0),rfl,by show 3<=sizeLine;decide,λq3 hq3=>hQ _ _ (s6.trans (s7.trans (zt.upd hq3))) ⟨u,hu,q3,p1,p2,rfl,zo,zt.upd hq3 _ _ (s7 _ _ hp1),zt.upd hq3 _ _ hp2⟩⟩
 intro ws G6 S6 hDG6 hwl hR6
 refine⟨Dd,ws,rfl,.inl ⟨.of hDG6,λz hz=>?_⟩⟩
 refine k z _ (λb o e=>zt.upd hz b o (S6 b o (S4 b o (S3 b o e)))) ⟨ws,js,zo,hjp,?_,?_⟩
 ·exact List.pairwise_map.mp hpw
 ·refine⟨by rw[List.length_map];omega,λi v e=>?_⟩
  obtain⟨u,q1,q2⟩:=hR6 i v e
  exact⟨_,by rw[List.getElem?_map,q1];rfl,q2.keeps (.of (zt.upd hz))⟩
end
end KK
end
section
set_option maxHeartbeats 8000000
set_option Elab.async false
set_option linter.all false
set_option maxRecDepth 100000
namespace KM
theorem xo {s:Rat}(h:0<s):0<s.num:=by have:=(jS 0 s).mpr h;simpa using this
theorem Jd {k:Int}{s r r':Rat}(h0:0<=r) (h1:r<s) (h2:0<=r') (h3:r'<s) (e:r=r'+(k:Rat)*s):r=r':=by
 have hs:0<s:=by grind
 have:k=0:=by
  rcases Int.lt_trichotomy k 0 with h | h | h
  ·have:(k:Rat)<=((-1:Int):Rat):=Rat.intCast_le_intCast.mpr (by omega)
   have:=Rat.mul_le_mul_of_nonneg_right this (Rat.le_of_lt hs)
   grind
  ·exact h
  ·have:((1:Int):Rat)<=k:=Rat.intCast_le_intCast.mpr (by omega)
   have:=Rat.mul_le_mul_of_nonneg_right this (Rat.le_of_lt hs)
   grind
 subst this
 grind
theorem zdq {x s r:Rat}{k:Int}(h0:0<=r) (h1:r<s) (e:x=r+(k:Rat)*s):rst x s=r:=by
 have hs:0<s:=by grind
 have n:=xo hs
 have m:=ZS (x:=x) (s:=s) n
 generalize hk:(x.num*(s.den:Int))/(s.num*(x.den:Int))=j at m
 refine Jd (k:=k - j) (XS n) (XT n) h0 h1 ?_
 rw[Rat.intCast_sub]
 grind
theorem zaf {x s:Rat}(hs:0<s):∃k:Int,x=rst x s+(k:Rat)*s:=by
 have m:=ZS (x:=x) (s:=s) (xo hs)
 exact⟨_,by rw[<-m];grind⟩
def zZ (lo hi z:Rat):Rat:=if hi - lo<rst (z - lo) (hi - lo+(hi - lo))then lo+(hi - lo+(hi - lo) - rst (z - lo) (hi - lo+(hi - lo)))else lo+rst (z - lo) (hi - lo+(hi - lo))
section
variable {lo hi z:Rat}
theorem XA (h:lo<hi):lo<=zZ lo hi z/\zZ lo hi z<=hi:=by
 have s0:0<hi - lo+(hi - lo):=by grind
 have a:=XS (x:=z - lo) (xo s0)
 have b:=XT (x:=z - lo) (xo s0)
 unfold zZ
 generalize rst (z - lo) (hi - lo+(hi - lo))=r at a b ⊢
 split <;> grind
theorem v4 {r:Rat}{k:Int}(h:lo<hi) (h0:0<=r) (h1:r<hi - lo+(hi - lo)) (e:z - lo=r+(k:Rat)*(hi - lo+(hi - lo))):zZ lo hi z=if hi - lo<r then lo+(hi - lo+(hi - lo) - r)else lo+r:=by
 unfold zZ
 rw[zdq h0 h1 e]
theorem VZ (h:lo<hi) (k:Int):zZ lo hi (z+(k:Rat)*(hi - lo+(hi - lo)))=zZ lo hi z:=by
 have s0:0<hi - lo+(hi - lo):=by grind
 obtain⟨j,ej⟩:=zaf (x:=z - lo) s0
 have a:=XS (x:=z - lo) (xo s0)
 have b:=XT (x:=z - lo) (xo s0)
 rw[v4 h a b ej,v4 (k:=j+k) h a b (by rw[Rat.intCast_add];grind)]
theorem JL (h:lo<hi) (h0:lo<=z) (h1:z<=hi):zZ lo hi z=z:=by
 rw[v4 (r:=z - lo) (k:=0) h (by grind) (by grind) (by grind),if_neg (by grind)]
 grind
theorem JM (h:lo<hi) (h0:hi<=z) (h1:z<=hi+(hi - lo)):zZ lo hi z=2*hi - z:=by
 by_cases e:z=hi+(hi - lo)
 ·rw[v4 (r:=0) (k:=1) h (by grind) (by grind) (by grind),if_neg (by grind)]
  grind
 ·rw[v4 (r:=z - lo) (k:=0) h (by grind) (by grind) (by grind)]
  by_cases e2:z=hi
  ·rw[if_neg (by grind)];grind
  ·rw[if_pos (by grind)];grind
theorem JN (h:lo<hi) (h0:lo+(hi - lo+(hi - lo))<=z) (h1:z<=hi+(hi - lo+(hi - lo))):zZ lo hi z=z - (hi - lo+(hi - lo)):=by
 rw[v4 (r:=z - (hi - lo+(hi - lo)) - lo) (k:=1) h (by grind) (by grind) (by grind),if_neg (by grind)]
 grind
end
def cov (ws:List (Rat×Rat)) (x:Rat):Prop:=∃w∈ws,w.1<=x/\x<=w.2
section
variable {α:Type} [LE α] [DecidableLE α]
def xn:List (α×α)->α×α->List (α×α)
 | p::r,w=>if w.1<=p.2 then(p.1,w.2)::r else w::p::r
 | [],w=>[w]
def xR (ws:List (α×α)):List (α×α):=(ws.foldl xn []).reverse
end
section
variable {α β:Type} [LE α] [DecidableLE α] [LE β] [DecidableLE β] {φ:α->β}
def pm (φ:α->β) (w:α×α):β×β:=(φ w.1,φ w.2)
theorem V8 (h:∀a b,φ a<=φ b↔a<=b) (r:List (α×α)) (w:α×α):(xn r w).map (pm φ)=xn (r.map (pm φ)) (pm φ w):=by
 cases r with
 | nil=>rfl
 | cons p r =>
  show (if w.1<=p.2 then(p.1,w.2)::r else w::p::r).map (pm φ)=if φ w.1<=φ p.2 then _ else _
  by_cases e:w.1<=p.2
  ·rw[if_pos e,if_pos ((h _ _).mpr e)];rfl
  ·rw[if_neg e,if_neg λz=>e ((h _ _).mp z)];rfl
theorem V4 (h:∀a b,φ a<=φ b↔a<=b) (ws:List (α×α)):∀r,(ws.foldl xn r).map (pm φ)=(ws.map (pm φ)).foldl xn (r.map (pm φ)):=by
 induction ws with
 | nil=>intro r;rfl
 | cons w ws ih=>intro r;show (ws.foldl xn (xn r w)).map (pm φ)=_;rw[ih,V8 h];rfl
theorem V6 (h:∀a b,φ a<=φ b↔a<=b) (ws:List (α×α)):(xR ws).map (pm φ)=xR (ws.map (pm φ)):=by
 unfold xR;rw[List.map_reverse,V4 h];rfl
end
structure JI (r ds:List (Rat×Rat)):Prop where
 cv:∀x,cov r x↔cov ds x
 le:∀p∈r,p.1<=p.2
 dj:r.Pairwise λu v=>v.2<u.1
 hd:∀p l,r=p::l->(∃d∈ds,p.1=d.1)/\∃d∈ds,p.2=d.2
theorem JI.step {r ds:List (Rat×Rat)}{w:Rat×Rat}(h:JI r ds) (hw:w.1<=w.2) (up:∀d∈ds,d.1<=w.1/\d.2<=w.2):JI (xn r w) (ds++[w]):=by
 have cvA:∀x,cov (ds++[w]) x↔cov ds x\/(w.1<=x/\x<=w.2):=λx=>by
  unfold cov;simp only[List.mem_append,List.mem_singleton]
  constructor
  ·rintro ⟨u,m | rfl,q⟩
   ·exact .inl ⟨u,m,q⟩
   ·exact .inr q
  ·rintro (⟨u,m,q⟩ | q)
   ·exact⟨u,.inl m,q⟩
   ·exact⟨w,.inr rfl,q⟩
 have cvC:∀(p:Rat×Rat) (l:List (Rat×Rat)) x,cov (p::l) x↔(p.1<=x/\x<=p.2)\/cov l x:=λp l x=>by
  unfold cov;simp only[List.mem_cons]
  constructor
  ·rintro ⟨u,rfl | m,q⟩
   ·exact .inl q
   ·exact .inr ⟨u,m,q⟩
  ·rintro (q | ⟨u,m,q⟩)
   ·exact⟨p,.inl rfl,q⟩
   ·exact⟨u,.inr m,q⟩
 cases r with
 | nil =>
  refine⟨λx=>?_,?_,List.pairwise_singleton _ _,?_⟩
  ·rw[cvA,<-h.cv];show cov [w] x↔_
   rw[cvC]
   constructor
   ·rintro (q | ⟨_,m,_⟩)
    ·exact .inr q
    ·cases m
   ·rintro (⟨_,m,_⟩ | q)
    ·cases m
    ·exact .inl q
  ·intro p m;obtain rfl:p=w:=by simpa [xn]using m
   exact hw
  ·intro p l e
   obtain⟨rfl,rfl⟩:=List.cons.inj e
   exact⟨⟨w,by simp,rfl⟩,⟨w,by simp,rfl⟩⟩
 | cons p r =>
  obtain⟨⟨d1,m1,e1⟩,⟨d2,m2,e2⟩⟩:=h.hd p r rfl
  have u1:=(up d1 m1).1
  have u2:=(up d2 m2).2
  have hp:=h.le p (List.mem_cons_self ..)
  have hds:=List.pairwise_cons.mp h.dj
  show JI (if w.1<=p.2 then(p.1,w.2)::r else w::p::r) _
  by_cases e:w.1<=p.2
  ·rw[if_pos e]
   refine⟨λx=>?_,?_,List.pairwise_cons.mpr ⟨hds.1,hds.2⟩,?_⟩
   ·rw[cvA,<-h.cv,cvC,cvC]
    constructor
    ·rintro (⟨a,b⟩ | q)
     ·by_cases hx:x<=p.2
      ·exact .inl (.inl ⟨a,hx⟩)
      ·exact .inr ⟨by grind,b⟩
     ·exact .inl (.inr q)
    ·rintro ((⟨a,b⟩ | q) | ⟨a,b⟩)
     ·exact .inl ⟨a,by show x<=w.2;grind⟩
     ·exact .inr q
     ·exact .inl ⟨by show p.1<=x;grind,b⟩
   ·intro q m
    rcases List.mem_cons.mp m with rfl | m
    ·show p.1<=w.2;grind
    ·exact h.le q (List.mem_cons_of_mem _ m)
   ·intro q l eq
    obtain⟨rfl,rfl⟩:=List.cons.inj eq
    exact⟨⟨d1,by simp[m1],e1⟩,⟨w,by simp,rfl⟩⟩
  ·rw[if_neg e]
   refine⟨λx=>?_,?_,?_,?_⟩
   ·rw[cvA,cvC,h.cv]
    constructor
    ·rintro (q | q)
     ·exact .inr q
     ·exact .inl q
    ·rintro (q | q)
     ·exact .inr q
     ·exact .inl q
   ·intro q m
    rcases List.mem_cons.mp m with rfl | m
    ·exact hw
    ·exact h.le q m
   ·refine List.pairwise_cons.mpr ⟨λq m=>?_,h.dj⟩
    rcases List.mem_cons.mp m with rfl | m
    ·grind
    ·have:=hds.1 q m;grind
   ·intro q l eq
    obtain⟨rfl,rfl⟩:=List.cons.inj eq
    exact⟨⟨w,by simp,rfl⟩,⟨w,by simp,rfl⟩⟩
theorem Vw:∀(ws r ds:List (Rat×Rat)),JI r ds->(∀w∈ws,w.1<=w.2)->(ws.Pairwise λu v=>u.1<=v.1/\u.2<=v.2)->(∀d∈ds,∀w∈ws,d.1<=w.1/\d.2<=w.2)->JI (ws.foldl xn r) (ds++ws)
 | [],r,ds,h,_,_,_=>by rw[List.append_nil];exact h
 | w::ws,r,ds,h,hl,hp,hd=>by
  have hp':=List.pairwise_cons.mp hp
  rw[show ds++w::ws=(ds++[w])++ws by simp]
  refine Vw ws (xn r w) (ds++[w]) (h.step (hl w (by simp)) λd m=>hd d m w (by simp)) (λv m=>hl v (by simp[m])) hp'.2 λd m v mv=>?_
  rcases List.mem_append.mp m with m | m
  ·exact hd d m v (by simp[mv])
  ·obtain rfl:d=w:=by simpa using m
   exact hp'.1 v mv
theorem XE {ws:List (Rat×Rat)} (hl:∀w∈ws,w.1<=w.2) (hp:ws.Pairwise λu v=>u.1<=v.1/\u.2<=v.2):JI (ws.foldl xn []) ws:=by
 have:=Vw ws [] [] ⟨λx=>Iff.rfl,λp m=>(by cases m),.nil,λp l e=>(by cases e)⟩ hl hp λd m=>(by cases m)
 simpa using this
theorem JT {ws:List (Rat×Rat)} (hl:∀w∈ws,w.1<=w.2) (hp:ws.Pairwise λu v=>u.1<=v.1/\u.2<=v.2) (x:Rat):cov (xR ws) x↔cov ws x:=by
 rw[<-(XE hl hp).cv x]
 unfold cov xR
 simp only[List.mem_reverse]
theorem zbb {ws:List (Rat×Rat)} (hl:∀w∈ws,w.1<=w.2) (hp:ws.Pairwise λu v=>u.1<=v.1/\u.2<=v.2):∀p∈xR ws,p.1<=p.2:=λp m=>(XE hl hp).le p (by unfold xR at m;simpa using m)
theorem zba {ws:List (Rat×Rat)} (hl:∀w∈ws,w.1<=w.2) (hp:ws.Pairwise λu v=>u.1<=v.1/\u.2<=v.2):(xR ws).Pairwise λu v=>u.2<v.1:=by
 unfold xR;rw[List.pairwise_reverse];exact(XE hl hp).dj
end KM
end
section
set_option maxHeartbeats 8000000
set_option Elab.async false
set_option linter.all false
set_option maxRecDepth 100000
namespace KM
section
variable {α:Type} [Add α] [Sub α] [LE α] [DecidableLE α]
def mx (a b:α):α:=if b<=a then a else b
def mn (a b:α):α:=if a<=b then a else b
def unf (lo hi f l:α):List (α×α):=[(f,l),(hi+hi - l,hi+hi - f),((hi - lo)+(hi - lo)+f,(hi - lo)+(hi - lo)+l)]
def clp (lo hi g:α) (w:α×α):α×α:=(mx lo (w.1 - g),mn hi (w.2 - g))
def xC (lo hi g f l:α):List (α×α):=((unf lo hi f l).map (clp lo hi g)).filter λw=>decide (w.1<=w.2)
end
section
variable {α β:Type} [Add α] [Sub α] [LE α] [DecidableLE α] [Add β] [Sub β] [LE β] [DecidableLE β] {φ:α->β}
structure Emb (φ:α->β):Prop where
 le:∀a b,φ a<=φ b↔a<=b
 ad:∀a b,φ (a+b)=φ a+φ b
 su:∀a b,φ (a - b)=φ a - φ b
theorem Emb.mx (e:Emb φ) (a b:α):φ (mx a b)=KM.mx (φ a) (φ b):=by
 unfold KM.mx
 by_cases h:b<=a
 ·rw[if_pos h,if_pos ((e.le _ _).mpr h)]
 ·rw[if_neg h,if_neg λz=>h ((e.le _ _).mp z)]
theorem Emb.mn (e:Emb φ) (a b:α):φ (mn a b)=KM.mn (φ a) (φ b):=by
 unfold KM.mn
 by_cases h:a<=b
 ·rw[if_pos h,if_pos ((e.le _ _).mpr h)]
 ·rw[if_neg h,if_neg λz=>h ((e.le _ _).mp z)]
theorem Emb.clp (e:Emb φ) (lo hi g:α) (w:α×α):pm φ (clp lo hi g w)=KM.clp (φ lo) (φ hi) (φ g) (pm φ w):=by
 unfold pm KM.clp
 rw[e.mx,e.mn,e.su,e.su]
theorem Emb.ways (e:Emb φ) (lo hi g f l:α):(xC lo hi g f l).map (pm φ)=xC (φ lo) (φ hi) (φ g) (φ f) (φ l):=by
 unfold xC
 rw[show ((unf (φ lo) (φ hi) (φ f) (φ l)).map (KM.clp (φ lo) (φ hi) (φ g)))=((unf lo hi f l).map (KM.clp lo hi g)).map (pm φ)from ?_]
 ·generalize (unf lo hi f l).map (KM.clp lo hi g)=ws
  induction ws with
  | nil=>rfl
  | cons w ws ih =>
   rw[List.map_cons,List.filter_cons,List.filter_cons]
   have hle:(pm φ w).1<=(pm φ w).2↔w.1<=w.2:=e.le _ _
   by_cases h:w.1<=w.2
   ·rw[if_pos (decide_eq_true h),if_pos (decide_eq_true (hle.mpr h)),List.map_cons,ih]
   ·rw[if_neg (by rw[decide_eq_false h];decide),if_neg (by rw[decide_eq_false (λz=>h (hle.mp z))];decide),ih]
 ·unfold unf
  simp only[List.map_cons,List.map_nil,e.clp]
  unfold pm
  simp only[e.ad,e.su]
end
section
variable {lo hi g f l x:Rat}
theorem zdW {a b c:Rat}:mx a b<=c↔a<=c/\b<=c:=by unfold mx;split <;> grind
theorem zdT {a b c:Rat}:c<=mn a b↔c<=a/\c<=b:=by unfold mn;split <;> grind
theorem XJ {a b c:Rat}(h:b<=c):mx a b<=mx a c:=by unfold mx;split <;> split <;> grind
theorem XI {a b c:Rat}(h:b<=c):mn a b<=mn a c:=by unfold mn;split <;> split <;> grind
theorem Qd:∀w∈xC lo hi g f l,w.1<=w.2:=λw m=>by
 unfold xC at m
 exact of_decide_eq_true (List.mem_filter.mp m).2
theorem Qe (h:lo<hi) (h1:lo<=f) (h2:f<=l) (h3:l<=hi):(xC lo hi g f l).Pairwise λu v=>u.1<=v.1/\u.2<=v.2:=by
 unfold xC
 refine List.Pairwise.filter _ ?_
 unfold unf
 simp only[List.map_cons,List.map_nil]
 refine List.pairwise_cons.mpr ⟨λw m=>?_,List.pairwise_cons.mpr ⟨λw m=>?_,List.pairwise_singleton _ _⟩⟩
 ·rcases List.mem_cons.mp m with rfl | m
  ·exact⟨XJ (by grind),XI (by grind)⟩
  ·obtain rfl:=List.mem_singleton.mp m
   exact⟨XJ (by grind),XI (by grind)⟩
 ·obtain rfl:=List.mem_singleton.mp m
  exact⟨XJ (by grind),XI (by grind)⟩
theorem JG:cov (xC lo hi g f l) x↔(lo<=x/\x<=hi)/\((f<=x+g/\x+g<=l)\/(hi+hi - l<=x+g/\x+g<=hi+hi - f)\/((hi - lo)+(hi - lo)+f<=x+g/\x+g<=(hi - lo)+(hi - lo)+l)):=by
 have one:∀a b:Rat,((clp lo hi g (a,b)).1<=x/\x<=(clp lo hi g (a,b)).2)↔(lo<=x/\x<=hi)/\(a<=x+g/\x+g<=b):=λa b=>by
  show (mx lo (a - g)<=x/\x<=mn hi (b - g))↔_
  rw[zdW,zdT]
  constructor <;> grind
 have key:cov (xC lo hi g f l) x↔∃w∈unf lo hi f l,(clp lo hi g w).1<=x/\x<=(clp lo hi g w).2:=by
  unfold cov xC
  constructor
  ·rintro ⟨w,m,q⟩
   obtain⟨u,mu,rfl⟩:=List.mem_map.mp (List.mem_filter.mp m).1
   exact⟨u,mu,q⟩
  ·rintro ⟨u,mu,q⟩
   exact⟨_,List.mem_filter.mpr ⟨List.mem_map.mpr ⟨u,mu,rfl⟩,decide_eq_true (by grind)⟩,q⟩
 rw[key]
 unfold unf
 constructor
 ·rintro ⟨w,m,q⟩
  rcases List.mem_cons.mp m with rfl | m
  ·have:=(one _ _).mp q;exact⟨this.1,.inl this.2⟩
  ·rcases List.mem_cons.mp m with rfl | m
   ·have:=(one _ _).mp q;exact⟨this.1,.inr (.inl this.2)⟩
   ·obtain rfl:=List.mem_singleton.mp m
    have:=(one _ _).mp q;exact⟨this.1,.inr (.inr this.2)⟩
 ·rintro ⟨h,q | q | q⟩
  ·exact⟨_,List.mem_cons_self ..,(one _ _).mpr ⟨h,q⟩⟩
  ·exact⟨_,List.mem_cons_of_mem _ (List.mem_cons_self ..),(one _ _).mpr ⟨h,q⟩⟩
  ·exact⟨_,List.mem_cons_of_mem _ (List.mem_cons_of_mem _ (List.mem_cons_self ..)),(one _ _).mpr ⟨h,q⟩⟩
theorem zb0 {z:Rat}(h:lo<hi) (h1:lo<=f) (h2:f<=l) (h3:l<=hi) (z0:lo<=z) (z1:z<hi+((hi - lo)+(hi - lo))) :
  ((f<=z/\z<=l)\/(hi+hi - l<=z/\z<=hi+hi - f)\/((hi - lo)+(hi - lo)+f<=z/\z<=(hi - lo)+(hi - lo)+l))↔f<=zZ lo hi z/\zZ lo hi z<=l:=by
 constructor
 ·rintro (q | q | q)
  ·rw[JL h (by grind) (by grind)];exact q
  ·rw[JM h (by grind) (by grind)];grind
  ·rw[JN h (by grind) (by grind)];grind
 ·intro q
  by_cases c1:z<=hi
  ·rw[JL h z0 c1]at q;exact .inl q
  ·by_cases c2:z<=hi+(hi - lo)
   ·rw[JM h (by grind) c2]at q;exact .inr (.inl (by grind))
   ·rw[JN h (by grind) (by grind)]at q;exact .inr (.inr (by grind))
theorem Vm {s:Rat}(h:lo<hi) (h1:lo<=f) (h2:f<=l) (h3:l<=hi):cov (xR (xC lo hi (rst s ((hi - lo)+(hi - lo))) f l)) x↔(lo<=x/\x<=hi)/\(f<=zZ lo hi (x+s)/\zZ lo hi (x+s)<=l):=by
 have s0:0<(hi - lo)+(hi - lo):=by grind
 obtain⟨k,ek⟩:=zaf (x:=s) s0
 have r0:=XS (x:=s) (xo s0)
 have r1:=XT (x:=s) (xo s0)
 rw[JT Qd (Qe h h1 h2 h3),JG]
 refine and_congr_right λhx=>?_
 have e:zZ lo hi (x+s)=zZ lo hi (x+rst s ((hi - lo)+(hi - lo))):=by
  rw[<-VZ (z:=x+rst s ((hi - lo)+(hi - lo))) h k]
  congr 1
  grind
 rw[e]
 exact zb0 h h1 h2 h3 (by grind) (by grind)
end
theorem tri (a b:Rat):a<b\/a=b\/b<a:=by grind
def bel (ps:List Rat) (y:Rat):Nat:=ps.countP λp=>decide (p<y)
def cnt (ps:List Rat) (y:Rat):Nat:=ps.countP λp=>decide (p=y)
theorem jO (p:Rat) (ps:List Rat) (y:Rat):bel (p::ps) y=bel ps y+if p<y then 1 else 0:=by
 unfold bel;rw[List.countP_cons];by_cases h:p<y <;> simp[h]
theorem ZF (p:Rat) (ps:List Rat) (y:Rat):cnt (p::ps) y=cnt ps y+if p=y then 1 else 0:=by
 unfold cnt;rw[List.countP_cons];by_cases h:p=y <;> simp[h]
theorem Qj {ps qs:List Rat}(h:ps.Perm qs) (y:Rat):bel ps y=bel qs y:=h.countP_eq _
theorem Qm {ps qs:List Rat}(h:ps.Perm qs) (y:Rat):cnt ps y=cnt qs y:=h.countP_eq _
theorem above {ps:List Rat}{y:Rat}(h:∀p∈ps,y<p):bel ps y=0/\cnt ps y=0:=by
 constructor
 ·unfold bel;rw[List.countP_eq_zero];intro p m;have:=h p m;simp;grind
 ·unfold cnt;rw[List.countP_eq_zero];intro p m;have:=h p m;simp;grind
theorem zaI {ps:List Rat}{y:Rat}(h:∀p∈ps,y<=p):bel ps y=0:=by
 unfold bel;rw[List.countP_eq_zero];intro p m;have:=h p m;simp;grind
theorem kth:∀{ss:List Rat}{k:Nat}{z y:Rat},(ss.Pairwise λu v=>u<=v)->ss[k]? = some z->(z=y↔bel ss y<=k/\k<bel ss y+cnt ss y)
 | [],k,z,y,_,h=>by simp at h
 | a::l,0,z,y,hp,h=>by
  have hp':=List.pairwise_cons.mp hp
  obtain rfl:a=z:=by simpa using h
  rw[jO,ZF]
  rcases tri a y with c | c | c
  ·rw[if_pos c];constructor
   ·intro e;grind
   ·rintro ⟨q,_⟩;omega
  ·subst c
   have:=zaI (ps:=l) (y:=a) hp'.1
   rw[if_neg (by grind),if_pos rfl]
   constructor
   ·intro _;omega
   ·intro _;rfl
  ·have:=above (ps:=l) (y:=y) λp m=>by have:=hp'.1 p m;grind
   rw[if_neg (by grind),if_neg (by grind)]
   constructor
   ·intro e;grind
   ·rintro ⟨_,q⟩;omega
 | a::l,k+1,z,y,hp,h=>by
  have hp':=List.pairwise_cons.mp hp
  have ih:=kth (y:=y) hp'.2 (show l[k]? = some z by simpa using h)
  rw[ih,jO,ZF]
  rcases tri a y with c | c | c
  ·rw[if_pos c,if_neg (by grind)];omega
  ·subst c
   have:=zaI (ps:=l) (y:=a) hp'.1
   rw[if_neg (by grind),if_pos rfl];omega
  ·have:=above (ps:=l) (y:=y) λp m=>by have:=hp'.1 p m;grind
   rw[if_neg (by grind),if_neg (by grind)];omega
def j4 (ps:List Rat) (lo hi:Rat) (k:Int) (y:Rat):Option (Rat×Rat) :=
 if(bel ps y:Int)<=k/\k<=(bel ps y+cnt ps y:Nat)then some (if(bel ps y:Int)<k then lo else y,if k<(bel ps y+cnt ps y:Nat)then hi else y)else none
def xV (ps:List Rat) (lo hi s:Rat) (k:Int) (y:Rat):List (Rat×Rat):=match j4 ps lo hi k y with
 | none=>[]
 | some w=>xR (xC lo hi (rst s ((hi - lo)+(hi - lo))) w.1 w.2)
theorem Jt {ps:List Rat}{lo hi s y x:Rat}{k:Nat}(h:lo<hi) (y0:lo<=y) (y1:y<=hi):cov (xV ps lo hi s k y) x↔(lo<=x/\x<=hi)/\bel (zZ lo hi (x+s)::ps) y<=k/\k<bel (zZ lo hi (x+s)::ps) y+cnt (zZ lo hi (x+s)::ps) y:=by
 have fi:=XA (z:=x+s) h
 unfold xV
 rw[jO,ZF]
 unfold j4
 by_cases c:(bel ps y:Int)<=(k:Int)/\(k:Int)<=(bel ps y+cnt ps y:Nat)
 ·rw[if_pos c]
  obtain⟨c1,c2⟩:=c
  show cov (xR (xC lo hi _ (if(bel ps y:Int)<(k:Int)then lo else y) (if(k:Int)<(bel ps y+cnt ps y:Nat)then hi else y))) x↔_
  rw[Vm h (by split <;> grind) (by split <;> split <;> grind) (by split <;> grind)]
  refine and_congr_right λ_=>?_
  generalize zZ lo hi (x+s)=q at fi ⊢
  rcases tri q y with e | e | e
  ·rw[if_pos e,if_neg (c:=q=y) (by grind)]
   by_cases d1:(bel ps y:Int)<(k:Int)
   ·rw[if_pos d1]
    constructor
    ·intro _;omega
    ·intro _;exact⟨fi.1,by split <;> grind⟩
   ·rw[if_neg d1]
    constructor
    ·rintro ⟨q1,_⟩;grind
    ·rintro ⟨q1,_⟩;omega
  ·subst e
   rw[if_neg (c:=q<q) (by grind),if_pos (c:=q=q) rfl]
   constructor
   ·intro _;omega
   ·intro _;exact⟨by split <;> grind,by split <;> grind⟩
  ·rw[if_neg (c:=q<y) (by grind),if_neg (c:=q=y) (by grind)]
   by_cases d1:(k:Int)<(bel ps y+cnt ps y:Nat)
   ·rw[if_pos d1]
    constructor
    ·intro _;omega
    ·intro _;exact⟨by split <;> grind,fi.2⟩
   ·rw[if_neg d1]
    constructor
    ·rintro ⟨_,q1⟩;grind
    ·rintro ⟨_,q1⟩;omega
 ·rw[if_neg c]
  constructor
  ·rintro ⟨w,m,_⟩;cases m
  ·rintro ⟨_,q1,q2⟩
   exfalso
   refine c ?_
   generalize zZ lo hi (x+s)=q at q1 q2
   rcases tri q y with e | e | e
   ·rw[if_pos e,if_neg (c:=q=y) (by grind)]at q2;rw[if_pos e]at q1;omega
   ·rw[if_neg (c:=q<y) (by grind),if_pos e]at q2;rw[if_neg (c:=q<y) (by grind)]at q1;omega
   ·rw[if_neg (c:=q<y) (by grind),if_neg (c:=q=y) (by grind)]at q2;rw[if_neg (c:=q<y) (by grind)]at q1;omega
end KM
end
section
set_option maxHeartbeats 8000000
set_option Elab.async false
set_option linter.all false
set_option maxRecDepth 100000
namespace KM
theorem qZ {D:Int}(h:0<D):Emb (λi:Int=>Rat.divInt i D):=by
 have su:∀a b:Int,Rat.divInt (a - b) D=Rat.divInt a D - Rat.divInt b D:=λa b=>(ZG (by omega)).symm
 refine⟨λa b=>?_,λa b=>?_,su⟩
 ·have:=vK (a:=b) (b:=a) h
  show Rat.divInt a D<=Rat.divInt b D↔a<=b
  constructor
  ·intro q
   rcases Int.lt_or_le b a with e | e
   ·have:=this.mpr e;grind
   ·exact e
  ·intro q
   by_cases e:Rat.divInt b D<Rat.divInt a D
   ·have:=this.mp e;omega
   ·grind
 ·show Rat.divInt (a+b) D=Rat.divInt a D+Rat.divInt b D
  have:=su (a+b) b
  rw[show a+b - b=a by omega]at this
  grind
theorem za1 {D:Int}(k a:Int):Rat.divInt (k*a) D=(k:Rat)*Rat.divInt a D:=by
 rw[<-Q0,Rat.divInt_mul_divInt,Int.one_mul]
end KM
namespace KK
open PySem L2 KM
theorem Xp (l h s v:Int):(jh (some l) (some h) s v).1=if h<l+(s - l) % (2*(h - l))then 2*h - (l+(s - l) % (2*(h - l)))else l+(s - l) % (2*(h - l)):=by
 have e4:∀(w:Option Int) (p:Int×Int),(f4 w p).1=p.1:=λw p=>by
  cases w with
  | none=>rfl
  | some w=>show (if p.1=w then(p.1,-zaQ p.2)else p).1=p.1;split <;> rfl
 have e3:∀(w:Option Int) (p:Int×Int),(f3 w p).1=p.1:=λw p=>by
  cases w with
  | none=>rfl
  | some w=>show (if p.1=w then(p.1,zaQ p.2)else p).1=p.1;split <;> rfl
 unfold jh
 rw[e4,e3]
 unfold f1 f2
 dsimp only
 split <;> rfl
theorem V9 {l h s v D:Int}(hD:0<D) (hl:l<h):Rat.divInt (jh (some l) (some h) s v).1 D=zZ (Rat.divInt l D) (Rat.divInt h D) (Rat.divInt s D):=by
 have E:=qZ hD
 have lt:∀a b:Int,Rat.divInt a D<Rat.divInt b D↔a<b:=λa b=>vK hD
 have r0:=Int.emod_nonneg (s - l) (b:=2*(h - l)) (by omega)
 have r1:=Int.emod_lt_of_pos (s - l) (b:=2*(h - l)) (by omega)
 have rk:=Int.emod_add_mul_ediv (s - l) (2*(h - l))
 rw[Xp]
 generalize (s - l) % (2*(h - l))=r at r0 r1 rk ⊢
 generalize (s - l)/(2*(h - l))=k at rk
 have z0:Rat.divInt 0 D=0:=qY D
 have hh:Rat.divInt h D - Rat.divInt l D=Rat.divInt (h - l) D:=(E.su h l).symm
 have h2:Rat.divInt h D - Rat.divInt l D+(Rat.divInt h D - Rat.divInt l D)=Rat.divInt (2*(h - l)) D:=by
  rw[hh,show 2*(h - l)=(h - l)+(h - l) by omega];exact(E.ad _ _).symm
 have ez:Rat.divInt s D - Rat.divInt l D=Rat.divInt r D+(k:Rat)*(Rat.divInt h D - Rat.divInt l D+(Rat.divInt h D - Rat.divInt l D)):=by
  rw[h2,<-za1]
  have a1:=E.su s l
  have a2:=E.ad r (k*(2*(h - l)))
  rw[<-a1,<-a2,<-rk,Int.mul_comm k]
 rw[v4 (r:=Rat.divInt r D) (k:=k) ((lt _ _).mpr hl) (by rw[<-z0];exact(E.le _ _).mpr r0) (by rw[h2];exact(lt _ _).mpr r1) ez]
 have a1:=E.ad l r
 have a2:=E.su (2*h) (l+r)
 have a3:Rat.divInt (2*h) D=Rat.divInt h D+Rat.divInt h D:=by rw[show 2*h=h+h by omega];exact E.ad h h
 have a4:=lt h (l+r)
 have a5:=lt (h - l) r
 rw[hh]
 by_cases c:h<l+r
 ·rw[if_pos c,if_pos (a5.mpr (by omega)),a2,a1,a3,<-hh];grind
 ·rw[if_neg c,if_neg λq=>c (by have:=a5.mp q;omega),a1]
theorem jH {x:Rat}{b:Int}(hb:0<b) (h:(x.den:Int) ∣ b):Rat.divInt (byB x b) b=x:=by
 obtain⟨k,e⟩:=h
 have d1:=den_pos x
 have f:b.fdiv (x.den:Int)=k:=by rw[Int.fdiv_eq_ediv_of_nonneg _ (by omega),e];exact Int.mul_ediv_cancel_left _ (by omega)
 have k0:k≠0:=λz=>by rw[z,Int.mul_zero]at e;omega
 unfold byB
 rw[f]
 conv=>lhs;rw[e]
 rw[Rat.divInt_mul_right k0,Rat.num_divInt_den]
section
variable {bs:List Bl}{lo hi x:Rat}
theorem LnZ.dv {lo hi:Wl}(h:LnZ bs lo hi) (l8:bs.length<=8):(0<pbO bs lo hi/\∀t∈ths bs lo hi,(t.1.den:Int) ∣ pbO bs lo hi)/\(0<sbO bs lo hi/\∀t∈ths bs lo hi,(t.2.den:Int) ∣ sbO bs lo hi):=by
 have hl:=vH (lo:=lo) (hi:=hi) l8
 obtain⟨p1,p2,p3⟩:=zbc (qs:=(ths bs lo hi).map (·.1)) (λq m=>by obtain⟨t,mt,rfl⟩:=List.mem_map.mp m;exact(h.sz t mt).1.2) (by rw[List.length_map];exact hl)
 obtain⟨s1,s2,s3⟩:=zbc (qs:=(ths bs lo hi).map (·.2)) (λq m=>by obtain⟨t,mt,rfl⟩:=List.mem_map.mp m;exact(h.sz t mt).2.2) (by rw[List.length_map];exact hl)
 exact⟨⟨p1,λt m=>p3 _ (List.mem_map.mpr ⟨t,m,rfl⟩)⟩,⟨s1,λt m=>s3 _ (List.mem_map.mpr ⟨t,m,rfl⟩)⟩⟩
theorem jT (z:LnZ bs (some (lo,0)) (some (hi,0))) (l8:bs.length<=8):(vt bs (some (lo,0)) (some (hi,0)) x).map (λu=>Rat.divInt u.1 (pbO bs (some (lo,0)) (some (hi,0))*(x/Rat.divInt (sbO bs (some (lo,0)) (some (hi,0))) (pbO bs (some (lo,0)) (some (hi,0)))).den))=bs.map λb=>zZ lo hi (b.pl+b.sp*x):=by
 obtain⟨⟨p0,pd⟩,⟨s0,sd⟩⟩:=z.dv l8
 have lh:=z.lh _ _ rfl rfl
 have tl:=pd _ (Qb rfl)
 have th:=pd _ (Qa rfl)
 unfold vt
 generalize pbO bs (some (lo,0)) (some (hi,0))=p at *
 generalize sbO bs (some (lo,0)) (some (hi,0))=s at *
 rw[List.map_map]
 refine List.map_congr_left λb m=>?_
 have t1:=pd _ (zaF m)
 have t2:=sd _ (zaF m)
 dsimp only at lh tl th t1 t2
 generalize hk:x/Rat.divInt s p=k
 have kd:=den_pos k
 have D0:0<p*(k.den:Int):=Int.mul_pos p0 kd
 have sc:∀q:Rat,(q.den:Int) ∣ p->Rat.divInt (byB q p*(k.den:Int)) (p*(k.den:Int))=q:=λq h=>by rw[Rat.divInt_mul_right (by omega),jH p0 h]
 show Rat.divInt (jh (some (byB lo p*(k.den:Int))) (some (byB hi p*(k.den:Int))) (byB b.pl p*(k.den:Int)+byB b.sp s*k.num) (byB b.sp s)).1 (p*(k.den:Int))=_
 rw[V9 D0 (Int.mul_lt_mul_of_pos_right (JA p0 tl th lh) kd),sc lo tl,sc hi th]
 congr 1
 have E:=(qZ D0).ad (byB b.pl p*(k.den:Int)) (byB b.sp s*k.num)
 rw[E,sc b.pl t1]
 congr 1
 have e1:Rat.divInt (byB b.sp s*k.num) (p*(k.den:Int))=Rat.divInt (byB b.sp s) p*k:=by
  conv=>rhs;rw[<-Rat.num_divInt_den k]
  rw[Rat.divInt_mul_divInt]
 have e2:Rat.divInt (byB b.sp s) p=b.sp*Rat.divInt s p:=by
  conv=>rhs;rw[<-jH s0 t2]
  rw[Rat.divInt_mul_divInt,Int.mul_comm s p]
  rw[Rat.divInt_mul_right (by omega)]
 have sp:Rat.divInt s p≠0:=λe=>by
  rw[show (0:Rat)=Rat.divInt 0 1 by rfl,Rat.divInt_eq_divInt_iff (by omega) (by decide)]at e
  omega
 rw[e1,e2,<-hk,Rat.mul_assoc]
 congr 1
 rw[Rat.mul_comm,Rat.div_mul_cancel sp]
end
end KK
end
section
set_option maxHeartbeats 4000000
set_option Elab.async false
set_option linter.all false
set_option maxRecDepth 100000
namespace L2
open PySem PySem.Spec PyProof.Rows
section
variable {X:Cx}
theorem zdQ {r:R2}{a b:Expr}{ta tb:TE}{pos:Pos}(hr:IxR X r) (ha:Bx (PE X a ta)) (hb:Bx (PE X b tb)) (hs:Vj b):Bx (PE X (.Subscript a b pos) (tOp r ta tb)):=by obtain⟨ha⟩:=ha;obtain⟨hb⟩:=hb;exact⟨zn hr ha hb hs⟩
end
end L2
namespace KK
open PySem L2 KM
theorem bdn {n:Nat}{i:Int}(h0:0<=i) (h1:i<2^n):Bd n i:=by
 unfold Bd
 have:((2^n:Nat):Int)=(2:Int)^n:=by push_cast;rfl
 omega
theorem bdz {n:Nat}{i:Int}(h0 : -(2^n)<i) (h1:i<2^n):Bd n i:=by
 unfold Bd
 have:((2^n:Nat):Int)=(2:Int)^n:=by push_cast;rfl
 omega
section
variable {P:Program}{w:World}{K:PySem.W.Frag}{mg:Str->Option Value}{base:Heap}
theorem zan:zD ["one","other"] ["one","other"] (zi jy):=⟨rfl,rfl,rfl,by decide +kernel,rfl,by decide +kernel,by decide +kernel⟩
theorem J6 (D:Df K mg "minus" jy ["one","other"] []) (c:Cal P w K mg base "ratio" 2 ["top","bottom"] [] qd):Cal P w K mg base "minus" 3 ["one","other"] [] (xK Sz2 (· - ·)):=by
 refine D.cal (k:=2) zan (λvs H Q E h=>by obtain⟨_,_,_,_,rfl,_⟩:=h;rfl) (λf cdv A outer s H vs Q E hr h=>?_)
 obtain⟨p,q,x,y,rfl,hp,hq,⟨hx,hy⟩,k⟩:=h
 have bx:=Bd4 hx
 have b_y:=Bd4 hy
 refine⟨_,(zr (zF (zC c hr (zd (zw xW (zw zJ (zn zm (pv 0) ze (λ_ _=>rfl)) (zn zm (pv 1) ze (λ_ _=>rfl))) (zw zJ (zn zm (pv 1) ze (λ_ _=>rfl)) (zn zm (pv 0) ze (λ_ _=>rfl)))) (zd (zw zJ (zn zm (pv 0) ze (λ_ _=>rfl)) (zn zm (pv 1) ze (λ_ _=>rfl))) zf))))),?_⟩
 refine⟨_,rfl,p,_,_,_,rfl,rfl,.of hp,at0 ..,_,rfl,q,_,_,_,rfl,rfl,.of hq,at1 ..,_,_,rfl,rfl,⟨bx.1,b_y.2⟩,_,rfl,q,_,_,_,rfl,rfl,.of hq,at0 ..,_,rfl,p,_,_,_,rfl,rfl,.of hp,at1 ..,_,_,rfl,rfl,⟨b_y.1,bx.2⟩,_,_,rfl,rfl,?_⟩
 refine⟨_,rfl,p,_,_,_,rfl,rfl,.of hp,at1 ..,_,rfl,q,_,_,_,rfl,rfl,.of hq,at1 ..,_,_,rfl,rfl,⟨bx.2,b_y.2⟩,?_⟩
 refine⟨_,_,rfl,Int.mul_ne_zero (zR x) (zR y),(hx.2.mul hy.2).mono (by decide),λr H' e h=>k r H' e ?_⟩
 show zv H' r (x - y)
 rw[<-KM.jU];exact h
end
section
variable {P:Program}{w:World}{K:PySem.W.Frag}{mg:Str->Option Value}{base:Heap}
theorem XY:zD ["top","bottom","one","other"] ["top","bottom"] (zi vk):=⟨rfl,rfl,rfl,by decide +kernel,rfl,by decide +kernel,by decide +kernel⟩
theorem zdd (D:Df K mg "_law_low" vk ["top","bottom"] []) (T:TxB K mg):Cal P w K mg base "_law_low" 1 ["top","bottom"] [] qd:=by
 refine D.cal (k:=0) XY (λvs H Q E h=>by obtain⟨a,b,rfl,_⟩:=h;rfl) (λf cdv A outer s H vs Q E hr h=>?_)
 obtain⟨t,b,rfl,hb,hz,k⟩:=h
 refine⟨_,(zj (Zc (i:=2) (j:=3) rfl XY.nd rfl rfl (by decide) rfl rfl (zd (zL vq (by rfl) T.nAbs PyProof.Rows.boot_abs (zd (pv 0) zf)) (zd (zL vq (by rfl) T.nAbs PyProof.Rows.boot_abs (zd (pv 1) zf)) zf)) (by rfl))
  (zj (Qu PassesOwn.never (zH zaa (pv 3) ze (zI _)) (zr (Zc (i:=2) (j:=3) rfl XY.nd rfl rfl (by decide) rfl rfl (zd (pv 3) (zd (zw vv (pv 2) (pv 3)) zf)) (by rfl))))
  (zj (xa (zH jF (pv 1) ze (zI _)) (zr (zE (i:=2) XY.nd rfl (Or.inl rfl) (zw xW ze (pv 2)))) zO)
  (zr (zF (zU (zd (zw qr (pv 0) (pv 2)) (zd (zw qr (pv 1) (pv 2)) zf)))))))),?_⟩
 have hd:=KM.zb8 (t:=t) hb
 have hdz:Bd 8900 (KM.dv t b):=hz.of_le (KM.zb7 hb)
 have ge:(Int.gcd (if t<0 then -t else t) (if b<0 then -b else b):Nat)=Int.gcd t b:=by
  rw[vI,vI];simp[Int.gcd]
 refine⟨_,rfl,t,rfl,⟨_,rfl,b,rfl,_,_,rfl,?_⟩⟩
 have fin:∀(σ:St) (z:Option V),σ=[some (.int t),some (.int b),some (.int (KM.dv t b)),z]->zaC (zaD (xr (tOp (rI Qi λi j=>V.int (i.fdiv j)) (z8 0) (z8 2)) (xr (tOp (rI Qi λi j=>V.int (i.fdiv j)) (z8 1) (z8 2)) jD))) { nx:=λ_ H'=>Q .non H',rt:=Q } σ H:=by
  rintro σ z rfl
  refine⟨_,rfl,_,rfl,_,_,rfl,rfl,⟨hd,hdz⟩,_,rfl,_,rfl,_,_,rfl,rfl,⟨hd,hdz⟩,?_⟩
  refine⟨by show 2<=sizeLine;decide,λp hp=>k p _ (zt.upd hp) ?_⟩
  show upd H p _ p=_
  rw[zo]
  dsimp only
  rw[KM.QR hb,KM.JK hb];rfl
 refine QG (λσ H1=>H1=H/\∃x y:Int,σ=[some (.int t),some (.int b),some (.int x),some (.int y)]/\0<=x/\0<=y/\Int.gcd x y=Int.gcd t b)
  (λσ _=>match σ with | [_,_,_,some (.int y)]=>y.toNat | _=>0) ⟨rfl,_,_,rfl,(by rw[vI];omega),(by rw[vI];omega),ge⟩ ?_ ?_
 ·rintro σ H1 ⟨rfl,x,y,rfl,hx,hy,e⟩
  refine⟨_,rfl,rfl,_,rfl,qo (λh=>?_) (λh=>?_)⟩
  ·have h':0<y:=by
    have:y≠0:=λz=>by subst z;simp at h
    omega
   refine⟨_,rfl,_,rfl,_,rfl,_,_,rfl,rfl,h',_,_,rfl,⟨rfl,_,_,rfl,hy,Int.emod_nonneg _ (by omega),?_⟩,?_⟩
   ·rw[KM.Qo hx h'];exact e
   ·show (x % y).toNat<y.toNat
    have:=Int.emod_lt_of_pos x h'
    omega
  ·have:y=0:=by simpa using h
   subst this
   have e2:x=(Int.gcd t b:Nat):=by rw[<-e,Int.gcd_zero_right];omega
   refine⟨_,rfl,_,_,rfl,rfl,_,rfl,qo (λh=>?_) (λh=>?_)⟩
   ·have h':b<0:=of_decide_eq_true h
    refine⟨_,rfl,0,_,rfl,rfl,fin _ (some (.int 0)) ?_⟩
    rw[e2];unfold KM.dv;rw[if_pos h',<-Int.zero_sub];rfl
   ·have h':¬b<0:=λz=>h (decide_eq_true z)
    refine fin _ (some (.int 0)) ?_
    rw[e2];unfold KM.dv;rw[if_neg h']
 ·rintro σ H1 Q1 Q2 hq ⟨v,e,e1,k1,e3,q⟩
  exact⟨v,e,e1,k1,e3,hq _ _ q⟩
theorem zbL:zD ["a","b"] ["a","b"] (zi vi):=⟨rfl,rfl,rfl,by decide +kernel,rfl,by decide +kernel,by decide +kernel⟩
theorem zbl (D:Df K mg "_law_add" vi ["a","b"] []) (cL:Cal P w K mg base "_law_low" 1 ["top","bottom"] [] qd):Cal P w K mg base "_law_add" 2 ["a","b"] [] (xK Sz2 (· + ·)):=by
 refine D.cal (k:=1) zbL (λvs H Q E h=>by obtain⟨_,_,_,_,rfl,_⟩:=h;rfl) (λf cdv A outer s H vs Q E hr h=>?_)
 obtain⟨p,q,x,y,rfl,hp,hq,⟨hx,hy⟩,k⟩:=h
 exact⟨_,(zr (zF (zC cL hr (zd (zw xt (zw zJ (zn zm (pv 0) ze (λ_ _=>rfl)) (zn zm (pv 1) ze (λ_ _=>rfl))) (zw zJ (zn zm (pv 1) ze (λ_ _=>rfl)) (zn zm (pv 0) ze (λ_ _=>rfl)))) (zd (zw zJ (zn zm (pv 0) ze (λ_ _=>rfl)) (zn zm (pv 1) ze (λ_ _=>rfl))) zf))))),zbI hp hq hx hy k⟩
theorem zdv:zD ["a","b"] ["a","b"] (zi vU):=⟨rfl,rfl,rfl,by decide +kernel,rfl,by decide +kernel,by decide +kernel⟩
theorem zda (D:Df K mg "_law_by" vU ["a","b"] []) (cL:Cal P w K mg base "_law_low" 1 ["top","bottom"] [] qd):Cal P w K mg base "_law_by" 2 ["a","b"] [] (xK Sz2 (· * ·)):=by
 refine D.cal (k:=1) zdv (λvs H Q E h=>by obtain⟨_,_,_,_,rfl,_⟩:=h;rfl) (λf cdv A outer s H vs Q E hr h=>?_)
 obtain⟨p,q,x,y,rfl,hp,hq,⟨hx,hy⟩,k⟩:=h
 exact⟨_,(zr (zF (zC cL hr (zd (zw zJ (zn zm (pv 0) ze (λ_ _=>rfl)) (zn zm (pv 1) ze (λ_ _=>rfl))) (zd (zw zJ (zn zm (pv 0) ze (λ_ _=>rfl)) (zn zm (pv 1) ze (λ_ _=>rfl))) zf))))),Qw hp hq hx hy k⟩
theorem zbQ:zD ["a","b"] ["a","b"] (zi vm):=⟨rfl,rfl,rfl,by decide +kernel,rfl,by decide +kernel,by decide +kernel⟩
theorem zbr (D:Df K mg "_law_off" vm ["a","b"] []) (cL:Cal P w K mg base "_law_low" 1 ["top","bottom"] [] qd):Cal P w K mg base "_law_off" 2 ["a","b"] [] (xK Sz2 (· - ·)):=by
 refine D.cal (k:=1) zbQ (λvs H Q E h=>by obtain⟨_,_,_,_,rfl,_⟩:=h;rfl) (λf cdv A outer s H vs Q E hr h=>?_)
 obtain⟨p,q,x,y,rfl,hp,hq,⟨hx,hy⟩,k⟩:=h
 have bx:=Bd4 hx
 have b_y:=Bd4 hy
 refine⟨_,(zr (zF (zC cL hr (zd (zw xW (zw zJ (zn zm (pv 0) ze (λ_ _=>rfl)) (zn zm (pv 1) ze (λ_ _=>rfl))) (zw zJ (zn zm (pv 1) ze (λ_ _=>rfl)) (zn zm (pv 0) ze (λ_ _=>rfl)))) (zd (zw zJ (zn zm (pv 0) ze (λ_ _=>rfl)) (zn zm (pv 1) ze (λ_ _=>rfl))) zf))))),?_⟩
 refine⟨_,rfl,p,_,_,_,rfl,rfl,.of hp,at0 ..,_,rfl,q,_,_,_,rfl,rfl,.of hq,at1 ..,_,_,rfl,rfl,⟨bx.1,b_y.2⟩,_,rfl,q,_,_,_,rfl,rfl,.of hq,at0 ..,_,rfl,p,_,_,_,rfl,rfl,.of hp,at1 ..,_,_,rfl,rfl,⟨b_y.1,bx.2⟩,_,_,rfl,rfl,?_⟩
 refine⟨_,rfl,p,_,_,_,rfl,rfl,.of hp,at1 ..,_,rfl,q,_,_,_,rfl,rfl,.of hq,at1 ..,_,_,rfl,rfl,⟨bx.2,b_y.2⟩,?_⟩
 refine⟨_,_,rfl,Int.mul_ne_zero (zR x) (zR y),(hx.2.mul hy.2).mono (by decide),λr H' e h=>k r H' e ?_⟩
 show zv H' r (x - y)
 rw[<-KM.jU];exact h
def Z8:Sp:=λvs H Q _=>∃p q x y,vs=[.ref p,.ref q]/\zv H p x/\zv H q y/\Sz2 x y/\Q (.bl (decide (x<y))) H
theorem zbN:zD ["a","b"] ["a","b"] (zi qj):=⟨rfl,rfl,rfl,by decide +kernel,rfl,by decide +kernel,by decide +kernel⟩
theorem zbo (D:Df K mg "_law_below" qj ["a","b"] []):Cal P w K mg base "_law_below" 1 ["a","b"] [] Z8:=by
 refine D.cal (k:=0) zbN (λvs H Q E h=>by obtain⟨_,_,_,_,rfl,_⟩:=h;rfl) (λf cdv A outer s H vs Q E hr h=>?_)
 obtain⟨p,q,x,y,rfl,hp,hq,⟨hx,hy⟩,k⟩:=h
 have bx:=Bd4 hx
 have b_y:=Bd4 hy
 refine⟨_,(zr (zF (va jF (zw zJ (zn zm (pv 0) ze (λ_ _=>rfl)) (zn zm (pv 1) ze (λ_ _=>rfl))) (zw zJ (zn zm (pv 1) ze (λ_ _=>rfl)) (zn zm (pv 0) ze (λ_ _=>rfl))) (zI _)))),?_⟩
 refine⟨_,rfl,p,_,_,_,rfl,rfl,.of hp,at0 ..,_,rfl,q,_,_,_,rfl,rfl,.of hq,at1 ..,_,_,rfl,rfl,⟨bx.1,b_y.2⟩,_,rfl,q,_,_,_,rfl,rfl,.of hq,at0 ..,_,rfl,p,_,_,_,rfl,rfl,.of hp,at1 ..,_,_,rfl,rfl,⟨b_y.1,bx.2⟩,_,_,rfl,rfl,?_⟩
 show Q (.bl (decide (x.num*(y.den:Int)<y.num*(x.den:Int)))) H
 rw[ZM];exact k
end
end KK
end
section
set_option maxHeartbeats 8000000
set_option Elab.async false
set_option linter.all false
set_option maxRecDepth 100000
namespace L2
open PySem PySem.Spec PyProof.Rows
section
variable {J:It}{D:Addr}{n:Nat}{js:List Nat}{σ:St}{g:TG}{tt:TT}{te:TE}{Z:Hp->Prop}{H:Hp}{xs:List V}
theorem VV (p:V->Bool) (hD:H D=none) (hJ:VQ J H xs) (hl:xs.length<sizeLine)
  (hs:∀(i:Nat) (x:V) (zs:St) (H2:Hp) (A:VK) (B:Hp->Prop),xs[i]? = some x->zs.length=n->zt H H2->(p x=true->A x H2)->(p x=false->B H2)->g x (zs++qm σ js) H2 λσ4 H4=>σ4.drop n=qm σ js/\tt σ4 H4 λb H5=>if b=true then te σ4 H5 A else B H5)
  (k:∀H',zt H H'->H' D=some (.lst (xs.filter p))->Z H') :
  ∃W:Nat->Nat->Hp->List V->Prop,(∃m,W 0 m (upd H D (.lst [])) [])/\∀i m H2 ys,W i m H2 ys->H2 D=some (.lst ys)->(J.stop i H2/\Z H2) ∨
   (J.go i H2/\∀zs x H3,zs.length=n->J.yld i H2 x H3->g x (zs++qm σ js) H3 λσ4 H4=>σ4.drop n=qm σ js/\tt σ4 H4 λb H5=>if b=true then te σ4 H5 (λv H6=>H6 D=some (.lst ys)/\ys.length<sizeLine/\∃m',m'<m/\W (i+1) m' (upd H6 D (.lst (ys++[v]))) (ys++[v]))
    else H5 D=some (.lst ys)/\∃m',m'<m/\W (i+1) m' H5 ys):=by
 refine jf (Q:=λ_ H=>Z H) (tt:=tt) (N:=xs.length) (λi H2 ys=>zt H H2/\ys=(xs.take i).filter p) ⟨zt.upd hD,rfl⟩ (λi H2 ys hi p=>hJ.go i H2 hi p.1) (λH2 ys p=>hJ.stop H2 p.1) ?_ (λH2 ys q e=>k H2 q.1 (by rw[e,q.2,List.take_length]))
 rintro i x zs H2 H3 ys Nx hN hi hz hy ⟨s2,rfl⟩ hD2
 obtain⟨rfl,hx⟩:=hJ.yld i x H2 H3 s2 hy
 have et:xs.take (i+1)=xs.take i++[x]:=by rw[List.take_add_one,hx];rfl
 refine hs i x zs H3 _ _ hx hz s2 (λhp=>⟨hD2,?_,hN _ _ ⟨λc o e=>?_,?_⟩⟩) (λhp=>⟨hD2,hN _ _ ⟨s2,?_⟩⟩)
 ·have:=List.length_filter_le p (xs.take i)
  have:=List.length_take_le i xs
  omega
 ·rw[zK (zN e hD)];exact s2 _ _ e
 ·rw[et,List.filter_append];simp[hp]
 ·rw[et,List.filter_append];simp[hp]
end
theorem Xy {a:Str}{m:Addr}{cs:List (Str×Addr)} (h1:cs.lookup a=some m) (x:Str) (c:Addr) (e:List.lookup x [(a,m)]=some c):cs.lookup x=some c:=by
 simp only[List.lookup]at e
 cases q1:(x == a)with
 | true=>rw[q1]at e;cases e;rw[eq_of_beq q1];exact h1
 | false=>rw[q1]at e;cases e
theorem Jg {X:Cx}{K:PySem.W.Frag}{a:Expr}{ta:TE}(hK:X.K=K) (ha:PE X a ta) (he:∀whole,isTrue a X.env whole=(do let v <-whole;standAt a.pos;holding [v] (truthy v))):PT X a (λσ H Q=>ta σ H λx H'=>∃k,zaP K x H' k/\Q k H'):=by
 subst hK;exact zT ha he
end L2
namespace KK
open PySem L2 KM
section
variable {P:Program}{w:World}{K:PySem.W.Frag}{mg:Str->Option Value}{base:Heap}{aN:Addr}
def zeK:Sp:=xK (λx y=>Sz2 x y/\0<y) rst
theorem zet:zD ["one","other"] ["one","other"] (zi vp):=⟨rfl,rfl,rfl,by decide +kernel,rfl,by decide +kernel,by decide +kernel⟩
theorem zd8 (D:Df K mg "rest_of" vp ["one","other"] []) (c:Cal P w K mg base "ratio" 2 ["top","bottom"] [] qd):Cal P w K mg base "rest_of" 3 ["one","other"] [] zeK:=by
 refine D.cal (k:=2) zet (λvs H Q E h=>by obtain⟨_,_,_,_,rfl,_⟩:=h;rfl) (λf cdv A outer s H vs Q E hr h=>?_)
 obtain⟨p,q,x,y,rfl,hp,hq,⟨⟨hx,hy⟩,hy0⟩,k⟩:=h
 have bx:=Bd4 hx
 have b_y:=Bd4 hy
 refine⟨_,(zr (zF (zC c hr (zd (zw vv (zw zJ (zn zm (pv 0) ze (λ_ _=>rfl)) (zn zm (pv 1) ze (λ_ _=>rfl))) (zw zJ (zn zm (pv 1) ze (λ_ _=>rfl)) (zn zm (pv 0) ze (λ_ _=>rfl)))) (zd (zw zJ (zn zm (pv 0) ze (λ_ _=>rfl)) (zn zm (pv 1) ze (λ_ _=>rfl))) zf))))),?_⟩
 refine⟨_,rfl,p,_,_,_,rfl,rfl,.of hp,at0 ..,_,rfl,q,_,_,_,rfl,rfl,.of hq,at1 ..,_,_,rfl,rfl,⟨bx.1,b_y.2⟩,?_⟩
 refine⟨_,rfl,q,_,_,_,rfl,rfl,.of hq,at0 ..,_,rfl,p,_,_,_,rfl,rfl,.of hp,at1 ..,_,_,rfl,rfl,⟨b_y.1,bx.2⟩,_,_,rfl,rfl,Int.mul_pos (xo hy0) (den_pos x),?_⟩
 refine⟨_,rfl,p,_,_,_,rfl,rfl,.of hp,at1 ..,_,rfl,q,_,_,_,rfl,rfl,.of hq,at1 ..,_,_,rfl,rfl,⟨bx.2,b_y.2⟩,?_⟩
 exact⟨_,_,rfl,Int.mul_ne_zero (KM.zR x) (KM.zR y),(hx.2.mul hy.2).mono (by decide),λr H' e h=>k r H' e h⟩
theorem zdw:zD ["one","other"] ["one","other"] (zi Ze):=⟨rfl,rfl,rfl,by decide +kernel,rfl,by decide +kernel,by decide +kernel⟩
theorem zde (D:Df K mg "less" Ze ["one","other"] []):Cal P w K mg base "less" 1 ["one","other"] [] Z8:=by
 refine D.cal (k:=0) zdw (λvs H Q E h=>by obtain⟨_,_,_,_,rfl,_⟩:=h;rfl) (λf cdv A outer s H vs Q E hr h=>?_)
 obtain⟨p,q,x,y,rfl,hp,hq,⟨hx,hy⟩,k⟩:=h
 have bx:=Bd4 hx
 have b_y:=Bd4 hy
 refine⟨_,(zr (zF (va jF (zw zJ (zn zm (pv 0) ze (λ_ _=>rfl)) (zn zm (pv 1) ze (λ_ _=>rfl))) (zw zJ (zn zm (pv 1) ze (λ_ _=>rfl)) (zn zm (pv 0) ze (λ_ _=>rfl))) (zI _)))),?_⟩
 refine⟨_,rfl,p,_,_,_,rfl,rfl,.of hp,at0 ..,_,rfl,q,_,_,_,rfl,rfl,.of hq,at1 ..,_,_,rfl,rfl,⟨bx.1,b_y.2⟩,_,rfl,q,_,_,_,rfl,rfl,.of hq,at0 ..,_,rfl,p,_,_,_,rfl,rfl,.of hp,at1 ..,_,_,rfl,rfl,⟨b_y.1,bx.2⟩,_,_,rfl,rfl,?_⟩
 show Q (.bl (decide (x.num*(y.den:Int)<y.num*(x.den:Int)))) H
 rw[ZM];exact k
structure Xv (H:Hp) (a:Addr) (lo hi:Rat):Prop where
 w:∃b c p q p' q',H a=some (.tup [.ref b,.ref c])/\H b=some (.tup [.ref p,.ref p'])/\H c=some (.tup [.ref q,.ref q'])/\zv H p lo/\zv H q hi
theorem Ln.ws {H:Hp}{r a:Addr}{bs:List Bl}{lo hi x y:Rat}(h:Ln H r a bs (some (lo,x)) (some (hi,y))):Xv H a lo hi:=by
 obtain⟨v1,v2,h1,⟨b,p,q,rfl,h3,h4,h5⟩,⟨c,p',q',rfl,g3,g4,g5⟩⟩:=h.walls
 exact⟨b,c,p,p',q,q',h1,h3,g3,h4,g4⟩
def zcv:Sp:=λvs H Q _=>∃a m lo hi y,vs=[.ref a,.ref m]/\Xv H a lo hi/\zv H m y/\Sz 4000 lo/\Sz 4000 hi/\Sz 4000 y/\lo<=y/\y<=hi/\Q .non H
theorem zdy:zD ["walls","place"] ["walls","place"] (zi xi):=⟨rfl,rfl,rfl,by decide +kernel,rfl,by decide +kernel,by decide +kernel⟩
theorem zdg (D:Df K mg "refuse_no_place" xi ["walls","place"] []) (cLs:Cal P w K mg base "less" 1 ["one","other"] [] Z8):Cal P w K mg base "refuse_no_place" 2 ["walls","place"] [] zcv:=by
 refine D.cal (k:=1) zdy (λvs H Q E h=>by obtain⟨_,_,_,_,_,rfl,_⟩:=h;rfl) (λf cdv A outer s H vs Q E hr h=>?_)
 obtain⟨a,m,lo,hi,y,rfl,⟨b,c,p,q,p',q',h1,h2,h3,h4,h5⟩,hm,z1,z2,z3,y0,y1,k⟩:=h
 refine⟨_,(zr (xa ((vS (zT (zC cLs hr (zd (pv 1) (zd (zn zm (zn zm (pv 0) ze (λ_ _=>rfl)) ze (λ_ _=>rfl)) zf))) λ_=>rfl) (v8 (zT (zC cLs hr (zd (zn zm (zn zm (pv 0) ze (λ_ _=>rfl)) ze (λ_ _=>rfl)) (zd (pv 1) zf))) λ_=>rfl)))).pt vQ zO)),?_⟩
 refine⟨_,rfl,_,rfl,a,_,_,_,rfl,rfl,.of h1,at0 ..,b,_,_,_,rfl,rfl,.of h2,at0 ..,m,p,y,lo,rfl,hm,h4,⟨z3,z1⟩,?_⟩
 rw[decide_eq_false (show ¬y<lo by grind)]
 refine⟨_,rfl,z7 ⟨_,rfl,a,_,_,_,rfl,rfl,.of h1,at1 ..,c,_,_,_,rfl,rfl,.of h3,at0 ..,_,rfl,q,m,hi,y,rfl,h5,hm,⟨z2,z3⟩,?_⟩⟩
 rw[decide_eq_false (show ¬hi<y by grind)]
 exact⟨_,rfl,z7 k⟩
end
end KK
end
section
set_option maxHeartbeats 8000000
set_option Elab.async false
set_option linter.all false
set_option maxRecDepth 100000
namespace KK
open PySem L2 KM
def xG (bs:List Bl) (lo hi x:Rat):List Rat:=bs.map λb=>zZ lo hi (b.pl+b.sp*x)
theorem JV {l h s v:Int}(hl:l<h):l<=(jh (some l) (some h) s v).1/\(jh (some l) (some h) s v).1<=h:=by
 rw[Xp]
 have r0:=Int.emod_nonneg (s - l) (b:=2*(h - l)) (by omega)
 have r1:=Int.emod_lt_of_pos (s - l) (b:=2*(h - l)) (by omega)
 generalize (s - l) % (2*(h - l))=r at r0 r1 ⊢
 split <;> omega
theorem QK {n:Nat}{l h i:Int}(a:Bd n l) (b:Bd n h) (h1:l<=i) (h2:i<=h):Bd n i:=by
 unfold Bd at *
 omega
theorem zdo {bs:List Bl}{lo hi x:Rat}(z:LnZ bs (some (lo,0)) (some (hi,0))) (l8:bs.length<=8) (sx:Sz 200 x):∀q∈xG bs lo hi x,Sz 4000 q:=λq m=>by
 have B:=z.bd l8
 unfold xG at m
 rw[<-jT z l8]at m
 obtain⟨u,mu,rfl⟩:=List.mem_map.mp m
 have p0:=B.pb
 have s0:=B.sb
 have hlh:=B.lh _ _ rfl rfl
 have bl:=B.bl _ rfl
 have bh:=B.bh _ rfl
 unfold vt at mu
 dsimp only at mu
 generalize pbO bs (some (lo,0)) (some (hi,0))=p at *
 generalize sbO bs (some (lo,0)) (some (hi,0))=s at *
 have kz:Bd 602 ((x/Rat.divInt s p).den:Int):=by
  have n0:(Rat.divInt s p).num≠0:=λe=>B.t0 (Rat.num_eq_zero.mp e)
  have tz:=B.tz
  generalize Rat.divInt s p=y at n0 tz
  rw[<-jV]
  have nz:(x.den:Int)*y.num≠0:=Int.mul_ne_zero (zR x) n0
  exact(Bd.of_le (j:=x.den*y.num) (by have:=KM.qS (t:=x.num*y.den) nz;omega) (sx.2.mul tz.1)).mono (by decide)
 generalize x/Rat.divInt s p=k at *
 have kd:=den_pos k
 obtain⟨b,mb,rfl⟩:=List.mem_map.mp mu
 have li:=JV (s:=(trB p s (b.pl,b.sp)).1*k.den+(trB p s (b.pl,b.sp)).2*k.num) (v:=(trB p s (b.pl,b.sp)).2) (Int.mul_lt_mul_of_pos_right hlh kd)
 exact .divInt (by have:=Int.mul_pos p0.1 kd;omega) (Bd.mono (m:=2602) (QK (bl.mul kz) (bh.mul kz) li.1 li.2) (by decide)) ((p0.2.mul kz).mono (by decide))
section
variable {P:Program}{w:World}{K:PySem.W.Frag}{mg:Str->Option Value}{base:Heap}{aN:Addr}
theorem PrL.same {H H':Hp}{xs:List V}{ps:List (Int×Int)} (h:PrL H xs ps) (s:zt H H'):PrL H' xs ps:=⟨h.1,λi v e=>by obtain⟨u,a,e1,e2,e3⟩:=h.2 i v e;exact⟨u,a,e1,e2,s _ _ e3⟩⟩
def ltP (H:Hp) (y:Rat):V->Bool
 | .ref a=>match H a with
  | some (.tup [.int n,.int d])=>decide (n*(y.den:Int)<y.num*d)
  | _=>false
 | _=>false
theorem JX {H:Hp}{a:Addr}{x y:Rat}(h:zv H a x):ltP H y (.ref a)=decide (x<y):=by
 show (match H a with | some (.tup [.int n,.int d])=>decide (n*(y.den:Int)<y.num*d) | _=>false)=_
 rw[show H a=some (.tup [.int x.num,.int x.den])from h]
 exact ZM x y
theorem vJ.tail {H:Hp}{v:V}{us:List V}{q:Rat}{qs:List Rat}(h:vJ H (v::us) (q::qs)):vJ H us qs:=⟨by simpa using h.1,λi v e=>by simpa using h.2 (i+1) v (by simpa using e)⟩
theorem vJ.head {H:Hp}{v:V}{us:List V}{q:Rat}{qs:List Rat}(h:vJ H (v::us) (q::qs)):∃a,v = .ref a/\zv H a q:=by
 obtain⟨a,p,e1,e2,e3⟩:=h.2 0 v rfl
 cases e2;exact⟨a,e1,e3⟩
theorem Vn {H:Hp}{y:Rat}:∀{us:List V}{qs:List Rat},vJ H us qs->(us.filter (ltP H y)).length=bel qs y
 | [],[],_=>rfl
 | [],_::_,h=>by have:=h.1;simp at this
 | _::_,[],h=>by have:=h.1;simp at this
 | v::us,q::qs,h=>by
  obtain⟨a,rfl,ha⟩:=h.head
  rw[List.filter_cons,JX ha,jO,<-Vn h.tail]
  by_cases e:q<y
  ·rw[decide_eq_true e,if_pos rfl,if_pos e];rfl
  ·rw[decide_eq_false e,if_neg (by decide),if_neg e];rfl
theorem zac {H:Hp}{us:List V}{qs:List Rat}(h:vJ H us qs):PrL H us (qs.map λq=>(q.num,(q.den:Int))):=⟨by rw[List.length_map];exact h.1,λi v e=>by
 obtain⟨a,q,e1,e2,e3⟩:=h.2 i v e
 exact⟨(q.num,q.den),a,by rw[List.getElem?_map,e2];rfl,e1,e3⟩⟩
theorem VT (qs:List Rat) (y:Rat):((qs.map λq=>(q.num,(q.den:Int))).countP λu=>decide (u.1=y.num/\u.2=(y.den:Int)))=cnt qs y:=by
 rw[List.countP_map]
 unfold cnt
 congr 1
 funext q
 show decide (q.num=y.num/\(q.den:Int)=(y.den:Int))=decide (q=y)
 rw[decide_eq_decide]
 constructor
 ·rintro ⟨a,b⟩;exact Rat.ext a (by omega)
 ·rintro rfl;exact⟨rfl,rfl⟩
structure Qh (H:Hp) (r a m tm:Addr) (bs:List Bl) (lo hi x y:Rat):Prop where
 ln:Ln H r a bs (some (lo,0)) (some (hi,0))
 z:LnZ bs (some (lo,0)) (some (hi,0))
 pl:∀b0,bs[0]? = some b0->plB (tb b0) (bs.map tb) (some (lo,0)) (some (hi,0))=true
 t:zv H tm x
 sx:Sz 200 x
 my:zv H m y
 sy:Bd 2000 y.num/\Bd 400 (y.den:Int)
theorem Qh.same {H H':Hp}{r a m tm:Addr}{bs:List Bl}{lo hi x y:Rat}(h:Qh H r a m tm bs lo hi x y) (s:zt H H'):Qh H' r a m tm bs lo hi x y:=⟨h.ln.same s,h.z,h.pl,s _ _ h.t,h.sx,s _ _ h.my,h.sy⟩
theorem Qh.s4 {H:Hp}{r a m tm:Addr}{bs:List Bl}{lo hi x y:Rat}(h:Qh H r a m tm bs lo hi x y):Sz 4000 y:=⟨h.sy.1.mono (by decide),h.sy.2.mono (by decide)⟩
def zcw:Sp:=λvs H Q _=>∃r a m tm k bs lo hi x y,vs=[.ref r,.ref a,.int k,.ref m,.ref tm]/\Qh H r a m tm bs lo hi x y ∧
 (∀H',zt H H'->j4 (xG bs lo hi x) lo hi k y=none->Q .non H')/\∀H' z p q w,zt H H'->j4 (xG bs lo hi x) lo hi k y=some w->H' z=some (.tup [.ref p,.ref q])->zv H' p w.1->zv H' q w.2->Q (.ref z) H'
theorem Zg:zD ["row","walls","k","place","t","places","below","upto","first","last"] ["row","walls","k","place","t"] (zi vV):=⟨rfl,rfl,rfl,by decide +kernel,rfl,by decide +kernel,by decide +kernel⟩
theorem zdi (D:Df K mg "wished" vV ["row","walls","k","place","t"] []) (T:TxB K mg) (cLs:Cal P w K mg base "less" 1 ["one","other"] [] Z8) (cAo:Cal P w K mg base "at_once" 8 ["row","walls","t"] [] zey):Cal P w K mg base "wished" 9 ["row","walls","k","place","t"] [] zcw:=by
 refine D.cal (k:=8) Zg (λvs H Q E h=>by obtain⟨_,_,_,_,_,_,_,_,_,_,rfl,_⟩:=h;rfl) (λf cdv A outer s H vs Q E hr8 h=>?_)
 obtain⟨r,a,m,tm,k,bs,lo,hi,x,y,rfl,ak,k0,k1⟩:=h
 have hr1:xb 1 _:=hr8.mono (by decide)
 have hu:=hr8.units
 have l8:=ak.ln.l8
 refine⟨_,(zj (XO (i:=5) (NB:=["ball"]) (FR:=[]) (js:=[]) rfl rfl (λ_ _ h=>by cases h) .nil rfl (by decide +kernel) rfl (by decide +kernel) Zg.nd rfl rfl (by rfl) (v7 (zC cAo hr8 (zd (pv 0) (zd (pv 1) (zd (pv 4) zf))))) (by intro _ _ _;refine⟨?_,?_,?_⟩;(exact(zG (i:=0) (show List.Nodup (["ball"]:List Str) by decide +kernel) rfl (Or.inl rfl)));(exact xq);(exact(zn (xQ (K:=K) rfl) (pv 0) ze (λ_ _=>rfl)))))
  (zj (zE (i:=6) Zg.nd rfl (Or.inl rfl) (zL zY (by rfl) T.nLen PySem.boot_len (zd (qe (NB:=["one"]) (FR:=["place"]) (js:=[3]) rfl rfl (λx c h=>Xy rfl x c h) (.cons rfl rfl rfl ⟨_,rfl⟩ .nil) rfl (by decide +kernel) rfl (by decide +kernel) (xB (pv 5)) (by intro _ _ _;refine⟨?_,?_,?_⟩;(exact(zG (i:=0) (show List.Nodup (["one","place"]:List Str) by decide +kernel) rfl (Or.inl rfl)));(exact(XQ (Jg (K:=K) rfl (zC cLs hr1 (zd (pv 0) (zd (pv 1) zf))) λ_=>rfl)));(exact(pv 0)))) zf)))
  (zj (zE (i:=7) Zg.nd rfl (Or.inl rfl) (zw xt (pv 6) (Vz PySem.F.plainAttrs_list PySem.F.slot_list_count PySem.F.type_list_count (JZ hu) (pv 5) (zd (pv 3) zf))))
  (zj (xa (qt (Qv Qt Qt (pv 6) (pv 2) (pv 7))) (zr (zF xE)) zO)
  (zj (zE (i:=8) Zg.nd rfl (Or.inl rfl) (jW (zH Zn (pv 2) (pv 6) (zI _)) (zn zm (zn zm (pv 1) ze (λ_ _=>rfl)) ze (λ_ _=>rfl)) (pv 3)))
  (zj (zE (i:=9) Zg.nd rfl (Or.inl rfl) (jW (zH jF (pv 2) (pv 7) (zI _)) (zn zm (zn zm (pv 1) ze (λ_ _=>rfl)) ze (λ_ _=>rfl)) (pv 3)))
  (zr (zF (zU (zd (pv 8) (zd (pv 9) zf))))))))))),?_⟩
 obtain⟨b0,hb0⟩:∃b0,bs[0]? = some b0:=⟨_,List.getElem?_eq_getElem ak.ln.l1⟩
 refine⟨_,rfl,_,rfl,_,rfl,r,a,tm,bs,b0,_,_,x,rfl,ak.ln,ak.z,hb0,ak.pl b0 hb0,ak.t,ak.sx,λzz G1 s1 ⟨ys,js,hz,pj,sj,hrow⟩=>?_⟩
 have perm:=pj.map λu=>Rat.divInt u.1 (pbO bs (some (lo,0)) (some (hi,0))*(x/Rat.divInt (sbO bs (some (lo,0)) (some (hi,0))) (pbO bs (some (lo,0)) (some (hi,0)))).den)
 rw[jT ak.z l8]at perm
 have hyl:=hrow.1
 rw[List.length_map]at hyl
 have hjl:=pj.length_eq
 have hll:(vt bs (some (lo,0)) (some (hi,0)) x).length=bs.length:=by unfold vt;rw[List.length_map]
 refine⟨zz,rfl,⟨_,SqT.of hz⟩,λD hD=>?_⟩
 refine xM (js:=[]) (J:=Itt K zz) (g:=zA 0) (te:=_) (n:=1) (xs:=ys) (λi v G=>∃q p,(js.map λu=>Rat.divInt u.1 (pbO bs (some (lo,0)) (some (hi,0))*(x/Rat.divInt (sbO bs (some (lo,0)) (some (hi,0))) (pbO bs (some (lo,0)) (some (hi,0)))).den))[i]? = some q/\v = .ref p/\zv G p q) (λi v G G' e ⟨q,p,e1,e2,e3⟩=>⟨q,p,e1,e2,e _ _ e3⟩) hD (jm hz) (qb (by omega)) ?_ ?_
 ·intro i v zs G2 Q' hv hz2 S2 hQ
  obtain⟨w1,rfl⟩:=Z6 hz2
  obtain⟨b,eb,a',p,q,rfl,h1,h2,h3⟩:=hrow.2 i v hv
  refine⟨rfl,_,rfl,a',_,_,_,rfl,rfl,.of (S2 _ _ h1),rfl,hQ _ _ (zt.refl _) ⟨b.pl,p,?_,rfl,S2 _ _ h2⟩⟩
  rw[List.getElem?_map]at eb ⊢
  cases hj:js[i]? with
  | none=>rw[hj]at eb;cases eb
  | some u=>rw[hj]at eb;cases eb;rfl
 intro us G2 s2 hG2 hul hR
 dsimp only[zA]
 have rats:vJ G2 us (js.map λu=>Rat.divInt u.1 (pbO bs (some (lo,0)) (some (hi,0))*(x/Rat.divInt (sbO bs (some (lo,0)) (some (hi,0))) (pbO bs (some (lo,0)) (some (hi,0)))).den)):=⟨by rw[List.length_map];omega,λi v e=>by obtain⟨q,p,e1,e2,e3⟩:=hR i v e;exact⟨p,q,e2,e1,e3⟩⟩
 have qsz:∀q∈(js.map λu=>Rat.divInt u.1 (pbO bs (some (lo,0)) (some (hi,0))*(x/Rat.divInt (sbO bs (some (lo,0)) (some (hi,0))) (pbO bs (some (lo,0)) (some (hi,0)))).den)),Sz 4000 q:=λq m=>zdo ak.z l8 ak.sx q (perm.mem_iff.mp m)
 have eb:=Qj perm y
 have ec:=Qm perm y
 have hus:us.length<=8:=by omega
 clear perm hR hrow pj sj hjl hll
 generalize (js.map λu=>Rat.divInt u.1 (pbO bs (some (lo,0)) (some (hi,0))*(x/Rat.divInt (sbO bs (some (lo,0)) (some (hi,0))) (pbO bs (some (lo,0)) (some (hi,0)))).den))=qs at *
 have s02:=s1.trans s2
 have hm2:=s02 _ _ ak.my
 refine⟨_,rfl,D,rfl,⟨_,SqL.of hG2⟩,λD2 hD2=>?_⟩
 refine VV (js:=[3]) (J:=Itl K D) (g:=zA 0) (te:=z8 0) (tt:=λσ H Q=>jq Z8 [] E0 (xr (z8 0) (xr (z8 1) jD)) σ H λx H'=>∃k,zaP K x H' k/\Q k H') (n:=1) (xs:=us) (ltP G2 y) hD2 (xu hG2) (qb (by omega)) ?_ ?_
 ·intro i v zs G3 A B hv hz3 S3 hA hB
  obtain⟨w1,rfl⟩:=Z6 hz3
  obtain⟨p,q,rfl,e2,e3⟩:=rats.2 i v hv
  refine⟨rfl,_,rfl,_,rfl,p,m,q,y,rfl,S3 _ _ e3,S3 _ _ hm2,⟨qsz q (List.mem_of_getElem? e2),ak.s4⟩,_,rfl,?_⟩
  rw[JX e3]at hA hB
  by_cases e:q<y
  ·rw[decide_eq_true e]at hA ⊢;exact xD ⟨_,rfl,hA rfl⟩
  ·rw[decide_eq_false e]at hB ⊢;exact z7 (hB rfl)
 intro G3 s3 hG3
 refine⟨D2,_,rfl,.inl (SqL.of hG3),?_⟩
 rw[Vn rats,eb]
 dsimp only[zA]
 have s03:=s02.trans s3
 refine⟨_,rfl,_,rfl,.inl ⟨rfl,_,SqL.of (s3 _ _ hG2)⟩,_,rfl,D,m,us,_,(y.num,(y.den:Int)),rfl,rfl,s3 _ _ hG2,PrL.same (zac rats) s3,s3 _ _ hm2,?_⟩
 rw[VT,ec]
 refine⟨_,_,rfl,rfl,?_⟩
 dsimp only[zA]
 rw[show ((bel (bs.map λb=>zZ lo hi (b.pl+b.sp*x)) y:Nat):Int)+((cnt (bs.map λb=>zZ lo hi (b.pl+b.sp*x)) y:Nat):Int)=((bel (xG bs lo hi x) y+cnt (xG bs lo hi x) y:Nat):Int)from(Int.natCast_add _ _).symm]
 rw[show bel (bs.map λb=>zZ lo hi (b.pl+b.sp*x)) y=bel (xG bs lo hi x) y from rfl]
 have wsh:j4 (xG bs lo hi x) lo hi k y=if(bel (xG bs lo hi x) y:Int)<=k/\k<=(bel (xG bs lo hi x) y+cnt (xG bs lo hi x) y:Nat)then some (if(bel (xG bs lo hi x) y:Int)<k then lo else y,if k<(bel (xG bs lo hi x) y+cnt (xG bs lo hi x) y:Nat)then hi else y)else none:=rfl
 generalize ((bel (xG bs lo hi x) y+cnt (xG bs lo hi x) y:Nat):Int)=u at *
 generalize ((bel (xG bs lo hi x) y:Nat):Int)=b at *
 obtain⟨b',c',p,q,p',q',h1,h2,h3,h4,h5⟩:=(ak.ln.same s03).ws.w
 have hm3:=s03 _ _ ak.my
 refine⟨_,rfl,_,rfl,_,_,rfl,rfl,_,rfl,?_⟩
 by_cases c1:b<=k
 ·rw[decide_eq_true c1]
  refine xD ⟨_,rfl,_,_,rfl,rfl,_,rfl,?_⟩
  by_cases c2:k<=u
  ·rw[if_pos ⟨c1,c2⟩]at wsh
   rw[decide_eq_true c2]
   refine z7 ?_
   refine⟨_,rfl,_,rfl,_,_,rfl,rfl,_,rfl,?_⟩
   by_cases d1:b<k
   ·rw[decide_eq_true d1]
    rw[if_pos d1]at wsh
    refine xD ⟨_,rfl,a,_,_,_,rfl,rfl,.of h1,at0 ..,b',_,_,_,rfl,rfl,.of h2,at0 ..,?_⟩
    dsimp only[zA]
    refine⟨_,rfl,_,rfl,_,_,rfl,rfl,_,rfl,?_⟩
    by_cases d2:k<u
    ·rw[decide_eq_true d2]
     rw[if_pos d2]at wsh
     refine xD ⟨_,rfl,a,_,_,_,rfl,rfl,.of h1,at1 ..,c',_,_,_,rfl,rfl,.of h3,at0 ..,?_⟩
     dsimp only[zA]
     exact⟨_,rfl,_,rfl,by show 2<=sizeLine;decide,λz hz=>k1 _ z p q _ (s03.trans (zt.upd hz)) wsh zo (zt.upd hz _ _ h4) (zt.upd hz _ _ h5)⟩
    ·rw[decide_eq_false d2]
     rw[if_neg d2]at wsh
     refine z7 ⟨_,rfl,?_⟩
     dsimp only[zA]
     exact⟨_,rfl,_,rfl,by show 2<=sizeLine;decide,λz hz=>k1 _ z p m _ (s03.trans (zt.upd hz)) wsh zo (zt.upd hz _ _ h4) (zt.upd hz _ _ hm3)⟩
   ·rw[decide_eq_false d1]
    rw[if_neg d1]at wsh
    refine z7 ⟨_,rfl,?_⟩
    dsimp only[zA]
    refine⟨_,rfl,_,rfl,_,_,rfl,rfl,_,rfl,?_⟩
    by_cases d2:k<u
    ·rw[decide_eq_true d2]
     rw[if_pos d2]at wsh
     refine xD ⟨_,rfl,a,_,_,_,rfl,rfl,.of h1,at1 ..,c',_,_,_,rfl,rfl,.of h3,at0 ..,?_⟩
     dsimp only[zA]
     exact⟨_,rfl,_,rfl,by show 2<=sizeLine;decide,λz hz=>k1 _ z m q _ (s03.trans (zt.upd hz)) wsh zo (zt.upd hz _ _ hm3) (zt.upd hz _ _ h5)⟩
    ·rw[decide_eq_false d2]
     rw[if_neg d2]at wsh
     refine z7 ⟨_,rfl,?_⟩
     dsimp only[zA]
     exact⟨_,rfl,_,rfl,by show 2<=sizeLine;decide,λz hz=>k1 _ z m m _ (s03.trans (zt.upd hz)) wsh zo (zt.upd hz _ _ hm3) (zt.upd hz _ _ hm3)⟩
  ·rw[if_neg λe=>c2 e.2]at wsh
   rw[decide_eq_false c2]
   exact xD (k0 _ s03 wsh)
 ·rw[if_neg λe=>c1 e.1]at wsh
  rw[decide_eq_false c1]
  exact z7 ⟨_,rfl,xD (k0 _ s03 wsh)⟩
end
end KK
end
section
set_option maxHeartbeats 8000000
set_option Elab.async false
set_option linter.all false
set_option maxRecDepth 100000
namespace KK
open PySem L2 KM
section
variable {P:Program}{w:World}{K:PySem.W.Frag}{mg:Str->Option Value}{base:Heap}{aN:Addr}
theorem PrL.snoc {H:Hp}{xs:List V}{ps:List (Int×Int)}{a:Addr}{u:Int×Int}(h:PrL H xs ps) (ha:H a=some (.tup [.int u.1,.int u.2])):PrL H (xs++[.ref a]) (ps++[u]):=by
 have hl:=h.1
 refine⟨by simp[hl],λi v e=>?_⟩
 rcases Nat.lt_or_ge i xs.length with c | c
 ·rw[List.getElem?_append_left c]at e
  obtain⟨w,b,e1,e2,e3⟩:=h.2 i v e
  exact⟨w,b,by rw[List.getElem?_append_left (by omega)];exact e1,e2,e3⟩
 ·rw[List.getElem?_append_right c]at e
  cases hk:i - xs.length with
  | zero=>rw[hk]at e;cases e;exact⟨u,a,by rw[List.getElem?_append_right (by omega),show i - ps.length=0 by omega];rfl,rfl,ha⟩
  | succ n=>rw[hk]at e;simp at e
theorem PrL.unsnoc {H:Hp}{xs:List V}{ps:List (Int×Int)}{u:Int×Int}(h:PrL H xs (ps++[u])):∃ys a,xs=ys++[.ref a]/\PrL H ys ps/\H a=some (.tup [.int u.1,.int u.2]):=by
 have hl:=h.1
 rw[List.length_append,List.length_singleton]at hl
 obtain⟨v,hv⟩:∃v,xs[ps.length]? = some v:=⟨_,List.getElem?_eq_getElem (by omega)⟩
 obtain⟨w,a,e1,rfl,e3⟩:=h.2 _ _ hv
 rw[List.getElem?_append_right (Nat.le_refl _),Nat.sub_self]at e1
 obtain rfl:u=w:=by simpa using e1
 refine⟨xs.take ps.length,a,?_,⟨by rw[List.length_take];omega,λi v e=>?_⟩,e3⟩
 ·have:=List.take_append_drop ps.length xs
  rw[List.drop_eq_getElem_cons (by omega)]at this
  rw[List.getElem?_eq_getElem (by omega)]at hv
  rw[Option.some.inj hv,List.drop_of_length_le (by omega)]at this
  exact this.symm
 ·rcases Nat.lt_or_ge i ps.length with c | c
  ·rw[List.getElem?_take_of_lt c]at e
   obtain⟨w,b,e1,e2,e3⟩:=h.2 i v e
   exact⟨w,b,by rw[List.getElem?_append_left c]at e1;exact e1,e2,e3⟩
  ·rw[List.getElem?_eq_none (by rw[List.length_take];omega)]at e;cases e
theorem PrL.tups {H H':Hp}{xs:List V}{ps:List (Int×Int)} (h:PrL H xs ps) (s:xh H H'):PrL H' xs ps:=⟨h.1,λi v e=>by obtain⟨u,a,e1,e2,e3⟩:=h.2 i v e;exact⟨u,a,e1,e2,s _ _ e3⟩⟩
def zeC:Sp:=λvs H Q _=>∃l us ps,vs=[.ref l]/\H l=some (.lst us)/\PrL H us ps/\ps.length<=8/\∀z H' ys,zt H H'->H z=none->H' z=some (.lst ys)->PrL H' ys (xR ps)->Q (.ref z) H'
theorem XW:zD ["stretches","told","first","last"] ["stretches"] (zi vT):=⟨rfl,rfl,rfl,by decide +kernel,rfl,by decide +kernel,by decide +kernel⟩
theorem V7 (r:List (Int×Int)) (w:Int×Int):(xn r w).length<=r.length+1:=by
 cases r with
 | nil=>exact Nat.le_refl _
 | cons p r =>
  show (if w.1<=p.2 then(p.1,w.2)::r else w::p::r).length<=_
  split <;> simp
theorem zc7 (D:Df K mg "joined" vT ["stretches"] []) (T:TxB K mg):Cal P w K mg base "joined" 1 ["stretches"] [] zeC:=by
 refine D.cal (k:=0) XW (λvs H Q E h=>by obtain⟨_,_,_,rfl,_⟩:=h;rfl) (λf cdv A outer s H vs Q E hr h=>?_)
 obtain⟨l,us,ps,rfl,hl,hp,l8,k⟩:=h
 have hpl:=hp.1
 refine⟨_,(zj (zE (i:=1) XW.nd rfl (Or.inl rfl) (qh zf))
  (zj (vx PassesOwn.never rfl (xB (pv 0)) (jj rfl (zM (zG (i:=2) XW.nd rfl (Or.inl rfl)) (zM (zG (i:=3) XW.nd rfl (Or.inl rfl)) xS))) (zr (xa ((vy (zH Zn (zL zY (by rfl) T.nLen PySem.boot_len (zd (pv 1) zf)) ze (zI _)) (qu (zH Qt (pv 2) (zn zm (zn zV (pv 1) (ZQ jL ze) (λ_ _=>rfl)) ze (λ_ _=>rfl)) (zI _))))).pt (zr (jk (zU (zd (zn zm (zn zV (pv 1) (ZQ jL ze) (λ_ _=>rfl)) ze (λ_ _=>rfl)) (zd (pv 3) zf))) (ZR (pv 1) (ZQ jL ze) jp))) (zr (vG (Vz PySem.F.plainAttrs_list PySem.F.slot_list_append PySem.F.type_list_append jt (pv 1) (zd (zU (zd (pv 2) (zd (pv 3) zf))) zf)))))))
  (zr (zF (pv 1))))),?_⟩
 refine⟨by show 0<=sizeLine;decide,λTd hTd=>?_⟩
 dsimp only[zA]
 have S0:zt H (upd H Td (.lst [])):=zt.upd hTd
 refine⟨_,rfl,l,rfl,⟨_,SqL.of (S0 _ _ hl)⟩,?_⟩
 refine vM (xs:=us) (λi σ G=>∃vs r y2 y3,σ=[some (.ref l),some (.ref Td),y2,y3]/\zt H G/\G Td=some (.lst vs)/\PrL G vs r.reverse/\r=(ps.take i).foldl xn []/\r.length<=i) ⟨[],[],none,none,rfl,S0,zo,⟨rfl,λi v e=>by simp at e⟩,rfl,Nat.le_refl _⟩ (λi σ G _ ⟨_,_,_,_,_,s,_⟩=>SqL.of (s _ _ hl)) ?_ ?_
 ·rintro i v σ G hv ⟨vs,r,y2,y3,rfl,sG,hG,pr,er,rl⟩
  obtain⟨u,a,hu,rfl,ha⟩:=hp.2 i v hv
  have ha:=sG _ _ ha
  have hi:i<us.length:=(List.getElem?_eq_some_iff.mp hv).1
  refine⟨a,_,rfl,.of ha,rfl,_,_,rfl,_,_,rfl,rfl,?_⟩
  dsimp only[zA]
  have et:(ps.take (i+1)).foldl xn []=xn r u:=by
   rw[List.take_add_one,hu]
   show ((ps.take i)++[u]).foldl xn []=_
   rw[List.foldl_append,er];rfl
  have hvl:=pr.1
  rw[List.length_reverse]at hvl
  refine⟨_,rfl,Td,_,rfl,.inl (SqL.of hG),_,_,rfl,rfl,_,rfl,?_⟩
  have app:∀T',G T'=none->xn r u=u::r->∃vs' r' y2 y3,[some (V.ref l),some (.ref Td),some (.int u.1),some (.int u.2)]=[some (.ref l),some (.ref Td),y2,y3]/\zt H (upd (upd G T' (.tup [.int u.1,.int u.2])) Td (.lst (vs++[.ref T'])))/\upd (upd G T' (.tup [.int u.1,.int u.2])) Td (.lst (vs++[.ref T'])) Td=some (.lst vs')/\PrL (upd (upd G T' (.tup [.int u.1,.int u.2])) Td (.lst (vs++[.ref T']))) vs' r'.reverse/\r'=(ps.take (i+1)).foldl xn []/\r'.length<=i+1:=λT' hT' ej=>by
   have hne:T'≠Td:=λe=>by rw[e,hG]at hT';cases hT'
   have st:zt G (upd G T' (.tup [.int u.1,.int u.2])):=zt.upd hT'
   have tt:xh (upd G T' (.tup [.int u.1,.int u.2])) (upd (upd G T' (.tup [.int u.1,.int u.2])) Td (.lst (vs++[.ref T']))):=λb xs e=>by
    rw[zK λz=>by rw[z]at e;rw[zK hne.symm,hG]at e;cases e];exact e
   refine⟨vs++[.ref T'],u::r,_,_,rfl,λb o e=>?_,zo,?_,by rw[et,ej],by simp;omega⟩
   ·rw[zK λz=>by rw[z,hTd]at e;cases e];exact st _ _ (sG _ _ e)
   ·rw[List.reverse_cons]
    exact PrL.tups (PrL.snoc (PrL.same pr st) zo) tt
  cases r with
  | nil =>
   have e0:vs=[]:=List.length_eq_zero_iff.mp (by simpa using hvl)
   subst e0
   refine z7 (z7 ?_)
   refine⟨_,rfl,.inl ⟨rfl,_,SqL.of hG⟩,_,rfl,_,rfl,by show 2<=sizeLine;decide,λT' hT'=>?_⟩
   have hne:T'≠Td:=λe=>by rw[e,hG]at hT';cases hT'
   exact⟨Td,[],_,rfl,rfl,zt.upd hT' _ _ hG,by show 0<sizeLine;decide,app T' hT' rfl⟩
  | cons p r =>
   rw[List.reverse_cons]at pr
   obtain⟨vs0,b,rfl,pr0,hb⟩:=PrL.unsnoc pr
   have hat:atI (vs0++[.ref b]) (-1)=some (.ref b):=zaV (j:=1) (Nat.le_refl _) (by simp) (by simp)
   have hix:ixN (vs0++[V.ref b]).length (-1)=some vs0.length:=by
    unfold ixN
    rw[if_neg (by decide),List.length_append,List.length_singleton,if_pos (by omega),show (-1+((vs0.length+1:Nat):Int)).toNat=vs0.length by omega]
   rw[show decide (((vs0++[V.ref b]).length:Int)>0)=true from decide_eq_true (by rw[List.length_append,List.length_singleton];omega)]
   refine xD ⟨_,rfl,_,rfl,_,rfl,Td,_,_,_,rfl,rfl,.of hG,hat,b,_,_,_,rfl,rfl,.of hb,at1 ..,_,_,rfl,rfl,_,rfl,?_⟩
   by_cases c:u.1<=p.2
   ·rw[decide_eq_true c]
    refine xD ?_
    refine⟨_,rfl,_,rfl,Td,_,_,_,rfl,rfl,.of hG,hat,b,_,_,_,rfl,rfl,.of hb,at0 ..,_,rfl,by show 2<=sizeLine;decide,λT' hT'=>?_⟩
    have hne:T'≠Td:=λe=>by rw[e,hG]at hT';cases hT'
    have st:zt G (upd G T' (.tup [.int p.1,.int u.2])):=zt.upd hT'
    have tt:xh (upd G T' (.tup [.int p.1,.int u.2])) (upd (upd G T' (.tup [.int p.1,.int u.2])) Td (.lst (vs0++[.ref T']))):=λb xs e=>by
     rw[zK λz=>by rw[z]at e;rw[zK hne.symm,hG]at e;cases e];exact e
    have es:(vs0++[V.ref b]).set vs0.length (.ref T')=vs0++[.ref T']:=by
     rw[List.set_append_right _ _ (Nat.le_refl _),Nat.sub_self];rfl
    refine⟨_,rfl,_,rfl,Td,_,_,_,rfl,rfl,st _ _ hG,hix,?_⟩
    rw[es]
    refine⟨vs0++[.ref T'],(p.1,u.2)::r,_,_,rfl,λb o e=>?_,zo,?_,by rw[et];show _=if u.1<=p.2 then _ else _;rw[if_pos c],by simp at rl ⊢;omega⟩
    ·rw[zK λz=>by rw[z,hTd]at e;cases e];exact st _ _ (sG _ _ e)
    ·rw[List.reverse_cons]
     exact PrL.tups (PrL.snoc (u:=(p.1,u.2)) (PrL.same pr0 st) zo) tt
   ·rw[decide_eq_false c]
    refine z7 ?_
    refine⟨_,rfl,.inl ⟨rfl,_,SqL.of hG⟩,_,rfl,_,rfl,by show 2<=sizeLine;decide,λT' hT'=>?_⟩
    exact⟨Td,_,_,rfl,rfl,zt.upd hT' _ _ hG,szl (by simp;simp at rl hvl;omega),app T' hT' (by show (if u.1<=p.2 then _ else _)=_;rw[if_neg c])⟩
 ·rintro σ G ⟨vs,r,y2,y3,rfl,sG,hG,pr,er,rl⟩
  rw[List.take_of_length_le (by omega)]at er
  refine⟨_,rfl,k Td G vs sG hTd hG ?_⟩
  rw[er]at pr;exact pr
end
end KK
end
section
set_option maxHeartbeats 8000000
set_option Elab.async false
set_option linter.all false
set_option maxRecDepth 100000
namespace KK
open PySem L2 KM
section
variable {P:Program}{w:World}{K:PySem.W.Frag}{mg:Str->Option Value}{base:Heap}{aN:Addr}
def zcn:Sp:=λvs H Q _=>∃lo hi g f l:Int,vs=[.int lo,.int hi,.int g,.int f,.int l]/\Bd 100000 lo/\Bd 100000 hi/\∀z H' ys,zt H H'->H z=none->H' z=some (.lst ys)->PrL H' ys (xR (xC lo hi g f l))->Q (.ref z) H'
theorem XV:zD ["low","high","gone_on","first","last","trip","unfolded","ways"] ["low","high","gone_on","first","last"] (zi xX):=⟨rfl,rfl,rfl,by decide +kernel,rfl,by decide +kernel,by decide +kernel⟩
theorem zc0 (a b:Int):(if b>a then b else a)=mx a b:=by unfold mx;split <;> split <;> omega
theorem zcZ (a b:Int):(if b<a then b else a)=mn a b:=by unfold mn;split <;> split <;> omega
theorem JD {D1 D2:Addr}{us:List V}{ws:List (Int×Int)}{G1:Hp}{Z:Hp->Prop}(hD2:G1 D2=none) (hG1:G1 D1=some (.lst us)) (pr1:PrL G1 us ws) (l20:ws.length<=20)
  (k:∀H' ys,zt G1 H'->H' D2=some (.lst ys)->PrL H' ys (ws.filter λw=>decide (w.1<=w.2))->Z H') :
  ∃W:Nat->Nat->Hp->List V->Prop,(∃m,W 0 m (upd G1 D2 (.lst [])) [])/\∀i m H2 ys,W i m H2 ys->H2 D2=some (.lst ys)->((Itl K D1).stop i H2/\Z H2) ∨
   ((Itl K D1).go i H2/\∀σB x H3,σB.length=2->(Itl K D1).yld i H2 x H3->Z4 K 2 (qR (zA 0) (qR (zA 1) XB)) x σB H3 λσ4 H4=>VI (tOp (rI0 λi j=>V.bl (decide (i<=j))) (z8 0) (z8 1)) σ4 H4 λb H5=>if b=true then zaD (xr (z8 0) (xr (z8 1) jD)) σ4 H5 (λv H6=>H6 D2=some (.lst ys)/\ys.length<sizeLine/\∃m',m'<m/\W (i+1) m' (upd H6 D2 (.lst (ys++[v]))) (ys++[v]))
    else H5 D2=some (.lst ys)/\∃m',m'<m/\W (i+1) m' H5 ys):=by
 have ull:us.length=ws.length:=pr1.1
 refine jQ (Q:=λ_ H=>Z H) (g:=Z4 K 2 (qR (zA 0) (qR (zA 1) XB))) (tt:=VI (tOp (rI0 λi j=>V.bl (decide (i<=j))) (z8 0) (z8 1))) (te:=zaD (xr (z8 0) (xr (z8 1) jD))) (n:=2) (J:=Itl K D1) (N:=us.length) (λi H2 ys=>zt G1 H2/\H2 D2=some (.lst ys)/\PrL H2 ys ((ws.take i).filter λw=>decide (w.1<=w.2))) ⟨zt.upd hD2,zo,⟨rfl,λi v e=>by simp at e⟩⟩ (λi H2 ys hi p=>(xu hG1).go i H2 hi p.1) (λH2 ys p=>(xu hG1).stop H2 p.1) ?_ ?_
 ·rintro i v zs H2 H3 ys Nx hN hi hz hy ⟨sa,hDa,pa⟩ hD2'
  obtain⟨rfl,hx⟩:=(xu hG1).yld i v H2 H3 sa hy
  obtain⟨u,a,hu,rfl,ha⟩:=pr1.2 i v hx
  obtain⟨w1,w2,rfl⟩:=QW hz
  have et:ws.take (i+1)=ws.take i++[u]:=by rw[List.take_add_one,hu];rfl
  refine⟨a,_,rfl,.of (sa _ _ ha),rfl,_,_,rfl,_,_,rfl,rfl,?_⟩
  refine⟨_,rfl,_,rfl,_,_,rfl,rfl,_,rfl,?_⟩
  have pal:=pa.1
  have fl:=List.length_filter_le (λw:Int×Int=>decide (w.1<=w.2)) (ws.take i)
  have tl:=List.length_take_le i ws
  by_cases c:u.1<=u.2
  ·rw[decide_eq_true c]
   refine xD ⟨_,rfl,_,rfl,by show 2<=sizeLine;decide,λx hx=>?_⟩
   have hne:x≠D2:=λe=>by rw[e,hDa]at hx;cases hx
   have st:=zt.upd (o:=.tup [.int u.1,.int u.2]) hx
   refine⟨st _ _ hDa,szl (by omega),hN _ _ ⟨λb o e=>?_,zo,?_⟩⟩
   ·rw[zK (zN e hD2)];exact st _ _ (sa _ _ e)
   ·rw[et,List.filter_append,show [u].filter (λw=>decide (w.1<=w.2))=[u] by simp[c]]
    refine PrL.tups (PrL.snoc (PrL.same pa st) zo) λb xs e=>?_
    rw[zK λz=>by rw[z]at e;rw[st _ _ hDa]at e;cases e];exact e
  ·rw[decide_eq_false c]
   refine z7 ⟨hDa,hN _ _ ⟨sa,hDa,?_⟩⟩
   rw[et,List.filter_append,show [u].filter (λw=>decide (w.1<=w.2))=[] by simp[c],List.append_nil];exact pa
 ·rintro H2 ys ⟨sa,hDa,pa⟩ _
  rw[List.take_of_length_le (by omega)]at pa
  exact k H2 ys sa hDa pa
theorem zc4 (D:Df K mg "beginnings" xX ["low","high","gone_on","first","last"] []) (T:TxB K mg) (cJo:Cal P w K mg base "joined" 1 ["stretches"] [] zeC):Cal P w K mg base "beginnings" 2 ["low","high","gone_on","first","last"] [] zcn:=by
 refine D.cal (k:=1) XV (λvs H Q E h=>by obtain⟨_,_,_,_,_,rfl,_⟩:=h;rfl) (λfa cdv A outer s H vs Q E hr1 h=>?_)
 obtain⟨lo,hi,g,f,l,rfl,bl,bh,k⟩:=h
 have b2:Bd 1000000 (2:Int):=Bd.mono (m:=2) (show (2:Int).natAbs<2^2 by decide) (by decide)
 refine⟨_,(zj (zE (i:=5) XV.nd rfl (Or.inl rfl) (zw zJ ze (zw xW (pv 1) (pv 0))))
  (zj (zE (i:=6) XV.nd rfl (Or.inl rfl) (qh (zd (zU (zd (pv 3) (zd (pv 4) zf))) (zd (zU (zd (zw xW (zw zJ ze (pv 1)) (pv 4)) (zd (zw xW (zw zJ ze (pv 1)) (pv 3)) zf))) (zd (zU (zd (zw xt (pv 5) (pv 3)) (zd (zw xt (pv 5) (pv 4)) zf))) zf)))))
  (zj (XO (i:=7) (NB:=["one","other"]) (FR:=["low","gone_on","high"]) (js:=[0,2,1]) rfl rfl (λx c h=>Ql rfl rfl rfl x c h) (.cons rfl rfl rfl ⟨_,rfl⟩ (.cons rfl rfl rfl ⟨_,rfl⟩ (.cons rfl rfl rfl ⟨_,rfl⟩ .nil))) rfl (by decide +kernel) rfl (by decide +kernel) XV.nd rfl rfl (by rfl) (xB (pv 6)) (by intro _ _ _;refine⟨?_,?_,?_⟩;(exact(v6 (K:=K) (n:=2) rfl rfl (zM (zG (i:=0) (show List.Nodup (["one","other","low","gone_on","high"]:List Str) by decide +kernel) rfl (Or.inl rfl)) (zM (zG (i:=1) (show List.Nodup (["one","other","low","gone_on","high"]:List Str) by decide +kernel) rfl (Or.inl rfl)) xS))));(exact xq);(exact(zU (zd (zL (Xh rfl) (by rfl) T.nMax PyProof.Rows.boot_max (zd (pv 2) (zd (zw xW (pv 0) (pv 3)) zf))) (zd (zL (VS rfl) (by rfl) T.nMin PyProof.Rows.boot_min (zd (pv 4) (zd (zw xW (pv 1) (pv 3)) zf))) zf))))))
  (zr (zF (zC cJo hr1 (zd (vF (NB:=["one","other"]) rfl (by decide +kernel) (by decide +kernel) rfl (by decide +kernel) (xB (pv 7)) (by intro _ _ _;refine⟨?_,?_,?_⟩;(exact(v6 (K:=K) (n:=2) rfl rfl (zM (zG (i:=0) (show List.Nodup (["one","other"]:List Str) by decide +kernel) rfl (Or.inl rfl)) (zM (zG (i:=1) (show List.Nodup (["one","other"]:List Str) by decide +kernel) rfl (Or.inl rfl)) xS))));(exact(XQ (zH Qt (pv 0) (pv 1) (zI _))));(exact(zU (zd (pv 0) (zd (pv 1) zf)))))) zf))))))),?_⟩
 refine⟨_,rfl,_,rfl,_,_,rfl,rfl,_,_,rfl,rfl,⟨b2,(bh.sub bl).mono (by decide)⟩,?_⟩
 dsimp only[zA]
 refine⟨_,rfl,_,rfl,by show 2<=sizeLine;decide,λt1 ht1=>?_⟩
 refine⟨_,rfl,_,_,rfl,rfl,⟨b2,bh.mono (by decide)⟩,_,rfl,_,_,rfl,rfl,_,rfl,_,_,rfl,rfl,⟨b2,bh.mono (by decide)⟩,_,rfl,_,_,rfl,rfl,by show 2<=sizeLine;decide,λt2 ht2=>?_⟩
 refine⟨_,rfl,_,rfl,_,_,rfl,rfl,_,rfl,_,rfl,_,_,rfl,rfl,by show 2<=sizeLine;decide,λt3 ht3=>?_⟩
 refine⟨by show 3<=sizeLine;decide,λL hL=>?_⟩
 dsimp only[zA]
 have s1:=zt.upd (o:=.tup [.int f,.int l]) ht1
 have s2:=zt.upd (o:=.tup [.int (2*hi - l),.int (2*hi - f)]) ht2
 have s3:=zt.upd (o:=.tup [.int (2*(hi - lo)+f),.int (2*(hi - lo)+l)]) ht3
 have s4:=zt.upd (o:=.lst [.ref t1,.ref t2,.ref t3]) hL
 have S4:=s1.trans (s2.trans (s3.trans s4))
 have e1:=(s2.trans (s3.trans s4)) _ _ (zo (H:=H) (a:=t1) (o:=.tup [.int f,.int l]))
 have e2:=(s3.trans s4) _ _ (zo (a:=t2) (o:=.tup [.int (2*hi - l),.int (2*hi - f)]))
 have e3:=s4 _ _ (zo (a:=t3) (o:=.tup [.int (2*(hi - lo)+f),.int (2*(hi - lo)+l)]))
 have e4:upd (upd (upd (upd H t1 (.tup [.int f,.int l])) t2 (.tup [.int (2*hi - l),.int (2*hi - f)])) t3 (.tup [.int (2*(hi - lo)+f),.int (2*(hi - lo)+l)])) L (.lst [.ref t1,.ref t2,.ref t3]) L=some (.lst [.ref t1,.ref t2,.ref t3]):=zo
 clear s1 s2 s3 s4 ht1 ht2 ht3 hL
 generalize upd (upd (upd (upd H t1 (.tup [.int f,.int l])) t2 (.tup [.int (2*hi - l),.int (2*hi - f)])) t3 (.tup [.int (2*(hi - lo)+f),.int (2*(hi - lo)+l)])) L (.lst [.ref t1,.ref t2,.ref t3])=G at *
 have pr:PrL G [.ref t1,.ref t2,.ref t3] (unf lo hi f l):=by
  unfold unf
  rw[show hi+hi - l=2*hi - l by omega,show hi+hi - f=2*hi - f by omega,show hi - lo+(hi - lo)+f=2*(hi - lo)+f by omega,show hi - lo+(hi - lo)+l=2*(hi - lo)+l by omega]
  refine⟨rfl,λi v e=>?_⟩
  match i,e with
  | 0,e=>cases e;exact⟨_,t1,rfl,rfl,e1⟩
  | 1,e=>cases e;exact⟨_,t2,rfl,rfl,e2⟩
  | 2,e=>cases e;exact⟨_,t3,rfl,rfl,e3⟩
 have ul:(unf lo hi f l).length=3:=rfl
 clear e1 e2 e3
 refine⟨_,rfl,L,rfl,⟨_,SqL.of e4⟩,λD1 hD1=>?_⟩
 refine xM (js:=[0,2,1]) (J:=Itl K L) (g:=Z4 K 2 (qR (zA 0) (qR (zA 1) XB))) (te:=_) (n:=2) (xs:=[.ref t1,.ref t2,.ref t3]) (λi v G=>∃u a,((unf lo hi f l).map (clp lo hi g))[i]? = some u/\v = .ref a/\G a=some (.tup [.int u.1,.int u.2])) (λi v G G' e ⟨u,a,e1,e2,e3⟩=>⟨u,a,e1,e2,e _ _ e3⟩) hD1 (xu e4) (by show 3<sizeLine;decide) ?_ ?_
 ·intro i v zs G2 Q' hv hz S2 hQ
  obtain⟨u,a,hu,rfl,ha⟩:=pr.2 i v hv
  obtain⟨w1,w2,rfl⟩:=QW hz
  refine⟨a,_,rfl,.of (S2 _ _ ha),rfl,_,_,rfl,_,_,rfl,rfl,⟨rfl,?_⟩⟩
  refine⟨_,rfl,_,rfl,_,rfl,_,_,rfl,rfl,lo,u.1 - g,rfl,_,rfl,_,rfl,_,rfl,_,_,rfl,rfl,hi,u.2 - g,rfl,by show 2<=sizeLine;decide,λx hx=>hQ _ _ (zt.upd hx) ⟨clp lo hi g u,x,by rw[List.getElem?_map,hu];rfl,rfl,?_⟩⟩
  rw[zc0,zcZ];exact zo
 intro us G1 s1 hG1 hul hR
 dsimp only[zA]
 have pr1:PrL G1 us ((unf lo hi f l).map (clp lo hi g)):=⟨by rw[hul,List.length_map,ul];rfl,hR⟩
 have wl:((unf lo hi f l).map (clp lo hi g)).length=3:=rfl
 have ew:xC lo hi g f l=((unf lo hi f l).map (clp lo hi g)).filter λw=>decide (w.1<=w.2):=rfl
 generalize (unf lo hi f l).map (clp lo hi g)=ws at *
 have S1:=S4.trans s1
 have ull:us.length=3:=by rw[pr1.1];exact wl
 refine⟨_,rfl,D1,rfl,⟨_,SqL.of hG1⟩,λD2 hD2=>?_⟩
 refine JD hD2 hG1 pr1 (by omega) ?_
 ·rintro H2 ys sa hDa pa
  rw[<-ew]at pa
  have fl:=List.length_filter_le (λw:Int×Int=>decide (w.1<=w.2)) ws
  have S2:=S1.trans sa
  refine⟨D2,ys,_,rfl,hDa,pa,by rw[ew];omega,λz H' ys' s' hz hz' pz=>k z H' ys' (S2.trans s') ?_ hz' pz⟩
  cases hh:H z with
  | none=>rfl
  | some o=>have:=S2 _ _ hh;rw[hz]at this;cases this
end
end KK
end
section
set_option maxHeartbeats 8000000
set_option Elab.async false
set_option linter.all false
set_option maxRecDepth 100000
namespace KK
open PySem L2 KM
section
variable {P:Program}{w:World}{K:PySem.W.Frag}{mg:Str->Option Value}{base:Heap}{aN:Addr}
def zeF:Sp:=λvs H Q _=>∃r a bs b0 l1 l2,vs=[.ref r,.ref a]/\Pl H r a bs b0 (some l1) (some l2)/\plB b0 bs (some l1) (some l2)=true/\∀H',zt H H'->Q .non H'
theorem zdx:zD ["row","walls"] ["row","walls"] (zi xy):=⟨rfl,rfl,rfl,by decide +kernel,rfl,by decide +kernel,by decide +kernel⟩
theorem zdf (D:Df K mg "refuse_no_box" xy ["row","walls"] []) (cRu:Cal P w K mg base "refuse_uneven" 7 ["row","walls"] [] zdB):Cal P w K mg base "refuse_no_box" 8 ["row","walls"] [] zeF:=by
 refine D.cal (k:=7) zdx (λvs H Q E h=>by obtain⟨_,_,_,_,_,_,rfl,_⟩:=h;rfl) (λf cdv A outer s H vs Q E hr7 h=>?_)
 obtain⟨r,a,bs,b0,l1,l2,rfl,pl,hp,k⟩:=h
 refine⟨_,(zj (vG (zC cRu hr7 (zd (pv 0) (zd (pv 1) zf)))) (zr (xa ((vS (zH ji (zn zm (pv 1) ze (λ_ _=>rfl)) xE (zI _)) (v8 (zH ji (zn zm (pv 1) ze (λ_ _=>rfl)) xE (zI _))))).pt vQ zO))),?_⟩
 refine⟨_,rfl,_,rfl,r,a,bs,b0,_,_,rfl,pl,hp,λH1 e1=>?_⟩
 dsimp only
 obtain⟨v1,v2,ha,h1,h2⟩:=pl.walls
 have ha1:=e1 _ _ ha
 obtain⟨a1,_,_,rfl,_⟩:=h1
 obtain⟨a2,_,_,rfl,_⟩:=h2
 refine⟨_,rfl,a,_,_,_,rfl,rfl,.of ha1,at0 ..,rfl,_,rfl,z7 ⟨_,rfl,a,_,_,_,rfl,rfl,.of ha1,at1 ..,rfl,_,rfl,z7 (k H1 e1)⟩⟩
def PrQ (H:Hp) (xs:List V) (ps:List (Rat×Rat)):Prop:=xs.length=ps.length/\∀(i:Nat) (v:V),xs[i]? = some v->∃u a p q,ps[i]? = some u/\v = .ref a/\H a=some (.tup [.ref p,.ref q])/\zv H p u.1/\zv H q u.2
theorem PrQ.tups {H H':Hp}{xs:List V}{ps:List (Rat×Rat)} (h:PrQ H xs ps) (s:xh H H'):PrQ H' xs ps:=⟨h.1,λi v e=>by obtain⟨u,a,p,q,e1,e2,e3,e4,e5⟩:=h.2 i v e;exact⟨u,a,p,q,e1,e2,s _ _ e3,s _ _ e4,s _ _ e5⟩⟩
theorem Sz.sub' {m n:Nat}{x y:Rat}(h:Sz m x) (k:Sz n y):Sz (m+n+1) (x - y):=by
 rw[<-KM.jU]
 refine .divInt (Int.mul_ne_zero (KM.zR x) (KM.zR y)) ?_ ((h.2.mul k.2).mono (by omega))
 exact((h.1.mul k.2).sub (k.1.mul h.2)).mono (by omega)
theorem qP {m n:Nat}{x y:Rat}(h:Bd m (x.den:Int)) (k:Bd n (y.den:Int)):Bd (m+n) ((x - y).den:Int):=by
 rw[<-KM.jU]
 exact Bd.of_le (j:=x.den*y.den) (by have:=KM.qS (t:=x.num*y.den - y.num*x.den) (b:=x.den*y.den) (Int.mul_ne_zero (KM.zR x) (KM.zR y));omega) (h.mul k)
theorem jR {m n:Nat}{x y:Rat}(h:Bd m (x.den:Int)) (k:Bd n (y.den:Int)):Bd (m+n) ((x*y).den:Int):=by
 rw[<-KM.ZV]
 exact Bd.of_le (j:=x.den*y.den) (by have:=KM.qS (t:=x.num*y.num) (b:=x.den*y.den) (Int.mul_ne_zero (KM.zR x) (KM.zR y));omega) (h.mul k)
theorem zag {m n i j:Nat}{x y:Rat}(hy:0<y) (h1:Bd m (x.den:Int)) (h2:Bd n (y.den:Int)) (h3:Bd i y.num):Bd (i+m) (rst x y).num/\Bd (m+n) ((rst x y).den:Int):=by
 have b0:=Qy (x:=x) (xo hy)
 have nz:(x.den:Int)*y.den≠0:=Int.mul_ne_zero (KM.zR x) (KM.zR y)
 constructor
 ·refine Bd.of_le (KM.J1 nz) (Bd.of_le (j:=y.num*x.den) ?_ (h3.mul h1))
  have:=Int.emod_nonneg (x.num*(y.den:Int)) (b:=y.num*x.den) (by omega)
  have:=Int.emod_lt_of_pos (x.num*(y.den:Int)) (b:=y.num*x.den) b0
  omega
 ·exact Bd.of_le (j:=x.den*y.den) (by have:=KM.qS (t:=(x.num*y.den) % (y.num*x.den)) nz;unfold rst;omega) (h1.mul h2)
theorem ZX {ps:List Rat}{lo hi y:Rat}{k:Int}{w:Rat×Rat}(h:j4 ps lo hi k y=some w):(w.1=lo\/w.1=y)/\(w.2=hi\/w.2=y):=by
 unfold j4 at h
 split at h
 ·cases h
  refine⟨?_,?_⟩
  ·dsimp only;split
   ·exact .inl rfl
   ·exact .inr rfl
  ·dsimp only;split
   ·exact .inl rfl
   ·exact .inr rfl
 ·cases h
theorem Xm:∀(ws r:List (Int×Int)),(ws.foldl xn r).length<=r.length+ws.length
 | [],r=>Nat.le_refl _
 | w::ws,r=>by
  have:=Xm ws (xn r w)
  have:=V7 r w
  show (ws.foldl xn (xn r w)).length<=_
  simp;omega
theorem V5 {lo hi g f l:Int}:(xR (xC lo hi g f l)).length<=3:=by
 unfold xR
 rw[List.length_reverse]
 have:=Xm (xC lo hi g f l) []
 have h2:(xC lo hi g f l).length<=3:=by
  unfold xC
  exact Nat.le_trans (List.length_filter_le _ _) (Nat.le_refl 3)
 simp at this;omega
def zex:Sp:=λvs H Q _=>∃r a m tm sp k bs lo hi x y v,vs=[.ref r,.ref a,.ref sp,.int k,.ref m,.ref tm]/\Qh H r a m tm bs lo hi x y/\zv H sp v/\Sm v/\0<=k/\k<=bs.length/\lo<=y/\y<=hi ∧
 ∀z H' ys,zt H H'->H z=none->H' z=some (.lst ys)->PrQ H' ys (xV (xG bs lo hi x) lo hi (v*x) k y)->Q (.ref z) H'
theorem jn:zD ["row","walls","speed","k","place","t","wish","low","high","gone_on","numbers","bottom","tops","stretches"] ["row","walls","speed","k","place","t"] (zi Zd):=⟨rfl,rfl,rfl,by decide +kernel,rfl,by decide +kernel,by decide +kernel⟩
theorem zc3 (D:Df K mg "aims" Zd ["row","walls","speed","k","place","t"] []) (T:TxB K mg) (cNx:Cal P w K mg base "refuse_no_box" 8 ["row","walls"] [] zeF) (cNb:Cal P w K mg base "refuse_no_ball" 1 ["many","k"] [] zeE) (cRnp:Cal P w K mg base "refuse_no_place" 2 ["walls","place"] [] zcv) (cWis:Cal P w K mg base "wished" 9 ["row","walls","k","place","t"] [] zcw)
  (cRs:Cal P w K mg base "rest_of" 3 ["one","other"] [] zeK) (cTi:Cal P w K mg base "times" 3 ["one","other"] [] (xK Sz2 (· * ·))) (cR:Cal P w K mg base "ratio" 2 ["top","bottom"] [] qd) (cRd:Cal P w K mg base "ratio" 2 ["top","bottom"] [.int 1] qd) (cMi:Cal P w K mg base "minus" 3 ["one","other"] [] (xK Sz2 (· - ·))) (cCb:Cal P w K mg base "common_bottom" 3 ["ratios"] [] zdA) (cBeg:Cal P w K mg base "beginnings" 2 ["low","high","gone_on","first","last"] [] zcn) :
  Cal P w K mg base "aims" 10 ["row","walls","speed","k","place","t"] [] zex:=by
 refine D.cal (k:=9) jn (λvs H Q E h=>by obtain⟨_,_,_,_,_,_,_,_,_,_,_,_,rfl,_⟩:=h;rfl) (λf cdv A outer s H vs Q E hr9 h=>?_)
 obtain⟨r,a,m,tm,sp,k,bs,lo,hi,x,y,v,rfl,ak,hsp,sv,k0,k1,y0,y1,kk⟩:=h
 have hr1:xb 1 _:=hr9.mono (by decide)
 have hr2:xb 2 _:=hr9.mono (by decide)
 have hr3:xb 3 _:=hr9.mono (by decide)
 have hr8:xb 8 _:=hr9.mono (by decide)
 have z:=ak.z
 have lh:lo<hi:=z.lh _ _ rfl rfl
 have sl:Sm lo:=(z.sz _ (Qb rfl)).1
 have sh:Sm hi:=(z.sz _ (Qa rfl)).1
 have sl4:Sz 4000 lo:=sl.sz.mono (by decide)
 have sh4:Sz 4000 hi:=sh.sz.mono (by decide)
 obtain⟨b0,hb0,pl⟩:=ak.ln.pl
 refine⟨_,(zj (vG (zC cNx hr8 (zd (pv 0) (zd (pv 1) zf))))
  (zj (vG (zC cNb hr1 (zd (zw xt (zL zY (by rfl) T.nLen PySem.boot_len (zd (pv 0) zf)) ze) (zd (pv 3) zf))))
  (zj (vG (zC cRnp hr2 (zd (pv 1) (zd (pv 4) zf))))
  (zj (zE (i:=6) jn.nd rfl (Or.inl rfl) (zC cWis hr9 (zd (pv 0) (zd (pv 1) (zd (pv 3) (zd (pv 4) (zd (pv 5) zf)))))))
  (zj (xa (zH ji (pv 6) xE (zI _)) (zr (zF (qh zf))) zO)
  (zj (Zc (i:=7) (j:=8) rfl jn.nd rfl rfl (by decide) rfl rfl (zd (zn zm (zn zm (pv 1) ze (λ_ _=>rfl)) ze (λ_ _=>rfl)) (zd (zn zm (zn zm (pv 1) ze (λ_ _=>rfl)) ze (λ_ _=>rfl)) zf)) (by rfl))
  (zj (zE (i:=9) jn.nd rfl (Or.inl rfl) (zC cRs hr3 (zd (zC cTi hr3 (zd (pv 2) (zd (pv 5) zf))) (zd (zC cTi hr3 (zd (zC cRd hr2 (zd ze zf)) (zd (zC cMi hr3 (zd (pv 8) (zd (pv 7) zf))) zf))) zf))))
  (zj (zE (i:=10) jn.nd rfl (Or.inl rfl) (qh (zd (pv 7) (zd (pv 8) (zd (pv 9) (zd (zn zm (pv 6) ze (λ_ _=>rfl)) (zd (zn zm (pv 6) ze (λ_ _=>rfl)) zf)))))))
  (zj (zE (i:=11) jn.nd rfl (Or.inr rfl) (zC cCb hr3 (zd (pv 10) zf)))
  (zj (XO (i:=12) (NB:=["one"]) (FR:=["bottom"]) (js:=[11]) rfl rfl (λx c h=>Xy rfl x c h) (.cons rfl rfl rfl ⟨_,rfl⟩ .nil) rfl (by decide +kernel) rfl (by decide +kernel) jn.nd rfl rfl (by rfl) (xB (pv 10)) (by intro _ _ _;refine⟨?_,?_,?_⟩;(exact(zG (i:=0) (show List.Nodup (["one","bottom"]:List Str) by decide +kernel) rfl (Or.inl rfl)));(exact xq);(exact(zw zJ (zn (xQ (K:=K) rfl) (pv 0) ze (λ_ _=>rfl)) (zw qr (pv 1) (zn (xQ (K:=K) rfl) (pv 0) ze (λ_ _=>rfl)))))))
  (zj (zE (i:=13) jn.nd rfl (Or.inl rfl) (zC cBeg hr2 (zd (zn zV (pv 12) ze (λ_ _=>rfl)) (zd (zn zV (pv 12) ze (λ_ _=>rfl)) (zd (zn zV (pv 12) ze (λ_ _=>rfl)) (zd (zn zV (pv 12) ze (λ_ _=>rfl)) (zd (zn zV (pv 12) ze (λ_ _=>rfl)) zf)))))))
  (zr (zF (qe (NB:=["first","last"]) (FR:=["bottom"]) (js:=[11]) rfl rfl (λx c h=>Xy rfl x c h) (.cons rfl rfl rfl ⟨_,rfl⟩ .nil) rfl (by decide +kernel) rfl (by decide +kernel) (xB (pv 13)) (by intro _ _ _;refine⟨?_,?_,?_⟩;(exact(v6 (K:=K) (n:=2) rfl rfl (zM (zG (i:=0) (show List.Nodup (["first","last","bottom"]:List Str) by decide +kernel) rfl (Or.inl rfl)) (zM (zG (i:=1) (show List.Nodup (["first","last","bottom"]:List Str) by decide +kernel) rfl (Or.inl rfl)) xS))));(exact xq);(exact(zU (zd (zC cR hr2 (zd (pv 0) (zd (pv 2) zf))) (zd (zC cR hr2 (zd (pv 1) (zd (pv 2) zf))) zf))))))))))))))))))),?_⟩
 refine⟨_,rfl,_,rfl,r,a,_,_,_,_,rfl,pl,ak.pl b0 hb0,λG1 s1=>?_⟩
 have ak1:=ak.same s1
 obtain⟨us,hrow,hrw⟩:=ak1.ln.row
 have hul:=hrw.1
 refine⟨_,rfl,r,us,rfl,.inr (SqT.of hrow),_,_,rfl,rfl,_,rfl,_,_,rfl,k0,by rw[hul];omega,?_⟩
 refine⟨_,rfl,_,rfl,a,m,lo,hi,y,rfl,ak1.ln.ws,ak1.my,sl4,sh4,ak.s4,y0,y1,?_⟩
 refine⟨_,rfl,_,rfl,_,rfl,_,rfl,_,rfl,r,a,m,tm,k,bs,lo,hi,x,y,rfl,ak1,λG2 s2 e2=>?_,λG2 wz p q w s2 e2 hwz hp hq=>?_⟩
 ·refine⟨_,rfl,rfl,_,rfl,xD ?_⟩
  refine⟨by show 0<=sizeLine;decide,λz hz=>?_⟩
  have s12:=s1.trans s2
  refine kk z _ [] (s12.trans (zt.upd hz)) ?_ zo ⟨?_,λi v e=>by simp at e⟩
  ·cases hh:H z with
   | none=>rfl
   | some o=>have:=s12 _ _ hh;rw[hz]at this;cases this
  ·unfold xV;rw[e2];rfl
 refine⟨_,rfl,rfl,_,rfl,z7 ?_⟩
 have s02:=s1.trans s2
 have ak2:=ak.same s02
 have hsp2:=s02 _ _ hsp
 obtain⟨wm1,wm2⟩:=ZX e2
 obtain⟨b',c',pl',ph,p',q',h1,h2,h3,h4,h5⟩:=ak2.ln.ws.w
 refine⟨_,rfl,a,_,_,_,rfl,rfl,.of h1,at0 ..,b',_,_,_,rfl,rfl,.of h2,at0 ..,_,rfl,a,_,_,_,rfl,rfl,.of h1,at1 ..,c',_,_,_,rfl,rfl,.of h3,at0 ..,_,_,rfl,?_⟩
 have one1:Bd 1 (1:Int):=(show (1:Int).natAbs<2^1 by decide)
 have e2r:Rat.divInt 2 1=2:=by rw[Q0];rfl
 have sW:Sz 801 (hi - lo):=Sz.sub' sh.sz sl.sz
 have s2':Sz 2 (2:Rat):=⟨show (2:Int).natAbs<2^2 by decide,show (1:Int).natAbs<2^2 by decide⟩
 have sS:Sz 803 (2*(hi - lo)):=s2'.mul sW
 have sX:Sz 600 (v*x):=sv.sz.mul ak.sx
 have p0:0<2*(hi - lo):=by grind
 have dW:Bd 40 ((hi - lo).den:Int):=qP sh.2 sl.2
 have dS:Bd 42 ((2*(hi - lo)).den:Int):=jR s2'.2 dW
 have dX:Bd 220 ((v*x).den:Int):=jR sv.2 ak.sx.2
 obtain⟨gn,gd⟩:=zag (j:=0) p0 dX dS sS.1
 refine⟨_,rfl,_,rfl,sp,tm,v,x,rfl,hsp2,ak2.t,⟨sv.sz.mono (by decide),ak.sx.mono (by decide)⟩,λg1 G3 s3 hg1=>?_⟩
 refine⟨2,1,rfl,by decide,one1.mono (by decide),λg2 G4 s4 hg2=>?_⟩
 rw[e2r]at hg2
 have s24:=s3.trans s4
 refine⟨_,rfl,_,rfl,ph,pl',hi,lo,rfl,s24 _ _ h5,s24 _ _ h4,⟨sh4,sl4⟩,λg3 G5 s5 hg3=>?_⟩
 refine⟨g2,g3,_,_,rfl,s5 _ _ hg2,hg3,⟨s2'.mono (by decide),sW.mono (by decide)⟩,λg4 G6 s6 hg4=>?_⟩
 refine⟨g1,g4,_,_,rfl,s6 _ _ (s5 _ _ (s4 _ _ hg1)),hg4,⟨⟨sX.mono (by decide),sS.mono (by decide)⟩,p0⟩,λg5 G7 s7 hg5=>?_⟩
 dsimp only[zA]
 have s27:=s24.trans (s5.trans (s6.trans s7))
 have h4':=s27 _ _ h4
 have h5':=s27 _ _ h5
 have hwz':=s27 _ _ hwz
 have hp':=s27 _ _ hp
 have hq':=s27 _ _ hq
 have S7:=s02.trans s27
 clear s3 s4 s5 s6 s7 s24 hg1 hg2 hg3 hg4 h1 h2 h3 h4 h5 hwz hp hq
 have eg:xV (xG bs lo hi x) lo hi (v*x) k y=xR (xC lo hi (rst (v*x) (2*(hi - lo))) w.1 w.2):=by
  unfold xV;rw[e2,show hi - lo+(hi - lo)=2*(hi - lo) by grind]
 rw[eg]at kk
 clear eg
 generalize hgg:rst (v*x) (2*(hi - lo))=gg at *
 refine⟨_,rfl,_,rfl,_,rfl,_,rfl,wz,_,_,_,rfl,rfl,.of hwz',at0 ..,_,rfl,wz,_,_,_,rfl,rfl,.of hwz',at1 ..,by show 5<=sizeLine;decide,λL hL=>?_⟩
 dsimp only[zA]
 have s8:=zt.upd (o:=.lst [.ref pl',.ref ph,.ref g5,.ref p,.ref q]) hL
 have hL8:upd G7 L (.lst [.ref pl',.ref ph,.ref g5,.ref p,.ref q]) L=some (.lst [.ref pl',.ref ph,.ref g5,.ref p,.ref q]):=zo
 generalize upd G7 L (.lst [.ref pl',.ref ph,.ref g5,.ref p,.ref q])=G8 at s8 hL8
 have rats:vJ G8 [.ref pl',.ref ph,.ref g5,.ref p,.ref q] [lo,hi,gg,w.1,w.2]:=by
  refine⟨rfl,λi v e=>?_⟩
  match i,e with
  | 0,e=>cases e;exact⟨_,_,rfl,rfl,s8 _ _ h4'⟩
  | 1,e=>cases e;exact⟨_,_,rfl,rfl,s8 _ _ h5'⟩
  | 2,e=>cases e;exact⟨_,_,rfl,rfl,s8 _ _ hg5⟩
  | 3,e=>cases e;exact⟨_,_,rfl,rfl,s8 _ _ hp'⟩
  | 4,e=>cases e;exact⟨_,_,rfl,rfl,s8 _ _ hq'⟩
 have ysz:Bd 2000 y.num/\Bd 400 (y.den:Int):=ak.sy
 have lsz:Bd 2000 lo.num/\Bd 400 (lo.den:Int):=⟨sl.1.mono (by decide),sl.2.mono (by decide)⟩
 have hsz:Bd 2000 hi.num/\Bd 400 (hi.den:Int):=⟨sh.1.mono (by decide),sh.2.mono (by decide)⟩
 have qsz:∀q∈[lo,hi,gg,w.1,w.2],Bd 2000 q.num/\Bd 400 (q.den:Int):=λq m=>by
  simp only[List.mem_cons,List.not_mem_nil,or_false]at m
  rcases m with rfl | rfl | rfl | rfl | rfl
  ·exact lsz
  ·exact hsz
  ·exact⟨gn.mono (by decide),gd.mono (by decide)⟩
  ·rcases wm1 with e | e <;> rw[e] <;> assumption
  ·rcases wm2 with e | e <;> rw[e] <;> assumption
 obtain⟨B0,B1,B2⟩:=XF (λq m=>(qsz q m).2) (show [lo,hi,gg,w.1,w.2].length<=20 by show 5<=20;decide)
 refine⟨_,rfl,L,_,_,rfl,hL8,rats,λq m=>(qsz q m).2,by show 5<=20;decide,λG9 s9=>?_⟩
 dsimp only[zA]
 have hL9:=s9 _ _ hL8
 generalize hB:Z5 [lo,hi,gg,w.1,w.2]=B at B0 B1 B2
 refine⟨_,rfl,L,rfl,⟨_,SqL.of hL9⟩,λD1 hD1=>?_⟩
 refine xM (js:=[11]) (J:=Itl K L) (g:=zA 0) (te:=_) (n:=1) (xs:=[.ref pl',.ref ph,.ref g5,.ref p,.ref q]) (λi v G=>∃q,[lo,hi,gg,w.1,w.2][i]? = some q/\v = .int (byB q B)) (λi v G G' e h=>h) hD1 (xu hL9) (by show 5<sizeLine;decide) ?_ ?_
 ·intro i v zs G10 Q' hv hz S10 hQ
  obtain⟨w1,rfl⟩:=Z6 hz
  obtain⟨p1,q1,rfl,eq1,hq1⟩:=rats.2 i v hv
  have hq10:=S10 _ _ (s9 _ _ hq1)
  have sq:=qsz q1 (List.mem_of_getElem? eq1)
  have d1:=den_pos q1
  exact⟨rfl,_,rfl,p1,_,_,_,rfl,rfl,.of hq10,at0 ..,_,rfl,_,rfl,p1,_,_,_,rfl,rfl,.of hq10,at1 ..,_,_,rfl,rfl,⟨by omega,sq.2.mono (by decide)⟩,_,_,rfl,rfl,⟨sq.1.mono (by decide),Bd9 (Zs B0 d1 B1)⟩,hQ _ _ (zt.refl _) ⟨q1,eq1,rfl⟩⟩
 intro us2 G10 s10 hG10 hul2 hR10
 dsimp only[zA]
 have e10:us2=[.int (byB lo B),.int (byB hi B),.int (byB gg B),.int (byB w.1 B),.int (byB w.2 B)]:=by
  have:=Xz (f:=λq=>V.int (byB q B)) (qs:=[lo,hi,gg,w.1,w.2]) (by rw[hul2];rfl) hR10
  exact this
 subst e10
 have bb:∀q∈[lo,hi,gg,w.1,w.2],Bd 100000 (byB q B):=λq m=>((qsz q m).1.mul (Zs B0 (den_pos q) B1)).mono (by decide)
 refine⟨_,rfl,D1,_,_,_,rfl,rfl,.of hG10,rfl,_,rfl,D1,_,_,_,rfl,rfl,.of hG10,rfl,_,rfl,D1,_,_,_,rfl,rfl,.of hG10,rfl,_,rfl,D1,_,_,_,rfl,rfl,.of hG10,rfl,_,rfl,D1,_,_,_,rfl,rfl,.of hG10,rfl,_,_,_,_,_,rfl,bb lo (by simp),bb hi (by simp),λZ G11 ys11 s11 hZ hZ11 pr11=>?_⟩
 dsimp only[zA]
 have jl:(xR (xC (byB lo B) (byB hi B) (byB gg B) (byB w.1 B) (byB w.2 B))).length<=3:=V5
 have ejm:(xR (xC (byB lo B) (byB hi B) (byB gg B) (byB w.1 B) (byB w.2 B))).map (pm λi=>Rat.divInt i B)=xR (xC lo hi gg w.1 w.2):=by
  have E:=qZ B0
  rw[V6 E.le,E.ways]
  rw[jH B0 (B2 lo (by simp)),jH B0 (B2 hi (by simp)),jH B0 (B2 gg (by simp)),jH B0 (B2 w.1 (by simp)),jH B0 (B2 w.2 (by simp))]
 rw[<-ejm]at kk
 generalize xR (xC (byB lo B) (byB hi B) (byB gg B) (byB w.1 B) (byB w.2 B))=js at *
 have hyl:=pr11.1
 refine⟨_,rfl,Z,rfl,⟨_,SqL.of hZ11⟩,λD2 hD2=>?_⟩
 refine xM (js:=[11]) (J:=Itl K Z) (g:=Z4 K 2 (qR (zA 0) (qR (zA 1) XB))) (te:=_) (n:=2) (xs:=ys11) (λi v G=>∃u a p q,(js.map (pm λi=>Rat.divInt i B))[i]? = some u/\v = .ref a/\G a=some (.tup [.ref p,.ref q])/\zv G p u.1/\zv G q u.2) (λi v G G' e ⟨u,a,p,q,e1,e2,e3,e4,e5⟩=>⟨u,a,p,q,e1,e2,e _ _ e3,e _ _ e4,e _ _ e5⟩) hD2 (xu hZ11) (qb (by omega)) ?_ ?_
 ·intro i v zs G12 Q' hv hz S12 hQ
  obtain⟨u,c1,hu,rfl,hc1⟩:=pr11.2 i v hv
  obtain⟨w1,w2,rfl⟩:=QW hz
  refine⟨c1,_,rfl,.of (S12 _ _ hc1),rfl,_,_,rfl,_,_,rfl,rfl,⟨rfl,?_⟩⟩
  refine⟨_,rfl,_,rfl,u.1,B,rfl,by omega,B1,λd1 G13 s13 hd1=>?_⟩
  refine⟨_,rfl,_,rfl,u.2,B,rfl,by omega,B1,λd2 G14 s14 hd2=>?_⟩
  exact⟨by show 2<=sizeLine;decide,λx hx=>hQ _ _ (s13.trans (s14.trans (zt.upd hx))) ⟨pm (λi=>Rat.divInt i B) u,x,d1,d2,by rw[List.getElem?_map,hu];rfl,rfl,zo,zt.upd hx _ _ (s14 _ _ hd1),zt.upd hx _ _ hd2⟩⟩
 intro us12 G12 s12 hG12 hul12 hR12
 have S10:=S7.trans (s8.trans (s9.trans s10))
 have S11:=S10.trans s11
 refine kk D2 G12 us12 (S11.trans s12) ?_ hG12 ⟨by rw[List.length_map];omega,hR12⟩
 cases hh:H D2 with
 | none=>rfl
 | some o=>have:=S11 _ _ hh;rw[hD2]at this;cases this
end
end KK
end
section
set_option maxHeartbeats 4000000
set_option Elab.async false
set_option linter.all false
set_option maxRecDepth 100000
namespace KK
open PySem L2 KM
section
variable {P:Program}{w:World}{K:PySem.W.Frag}{mg:Str->Option Value}{base:Heap}
def On (x:Rat):Prop:=∃t:Int,x=Rat.divInt t 900000
theorem On.of {t v:Int}(h:v ∣ 900000) (h0:0<v):On (Rat.divInt t v):=by
 obtain⟨c,e⟩:=h
 have c0:c≠0:=λz=>by rw[z]at e;omega
 exact⟨t*c,by rw[e,Rat.divInt_mul_right c0]⟩
theorem On.add {x y:Rat}(h:On x) (k:On y):On (x+y):=by
 obtain⟨a,rfl⟩:=h;obtain⟨b,rfl⟩:=k
 exact⟨a+b,((qZ (D:=900000) (by decide)).ad a b).symm⟩
theorem On.sub {x y:Rat}(h:On x) (k:On y):On (x - y):=by
 obtain⟨a,rfl⟩:=h;obtain⟨b,rfl⟩:=k
 exact⟨a - b,((qZ (D:=900000) (by decide)).su a b).symm⟩
theorem On.den {x:Rat}(h:On x):Bd 20 (x.den:Int):=by
 obtain⟨a,rfl⟩:=h
 have:=KM.qS (t:=a) (b:=900000) (by decide)
 show _<2^20
 omega
def Vf:Sp:=λvs H Q _=>∃(p:Addr) (n:Int),vs=[.ref p,.int n]/\100000000<=n/\je H p/\∀(d:Int) H',0<=d->d<n->xJ p H H'->Q (.int d) H'
theorem VC:zD ["pool","base","found","k"] ["pool","base"] (zi qL):=⟨rfl,rfl,rfl,by decide +kernel,rfl,by decide +kernel,by decide +kernel⟩
theorem zeg (D:Df K mg "_law_wide" qL ["pool","base"] []) (T:TxB K mg) (cN:Cal P w K mg base "_law_next" 1 ["pool","base"] [] jK):Cal P w K mg base "_law_wide" 2 ["pool","base"] [] Vf:=by
 refine D.cal (k:=1) VC (λvs H Q E h=>by obtain⟨_,_,rfl,_⟩:=h;rfl) (λf cdv A outer s H vs Q E hr h=>?_)
 obtain⟨p,n,rfl,hn,hP,k⟩:=h
 refine⟨_,(zj (xa (zH jF (pv 1) (zw v5 ze ze) (zI _)) (zr (zF (zC cN hr (zd (pv 0) (zd (pv 1) zf))))) zO)
  (zj (zE (i:=2) VC.nd rfl (Or.inl rfl) ze)
  (zj (vx PassesOwn.never rfl (vP rfl T.nRange (zd ze zf)) (zG (i:=3) VC.nd rfl (Or.inl rfl)) (zr (zE (i:=2) VC.nd rfl (Or.inl rfl) (zw xt (zw zJ (pv 2) (zw v5 ze ze)) (zC cN hr (zd (pv 0) (zd (zw v5 ze ze) zf)))))))
  (zr (zF (zw vv (pv 2) (pv 1))))))),?_⟩
 refine⟨_,rfl,_,_,rfl,rfl,⟨by decide,by decide,by decide⟩,_,_,rfl,rfl,_,rfl,qo (λh=>?_) (λh=>?_)⟩
 ·exact absurd (of_decide_eq_true h) (by show ¬n<10^8;have:(10:Int)^8=100000000:=by decide
                                         omega)
 refine⟨_,rfl,by decide,by decide,?_⟩
 refine jr (n:=(4:Int).toNat) (lo:=0) (λi σ G=>∃(z:Option V) (g:Int),σ=[some (.ref p),some (.int n),some (.int g),z]/\Bd (30+40*i) g/\xJ p H G) ⟨none,0,rfl,Bd.mono (m:=1) (show (0:Int).natAbs<2^1 by decide) (by decide),xJ.refl hP⟩ ?_ ?_
 ·rintro i σ G hi ⟨z,g,rfl,hg,tG⟩
  have hi4:i<4:=hi
  refine⟨_,rfl,_,_,rfl,rfl,⟨by decide,by decide,by decide⟩,_,_,rfl,rfl,⟨hg.mono (by omega),Bd.mono (m:=30) (bdn (by decide) (by decide)) (by decide)⟩,?_⟩
  refine⟨_,rfl,_,_,rfl,rfl,⟨by decide,by decide,by decide⟩,p,_,rfl,by decide,by decide,tG.pool,λd G2 d0 d1 t2=>⟨_,_,rfl,rfl,_,_,rfl,?_,tG.trans t2⟩⟩
  have e:((2:Int)^(28:Int).toNat)=268435456:=by decide
  have d1':d<268435456:=by rw[<-e];exact d1
  have b1:Bd 30 ((2:Int)^(28:Int).toNat):=bdn (by decide) (by decide)
  have b2:Bd 30 d:=bdn d0 (by omega)
  exact((hg.mul b1).add b2).mono (by omega)
 ·rintro σ G ⟨z,g,rfl,hg,tG⟩
  exact⟨_,rfl,_,rfl,_,_,rfl,rfl,by omega,k _ _ (Int.emod_nonneg _ (by omega)) (Int.emod_lt_of_pos _ (by omega)) tG⟩
def zeI:Sp:=λvs H Q _=>∃(p:Addr) (n:Int),vs=[.ref p,.int n]/\0<=n/\n<=1000000/\je H p/\∀r x H',xJ p H H'->zv H' r x->Sz 80 x->On x->Bd 17 (x.den:Int)->Q (.ref r) H'
theorem zcY {d:Int}(h0:0<=d) (h1:d<8):∃v:Int,atI [V.int 1,.int 1,.int 1,.int 2,.int 3,.int 4,.int 6,.int ((10:Int)^(5:Int).toNat)] d=some (.int v)/\1<=v/\v<=100000/\v ∣ 900000:=by
 have:d=0\/d=1\/d=2\/d=3\/d=4\/d=5\/d=6\/d=7:=by omega
 rcases this with rfl | rfl | rfl | rfl | rfl | rfl | rfl | rfl
 all_goals exact⟨_,rfl,by decide,by decide,by decide⟩
theorem zck:zD ["pool","size","bottom"] ["pool","size"] (zi qk):=⟨rfl,rfl,rfl,by decide +kernel,rfl,by decide +kernel,by decide +kernel⟩
theorem zd7 (D:Df K mg "_law_ratio" qk ["pool","size"] []) (cN:Cal P w K mg base "_law_next" 1 ["pool","base"] [] jK) (cWi:Cal P w K mg base "_law_wide" 2 ["pool","base"] [] Vf) (cL:Cal P w K mg base "_law_low" 1 ["top","bottom"] [] qd):Cal P w K mg base "_law_ratio" 3 ["pool","size"] [] zeI:=by
 refine D.calB (k:=2) zck (λvs H Q E h=>by obtain⟨_,_,rfl,_⟩:=h;rfl) (λf cdv A outer s H vs Q E hr h=>?_)
 obtain⟨p,n,rfl,n0,n1,hP,k⟩:=h
 have hr1:xb 1 _:=hr.mono (by decide)
 refine⟨_,(ZD (zcI (i:=2) zck.nd rfl (Or.inl rfl) (zdQ zV (zcG (vD (Bx.mk ze) (vD (Bx.mk ze) (vD (Bx.mk ze) (vD (Bx.mk ze) (vD (Bx.mk ze) (vD (Bx.mk ze) (vD (Bx.mk ze) (vD (Bx.mk (zw v5 ze ze)) zcH))))))))) (Bx.mk (zC cN hr1 (zd (pv 0) (zd ze zf)))) (λ_ _=>rfl))) (Bx.mk (zj (xa (zH jc (zC cN hr1 (zd (pv 0) (zd ze zf))) ze (zI _)) (zr (zF (zC cL hr1 (zd (zw xW (zC cWi hr (zd (pv 0) (zd (zw xt (zw zJ ze (zw v5 ze ze)) ze) zf))) (zw v5 ze ze)) (zd (pv 2) zf))))) zO)
  (zr (zF (zC cL hr1 (zd (zw xW (zC cN hr1 (zd (pv 0) (zd (zw xt (zw zJ ze (pv 1)) ze) zf))) (pv 1)) (zd (pv 2) zf)))))))),?_⟩
 refine⟨_,_,rfl,rfl,⟨by decide,by decide,by decide⟩,by show 8<=sizeLine;decide,λl1 hl1=>?_⟩
 refine⟨_,rfl,p,_,rfl,by decide,by decide,hP.new hl1,λd1 G1 a1 b1 t1=>?_⟩
 obtain⟨v,ev,v0,v1,vd⟩:=zcY a1 b1
 have dv:∀t:Int,Bd 17 ((Rat.divInt t v).den:Int):=λt=>by
  have:=KM.qS (t:=t) (b:=v) (by omega)
  show _<2^17
  omega
 refine⟨l1,_,_,_,rfl,rfl,.of (t1.keep l1 _ zo (hP.ne hl1)),ev,?_⟩
 have T1:xJ p H G1:=t1.pre (zt.upd hl1)
 have vb:Bd 8900 v:=Bd.mono (m:=20) (bdn (by omega) (by omega)) (by decide)
 refine⟨_,rfl,p,_,rfl,by decide,by decide,t1.pool,λd2 G2 a2 b2 t2=>⟨rfl,_,rfl,qo (λh=>?_) (λh=>?_)⟩⟩
 ·refine⟨_,rfl,_,_,rfl,rfl,⟨by decide,by decide,by decide⟩,_,_,rfl,rfl,⟨Bd.mono (m:=2) (bdn (by decide) (by decide)) (by decide),Bd.mono (m:=80) (bdn (by decide) (by decide)) (by decide)⟩,_,_,rfl,rfl,p,_,rfl,by decide,t2.pool,λd3 G3 a3 b3 t3=>?_⟩
  refine⟨_,_,rfl,rfl,⟨by decide,by decide,by decide⟩,_,_,rfl,rfl,_,rfl,_,_,rfl,by omega,vb,λr H' e h=>k r _ H' (((T1.trans t2).trans t3).same e) h (.divInt (by omega) ?_ (Bd.mono (m:=20) (bdn (by omega) (by omega)) (by decide))) (.of vd (by omega)) (dv _)⟩
  have e20:((10:Int)^(20:Int).toNat)=100000000000000000000:=by decide
  have b3':d3<2*((10:Int)^(20:Int).toNat)+1:=b3
  show Bd 80 (d3 - (10:Int)^(20:Int).toNat)
  rw[e20]at b3' ⊢
  exact Bd.mono (m:=68) (bdz (by omega) (by omega)) (by decide)
 ·refine⟨_,rfl,_,rfl,_,_,rfl,rfl,⟨Bd.mono (m:=2) (bdn (by decide) (by decide)) (by decide),Bd.mono (m:=30) (bdn (by omega) (by omega)) (by decide)⟩,_,_,rfl,rfl,p,_,rfl,by omega,by omega,t2.pool,λd3 G3 a3 b3 t3=>?_⟩
  refine⟨_,rfl,_,_,rfl,rfl,_,rfl,_,_,rfl,by omega,vb,λr H' e h=>k r _ H' (((T1.trans t2).trans t3).same e) h (.divInt (by omega) ?_ (Bd.mono (m:=20) (bdn (by omega) (by omega)) (by decide))) (.of vd (by omega)) (dv _)⟩
  exact Bd.mono (m:=30) (bdz (by omega) (by omega)) (by decide)
def zdC:Sp:=λvs H Q _=>∃(p:Addr),vs=[.ref p]/\je H p/\∀r x H',xJ p H H'->zv H' r x->Sz 5 x->On x->Q (.ref r) H'
theorem zcX {d:Int}(h0:0<=d) (h1:d<4):∃v:Int,atI [V.int 1,.int 1,.int 2,.int 3] d=some (.int v)/\1<=v/\v<=3/\v ∣ 900000:=by
 have:d=0\/d=1\/d=2\/d=3:=by omega
 rcases this with rfl | rfl | rfl | rfl
 all_goals exact⟨_,rfl,by decide,by decide,by decide⟩
theorem zev:zD ["pool"] ["pool"] (zi ql):=⟨rfl,rfl,rfl,by decide +kernel,rfl,by decide +kernel,by decide +kernel⟩
theorem zea (D:Df K mg "_law_speed" ql ["pool"] []) (cN:Cal P w K mg base "_law_next" 1 ["pool","base"] [] jK) (cL:Cal P w K mg base "_law_low" 1 ["top","bottom"] [] qd):Cal P w K mg base "_law_speed" 2 ["pool"] [] zdC:=by
 refine D.cal (k:=1) zev (λvs H Q E h=>by obtain⟨_,rfl,_⟩:=h;rfl) (λf cdv A outer s H vs Q E hr h=>?_)
 obtain⟨p,rfl,hP,k⟩:=h
 refine⟨_,(zr (zF (zC cL hr (zd (zw xW (zC cN hr (zd (pv 0) (zd ze zf))) ze) (zd (zn zV (qh (zd ze (zd ze (zd ze (zd ze zf))))) (zC cN hr (zd (pv 0) (zd ze zf))) (λ_ _=>rfl)) zf))))),?_⟩
 refine⟨_,rfl,p,_,rfl,by decide,by decide,hP,λd1 G1 a1 b1 t1=>⟨_,_,rfl,rfl,by show 4<=sizeLine;decide,λl1 hl1=>?_⟩⟩
 refine⟨_,rfl,p,_,rfl,by decide,by decide,t1.pool.new hl1,λd2 G2 a2 b2 t2=>?_⟩
 obtain⟨v,ev,v0,v1,vd⟩:=zcX a2 b2
 refine⟨l1,_,_,_,rfl,rfl,.of (t2.keep l1 _ zo (t1.pool.ne hl1)),ev,?_⟩
 refine⟨_,_,rfl,by omega,Bd.mono (m:=5) (bdn (by omega) (by omega)) (by decide),λr H' e h=>k r _ H' ((t1.trans (t2.pre (zt.upd hl1))).same e) h (.divInt (by omega) (bdz (by omega) (by omega)) (bdn (by omega) (by omega))) (.of vd (by omega))⟩
end
end KK
end
section
set_option maxHeartbeats 8000000
set_option Elab.async false
set_option linter.all false
set_option maxRecDepth 100000
namespace KM
theorem zcM {a b:Int}(hb:0<b):(Rat.divInt a b).num.fdiv ((Rat.divInt a b).den:Int)=a/b:=by
 have d:=den_pos (Rat.divInt a b)
 rw[Int.fdiv_eq_ediv_of_nonneg _ (by omega)]
 have cr:(Rat.divInt a b).num*b=a*((Rat.divInt a b).den:Int):=by
  have:=Rat.num_divInt_den (Rat.divInt a b)
  rw[Rat.divInt_eq_divInt_iff (by omega) (by omega)]at this
  exact this
 generalize (Rat.divInt a b).num=n at *
 generalize ((Rat.divInt a b).den:Int)=m at *
 have e1:(n*b)/(m*b)=n/m:=Int.mul_ediv_mul_of_pos_left _ _ hb
 have e2:(a*m)/(b*m)=a/b:=Int.mul_ediv_mul_of_pos_left _ _ d
 rw[<-e1,<-e2,cr,Int.mul_comm b m]
end KM
namespace KK
open PySem L2 KM
section
variable {P:Program}{w:World}{K:PySem.W.Frag}{mg:Str->Option Value}{base:Heap}{aN:Addr}
def zeH:Sp:=xK (λx y=>Sz2 x y/\y≠0) (· / ·)
theorem zam:zD ["a","b"] ["a","b"] (zi qJ):=⟨rfl,rfl,rfl,by decide +kernel,rfl,by decide +kernel,by decide +kernel⟩
theorem J4 (D:Df K mg "_law_part" qJ ["a","b"] []) (cL:Cal P w K mg base "_law_low" 1 ["top","bottom"] [] qd):Cal P w K mg base "_law_part" 2 ["a","b"] [] zeH:=by
 refine D.cal (k:=1) zam (λvs H Q E h=>by obtain⟨_,_,_,_,rfl,_⟩:=h;rfl) (λf cdv A outer s H vs Q E hr h=>?_)
 obtain⟨p,q,x,y,rfl,hp,hq,⟨⟨hx,hy⟩,hy0⟩,k⟩:=h
 have bx:=Bd4 hx
 have b_y:=Bd4 hy
 refine⟨_,(zr (zF (zC cL hr (zd (zw zJ (zn zm (pv 0) ze (λ_ _=>rfl)) (zn zm (pv 1) ze (λ_ _=>rfl))) (zd (zw zJ (zn zm (pv 0) ze (λ_ _=>rfl)) (zn zm (pv 1) ze (λ_ _=>rfl))) zf))))),?_⟩
 refine⟨_,rfl,p,_,_,_,rfl,rfl,.of hp,at0 ..,_,rfl,q,_,_,_,rfl,rfl,.of hq,at1 ..,_,_,rfl,rfl,⟨bx.1,b_y.2⟩,?_⟩
 refine⟨_,rfl,p,_,_,_,rfl,rfl,.of hp,at1 ..,_,rfl,q,_,_,_,rfl,rfl,.of hq,at0 ..,_,_,rfl,rfl,⟨bx.2,b_y.1⟩,?_⟩
 refine⟨_,_,rfl,Int.mul_ne_zero (KM.zR x) (λz=>hy0 (Rat.num_eq_zero.mp z)),(hx.2.mul hy.1).mono (by decide),λr H' e h=>k r H' e ?_⟩
 show zv H' r (x/y)
 rw[<-KM.jV];exact h
def zcs:Sp:=λvs H Q _=>∃(p:Addr),vs=[.ref p]/\je H p/\∀r x H',xJ p H H'->zv H' r x->Sz 110 x->0<=x->Q (.ref r) H'
theorem zcW {d:Int}(h0:0<=d) (h1:d<4):∃v:Int,atI [V.int 1,.int 2,.int 3,.int 5] d=some (.int v)/\1<=v/\v<=5:=by
 have:d=0\/d=1\/d=2\/d=3:=by omega
 rcases this with rfl | rfl | rfl | rfl
 all_goals exact⟨_,rfl,by decide,by decide⟩
theorem zbP:zD ["pool"] ["pool"] (zi x3):=⟨rfl,rfl,rfl,by decide +kernel,rfl,by decide +kernel,by decide +kernel⟩
theorem zbq (D:Df K mg "_law_moment" x3 ["pool"] []) (cN:Cal P w K mg base "_law_next" 1 ["pool","base"] [] jK) (cWi:Cal P w K mg base "_law_wide" 2 ["pool","base"] [] Vf) (cL:Cal P w K mg base "_law_low" 1 ["top","bottom"] [] qd):Cal P w K mg base "_law_moment" 3 ["pool"] [] zcs:=by
 refine D.cal (k:=2) zbP (λvs H Q E h=>by obtain⟨_,rfl,_⟩:=h;rfl) (λf cdv A outer s H vs Q E hr h=>?_)
 obtain⟨p,rfl,hP,k⟩:=h
 have hr1:xb 1 _:=hr.mono (by decide)
 refine⟨_,(zj (xa (zH jc (zC cN hr1 (zd (pv 0) (zd ze zf))) ze (zI _)) (zr (zF (zC cL hr1 (zd (zC cWi hr (zd (pv 0) (zd (zw v5 ze ze) zf))) (zd (zw xt ze (zC cN hr1 (zd (pv 0) (zd ze zf)))) zf))))) zO)
  (zr (zF (zC cL hr1 (zd (zC cN hr1 (zd (pv 0) (zd ze zf))) (zd (zn zV (qh (zd ze (zd ze (zd ze (zd ze zf))))) (zC cN hr1 (zd (pv 0) (zd ze zf))) (λ_ _=>rfl)) zf)))))),?_⟩
 refine⟨_,rfl,p,_,rfl,by decide,by decide,hP,λd1 G1 a1 b1 t1=>⟨rfl,_,rfl,qo (λh=>?_) (λh=>?_)⟩⟩
 ·refine⟨_,rfl,_,_,rfl,rfl,⟨by decide,by decide,by decide⟩,p,_,rfl,by decide,t1.pool,λd2 G2 a2 b2 t2=>?_⟩
  refine⟨_,rfl,p,_,rfl,by decide,by decide,t2.pool,λd3 G3 a3 b3 t3=>⟨_,_,rfl,rfl,_,_,rfl,by omega,Bd.mono (m:=5) (bdn (by omega) (by omega)) (by decide),λr H' e h=>?_⟩⟩
  have e30:((10:Int)^(30:Int).toNat)=1000000000000000000000000000000:=by decide
  have b2':d2<(10:Int)^(30:Int).toNat:=b2
  rw[e30]at b2'
  exact k r _ H' (((t1.trans t2).trans t3).same e) h (.divInt (by omega) (bdn a2 (by omega)) (Bd.mono (m:=5) (bdn (by omega) (by omega)) (by decide))) (vL (by omega) a2)
 ·refine⟨_,rfl,p,_,rfl,by decide,by decide,t1.pool,λd2 G2 a2 b2 t2=>⟨by show 4<=sizeLine;decide,λl1 hl1=>?_⟩⟩
  refine⟨_,rfl,p,_,rfl,by decide,by decide,t2.pool.new hl1,λd3 G3 a3 b3 t3=>?_⟩
  obtain⟨v,ev,v0,v1⟩:=zcW a3 b3
  refine⟨l1,_,_,_,rfl,rfl,.of (t3.keep l1 _ zo (t2.pool.ne hl1)),ev,?_⟩
  refine⟨_,_,rfl,by omega,Bd.mono (m:=5) (bdn (by omega) (by omega)) (by decide),λr H' e h=>k r _ H' (((t1.trans t2).trans (t3.pre (zt.upd hl1))).same e) h (.divInt (by omega) (Bd.mono (m:=10) (bdn a2 (by omega)) (by decide)) (Bd.mono (m:=5) (bdn (by omega) (by omega)) (by decide))) (vL (by omega) a2)⟩
def zeD:Sp:=xK (λx y=>Sz 1700 x/\Sz 900 y/\0<y) rst
theorem QB:zD ["a","b","part"] ["a","b"] (zi qK):=⟨rfl,rfl,rfl,by decide +kernel,rfl,by decide +kernel,by decide +kernel⟩
theorem J5 (D:Df K mg "_law_rest" qK ["a","b"] []) (cPt:Cal P w K mg base "_law_part" 2 ["a","b"] [] zeH) (cO:Cal P w K mg base "_law_off" 2 ["a","b"] [] (xK Sz2 (· - ·))) (cBy:Cal P w K mg base "_law_by" 2 ["a","b"] [] (xK Sz2 (· * ·))):Cal P w K mg base "_law_rest" 3 ["a","b"] [] zeD:=by
 refine D.cal (k:=2) QB (λvs H Q E h=>by obtain⟨_,_,_,_,rfl,_⟩:=h;rfl) (λf cdv A outer s H vs Q E hr h=>?_)
 obtain⟨p,q,x,y,rfl,hp,hq,⟨hx,hy,y0⟩,k⟩:=h
 have yn:=xo y0
 refine⟨_,(zj (zE (i:=2) QB.nd rfl (Or.inl rfl) (zC cPt hr (zd (pv 0) (zd (pv 1) zf))))
  (zr (zF (zC cO hr (zd (pv 0) (zd (zC cBy hr (zd (pv 1) (zd (zU (zd (zw qr (zn zm (pv 2) ze (λ_ _=>rfl)) (zn zm (pv 2) ze (λ_ _=>rfl))) (zd ze zf))) zf))) zf)))))),?_⟩
 refine⟨_,rfl,_,rfl,p,q,x,y,rfl,hp,hq,⟨⟨hx.mono (by decide),hy.mono (by decide)⟩,λe=>by rw[e]at y0;grind⟩,λt1 G1 s1 h1=>?_⟩
 dsimp only[zA]
 have e1:x/y=Rat.divInt (x.num*y.den) (y.num*x.den):=by rw[<-jV,Int.mul_comm (x.den:Int)]
 have b0:=Qy (x:=x) yn
 have fl:=zcM (a:=x.num*(y.den:Int)) b0
 have mu:=ZS (x:=x) (s:=y) yn
 have zq:Sz 2600 (x/y):=by rw[e1];exact .divInt (by omega) (hx.1.mul hy.2) (hy.1.mul hx.2)
 rw[<-e1]at fl
 have h1:zv G1 t1 (x/y):=h1
 clear e1
 generalize (x/y)=z at *
 refine⟨_,rfl,_,rfl,_,rfl,t1,_,_,_,rfl,rfl,.of h1,at0 ..,_,rfl,t1,_,_,_,rfl,rfl,.of h1,at1 ..,_,_,rfl,rfl,⟨zR z,zq.2.mono (by decide)⟩,by show 2<=sizeLine;decide,λt2 h2=>?_⟩
 dsimp only[jD]
 rw[fl]
 have bf:Bd 2600 ((x.num*(y.den:Int))/(y.num*(x.den:Int))):=by
  rw[<-fl,Int.fdiv_eq_ediv_of_nonneg _ (by have:=den_pos z;omega)]
  refine zq.1.of_le ?_
  have:=den_pos z
  exact Int.natAbs_ediv_le_natAbs _ _
 generalize (x.num*(y.den:Int))/(y.num*(x.den:Int))=j at *
 have s2:=zt.upd (o:=.tup [.int j,.int 1]) h2
 have hj:zv (upd G1 t2 (.tup [.int j,.int 1])) t2 (j:Rat):=by
  show _=some (HO.tup [.int ((j:Rat)).num,.int (((j:Rat)).den:Int)])
  rw[Vu,Vt];exact zo
 generalize upd G1 t2 (.tup [.int j,.int 1])=G2 at s2 hj
 have s12:=s1.trans s2
 refine⟨q,t2,y,_,rfl,s12 _ _ hq,hj,⟨hy.mono (by decide),Sz.mono (Sz.int bf (by decide)) (by decide)⟩,λt3 G3 s3 h3=>?_⟩
 have s13:=s12.trans s3
 refine⟨p,t3,x,_,rfl,s13 _ _ hp,h3,⟨hx.mono (by decide),Sz.mono (Sz.mul hy (Sz.int bf (by decide))) (by decide)⟩,λt4 G4 s4 h4=>k t4 G4 (s13.trans s4) ?_⟩
 have:x - y*(j:Rat)=rst x y:=by rw[Rat.mul_comm];grind
 rw[<-this];exact h4
def zax:Sp:=λvs H Q _=>∃bl a tm b lo hi x,vs=[.ref bl,.ref a,.ref tm]/\Xt H (.ref bl) b/\Xv H a lo hi/\zv H tm x/\Sz 1000 b.pl/\Sz 200 b.sp/\Sz 200 lo/\Sz 200 hi/\Sz 200 x/\lo<hi/\∀r H',zt H H'->zv H' r (zZ lo hi (b.pl+b.sp*x))->Sz 3500 (zZ lo hi (b.pl+b.sp*x))->Q (.ref r) H'
theorem jo:zD ["ball","walls","t","gap","way","rest"] ["ball","walls","t"] (zi qH):=⟨rfl,rfl,rfl,by decide +kernel,rfl,by decide +kernel,by decide +kernel⟩
theorem Xv.same {H H':Hp}{a:Addr}{lo hi:Rat}(h:Xv H a lo hi) (s:zt H H'):Xv H' a lo hi:=by
 obtain⟨b,c,p,q,p',q',h1,h2,h3,h4,h5⟩:=h.w
 exact⟨b,c,p,q,p',q',s _ _ h1,s _ _ h2,s _ _ h3,s _ _ h4,s _ _ h5⟩
theorem J3 (D:Df K mg "_law_line" qH ["ball","walls","t"] []) (cA:Cal P w K mg base "_law_add" 2 ["a","b"] [] (xK Sz2 (· + ·))) (cO:Cal P w K mg base "_law_off" 2 ["a","b"] [] (xK Sz2 (· - ·))) (cBy:Cal P w K mg base "_law_by" 2 ["a","b"] [] (xK Sz2 (· * ·))) (cRs:Cal P w K mg base "_law_rest" 3 ["a","b"] [] zeD) (cBl:Cal P w K mg base "_law_below" 1 ["a","b"] [] Z8) :
  Cal P w K mg base "_law_line" 4 ["ball","walls","t"] [] zax:=by
 refine D.cal (k:=3) jo (λvs H Q E h=>by obtain⟨_,_,_,_,_,_,_,rfl,_⟩:=h;rfl) (λf cdv A outer s H vs Q E hr h=>?_)
 obtain⟨bl,a,tm,b,lo,hi,x,rfl,hb,hw,ht,z1,z2,z3,z4,z5,lh,k⟩:=h
 have hr1:xb 1 _:=hr.mono (by decide)
 have hr2:xb 2 _:=hr.mono (by decide)
 obtain⟨a0,pp,ps,e0,hb,hpl,hps⟩:=hb
 cases e0
 refine⟨_,(zj (zE (i:=3) jo.nd rfl (Or.inl rfl) (zC cO hr2 (zd (zn zm (zn zm (pv 1) ze (λ_ _=>rfl)) ze (λ_ _=>rfl)) (zd (zn zm (zn zm (pv 1) ze (λ_ _=>rfl)) ze (λ_ _=>rfl)) zf))))
  (zj (zE (i:=4) jo.nd rfl (Or.inl rfl) (zC cA hr2 (zd (zC cO hr2 (zd (zn zm (pv 0) ze (λ_ _=>rfl)) (zd (zn zm (zn zm (pv 1) ze (λ_ _=>rfl)) ze (λ_ _=>rfl)) zf))) (zd (zC cBy hr2 (zd (zn zm (pv 0) ze (λ_ _=>rfl)) (zd (pv 2) zf))) zf))))
  (zj (zE (i:=5) jo.nd rfl (Or.inl rfl) (zC cRs hr (zd (pv 4) (zd (zC cA hr2 (zd (pv 3) (zd (pv 3) zf))) zf))))
  (zj (xa (zT (zC cBl hr1 (zd (pv 3) (zd (pv 5) zf))) λ_=>rfl) (zr (zE (i:=5) jo.nd rfl (Or.inl rfl) (zC cO hr2 (zd (zC cA hr2 (zd (pv 3) (zd (pv 3) zf))) (zd (pv 5) zf))))) zO)
  (zr (zF (zC cA hr2 (zd (zn zm (zn zm (pv 1) ze (λ_ _=>rfl)) ze (λ_ _=>rfl)) (zd (pv 5) zf))))))))),?_⟩
 obtain⟨b',c',pl',ph,p',q',h1,h2,h3,h4,h5⟩:=hw.w
 have w4:∀{q:Rat},Sz 200 q->Sz 4000 q:=λh=>h.mono (by decide)
 refine⟨_,rfl,a,_,_,_,rfl,rfl,.of h1,at1 ..,c',_,_,_,rfl,rfl,.of h3,at0 ..,_,rfl,a,_,_,_,rfl,rfl,.of h1,at0 ..,b',_,_,_,rfl,rfl,.of h2,at0 ..,ph,pl',hi,lo,rfl,h5,h4,⟨w4 z4,w4 z3⟩,λg1 G1 s1 hg1=>?_⟩
 have hg1:zv G1 g1 (hi - lo):=hg1
 have sg:Sz 401 (hi - lo):=Sz.sub' z4 z3
 refine⟨_,rfl,bl,_,_,_,rfl,rfl,.of (s1 _ _ hb),rfl,_,rfl,a,_,_,_,rfl,rfl,.of (s1 _ _ h1),at0 ..,b',_,_,_,rfl,rfl,.of (s1 _ _ h2),at0 ..,pp,pl',b.pl,lo,rfl,s1 _ _ hpl,s1 _ _ h4,⟨z1.mono (by decide),w4 z3⟩,λg2 G2 s2 hg2=>?_⟩
 have s12:=s1.trans s2
 refine⟨_,rfl,bl,_,_,_,rfl,rfl,.of (s12 _ _ hb),rfl,_,rfl,ps,tm,b.sp,x,rfl,s12 _ _ hps,s12 _ _ ht,⟨w4 z2,w4 z5⟩,λg3 G3 s3 hg3=>?_⟩
 have sp1:Sz 1201 (b.pl - lo):=Sz.sub' z1 z3
 have sp2:Sz 400 (b.sp*x):=z2.mul z5
 refine⟨g2,g3,_,_,rfl,s3 _ _ hg2,hg3,⟨sp1.mono (by decide),sp2.mono (by decide)⟩,λg4 G4 s4 hg4=>?_⟩
 have hg4:zv G4 g4 (b.pl - lo+b.sp*x):=hg4
 have sw:Sz 1602 (b.pl - lo+b.sp*x):=sp1.add sp2
 have ew:b.pl+b.sp*x - lo=b.pl - lo+b.sp*x:=by grind
 have s14:=s12.trans (s3.trans s4)
 have hg14:=s2.trans (s3.trans s4) _ _ hg1
 clear hg2 hg3 hg1
 refine⟨_,rfl,_,rfl,_,rfl,g1,g1,_,_,rfl,hg14,hg14,⟨sg.mono (by decide),sg.mono (by decide)⟩,λg5 G5 s5 hg5=>?_⟩
 have hg5:zv G5 g5 (hi - lo+(hi - lo)):=hg5
 have s2g:Sz 803 (hi - lo+(hi - lo)):=sg.add sg
 have p0:0<hi - lo+(hi - lo):=by grind
 refine⟨g4,g5,_,_,rfl,s5 _ _ hg4,hg5,⟨sw.mono (by decide),s2g.mono (by decide),p0⟩,λg6 G6 s6 hg6=>?_⟩
 have hF:zZ lo hi (b.pl+b.sp*x)=if hi - lo<rst (b.pl - lo+b.sp*x) (hi - lo+(hi - lo))then lo+(hi - lo+(hi - lo) - rst (b.pl - lo+b.sp*x) (hi - lo+(hi - lo)))else lo+rst (b.pl - lo+b.sp*x) (hi - lo+(hi - lo)):=by unfold zZ;rw[ew]
 obtain⟨rn,rd⟩:=zag (j:=0) p0 sw.2 s2g.2 s2g.1
 have sr:Sz 2405 (rst (b.pl - lo+b.sp*x) (hi - lo+(hi - lo))):=⟨rn.mono (by decide),rd.mono (by decide)⟩
 rw[hF]at k
 clear hF rn rd sw ew sp1 sp2
 generalize rst (b.pl - lo+b.sp*x) (hi - lo+(hi - lo))=r at *
 have s16:=s14.trans (s5.trans s6)
 have hg16:=s5.trans s6 _ _ hg14
 dsimp only[zA]
 refine⟨_,rfl,_,rfl,g1,g6,_,_,rfl,hg16,hg6,⟨sg.mono (by decide),sr.mono (by decide)⟩,_,rfl,?_⟩
 by_cases c:hi - lo<r
 ·rw[decide_eq_true c]
  rw[if_pos c]at k
  refine xD ⟨_,rfl,_,rfl,g1,g1,_,_,rfl,hg16,hg16,⟨sg.mono (by decide),sg.mono (by decide)⟩,λg7 G7 s7 hg7=>?_⟩
  refine⟨_,rfl,g7,g6,_,_,rfl,hg7,s7 _ _ hg6,⟨s2g.mono (by decide),sr.mono (by decide)⟩,λg8 G8 s8 hg8=>?_⟩
  dsimp only[zA]
  have s18:=s16.trans (s7.trans s8)
  exact⟨_,rfl,a,_,_,_,rfl,rfl,.of (s18 _ _ h1),at0 ..,b',_,_,_,rfl,rfl,.of (s18 _ _ h2),at0 ..,_,rfl,pl',g8,_,_,rfl,s18 _ _ h4,hg8,⟨w4 z3,Sz.mono (Sz.sub' s2g sr) (by decide)⟩,λg9 G9 s9 hg9=>k g9 G9 (s18.trans s9) hg9 (Sz.mono (z3.add (Sz.sub' s2g sr)) (by decide))⟩
 ·rw[decide_eq_false c]
  rw[if_neg c]at k
  refine z7 ?_
  exact⟨_,rfl,a,_,_,_,rfl,rfl,.of (s16 _ _ h1),at0 ..,b',_,_,_,rfl,rfl,.of (s16 _ _ h2),at0 ..,_,rfl,pl',g6,_,_,rfl,s16 _ _ h4,hg6,⟨w4 z3,sr.mono (by decide)⟩,λg9 G9 s9 hg9=>k g9 G9 (s16.trans s9) hg9 (Sz.mono (z3.add sr) (by decide))⟩
end
end KK
end
section
set_option maxHeartbeats 8000000
set_option Elab.async false
set_option linter.all false
set_option maxRecDepth 100000
namespace L2
open PySem
theorem Xx {K:PySem.W.Frag}{H:Hp}{a b:Addr}{xs ys:List V}{Q:VK}(ha:H a=some (.tup xs)) (hb:H b=some (.tup ys)) (hl:xs.length+ys.length<=1000) (k:∀q H',zt H H'->H' q=some (.tup (xs++ys))->Q (.ref q) H'):zci K (.ref a) (.ref b) H Q :=
 ⟨a,b,xs,ys,rfl,rfl,.of ha,.of hb,szl hl,λz=>k b H (zt.refl _) (by rw[z];exact hb),λ_ z=>k a H (zt.refl _) (by rw[z,List.append_nil];exact ha),λ_ _ p hp=>k p _ (zt.upd hp) zo⟩
end L2
namespace KK
open PySem L2 KM
theorem JS {n a:Nat}(h:a<n):ixN n (a:Int)=some a:=by
 unfold ixN
 rw[if_pos (by omega),if_pos (by omega),Int.toNat_natCast]
abbrev AR:=Addr×Rat
def rfs (zs:List AR):List V:=zs.map λz=>V.ref z.1
def BbI (i:Nat) (zs:List AR):Prop:=∀a b x y,a<b->zs.length - i<=b->zs[a]? = some x->zs[b]? = some y->x.2<=y.2
def BbJ (i k:Nat) (zs:List AR):Prop:=∀a b x y,a<b->(b=k\/zs.length - i<=b\/(zs.length - 1 - i<=b/\b<=k))->zs[a]? = some x->zs[b]? = some y->x.2<=y.2
def swp (zs:List AR) (k:Nat) (u v:AR):List AR:=(zs.set k v).set (k+1) u
theorem zbW (zs:List AR) (k:Nat) (u v:AR):(swp zs k u v).length=zs.length:=by unfold swp;simp
theorem Zx {zs:List AR}{k:Nat}{u v:AR}(eu:zs[k]? = some u) (ev:zs[k+1]? = some v) (j:Nat):(swp zs k u v)[j]? = if j=k then some v else if j=k+1 then some u else zs[j]?:=by
 have h1:=(List.getElem?_eq_some_iff.mp ev).1
 unfold swp
 rw[List.getElem?_set,List.getElem?_set,List.length_set]
 by_cases e1:j=k
 ·rw[if_pos e1,if_neg (by omega),if_pos e1.symm,if_pos (by omega)]
 ·by_cases e2:j=k+1
  ·rw[if_pos e2.symm,if_pos (by omega),if_neg e1,if_pos e2]
  ·rw[if_neg (Ne.symm e2),if_neg (Ne.symm e1),if_neg e1,if_neg e2]
theorem zaA {zs:List AR}{k:Nat}{u v:AR}(eu:zs[k]? = some u) (ev:zs[k+1]? = some v):(swp zs k u v).Perm zs:=by
 obtain⟨h0,rfl⟩:=List.getElem?_eq_some_iff.mp eu
 obtain⟨h1,rfl⟩:=List.getElem?_eq_some_iff.mp ev
 exact List.set_set_perm h0 h1
theorem zbX {zs:List AR}{k:Nat}{u v:AR}:rfs (swp zs k u v)=((rfs zs).set k (V.ref v.1)).set (k+1) (V.ref u.1):=by unfold rfs swp;rw[List.map_set,List.map_set]
theorem zaX {i k:Nat}{zs:List AR}{u v:AR}(h:BbJ i k zs) (eu:zs[k]? = some u) (ev:zs[k+1]? = some v) (le:u.2<=v.2):BbJ i (k+1) zs:=by
 have key:∀a x,a<k+1->zs[a]? = some x->x.2<=v.2:=λa x ha ex=>by
  by_cases e:a=k
  ·subst e;rw[eu]at ex;cases ex;exact le
  ·exact Rat.le_trans (h a k x u (by omega) (.inl rfl) ex eu) le
 intro a b x y ab hb ex ey
 by_cases e:b=k+1
 ·subst e;rw[ev]at ey;cases ey;exact key a x ab ex
 ·exact h a b x y ab (by omega) ex ey
theorem zaY {i k:Nat}{zs:List AR}{u v:AR}(h:BbJ i k zs) (eu:zs[k]? = some u) (ev:zs[k+1]? = some v) (lt:v.2<u.2):BbJ i (k+1) (swp zs k u v):=by
 have hk:k+1<zs.length - i:=by
  rcases Nat.lt_or_ge (k+1) (zs.length - i)with z | z
  ·exact z
  ·have:=h k (k+1) u v (by omega) (.inr (.inl z)) eu ev;grind
 have key:∀a x,a<k+1->(swp zs k u v)[a]? = some x->x.2<=u.2:=λa x ha ex=>by
  rw[Zx eu ev]at ex
  by_cases e:a=k
  ·rw[if_pos e]at ex;cases ex;grind
  ·rw[if_neg e,if_neg (by omega)]at ex
   exact h a k x u (by omega) (.inl rfl) ex eu
 intro a b x y ab hb ex ey
 rw[zbW]at hb
 by_cases e:b=k+1
 ·have ey':=ey
  rw[Zx eu ev,if_neg (by omega),if_pos e]at ey'
  cases ey'
  exact key a x (by omega) ex
 ·have hb':zs.length - i<=b:=by omega
  rw[Zx eu ev,if_neg (by omega),if_neg (by omega)]at ey
  rw[Zx eu ev]at ex
  split at ex
  ·cases ex;exact h (k+1) b v y (by omega) (.inr (.inl hb')) ev ey
  ·split at ex
   ·cases ex;exact h k b u y (by omega) (.inr (.inl hb')) eu ey
   ·exact h a b x y ab (.inr (.inl hb')) ex ey
theorem Jx {i:Nat}{zs:List AR}(h:BbI i zs):BbJ i 0 zs:=λa b x y ab hb ex ey=>h a b x y ab (by omega) ex ey
theorem zcE {i:Nat}{zs:List AR}(h:BbJ i (zs.length - 1) zs):BbI (i+1) zs:=λa b x y ab hb ex ey=>by
 have:=(List.getElem?_eq_some_iff.mp ey).1
 exact h a b x y ab (by omega) ex ey
theorem zaZ (zs:List AR):BbI 0 zs:=λa b x y ab hb ex ey=>by
 have:=(List.getElem?_eq_some_iff.mp ey).1
 omega
theorem VR {zs:List AR}(h:BbI zs.length zs):zs.Pairwise (λx y=>x.2<=y.2) :=
 List.pairwise_iff_getElem.mpr λi j hi hj ij=>h i j _ _ ij (by omega) (List.getElem?_eq_getElem hi) (List.getElem?_eq_getElem hj)
section
variable {P:Program}{w:World}{K:PySem.W.Frag}{mg:Str->Option Value}{base:Heap}
def zay:Sp:=λvs H Q _=>∃a zs,vs=[.ref a]/\H a=some (.lst (rfs zs))/\(∀z∈zs,zv H z.1 z.2/\Sz 4000 z.2)/\zs.length<=20/\∀l zs' H',zt H H'->H l=none->H' l=some (.lst (rfs zs'))->zs'.Perm zs->zs'.Pairwise (λx y=>x.2<=y.2)->Q (.ref l) H'
theorem VB:zD ["ratios","found","turn","k"] ["ratios"] (zi qa):=⟨rfl,rfl,rfl,by decide +kernel,rfl,by decide +kernel,by decide +kernel⟩
theorem zdh (D:Df K mg "_law_sorted" qa ["ratios"] []) (T:TxQ K mg) (cBl:Cal P w K mg base "_law_below" 1 ["a","b"] [] Z8):Cal P w K mg base "_law_sorted" 2 ["ratios"] [] zay:=by
 refine D.calB (k:=1) VB (λvs H Q E h=>by obtain⟨_,_,rfl,_⟩:=h;rfl) (λf cdv A outer s H vs Q E hr h=>?_)
 obtain⟨a,zs,rfl,ha,hz,h8,k⟩:=h
 have hr1:xb 1 _:=hr
 refine⟨_,(ZD (Bx.mk (zE (i:=1) VB.nd rfl (Or.inl rfl) (jv vZ (by rfl) T.nList PyProof.Rows.boot_list (zd (pv 0) zf))))
  (ZD (Bx.mk (vx PassesOwn.never rfl (vP rfl T.nRange (zd (zL zY (by rfl) T.nLen PySem.boot_len (zd (pv 1) zf)) zf)) (zG (i:=2) VB.nd rfl (Or.inl rfl)) (zr (vx PassesOwn.never rfl (vP rfl T.nRange (zd (zw xW (zL zY (by rfl) T.nLen PySem.boot_len (zd (pv 1) zf)) ze) zf)) (zG (i:=3) VB.nd rfl (Or.inl rfl)) (zr (xa (zT (zC cBl hr1 (zd (zn zV (pv 1) (zw xt (pv 3) ze) (λ_ _=>rfl)) (zd (zn zV (pv 1) (pv 3) (λ_ _=>rfl)) zf))) λ_=>rfl) (zr (jk (zU (zd (zn zV (pv 1) (zw xt (pv 3) ze) (λ_ _=>rfl)) (zd (zn zV (pv 1) (pv 3) (λ_ _=>rfl)) zf))) (jj rfl (zM (ZR (pv 1) (pv 3) jp) (zM (ZR (pv 1) (zw xt (pv 3) ze) jp) xS))))) zO))))))
  (Bx.mk (zr (zF (pv 1)))))),?_⟩
 refine⟨_,rfl,a,_,rfl,.inl (.of ha),λl hl=>?_⟩
 have S1:=zt.upd (o:=.lst (rfs zs)) hl
 have hl1:upd H l (.lst (rfs zs)) l=some (.lst (rfs zs)):=zo
 generalize upd H l (.lst (rfs zs))=G1 at S1 hl1
 dsimp only[zA]
 refine zdD ?_
 have hzl:(rfs zs).length=zs.length:=by unfold rfs;rw[List.length_map]
 refine⟨_,rfl,l,_,rfl,.inl (.of hl1),_,rfl,by omega,by omega,?_⟩
 have aR:∀{ys:List AR}{j:Nat}{z:AR},ys[j]? = some z->atI (rfs ys) (j:Int)=some (V.ref z.1):=λ{ys j z} e=>qX (by unfold rfs;rw[List.getElem?_map,e];rfl)
 have lR:∀ys:List AR,(rfs ys).length=ys.length:=λys=>by unfold rfs;rw[List.length_map]
 refine jr (n:=((rfs zs).length:Int).toNat) (lo:=0) (λi σ G=>∃z2 z3 ys,σ=[some (.ref a),some (.ref l),z2,z3]/\zt H G/\G l=some (.lst (rfs ys))/\ys.Perm zs/\BbI i ys) ⟨_,_,zs,rfl,S1,hl1,.refl _,zaZ _⟩ ?_ ?_
 ·rintro i σ G hi ⟨z2,z3,ys,rfl,SG,hlG,pG,bG⟩
  have hyl:ys.length=zs.length:=pG.length_eq
  refine⟨_,rfl,l,_,rfl,.inl (.of hlG),_,_,rfl,rfl,_,rfl,by have:=lR ys;omega,by have:=lR ys;omega,?_⟩
  refine jr (n:=(((rfs ys).length:Int) - 1).toNat) (lo:=0) (λj σ G'=>∃z3 xs,σ=[some (.ref a),some (.ref l),some (.int (0+(i:Int))),z3]/\zt H G'/\G' l=some (.lst (rfs xs))/\xs.Perm zs/\BbJ i j xs) ⟨_,ys,rfl,SG,hlG,pG,Jx bG⟩ ?_ ?_
  ·rintro j σ G2 hj ⟨y3,xs,rfl,S2,hl2,p2,b2⟩
   have hxl:xs.length=zs.length:=p2.length_eq
   have hj':j+1<xs.length:=by have:=lR ys;omega
   obtain⟨u,eu⟩:∃u,xs[j]? = some u:=⟨_,List.getElem?_eq_getElem (by omega)⟩
   obtain⟨v,ev⟩:∃v,xs[j+1]? = some v:=⟨_,List.getElem?_eq_getElem hj'⟩
   have hu:=hz u (p2.mem_iff.mp (List.mem_of_getElem? eu))
   have hv:=hz v (p2.mem_iff.mp (List.mem_of_getElem? ev))
   have a0:atI (rfs xs) (0+(j:Int))=some (V.ref u.1):=by rw[Int.zero_add];exact aR eu
   have a1:atI (rfs xs) (0+(j:Int)+1)=some (V.ref v.1):=by rw[show 0+(j:Int)+1=((j+1:Nat):Int) by omega];exact aR ev
   have i0:ixN (rfs xs).length (0+(j:Int))=some j:=by rw[Int.zero_add];exact JS (by have:=lR xs;omega)
   have i1:ixN (rfs xs).length (0+(j:Int)+1)=some (j+1):=by rw[show 0+(j:Int)+1=((j+1:Nat):Int) by omega];exact JS (by have:=lR xs;omega)
   dsimp only[zA]
   refine⟨_,rfl,_,rfl,_,_,rfl,rfl,l,_,_,_,rfl,rfl,.of hl2,a1,_,rfl,_,rfl,l,_,_,_,rfl,rfl,.of hl2,a0,v.1,u.1,v.2,u.2,rfl,S2 _ _ hv.1,S2 _ _ hu.1,⟨hv.2,hu.2⟩,_,rfl,qo (λhc=>?_) (λhc=>?_)⟩
   ·have lt:v.2<u.2:=of_decide_eq_true hc
    refine⟨_,rfl,_,rfl,_,_,rfl,rfl,l,_,_,_,rfl,rfl,.of hl2,a1,_,rfl,_,rfl,l,_,_,_,rfl,rfl,.of hl2,a0,by show 2<=sizeLine;decide,λtp htp=>?_⟩
    have s3:=zt.upd (o:=.tup [V.ref v.1,V.ref u.1]) htp
    have ht3:upd G2 tp (.tup [V.ref v.1,V.ref u.1]) tp=some (.tup [V.ref v.1,V.ref u.1]):=zo
    generalize upd G2 tp (.tup [V.ref v.1,V.ref u.1])=G3 at s3 ht3 ⊢
    have hl3:=s3 _ _ hl2
    refine⟨tp,_,rfl,.of ht3,rfl,_,_,rfl,?_⟩
    refine⟨_,rfl,_,rfl,l,_,_,j,rfl,rfl,hl3,i0,?_⟩
    refine⟨_,_,rfl,_,rfl,_,rfl,_,_,rfl,rfl,l,_,_,j+1,rfl,rfl,zo,by rw[List.length_set];exact i1,?_⟩
    refine⟨rfl,_,swp xs j u v,rfl,λb o e=>?_,?_,(zaA eu ev).trans p2,zaY b2 eu ev lt⟩
    ·have nb:b≠l:=zN e hl
     rw[zK nb,zK nb];exact s3 _ _ (S2 _ _ e)
    ·rw[zo,zbX]
   ·have le:u.2<=v.2:=by have:¬v.2<u.2:=λz=>hc (decide_eq_true z);grind
    exact⟨_,xs,rfl,S2,hl2,p2,zaX b2 eu ev le⟩
  ·rintro σ G2 ⟨y3,xs,rfl,S2,hl2,p2,b2⟩
   have hxl:xs.length=zs.length:=p2.length_eq
   rw[show (((rfs ys).length:Int) - 1).toNat=xs.length - 1 by have:=lR ys;omega]at b2
   exact⟨_,_,xs,rfl,S2,hl2,p2,zcE b2⟩
 ·rintro σ G ⟨z2,z3,ys,rfl,SG,hlG,pG,bG⟩
  rw[show ((rfs zs).length:Int).toNat=ys.length by have:=pG.length_eq;omega]at bG
  exact⟨_,rfl,k l ys G SG hl hlG pG (VR bG)⟩
theorem VA {H:Hp}:∀{us:List V}{qs:List Rat},vJ H us qs->∃zs:List AR,us=rfs zs/\zs.map (·.2)=qs/\∀z∈zs,zv H z.1 z.2
 | [],[],_=>⟨[],rfl,rfl,λz m=>by cases m⟩
 | [],_::_,h=>by have:=h.1;simp at this
 | _::_,[],h=>by have:=h.1;simp at this
 | v::us,q::qs,h=>by
  obtain⟨a,rfl,ha⟩:=h.head
  obtain⟨zs,e1,e2,e3⟩:=VA h.tail
  exact⟨(a,q)::zs,by rw[e1];rfl,by rw[<-e2];rfl,λz m=>by
   rcases List.mem_cons.mp m with rfl | m
   ·exact ha
   ·exact e3 z m⟩
theorem xN.snoc {H:Hp}{us:List V}{bs:List Bl}{v:V}{b:Bl}(h:xN H us bs) (hb:Xt H v b):xN H (us++[v]) (bs++[b]):=by
 have hl:=h.1
 refine⟨by simp[hl],λi u e=>?_⟩
 rcases Nat.lt_or_ge i us.length with c | c
 ·rw[List.getElem?_append_left c]at e
  obtain⟨d,e1,e2⟩:=h.2 i u e
  exact⟨d,by rw[List.getElem?_append_left (by omega)];exact e1,e2⟩
 ·rw[List.getElem?_append_right c]at e
  cases hk:i - us.length with
  | zero=>rw[hk]at e;cases e;exact⟨b,by rw[List.getElem?_append_right (by omega),show i - bs.length=0 by omega];rfl,hb⟩
  | succ n=>rw[hk]at e;simp at e
def Jp (b:Bl):Prop:=Sz 1000 b.pl/\Sz 200 b.sp
def zau:Sp:=λvs H Q _=>∃r a bl tm us bs b lo hi x,vs=[.ref r,.ref a,.ref bl,.ref tm]/\H r=some (.tup us)/\xN H us bs/\bs.length<=8/\Xt H (.ref bl) b/\Xv H a lo hi/\zv H tm x/\(∀c∈bs,Jp c)/\Jp b/\Sz 200 lo/\Sz 200 hi/\Sz 200 x/\lo<hi ∧
 ∀l zs H',zt H H'->H l=none->H' l=some (.lst (rfs zs))->(∀z∈zs,zv H' z.1 z.2/\Sz 3500 z.2)->(zs.map (·.2)).Perm (zZ lo hi (b.pl+b.sp*x)::xG bs lo hi x)->(zs.map (·.2)).Pairwise (λu v=>u<=v)->Q (.ref l) H'
theorem zbM:zD ["row","walls","ball","t"] ["row","walls","ball","t"] (zi vj):=⟨rfl,rfl,rfl,by decide +kernel,rfl,by decide +kernel,by decide +kernel⟩
theorem zbm (D:Df K mg "_law_all" vj ["row","walls","ball","t"] []) (cLi:Cal P w K mg base "_law_line" 4 ["ball","walls","t"] [] zax) (cSr:Cal P w K mg base "_law_sorted" 2 ["ratios"] [] zay):Cal P w K mg base "_law_all" 5 ["row","walls","ball","t"] [] zau:=by
 refine D.cal (k:=4) zbM (λvs H Q E h=>by obtain⟨_,_,_,_,_,_,_,_,_,_,rfl,_⟩:=h;rfl) (λf cdv A outer s H vs Q E hr h=>?_)
 obtain⟨r,a,bl,tm,us,bs,b,lo,hi,x,rfl,hr0,hrow,l8,hb,hw,ht,zb,z2,z3,z4,z5,lh,k⟩:=h
 have hr2:xb 2 _:=hr.mono (by decide)
 refine⟨_,(zr (zF (zC cSr hr2 (zd (qe (NB:=["one"]) (FR:=["walls","t"]) (js:=[1,3]) rfl rfl (λx c h=>QM rfl rfl x c h) (.cons rfl rfl rfl ⟨_,rfl⟩ (.cons rfl rfl rfl ⟨_,rfl⟩ .nil)) rfl (by decide +kernel) rfl (by decide +kernel) (v7 (zw XL (pv 0) (zU (zd (pv 2) zf)))) (by intro _ _ _;refine⟨?_,?_,?_⟩;(exact(zG (i:=0) (show List.Nodup (["one","walls","t"]:List Str) by decide +kernel) rfl (Or.inl rfl)));(exact xq);(exact(zC cLi hr (zd (pv 0) (zd (pv 1) (zd (pv 2) zf))))))) zf)))),?_⟩
 refine⟨_,rfl,_,rfl,by show 1<=sizeLine;decide,λt1 ht1=>?_⟩
 have s1:=zt.upd (o:=.tup [.ref bl]) ht1
 have h1:upd H t1 (.tup [.ref bl]) t1=some (.tup [.ref bl]):=zo
 generalize upd H t1 (.tup [.ref bl])=G1 at s1 h1
 have hul:=hrow.1
 refine Xx (s1 _ _ hr0) h1 (by simp;omega) λtt G2 s2 h2=>?_
 have s12:=s1.trans s2
 have rw2:xN G2 (us++[.ref bl]) (bs++[b]):=xN.snoc (hrow.keeps (.of s12)) (by obtain⟨c,p,q,e,e1,e2,e3⟩:=hb;exact⟨c,p,q,e,s12 _ _ e1,s12 _ _ e2,s12 _ _ e3⟩)
 have zz:∀c∈bs++[b],Jp c:=λc m=>by
  rcases List.mem_append.mp m with m | m
  ·exact zb c m
  ·rw[List.mem_singleton.mp m];exact z2
 refine⟨tt,rfl,⟨_,SqT.of h2⟩,λD1 hD1=>?_⟩
 refine xM (js:=[1,3]) (J:=Itt K tt) (g:=zA 0) (te:=_) (n:=1) (xs:=us++[.ref bl]) (λi v G=>∃q p,(xG (bs++[b]) lo hi x)[i]? = some q/\v = .ref p/\zv G p q/\Sz 3500 q) (λi v G G' e ⟨q,p,e1,e2,e3,e4⟩=>⟨q,p,e1,e2,e _ _ e3,e4⟩) hD1 (jm h2) (qb (by simp;omega)) ?_ ?_
 ·intro i v zs G3 Q' hv hz S3 hQ
  obtain⟨w1,rfl⟩:=Z6 hz
  obtain⟨c,ec,c0,p,q,rfl,e1,e2,e3⟩:=rw2.2 i v hv
  have zc:=zz c (List.mem_of_getElem? ec)
  have S13:=s12.trans S3
  exact⟨rfl,_,rfl,_,rfl,_,rfl,c0,a,tm,c,lo,hi,x,rfl,⟨c0,p,q,rfl,S3 _ _ e1,S3 _ _ e2,S3 _ _ e3⟩,hw.same S13,S13 _ _ ht,zc.1,zc.2,z3,z4,z5,lh,λrr G4 s4 hr4 sz4=>hQ _ _ s4 ⟨_,rr,by unfold xG;rw[List.getElem?_map,ec];rfl,rfl,hr4,sz4⟩⟩
 intro us3 G3 s3 hG3 hul3 hR3
 have pl:(xG (bs++[b]) lo hi x).length=bs.length+1:=by unfold xG;simp
 have rats:vJ G3 us3 (xG (bs++[b]) lo hi x):=⟨by rw[hul3,pl];simp;omega,λi v e=>by obtain⟨q,p,e1,e2,e3,e4⟩:=hR3 i v e;exact⟨p,q,e2,e1,e3⟩⟩
 have qsz:∀q∈xG (bs++[b]) lo hi x,Sz 3500 q:=λq m=>by
  obtain⟨i,hi'⟩:=List.mem_iff_getElem?.mp m
  have:=(List.getElem?_eq_some_iff.mp hi').1
  obtain⟨v,hv⟩:∃v,us3[i]? = some v:=⟨_,List.getElem?_eq_getElem (by rw[rats.1];exact this)⟩
  obtain⟨q',p,e1,_,_,e4⟩:=hR3 i v hv
  rw[hi']at e1;cases e1;exact e4
 obtain⟨zs,rfl,ez,hz⟩:=VA rats
 have S3:=s12.trans s3
 refine⟨D1,zs,rfl,hG3,λz m=>⟨hz z m,Sz.mono (qsz z.2 (by rw[<-ez];exact List.mem_map.mpr ⟨z,m,rfl⟩)) (by decide)⟩,by have:=congrArg List.length ez;rw[List.length_map]at this;omega,λl zs' G4 s4 hl hG4 pz sz=>?_⟩
 have pm':=pz.map (·.2)
 rw[ez]at pm'
 refine k l zs' G4 (S3.trans s4) ?_ hG4 (λz m=>?_) (pm'.trans ?_) (List.pairwise_map.mpr sz)
 ·cases hh:H l with
  | none=>rfl
  | some o=>have:=S3 _ _ hh;rw[hl]at this;cases this
 ·have m':=pz.mem_iff.mp m
  exact⟨s4 _ _ (hz z m'),qsz z.2 (by rw[<-ez];exact List.mem_map.mpr ⟨z,m',rfl⟩)⟩
 ·unfold xG
  rw[List.map_append]
  exact(List.perm_append_comm).trans (by simp)
end
end KK
end
section
set_option maxHeartbeats 8000000
set_option Elab.async false
set_option linter.all false
set_option maxRecDepth 100000
namespace KK
open PySem L2 KM
theorem za0 (xs:List V) (j:Nat):jg xs none (some (j:Int))=xs.take j:=by
 unfold jg
 rw[HT.sIx_none,HT.sIx_nat,List.drop_zero,Nat.sub_zero]
 rcases Nat.le_total j xs.length with h | h
 ·rw[Nat.min_eq_left h]
 ·rw[Nat.min_eq_right h,List.take_of_length_le (Nat.le_refl _),List.take_of_length_le h]
theorem Xl (xs:List V) (j:Nat):jg xs (some (j:Int)) none=xs.drop j:=by
 unfold jg
 rw[HT.sIx_none,HT.sIx_nat]
 rcases Nat.le_total j xs.length with h | h
 ·rw[Nat.min_eq_left h,List.take_of_length_le (by rw[List.length_drop];exact Nat.le_refl _)]
 ·rw[Nat.min_eq_right h,Nat.sub_self,List.take_zero,List.drop_of_length_le h]
theorem XZ {K:PySem.W.Frag}{H:Hp}{a:Addr}{xs:List V}{lo hi:Option Int}{Q:VK}(h:H a=some (.tup xs)) (k:∀q H',zt H H'->H' q=some (.tup (jg xs lo hi))->Q (.ref q) H'):zeo K (.ref a) lo hi H Q\/zep K (.ref a) lo hi H Q:=by
 by_cases c:HT.sIx xs.length 0 lo=0/\HT.sIx xs.length xs.length hi=xs.length
 ·refine .inr ⟨a,xs,rfl,.of h,c,k a H (zt.refl _) ?_⟩
  unfold jg
  rw[c.1,c.2,List.drop_zero,Nat.sub_zero,List.take_of_length_le (Nat.le_refl _)];exact h
 ·exact .inl ⟨a,xs,rfl,.of h,c,λp hp=>k p _ (zt.upd hp) zo⟩
section
variable {P:Program}{w:World}{K:PySem.W.Frag}{mg:Str->Option Value}{base:Heap}{aN:Addr}
theorem xN.app {H:Hp}{us vs:List V}{bs cs:List Bl}(h:xN H us bs) (g:xN H vs cs):xN H (us++vs) (bs++cs):=by
 have hl:=h.1
 have gl:=g.1
 refine⟨by simp[hl,gl],λi u e=>?_⟩
 rcases Nat.lt_or_ge i us.length with c | c
 ·rw[List.getElem?_append_left c]at e
  obtain⟨d,e1,e2⟩:=h.2 i u e
  exact⟨d,by rw[List.getElem?_append_left (by omega)];exact e1,e2⟩
 ·rw[List.getElem?_append_right c]at e
  obtain⟨d,e1,e2⟩:=g.2 _ u e
  exact⟨d,by rw[List.getElem?_append_right (by omega),<-hl];exact e1,e2⟩
theorem xN.take {H:Hp}{us:List V}{bs:List Bl}(h:xN H us bs) (n:Nat):xN H (us.take n) (bs.take n):=by
 have hl:=h.1
 refine⟨by rw[List.length_take,List.length_take,hl],λi u e=>?_⟩
 rcases Nat.lt_or_ge i n with c | c
 ·rw[List.getElem?_take_of_lt c]at e ⊢;exact h.2 i u e
 ·rw[List.getElem?_eq_none (by rw[List.length_take];omega)]at e;cases e
theorem xN.drop {H:Hp}{us:List V}{bs:List Bl}(h:xN H us bs) (n:Nat):xN H (us.drop n) (bs.drop n):=by
 have hl:=h.1
 refine⟨by rw[List.length_drop,List.length_drop,hl],λi u e=>?_⟩
 rw[List.getElem?_drop]at e ⊢
 exact h.2 _ u e
def zcu:Sp:=λvs H Q _=>∃r bl us bs b,vs=[.ref r,.ref bl]/\H r=some (.tup us)/\xN H us bs/\Xt H (.ref bl) b/\bs.length<=7/\(∀c∈bs,Sz 4000 c.pl/\Sz 4000 c.sp)/\Sz 4000 b.pl/\Sz 4000 b.sp ∧
 ∀z us' bs' H',zt H H'->H' z=some (.tup us')->xN H' us' bs'->(∀c∈bs',c∈bs\/c=b)->1<=bs'.length->bs'.length<=bs.length+1->Q (.ref z) H'
theorem Zu:zD ["row","ball","at","other"] ["row","ball"] (zi vn):=⟨rfl,rfl,rfl,by decide +kernel,rfl,by decide +kernel,by decide +kernel⟩
theorem zbt (D:Df K mg "_law_put" vn ["row","ball"] []) (cBl:Cal P w K mg base "_law_below" 1 ["a","b"] [] Z8):Cal P w K mg base "_law_put" 2 ["row","ball"] [] zcu:=by
 refine D.cal (k:=1) Zu (λvs H Q E h=>by obtain⟨_,_,_,_,_,rfl,_⟩:=h;rfl) (λf cdv A outer s H vs Q E hr h=>?_)
 obtain⟨r,bl,us,bs,b,rfl,hr0,hrow,hb,l7,zb,zp,zs,k⟩:=h
 have hu:=hr.units
 have hul:=hrow.1
 obtain⟨a0,pp,ps,e0,hbl,hpl,hps⟩:=hb
 cases e0
 refine⟨_,(zj (zE (i:=2) Zu.nd rfl (Or.inl rfl) ze)
  (zj (vx PassesOwn.never rfl (v7 (pv 0)) (zG (i:=3) Zu.nd rfl (Or.inl rfl)) (zj (xa (zH (ZP hu) (vO (X0.or jZ) (pv 3) jw (jx ze)) (vO (X0.or jZ) (pv 1) jw (jx ze)) (zI _)) (zr (zF (pv 0))) zO)
  (zr (xa ((vS (zT (zC cBl hr (zd (zn zm (pv 3) ze (λ_ _=>rfl)) (zd (zn zm (pv 1) ze (λ_ _=>rfl)) zf))) λ_=>rfl) (v8 ((vy (zH (ZP hu) (zn zm (pv 3) ze (λ_ _=>rfl)) (zn zm (pv 1) ze (λ_ _=>rfl)) (zI _)) (qu (zT (zC cBl hr (zd (zn zm (pv 3) ze (λ_ _=>rfl)) (zd (zn zm (pv 1) ze (λ_ _=>rfl)) zf))) λ_=>rfl)))).pt))).pt (zr (zE (i:=2) Zu.nd rfl (Or.inl rfl) (zw xt (pv 2) ze))) zO))))
  (zr (zF (zw XL (zw XL (vO (X0.or jZ) (pv 0) jw (jx (pv 2))) (zU (zd (pv 1) zf))) (vO (X0.or jZ) (pv 0) (jx (pv 2)) jw)))))),?_⟩
 dsimp only[zA]
 refine⟨_,rfl,r,rfl,⟨_,SqT.of hr0⟩,?_⟩
 refine za3 (xs:=us) (λi σ G=>∃(n:Nat) (y3:Option V),σ=[some (.ref r),some (.ref bl),some (.int n),y3]/\zt H G/\n<=i) ⟨0,none,rfl,zt.refl _,Nat.le_refl _⟩ (λi σ G _ ⟨_,_,_,s,_⟩=>SqT.of (s _ _ hr0)) ?_ ?_
 ·rintro i v σ G hv ⟨n,y3,rfl,sG,ni⟩
  obtain⟨c,ec,c0,p,q,rfl,e1,e2,e3⟩:=hrow.2 i v hv
  have zc:=zb c (List.mem_of_getElem? ec)
  have hi:=(List.getElem?_eq_some_iff.mp ec).1
  dsimp only[zA]
  refine⟨_,rfl,_,rfl,XZ (sG _ _ e1) λt1 G1 s1 h1=>?_⟩
  have s01:=sG.trans s1
  refine⟨_,rfl,_,rfl,XZ (s01 _ _ hbl) λt2 G2 s2 h2=>?_⟩
  have s02:=s01.trans s2
  refine⟨_,_,.tup (s2 _ _ h1) (.cons (zv.rd (s02 _ _ e2)) (.cons (zv.rd (s02 _ _ e3)) .nil)),.tup h2 (.cons (zv.rd (s02 _ _ hpl)) (.cons (zv.rd (s02 _ _ hps)) .nil)),rfl,rfl,_,rfl,qo (λ_=>?_) (λ_=>?_)⟩
  ·exact⟨_,rfl,k r us bs G2 s02 (s02 _ _ hr0) (hrow.keeps (.of s02)) (λc m=>.inl m) (by omega) (by omega)⟩
  have stepT:∃(m:Nat) (y3:Option V),[some (V.ref r),some (.ref bl),some (.int ((n:Int)+1)),some (.ref c0)]=[some (.ref r),some (.ref bl),some (.int m),y3]/\zt H G2/\m<=i+1:=⟨n+1,_,by rw[Int.natCast_add];rfl,s02,by omega⟩
  have stepF:∃(m:Nat) (y3:Option V),[some (V.ref r),some (.ref bl),some (.int (n:Int)),some (.ref c0)]=[some (.ref r),some (.ref bl),some (.int m),y3]/\zt H G2/\m<=i+1:=⟨n,_,rfl,s02,by omega⟩
  refine⟨_,rfl,c0,_,_,_,rfl,rfl,.of (s02 _ _ e1),rfl,_,rfl,bl,_,_,_,rfl,rfl,.of (s02 _ _ hbl),rfl,p,pp,c.pl,b.pl,rfl,s02 _ _ e2,s02 _ _ hpl,⟨zc.1,zp⟩,_,rfl,qo (λh=>?_) (λh=>?_)⟩
  ·refine qo (λ_=>⟨_,rfl,_,_,rfl,rfl,stepT⟩) (λh2=>absurd rfl h2)
  ·refine⟨_,rfl,c0,_,_,_,rfl,rfl,.of (s02 _ _ e1),rfl,_,rfl,bl,_,_,_,rfl,rfl,.of (s02 _ _ hbl),rfl,_,_,zv.rd (s02 _ _ e2),zv.rd (s02 _ _ hpl),rfl,rfl,_,rfl,qo (λh=>?_) (λh=>z7 stepF)⟩
   exact⟨_,rfl,c0,_,_,_,rfl,rfl,.of (s02 _ _ e1),rfl,_,rfl,bl,_,_,_,rfl,rfl,.of (s02 _ _ hbl),rfl,q,ps,c.sp,b.sp,rfl,s02 _ _ e3,s02 _ _ hps,⟨zc.2,zs⟩,_,rfl,qo (λ_=>⟨_,rfl,_,_,rfl,rfl,stepT⟩) (λ_=>stepF)⟩
 ·rintro σ G ⟨n,y3,rfl,sG,ni⟩
  refine⟨_,rfl,_,rfl,_,rfl,XZ (sG _ _ hr0) λt1 G1 s1 h1=>?_⟩
  rw[za0]at h1
  refine⟨_,rfl,by show 1<=sizeLine;decide,λt2 h2=>?_⟩
  have s2:=zt.upd (o:=.tup [.ref bl]) h2
  have h2':upd G1 t2 (.tup [.ref bl]) t2=some (.tup [.ref bl]):=zo
  generalize upd G1 t2 (.tup [.ref bl])=G2 at s2 h2'
  have tl:=List.length_take_le n us
  refine Xx (s2 _ _ h1) h2' (by simp;omega) λt3 G3 s3 h3=>?_
  have s03:=sG.trans (s1.trans (s2.trans s3))
  refine⟨_,rfl,_,rfl,_,rfl,XZ (s03 _ _ hr0) λt4 G4 s4 h4=>?_⟩
  rw[Xl]at h4
  refine Xx (s4 _ _ h3) h4 (by simp;omega) λt5 G5 s5 h5=>?_
  have s05:=s03.trans (s4.trans s5)
  have row5:=hrow.keeps (.of s05)
  have rb:xN G5 [.ref bl] [b]:=⟨rfl,λi v e=>by
   cases i with
   | zero=>cases e;exact⟨b,rfl,bl,pp,ps,rfl,s05 _ _ hbl,s05 _ _ hpl,s05 _ _ hps⟩
   | succ n=>simp at e⟩
  refine k t5 _ (bs.take n++[b]++bs.drop n) G5 s05 h5 (xN.app (xN.app (xN.take row5 n) rb) (xN.drop row5 n)) (λc m=>?_) (by simp;omega) (by simp;omega)
  rcases List.mem_append.mp m with m | m
  ·rcases List.mem_append.mp m with m | m
   ·exact .inl (List.mem_of_mem_take m)
   ·exact .inr (List.mem_singleton.mp m)
  ·exact .inl (List.mem_of_mem_drop m)
end
end KK
end
section
set_option maxHeartbeats 8000000
set_option Elab.async false
set_option linter.all false
set_option maxRecDepth 100000
namespace KK
open PySem L2 KM
structure Pk (x:Rat):Prop where
 z:Sz 100 x
 o:On x
structure Sk (x:Rat):Prop where
 z:Sz 90 x
 o:On x
 d:Bd 17 (x.den:Int)
theorem on0:On 0:=⟨0,(qY _).symm⟩
theorem Sk.zero:Sk 0:=⟨⟨show (0:Int).natAbs<2^90 by decide,show (1:Int).natAbs<2^90 by decide⟩,on0,show (1:Int).natAbs<2^17 by decide⟩
theorem Sk.neg {x:Rat}(h:Sk x):Sk (0 - x):=by
 have e:0 - x = -x:=by grind
 refine⟨?_,on0.sub h.o,?_⟩
 ·rw[e];exact⟨by rw[Rat.neg_num];exact h.z.1.neg,by rw[Rat.neg_den];exact h.z.2⟩
 ·rw[e,Rat.neg_den];exact h.d
theorem j5 {H:Hp}{a:Addr}(h:H a=some (.tup [.int 0,.int 1])):zv H a 0:=h
theorem zP {p:Addr}{H H':Hp}(hp:je H p) (s:xJ p H H'):xh H H':=λb xs e=>s.tup hp e
structure Bk (wt:Int) (b:Bl):Prop where
 p:Pk b.pl
 s:Sk b.sp
 w:b.wt=wt
theorem zcN {g b:Int}(hb:b=1\/b=2\/b=3) (d:Int):On (Rat.divInt g b*Rat.divInt d 12):=by
 rw[Rat.divInt_mul_divInt]
 rcases hb with rfl | rfl | rfl
 ·exact .of (by decide) (by decide)
 ·exact .of (by decide) (by decide)
 ·exact .of (by decide) (by decide)
theorem za4 {g b:Int}(hb:b=1\/b=2\/b=3):On (Rat.divInt g b):=by
 rcases hb with rfl | rfl | rfl
 ·exact .of (by decide) (by decide)
 ·exact .of (by decide) (by decide)
 ·exact .of (by decide) (by decide)
theorem zcf {d:Int}{u v x:V}(h0:0<=d) (h1:d<3):∃y,atI [u,v,x] d=some y/\(y=u\/y=v\/y=x):=by
 have:d=0\/d=1\/d=2:=by omega
 rcases this with rfl | rfl | rfl
 ·exact⟨_,rfl,.inl rfl⟩
 ·exact⟨_,rfl,.inr (.inl rfl)⟩
 ·exact⟨_,rfl,.inr (.inr rfl)⟩
theorem zcg {d:Int}{u v x w:V}(h0:0<=d) (h1:d<4):∃y,atI [u,v,x,w] d=some y/\(y=u\/y=v\/y=x\/y=w):=by
 have:d=0\/d=1\/d=2\/d=3:=by omega
 rcases this with rfl | rfl | rfl | rfl
 ·exact⟨_,rfl,.inl rfl⟩
 ·exact⟨_,rfl,.inr (.inl rfl)⟩
 ·exact⟨_,rfl,.inr (.inr (.inl rfl))⟩
 ·exact⟨_,rfl,.inr (.inr (.inr rfl))⟩
theorem xN.tups {H H':Hp}{us:List V}{bs:List Bl}(h:xN H us bs) (s:xh H H'):xN H' us bs:=⟨h.1,λi v e=>by obtain⟨b,e1,a,p,q,e2,e3,e4,e5⟩:=h.2 i v e;exact⟨b,e1,a,p,q,e2,s _ _ e3,s _ _ e4,s _ _ e5⟩⟩
section
variable {P:Program}{w:World}{K:PySem.W.Frag}{mg:Str->Option Value}{base:Heap}{aN:Addr}
structure Evn (bs:List Bl) (lo hi:Rat) (wt:Int):Prop where
 l1:1<=bs.length
 l8:bs.length<=8
 b:∀c∈bs,Bk wt c
 lh:lo<hi
 lo:Pk lo
 hi:Pk hi
 wt:wt=1\/wt=7\/wt=1000
def zcp:Sp:=λvs H Q _=>∃(p:Addr),vs=[.ref p,.int 8]/\je H p/\∀z r a bs lo hi wt H',xJ p H H'->H' z=some (.tup [.ref r,.ref a])->Ln H' r a bs (some (lo,0)) (some (hi,0))->Evn bs lo hi wt->Q (.ref z) H'
theorem qW:zD ["pool","most","low","gap","high","weight","row","k","place","speed"] ["pool","most"] (zi qE):=⟨rfl,rfl,rfl,by decide +kernel,rfl,by decide +kernel,by decide +kernel⟩
theorem zdc (D:Df K mg "_law_even" qE ["pool","most"] []) (T:TxB K mg) (cN:Cal P w K mg base "_law_next" 1 ["pool","base"] [] jK) (cRa:Cal P w K mg base "_law_ratio" 3 ["pool","size"] [] zeI) (cL:Cal P w K mg base "_law_low" 1 ["top","bottom"] [] qd) (cA:Cal P w K mg base "_law_add" 2 ["a","b"] [] (xK Sz2 (· + ·))) (cBy:Cal P w K mg base "_law_by" 2 ["a","b"] [] (xK Sz2 (· * ·))) (cO:Cal P w K mg base "_law_off" 2 ["a","b"] [] (xK Sz2 (· - ·))) (cSp:Cal P w K mg base "_law_speed" 2 ["pool"] [] zdC) (cPu:Cal P w K mg base "_law_put" 2 ["row","ball"] [] zcu) :
  Cal P w K mg base "_law_even" 4 ["pool","most"] [] zcp:=by
 refine D.cal (k:=3) qW (λvs H Q E h=>by obtain⟨_,rfl,_⟩:=h;rfl) (λf cdv A outer s H vs Q E hr3 h=>?_)
 obtain⟨p,rfl,hP,k⟩:=h
 have hr1:xb 1 _:=hr3.mono (by decide)
 have hr2:xb 2 _:=hr3.mono (by decide)
 have hu:=hr3.units
 refine⟨_,(zj (zE (i:=2) qW.nd rfl (Or.inl rfl) (zC cRa hr3 (zd (pv 0) (zd ze zf))))
  (zj (zE (i:=3) qW.nd rfl (Or.inl rfl) (zC cL hr1 (zd (zw xt ze (zC cN hr1 (zd (pv 0) (zd ze zf)))) (zd (zn zV (qh (zd ze (zd ze (zd ze zf)))) (zC cN hr1 (zd (pv 0) (zd ze zf))) (λ_ _=>rfl)) zf))))
  (zj (zE (i:=4) qW.nd rfl (Or.inl rfl) (zC cA hr2 (zd (pv 2) (zd (pv 3) zf))))
  (zj (zE (i:=5) qW.nd rfl (Or.inl rfl) (zn zV (qh (zd ze (zd ze (zd ze zf)))) (zC cN hr1 (zd (pv 0) (zd ze zf))) (λ_ _=>rfl)))
  (zj (zE (i:=6) qW.nd rfl (Or.inl rfl) (zU zf))
  (zj (vx PassesOwn.never rfl (vP rfl T.nRange (zd (zw xt ze (zC cN hr1 (zd (pv 0) (zd (pv 1) zf)))) zf)) (zG (i:=7) qW.nd rfl (Or.inl rfl)) (zj (zE (i:=8) qW.nd rfl (Or.inl rfl) (zC cA hr2 (zd (pv 2) (zd (zC cBy hr2 (zd (pv 3) (zd (zC cL hr1 (zd (zC cN hr1 (zd (pv 0) (zd ze zf))) (zd ze zf))) zf))) zf))))
  (zj (zE (i:=9) qW.nd rfl (Or.inl rfl) (zn zV (qh (zd (zC cSp hr2 (zd (pv 0) zf)) (zd (zC cSp hr2 (zd (pv 0) zf)) (zd (zU (zd ze (zd ze zf))) (zd (zC cRa hr3 (zd (pv 0) (zd ze zf))) zf))))) (zC cN hr1 (zd (pv 0) (zd ze zf))) (λ_ _=>rfl)))
  (zj (xa ((vy (zH Zn (zL zY (by rfl) T.nLen PySem.boot_len (zd (pv 6) zf)) ze (zI _)) (qu (zH jc (zC cN hr1 (zd (pv 0) (zd ze zf))) ze (zI _))))).pt (zr (zE (i:=8) qW.nd rfl (Or.inl rfl) (zn zm (zn zm (pv 6) (zC cN hr1 (zd (pv 0) (zd (zL zY (by rfl) T.nLen PySem.boot_len (zd (pv 6) zf)) zf))) (λ_ _=>rfl)) ze (λ_ _=>rfl)))) zO)
  (zj (xa (vS (vy (zH (ZP hu) (pv 8) (pv 2) (zI _)) (qu (zH jF (zn zm (pv 9) ze (λ_ _=>rfl)) ze (zI _)))).pt (v8 (vy (zH (ZP hu) (pv 8) (pv 4) (zI _)) (qu (zH Zn (zn zm (pv 9) ze (λ_ _=>rfl)) ze (zI _)))).pt)).pt (zr (zE (i:=9) qW.nd rfl (Or.inl rfl) (zC cO hr2 (zd (zU (zd ze (zd ze zf))) (zd (pv 9) zf))))) zO)
  (zr (zE (i:=6) qW.nd rfl (Or.inl rfl) (zC cPu hr2 (zd (pv 6) (zd (zU (zd (pv 8) (zd (pv 9) (zd (pv 5) zf)))) zf))))))))))
  (zr (zF (zU (zd (pv 6) (zd (zU (zd (zU (zd (pv 2) (zd (zU (zd ze (zd ze zf))) zf))) (zd (zU (zd (pv 4) (zd (zU (zd ze (zd ze zf))) zf))) zf))) zf))))))))))),?_⟩
 refine⟨_,rfl,p,12,rfl,by decide,by decide,hP,λrl lo G1 t1 hlo zlo olo dlo=>?_⟩
 dsimp only[zA]
 refine⟨_,rfl,p,30,rfl,by decide,by decide,t1.pool,λd1 G2 a1 b1 t2=>⟨_,_,rfl,rfl,by show 3<=sizeLine;decide,λl1 hl1=>?_⟩⟩
 have T2:=t1.trans t2
 refine⟨_,rfl,p,3,rfl,by decide,by decide,T2.pool.new hl1,λd2 G3 a2 b2 t3=>?_⟩
 obtain⟨y,ey,hy⟩:=zcf (u:=V.int 1) (v:=.int 2) (x:=.int 3) a2 b2
 obtain⟨bt,rfl,hbt⟩:∃bt:Int,y = .int bt/\(bt=1\/bt=2\/bt=3):=by
  rcases hy with rfl | rfl | rfl
  ·exact⟨1,rfl,.inl rfl⟩
  ·exact⟨2,rfl,.inr (.inl rfl)⟩
  ·exact⟨3,rfl,.inr (.inr rfl)⟩
 have T3:xJ p H G3:=T2.trans (t3.pre (zt.upd hl1))
 refine⟨l1,_,_,_,rfl,rfl,.of (t3.keep l1 _ zo (T2.pool.ne hl1)),ey,_,_,rfl,by omega,Bd.mono (m:=5) (bdn (by omega) (by omega)) (by decide),λrg G4 s4 hg=>?_⟩
 dsimp only[zA]
 have T4:=T3.same s4
 have hlo4:zv G4 rl lo:=s4 _ _ (t3.rat (T2.pool.new hl1) (zt.upd hl1 _ _ (t2.rat t1.pool hlo)))
 have zg:Sz 6 (Rat.divInt (1+d1) bt):=.divInt (by omega) (bdn (by omega) (by omega)) (bdn (by omega) (by omega))
 have pg:0<Rat.divInt (1+d1) bt:=(QQ (by omega)).mpr (by omega)
 have og:∀d,On (Rat.divInt (1+d1) bt*Rat.divInt d 12):=zcN hbt
 have og1:On (Rat.divInt (1+d1) bt):=za4 hbt
 clear hl1 t1 t2 t3 T2 T3 s4 ey hy hlo
 generalize Rat.divInt (1+d1) bt=gap at *
 refine⟨_,rfl,_,rfl,rl,rg,lo,gap,rfl,hlo4,hg,⟨zlo.mono (by decide),zg.mono (by decide)⟩,λrh G5 s5 hh=>?_⟩
 have hh:zv G5 rh (lo+gap):=hh
 have plo:Pk lo:=⟨zlo.mono (by decide),olo⟩
 have phi:Pk (lo+gap):=⟨(zlo.add zg).mono (by decide),olo.add og1⟩
 have lh:lo<lo+gap:=by grind
 have T5:=T4.same s5
 have hlo5:=s5 _ _ hlo4
 have hg5:=s5 _ _ hg
 clear hlo4 hg T4 s5 dlo
 generalize lo+gap=hi at *
 dsimp only[zA]
 refine⟨by show 3<=sizeLine;decide,λl2 hl2=>⟨_,rfl,p,3,rfl,by decide,by decide,T5.pool.new hl2,λd3 G6 a3 b3 t6=>?_⟩⟩
 obtain⟨y,ey,hy⟩:=zcf (u:=V.int 1) (v:=.int 7) (x:=.int 1000) a3 b3
 obtain⟨wt,rfl,hwt⟩:∃wt:Int,y = .int wt/\(wt=1\/wt=7\/wt=1000):=by
  rcases hy with rfl | rfl | rfl
  ·exact⟨1,rfl,.inl rfl⟩
  ·exact⟨7,rfl,.inr (.inl rfl)⟩
  ·exact⟨1000,rfl,.inr (.inr rfl)⟩
 refine⟨l2,_,_,_,rfl,rfl,.of (t6.keep l2 _ zo (T5.pool.ne hl2)),ey,?_⟩
 dsimp only[zA]
 have T6:=T5.trans (t6.pre (zt.upd hl2))
 have kp6:=(t6.pre (zt.upd hl2))
 have hlo6:=kp6.rat T5.pool hlo5
 have hg6:=kp6.rat T5.pool hg5
 have hh6:=kp6.rat T5.pool hh
 clear hlo5 hg5 hh T5 t6 kp6 hl2 ey hy
 refine⟨by show 0<=sizeLine;decide,λr0 hr0=>?_⟩
 dsimp only[zA]
 have s7:=zt.upd (o:=.tup []) hr0
 have h7:upd G6 r0 (.tup []) r0=some (.tup []):=zo
 generalize upd G6 r0 (.tup [])=G7 at s7 h7
 have T7:=T6.same s7
 have hlo7:=s7 _ _ hlo6
 have hg7:=s7 _ _ hg6
 have hh7:=s7 _ _ hh6
 clear hlo6 hg6 hh6 T6 s7 hr0
 refine⟨_,rfl,_,rfl,p,8,rfl,by decide,by decide,T7.pool,λd8 G8 a8 b8 t8=>⟨_,_,rfl,rfl,_,rfl,by omega,by omega,?_⟩⟩
 have T8:=T7.trans t8
 have hlo8:=t8.rat T7.pool hlo7
 have hg8:=t8.rat T7.pool hg7
 have hh8:=t8.rat T7.pool hh7
 have h8:=t8.tup T7.pool h7
 clear hlo7 hg7 hh7 h7 T7 t8
 refine jr (n:=(1+d8).toNat) (lo:=0) (λi σ G=>∃r us bs y7 y8 y9,σ=[some (.ref p),some (.int 8),some (.ref rl),some (.ref rg),some (.ref rh),some (.int wt),some (.ref r),y7,y8,y9]/\xJ p G8 G/\G r=some (.tup us)/\xN G us bs/\(∀c∈bs,Bk wt c)/\bs.length<=i/\(1<=i->1<=bs.length)) ⟨r0,[],[],none,none,none,rfl,xJ.refl T8.pool,h8,⟨rfl,λi v e=>by simp at e⟩,λc m=>by (cases m),Nat.le_refl _,λh=>by omega⟩ ?_ ?_
 ·rintro i σ G hi' ⟨r,us,bs,y7,y8,y9,rfl,tG,hrG,rowG,bkG,lb,l1⟩
  have i8:i<8:=by omega
  dsimp only[zA]
  have tuG:=zP T8.pool tG
  have hloG:=tuG _ _ hlo8
  have hgG:=tuG _ _ hg8
  have hhG:=tuG _ _ hh8
  have hPG:=tG.pool
  have hul:=rowG.1
  refine⟨_,rfl,_,rfl,_,rfl,p,13,rfl,by decide,by decide,hPG,λe1 G1 a1 b1 t1=>?_⟩
  refine⟨_,_,rfl,by decide,Bd.mono (m:=5) (bdn (by decide) (by decide)) (by decide),λq1 G2 s2 h2=>?_⟩
  have z12:Sz 5 (Rat.divInt e1 12):=.divInt (by decide) (bdn (by omega) (by omega)) (bdn (by decide) (by decide))
  have tuA:=zP hPG (t1.same s2)
  refine⟨rg,q1,gap,_,rfl,tuA _ _ hgG,h2,⟨zg.mono (by decide),z12.mono (by decide)⟩,λq2 G3 s3 h3=>?_⟩
  have zgm:Sz 11 (gap*Rat.divInt e1 12):=zg.mul z12
  refine⟨rl,q2,lo,_,rfl,s3 _ _ (tuA _ _ hloG),h3,⟨zlo.mono (by decide),zgm.mono (by decide)⟩,λq3 G4 s4 h4=>?_⟩
  have h4:zv G4 q3 (lo+gap*Rat.divInt e1 12):=h4
  have pk4:Pk (lo+gap*Rat.divInt e1 12):=⟨(zlo.add zgm).mono (by decide),olo.add (og e1)⟩
  have t4:xJ p G G4:=(t1.same s2).same (s3.trans s4)
  dsimp only[zA]
  generalize lo+gap*Rat.divInt e1 12=x8 at h4 pk4
  clear tuA s2 s3 s4 h2 h3 zgm z12 t1
  refine⟨_,rfl,p,rfl,t4.pool,λq5 x5 G5 t5 h5 z5 o5=>?_⟩
  refine⟨_,rfl,p,rfl,t5.pool,λq6 x6 G6 t6 h6 z6 o6=>?_⟩
  refine⟨by show 2<=sizeLine;decide,λq7 hq7=>?_⟩
  have s7:=zt.upd (o:=.tup [.int 0,.int 1]) hq7
  have h7:upd G6 q7 (.tup [.int 0,.int 1]) q7=some (.tup [.int 0,.int 1]):=zo
  generalize upd G6 q7 (.tup [.int 0,.int 1])=G7 at s7 h7
  have t67:=t6.same s7
  refine⟨_,rfl,p,30,rfl,by decide,by decide,t67.pool,λq9 x9 G9 t9 h9 z9 o9 d9=>?_⟩
  refine⟨by show 4<=sizeLine;decide,λl9 hl9=>?_⟩
  refine⟨_,rfl,p,4,rfl,by decide,by decide,t9.pool.new hl9,λe4 GA a4 b4 tA=>?_⟩
  have tA':=tA.pre (zt.upd (o:=.lst [.ref q5,.ref q6,.ref q7,.ref q9]) hl9)
  obtain⟨y,ey,hy⟩:=zcg (u:=V.ref q5) (v:=.ref q6) (x:=.ref q7) (w:=.ref q9) a4 b4
  have u9A:=zP t9.pool tA'
  have u7A:xh G7 GA:=λb xs e=>u9A _ _ (zP t67.pool t9 _ _ e)
  obtain⟨qs,xs,rfl,hqs,sks⟩:∃qs xs,y = .ref qs/\zv GA qs xs/\Sk xs:=by
   rcases hy with rfl | rfl | rfl | rfl
   ·exact⟨q5,x5,rfl,u7A _ _ (zP t5.pool t67 _ _ h5),z5.mono (by decide),o5,z5.2.mono (by decide)⟩
   ·exact⟨q6,x6,rfl,u7A _ _ (s7 _ _ h6),z6.mono (by decide),o6,z6.2.mono (by decide)⟩
   ·exact⟨q7,0,rfl,u7A _ _ h7,.zero⟩
   ·exact⟨q9,x9,rfl,u9A _ _ h9,z9.mono (by decide),o9,d9⟩
  refine⟨l9,_,_,_,rfl,rfl,.of (tA.keep l9 _ zo (t9.pool.ne hl9)),ey,?_⟩
  have tGA:xJ p G GA:=((t4.trans t5).trans t67).trans (t9.trans tA')
  have h8A:=zP t4.pool ((t5.trans t67).trans (t9.trans tA')) _ _ h4
  dsimp only[zA]
  clear tA tA' u9A u7A hy ey hl9 t9 h9 z9 o9 d9 t67 h7 s7 hq7 t6 h6 z6 o6 t5 h5 z5 o5 h4 t4
  have uA:=zP hPG tGA
  have rowA:=rowG.tups uA
  have hrA:=uA _ _ hrG
  refine vA (λσ' G'=>∃q8 x8,σ'=[some (.ref p),some (.int 8),some (.ref rl),some (.ref rg),some (.ref rh),some (.int wt),some (.ref r),some (.int (0+(i:Int))),some (.ref q8),some (.ref qs)]/\xJ p GA G'/\zv G' q8 x8/\Pk x8) ?_ ?_
  ·rintro σ' GB ⟨q8,x8,rfl,tB,h8B,pk8⟩
   have uB:=zP tGA.pool tB
   have hloB:=uB _ _ (uA _ _ hloG)
   have hhB:=uB _ _ (uA _ _ hhG)
   have hsB:=uB _ _ hqs
   have hrB:=uB _ _ hrA
   have rowB:=rowA.tups uB
   have tGB:=tGA.trans tB
   refine vA (λσ' G'=>∃qs xs,σ'=[some (.ref p),some (.int 8),some (.ref rl),some (.ref rg),some (.ref rh),some (.int wt),some (.ref r),some (.int (0+(i:Int))),some (.ref q8),some (.ref qs)]/\zt GB G'/\zv G' qs xs/\Sk xs) ?_ ?_
   ·rintro σ' GC ⟨qs,xs,rfl,sC,hsC,sk⟩
    refine⟨_,rfl,_,rfl,_,rfl,_,rfl,by show 3<=sizeLine;decide,λbl hbl=>?_⟩
    have s1:=zt.upd (o:=.tup [.ref q8,.ref qs,.int wt]) hbl
    have e1:upd GC bl (.tup [.ref q8,.ref qs,.int wt]) bl=some (.tup [.ref q8,.ref qs,.int wt]):=zo
    generalize upd GC bl (.tup [.ref q8,.ref qs,.int wt])=GD at s1 e1
    have sD:=sC.trans s1
    refine⟨r,bl,us,bs,⟨x8,xs,wt⟩,rfl,sD _ _ hrB,rowB.tups (.of sD),⟨bl,q8,qs,rfl,e1,sD _ _ h8B,s1 _ _ hsC⟩,by omega,λc m=>⟨(bkG c m).p.z.mono (by decide),(bkG c m).s.z.mono (by decide)⟩,pk8.z.mono (by decide),sk.z.mono (by decide),λz us' bs' GE sE hz rowE mE l1E l2E=>?_⟩
    dsimp only[zA]
    exact⟨z,us',bs',_,_,_,rfl,(tG.trans tGB).same (sD.trans sE),hz,rowE,λc m=>(mE c m).elim (λm=>bkG c m) (λe=>by rw[e];exact⟨pk8,sk,rfl⟩),by omega,λ_=>l1E⟩
   ·intro nx hnx
    have stay:nx [some (.ref p),some (.int 8),some (.ref rl),some (.ref rg),some (.ref rh),some (.int wt),some (.ref r),some (.int (0+(i:Int))),some (.ref q8),some (.ref qs)] GB:=hnx _ _ ⟨qs,xs,rfl,zt.refl _,hsB,sks⟩
    refine⟨_,rfl,_,rfl,_,_,zv.rd h8B,zv.rd hloB,rfl,rfl,_,rfl,qo (λ_=>⟨_,rfl,qs,_,_,_,rfl,rfl,.of hsB,at0 ..,_,_,rfl,rfl,_,rfl,qo (λ_=>xD ?_) (λ_=>?_)⟩) (λ_=>z7 ?_)⟩
    ·exact⟨by show 2<=sizeLine;decide,λz hz=>⟨_,rfl,z,qs,0,xs,rfl,j5 zo,zt.upd hz _ _ hsB,⟨Sz.mono Sk.zero.z (by decide),sks.z.mono (by decide)⟩,λq' G' s' h'=>hnx _ _ ⟨q',0 - xs,rfl,(zt.upd hz).trans s',h',sks.neg⟩⟩⟩
    ·exact⟨_,rfl,_,rfl,_,_,zv.rd h8B,zv.rd hhB,rfl,rfl,_,rfl,qo (λ_=>⟨_,rfl,qs,_,_,_,rfl,rfl,.of hsB,at0 ..,_,_,rfl,rfl,_,rfl,qo (λ_=>⟨by show 2<=sizeLine;decide,λz hz=>⟨_,rfl,z,qs,0,xs,rfl,j5 zo,zt.upd hz _ _ hsB,⟨Sz.mono Sk.zero.z (by decide),sks.z.mono (by decide)⟩,λq' G' s' h'=>hnx _ _ ⟨q',0 - xs,rfl,(zt.upd hz).trans s',h',sks.neg⟩⟩⟩) (λ_=>stay)⟩) (λ_=>z7 stay)⟩
    ·exact⟨_,rfl,_,rfl,_,_,zv.rd h8B,zv.rd hhB,rfl,rfl,_,rfl,qo (λ_=>⟨_,rfl,qs,_,_,_,rfl,rfl,.of hsB,at0 ..,_,_,rfl,rfl,_,rfl,qo (λ_=>⟨by show 2<=sizeLine;decide,λz hz=>⟨_,rfl,z,qs,0,xs,rfl,j5 zo,zt.upd hz _ _ hsB,⟨Sz.mono Sk.zero.z (by decide),sks.z.mono (by decide)⟩,λq' G' s' h'=>hnx _ _ ⟨q',0 - xs,rfl,(zt.upd hz).trans s',h',sks.neg⟩⟩⟩) (λ_=>stay)⟩) (λ_=>z7 stay)⟩
  ·intro nx hnx
   have stay:nx [some (.ref p),some (.int 8),some (.ref rl),some (.ref rg),some (.ref rh),some (.int wt),some (.ref r),some (.int (0+(i:Int))),some (.ref q3),some (.ref qs)] GA:=hnx _ _ ⟨q3,x8,rfl,xJ.refl tGA.pool,h8A,pk4⟩
   refine⟨_,rfl,r,us,rfl,.inr (SqT.of hrA),_,_,rfl,rfl,_,rfl,qo (λhl=>?_) (λ_=>z7 stay)⟩
   have hl':0<(us.length:Int):=of_decide_eq_true hl
   refine⟨_,rfl,p,4,rfl,by decide,by decide,tGA.pool,λd GB aB bB tB=>⟨rfl,_,rfl,qo (λ_=>?_) (λ_=>hnx _ _ ⟨q3,x8,rfl,tB,zP tGA.pool tB _ _ h8A,pk4⟩)⟩⟩
   have uB:=zP tGA.pool tB
   refine⟨_,rfl,_,rfl,_,rfl,r,us,rfl,.inr (SqT.of (uB _ _ hrA)),p,_,rfl,hl',by omega,tB.pool,λd2 GC aC bC tC=>?_⟩
   have uC:=zP tB.pool tC
   obtain⟨v,hv⟩:∃v,us[d2.toNat]? = some v:=⟨_,List.getElem?_eq_getElem (by omega)⟩
   have hat:=qX hv
   rw[show ((d2.toNat:Nat):Int)=d2 by omega]at hat
   obtain⟨c,ec,c0,pp,qq,rfl,e1,e2,e3⟩:=rowA.2 _ v hv
   refine⟨r,_,_,_,rfl,rfl,.of (uC _ _ (uB _ _ hrA)),hat,c0,_,_,_,rfl,rfl,.of (uC _ _ (uB _ _ e1)),rfl,?_⟩
   exact hnx _ _ ⟨pp,c.pl,rfl,tB.trans tC,uC _ _ (uB _ _ e2),(bkG c (List.mem_of_getElem? ec)).p⟩
 ·rintro σ G ⟨r,us,bs,y7,y8,y9,rfl,tG,hrG,rowG,bkG,lb,l1⟩
  have tu:=zP T8.pool tG
  have hlo9:=tu _ _ hlo8
  have hh9:=tu _ _ hh8
  have n1:1<=(1+d8).toNat:=by omega
  have n8:(1+d8).toNat<=8:=by omega
  refine⟨_,rfl,_,rfl,by show 2<=sizeLine;decide,λz1 hz1=>?_⟩
  have s1:=zt.upd (o:=.tup [.int 0,.int 1]) hz1
  have e1:upd G z1 (.tup [.int 0,.int 1]) z1=some (.tup [.int 0,.int 1]):=zo
  generalize upd G z1 (.tup [.int 0,.int 1])=K1 at s1 e1
  refine⟨by show 2<=sizeLine;decide,λw1 hw1=>?_⟩
  have s2:=zt.upd (o:=.tup [.ref rl,.ref z1]) hw1
  have e2:upd K1 w1 (.tup [.ref rl,.ref z1]) w1=some (.tup [.ref rl,.ref z1]):=zo
  generalize upd K1 w1 (.tup [.ref rl,.ref z1])=K2 at s2 e2
  refine⟨_,rfl,by show 2<=sizeLine;decide,λz2 hz2=>?_⟩
  have s3:=zt.upd (o:=.tup [.int 0,.int 1]) hz2
  have e3:upd K2 z2 (.tup [.int 0,.int 1]) z2=some (.tup [.int 0,.int 1]):=zo
  generalize upd K2 z2 (.tup [.int 0,.int 1])=K3 at s3 e3
  refine⟨by show 2<=sizeLine;decide,λw2 hw2=>?_⟩
  have s4:=zt.upd (o:=.tup [.ref rh,.ref z2]) hw2
  have e4:upd K3 w2 (.tup [.ref rh,.ref z2]) w2=some (.tup [.ref rh,.ref z2]):=zo
  generalize upd K3 w2 (.tup [.ref rh,.ref z2])=K4 at s4 e4
  refine⟨by show 2<=sizeLine;decide,λa ha=>?_⟩
  have s5:=zt.upd (o:=.tup [.ref w1,.ref w2]) ha
  have e5:upd K4 a (.tup [.ref w1,.ref w2]) a=some (.tup [.ref w1,.ref w2]):=zo
  generalize upd K4 a (.tup [.ref w1,.ref w2])=K5 at s5 e5
  refine⟨by show 2<=sizeLine;decide,λz hz=>?_⟩
  have s6:=zt.upd (o:=.tup [.ref r,.ref a]) hz
  have e6:upd K5 z (.tup [.ref r,.ref a]) z=some (.tup [.ref r,.ref a]):=zo
  generalize upd K5 z (.tup [.ref r,.ref a])=K6 at s6 e6
  have S26:=s3.trans (s4.trans (s5.trans s6))
  have S16:=s2.trans S26
  have S06:=s1.trans S16
  refine k z r a bs lo hi wt K6 ((T8.trans tG).same S06) e6 ⟨⟨us,S06 _ _ hrG,rowG.tups (.of S06)⟩,⟨.ref w1,.ref w2,s6 _ _ e5,⟨w1,rl,z1,rfl,S26 _ _ e2,S06 _ _ hlo9,j5 (S16 _ _ e1)⟩,⟨w2,rh,z2,rfl,(s5.trans s6) _ _ e4,S06 _ _ hh9,j5 ((s4.trans (s5.trans s6)) _ _ e3)⟩⟩,l1 n1,by omega⟩ ⟨l1 n1,by omega,bkG,lh,plo,phi,hwt⟩
end
end KK
end
section
set_option maxHeartbeats 8000000
set_option Elab.async false
set_option linter.all false
set_option maxRecDepth 100000
namespace KK
open PySem L2 KM
theorem qO {m n:Nat}{x y:Rat}(h:Bd m (x.den:Int)) (k:Bd n (y.den:Int)):Bd (m+n) ((x+y).den:Int):=by
 rw[<-KM.XN]
 exact Bd.of_le (j:=x.den*y.den) (by have:=KM.qS (t:=x.num*y.den+y.num*x.den) (b:=x.den*y.den) (Int.mul_ne_zero (KM.zR x) (KM.zR y));omega) (h.mul k)
theorem j8 {n m:Nat}{lo hi q:Rat}(h1:lo<=q) (h2:q<=hi) (a:Bd n lo.num) (b:Bd n hi.num) (c:Bd m (q.den:Int)):Bd (n+m) q.num:=by
 have h1':=(Rat.le_iff lo q).mp h1
 have h2':=(Rat.le_iff q hi).mp h2
 have dq:=den_pos q
 have dl:=den_pos lo
 have dh:=den_pos hi
 rcases Int.lt_or_le q.num 0 with s | s
 ·refine Bd.of_le (j:=lo.num*q.den) ?_ (a.mul c)
  have:q.num*(lo.den:Int)<=q.num*1:=Int.mul_le_mul_of_nonpos_left (by omega) (by omega)
  omega
 ·refine Bd.of_le (j:=hi.num*q.den) ?_ (b.mul c)
  have:q.num*1<=q.num*(hi.den:Int):=Int.mul_le_mul_of_nonneg_left (by omega) s
  omega
theorem JO {c:Nat}{lo hi z:Rat}(h:lo<hi) (a:Bd 20 (lo.den:Int)) (b:Bd 20 (hi.den:Int)) (d:Bd c (z.den:Int)):Bd (c+200) ((zZ lo hi z).den:Int):=by
 have p0:0<hi - lo+(hi - lo):=by grind
 have w:Bd 40 ((hi - lo).den:Int):=qP b a
 have w2:Bd 80 ((hi - lo+(hi - lo)).den:Int):=qO w w
 have zz:Bd (c+20) ((z - lo).den:Int):=qP d a
 have r:Bd (c+20+80) ((rst (z - lo) (hi - lo+(hi - lo))).den:Int):=by
  have nz:((z - lo).den:Int)*(hi - lo+(hi - lo)).den≠0:=Int.mul_ne_zero (KM.zR _) (KM.zR _)
  exact Bd.of_le (j:=(z - lo).den*(hi - lo+(hi - lo)).den) (by have:=KM.qS (t:=((z - lo).num*(hi - lo+(hi - lo)).den) % ((hi - lo+(hi - lo)).num*(z - lo).den)) nz;unfold rst;omega) (zz.mul w2)
 unfold zZ
 split
 ·exact(qO a (qP w2 r)).mono (by omega)
 ·exact(qO a r).mono (by omega)
theorem Pk.sm {x:Rat}(h:Pk x):Sm x:=⟨h.z.1.mono (by decide),h.o.den⟩
theorem Sk.sm {x:Rat}(h:Sk x):Sm x:=⟨h.z.1.mono (by decide),h.o.den⟩
theorem za2 {lo hi z:Rat}(h:lo<hi) (a:Pk lo) (b:Pk hi) (d:Bd 200 (z.den:Int)):Bd 2000 (zZ lo hi z).num/\Bd 400 ((zZ lo hi z).den:Int):=by
 have f:=XA (z:=z) h
 have e:=JO h a.o.den b.o.den d
 exact⟨(j8 f.1 f.2 a.z.1 b.z.1 e).mono (by decide),e⟩
section
variable {P:Program}{w:World}{K:PySem.W.Frag}{mg:Str->Option Value}{base:Heap}{aN:Addr}
structure Ask (H:Hp) (r a sp m tm:Addr) (k:Int) (bs:List Bl) (lo hi v y x:Rat) (wt:Int):Prop where
 ln:Ln H r a bs (some (lo,0)) (some (hi,0))
 ev:Evn bs lo hi wt
 sp:zv H sp v
 sk:Sk v
 k0:0<=k
 k1:k<=bs.length
 t:zv H tm x
 zx:Sz 110 x
 x0:0<=x
 hm:zv H m y
 y0:lo<=y
 y1:y<=hi
 sy:Bd 2000 y.num/\Bd 400 (y.den:Int)
def zcm:Sp:=λvs H Q _=>∃(p:Addr),vs=[.ref p]/\je H p/\∀z r a sp m tm k bs lo hi v y x wt H',xJ p H H'->H' z=some (.tup [.ref r,.ref a,.ref sp,.int k,.ref m,.ref tm])->Ask H' r a sp m tm k bs lo hi v y x wt->Q (.ref z) H'
theorem qf:zD ["pool","row","walls","speed","k","t","begin","place","way"] ["pool"] (zi xY):=⟨rfl,rfl,rfl,by decide +kernel,rfl,by decide +kernel,by decide +kernel⟩
theorem Ln.tups {H H':Hp}{r a:Addr}{bs:List Bl}{lo hi:Wl}(h:Ln H r a bs lo hi) (e:xh H H'):Ln H' r a bs lo hi:=by
 obtain⟨us,h1,h2⟩:=h.row
 obtain⟨v1,v2,g1,g2,g3⟩:=h.walls
 have wk:∀{v:V}{l:Wl},xL H v l->xL H' v l:=λ{v l} q=>by
  cases l with
  | none=>exact q
  | some z=>obtain⟨x,y⟩:=z;obtain⟨a,p,q,e1,e2,e3,e4⟩:=q;exact⟨a,p,q,e1,e _ _ e2,e _ _ e3,e _ _ e4⟩
 exact⟨⟨us,e _ _ h1,h2.tups e⟩,⟨v1,v2,e _ _ g1,wk g2,wk g3⟩,h.l1,h.l8⟩
theorem zbn (D:Df K mg "_law_asking" xY ["pool"] []) (T:TxB K mg) (cN:Cal P w K mg base "_law_next" 1 ["pool","base"] [] jK) (cL:Cal P w K mg base "_law_low" 1 ["top","bottom"] [] qd) (cA:Cal P w K mg base "_law_add" 2 ["a","b"] [] (xK Sz2 (· + ·))) (cBy:Cal P w K mg base "_law_by" 2 ["a","b"] [] (xK Sz2 (· * ·))) (cO:Cal P w K mg base "_law_off" 2 ["a","b"] [] (xK Sz2 (· - ·))) (cSp:Cal P w K mg base "_law_speed" 2 ["pool"] [] zdC) (cEv:Cal P w K mg base "_law_even" 4 ["pool","most"] [] zcp) (cMo:Cal P w K mg base "_law_moment" 3 ["pool"] [] zcs) (cAl:Cal P w K mg base "_law_all" 5 ["row","walls","ball","t"] [] zau) (cLi:Cal P w K mg base "_law_line" 4 ["ball","walls","t"] [] zax) :
  Cal P w K mg base "_law_asking" 6 ["pool"] [] zcm:=by
 refine D.cal (k:=5) qf (λvs H Q E h=>by obtain⟨_,rfl,_⟩:=h;rfl) (λf cdv A outer s H vs Q E hr h=>?_)
 obtain⟨p,rfl,hP,k⟩:=h
 have hr1:xb 1 _:=hr.mono (by decide)
 have hr2:xb 2 _:=hr.mono (by decide)
 have hr3:xb 3 _:=hr.mono (by decide)
 have hr4:xb 4 _:=hr.mono (by decide)
 refine⟨_,(zj (jk (zC cEv hr4 (zd (pv 0) (zd ze zf))) (jj rfl (zM (zG (i:=1) qf.nd rfl (Or.inl rfl)) (zM (zG (i:=2) qf.nd rfl (Or.inl rfl)) xS))))
  (zj (zE (i:=3) qf.nd rfl (Or.inl rfl) (zn zV (qh (zd (zC cSp hr2 (zd (pv 0) zf)) (zd (zC cSp hr2 (zd (pv 0) zf)) (zd (zU (zd ze (zd ze zf))) (zd (zn zm (zn zm (pv 1) ze (λ_ _=>rfl)) ze (λ_ _=>rfl)) zf))))) (zC cN hr1 (zd (pv 0) (zd ze zf))) (λ_ _=>rfl)))
  (zj (zE (i:=4) qf.nd rfl (Or.inl rfl) (zC cN hr1 (zd (pv 0) (zd (zw xt (zL zY (by rfl) T.nLen PySem.boot_len (zd (pv 1) zf)) ze) zf))))
  (zj (zE (i:=5) qf.nd rfl (Or.inl rfl) (zC cMo hr3 (zd (pv 0) zf)))
  (zj (zE (i:=6) qf.nd rfl (Or.inl rfl) (zC cA hr2 (zd (zn zm (zn zm (pv 2) ze (λ_ _=>rfl)) ze (λ_ _=>rfl)) (zd (zC cBy hr2 (zd (zC cO hr2 (zd (zn zm (zn zm (pv 2) ze (λ_ _=>rfl)) ze (λ_ _=>rfl)) (zd (zn zm (zn zm (pv 2) ze (λ_ _=>rfl)) ze (λ_ _=>rfl)) zf))) (zd (zC cL hr1 (zd (zC cN hr1 (zd (pv 0) (zd ze zf))) (zd ze zf))) zf))) zf))))
  (zj (zE (i:=7) qf.nd rfl (Or.inl rfl) (zn zV (zC cAl hr (zd (pv 1) (zd (pv 2) (zd (zU (zd (pv 6) (zd (pv 3) (zd (zn zm (zn zm (pv 1) ze (λ_ _=>rfl)) ze (λ_ _=>rfl)) zf)))) (zd (pv 5) zf))))) (pv 4) (λ_ _=>rfl)))
  (zj (zE (i:=8) qf.nd rfl (Or.inl rfl) (zC cN hr1 (zd (pv 0) (zd ze zf))))
  (zj (xa (zH jc (pv 8) ze (zI _)) (zr (zE (i:=7) qf.nd rfl (Or.inl rfl) (zn zm (zn zm (pv 2) (zC cN hr1 (zd (pv 0) (zd ze zf))) (λ_ _=>rfl)) ze (λ_ _=>rfl)))) zO)
  (zj (xa (zH jc (pv 8) ze (zI _)) (zr (zE (i:=7) qf.nd rfl (Or.inl rfl) (zC cLi hr4 (zd (zn zm (pv 1) (zC cN hr1 (zd (pv 0) (zd (zL zY (by rfl) T.nLen PySem.boot_len (zd (pv 1) zf)) zf))) (λ_ _=>rfl)) (zd (pv 2) (zd (pv 5) zf)))))) zO)
  (zj (xa (zH jc (pv 8) ze (zI _)) (zr (zE (i:=7) qf.nd rfl (Or.inl rfl) (pv 6))) zO)
  (zr (zF (zU (zd (pv 1) (zd (pv 2) (zd (pv 3) (zd (pv 4) (zd (pv 7) (zd (pv 5) zf))))))))))))))))))),?_⟩
 refine⟨_,rfl,p,rfl,hP,λz r a bs lo hi wt G1 t1 hz ln ev=>?_⟩
 refine⟨z,_,rfl,.of hz,rfl,_,_,rfl,_,_,rfl,rfl,?_⟩
 dsimp only[zA]
 clear hz
 have l1:=ev.l1
 have l8:=ev.l8
 obtain⟨us,hr0,rowG⟩:=ln.row
 have hul:=rowG.1
 obtain⟨v0,hv0⟩:∃v0,us[0]? = some v0:=⟨_,List.getElem?_eq_getElem (by omega)⟩
 obtain⟨c,ec,c0,pp,qq,rfl,e1,e2,e3⟩:=rowG.2 0 v0 hv0
 have bc:=ev.b c (List.mem_of_getElem? ec)
 have hat0:atI us 0=some (.ref c0):=qX hv0
 refine⟨_,rfl,p,rfl,t1.pool,λq5 x5 G5 t5 h5 z5 o5=>?_⟩
 refine⟨_,rfl,p,rfl,t5.pool,λq6 x6 G6 t6 h6 z6 o6=>?_⟩
 refine⟨by show 2<=sizeLine;decide,λq7 hq7=>?_⟩
 have s7:=zt.upd (o:=.tup [.int 0,.int 1]) hq7
 have h7:upd G6 q7 (.tup [.int 0,.int 1]) q7=some (.tup [.int 0,.int 1]):=zo
 generalize upd G6 q7 (.tup [.int 0,.int 1])=G7 at s7 h7
 have t67:=t6.same s7
 have t17:=t5.trans t67
 have u17:=zP t1.pool t17
 refine⟨_,rfl,r,_,_,_,rfl,rfl,.of (u17 _ _ hr0),hat0,c0,_,_,_,rfl,rfl,.of (u17 _ _ e1),rfl,?_⟩
 refine⟨by show 4<=sizeLine;decide,λl9 hl9=>?_⟩
 refine⟨_,rfl,p,4,rfl,by decide,by decide,t67.pool.new hl9,λd4 GA a4 b4 tA=>?_⟩
 have tA':=tA.pre (zt.upd (o:=.lst [.ref q5,.ref q6,.ref q7,.ref qq]) hl9)
 obtain⟨y,ey,hy⟩:=zcg (u:=V.ref q5) (v:=.ref q6) (x:=.ref q7) (w:=.ref qq) a4 b4
 have u7A:=zP t67.pool tA'
 obtain⟨qs,xs,rfl,hqs,sks⟩:∃qs xs,y = .ref qs/\zv GA qs xs/\Sk xs:=by
  rcases hy with rfl | rfl | rfl | rfl
  ·exact⟨q5,x5,rfl,u7A _ _ (zP t5.pool t67 _ _ h5),z5.mono (by decide),o5,z5.2.mono (by decide)⟩
  ·exact⟨q6,x6,rfl,u7A _ _ (s7 _ _ h6),z6.mono (by decide),o6,z6.2.mono (by decide)⟩
  ·exact⟨q7,0,rfl,u7A _ _ h7,.zero⟩
  ·exact⟨qq,c.sp,rfl,u7A _ _ (u17 _ _ e3),bc.s⟩
 refine⟨l9,_,_,_,rfl,rfl,.of (tA.keep l9 _ zo (t67.pool.ne hl9)),ey,?_⟩
 dsimp only[zA]
 have t1A:=t17.trans tA'
 have u1A:=zP t1.pool t1A
 have lnA:=ln.tups u1A
 have hrA:=u1A _ _ hr0
 have rowA:=rowG.tups u1A
 have e1A:=u1A _ _ e1
 have TA:=t1.trans t1A
 clear tA tA' u7A hy ey hl9 t67 h7 s7 hq7 t6 h6 z6 o6 t5 h5 z5 o5 t17 u17 u1A t1A t1 hP ln rowG hr0 e1 e2 e3
 refine⟨_,rfl,_,rfl,r,us,rfl,.inr (SqT.of hrA),_,_,rfl,rfl,p,_,rfl,by omega,by omega,TA.pool,λk0 GB ak bk tB=>?_⟩
 dsimp only[zA]
 refine⟨_,rfl,p,rfl,tB.pool,λtm x GC tC htm zx x0=>?_⟩
 dsimp only[zA]
 have tAC:=tB.trans tC
 have uC:=zP TA.pool tAC
 have lnC:=lnA.tups uC
 obtain⟨b',c',pl',ph,p',q',h1,h2,h3,h4,h5⟩:=lnC.ws.w
 have hqsC:=uC _ _ hqs
 have hrC:=uC _ _ hrA
 have rowC:=rowA.tups uC
 have e1C:=uC _ _ e1A
 have TC:=TA.trans tAC
 clear uC tAC tB tC lnA hqs hrA rowA e1A TA
 have zlo:Sz 200 lo:=ev.lo.z.mono (by decide)
 have zhi:Sz 200 hi:=ev.hi.z.mono (by decide)
 refine⟨_,rfl,a,_,_,_,rfl,rfl,.of h1,at0 ..,b',_,_,_,rfl,rfl,.of h2,at0 ..,_,rfl,a,_,_,_,rfl,rfl,.of h1,at1 ..,c',_,_,_,rfl,rfl,.of h3,at0 ..,_,rfl,a,_,_,_,rfl,rfl,.of h1,at0 ..,b',_,_,_,rfl,rfl,.of h2,at0 ..,ph,pl',hi,lo,rfl,h5,h4,⟨zhi.mono (by decide),zlo.mono (by decide)⟩,λg1 GD s1 hg1=>?_⟩
 have hg1:zv GD g1 (hi - lo):=hg1
 have TD:=TC.same s1
 refine⟨_,rfl,p,25,rfl,by decide,by decide,TD.pool,λd5 GE a5 b5 tE=>?_⟩
 refine⟨_,_,rfl,by decide,Bd.mono (m:=6) (bdn (by decide) (by decide)) (by decide),λg2 GF s2 hg2=>?_⟩
 have z24:Sz 6 (Rat.divInt d5 24):=.divInt (by decide) (bdn (by omega) (by omega)) (bdn (by decide) (by decide))
 have zW:Sz 201 (hi - lo):=Sz.sub' ev.hi.z ev.lo.z
 have uDF:=zP TD.pool (tE.same s2)
 refine⟨g1,g2,hi - lo,_,rfl,uDF _ _ hg1,hg2,⟨zW.mono (by decide),z24.mono (by decide)⟩,λg3 GH s3 hg3=>?_⟩
 have zWm:Sz 207 ((hi - lo)*Rat.divInt d5 24):=zW.mul z24
 refine⟨pl',g3,lo,_,rfl,s3 _ _ (uDF _ _ (s1 _ _ h4)),hg3,⟨zlo.mono (by decide),zWm.mono (by decide)⟩,λbg GI s4 hbg=>?_⟩
 have hbg:zv GI bg (lo+(hi - lo)*Rat.divInt d5 24):=hbg
 have f0:0<=Rat.divInt d5 24:=vL (by decide) a5
 have f1:Rat.divInt d5 24<=1:=by
  have:=((qZ (D:=24) (by decide)).le d5 24).mpr (by omega)
  rwa [show Rat.divInt 24 24=1 from rfl]at this
 have lh:=ev.lh
 have b0:lo<=lo+(hi - lo)*Rat.divInt d5 24:=by
  have:=Rat.mul_nonneg (a:=hi - lo) (b:=Rat.divInt d5 24) (by grind) f0
  grind
 have b1:lo+(hi - lo)*Rat.divInt d5 24<=hi:=by
  have:=Rat.mul_le_mul_of_nonneg_left f1 (show 0<=hi - lo by grind)
  grind
 have bd:Bd 46 ((lo+(hi - lo)*Rat.divInt d5 24).den:Int):=qO ev.lo.o.den (jR (ev.hi.o.sub ev.lo.o).den z24.2)
 have bz:Sz 200 (lo+(hi - lo)*Rat.divInt d5 24):=⟨(j8 b0 b1 ev.lo.z.1 ev.hi.z.1 bd).mono (by decide),bd.mono (by decide)⟩
 have tCI:xJ p GC GI:=((xJ.refl TC.pool).same s1).trans ((tE.same s2).same (s3.trans s4))
 have uCI:=zP TC.pool tCI
 have TI:=TC.trans tCI
 have lnI:=lnC.tups uCI
 have hqsI:=uCI _ _ hqsC
 have hrI:=uCI _ _ hrC
 have rowI:=rowC.tups uCI
 have e1I:=uCI _ _ e1C
 have htmI:=uCI _ _ htm
 dsimp only[zA]
 clear uCI tCI uDF tE s1 s2 s3 s4 hg1 hg2 hg3 zWm zW f0 f1 z24 h1 h2 h3 h4 h5 lnC hqsC hrC rowC e1C htm TD TC
 generalize lo+(hi - lo)*Rat.divInt d5 24=bx at *
 refine⟨_,rfl,_,rfl,_,rfl,_,rfl,_,rfl,r,_,_,_,rfl,rfl,.of hrI,hat0,c0,_,_,_,rfl,rfl,.of e1I,rfl,by show 3<=sizeLine;decide,λnb hnb=>?_⟩
 have s5:=zt.upd (o:=.tup [.ref bg,.ref qs,.int c.wt]) hnb
 have e5:upd GI nb (.tup [.ref bg,.ref qs,.int c.wt]) nb=some (.tup [.ref bg,.ref qs,.int c.wt]):=zo
 generalize upd GI nb (.tup [.ref bg,.ref qs,.int c.wt])=GJ at s5 e5
 have zb:∀c∈bs,Jp c:=λc m=>⟨(ev.b c m).p.z.mono (by decide),(ev.b c m).s.z.mono (by decide)⟩
 refine⟨_,rfl,r,a,nb,tm,us,bs,⟨bx,xs,c.wt⟩,lo,hi,x,rfl,s5 _ _ hrI,rowI.tups (.of s5),l8,⟨nb,bg,qs,rfl,e5,s5 _ _ hbg,s5 _ _ hqsI⟩,(lnI.same s5).ws,s5 _ _ htmI,zb,⟨bz.mono (by decide),sks.z.mono (by decide)⟩,zlo,zhi,zx.mono (by decide),lh,λll zs GK s6 hll hG6 hz6 pz sz=>?_⟩
 have zl:=pz.length_eq
 rw[List.length_map,List.length_cons]at zl
 have pll:(xG bs lo hi x).length=bs.length:=by unfold xG;rw[List.length_map]
 obtain⟨zz,hzz⟩:∃zz,zs[k0.toNat]? = some zz:=⟨_,List.getElem?_eq_getElem (by omega)⟩
 have hatk:atI (rfs zs) k0=some (.ref zz.1):=by
  have:=qX (xs:=rfs zs) (j:=k0.toNat) (v:=.ref zz.1) (by unfold rfs;rw[List.getElem?_map,hzz];rfl)
  rwa [show ((k0.toNat:Nat):Int)=k0 by omega]at this
 refine⟨_,rfl,ll,_,_,_,rfl,rfl,.of hG6,hatk,?_⟩
 dsimp only[zA]
 have syL:∀(pl sp:Rat),Bd 50 (pl.den:Int)->Bd 20 (sp.den:Int)->(lo<=zZ lo hi (pl+sp*x)/\zZ lo hi (pl+sp*x)<=hi)/\(Bd 2000 (zZ lo hi (pl+sp*x)).num/\Bd 400 ((zZ lo hi (pl+sp*x)).den:Int)):=λpl sp hp hs=>⟨XA lh,za2 lh ev.lo ev.hi ((qO hp (jR hs zx.2)).mono (by decide))⟩
 have mz:(lo<=zz.2/\zz.2<=hi)/\(Bd 2000 zz.2.num/\Bd 400 (zz.2.den:Int)):=by
  have m:=pz.mem_iff.mp (List.mem_map.mpr ⟨zz,List.mem_of_getElem? hzz,rfl⟩)
  rcases List.mem_cons.mp m with e | m
  ·rw[e];exact syL bx xs (bd.mono (by decide)) sks.o.den
  ·unfold xG at m
   obtain⟨c',mc,e⟩:=List.mem_map.mp m
   rw[<-e];exact syL c'.pl c'.sp ((ev.b c' mc).p.o.den.mono (by decide)) (ev.b c' mc).s.o.den
 have sIK:=s5.trans s6
 have TK:=TI.same sIK
 have lnK:=lnI.same sIK
 have hqsK:=sIK _ _ hqsI
 have htmK:=sIK _ _ htmI
 have hbgK:=sIK _ _ hbg
 have hrK:=sIK _ _ hrI
 have rowK:=rowI.tups (.of sIK)
 have hzK:=(hz6 zz (List.mem_of_getElem? hzz)).1
 clear hz6 pz sz hll hG6 s5 s6 e5 hnb zl hzz hatk TI lnI hqsI htmI hbg hrI rowI
 refine⟨_,rfl,p,5,rfl,by decide,by decide,TK.pool,λwy GL aw bw tL=>?_⟩
 dsimp only[zA]
 have fin:∀(GZ:Hp) (m:Addr) (y:Rat),xJ p GK GZ->zv GZ m y->lo<=y->y<=hi->(Bd 2000 y.num/\Bd 400 (y.den:Int))->∀z,GZ z=none->Q (.ref z) (upd GZ z (.tup [.ref r,.ref a,.ref qs,.int k0,.ref m,.ref tm])):=λGZ m y tZ hm y0 y1 sy z hz=>by
  have sZ:=zt.upd (o:=.tup [.ref r,.ref a,.ref qs,.int k0,.ref m,.ref tm]) hz
  have uZ:xh GK (upd GZ z (.tup [.ref r,.ref a,.ref qs,.int k0,.ref m,.ref tm])):=λb o e=>sZ _ _ (zP TK.pool tZ _ _ e)
  exact k z r a qs m tm k0 bs lo hi xs y x wt _ ((TK.trans tZ).same sZ) zo ⟨lnK.tups uZ,ev,uZ _ _ hqsK,sks,ak,by omega,uZ _ _ htmK,zx,x0,sZ _ _ hm,y0,y1,sy⟩
 have sylo:Bd 2000 lo.num/\Bd 400 (lo.den:Int):=⟨ev.lo.z.1.mono (by decide),ev.lo.z.2.mono (by decide)⟩
 have syhi:Bd 2000 hi.num/\Bd 400 (hi.den:Int):=⟨ev.hi.z.1.mono (by decide),ev.hi.z.2.mono (by decide)⟩
 have sybx:Bd 2000 bx.num/\Bd 400 (bx.den:Int):=⟨bz.1.mono (by decide),bz.2.mono (by decide)⟩
 obtain⟨b',c',pl',ph,p',q',h1,h2,h3,h4,h5⟩:=lnK.ws.w
 refine vA (λσ' G'=>∃m y,σ'=[some (V.ref p),some (.ref r),some (.ref a),some (.ref qs),some (.int k0),some (.ref tm),some (.ref bg),some (.ref m),some (.int wy)]/\xJ p GK G'/\zv G' m y/\lo<=y/\y<=hi/\(Bd 2000 y.num/\Bd 400 (y.den:Int))) ?_ ?_
 ·rintro σ' GM ⟨m,y,rfl,tM,hm,y0,y1,sy⟩
  refine vA (λσ' G'=>∃m y,σ'=[some (V.ref p),some (.ref r),some (.ref a),some (.ref qs),some (.int k0),some (.ref tm),some (.ref bg),some (.ref m),some (.int wy)]/\xJ p GK G'/\zv G' m y/\lo<=y/\y<=hi/\(Bd 2000 y.num/\Bd 400 (y.den:Int))) ?_ ?_
  ·rintro σ' GN ⟨m,y,rfl,tN,hm,y0,y1,sy⟩
   have uN:=zP TK.pool tN
   refine⟨_,rfl,rfl,_,rfl,qo (λ_=>?_) (λ_=>?_)⟩
   ·refine⟨_,rfl,?_⟩
    dsimp only[zA]
    exact⟨_,rfl,_,rfl,_,rfl,_,rfl,_,rfl,_,rfl,by show 6<=sizeLine;decide,fin GN bg bx tN (uN _ _ hbgK) b0 b1 sybx⟩
   ·exact⟨_,rfl,_,rfl,_,rfl,_,rfl,_,rfl,_,rfl,by show 6<=sizeLine;decide,fin GN m y tN hm y0 y1 sy⟩
  ·intro nx hnx
   refine⟨_,rfl,rfl,_,rfl,qo (λ_=>?_) (λ_=>hnx _ _ ⟨m,y,rfl,tM,hm,y0,y1,sy⟩)⟩
   have uM:=zP TK.pool tM
   refine⟨_,rfl,_,rfl,_,rfl,r,us,rfl,.inr (SqT.of (uM _ _ hrK)),p,_,rfl,by omega,by omega,tM.pool,λd2 GC aC bC tC=>?_⟩
   have uC:=zP tM.pool tC
   obtain⟨v,hv⟩:∃v,us[d2.toNat]? = some v:=⟨_,List.getElem?_eq_getElem (by omega)⟩
   have hat:=qX hv
   rw[show ((d2.toNat:Nat):Int)=d2 by omega]at hat
   obtain⟨c,ec,c0,pp,qq,rfl,e1,e2,e3⟩:=rowK.2 _ v hv
   have bc:=ev.b c (List.mem_of_getElem? ec)
   have uKC:xh GK GC:=λb o e=>uC _ _ (uM _ _ e)
   refine⟨r,_,_,_,rfl,rfl,.of (uKC _ _ hrK),hat,_,rfl,_,rfl,c0,a,tm,c,lo,hi,x,rfl,⟨c0,pp,qq,rfl,uKC _ _ e1,uKC _ _ e2,uKC _ _ e3⟩,(lnK.tups uKC).ws,uKC _ _ htmK,bc.p.z.mono (by decide),bc.s.z.mono (by decide),zlo,zhi,zx.mono (by decide),lh,λq GD sD hq _=>?_⟩
   have sL:=syL c.pl c.sp (bc.p.o.den.mono (by decide)) bc.s.o.den
   exact hnx _ _ ⟨q,_,rfl,(tM.trans tC).same sD,hq,sL.1.1,sL.1.2,sL.2⟩
 ·intro nx hnx
  have uL:=zP TK.pool tL
  refine⟨_,rfl,rfl,_,rfl,qo (λ_=>?_) (λ_=>hnx _ _ ⟨zz.1,zz.2,rfl,tL,uL _ _ hzK,mz.1.1,mz.1.2,mz.2⟩)⟩
  refine⟨_,rfl,_,rfl,p,2,rfl,by decide,by decide,tL.pool,λd2 GC aC bC tC=>?_⟩
  have uKC:xh GK GC:=λb o e=>zP tL.pool tC _ _ (uL _ _ e)
  have d01:d2=0\/d2=1:=by omega
  rcases d01 with rfl | rfl
  ·exact⟨a,_,_,_,rfl,rfl,.of (uKC _ _ h1),at0 ..,b',_,_,_,rfl,rfl,.of (uKC _ _ h2),at0 ..,hnx _ _ ⟨pl',lo,rfl,tL.trans tC,uKC _ _ h4,by grind,by grind,sylo⟩⟩
  ·exact⟨a,_,_,_,rfl,rfl,.of (uKC _ _ h1),at1 ..,c',_,_,_,rfl,rfl,.of (uKC _ _ h3),at0 ..,hnx _ _ ⟨ph,hi,rfl,tL.trans tC,uKC _ _ h5,by grind,by grind,syhi⟩⟩
end
end KK
end
section
set_option maxHeartbeats 8000000
set_option Elab.async false
set_option linter.all false
set_option maxRecDepth 100000
namespace KM
def VY (ps:List (Rat×Rat)) (x:Rat):Bool:=ps.any λu=>!decide (x<u.1)&&!decide (u.2<x)
theorem JF (ps:List (Rat×Rat)) (x:Rat):VY ps x=true↔cov ps x:=by
 unfold VY cov
 rw[List.any_eq_true]
 constructor
 ·rintro ⟨u,m,h⟩
  rw[Bool.and_eq_true,Bool.not_eq_true',Bool.not_eq_true',decide_eq_false_iff_not,decide_eq_false_iff_not]at h
  exact⟨u,m,by grind,by grind⟩
 ·rintro ⟨u,m,h1,h2⟩
  refine⟨u,m,?_⟩
  rw[Bool.and_eq_true,Bool.not_eq_true',Bool.not_eq_true',decide_eq_false_iff_not,decide_eq_false_iff_not]
  exact⟨by grind,by grind⟩
theorem ZI {W:List (Rat×Rat)}:∀(ws r:List (Rat×Rat)),(∀w∈ws,w∈W)->(∀p∈r,(∃w∈W,p.1=w.1)/\∃w∈W,p.2=w.2)->∀p∈ws.foldl xn r,(∃w∈W,p.1=w.1)/\∃w∈W,p.2=w.2
 | [],r,_,h=>h
 | w::ws,r,hw,h=>by
  refine ZI ws (xn r w) (λv m=>hw v (List.mem_cons_of_mem _ m)) λp m=>?_
  have hw0:=hw w (List.mem_cons_self ..)
  cases r with
  | nil =>
   obtain rfl:p=w:=by simpa [xn]using m
   exact⟨⟨p,hw0,rfl⟩,⟨p,hw0,rfl⟩⟩
  | cons q r =>
   have m:p∈(if w.1<=q.2 then(q.1,w.2)::r else w::q::r):=m
   split at m
   ·rcases List.mem_cons.mp m with rfl | m
    ·exact⟨(h q (List.mem_cons_self ..)).1,⟨w,hw0,rfl⟩⟩
    ·exact h p (List.mem_cons_of_mem _ m)
   ·rcases List.mem_cons.mp m with rfl | m
    ·exact⟨⟨p,hw0,rfl⟩,⟨p,hw0,rfl⟩⟩
    ·exact h p m
theorem Xo {ws:List (Rat×Rat)}:∀p∈xR ws,(∃w∈ws,p.1=w.1)/\∃w∈ws,p.2=w.2:=λp m=>by
 unfold xR at m
 exact ZI ws [] (λ_ m=>m) (λ_ m=>by cases m) p (List.mem_reverse.mp m)
theorem zdX (a b:Rat):mx a b=a\/mx a b=b:=by unfold mx;split;exact .inl rfl;exact .inr rfl
theorem zdV (a b:Rat):mn a b=a\/mn a b=b:=by unfold mn;split;exact .inl rfl;exact .inr rfl
theorem jB {lo hi g f l:Rat}{w:Rat×Rat}(m:w∈xC lo hi g f l):(w.1=lo\/∃u∈unf lo hi f l,w.1=u.1 - g)/\(w.2=hi\/∃u∈unf lo hi f l,w.2=u.2 - g):=by
 unfold xC at m
 obtain⟨u,mu,rfl⟩:=List.mem_map.mp (List.mem_filter.mp m).1
 constructor
 ·rcases zdX lo (u.1 - g)with e | e
  ·exact .inl e
  ·exact .inr ⟨u,mu,e⟩
 ·rcases zdV hi (u.2 - g)with e | e
  ·exact .inl e
  ·exact .inr ⟨u,mu,e⟩
theorem Xn:∀(ws r:List (Rat×Rat)),(ws.foldl xn r).length<=r.length+ws.length
 | [],r=>Nat.le_refl _
 | w::ws,r=>by
  have h:=Xn ws (xn r w)
  have h2:(xn r w).length<=r.length+1:=by
   cases r with
   | nil=>exact Nat.le_refl _
   | cons p r =>
    show (if w.1<=p.2 then(p.1,w.2)::r else w::p::r).length<=_
    split <;> simp
  show (ws.foldl xn (xn r w)).length<=_
  simp;omega
theorem Ju (ps:List Rat) (lo hi s:Rat) (k:Int) (y:Rat):(xV ps lo hi s k y).length<=3:=by
 unfold xV
 split
 ·simp
 ·next w e =>
  unfold xR
  rw[List.length_reverse]
  have h:=Xn (xC lo hi (rst s (hi - lo+(hi - lo))) w.1 w.2) []
  have h2:(xC lo hi (rst s (hi - lo+(hi - lo))) w.1 w.2).length<=3:=by
   unfold xC
   exact Nat.le_trans (List.length_filter_le _ _) (Nat.le_refl 3)
  simp at h;omega
section
variable {ps:List Rat}{lo hi s y:Rat}{k:Int}
theorem Qf {w:Rat×Rat}(h:lo<hi) (y0:lo<=y) (y1:y<=hi) (e:j4 ps lo hi k y=some w):lo<=w.1/\w.1<=w.2/\w.2<=hi:=by
 unfold j4 at e
 split at e
 ·cases e
  dsimp only
  split <;> split <;> grind
 ·cases e
theorem zaS (h:lo<hi) (y0:lo<=y) (y1:y<=hi):∀p∈xV ps lo hi s k y,p.1<=p.2:=λp m=>by
 unfold xV at m
 split at m
 ·cases m
 ·next w e =>
  have wi:=Qf h y0 y1 e
  exact zbb Qd (Qe h wi.1 wi.2.1 wi.2.2) p m
theorem zaR (h:lo<hi) (y0:lo<=y) (y1:y<=hi):(xV ps lo hi s k y).Pairwise λu v=>u.2<v.1:=by
 unfold xV
 split
 ·exact .nil
 ·next w e =>
  have wi:=Qf h y0 y1 e
  exact zba Qd (Qe h wi.1 wi.2.1 wi.2.2)
theorem Vk (h:lo<hi) (y0:lo<=y) (y1:y<=hi):∀p∈xV ps lo hi s k y,lo<=p.1/\p.1<=p.2/\p.2<=hi:=λp m=>by
 have l:=zaS h y0 y1 p m
 have key:∀x,p.1<=x->x<=p.2->lo<=x/\x<=hi:=λx a b=>by
  have c:cov (xV ps lo hi s k y) x:=⟨p,m,a,b⟩
  unfold xV at c
  split at c
  ·obtain⟨_,m,_⟩:=c;cases m
  ·next w e =>
   have wi:=Qf h y0 y1 e
   exact((Vm h wi.1 wi.2.1 wi.2.2).mp c).1
 exact⟨(key p.1 (by grind) l).1,l,(key p.2 l (by grind)).2⟩
end
end KM
namespace KK
open PySem L2 KM
theorem Js {ps:List Rat}{lo hi s y:Rat}{k:Int}(h:lo<hi) (a:Bd 20 (lo.den:Int)) (b:Bd 20 (hi.den:Int)) (c:Bd 400 (y.den:Int)) (d:Bd 140 (s.den:Int)):∀p∈xV ps lo hi s k y,Bd 700 (p.1.den:Int)/\Bd 700 (p.2.den:Int):=λp m=>by
 unfold xV at m
 split at m
 ·cases m
 ·next w e =>
  obtain⟨wm1,wm2⟩:=ZX e
  have w40:Bd 40 ((hi - lo).den:Int):=qP b a
  have w2:Bd 80 ((hi - lo+(hi - lo)).den:Int):=qO w40 w40
  have r:Bd 220 ((rst s (hi - lo+(hi - lo))).den:Int):=by
   have nz:(s.den:Int)*(hi - lo+(hi - lo)).den≠0:=Int.mul_ne_zero (KM.zR _) (KM.zR _)
   exact Bd.of_le (j:=s.den*(hi - lo+(hi - lo)).den) (by have:=KM.qS (t:=(s.num*(hi - lo+(hi - lo)).den) % ((hi - lo+(hi - lo)).num*s.den)) nz;unfold rst;omega) (d.mul w2)
  have hf:Bd 400 (w.1.den:Int):=by rcases wm1 with e | e <;> rw[e];exact a.mono (by decide);exact c
  have hl:Bd 400 (w.2.den:Int):=by rcases wm2 with e | e <;> rw[e];exact b.mono (by decide);exact c
  have h2:Bd 40 ((hi+hi).den:Int):=qO b b
  generalize rst s (hi - lo+(hi - lo))=g at *
  have us:∀u∈unf lo hi w.1 w.2,Bd 480 (u.1.den:Int)/\Bd 480 (u.2.den:Int):=λu mu=>by
   unfold unf at mu
   rcases List.mem_cons.mp mu with rfl | mu
   ·exact⟨hf.mono (by decide),hl.mono (by decide)⟩
   ·rcases List.mem_cons.mp mu with rfl | mu
    ·exact⟨(qP h2 hl).mono (by decide),(qP h2 hf).mono (by decide)⟩
    ·obtain rfl:=List.mem_singleton.mp mu
     exact⟨qO w2 hf,qO w2 hl⟩
  obtain⟨⟨v1,m1,e1⟩,⟨v2,m2,e2⟩⟩:=Xo p m
  constructor
  ·rw[e1]
   rcases(jB m1).1 with e | ⟨u,mu,e⟩ <;> rw[e]
   ·exact a.mono (by decide)
   ·exact qP (us u mu).1 r
  ·rw[e2]
   rcases(jB m2).2 with e | ⟨u,mu,e⟩ <;> rw[e]
   ·exact b.mono (by decide)
   ·exact qP (us u mu).2 r
theorem zaU {ps:List Rat}{lo hi s y:Rat}{k:Int}(h:lo<hi) (a:Pk lo) (b:Pk hi) (y0:lo<=y) (y1:y<=hi) (c:Bd 400 (y.den:Int)) (d:Bd 140 (s.den:Int)):∀p∈xV ps lo hi s k y,Sz 800 p.1/\Sz 800 p.2:=λp m=>by
 obtain⟨d1,d2⟩:=Js h a.o.den b.o.den c d p m
 obtain⟨i1,i2,i3⟩:=Vk h y0 y1 p m
 exact⟨⟨j8 i1 (by grind) a.z.1 b.z.1 d1,d1.mono (by decide)⟩,⟨j8 (by grind) i3 a.z.1 b.z.1 d2,d2.mono (by decide)⟩⟩
end KK
end
section
set_option maxHeartbeats 8000000
set_option Elab.async false
set_option linter.all false
set_option maxRecDepth 100000
namespace KK
open PySem L2 KM
structure TxA (mg:Str->Option Value):Prop where
 nAny:mg "any" = none
section
variable {P:Program}{w:World}{K:PySem.W.Frag}{mg:Str->Option Value}{base:Heap}{aN:Addr}
def zcq:Sp:=λvs H Q _=>∃m l x ys ps,vs=[.ref m,.ref l]/\zv H m x/\Sz 4000 x/\H l=some (.lst ys)/\PrQ H ys ps/\(∀p∈ps,Sz 4000 p.1/\Sz 4000 p.2)/\ps.length<=8/\∀H',zt H H'->Q (.bl (VY ps x)) H'
theorem zbO:zD ["x","stretches"] ["x","stretches"] (zi xZ):=⟨rfl,rfl,rfl,by decide +kernel,rfl,by decide +kernel,by decide +kernel⟩
theorem zbp (D:Df K mg "_law_inside" xZ ["x","stretches"] []) (TA:TxA mg) (cBl:Cal P w K mg base "_law_below" 1 ["a","b"] [] Z8):Cal P w K mg base "_law_inside" 2 ["x","stretches"] [] zcq:=by
 refine D.cal (k:=1) zbO (λvs H Q E h=>by obtain⟨_,_,_,_,_,rfl,_⟩:=h;rfl) (λf cdv A outer s H vs Q E hr h=>?_)
 obtain⟨m,l,x,ys,ps,rfl,hm,zx,hl,pr,zp,l8,k⟩:=h
 have hyl:=pr.1
 refine⟨_,(zr (zF (zL (JB rfl) (by rfl) TA.nAny (by decide +kernel) (zd (qe (NB:=["one","other"]) (FR:=["x"]) (js:=[0]) rfl rfl (λx c h=>Xy rfl x c h) (.cons rfl rfl rfl ⟨_,rfl⟩ .nil) rfl (by decide +kernel) rfl (by decide +kernel) (xB (pv 1)) (by intro _ _ _;refine⟨?_,?_,?_⟩;(exact(v6 (K:=K) (n:=2) rfl rfl (zM (zG (i:=0) (show List.Nodup (["one","other","x"]:List Str) by decide +kernel) rfl (Or.inl rfl)) (zM (zG (i:=1) (show List.Nodup (["one","other","x"]:List Str) by decide +kernel) rfl (Or.inl rfl)) xS))));(exact xq);(exact(qg (Q7 (zC cBl hr (zd (pv 2) (zd (pv 0) zf)))) (vw (Q7 (zC cBl hr (zd (pv 1) (zd (pv 2) zf))))))))) zf)))),?_⟩
 refine⟨_,rfl,l,rfl,⟨_,SqL.of hl⟩,λD1 hD1=>?_⟩
 refine xM (js:=[0]) (J:=Itl K l) (g:=Z4 K 2 (qR (zA 0) (qR (zA 1) XB))) (te:=_) (n:=2) (xs:=ys) (λi v G=>∃u,ps[i]? = some u/\v = .bl (!decide (x<u.1)&&!decide (u.2<x))) (λi v G G' e h=>h) hD1 (xu hl) (qb (by omega)) ?_ ?_
 ·intro i v zs G Q' hv hz S hQ
  obtain⟨u,a,p,q,eu,rfl,h1,h2,h3⟩:=pr.2 i v hv
  obtain⟨w1,w2,rfl⟩:=QW hz
  have zu:=zp u (List.mem_of_getElem? eu)
  refine⟨a,_,rfl,.of (S _ _ h1),rfl,_,_,rfl,_,_,rfl,rfl,⟨rfl,?_⟩⟩
  refine⟨_,rfl,_,rfl,m,p,x,u.1,rfl,S _ _ hm,S _ _ h2,⟨zx,zu.1⟩,_,rfl,?_⟩
  refine⟨_,rfl,?_⟩
  by_cases c1:x<u.1
  ·rw[decide_eq_true c1]
   exact z7 (hQ _ _ (zt.refl _) ⟨u,eu,by rw[decide_eq_true c1];rfl⟩)
  ·rw[decide_eq_false c1]
   exact xD ⟨_,rfl,_,rfl,q,m,u.2,x,rfl,S _ _ h3,S _ _ hm,⟨zu.2,zx⟩,_,rfl,hQ _ _ (zt.refl _) ⟨u,eu,by rw[decide_eq_false c1];rfl⟩⟩
 intro us G s1 hG hul hR
 have e:us=(ps.map λu=>!decide (x<u.1)&&!decide (u.2<x)).map V.bl:=by
  rw[List.map_map]
  exact Xz (f:=λu:Rat×Rat=>V.bl (!decide (x<u.1)&&!decide (u.2<x))) (by omega) hR
 refine⟨D1,_,rfl,.of (by rw[<-e];exact hG),?_⟩
 have e2:(ps.map λu=>!decide (x<u.1)&&!decide (u.2<x)).any id=VY ps x:=by
  unfold VY;rw[List.any_map];rfl
 rw[e2]
 exact k G s1
theorem zcK (x y:Rat):PyData.eqv (.tuple [.int x.num,.int (x.den:Int)]) (.tuple [.int y.num,.int (y.den:Int)])=decide (x=y):=by
 show (decide (x.num=y.num)&&(decide ((x.den:Int)=(y.den:Int))&&true))=_
 rw[Bool.and_true,<-Bool.decide_and,decide_eq_decide]
 constructor
 ·rintro ⟨a,b⟩;exact Rat.ext a (by omega)
 ·rintro rfl;exact⟨rfl,rfl⟩
theorem Ask.same {H H':Hp}{r a sp m tm:Addr}{k:Int}{bs:List Bl}{lo hi v y x:Rat}{wt:Int}(h:Ask H r a sp m tm k bs lo hi v y x wt) (s:zt H H'):Ask H' r a sp m tm k bs lo hi v y x wt:=⟨h.ln.same s,h.ev,s _ _ h.sp,h.sk,h.k0,h.k1,s _ _ h.t,h.zx,h.x0,s _ _ h.hm,h.y0,h.y1,h.sy⟩
theorem PrQ.same {H H':Hp}{xs:List V}{ps:List (Rat×Rat)} (h:PrQ H xs ps) (s:zt H H'):PrQ H' xs ps:=h.tups (.of s)
theorem zdU {H:Hp}{r a sp m tm:Addr}{k:Int}{bs:List Bl}{lo hi v y x:Rat}{wt:Int}(h:Ask H r a sp m tm k bs lo hi v y x wt){b zs:Rat}{k':Nat}{y':Rat}{ss:List Rat}(y0:lo<=y') (y1:y'<=hi) (pz:ss.Perm (zZ lo hi (b+v*x)::xG bs lo hi x)) (sz:ss.Pairwise (λu v=>u<=v)) (hz:ss[k']? = some zs) (b0:lo<=b) (b1:b<=hi) :
  cov (xV (xG bs lo hi x) lo hi (v*x) k' y') b↔zs=y':=by
 rw[Jt h.ev.lh y0 y1,kth sz hz,Qj pz,Qm pz]
 exact⟨λq=>q.2,λq=>⟨⟨b0,b1⟩,q⟩⟩
end
end KK
end
section
set_option maxHeartbeats 8000000
set_option Elab.async false
set_option linter.all false
set_option maxRecDepth 100000
namespace KK
open PySem L2 KM
def InN (N:Int) (x:Rat):Prop:=∃t:Int,x=Rat.divInt t N
section
variable {N:Int}{x y:Rat}
theorem InN.add (h0:0<N) (h:InN N x) (k:InN N y):InN N (x+y):=by
 obtain⟨a,rfl⟩:=h;obtain⟨b,rfl⟩:=k
 exact⟨a+b,((qZ h0).ad a b).symm⟩
theorem InN.sub (h0:0<N) (h:InN N x) (k:InN N y):InN N (x - y):=by
 obtain⟨a,rfl⟩:=h;obtain⟨b,rfl⟩:=k
 exact⟨a - b,((qZ h0).su a b).symm⟩
theorem InN.more (h:InN N x){c:Int}(c0:c≠0):InN (N*c) x:=by
 obtain⟨a,rfl⟩:=h
 exact⟨a*c,by rw[Rat.divInt_mul_right c0]⟩
theorem InN.own (x:Rat):InN (x.den:Int) x:=⟨x.num,(Rat.num_divInt_den x).symm⟩
theorem InN.den (h0:0<N) (h:InN N x){m:Nat}(b:Bd m N):Bd m (x.den:Int):=by
 obtain⟨a,rfl⟩:=h
 exact b.of_le (by have:=KM.qS (t:=a) (b:=N) (by omega);omega)
theorem InN.half (h0:0<N) (h:InN N x) (k:InN N y):InN (2*N) (Rat.divInt 1 2*(x+y)):=by
 obtain⟨c,e⟩:=InN.add h0 h k
 rw[e,Rat.divInt_mul_divInt,Int.one_mul]
 exact⟨c,rfl⟩
end
theorem zaT {ps:List Rat}{lo hi s y:Rat}{k:Int}(a:On lo) (b:On hi) (c:Bd 400 (y.den:Int)) (d:Bd 140 (s.den:Int)) (h:lo<hi):∃N:Int,0<N/\Bd 660 N/\InN N lo/\InN N hi/\∀p∈xV ps lo hi s k y,InN N p.1/\InN N p.2:=by
 have w40:Bd 40 ((hi - lo).den:Int):=qP b.den a.den
 have w2:Bd 80 ((hi - lo+(hi - lo)).den:Int):=qO w40 w40
 have r:Bd 220 ((rst s (hi - lo+(hi - lo))).den:Int):=by
  have nz:(s.den:Int)*(hi - lo+(hi - lo)).den≠0:=Int.mul_ne_zero (KM.zR _) (KM.zR _)
  exact Bd.of_le (j:=s.den*(hi - lo+(hi - lo)).den) (by have:=KM.qS (t:=(s.num*(hi - lo+(hi - lo)).den) % ((hi - lo+(hi - lo)).num*s.den)) nz;unfold rst;omega) (d.mul w2)
 have b9:Bd 20 (900000:Int):=(show (900000:Int).natAbs<2^20 by decide)
 have yd:=den_pos y
 have gd:=den_pos (rst s (hi - lo+(hi - lo)))
 have A:InN 900000 lo:=a
 have B:InN 900000 hi:=b
 have N1:0<900000*(y.den:Int):=Int.mul_pos (by decide) yd
 have N0:0<900000*(y.den:Int)*((rst s (hi - lo+(hi - lo))).den:Int):=Int.mul_pos N1 gd
 have lo':InN (900000*(y.den:Int)*((rst s (hi - lo+(hi - lo))).den:Int)) lo:=(A.more (c:=(y.den:Int)) (by omega)).more (by omega)
 have hi':InN (900000*(y.den:Int)*((rst s (hi - lo+(hi - lo))).den:Int)) hi:=(B.more (c:=(y.den:Int)) (by omega)).more (by omega)
 have y':InN (900000*(y.den:Int)*((rst s (hi - lo+(hi - lo))).den:Int)) y:=by
  have:=(InN.own y).more (c:=900000) (by decide)
  rw[Int.mul_comm]at this
  exact this.more (by omega)
 have g':InN (900000*(y.den:Int)*((rst s (hi - lo+(hi - lo))).den:Int)) (rst s (hi - lo+(hi - lo))):=by
  have:=(InN.own (rst s (hi - lo+(hi - lo)))).more (c:=900000*(y.den:Int)) (by omega)
  rw[Int.mul_comm]at this
  exact this
 refine⟨900000*(y.den:Int)*((rst s (hi - lo+(hi - lo))).den:Int),N0,((b9.mul c).mul r).mono (by decide),lo',hi',λp m=>?_⟩
 unfold xV at m
 split at m
 ·cases m
 ·next w e =>
  obtain⟨wm1,wm2⟩:=ZX e
  generalize rst s (hi - lo+(hi - lo))=g at *
  generalize 900000*(y.den:Int)*(g.den:Int)=N at *
  have f':InN N w.1:=by rcases wm1 with e | e <;> rw[e] <;> assumption
  have l':InN N w.2:=by rcases wm2 with e | e <;> rw[e] <;> assumption
  have us:∀u∈unf lo hi w.1 w.2,InN N u.1/\InN N u.2:=λu mu=>by
   have W:=InN.sub N0 hi' lo'
   unfold unf at mu
   rcases List.mem_cons.mp mu with rfl | mu
   ·exact⟨f',l'⟩
   ·rcases List.mem_cons.mp mu with rfl | mu
    ·exact⟨(hi'.add N0 hi').sub N0 l',(hi'.add N0 hi').sub N0 f'⟩
    ·obtain rfl:=List.mem_singleton.mp mu
     exact⟨(W.add N0 W).add N0 f',(W.add N0 W).add N0 l'⟩
  obtain⟨⟨v1,m1,e1⟩,⟨v2,m2,e2⟩⟩:=Xo p m
  constructor
  ·rw[e1]
   rcases(jB m1).1 with e | ⟨u,mu,e⟩ <;> rw[e]
   ·exact lo'
   ·exact(us u mu).1.sub N0 g'
  ·rw[e2]
   rcases(jB m2).2 with e | ⟨u,mu,e⟩ <;> rw[e]
   ·exact hi'
   ·exact(us u mu).2.sub N0 g'
section
variable {P:Program}{w:World}{K:PySem.W.Frag}{mg:Str->Option Value}{base:Heap}{aN:Addr}
def zav:Sp:=λvs H Q _=>∃l a ys ps lo hi,vs=[.ref l,.ref a]/\H l=some (.lst ys)/\PrQ H ys ps/\Xv H a lo hi/\Sz 4000 lo/\Sz 4000 hi/\(∀p∈ps,Sz 4000 p.1/\Sz 4000 p.2)/\(∀p∈ps,lo<=p.1/\p.1<=p.2/\p.2<=hi)/\(ps.Pairwise λu v=>u.2<v.1)/\Q (.bl true) H
theorem jX:zD ["found","walls","last","pair"] ["found","walls"] (zi qF):=⟨rfl,rfl,rfl,by decide +kernel,rfl,by decide +kernel,by decide +kernel⟩
theorem J2 (D:Df K mg "_law_good" qF ["found","walls"] []) (T:TxB K mg) (TQ:TxQ K mg) (cIr:Cal P w K mg base "is_ratio" 2 ["thing"] [] zbT) (cBl:Cal P w K mg base "_law_below" 1 ["a","b"] [] Z8):Cal P w K mg base "_law_good" 3 ["found","walls"] [] zav:=by
 refine D.cal (k:=2) jX (λvs H Q E h=>by obtain⟨_,_,_,_,_,_,rfl,_⟩:=h;rfl) (λf cdv A outer s H vs Q E hr h=>?_)
 obtain⟨l,a,ys,ps,lo,hi,rfl,hl,pr,hw,zl,zh,zp,ip,dp,k⟩:=h
 have hr1:xb 1 _:=hr.mono (by decide)
 obtain⟨b',c',pl',ph,p',q',h1,h2,h3,h4,h5⟩:=hw.w
 have hyl:=pr.1
 refine⟨_,(zj (xa (qt (zT (zL qi (by rfl) T.nIs PyProof.Rows.boot_isinstance (zd (pv 0) (zd (ju (v:=.ty "list") (u:=.type "list") (by rfl) TQ.nList PyProof.Rows.boot_list rfl) zf))) λ_=>rfl)) (zr (zF jd)) zO)
  (zj (zE (i:=2) jX.nd rfl (Or.inl rfl) xE)
  (zj (vx PassesOwn.never rfl (xB (pv 0)) (zG (i:=3) jX.nd rfl (Or.inl rfl)) (zj (xa ((vS (qt (zT (zL qi (by rfl) T.nIs PyProof.Rows.boot_isinstance (zd (pv 3) (zd (ju (v:=.ty "tuple") (u:=.type "tuple") (by rfl) T.nTuple PyProof.Rows.boot_tuple rfl) zf))) λ_=>rfl)) (vS (zH zaa (zL zY (by rfl) T.nLen PySem.boot_len (zd (pv 3) zf)) ze (zI _)) (vS (qt (zT (zC cIr hr (zd (zn zm (pv 3) ze (λ_ _=>rfl)) zf)) λ_=>rfl)) (v8 (qt (zT (zC cIr hr (zd (zn zm (pv 3) ze (λ_ _=>rfl)) zf)) λ_=>rfl))))))).pt (zr (zF jd)) zO)
  (zj (xa ((vS (zT (zC cBl hr1 (zd (zn zm (pv 3) ze (λ_ _=>rfl)) (zd (zn zm (pv 3) ze (λ_ _=>rfl)) zf))) λ_=>rfl) (v8 ((vy (zH vE (pv 2) xE (zI _)) (qu (qt (zT (zC cBl hr1 (zd (pv 2) (zd (zn zm (pv 3) ze (λ_ _=>rfl)) zf))) λ_=>rfl))))).pt))).pt (zr (zF jd)) zO)
  (zj (zE (i:=2) jX.nd rfl (Or.inl rfl) (zn zm (pv 3) ze (λ_ _=>rfl)))
  (zr (xa ((vS (zT (zC cBl hr1 (zd (zn zm (pv 3) ze (λ_ _=>rfl)) (zd (zn zm (zn zm (pv 1) ze (λ_ _=>rfl)) ze (λ_ _=>rfl)) zf))) λ_=>rfl) (v8 (zT (zC cBl hr1 (zd (zn zm (zn zm (pv 1) ze (λ_ _=>rfl)) ze (λ_ _=>rfl)) (zd (zn zm (pv 3) ze (λ_ _=>rfl)) zf))) λ_=>rfl)))).pt (zr (zF jd)) zO))))))
  (zr (zF jd))))),?_⟩
 refine⟨_,rfl,_,_,_,true,rfl,.lst hl,rfl,_,rfl,z7 ?_⟩
 dsimp only[zA]
 refine⟨_,rfl,l,rfl,⟨_,SqL.of hl⟩,?_⟩
 refine vM (xs:=ys) (λi σ G=>G=H/\∃v2 v3,σ=[some (.ref l),some (.ref a),some v2,v3]/\((i=0/\v2 = .non)\/∃j u q,i=j+1/\ps[j]? = some u/\v2 = .ref q/\zv H q u.2)) ⟨rfl,.non,none,rfl,.inl ⟨rfl,rfl⟩⟩ (λi σ G _ ⟨s,_⟩=>by rw[s];exact SqL.of hl) ?_ ?_
 ·rintro i w σ G hv ⟨rfl,v2,v3,rfl,hlast⟩
  obtain⟨u,c,p,q,eu,rfl,g1,g2,g3⟩:=pr.2 i w hv
  have zu:=zp u (List.mem_of_getElem? eu)
  have iu:=ip u (List.mem_of_getElem? eu)
  dsimp only[zA]
  refine⟨_,rfl,_,_,_,true,rfl,.tup g1,rfl,_,rfl,z7 ?_⟩
  refine⟨_,rfl,c,_,rfl,.inr (SqT.of g1),rfl,_,rfl,z7 ?_⟩
  refine⟨_,rfl,c,_,_,_,rfl,rfl,.of g1,at0 ..,p,u.1,rfl,g2,_,rfl,z7 ?_⟩
  refine⟨_,rfl,c,_,_,_,rfl,rfl,.of g1,at1 ..,q,u.2,rfl,g3,_,rfl,z7 (zbV ?_)⟩
  dsimp only
  refine vA (λσ' G'=>G'=G/\σ'=[some (V.ref l),some (.ref a),some v2,some (.ref c)]) ?_ ?_
  ·rintro σ' G' ⟨rfl,rfl⟩
   refine⟨_,rfl,c,_,_,_,rfl,rfl,.of g1,at1 ..,?_⟩
   dsimp only[zA]
   refine⟨_,rfl,c,_,_,_,rfl,rfl,.of g1,at0 ..,_,rfl,a,_,_,_,rfl,rfl,.of h1,at0 ..,b',_,_,_,rfl,rfl,.of h2,at0 ..,p,pl',u.1,lo,rfl,g2,h4,⟨zu.1,zl⟩,_,rfl,?_⟩
   rw[decide_eq_false (show ¬u.1<lo by grind)]
   refine z7 ⟨_,rfl,a,_,_,_,rfl,rfl,.of h1,at1 ..,c',_,_,_,rfl,rfl,.of h3,at0 ..,_,rfl,c,_,_,_,rfl,rfl,.of g1,at1 ..,ph,q,hi,u.2,rfl,h5,g3,⟨zh,zu.2⟩,_,rfl,?_⟩
   rw[decide_eq_false (show ¬hi<u.2 by grind)]
   exact z7 ⟨rfl,_,_,rfl,.inr ⟨i,u,q,rfl,eu,rfl,g3⟩⟩
  ·intro nx hnx
   have stay:=hnx _ _ ⟨rfl,rfl⟩
   refine⟨_,rfl,c,_,_,_,rfl,rfl,.of g1,at1 ..,_,rfl,c,_,_,_,rfl,rfl,.of g1,at0 ..,q,p,u.2,u.1,rfl,g3,g2,⟨zu.2,zu.1⟩,_,rfl,?_⟩
   rw[decide_eq_false (show ¬u.2<u.1 by grind)]
   refine z7 ?_
   rcases hlast with⟨_,rfl⟩ | ⟨j,u0,q0,rfl,eu0,rfl,hq0⟩
   ·exact⟨_,rfl,rfl,_,rfl,z7 (z7 stay)⟩
   ·have lt:u0.2<u.1:=by
     have hj:=(List.getElem?_eq_some_iff.mp eu0)
     have hi2:=(List.getElem?_eq_some_iff.mp eu)
     obtain⟨b1,b2⟩:=hj
     obtain⟨c1,c2⟩:=hi2
     have:=List.pairwise_iff_getElem.mp dp j (j+1) b1 c1 (by omega)
     rw[b2,c2]at this;exact this
    refine⟨_,rfl,rfl,_,rfl,xD ⟨_,rfl,_,rfl,c,_,_,_,rfl,rfl,.of g1,at0 ..,q0,p,u0.2,u.1,rfl,hq0,g2,⟨(zp u0 (List.mem_of_getElem? eu0)).2,zu.1⟩,_,rfl,?_⟩⟩
    rw[decide_eq_true lt]
    exact z7 stay
 ·rintro σ G ⟨rfl,v2,v3,rfl,_⟩
  exact k
theorem zai {k1 k2:Bool}{H:Hp}{a b:Addr}{xs ys:List V}(ha:HSq k1 H a xs) (hb:HSq k2 H b ys) (e:ys.length<=xs.length):zb4 (zaO k1 k2 K a b) H ys.length xs ys :=
 ⟨λi H' hi s=>⟨xs,ys,xs[i],ys[i],(ha.same s).sq,(hb.same s).sq,List.getElem?_eq_getElem _,by simp[hi]⟩,λH' s=>⟨xs,ys,(ha.same s).sq,(hb.same s).sq,.inr (Nat.le_refl _)⟩,
  λi v H2 H3 s ⟨T,x,y,z,h1,h2,h3,h4⟩=>⟨T,x,y,z,h1,h2,h3 xs (ha.same s).sq,h4 ys (hb.same s).sq⟩⟩
theorem VU {D:Addr}{n N:Nat}{lo:Int}{js:List Nat}{σ:St}{g:TG}{te:TE}{Z:Hp->Prop}{H:Hp}(R:Nat->V->Hp->Prop) (hR:∀i v H H',xh H H'->R i v H->R i v H') (hD:H D=none) (hl:N<sizeLine)
  (hs:∀(i:Nat) (zs:St) (H2:Hp) (Q':VK),i<N->zs.length=n->zt H H2->(∀v H6,zt H2 H6->R i v H6->Q' v H6)->g (.int (lo+i)) (zs++qm σ js) H2 λσ4 H4=>σ4.drop n=qm σ js/\te σ4 H4 Q')
  (k:∀ys H',zt H H'->H' D=some (.lst ys)->ys.length=N->(∀i v,ys[i]? = some v->R i v H')->Z H') :
  ∃W:Nat->Nat->Hp->List V->Prop,(∃m,W 0 m (upd H D (.lst [])) [])/\∀i m H2 ys,W i m H2 ys->H2 D=some (.lst ys)->((Itr lo N).stop i H2/\Z H2) ∨
   ((Itr lo N).go i H2/\∀zs x H3,zs.length=n->(Itr lo N).yld i H2 x H3->g x (zs++qm σ js) H3 λσ4 H4=>σ4.drop n=qm σ js/\(λ_ H Q=>Q true H:TT) σ4 H4 λb H5=>if b=true then te σ4 H5 (λv H6=>H6 D=some (.lst ys)/\ys.length<sizeLine/\∃m',m'<m/\W (i+1) m' (upd H6 D (.lst (ys++[v]))) (ys++[v]))
    else H5 D=some (.lst ys)/\∃m',m'<m/\W (i+1) m' H5 ys):=by
 refine jf (Q:=λ_ H=>Z H) (tt:=λ_ H Q=>Q true H) (N:=N) (λi H2 ys=>zt H H2/\ys.length=i/\∀j v,ys[j]? = some v->R j v H2) ⟨zt.upd hD,rfl,λj v e=>by simp at e⟩ (λi H2 ys hi p=>hi) (λH2 ys p=>Nat.le_refl N) ?_ (λH2 ys p e=>k ys H2 p.1 e p.2.1 p.2.2)
 rintro i x zs H2 H3 ys Nx hN hi hz ⟨rfl,rfl⟩ ⟨s2,hyl,hyR⟩ hD2
 refine hs i zs H3 _ hi hz s2 λv H6 s6 r6=>⟨s6 _ _ hD2,by omega,hN _ _ ⟨λc o e=>?_,by simp[hyl],λj u e=>?_⟩⟩
 ·rw[zK (zN e hD)];exact s6 _ _ (s2 _ _ e)
 ·have T6:xh H6 (upd H6 D (.lst (ys++[v]))):=.upd (s6 _ _ hD2)
  by_cases hj:j<ys.length
  ·rw[List.getElem?_append_left hj]at e
   exact hR _ _ _ _ ((xh.of s6).trans T6) (hyR j u e)
  ·rw[List.getElem?_append_right (by omega)]at e
   have:j - ys.length=0:=by
    rcases Nat.eq_zero_or_pos (j - ys.length)with z | z
    ·exact z
    ·rw[List.getElem?_eq_none (by simp;omega)]at e;cases e
   rw[this]at e
   simp at e
   subst e
   rw[show j=i by omega]
   exact hR _ _ _ _ T6 r6
structure Okq (lo hi q:Rat):Prop where
 a:lo<=q
 b:q<=hi
 z:Sz 900 q
def OkL (G:Hp) (lo hi:Rat) (vs:List V):Prop:=∀v∈vs,∃r q,v = .ref r/\zv G r q/\Okq lo hi q
theorem OkL.same {G G':Hp}{lo hi:Rat}{vs:List V}(h:OkL G lo hi vs) (s:zt G G'):OkL G' lo hi vs:=λv m=>by
 obtain⟨r,q,e1,e2,e3⟩:=h v m
 exact⟨r,q,e1,s _ _ e2,e3⟩
theorem OkL.app {G:Hp}{lo hi:Rat}{vs us:List V}(h:OkL G lo hi vs) (k:OkL G lo hi us):OkL G lo hi (vs++us):=λv m=>(List.mem_append.mp m).elim (h v) (k v)
def zct:Sp:=λvs H Q _=>∃l a ys ps lo hi N,vs=[.ref l,.ref a]/\H l=some (.lst ys)/\PrQ H ys ps/\Xv H a lo hi/\lo<hi/\Pk lo/\Pk hi/\0<N/\Bd 660 N/\InN N lo/\InN N hi/\(∀p∈ps,InN N p.1/\InN N p.2)/\(∀p∈ps,lo<=p.1/\p.1<=p.2/\p.2<=hi)/\ps.length<=3 ∧
 ∀z H' vs,zt H H'->H' z=some (.lst vs)->OkL H' lo hi vs->vs.length<=100->Q (.ref z) H'
theorem ja:zD ["found","walls","ends","one","other","some","gap"] ["found","walls"] (zi x4):=⟨rfl,rfl,rfl,by decide +kernel,rfl,by decide +kernel,by decide +kernel⟩
theorem zbs (D:Df K mg "_law_points" x4 ["found","walls"] []) (T:TxB K mg) (TQ:TxQ K mg) (cL:Cal P w K mg base "_law_low" 1 ["top","bottom"] [] qd) (cA:Cal P w K mg base "_law_add" 2 ["a","b"] [] (xK Sz2 (· + ·))) (cBy:Cal P w K mg base "_law_by" 2 ["a","b"] [] (xK Sz2 (· * ·))) (cO:Cal P w K mg base "_law_off" 2 ["a","b"] [] (xK Sz2 (· - ·))) (cSr:Cal P w K mg base "_law_sorted" 2 ["ratios"] [] zay):Cal P w K mg base "_law_points" 3 ["found","walls"] [] zct:=by
 refine D.cal (k:=2) ja (λvs H Q E h=>by obtain⟨_,_,_,_,_,_,_,rfl,_⟩:=h;rfl) (λf cdv A outer s H vs Q E hr2 h=>?_)
 obtain⟨l,a,ys,ps,lo,hi,N,rfl,hl,pr,hw,lh,plo,phi,N0,NB,Nlo,Nhi,Np,ip,l3,k⟩:=h
 have hr1:xb 1 _:=hr2.mono (by decide)
 obtain⟨b',c',pl',ph,p',q',h1,h2,h3,h4,h5⟩:=hw.w
 have hyl:=pr.1
 refine⟨_,(zj (zE (i:=2) ja.nd rfl (Or.inl rfl) (qh (zd (zn zm (zn zm (pv 1) ze (λ_ _=>rfl)) ze (λ_ _=>rfl)) (zd (zn zm (zn zm (pv 1) ze (λ_ _=>rfl)) ze (λ_ _=>rfl)) zf))))
  (zj (vx PassesOwn.never rfl (xB (pv 0)) (jj rfl (zM (zG (i:=3) ja.nd rfl (Or.inl rfl)) (zM (zG (i:=4) ja.nd rfl (Or.inl rfl)) xS))) (zr (vG (Vz PySem.F.plainAttrs_list PySem.F.slot_list_extend PySem.F.type_list_extend Jc (pv 2) (zd (qh (zd (pv 3) (zd (pv 4) zf))) zf)))))
  (zj (zE (i:=2) ja.nd rfl (Or.inl rfl) (zC cSr hr2 (zd (pv 2) zf)))
  (zj (zE (i:=5) ja.nd rfl (Or.inl rfl) (zw XM (pv 2) (qe (NB:=["one","other"]) (FR:=[]) (js:=[]) rfl rfl (λ_ _ h=>by cases h) .nil rfl (by decide +kernel) rfl (by decide +kernel) (zbE (by rfl) TQ.nZip (zd (pv 2) (zd (vO VD (pv 2) (jx ze) jw) zf))) (by intro _ _ _;refine⟨?_,?_,?_⟩;(exact(v6 (K:=K) (n:=2) rfl rfl (zM (zG (i:=0) (show List.Nodup (["one","other"]:List Str) by decide +kernel) rfl (Or.inl rfl)) (zM (zG (i:=1) (show List.Nodup (["one","other"]:List Str) by decide +kernel) rfl (Or.inl rfl)) xS))));(exact xq);(exact(zC cBy hr2 (zd (zU (zd ze (zd ze zf))) (zd (zC cA hr2 (zd (pv 0) (zd (pv 1) zf))) zf))))))))
  (zj (zE (i:=6) ja.nd rfl (Or.inr rfl) (zC cO hr2 (zd (zn zm (zn zm (pv 1) ze (λ_ _=>rfl)) ze (λ_ _=>rfl)) (zd (zn zm (zn zm (pv 1) ze (λ_ _=>rfl)) ze (λ_ _=>rfl)) zf))))
  (zr (zF (zw XM (pv 5) (qe (NB:=["k"]) (FR:=["walls","gap"]) (js:=[1,6]) rfl rfl (λx c h=>QM rfl rfl x c h) (.cons rfl rfl rfl ⟨_,rfl⟩ (.cons rfl rfl rfl ⟨_,rfl⟩ .nil)) rfl (by decide +kernel) rfl (by decide +kernel) (vP rfl T.nRange (zd ze zf)) (by intro _ _ _;refine⟨?_,?_,?_⟩;(exact(zG (i:=0) (show List.Nodup (["k","walls","gap"]:List Str) by decide +kernel) rfl (Or.inl rfl)));(exact xq);(exact(zC cA hr2 (zd (zn (xQ (K:=K) rfl) (zn (xQ (K:=K) rfl) (pv 1) ze (λ_ _=>rfl)) ze (λ_ _=>rfl)) (zd (zC cBy hr2 (zd (pv 2) (zd (zC cL hr1 (zd (pv 0) (zd ze zf))) zf))) zf)))))))))))))),?_⟩
 refine⟨_,rfl,a,_,_,_,rfl,rfl,.of h1,at0 ..,b',_,_,_,rfl,rfl,.of h2,at0 ..,_,rfl,a,_,_,_,rfl,rfl,.of h1,at1 ..,c',_,_,_,rfl,rfl,.of h3,at0 ..,by show 2<=sizeLine;decide,λL hL=>?_⟩
 dsimp only[zA]
 have S0:zt H (upd H L (.lst [.ref pl',.ref ph])):=zt.upd hL
 refine⟨_,rfl,l,rfl,⟨_,SqL.of (S0 _ _ hl)⟩,?_⟩
 refine vM (xs:=ys) (λi σ G=>∃(zs:List AR) (y3 y4:Option V),σ=[some (.ref l),some (.ref a),some (.ref L),y3,y4,none,none]/\zt H G/\G L=some (.lst (rfs zs))/\(∀z∈zs,zv H z.1 z.2/\lo<=z.2/\z.2<=hi/\InN N z.2)/\zs.length=2+2*i) ⟨[(pl',lo),(ph,hi)],none,none,rfl,S0,zo,λz m=>?_,rfl⟩ (λi σ G _ ⟨_,_,_,_,s,_⟩=>SqL.of (s _ _ hl)) ?_ ?_
 ·rcases List.mem_cons.mp m with rfl | m
  ·exact⟨h4,by grind,by grind,Nlo⟩
  ·rw[List.mem_singleton.mp m];exact⟨h5,by grind,by grind,Nhi⟩
 ·rintro i v σ G hv ⟨zs,y3,y4,rfl,sG,hG,hz,zl⟩
  obtain⟨u,c,p,q,eu,rfl,g1,g2,g3⟩:=pr.2 i v hv
  have mu:=List.mem_of_getElem? eu
  have hi':=(List.getElem?_eq_some_iff.mp hv).1
  refine⟨c,_,rfl,.of (sG _ _ g1),rfl,_,_,rfl,_,_,rfl,rfl,?_⟩
  dsimp only[zA]
  refine⟨_,rfl,.inl ⟨rfl,_,SqL.of hG⟩,_,rfl,_,rfl,by show 2<=sizeLine;decide,λt ht=>?_⟩
  have st:=zt.upd (o:=.lst [.ref p,.ref q]) ht
  have hzl:(rfs zs).length=zs.length:=by unfold rfs;rw[List.length_map]
  refine⟨L,t,_,_,rfl,rfl,st _ _ hG,zo,szl (by rw[hzl];simp;omega),?_⟩
  refine⟨zs++[(p,u.1),(q,u.2)],_,_,rfl,λb o e=>?_,?_,λz m=>?_,by simp;omega⟩
  ·rw[zK λz=>by rw[z,hL]at e;cases e];exact st _ _ (sG _ _ e)
  ·rw[zo];unfold rfs;rw[List.map_append];rfl
  ·have iu:=ip u mu
   have nu:=Np u mu
   rcases List.mem_append.mp m with m | m
   ·exact hz z m
   ·rcases List.mem_cons.mp m with rfl | m
    ·exact⟨g2,iu.1,by show u.1<=hi;grind,nu.1⟩
    ·rw[List.mem_singleton.mp m];exact⟨g3,by show lo<=u.2;grind,iu.2.2,nu.2⟩
 rintro σ G ⟨zs,y3,y4,rfl,sG,hG,hz,zl⟩
 have szz:∀q:Rat,lo<=q->q<=hi->InN N q->Sz 800 q:=λq a b c=>by
  have d:=InN.den N0 c NB
  exact⟨(j8 a b plo.z.1 phi.z.1 d).mono (by decide),d.mono (by decide)⟩
 refine⟨_,rfl,L,zs,rfl,hG,λz m=>⟨sG _ _ (hz z m).1,(szz z.2 (hz z m).2.1 (hz z m).2.2.1 (hz z m).2.2.2).mono (by decide)⟩,by omega,λE zs2 G2 s2 hE0 hE pz sz=>?_⟩
 dsimp only[zA]
 have zl2:=pz.length_eq
 have hz2:∀z∈zs2,zv G2 z.1 z.2/\lo<=z.2/\z.2<=hi/\InN N z.2:=λz m=>by
  have:=hz z (pz.mem_iff.mp m)
  exact⟨s2 _ _ (sG _ _ this.1),this.2⟩
 have S2:=sG.trans s2
 clear hz pz sz s2 sG hG
 have rl:(rfs zs2).length=zs2.length:=by unfold rfs;rw[List.length_map]
 refine⟨_,rfl,_,rfl,_,rfl,_,rfl,E,_,rfl,SqL.of hE,λsl hsl=>?_⟩
 have s3:=zt.upd (o:=.lst (jg (rfs zs2) (some 1) none)) hsl
 have e3:upd G2 sl (.lst (jg (rfs zs2) (some 1) none)) sl=some (.lst ((rfs zs2).drop 1)):=by rw[zo];exact congrArg (λx=>some (HO.lst x)) (Xl (rfs zs2) 1)
 generalize upd G2 sl (.lst (jg (rfs zs2) (some 1) none))=G3 at s3 e3
 have hE3:=s3 _ _ hE
 have hz3:∀z∈zs2,zv G3 z.1 z.2/\lo<=z.2/\z.2<=hi/\InN N z.2:=λz m=>⟨s3 _ _ (hz2 z m).1,(hz2 z m).2⟩
 have S3:=S2.trans s3
 clear hz2 s3 S2
 refine⟨false,false,E,sl,rfl,⟨_,SqL.of hE3⟩,⟨_,SqL.of e3⟩,λD1 hD1=>?_⟩
 have r2:Rat.divInt 1 2=1/2:=by decide +kernel
 have z2:Sz 2 (Rat.divInt 1 2):=.divInt (by decide) (show (1:Int).natAbs<2^2 by decide) (show (2:Int).natAbs<2^2 by decide)
 refine VW (js:=[]) (J:=zaO false false K E sl) (g:=Z4 K 2 (qR (zA 0) (qR (zA 1) XB))) (tt:=λ_ H Q=>Q true H) (te:=_) (n:=2) (xs:=rfs zs2) (ys:=(rfs zs2).drop 1) (λ_=>true) (λi v G=>∃r q,v = .ref r/\zv G r q/\Okq lo hi q) (λi v G G' e ⟨r,q,e1,e2,e3⟩=>⟨r,q,e1,e _ _ e2,e3⟩) hD1 (zai (k1:=false) (k2:=false) hE3 e3 (by simp)) (qb (by simp;omega)) ?_ ?_
 ·intro i T x y zs G4 A B ex ey hzs S4 hT hA hB
  obtain⟨w1,w2,rfl⟩:=QW hzs
  have gt:∀{j:Nat}{v:V},(rfs zs2)[j]? = some v->∃z∈zs2,v = .ref z.1:=λ{j v} e=>by
   unfold rfs at e
   rw[List.getElem?_map]at e
   cases hz:zs2[j]? with
   | none=>rw[hz]at e;cases e
   | some z=>rw[hz]at e;cases e;exact⟨z,List.mem_of_getElem? hz,rfl⟩
  obtain⟨za,ma,rfl⟩:=gt ex
  rw[List.getElem?_drop]at ey
  obtain⟨zb,mb,rfl⟩:=gt ey
  obtain⟨ra,a0,a1,aN⟩:=hz3 za ma
  obtain⟨rb,b0,b1,bN⟩:=hz3 zb mb
  have sa:=szz za.2 a0 a1 aN
  have sb:=szz zb.2 b0 b1 bN
  refine⟨T,_,rfl,.of hT,rfl,_,_,rfl,_,_,rfl,rfl,⟨rfl,xD ?_⟩⟩
  refine⟨by show 2<=sizeLine;decide,λt4 ht4=>?_⟩
  have s5:=zt.upd (o:=.tup [.int 1,.int 2]) ht4
  have e5:zv (upd G4 t4 (.tup [.int 1,.int 2])) t4 (Rat.divInt 1 2):=by
   show _=some (HO.tup [.int _,.int _])
   rw[show (Rat.divInt 1 2).num=1 by decide +kernel,show (((Rat.divInt 1 2).den:Nat):Int)=2 by decide +kernel];exact zo
  generalize upd G4 t4 (.tup [.int 1,.int 2])=G5 at s5 e5
  have S5:=S4.trans s5
  refine⟨_,rfl,_,rfl,za.1,zb.1,za.2,zb.2,rfl,S5 _ _ ra,S5 _ _ rb,⟨sa.mono (by decide),sb.mono (by decide)⟩,λq1 G6 s6 h6=>?_⟩
  have sab:Sz 1601 (za.2+zb.2):=sa.add sb
  refine⟨t4,q1,_,_,rfl,s6 _ _ e5,h6,⟨z2.mono (by decide),sab.mono (by decide)⟩,λq2 G7 s7 h7=>hA rfl _ _ (s5.trans (s6.trans s7)) ⟨q2,_,rfl,h7,?_⟩⟩
  have hh:=InN.half N0 aN bN
  have N2:0<2*N:=by omega
  have d2:=InN.den N2 hh (m:=662) ((show Bd 2 (2:Int)from(show (2:Int).natAbs<2^2 by decide)).mul NB |>.mono (by decide))
  have i0:lo<=Rat.divInt 1 2*(za.2+zb.2):=by rw[r2];grind
  have i1:Rat.divInt 1 2*(za.2+zb.2)<=hi:=by rw[r2];grind
  exact⟨i0,i1,⟨(j8 i0 i1 plo.z.1 phi.z.1 d2).mono (by decide),d2.mono (by decide)⟩⟩
 intro us G4 s4 hG4 hul hR
 have okU:OkL G4 lo hi us:=λv m=>by
  obtain⟨j,hj⟩:=List.mem_iff_getElem?.mp m
  have jl:=(List.getElem?_eq_some_iff.mp hj).1
  obtain⟨i,hi'⟩:∃i,(sel (λ_=>true) ((rfs zs2).drop 1).length)[j]? = some i:=⟨_,List.getElem?_eq_getElem (by rw[<-hul];exact jl)⟩
  exact hR j i v hi' hj
 have okE:OkL G4 lo hi (rfs zs2):=λv m=>by
  unfold rfs at m
  obtain⟨z,mz,rfl⟩:=List.mem_map.mp m
  obtain⟨ra,a0,a1,aN⟩:=hz3 z mz
  exact⟨z.1,z.2,rfl,s4 _ _ ra,a0,a1,(szz z.2 a0 a1 aN).mono (by decide)⟩
 have usl:us.length<=20:=by
  rw[hul];unfold sel
  refine Nat.le_trans (List.length_filter_le _ _) ?_
  simp;omega
 refine⟨E,D1,_,_,rfl,rfl,SqL.of (s4 _ _ hE3),SqL.of hG4,szl (by omega),λso hso=>?_⟩
 dsimp only[zA]
 have s5:=zt.upd (o:=.lst (rfs zs2++us)) hso
 have e5:upd G4 so (.lst (rfs zs2++us)) so=some (.lst (rfs zs2++us)):=zo
 generalize upd G4 so (.lst (rfs zs2++us))=G5 at s5 e5
 have ok5:=(OkL.app okE okU).same s5
 have S5:=S3.trans (s4.trans s5)
 clear okE okU hz3 hR hG4 s4 s5 S3 hE3 e3 hso
 refine⟨_,rfl,a,_,_,_,rfl,rfl,.of (S5 _ _ h1),at1 ..,c',_,_,_,rfl,rfl,.of (S5 _ _ h3),at0 ..,_,rfl,a,_,_,_,rfl,rfl,.of (S5 _ _ h1),at0 ..,b',_,_,_,rfl,rfl,.of (S5 _ _ h2),at0 ..,ph,pl',hi,lo,rfl,S5 _ _ h5,S5 _ _ h4,⟨phi.z.mono (by decide),plo.z.mono (by decide)⟩,λg G6 s6 hg=>?_⟩
 have hg:zv G6 g (hi - lo):=hg
 dsimp only[zA]
 have zW:Sz 201 (hi - lo):=Sz.sub' phi.z plo.z
 have S6:=S5.trans s6
 refine⟨_,rfl,_,rfl,by decide,by decide,λD2 hD2=>?_⟩
 refine VU (js:=[1,6]) (lo:=0) (N:=(25:Int).toNat) (g:=zA 0) (te:=_) (n:=1) (λi v G=>∃r q,v = .ref r/\zv G r q/\Okq lo hi q) (λi v G G' e ⟨r,q,e1,e2,e3⟩=>⟨r,q,e1,e _ _ e2,e3⟩) hD2 (vX (by decide)) ?_ ?_
 ·intro i zs G7 Q' hi' hzs S7 hQ
  obtain⟨w1,rfl⟩:=Z6 hzs
  have i25:i<25:=hi'
  have S67:=S6.trans S7
  refine⟨rfl,_,rfl,a,_,_,_,rfl,rfl,.of (S67 _ _ h1),at0 ..,b',_,_,_,rfl,rfl,.of (S67 _ _ h2),at0 ..,_,rfl,_,rfl,_,_,rfl,by decide,Bd.mono (m:=5) (show (24:Int).natAbs<2^5 by decide) (by decide),λq1 G8 s8 h8=>?_⟩
  have z24:Sz 6 (Rat.divInt (0+(i:Int)) 24):=.divInt (by decide) (bdn (by omega) (by omega)) (bdn (by decide) (by decide))
  have f0:0<=Rat.divInt (0+(i:Int)) 24:=vL (by decide) (by omega)
  have f1:Rat.divInt (0+(i:Int)) 24<=1:=by
   have:=((qZ (D:=24) (by decide)).le (0+(i:Int)) 24).mpr (by omega)
   rwa [show Rat.divInt 24 24=1 from rfl]at this
  generalize Rat.divInt (0+(i:Int)) 24=d at *
  refine⟨g,q1,_,_,rfl,s8 _ _ (S7 _ _ hg),h8,⟨zW.mono (by decide),z24.mono (by decide)⟩,λq2 G9 s9 h9=>?_⟩
  have zWm:Sz 207 ((hi - lo)*d):=zW.mul z24
  have s79:=s8.trans s9
  refine⟨pl',q2,lo,_,rfl,s79 _ _ (S67 _ _ h4),h9,⟨plo.z.mono (by decide),zWm.mono (by decide)⟩,λq3 GA sA hA=>hQ _ _ (s79.trans sA) ⟨q3,_,rfl,hA,?_⟩⟩
  have i0:lo<=lo+(hi - lo)*d:=by
   have:=Rat.mul_nonneg (a:=hi - lo) (b:=d) (by grind) f0
   grind
  have i1:lo+(hi - lo)*d<=hi:=by
   have:=Rat.mul_le_mul_of_nonneg_left f1 (show 0<=hi - lo by grind)
   grind
  exact⟨i0,i1,(plo.z.add zWm).mono (by decide)⟩
 intro us2 G7 s7 hG7 hul2 hR2
 have okV:OkL G7 lo hi us2:=λv m=>by
  obtain⟨j,hj⟩:=List.mem_iff_getElem?.mp m
  exact hR2 j v hj
 have ul2:us2.length=25:=hul2
 refine⟨so,D2,_,_,rfl,rfl,SqL.of (s7 _ _ (s6 _ _ e5)),SqL.of hG7,szl (by rw[List.length_append];omega),λz hz=>?_⟩
 have s8:=zt.upd (o:=.lst (rfs zs2++us++us2)) hz
 exact k z _ _ (S6.trans (s7.trans s8)) zo ((OkL.app (ok5.same (s6.trans s7)) okV).same s8) (by rw[List.length_append,List.length_append];omega)
end
end KK
end
section
set_option maxHeartbeats 8000000
set_option Elab.async false
set_option linter.all false
set_option maxRecDepth 100000
namespace KK
open PySem L2 KM
theorem Evn.lnz {bs:List Bl}{lo hi:Rat}{wt:Int}(h:Evn bs lo hi wt):LnZ bs (some (lo,0)) (some (hi,0)):=by
 refine⟨λt m=>?_,λl r e1 e2=>by cases e1;cases e2;exact h.lh⟩
 unfold ths at m
 rcases List.mem_append.mp m with m | m
 ·obtain⟨b,mb,rfl⟩:=List.mem_map.mp m
  exact⟨(h.b b mb).p.sm,(h.b b mb).s.sm⟩
 ·have m:t∈[((lo,0):Rat×Rat)]++[(hi,0)]:=m
  rcases List.mem_append.mp m with m | m
  ·rw[List.mem_singleton.mp m];exact⟨h.lo.sm,Sk.zero.sm⟩
  ·rw[List.mem_singleton.mp m];exact⟨h.hi.sm,Sk.zero.sm⟩
theorem Evn.pl {bs:List Bl}{lo hi:Rat}{wt:Int}(h:Evn bs lo hi wt):∀b0,bs[0]? = some b0->plB (tb b0) (bs.map tb) (some (lo,0)) (some (hi,0))=true:=λb0 h0=>by
 unfold plB evB
 rw[show xc (some (lo,0))=true from decide_eq_true (p:=(0:Rat)=0) rfl,show xc (some (hi,0))=true from decide_eq_true (p:=(0:Rat)=0) rfl,Bool.and_true,Bool.and_true,List.all_eq_true]
 intro b m
 obtain⟨c,mc,rfl⟩:=List.mem_map.mp m
 exact decide_eq_true (by show c.wt=b0.wt;rw[(h.b c mc).w,(h.b b0 (List.mem_of_getElem? h0)).w])
theorem Ask.ak {H:Hp}{r a sp m tm:Addr}{k:Int}{bs:List Bl}{lo hi v y x:Rat}{wt:Int}(h:Ask H r a sp m tm k bs lo hi v y x wt){m':Addr}{y':Rat}(hm:zv H m' y') (sy:Bd 2000 y'.num/\Bd 400 (y'.den:Int)):Qh H r a m' tm bs lo hi x y':=⟨h.ln,h.ev.lnz,h.ev.pl,h.t,h.zx.mono (by decide),hm,sy⟩
theorem Ask.tups {H H':Hp}{r a sp m tm:Addr}{k:Int}{bs:List Bl}{lo hi v y x:Rat}{wt:Int}(h:Ask H r a sp m tm k bs lo hi v y x wt) (s:xh H H'):Ask H' r a sp m tm k bs lo hi v y x wt:=⟨h.ln.tups s,h.ev,s _ _ h.sp,h.sk,h.k0,h.k1,s _ _ h.t,h.zx,h.x0,s _ _ h.hm,h.y0,h.y1,h.sy⟩
theorem JH (ns:List Int) (hl:ns.length<=63) (lo hi:Option Int):∃ms:List Int,jg (ns.map V.int) lo hi=ms.map V.int/\ms.length<=63 :=
 ⟨(ns.drop (HT.sIx (ns.map V.int).length 0 lo)).take (HT.sIx (ns.map V.int).length (ns.map V.int).length hi - HT.sIx (ns.map V.int).length 0 lo),by unfold jg;rw[<-List.map_drop,<-List.map_take],by rw[List.length_take,List.length_drop];omega⟩
def raD (x:Rat):PyData:=.tuple [.int x.num,.int (x.den:Int)]
def prD (u:Rat×Rat):PyData:=.tuple [raD u.1,raD u.2]
theorem Q9 {H:Hp}:∀{xs:List V}{ps:List (Rat×Rat)},PrQ H xs ps->ZB H xs (ps.map prD)
 | [],[],_=>.nil
 | [],_::_,h=>by have:=h.1;simp at this
 | _::_,[],h=>by have:=h.1;simp at this
 | v::xs,u::ps,h=>by
  obtain⟨u',a,p,q,e1,rfl,e3,e4,e5⟩:=h.2 0 v rfl
  cases e1
  exact .cons (.tup e3 (.cons (zv.rd e4) (.cons (zv.rd e5) .nil))) (Q9 ⟨by have:=h.1;simpa using this,λi v e=>by simpa using h.2 (i+1) v (by simpa using e)⟩)
theorem zdp (ps:List (Rat×Rat)):PyData.canLayAll0 (ps.map prD)=true/\PyData.depthAll (ps.map prD)<=2:=by
 induction ps with
 | nil=>exact⟨rfl,Nat.zero_le _⟩
 | cons d ds ih =>
  refine⟨?_,?_⟩
  ·show (PyData.canLay0 (prD d)&&_)=true
   rw[ih.1];rfl
  ·show max (PyData.depth (prD d)) _<=2
   have:PyData.depth (prD d)=2:=rfl
   have:=ih.2;omega
theorem Vc (ps:List (Rat×Rat)):SeqAt.shaped (.list (ps.map prD))=true:=by
 have k:=zdp ps
 have c1:PyData.canLay0 (.list (ps.map prD))=true:=k.1
 have d1:PyData.depth (.list (ps.map prD))<=3:=by show _+1<=3;have:=k.2;omega
 show (_&&decide (_<=64))=true
 rw[c1,decide_eq_true (by omega)];rfl
theorem zbh {H:Hp}{x y:V}{d:PyData}{Q:VK}(h1:RdD H x d) (h2:RdD H y d) (s:SeqAt.shaped d=true) (q:Q (.bl false) H):zem x y H Q :=
 ⟨_,_,h1,h2,s,s,by rw[SeqAt.eqv_refl _ (by have:(_&&decide (_<=64))=true:=s;exact(Bool.and_eq_true_iff.mp this).1)];exact q⟩
def VF (K:PySem.W.Frag):Sp:=λvs H Q _=>∃(a:Addr) (ns:List Int),vs=[.ref a]/\SqL K H a (ns.map V.int)/\ns.length<=63/\∀H',Q (.bl true) H'
theorem qV:zD ["script","cell","row","walls","speed","k","place","t","found","x","leads","kept"] ["script"] (zi s_law):=⟨rfl,rfl,rfl,by decide +kernel,rfl,by decide +kernel,by decide +kernel⟩
section
variable {P:Program}{w:World}{K:PySem.W.Frag}{mg:Str->Option Value}{base:Heap}{aN:Addr}
theorem zc9 {fl:Addr}{fdl:FuncData}(F:Fun K "law" "law" s_law fl fdl) (T:TxB K mg) (TQ:TxQ K mg) (cD:Cal P w K mg base "_law_left" 1 ["cell"] [] zco)
  (cAs:Cal P w K mg base "_law_asking" 6 ["pool"] [] zcm) (cAl:Cal P w K mg base "_law_all" 5 ["row","walls","ball","t"] [] zau) (cIn:Cal P w K mg base "_law_inside" 2 ["x","stretches"] [] zcq) (cGo:Cal P w K mg base "_law_good" 3 ["found","walls"] [] zav) (cPo:Cal P w K mg base "_law_points" 3 ["found","walls"] [] zct) (cAi:Cal P w K mg base "aims" 10 ["row","walls","speed","k","place","t"] [] zex) :
  jN P w K mg base CX0 11 fl fdl ["script"] (VF K):=by
 refine F.ok (k:=10) qV (λvs H Q E h=>by obtain⟨_,_,rfl,_⟩:=h;rfl) (λcdv A outer s H vs Q E hr h=>?_)
 obtain⟨a0,ns,rfl,hS,hlen,kk⟩:=h
 have hr1:xb 1 _:=hr.mono (by decide)
 have hr2:xb 2 _:=hr.mono (by decide)
 have hr3:xb 3 _:=hr.mono (by decide)
 have hr5:xb 5 _:=hr.mono (by decide)
 have hr6:xb 6 _:=hr.mono (by decide)
 have hu:=hr.units
 refine⟨_,(zj (vx PassesOwn.never rfl (xB (zw XM (qh (zd ze zf)) (vO VD (pv 0) jw (jx ze)))) (zG (i:=1) qV.nd rfl (Or.inl rfl)) (zj (jk (zC cAs hr6 (zd (zC cD hr1 (zd (pv 1) zf)) zf)) (jj rfl (zM (zG (i:=2) qV.nd rfl (Or.inl rfl)) (zM (zG (i:=3) qV.nd rfl (Or.inl rfl)) (zM (zG (i:=4) qV.nd rfl (Or.inl rfl)) (zM (zG (i:=5) qV.nd rfl (Or.inl rfl)) (zM (zG (i:=6) qV.nd rfl (Or.inl rfl)) (zM (zG (i:=7) qV.nd rfl (Or.inl rfl)) xS))))))))
  (zj (zE (i:=8) qV.nd rfl (Or.inl rfl) (zC cAi hr (zd (pv 2) (zd (pv 3) (zd (pv 4) (zd (pv 5) (zd (pv 6) (zd (pv 7) zf))))))))
  (zj (xa (qt (zT (zC cGo hr3 (zd (pv 8) (zd (pv 3) zf))) λ_=>rfl)) (zr (zF jd)) zO)
  (zj (vx PassesOwn.never rfl (xB (zC cPo hr3 (zd (pv 8) (zd (pv 3) zf)))) (zG (i:=9) qV.nd rfl (Or.inl rfl)) (zj (zE (i:=10) qV.nd rfl (Or.inl rfl) (va (ZP hu) (zn zV (zC cAl hr5 (zd (pv 2) (zd (pv 3) (zd (zU (zd (pv 9) (zd (pv 4) (zd (zn zm (zn zm (pv 2) ze (λ_ _=>rfl)) ze (λ_ _=>rfl)) zf)))) (zd (pv 7) zf))))) (pv 5) (λ_ _=>rfl)) (pv 6) (zI _)))
  (zr (xa (zH zaa (pv 10) (zC cIn hr2 (zd (pv 9) (zd (pv 8) zf))) (zI _)) (zr (zF jd)) zO))))
  (zj (zE (i:=11) qV.nd rfl (Or.inl rfl) (jv vZ (by rfl) TQ.nList PyProof.Rows.boot_list (zd (pv 8) zf)))
  (zj (vG (Vz PySem.F.plainAttrs_list PySem.F.slot_list_append PySem.F.type_list_append jt (pv 8) (zd ze zf)))
  (zr (xa (zH (zdm hu) (zC cAi hr (zd (pv 2) (zd (pv 3) (zd (pv 4) (zd (pv 5) (zd (pv 6) (zd (pv 7) zf))))))) (pv 11) (zI _)) (zr (zF jd)) zO))))))))) (zr (zF jd))),?_⟩
 obtain⟨ms,hms,hml⟩:=JH ns hlen none (some 5)
 refine⟨by show 1<=sizeLine;decide,λp0 hp0=>⟨_,rfl,_,rfl,a0,_,rfl,(zt.upd hp0).seq hS,λp2 hp2=>?_⟩⟩
 rw[hms]
 refine⟨p0,p2,_,_,rfl,rfl,.of (zt.upd hp2 _ _ zo),.of zo,szl (by simp;omega),λp1 hp1=>?_⟩
 have e6:upd (upd (upd H p0 (.lst [.int 0])) p2 (.lst (ms.map V.int))) p1 (.lst ([.int 0]++ms.map V.int)) p1=some (.lst ((0::ms).map V.int)):=zo
 generalize upd (upd (upd H p0 (.lst [.int 0])) p2 (.lst (ms.map V.int))) p1 (.lst ([.int 0]++ms.map V.int))=G6 at e6
 clear hp0 hp1 hp2
 refine⟨p1,rfl,⟨_,SqL.of e6⟩,?_⟩
 refine vM (xs:=(0::ms).map V.int) (λi σ G=>zt G6 G/\∃y1 y2 y3 y4 y5 y6 y7 y8 y9 y10 y11,σ=[some (.ref a0),y1,y2,y3,y4,y5,y6,y7,y8,y9,y10,y11]) ⟨zt.refl _,_,_,_,_,_,_,_,_,_,_,_,rfl⟩ (λi σ G _ ⟨s,_⟩=>SqL.of (s _ _ e6)) ?_ ?_
 ·rintro i w σ G hw ⟨SG,y1,y2,y3,y4,y5,y6,y7,y8,y9,y10,y11,rfl⟩
  obtain⟨ce,rfl⟩:∃c:Int,w = .int c:=by
   rw[List.getElem?_map]at hw
   cases hc:(0::ms)[i]? with
   | none=>rw[hc]at hw;cases hw
   | some c=>rw[hc]at hw;cases hw;exact⟨c,rfl⟩
  dsimp only[zA]
  refine⟨_,rfl,ce,rfl,λp G1 hp s1 hP=>⟨p,rfl,hP,λz r a sp m tm k bs lo hi v y x wt G2 t2 hz ak=>?_⟩⟩
  refine⟨z,_,rfl,.of hz,rfl,_,_,rfl,_,_,rfl,_,_,rfl,_,_,rfl,_,_,rfl,_,_,rfl,rfl,?_⟩
  dsimp only[zA]
  have S2:zt G6 G2:=λb o e=>t2.keep b o (s1 _ _ (SG _ _ e)) λq=>by have:=SG _ _ e;rw[q,hp]at this;cases this
  clear t2 hz hP s1 hp SG
  have ev:=ak.ev
  have lh:=ev.lh
  have zlo:Sz 200 lo:=ev.lo.z.mono (by decide)
  have zhi:Sz 200 hi:=ev.hi.z.mono (by decide)
  have dvx:Bd 140 ((v*x).den:Int):=(jR ak.sk.o.den ak.zx.2).mono (by decide)
  have psz:=zaU (ps:=xG bs lo hi x) (k:=k) lh ev.lo ev.hi ak.y0 ak.y1 ak.sy.2 dvx
  have psz4:∀p∈xV (xG bs lo hi x) lo hi (v*x) k y,Sz 4000 p.1/\Sz 4000 p.2:=λp m=>⟨(psz p m).1.mono (by decide),(psz p m).2.mono (by decide)⟩
  have pin:=Vk (ps:=xG bs lo hi x) (s:=v*x) (k:=k) lh ak.y0 ak.y1
  have pds:=zaR (ps:=xG bs lo hi x) (s:=v*x) (k:=k) lh ak.y0 ak.y1
  have plen:=Ju (xG bs lo hi x) lo hi (v*x) k y
  obtain⟨N,N0,NB,Nlo,Nhi,Np⟩:=zaT (ps:=xG bs lo hi x) (k:=k) ev.lo.o ev.hi.o ak.sy.2 dvx lh
  refine⟨_,rfl,_,rfl,_,rfl,_,rfl,_,rfl,_,rfl,r,a,m,tm,sp,k,bs,lo,hi,x,y,v,rfl,ak.ak ak.hm ak.sy,ak.sp,ak.sk.sm,ak.k0,ak.k1,ak.y0,ak.y1,λl G3 ys s3 hl0 hl pr=>?_⟩
  dsimp only[zA]
  have ak3:=ak.same s3
  have nl:∀b o,G6 b=some o->b≠l:=λb o e q=>by have:=S2 _ _ e;rw[q,hl0]at this;cases this
  have S3:=S2.trans s3
  clear ak s3 hl0 S2
  refine⟨_,rfl,_,rfl,l,a,ys,_,lo,hi,rfl,hl,pr,ak3.ln.ws,zlo.mono (by decide),zhi.mono (by decide),psz4,pin,pds,_,rfl,z7 ?_⟩
  refine⟨_,rfl,_,rfl,l,a,ys,_,lo,hi,N,rfl,hl,pr,ak3.ln.ws,lh,ev.lo,ev.hi,N0,NB,Nlo,Nhi,Np,pin,plen,λpz G4 vs s4 hpz okv vl=>?_⟩
  have ak4:=ak3.same s4
  have hl4:=s4 _ _ hl
  have pr4:=pr.same s4
  have S4:=S3.trans s4
  clear ak3 hl pr S3 s4
  obtain⟨ps,hps⟩:∃ps,ps=xV (xG bs lo hi x) lo hi (v*x) k y:=⟨_,rfl⟩
  rw[<-hps]at psz4 pr4 plen
  refine⟨pz,rfl,⟨_,SqL.of hpz⟩,?_⟩
  refine vM (xs:=vs) (λi σ G=>zt G4 G/\∃y9 y10 y11,σ=[some (.ref a0),some (.int ce),some (.ref r),some (.ref a),some (.ref sp),some (.int k),some (.ref m),some (.ref tm),some (.ref l),y9,y10,y11]) ⟨zt.refl _,_,_,_,rfl⟩ (λi σ G _ ⟨s,_⟩=>SqL.of (s _ _ hpz)) ?_ ?_
  ·rintro j wv σ G5 hv ⟨s45,y9,y10,y11,rfl⟩
   obtain⟨qx,xx,rfl,hqx,oq⟩:=okv wv (List.mem_of_getElem? hv)
   dsimp only[zA]
   have ak5:=ak4.same s45
   have hx5:=s45 _ _ hqx
   obtain⟨us,hr0,rowG⟩:=ak5.ln.row
   have hul:=rowG.1
   have l1:=ev.l1
   obtain⟨v0,hv0⟩:∃v0,us[0]? = some v0:=⟨_,List.getElem?_eq_getElem (by omega)⟩
   obtain⟨c,ec,c0,pp,qq,rfl,f1,f2,f3⟩:=rowG.2 0 v0 hv0
   have hat0:atI us 0=some (.ref c0):=qX hv0
   refine⟨_,rfl,_,rfl,_,rfl,_,rfl,_,rfl,r,_,_,_,rfl,rfl,.of hr0,hat0,c0,_,_,_,rfl,rfl,.of f1,rfl,by show 3<=sizeLine;decide,λnb hnb=>?_⟩
   have s7:=zt.upd (o:=.tup [.ref qx,.ref sp,.int c.wt]) hnb
   have e7:upd G5 nb (.tup [.ref qx,.ref sp,.int c.wt]) nb=some (.tup [.ref qx,.ref sp,.int c.wt]):=zo
   generalize upd G5 nb (.tup [.ref qx,.ref sp,.int c.wt])=G7 at s7 e7
   have zb:∀c∈bs,Jp c:=λc m=>⟨(ev.b c m).p.z.mono (by decide),(ev.b c m).s.z.mono (by decide)⟩
   refine⟨_,rfl,r,a,nb,tm,us,bs,⟨xx,v,c.wt⟩,lo,hi,x,rfl,s7 _ _ hr0,rowG.tups (.of s7),ev.l8,⟨nb,qx,sp,rfl,e7,s7 _ _ hx5,s7 _ _ ak5.sp⟩,(ak5.ln.same s7).ws,s7 _ _ ak5.t,zb,⟨oq.z.mono (by decide),ak5.sk.z.mono (by decide)⟩,zlo,zhi,ak5.zx.mono (by decide),lh,λll zs G8 s8 hll hG8 hz8 pz sz=>?_⟩
   have zl:=pz.length_eq
   rw[List.length_map,List.length_cons]at zl
   have pll:(xG bs lo hi x).length=bs.length:=by unfold xG;rw[List.length_map]
   have k0:=ak5.k0
   have k1:=ak5.k1
   obtain⟨zz,hzz⟩:∃zz,zs[k.toNat]? = some zz:=⟨_,List.getElem?_eq_getElem (by omega)⟩
   have hatk:atI (rfs zs) k=some (.ref zz.1):=by
    have:=qX (xs:=rfs zs) (j:=k.toNat) (v:=.ref zz.1) (by unfold rfs;rw[List.getElem?_map,hzz];rfl)
    rwa [show ((k.toNat:Nat):Int)=k by omega]at this
   have s78:=s7.trans s8
   refine⟨_,rfl,ll,_,_,_,rfl,rfl,.of hG8,hatk,_,rfl,_,_,zv.rd (hz8 zz (List.mem_of_getElem? hzz)).1,zv.rd (s78 _ _ ak5.hm),rfl,rfl,?_⟩
   rw[zcK]
   dsimp only[zA]
   have ld:=zdU ak5 (b:=xx) (zs:=zz.2) (k':=k.toNat) ak5.y0 ak5.y1 pz sz (by rw[List.getElem?_map,hzz];rfl) oq.a oq.b
   rw[show ((k.toNat:Nat):Int)=k by omega,<-hps]at ld
   have eb:VY ps xx=decide (zz.2=y):=by
    rw[Bool.eq_iff_iff,JF,decide_eq_true_iff];exact ld
   have s48:=s45.trans s78
   refine⟨_,rfl,_,rfl,_,rfl,qx,l,xx,ys,ps,rfl,s78 _ _ hx5,oq.z.mono (by decide),s48 _ _ hl4,pr4.same s48,psz4,by omega,λG9 s9=>?_⟩
   rw[eb]
   refine⟨rfl,_,rfl,?_⟩
   rw[decide_eq_true rfl]
   exact z7 ⟨s48.trans s9,_,_,_,rfl⟩
  rintro σ G5 ⟨s45,y9,y10,y11,rfl⟩
  have ak5:=ak4.same s45
  have hl5:=s45 _ _ hl4
  have pr5:=pr4.same s45
  have S5:=S4.trans s45
  clear ak4 hl4 pr4 S4 s45 okv hpz
  have hyl:=pr5.1
  refine⟨_,rfl,l,ys,rfl,.inl (SqL.of hl5),λD hD=>?_⟩
  dsimp only[zA]
  have s6:=zt.upd (o:=.lst ys) hD
  have e7:upd G5 D (.lst ys) D=some (.lst ys):=zo
  generalize upd G5 D (.lst ys)=G7 at s6 e7
  have hl7:=s6 _ _ hl5
  have hDl:D≠l:=λe=>by rw[e,hl5]at hD;cases hD
  refine⟨_,rfl,.inl ⟨rfl,_,SqL.of hl7⟩,l,_,_,rfl,rfl,hl7,szl (by omega),?_⟩
  have u8:xh G7 (upd G7 l (.lst (ys++[.int 0]))):=λb xs e=>by
   rw[zK λz=>by rw[z,hl7]at e;cases e];exact e
  have e8:upd G7 l (.lst (ys++[.int 0])) D=some (.lst ys):=by rw[zK hDl];exact e7
  have S8:zt G6 (upd G7 l (.lst (ys++[.int 0]))):=λb o e=>by rw[zK (nl b o e)];exact s6 _ _ (S5 _ _ e)
  generalize upd G7 l (.lst (ys++[.int 0]))=G8 at u8 e8 S8
  have ak8:=(ak5.same s6).tups u8
  have pr8:=(pr5.same s6).tups u8
  refine⟨_,rfl,_,rfl,_,rfl,_,rfl,_,rfl,_,rfl,r,a,m,tm,sp,k,bs,lo,hi,x,y,v,rfl,ak8.ak ak8.hm ak8.sy,ak8.sp,ak8.sk.sm,ak8.k0,ak8.k1,ak8.y0,ak8.y1,λl2 G9 ys2 s9 hl0 hl9 pr9=>?_⟩
  rw[<-hps]at pr9
  exact⟨_,rfl,zbh (.lst hl9 (Q9 pr9)) (.lst (s9 _ _ e8) (Q9 (pr8.same s9))) (Vc ps) ⟨_,rfl,z7 ⟨S8.trans s9,_,_,_,_,_,_,_,_,_,_,_,rfl⟩⟩⟩
 ·rintro σ G _
  exact kk _
end
end KK
end
set_option linter.all false
def PySem.W.Fast.tw5905826894230823238:Nat:=0
def PySem.W.Fast.tw6416272488825132097:Nat:=0
def PySem.W.Fast.tw1879122886489580940:Nat:=0
def PySem.W.Fast.tw9778063188170572429:Nat:=0
def PySem.W.Fast.tw2120262672567724476:Nat:=0
def PySem.W.Fast.tw1422235266960925329:Nat:=0
def PySem.W.Fast.tw8970513973134465035:Nat:=0
def PySem.W.Fast.tw14297319934449575270:Nat:=0
def PySem.W.Fast.tw17312043781413657652:Nat:=0
def PySem.W.Fast.tw2332441108052781019:Nat:=0
def PySem.W.Fast.tw5413272930962767370:Nat:=0
def PySem.W.Fast.tw14575173983043522981:Nat:=0
def PySem.W.Fast.tw3749918729960444569:Nat:=0
def PySem.W.Fast.tw16343636104688066340:Nat:=0
def PySem.W.Fast.tw12566607928307201943:Nat:=0
def PySem.W.Fast.tw6681057845926053605:Nat:=0
def PySem.W.Fast.tw2979697176684515414:Nat:=0
def PySem.W.Fast.tw16853899560198325362:Nat:=0
def PySem.W.Fast.tw18313627462368624262:Nat:=0
def PySem.W.Fast.tw13865002723438456029:Nat:=0
def PySem.W.Fast.tw14391788343410697643:Nat:=0
section
set_option maxHeartbeats 8000000
set_option Elab.async false
set_option linter.all false
set_option maxRecDepth 100000
namespace KK
open PySem L2 KM
theorem zcT (K:PySem.W.Frag):PySem.W.kitOne K (.type "int") (.type "int")=some true:=by
 unfold PySem.W.kitOne;rw[if_pos (by decide +kernel)]
theorem zcS (K:PySem.W.Frag):PySem.W.kitOne K (.type "int") (.type "bool")=some false:=by
 with_unfolding_all rfl
theorem zcU (K:PySem.W.Frag):PySem.W.kitOne K (.type "tuple") (.type "tuple")=some true:=by
 unfold PySem.W.kitOne;rw[if_pos (by decide +kernel)]
theorem zcB {l:PySem.W.OpenLaw}{w:World}{K:PySem.W.Frag}{h:Heap}{mg:Str->Option Value}{fa:Addr}(X:K.In h) (G:h.Ns mainGlobals mg) (hfa:mg "law" = some (.ref fa))
  {f0:Addr}{od0 an0:Option Addr}{sl0:Array (Option Value)}{oc0 kV0 dc0 pm0 cd0 ct0:Value}
  (a0:PySem.W.nsIn K mainGlobals "is_whole" = some (some (.ref f0))) (l0:K.lookup f0=some ⟨oc0,od0,.func (PySem.W.fnOf "is_whole" "is_whole" (zB qD) (zy qD) (zi qD) .none kV0 dc0 pm0 an0 cd0 ct0),sl0⟩) (c0:PySem.W.codeIn K cd0 "is_whole" = true) (k0:PySem.W.keepIn K (.ref f0)=true)
  {f1:Addr}{od1 an1:Option Addr}{sl1:Array (Option Value)}{oc1 kV1 dc1 pm1 cd1 ct1:Value}
  (a1:PySem.W.nsIn K mainGlobals "is_tuple" = some (some (.ref f1))) (l1:K.lookup f1=some ⟨oc1,od1,.func (PySem.W.fnOf "is_tuple" "is_tuple" (zB qC) (zy qC) (zi qC) .none kV1 dc1 pm1 an1 cd1 ct1),sl1⟩) (c1:PySem.W.codeIn K cd1 "is_tuple" = true) (k1:PySem.W.keepIn K (.ref f1)=true)
  {f2:Addr}{od2 an2:Option Addr}{sl2:Array (Option Value)}{oc2 kV2 dc2 pm2 cd2 ct2:Value}
  (a2:PySem.W.nsIn K mainGlobals "greatest_divisor" = some (some (.ref f2))) (l2:K.lookup f2=some ⟨oc2,od2,.func (PySem.W.fnOf "greatest_divisor" "greatest_divisor" (zB xg) (zy xg) (zi xg) .none kV2 dc2 pm2 an2 cd2 ct2),sl2⟩) (c2:PySem.W.codeIn K cd2 "greatest_divisor" = true) (k2:PySem.W.keepIn K (.ref f2)=true)
  {f3:Addr}{od3 an3:Option Addr}{sl3:Array (Option Value)}{oc3 kV3 dc3 pm3 cd3 ct3:Value}
  (a3:PySem.W.nsIn K mainGlobals "is_ratio" = some (some (.ref f3))) (l3:K.lookup f3=some ⟨oc3,od3,.func (PySem.W.fnOf "is_ratio" "is_ratio" (zB qA) (zy qA) (zi qA) .none kV3 dc3 pm3 an3 cd3 ct3),sl3⟩) (c3:PySem.W.codeIn K cd3 "is_ratio" = true) (k3:PySem.W.keepIn K (.ref f3)=true)
  {f4:Addr}{od4 an4:Option Addr}{sl4:Array (Option Value)}{oc4 kV4 dc4 pm4 cd4 ct4:Value}{Td4:Addr}{ocd4:Value}{odd4:Option Addr}{tkd4:Tok}{nd4:Nat}{sld4:Array (Option Value)}
  (a4:PySem.W.nsIn K mainGlobals "ratio" = some (some (.ref f4))) (l4:K.lookup f4=some ⟨oc4,od4,.func (PySem.W.fnOf "ratio" "ratio" (zB v9) (zy v9) (zi v9) (.ref Td4) kV4 dc4 pm4 an4 cd4 ct4),sl4⟩) (c4:PySem.W.codeIn K cd4 "ratio" = true) (k4:PySem.W.keepIn K (.ref f4)=true)
  (ld4:K.lookup Td4=some ⟨ocd4,odd4,.seq #[.int 1 tkd4] nd4,sld4⟩)
  {f5:Addr}{od5 an5:Option Addr}{sl5:Array (Option Value)}{oc5 kV5 dc5 pm5 cd5 ct5:Value}
  (a5:PySem.W.nsIn K mainGlobals "minus" = some (some (.ref f5))) (l5:K.lookup f5=some ⟨oc5,od5,.func (PySem.W.fnOf "minus" "minus" (zB jy) (zy jy) (zi jy) .none kV5 dc5 pm5 an5 cd5 ct5),sl5⟩) (c5:PySem.W.codeIn K cd5 "minus" = true) (k5:PySem.W.keepIn K (.ref f5)=true)
  {f6:Addr}{od6 an6:Option Addr}{sl6:Array (Option Value)}{oc6 kV6 dc6 pm6 cd6 ct6:Value}
  (a6:PySem.W.nsIn K mainGlobals "times" = some (some (.ref f6))) (l6:K.lookup f6=some ⟨oc6,od6,.func (PySem.W.fnOf "times" "times" (zB jz) (zy jz) (zi jz) .none kV6 dc6 pm6 an6 cd6 ct6),sl6⟩) (c6:PySem.W.codeIn K cd6 "times" = true) (k6:PySem.W.keepIn K (.ref f6)=true)
  {f7:Addr}{od7 an7:Option Addr}{sl7:Array (Option Value)}{oc7 kV7 dc7 pm7 cd7 ct7:Value}
  (a7:PySem.W.nsIn K mainGlobals "over" = some (some (.ref f7))) (l7:K.lookup f7=some ⟨oc7,od7,.func (PySem.W.fnOf "over" "over" (zB Zf) (zy Zf) (zi Zf) .none kV7 dc7 pm7 an7 cd7 ct7),sl7⟩) (c7:PySem.W.codeIn K cd7 "over" = true) (k7:PySem.W.keepIn K (.ref f7)=true)
  {f8:Addr}{od8 an8:Option Addr}{sl8:Array (Option Value)}{oc8 kV8 dc8 pm8 cd8 ct8:Value}
  (a8:PySem.W.nsIn K mainGlobals "less" = some (some (.ref f8))) (l8:K.lookup f8=some ⟨oc8,od8,.func (PySem.W.fnOf "less" "less" (zB Ze) (zy Ze) (zi Ze) .none kV8 dc8 pm8 an8 cd8 ct8),sl8⟩) (c8:PySem.W.codeIn K cd8 "less" = true) (k8:PySem.W.keepIn K (.ref f8)=true)
  {f9:Addr}{od9 an9:Option Addr}{sl9:Array (Option Value)}{oc9 kV9 dc9 pm9 cd9 ct9:Value}
  (a9:PySem.W.nsIn K mainGlobals "rest_of" = some (some (.ref f9))) (l9:K.lookup f9=some ⟨oc9,od9,.func (PySem.W.fnOf "rest_of" "rest_of" (zB vp) (zy vp) (zi vp) .none kV9 dc9 pm9 an9 cd9 ct9),sl9⟩) (c9:PySem.W.codeIn K cd9 "rest_of" = true) (k9:PySem.W.keepIn K (.ref f9)=true)
  {f10:Addr}{od10 an10:Option Addr}{sl10:Array (Option Value)}{oc10 kV10 dc10 pm10 cd10 ct10:Value}
  (a10:PySem.W.nsIn K mainGlobals "least_multiple" = some (some (.ref f10))) (l10:K.lookup f10=some ⟨oc10,od10,.func (PySem.W.fnOf "least_multiple" "least_multiple" (zB xk) (zy xk) (zi xk) .none kV10 dc10 pm10 an10 cd10 ct10),sl10⟩) (c10:PySem.W.codeIn K cd10 "least_multiple" = true) (k10:PySem.W.keepIn K (.ref f10)=true)
  {f11:Addr}{od11 an11:Option Addr}{sl11:Array (Option Value)}{oc11 kV11 dc11 pm11 cd11 ct11:Value}
  (a11:PySem.W.nsIn K mainGlobals "common_bottom" = some (some (.ref f11))) (l11:K.lookup f11=some ⟨oc11,od11,.func (PySem.W.fnOf "common_bottom" "common_bottom" (zB xw) (zy xw) (zi xw) .none kV11 dc11 pm11 an11 cd11 ct11),sl11⟩) (c11:PySem.W.codeIn K cd11 "common_bottom" = true) (k11:PySem.W.keepIn K (.ref f11)=true)
  {f12:Addr}{od12 an12:Option Addr}{sl12:Array (Option Value)}{oc12 kV12 dc12 pm12 cd12 ct12:Value}
  (a12:PySem.W.nsIn K mainGlobals "track_of" = some (some (.ref f12))) (l12:K.lookup f12=some ⟨oc12,od12,.func (PySem.W.fnOf "track_of" "track_of" (zB qN) (zy qN) (zi qN) .none kV12 dc12 pm12 an12 cd12 ct12),sl12⟩) (c12:PySem.W.codeIn K cd12 "track_of" = true) (k12:PySem.W.keepIn K (.ref f12)=true)
  {f13:Addr}{od13 an13:Option Addr}{sl13:Array (Option Value)}{oc13 kV13 dc13 pm13 cd13 ct13:Value}
  (a13:PySem.W.nsIn K mainGlobals "ticks_of" = some (some (.ref f13))) (l13:K.lookup f13=some ⟨oc13,od13,.func (PySem.W.fnOf "ticks_of" "ticks_of" (zB qM) (zy qM) (zi qM) .none kV13 dc13 pm13 an13 cd13 ct13),sl13⟩) (c13:PySem.W.codeIn K cd13 "ticks_of" = true) (k13:PySem.W.keepIn K (.ref f13)=true)
  {f14:Addr}{od14 an14:Option Addr}{sl14:Array (Option Value)}{oc14 kV14 dc14 pm14 cd14 ct14:Value}
  (a14:PySem.W.nsIn K mainGlobals "is_wall" = some (some (.ref f14))) (l14:K.lookup f14=some ⟨oc14,od14,.func (PySem.W.fnOf "is_wall" "is_wall" (zB vg) (zy vg) (zi vg) .none kV14 dc14 pm14 an14 cd14 ct14),sl14⟩) (c14:PySem.W.codeIn K cd14 "is_wall" = true) (k14:PySem.W.keepIn K (.ref f14)=true)
  {f15:Addr}{od15 an15:Option Addr}{sl15:Array (Option Value)}{oc15 kV15 dc15 pm15 cd15 ct15:Value}
  (a15:PySem.W.nsIn K mainGlobals "is_wall_pair" = some (some (.ref f15))) (l15:K.lookup f15=some ⟨oc15,od15,.func (PySem.W.fnOf "is_wall_pair" "is_wall_pair" (zB xI) (zy xI) (zi xI) .none kV15 dc15 pm15 an15 cd15 ct15),sl15⟩) (c15:PySem.W.codeIn K cd15 "is_wall_pair" = true) (k15:PySem.W.keepIn K (.ref f15)=true)
  {f16:Addr}{od16 an16:Option Addr}{sl16:Array (Option Value)}{oc16 kV16 dc16 pm16 cd16 ct16:Value}
  (a16:PySem.W.nsIn K mainGlobals "is_ball_form" = some (some (.ref f16))) (l16:K.lookup f16=some ⟨oc16,od16,.func (PySem.W.fnOf "is_ball_form" "is_ball_form" (zB xH) (zy xH) (zi xH) .none kV16 dc16 pm16 an16 cd16 ct16),sl16⟩) (c16:PySem.W.codeIn K cd16 "is_ball_form" = true) (k16:PySem.W.keepIn K (.ref f16)=true)
  {f17:Addr}{od17 an17:Option Addr}{sl17:Array (Option Value)}{oc17 kV17 dc17 pm17 cd17 ct17:Value}
  (a17:PySem.W.nsIn K mainGlobals "is_row_form" = some (some (.ref f17))) (l17:K.lookup f17=some ⟨oc17,od17,.func (PySem.W.fnOf "is_row_form" "is_row_form" (zB xP) (zy xP) (zi xP) .none kV17 dc17 pm17 an17 cd17 ct17),sl17⟩) (c17:PySem.W.codeIn K cd17 "is_row_form" = true) (k17:PySem.W.keepIn K (.ref f17)=true)
  {f18:Addr}{od18 an18:Option Addr}{sl18:Array (Option Value)}{oc18 kV18 dc18 pm18 cd18 ct18:Value}
  (a18:PySem.W.nsIn K mainGlobals "is_even" = some (some (.ref f18))) (l18:K.lookup f18=some ⟨oc18,od18,.func (PySem.W.fnOf "is_even" "is_even" (zB vf) (zy vf) (zi vf) .none kV18 dc18 pm18 an18 cd18 ct18),sl18⟩) (c18:PySem.W.codeIn K cd18 "is_even" = true) (k18:PySem.W.keepIn K (.ref f18)=true)
  {f19:Addr}{od19 an19:Option Addr}{sl19:Array (Option Value)}{oc19 kV19 dc19 pm19 cd19 ct19:Value}
  (a19:PySem.W.nsIn K mainGlobals "is_still" = some (some (.ref f19))) (l19:K.lookup f19=some ⟨oc19,od19,.func (PySem.W.fnOf "is_still" "is_still" (zB qB) (zy qB) (zi qB) .none kV19 dc19 pm19 an19 cd19 ct19),sl19⟩) (c19:PySem.W.codeIn K cd19 "is_still" = true) (k19:PySem.W.keepIn K (.ref f19)=true)
  {f20:Addr}{od20 an20:Option Addr}{sl20:Array (Option Value)}{oc20 kV20 dc20 pm20 cd20 ct20:Value}
  (a20:PySem.W.nsIn K mainGlobals "is_plain" = some (some (.ref f20))) (l20:K.lookup f20=some ⟨oc20,od20,.func (PySem.W.fnOf "is_plain" "is_plain" (zB qz) (zy qz) (zi qz) .none kV20 dc20 pm20 an20 cd20 ct20),sl20⟩) (c20:PySem.W.codeIn K cd20 "is_plain" = true) (k20:PySem.W.keepIn K (.ref f20)=true)
  {f21:Addr}{od21 an21:Option Addr}{sl21:Array (Option Value)}{oc21 kV21 dc21 pm21 cd21 ct21:Value}
  (a21:PySem.W.nsIn K mainGlobals "refuse_uneven" = some (some (.ref f21))) (l21:K.lookup f21=some ⟨oc21,od21,.func (PySem.W.fnOf "refuse_uneven" "refuse_uneven" (zB xz) (zy xz) (zi xz) .none kV21 dc21 pm21 an21 cd21 ct21),sl21⟩) (c21:PySem.W.codeIn K cd21 "refuse_uneven" = true) (k21:PySem.W.keepIn K (.ref f21)=true)
  {f22:Addr}{od22 an22:Option Addr}{sl22:Array (Option Value)}{oc22 kV22 dc22 pm22 cd22 ct22:Value}
  (a22:PySem.W.nsIn K mainGlobals "refuse_no_box" = some (some (.ref f22))) (l22:K.lookup f22=some ⟨oc22,od22,.func (PySem.W.fnOf "refuse_no_box" "refuse_no_box" (zB xy) (zy xy) (zi xy) .none kV22 dc22 pm22 an22 cd22 ct22),sl22⟩) (c22:PySem.W.codeIn K cd22 "refuse_no_box" = true) (k22:PySem.W.keepIn K (.ref f22)=true)
  {f23:Addr}{od23 an23:Option Addr}{sl23:Array (Option Value)}{oc23 kV23 dc23 pm23 cd23 ct23:Value}
  (a23:PySem.W.nsIn K mainGlobals "refuse_no_ball" = some (some (.ref f23))) (l23:K.lookup f23=some ⟨oc23,od23,.func (PySem.W.fnOf "refuse_no_ball" "refuse_no_ball" (zB xl) (zy xl) (zi xl) .none kV23 dc23 pm23 an23 cd23 ct23),sl23⟩) (c23:PySem.W.codeIn K cd23 "refuse_no_ball" = true) (k23:PySem.W.keepIn K (.ref f23)=true)
  {f24:Addr}{od24 an24:Option Addr}{sl24:Array (Option Value)}{oc24 kV24 dc24 pm24 cd24 ct24:Value}
  (a24:PySem.W.nsIn K mainGlobals "refuse_no_place" = some (some (.ref f24))) (l24:K.lookup f24=some ⟨oc24,od24,.func (PySem.W.fnOf "refuse_no_place" "refuse_no_place" (zB xi) (zy xi) (zi xi) .none kV24 dc24 pm24 an24 cd24 ct24),sl24⟩) (c24:PySem.W.codeIn K cd24 "refuse_no_place" = true) (k24:PySem.W.keepIn K (.ref f24)=true)
  {f25:Addr}{od25 an25:Option Addr}{sl25:Array (Option Value)}{oc25 kV25 dc25 pm25 cd25 ct25:Value}
  (a25:PySem.W.nsIn K mainGlobals "line_at" = some (some (.ref f25))) (l25:K.lookup f25=some ⟨oc25,od25,.func (PySem.W.fnOf "line_at" "line_at" (zB vo) (zy vo) (zi vo) .none kV25 dc25 pm25 an25 cd25 ct25),sl25⟩) (c25:PySem.W.codeIn K cd25 "line_at" = true) (k25:PySem.W.keepIn K (.ref f25)=true)
  {f26:Addr}{od26 an26:Option Addr}{sl26:Array (Option Value)}{oc26 kV26 dc26 pm26 cd26 ct26:Value}
  (a26:PySem.W.nsIn K mainGlobals "at_once" = some (some (.ref f26))) (l26:K.lookup f26=some ⟨oc26,od26,.func (PySem.W.fnOf "at_once" "at_once" (zB ve) (zy ve) (zi ve) .none kV26 dc26 pm26 an26 cd26 ct26),sl26⟩) (c26:PySem.W.codeIn K cd26 "at_once" = true) (k26:PySem.W.keepIn K (.ref f26)=true)
  {f27:Addr}{od27 an27:Option Addr}{sl27:Array (Option Value)}{oc27 kV27 dc27 pm27 cd27 ct27:Value}
  (a27:PySem.W.nsIn K mainGlobals "wished" = some (some (.ref f27))) (l27:K.lookup f27=some ⟨oc27,od27,.func (PySem.W.fnOf "wished" "wished" (zB vV) (zy vV) (zi vV) .none kV27 dc27 pm27 an27 cd27 ct27),sl27⟩) (c27:PySem.W.codeIn K cd27 "wished" = true) (k27:PySem.W.keepIn K (.ref f27)=true)
  {f28:Addr}{od28 an28:Option Addr}{sl28:Array (Option Value)}{oc28 kV28 dc28 pm28 cd28 ct28:Value}
  (a28:PySem.W.nsIn K mainGlobals "joined" = some (some (.ref f28))) (l28:K.lookup f28=some ⟨oc28,od28,.func (PySem.W.fnOf "joined" "joined" (zB vT) (zy vT) (zi vT) .none kV28 dc28 pm28 an28 cd28 ct28),sl28⟩) (c28:PySem.W.codeIn K cd28 "joined" = true) (k28:PySem.W.keepIn K (.ref f28)=true)
  {f29:Addr}{od29 an29:Option Addr}{sl29:Array (Option Value)}{oc29 kV29 dc29 pm29 cd29 ct29:Value}
  (a29:PySem.W.nsIn K mainGlobals "beginnings" = some (some (.ref f29))) (l29:K.lookup f29=some ⟨oc29,od29,.func (PySem.W.fnOf "beginnings" "beginnings" (zB xX) (zy xX) (zi xX) .none kV29 dc29 pm29 an29 cd29 ct29),sl29⟩) (c29:PySem.W.codeIn K cd29 "beginnings" = true) (k29:PySem.W.keepIn K (.ref f29)=true)
  {f30:Addr}{od30 an30:Option Addr}{sl30:Array (Option Value)}{oc30 kV30 dc30 pm30 cd30 ct30:Value}
  (a30:PySem.W.nsIn K mainGlobals "aims" = some (some (.ref f30))) (l30:K.lookup f30=some ⟨oc30,od30,.func (PySem.W.fnOf "aims" "aims" (zB Zd) (zy Zd) (zi Zd) .none kV30 dc30 pm30 an30 cd30 ct30),sl30⟩) (c30:PySem.W.codeIn K cd30 "aims" = true) (k30:PySem.W.keepIn K (.ref f30)=true)
  {f31:Addr}{od31 an31:Option Addr}{sl31:Array (Option Value)}{oc31 kV31 dc31 pm31 cd31 ct31:Value}
  (a31:PySem.W.nsIn K mainGlobals "_law_left" = some (some (.ref f31))) (l31:K.lookup f31=some ⟨oc31,od31,.func (PySem.W.fnOf "_law_left" "_law_left" (zB qG) (zy qG) (zi qG) .none kV31 dc31 pm31 an31 cd31 ct31),sl31⟩) (c31:PySem.W.codeIn K cd31 "_law_left" = true) (k31:PySem.W.keepIn K (.ref f31)=true)
  {f32:Addr}{od32 an32:Option Addr}{sl32:Array (Option Value)}{oc32 kV32 dc32 pm32 cd32 ct32:Value}
  (a32:PySem.W.nsIn K mainGlobals "_law_next" = some (some (.ref f32))) (l32:K.lookup f32=some ⟨oc32,od32,.func (PySem.W.fnOf "_law_next" "_law_next" (zB qI) (zy qI) (zi qI) .none kV32 dc32 pm32 an32 cd32 ct32),sl32⟩) (c32:PySem.W.codeIn K cd32 "_law_next" = true) (k32:PySem.W.keepIn K (.ref f32)=true)
  {f33:Addr}{od33 an33:Option Addr}{sl33:Array (Option Value)}{oc33 kV33 dc33 pm33 cd33 ct33:Value}
  (a33:PySem.W.nsIn K mainGlobals "_law_wide" = some (some (.ref f33))) (l33:K.lookup f33=some ⟨oc33,od33,.func (PySem.W.fnOf "_law_wide" "_law_wide" (zB qL) (zy qL) (zi qL) .none kV33 dc33 pm33 an33 cd33 ct33),sl33⟩) (c33:PySem.W.codeIn K cd33 "_law_wide" = true) (k33:PySem.W.keepIn K (.ref f33)=true)
  {f34:Addr}{od34 an34:Option Addr}{sl34:Array (Option Value)}{oc34 kV34 dc34 pm34 cd34 ct34:Value}
  (a34:PySem.W.nsIn K mainGlobals "_law_low" = some (some (.ref f34))) (l34:K.lookup f34=some ⟨oc34,od34,.func (PySem.W.fnOf "_law_low" "_law_low" (zB vk) (zy vk) (zi vk) .none kV34 dc34 pm34 an34 cd34 ct34),sl34⟩) (c34:PySem.W.codeIn K cd34 "_law_low" = true) (k34:PySem.W.keepIn K (.ref f34)=true)
  {f35:Addr}{od35 an35:Option Addr}{sl35:Array (Option Value)}{oc35 kV35 dc35 pm35 cd35 ct35:Value}
  (a35:PySem.W.nsIn K mainGlobals "_law_add" = some (some (.ref f35))) (l35:K.lookup f35=some ⟨oc35,od35,.func (PySem.W.fnOf "_law_add" "_law_add" (zB vi) (zy vi) (zi vi) .none kV35 dc35 pm35 an35 cd35 ct35),sl35⟩) (c35:PySem.W.codeIn K cd35 "_law_add" = true) (k35:PySem.W.keepIn K (.ref f35)=true)
  {f36:Addr}{od36 an36:Option Addr}{sl36:Array (Option Value)}{oc36 kV36 dc36 pm36 cd36 ct36:Value}
  (a36:PySem.W.nsIn K mainGlobals "_law_off" = some (some (.ref f36))) (l36:K.lookup f36=some ⟨oc36,od36,.func (PySem.W.fnOf "_law_off" "_law_off" (zB vm) (zy vm) (zi vm) .none kV36 dc36 pm36 an36 cd36 ct36),sl36⟩) (c36:PySem.W.codeIn K cd36 "_law_off" = true) (k36:PySem.W.keepIn K (.ref f36)=true)
  {f37:Addr}{od37 an37:Option Addr}{sl37:Array (Option Value)}{oc37 kV37 dc37 pm37 cd37 ct37:Value}
  (a37:PySem.W.nsIn K mainGlobals "_law_by" = some (some (.ref f37))) (l37:K.lookup f37=some ⟨oc37,od37,.func (PySem.W.fnOf "_law_by" "_law_by" (zB vU) (zy vU) (zi vU) .none kV37 dc37 pm37 an37 cd37 ct37),sl37⟩) (c37:PySem.W.codeIn K cd37 "_law_by" = true) (k37:PySem.W.keepIn K (.ref f37)=true)
  {f38:Addr}{od38 an38:Option Addr}{sl38:Array (Option Value)}{oc38 kV38 dc38 pm38 cd38 ct38:Value}
  (a38:PySem.W.nsIn K mainGlobals "_law_part" = some (some (.ref f38))) (l38:K.lookup f38=some ⟨oc38,od38,.func (PySem.W.fnOf "_law_part" "_law_part" (zB qJ) (zy qJ) (zi qJ) .none kV38 dc38 pm38 an38 cd38 ct38),sl38⟩) (c38:PySem.W.codeIn K cd38 "_law_part" = true) (k38:PySem.W.keepIn K (.ref f38)=true)
  {f39:Addr}{od39 an39:Option Addr}{sl39:Array (Option Value)}{oc39 kV39 dc39 pm39 cd39 ct39:Value}
  (a39:PySem.W.nsIn K mainGlobals "_law_below" = some (some (.ref f39))) (l39:K.lookup f39=some ⟨oc39,od39,.func (PySem.W.fnOf "_law_below" "_law_below" (zB qj) (zy qj) (zi qj) .none kV39 dc39 pm39 an39 cd39 ct39),sl39⟩) (c39:PySem.W.codeIn K cd39 "_law_below" = true) (k39:PySem.W.keepIn K (.ref f39)=true)
  {f40:Addr}{od40 an40:Option Addr}{sl40:Array (Option Value)}{oc40 kV40 dc40 pm40 cd40 ct40:Value}
  (a40:PySem.W.nsIn K mainGlobals "_law_ratio" = some (some (.ref f40))) (l40:K.lookup f40=some ⟨oc40,od40,.func (PySem.W.fnOf "_law_ratio" "_law_ratio" (zB qk) (zy qk) (zi qk) .none kV40 dc40 pm40 an40 cd40 ct40),sl40⟩) (c40:PySem.W.codeIn K cd40 "_law_ratio" = true) (k40:PySem.W.keepIn K (.ref f40)=true)
  {f41:Addr}{od41 an41:Option Addr}{sl41:Array (Option Value)}{oc41 kV41 dc41 pm41 cd41 ct41:Value}
  (a41:PySem.W.nsIn K mainGlobals "_law_speed" = some (some (.ref f41))) (l41:K.lookup f41=some ⟨oc41,od41,.func (PySem.W.fnOf "_law_speed" "_law_speed" (zB ql) (zy ql) (zi ql) .none kV41 dc41 pm41 an41 cd41 ct41),sl41⟩) (c41:PySem.W.codeIn K cd41 "_law_speed" = true) (k41:PySem.W.keepIn K (.ref f41)=true)
  {f42:Addr}{od42 an42:Option Addr}{sl42:Array (Option Value)}{oc42 kV42 dc42 pm42 cd42 ct42:Value}
  (a42:PySem.W.nsIn K mainGlobals "_law_rest" = some (some (.ref f42))) (l42:K.lookup f42=some ⟨oc42,od42,.func (PySem.W.fnOf "_law_rest" "_law_rest" (zB qK) (zy qK) (zi qK) .none kV42 dc42 pm42 an42 cd42 ct42),sl42⟩) (c42:PySem.W.codeIn K cd42 "_law_rest" = true) (k42:PySem.W.keepIn K (.ref f42)=true)
  {f43:Addr}{od43 an43:Option Addr}{sl43:Array (Option Value)}{oc43 kV43 dc43 pm43 cd43 ct43:Value}
  (a43:PySem.W.nsIn K mainGlobals "_law_put" = some (some (.ref f43))) (l43:K.lookup f43=some ⟨oc43,od43,.func (PySem.W.fnOf "_law_put" "_law_put" (zB vn) (zy vn) (zi vn) .none kV43 dc43 pm43 an43 cd43 ct43),sl43⟩) (c43:PySem.W.codeIn K cd43 "_law_put" = true) (k43:PySem.W.keepIn K (.ref f43)=true)
  {f44:Addr}{od44 an44:Option Addr}{sl44:Array (Option Value)}{oc44 kV44 dc44 pm44 cd44 ct44:Value}
  (a44:PySem.W.nsIn K mainGlobals "_law_even" = some (some (.ref f44))) (l44:K.lookup f44=some ⟨oc44,od44,.func (PySem.W.fnOf "_law_even" "_law_even" (zB qE) (zy qE) (zi qE) .none kV44 dc44 pm44 an44 cd44 ct44),sl44⟩) (c44:PySem.W.codeIn K cd44 "_law_even" = true) (k44:PySem.W.keepIn K (.ref f44)=true)
  {f45:Addr}{od45 an45:Option Addr}{sl45:Array (Option Value)}{oc45 kV45 dc45 pm45 cd45 ct45:Value}
  (a45:PySem.W.nsIn K mainGlobals "_law_moment" = some (some (.ref f45))) (l45:K.lookup f45=some ⟨oc45,od45,.func (PySem.W.fnOf "_law_moment" "_law_moment" (zB x3) (zy x3) (zi x3) .none kV45 dc45 pm45 an45 cd45 ct45),sl45⟩) (c45:PySem.W.codeIn K cd45 "_law_moment" = true) (k45:PySem.W.keepIn K (.ref f45)=true)
  {f46:Addr}{od46 an46:Option Addr}{sl46:Array (Option Value)}{oc46 kV46 dc46 pm46 cd46 ct46:Value}
  (a46:PySem.W.nsIn K mainGlobals "_law_line" = some (some (.ref f46))) (l46:K.lookup f46=some ⟨oc46,od46,.func (PySem.W.fnOf "_law_line" "_law_line" (zB qH) (zy qH) (zi qH) .none kV46 dc46 pm46 an46 cd46 ct46),sl46⟩) (c46:PySem.W.codeIn K cd46 "_law_line" = true) (k46:PySem.W.keepIn K (.ref f46)=true)
  {f47:Addr}{od47 an47:Option Addr}{sl47:Array (Option Value)}{oc47 kV47 dc47 pm47 cd47 ct47:Value}
  (a47:PySem.W.nsIn K mainGlobals "_law_sorted" = some (some (.ref f47))) (l47:K.lookup f47=some ⟨oc47,od47,.func (PySem.W.fnOf "_law_sorted" "_law_sorted" (zB qa) (zy qa) (zi qa) .none kV47 dc47 pm47 an47 cd47 ct47),sl47⟩) (c47:PySem.W.codeIn K cd47 "_law_sorted" = true) (k47:PySem.W.keepIn K (.ref f47)=true)
  {f48:Addr}{od48 an48:Option Addr}{sl48:Array (Option Value)}{oc48 kV48 dc48 pm48 cd48 ct48:Value}
  (a48:PySem.W.nsIn K mainGlobals "_law_all" = some (some (.ref f48))) (l48:K.lookup f48=some ⟨oc48,od48,.func (PySem.W.fnOf "_law_all" "_law_all" (zB vj) (zy vj) (zi vj) .none kV48 dc48 pm48 an48 cd48 ct48),sl48⟩) (c48:PySem.W.codeIn K cd48 "_law_all" = true) (k48:PySem.W.keepIn K (.ref f48)=true)
  {f49:Addr}{od49 an49:Option Addr}{sl49:Array (Option Value)}{oc49 kV49 dc49 pm49 cd49 ct49:Value}
  (a49:PySem.W.nsIn K mainGlobals "_law_asking" = some (some (.ref f49))) (l49:K.lookup f49=some ⟨oc49,od49,.func (PySem.W.fnOf "_law_asking" "_law_asking" (zB xY) (zy xY) (zi xY) .none kV49 dc49 pm49 an49 cd49 ct49),sl49⟩) (c49:PySem.W.codeIn K cd49 "_law_asking" = true) (k49:PySem.W.keepIn K (.ref f49)=true)
  {f50:Addr}{od50 an50:Option Addr}{sl50:Array (Option Value)}{oc50 kV50 dc50 pm50 cd50 ct50:Value}
  (a50:PySem.W.nsIn K mainGlobals "_law_inside" = some (some (.ref f50))) (l50:K.lookup f50=some ⟨oc50,od50,.func (PySem.W.fnOf "_law_inside" "_law_inside" (zB xZ) (zy xZ) (zi xZ) .none kV50 dc50 pm50 an50 cd50 ct50),sl50⟩) (c50:PySem.W.codeIn K cd50 "_law_inside" = true) (k50:PySem.W.keepIn K (.ref f50)=true)
  {f51:Addr}{od51 an51:Option Addr}{sl51:Array (Option Value)}{oc51 kV51 dc51 pm51 cd51 ct51:Value}
  (a51:PySem.W.nsIn K mainGlobals "_law_good" = some (some (.ref f51))) (l51:K.lookup f51=some ⟨oc51,od51,.func (PySem.W.fnOf "_law_good" "_law_good" (zB qF) (zy qF) (zi qF) .none kV51 dc51 pm51 an51 cd51 ct51),sl51⟩) (c51:PySem.W.codeIn K cd51 "_law_good" = true) (k51:PySem.W.keepIn K (.ref f51)=true)
  {f52:Addr}{od52 an52:Option Addr}{sl52:Array (Option Value)}{oc52 kV52 dc52 pm52 cd52 ct52:Value}
  (a52:PySem.W.nsIn K mainGlobals "_law_points" = some (some (.ref f52))) (l52:K.lookup f52=some ⟨oc52,od52,.func (PySem.W.fnOf "_law_points" "_law_points" (zB x4) (zy x4) (zi x4) .none kV52 dc52 pm52 an52 cd52 ct52),sl52⟩) (c52:PySem.W.codeIn K cd52 "_law_points" = true) (k52:PySem.W.keepIn K (.ref f52)=true)
  {f53:Addr}{od53 an53:Option Addr}{sl53:Array (Option Value)}{oc53 kV53 dc53 pm53 cd53 ct53:Value}
  (a53:PySem.W.nsIn K mainGlobals "law" = some (some (.ref f53))) (l53:K.lookup f53=some ⟨oc53,od53,.func (PySem.W.fnOf "law" "law" (zB s_law) (zy s_law) (zi s_law) .none kV53 dc53 pm53 an53 cd53 ct53),sl53⟩) (c53:PySem.W.codeIn K cd53 "law" = true) (k53:PySem.W.keepIn K (.ref f53)=true)
  (z_isinstance:PySem.W.nsIn K mainGlobals "isinstance" = some none)
  (z_int:PySem.W.nsIn K mainGlobals "int" = some none)
  (z_bool:PySem.W.nsIn K mainGlobals "bool" = some none)
  (z_abs:PySem.W.nsIn K mainGlobals "abs" = some none)
  (z_len:PySem.W.nsIn K mainGlobals "len" = some none)
  (z_max:PySem.W.nsIn K mainGlobals "max" = some none)
  (z_min:PySem.W.nsIn K mainGlobals "min" = some none)
  (z_range:PySem.W.nsIn K mainGlobals "range" = some none)
  (z_tuple:PySem.W.nsIn K mainGlobals "tuple" = some none)
  (z_sum:PySem.W.nsIn K mainGlobals "sum" = some none)
  (z_zip:PySem.W.nsIn K mainGlobals "zip" = some none)
  (z_list:PySem.W.nsIn K mainGlobals "list" = some none)
  (z_enumerate:PySem.W.nsIn K mainGlobals "enumerate" = some none)
  (z_sorted:PySem.W.nsIn K mainGlobals "sorted" = some none)
  (z_all:PySem.W.nsIn K mainGlobals "all" = some none)
  (z_any:PySem.W.nsIn K mainGlobals "any" = some none)
  {C_Course:Addr}(a_Course:PySem.W.nsIn K mainGlobals "Course" = some (some (.ref C_Course)))
  (kp_Course:PySem.W.keepIn K (.ref C_Course)=true)
  {fI_Course:Addr}{odI_Course anI_Course:Option Addr}{slI_Course:Array (Option Value)}{kVI_Course dcI_Course pmI_Course cdI_Course ctI_Course:Value}(fi_Course:PySem.W.findIn K (.ref C_Course) "__init__" = some (some (.ref fI_Course)))
  (li_Course:K.lookup fI_Course=some ⟨.type "function",odI_Course,.func (PySem.W.fnOf "__init__" "Course.__init__" (zB xO) (zy xO) (zi xO) .none kVI_Course dcI_Course pmI_Course anI_Course cdI_Course ctI_Course),slI_Course⟩) (ci_Course:PySem.W.codeIn K cdI_Course "Course.__init__" = true) (ki_Course:PySem.W.keepIn K (.ref fI_Course)=true)
  (sa_Course:PySem.W.findIn K (.ref C_Course) "__setattr__" = some (some (.builtin "object.__setattr__")))
  (mkC:PySem.W.makesIn K C_Course=true)
  (ifC:PySem.W.isFn K (.ref fI_Course)=true)
  (pgC:PySem.W.plainGet K C_Course Str.empty=true)
  (hdC:PySem.W.hasDictIn K C_Course=true)
  (poC:PySem.W.plainOver K C_Course=true)
  (nc_place_bottom:PySem.W.findIn K (.ref C_Course) "place_bottom" = some none)
  (nc_speed_bottom:PySem.W.findIn K (.ref C_Course) "speed_bottom" = some none)
  (nc_tick:PySem.W.findIn K (.ref C_Course) "tick" = some none)
  (nc_weights:PySem.W.findIn K (.ref C_Course) "weights" = some none)
  (nc_tracks:PySem.W.findIn K (.ref C_Course) "tracks" = some none)
  (nc_low:PySem.W.findIn K (.ref C_Course) "low" = some none)
  (nc_high:PySem.W.findIn K (.ref C_Course) "high" = some none)
  {a_NOUGHT:Addr}{t1_NOUGHT t2_NOUGHT:Tok}{n_NOUGHT:Nat}{od_NOUGHT:Option Addr}{sl_NOUGHT:Array (Option Value)} (v_NOUGHT:PySem.W.nsIn K mainGlobals "NOUGHT" = some (some (.ref a_NOUGHT))) (l_NOUGHT:K.lookup a_NOUGHT=some ⟨.type "tuple",od_NOUGHT,.seq #[.int 0 t1_NOUGHT,.int 1 t2_NOUGHT] n_NOUGHT,sl_NOUGHT⟩) :
  ∃fd:FuncData,(∀(s:Shared) (v:Value),BindsTo s fd ⟨[v],[]⟩ [("script",v)])/\∀base:Heap,K.In base->base.Ns mainGlobals mg->jN l.prog w K mg base CX0 11 fa fd ["script"] (VF K):=by
 have e:=hfa.symm.trans (PySem.W.mg_of X G a53)
 cases e
 have d_is_whole:Df K mg "is_whole" qD ["thing"] []:=zQ l0 c0 k0 (PySem.W.mg_of X G a0) λus hl=>match us,hl with | [_],_=>rfl
 have d_is_tuple:Df K mg "is_tuple" qC ["thing","many"] []:=zQ l1 c1 k1 (PySem.W.mg_of X G a1) λus hl=>match us,hl with | [_,_],_=>rfl
 have d_greatest_divisor:Df K mg "greatest_divisor" xg ["one","other"] []:=zQ l2 c2 k2 (PySem.W.mg_of X G a2) λus hl=>match us,hl with | [_,_],_=>rfl
 have d_is_ratio:Df K mg "is_ratio" qA ["thing"] []:=zQ l3 c3 k3 (PySem.W.mg_of X G a3) λus hl=>match us,hl with | [_],_=>rfl
 have d_ratio:Df K mg "ratio" v9 ["top","bottom"] []:=⟨⟨f4,_,_,_,_,_,_,_,_,_,_,[],l4,c4,k4,PySem.W.mg_of X G a4,.nil,λs us KX hl=>match us,hl with | [_,_],_=>.of_defaults rfl (KX _ _ ld4) rfl rfl rfl⟩⟩
 have dd_ratio:Df K mg "ratio" v9 ["top","bottom"] [.int 1]:=⟨⟨f4,_,_,_,_,_,_,_,_,_,_,[.int 1 tkd4],l4,c4,k4,PySem.W.mg_of X G a4,.cons ⟨_,rfl⟩ .nil,λs us KX hl=>have hl2:us.length=1:=(by simpa using hl);match us,hl2 with | [_],_=>.of_defaults rfl (KX _ _ ld4) rfl rfl rfl⟩⟩
 have d_minus:Df K mg "minus" jy ["one","other"] []:=zQ l5 c5 k5 (PySem.W.mg_of X G a5) λus hl=>match us,hl with | [_,_],_=>rfl
 have d_times:Df K mg "times" jz ["one","other"] []:=zQ l6 c6 k6 (PySem.W.mg_of X G a6) λus hl=>match us,hl with | [_,_],_=>rfl
 have d_over:Df K mg "over" Zf ["one","other"] []:=zQ l7 c7 k7 (PySem.W.mg_of X G a7) λus hl=>match us,hl with | [_,_],_=>rfl
 have d_less:Df K mg "less" Ze ["one","other"] []:=zQ l8 c8 k8 (PySem.W.mg_of X G a8) λus hl=>match us,hl with | [_,_],_=>rfl
 have d_rest_of:Df K mg "rest_of" vp ["one","other"] []:=zQ l9 c9 k9 (PySem.W.mg_of X G a9) λus hl=>match us,hl with | [_,_],_=>rfl
 have d_least_multiple:Df K mg "least_multiple" xk ["numbers"] []:=zQ l10 c10 k10 (PySem.W.mg_of X G a10) λus hl=>match us,hl with | [_],_=>rfl
 have d_common_bottom:Df K mg "common_bottom" xw ["ratios"] []:=zQ l11 c11 k11 (PySem.W.mg_of X G a11) λus hl=>match us,hl with | [_],_=>rfl
 have d_track_of:Df K mg "track_of" qN ["course","thing"] []:=zQ l12 c12 k12 (PySem.W.mg_of X G a12) λus hl=>match us,hl with | [_,_],_=>rfl
 have d_ticks_of:Df K mg "ticks_of" qM ["course","moment"] []:=zQ l13 c13 k13 (PySem.W.mg_of X G a13) λus hl=>match us,hl with | [_,_],_=>rfl
 have d_is_wall:Df K mg "is_wall" vg ["thing"] []:=zQ l14 c14 k14 (PySem.W.mg_of X G a14) λus hl=>match us,hl with | [_],_=>rfl
 have d_is_wall_pair:Df K mg "is_wall_pair" xI ["thing"] []:=zQ l15 c15 k15 (PySem.W.mg_of X G a15) λus hl=>match us,hl with | [_],_=>rfl
 have d_is_ball_form:Df K mg "is_ball_form" xH ["thing"] []:=zQ l16 c16 k16 (PySem.W.mg_of X G a16) λus hl=>match us,hl with | [_],_=>rfl
 have d_is_row_form:Df K mg "is_row_form" xP ["thing"] []:=zQ l17 c17 k17 (PySem.W.mg_of X G a17) λus hl=>match us,hl with | [_],_=>rfl
 have d_is_even:Df K mg "is_even" vf ["row"] []:=zQ l18 c18 k18 (PySem.W.mg_of X G a18) λus hl=>match us,hl with | [_],_=>rfl
 have d_is_still:Df K mg "is_still" qB ["walls"] []:=zQ l19 c19 k19 (PySem.W.mg_of X G a19) λus hl=>match us,hl with | [_],_=>rfl
 have d_is_plain:Df K mg "is_plain" qz ["row","walls"] []:=zQ l20 c20 k20 (PySem.W.mg_of X G a20) λus hl=>match us,hl with | [_,_],_=>rfl
 have d_refuse_uneven:Df K mg "refuse_uneven" xz ["row","walls"] []:=zQ l21 c21 k21 (PySem.W.mg_of X G a21) λus hl=>match us,hl with | [_,_],_=>rfl
 have d_refuse_no_box:Df K mg "refuse_no_box" xy ["row","walls"] []:=zQ l22 c22 k22 (PySem.W.mg_of X G a22) λus hl=>match us,hl with | [_,_],_=>rfl
 have d_refuse_no_ball:Df K mg "refuse_no_ball" xl ["many","k"] []:=zQ l23 c23 k23 (PySem.W.mg_of X G a23) λus hl=>match us,hl with | [_,_],_=>rfl
 have d_refuse_no_place:Df K mg "refuse_no_place" xi ["walls","place"] []:=zQ l24 c24 k24 (PySem.W.mg_of X G a24) λus hl=>match us,hl with | [_,_],_=>rfl
 have d_line_at:Df K mg "line_at" vo ["course","track","ticks"] []:=zQ l25 c25 k25 (PySem.W.mg_of X G a25) λus hl=>match us,hl with | [_,_,_],_=>rfl
 have d_at_once:Df K mg "at_once" ve ["row","walls","t"] []:=zQ l26 c26 k26 (PySem.W.mg_of X G a26) λus hl=>match us,hl with | [_,_,_],_=>rfl
 have d_wished:Df K mg "wished" vV ["row","walls","k","place","t"] []:=zQ l27 c27 k27 (PySem.W.mg_of X G a27) λus hl=>match us,hl with | [_,_,_,_,_],_=>rfl
 have d_joined:Df K mg "joined" vT ["stretches"] []:=zQ l28 c28 k28 (PySem.W.mg_of X G a28) λus hl=>match us,hl with | [_],_=>rfl
 have d_beginnings:Df K mg "beginnings" xX ["low","high","gone_on","first","last"] []:=zQ l29 c29 k29 (PySem.W.mg_of X G a29) λus hl=>match us,hl with | [_,_,_,_,_],_=>rfl
 have d_aims:Df K mg "aims" Zd ["row","walls","speed","k","place","t"] []:=zQ l30 c30 k30 (PySem.W.mg_of X G a30) λus hl=>match us,hl with | [_,_,_,_,_,_],_=>rfl
 have d_law_left:Df K mg "_law_left" qG ["cell"] []:=zQ l31 c31 k31 (PySem.W.mg_of X G a31) λus hl=>match us,hl with | [_],_=>rfl
 have d_law_next:Df K mg "_law_next" qI ["pool","base"] []:=zQ l32 c32 k32 (PySem.W.mg_of X G a32) λus hl=>match us,hl with | [_,_],_=>rfl
 have d_law_wide:Df K mg "_law_wide" qL ["pool","base"] []:=zQ l33 c33 k33 (PySem.W.mg_of X G a33) λus hl=>match us,hl with | [_,_],_=>rfl
 have d_law_low:Df K mg "_law_low" vk ["top","bottom"] []:=zQ l34 c34 k34 (PySem.W.mg_of X G a34) λus hl=>match us,hl with | [_,_],_=>rfl
 have d_law_add:Df K mg "_law_add" vi ["a","b"] []:=zQ l35 c35 k35 (PySem.W.mg_of X G a35) λus hl=>match us,hl with | [_,_],_=>rfl
 have d_law_off:Df K mg "_law_off" vm ["a","b"] []:=zQ l36 c36 k36 (PySem.W.mg_of X G a36) λus hl=>match us,hl with | [_,_],_=>rfl
 have d_law_by:Df K mg "_law_by" vU ["a","b"] []:=zQ l37 c37 k37 (PySem.W.mg_of X G a37) λus hl=>match us,hl with | [_,_],_=>rfl
 have d_law_part:Df K mg "_law_part" qJ ["a","b"] []:=zQ l38 c38 k38 (PySem.W.mg_of X G a38) λus hl=>match us,hl with | [_,_],_=>rfl
 have d_law_below:Df K mg "_law_below" qj ["a","b"] []:=zQ l39 c39 k39 (PySem.W.mg_of X G a39) λus hl=>match us,hl with | [_,_],_=>rfl
 have d_law_ratio:Df K mg "_law_ratio" qk ["pool","size"] []:=zQ l40 c40 k40 (PySem.W.mg_of X G a40) λus hl=>match us,hl with | [_,_],_=>rfl
 have d_law_speed:Df K mg "_law_speed" ql ["pool"] []:=zQ l41 c41 k41 (PySem.W.mg_of X G a41) λus hl=>match us,hl with | [_],_=>rfl
 have d_law_rest:Df K mg "_law_rest" qK ["a","b"] []:=zQ l42 c42 k42 (PySem.W.mg_of X G a42) λus hl=>match us,hl with | [_,_],_=>rfl
 have d_law_put:Df K mg "_law_put" vn ["row","ball"] []:=zQ l43 c43 k43 (PySem.W.mg_of X G a43) λus hl=>match us,hl with | [_,_],_=>rfl
 have d_law_even:Df K mg "_law_even" qE ["pool","most"] []:=zQ l44 c44 k44 (PySem.W.mg_of X G a44) λus hl=>match us,hl with | [_,_],_=>rfl
 have d_law_moment:Df K mg "_law_moment" x3 ["pool"] []:=zQ l45 c45 k45 (PySem.W.mg_of X G a45) λus hl=>match us,hl with | [_],_=>rfl
 have d_law_line:Df K mg "_law_line" qH ["ball","walls","t"] []:=zQ l46 c46 k46 (PySem.W.mg_of X G a46) λus hl=>match us,hl with | [_,_,_],_=>rfl
 have d_law_sorted:Df K mg "_law_sorted" qa ["ratios"] []:=zQ l47 c47 k47 (PySem.W.mg_of X G a47) λus hl=>match us,hl with | [_],_=>rfl
 have d_law_all:Df K mg "_law_all" vj ["row","walls","ball","t"] []:=zQ l48 c48 k48 (PySem.W.mg_of X G a48) λus hl=>match us,hl with | [_,_,_,_],_=>rfl
 have d_law_asking:Df K mg "_law_asking" xY ["pool"] []:=zQ l49 c49 k49 (PySem.W.mg_of X G a49) λus hl=>match us,hl with | [_],_=>rfl
 have d_law_inside:Df K mg "_law_inside" xZ ["x","stretches"] []:=zQ l50 c50 k50 (PySem.W.mg_of X G a50) λus hl=>match us,hl with | [_,_],_=>rfl
 have d_law_good:Df K mg "_law_good" qF ["found","walls"] []:=zQ l51 c51 k51 (PySem.W.mg_of X G a51) λus hl=>match us,hl with | [_,_],_=>rfl
 have d_law_points:Df K mg "_law_points" x4 ["found","walls"] []:=zQ l52 c52 k52 (PySem.W.mg_of X G a52) λus hl=>match us,hl with | [_,_],_=>rfl
 have T:TxB K mg:=⟨zcT K,zcS K,PySem.W.mg_none_of X G z_isinstance,PySem.W.mg_none_of X G z_int,PySem.W.mg_none_of X G z_bool,PySem.W.mg_none_of X G z_abs,PySem.W.mg_none_of X G z_len,PySem.W.mg_none_of X G z_max,PySem.W.mg_none_of X G z_min,PySem.W.mg_none_of X G z_range,PySem.W.mg_none_of X G z_tuple,PySem.W.mg_none_of X G z_sum⟩
 have F:=JP (st:=s_law) l53 c53 k53
 refine⟨PySem.W.fnOf "law" "law" (zB s_law) (zy s_law) (zi s_law) .none kV53 dc53 pm53 an53 cd53 ct53,λs v=>.of_eq rfl,λbase hKb hGb=>?_⟩
 have T3:Tx3 K mg a_NOUGHT:=⟨PySem.W.mg_none_of X G z_all,PySem.W.mg_none_of X G z_sorted,PySem.W.mg_none_of X G z_enumerate,PySem.W.mg_of X G v_NOUGHT,⟨_,_,_,_,l_NOUGHT,rfl,rfl⟩,zcU K⟩
 have TQ:TxQ K mg:=⟨T,PySem.W.mg_none_of X G z_list,PySem.W.mg_none_of X G z_zip⟩
 have TA:TxA mg:=⟨PySem.W.mg_none_of X G z_any⟩
 have mCo:=PySem.W.mg_of X G a_Course
 have FUC:=JP (st:=xO) li_Course ci_Course ki_Course
 have BIC:=FUC.binds (ps:=["self","row","walls"]) λ_ _ _ _ _ _ us hl=>match us,hl with | [_,_,_],_=>rfl
 have TC:TCo K C_Course:=⟨⟨pgC,hdC,poC,sa_Course⟩,nc_place_bottom,nc_speed_bottom,nc_tick,nc_weights,nc_tracks,nc_low,nc_high⟩
 have M:Mk K C_Course fI_Course:=⟨mkC,fi_Course,ifC,kp_Course⟩
 have cW:=J9 (P:=l.prog) (w:=w) (base:=base) d_is_whole T
 have cG:=zc6 (P:=l.prog) (w:=w) (base:=base) d_greatest_divisor
 have cR:=Qs d_ratio T cW cG
 have cRd:=Qs dd_ratio T cW cG
 have cOv:=zbv d_over cR
 have cTi:=J8 d_times cR
 have cMi:=J6 d_minus cR
 have cRs:=zd8 d_rest_of cR
 have cLs:=zde (P:=l.prog) (w:=w) (base:=base) d_less
 have cTu:=zee (P:=l.prog) (w:=w) (base:=base) d_is_tuple T T3
 have cIr:=zd4 d_is_ratio T cTu cW cG
 have cWa:=zef d_is_wall cTu cIr
 have cWp:=zeh d_is_wall_pair cTu cWa
 have cBf:=zd0 d_is_ball_form cTu cIr cW
 have cRf:=J7 d_is_row_form T T3 cBf
 have cEv:=zd3 d_is_even T T3 cRf
 have cSt:=zeb d_is_still T3 cWp
 have cLcm:=zdb d_least_multiple cG
 have cB:=zd1 d_common_bottom cLcm
 have cTr:=zed (P:=l.prog) (w:=w) (base:=base) d_track_of TC
 have Fi:=zd2 FUC TQ TC cB cR cTr
 have cTk:=zec d_ticks_of TC cOv
 have cPl:=zd6 d_is_plain cEv cSt
 have cRu:=zd9 d_refuse_uneven cPl
 have cNx:=zdf d_refuse_no_box cRu
 have cNb:=zd5 (P:=l.prog) (w:=w) (base:=base) d_refuse_no_ball
 have cRnp:=zdg d_refuse_no_place cLs
 have cLa:=zc8 (P:=l.prog) (w:=w) (base:=base) d_line_at T TC
 have cAo:=zdZ d_at_once T T3 TC M Fi mCo BIC cRu cTk cLa cR
 have cWis:=zdi d_wished T cLs cAo
 have cJo:=zc7 (P:=l.prog) (w:=w) (base:=base) d_joined T
 have cBeg:=zc4 d_beginnings T cJo
 have cAi:=zc3 d_aims T cNx cNb cRnp cWis cRs cTi cR cRd cMi cB cBeg
 have cD:=zc5 (P:=l.prog) (w:=w) (base:=base) d_law_left T
 have cN:=zbu (P:=l.prog) (w:=w) (base:=base) d_law_next
 have cWi:=zeg d_law_wide T cN
 have cL:=zdd (P:=l.prog) (w:=w) (base:=base) d_law_low T
 have cA:=zbl d_law_add cL
 have cO:=zbr d_law_off cL
 have cBy:=zda d_law_by cL
 have cPt:=J4 d_law_part cL
 have cBl:=zbo (P:=l.prog) (w:=w) (base:=base) d_law_below
 have cRa:=zd7 d_law_ratio cN cWi cL
 have cSp:=zea d_law_speed cN cL
 have cMo:=zbq d_law_moment cN cWi cL
 have cLr:=J5 d_law_rest cPt cO cBy
 have cLi:=J3 d_law_line cA cO cBy cLr cBl
 have cSr:=zdh d_law_sorted TQ cBl
 have cAl:=zbm d_law_all cLi cSr
 have cPu:=zbt d_law_put cBl
 have cEv8:=zdc d_law_even T cN cRa cL cA cBy cO cSp cPu
 have cAs:=zbn d_law_asking T cN cL cA cBy cO cSp cEv8 cMo cAl cLi
 have cIn:=zbp d_law_inside TA cBl
 have cGo:=J2 d_law_good T TQ cIr cBl
 have cPo:=zbs d_law_points T TQ cL cA cBy cO cSr
 exact zc9 F T TQ cD cAs cAl cIn cGo cPo cAi
theorem walk {l:PySem.W.OpenLaw}{q:Program}{loose:List Str}{XP:(Str->Option Value)->Heap->Prop}{YP:World->Heap->Prop}{d:DefRec}{K:Params->PySem.W.Frag}(hn:l.most=some 63) (hdf:d.params.defaults=[])
  (hY:∀(w:World) (h:Heap),YP w h->(K w.params).In h)
  (F:∀(w:World) (mg:Str->Option Value) (fa:Addr) (h:Heap),(K w.params).In h->h.Ns mainGlobals mg->mg d.name=some (.ref fa) →
   ∃fd:FuncData,(∀(s:Shared) (u:Value),BindsTo s fd ⟨[u],[]⟩ [("script",u)])/\∀base:Heap,(K w.params).In base->base.Ns mainGlobals mg->jN l.prog w (K w.params) mg base CX0 11 fa fd ["script"] (VF (K w.params))) :
  PySem.W.WalkO q loose XP YP l.row.toRowW d [] (λf vs=>PySem.call f vs) :=
 L2.zb1 (n:=63) (k:=11) (x:="script") (CX:=λ_=>CX0) (sp:=λw=>VF (K w.params)) hn (by decide) hdf ⟨rfl,by decide,by decide⟩ hY F (λ_ _ a ns hl _ hS=>⟨a,ns,rfl,hS,hl,λ_=>rfl⟩) λ_ _ _ _ _ z=>z
end KK
open PySem PySem.W PyProof.Rows
set_option maxRecDepth 100000 in
set_option maxHeartbeats 0 in
theorem PySem.Challenge.cw_clackrow_k41_beginnings_told_holds : PySem.Challenge.rw_clackrow_k41_beginnings_told.Holds := by
 w_on;o_law;k_head;(case hw=>w_witness2)
 k_fill
 refine KK.walk (l:=PySem.Challenge.rw_clackrow_k41_beginnings_told) rfl rfl (λw h Y=>PySem.W.kIn_of Y) ?F
 case F =>
  intro w mg fa h KX G hmg
  refine' KK.zcB KX G hmg ?a0 ?l0 ?c0 ?k0 ?a1 ?l1 ?c1 ?k1 ?a2 ?l2 ?c2 ?k2 ?a3 ?l3 ?c3 ?k3 ?a4 ?l4 ?c4 ?k4 ?ld4 ?a5 ?l5 ?c5 ?k5 ?a6 ?l6 ?c6 ?k6 ?a7 ?l7 ?c7 ?k7 ?a8 ?l8 ?c8 ?k8 ?a9 ?l9 ?c9 ?k9 ?a10 ?l10 ?c10 ?k10 ?a11 ?l11 ?c11 ?k11 ?a12 ?l12 ?c12 ?k12 ?a13 ?l13 ?c13 ?k13 ?a14 ?l14 ?c14 ?k14 ?a15 ?l15 ?c15 ?k15 ?a16 ?l16 ?c16 ?k16 ?a17 ?l17 ?c17 ?k17 ?a18 ?l18 ?c18 ?k18 ?a19 ?l19 ?c19 ?k19 ?a20 ?l20 ?c20 ?k20 ?a21 ?l21 ?c21 ?k21 ?a22 ?l22 ?c22 ?k22 ?a23 ?l23 ?c23 ?k23 ?a24 ?l24 ?c24 ?k24 ?a25 ?l25 ?c25 ?k25 ?a26 ?l26 ?c26 ?k26 ?a27 ?l27 ?c27 ?k27 ?a28 ?l28 ?c28 ?k28 ?a29 ?l29 ?c29 ?k29 ?a30 ?l30 ?c30 ?k30 ?a31 ?l31 ?c31 ?k31 ?a32 ?l32 ?c32 ?k32 ?a33 ?l33 ?c33 ?k33 ?a34 ?l34 ?c34 ?k34 ?a35 ?l35 ?c35 ?k35 ?a36 ?l36 ?c36 ?k36 ?a37 ?l37 ?c37 ?k37 ?a38 ?l38 ?c38 ?k38 ?a39 ?l39 ?c39 ?k39 ?a40 ?l40 ?c40 ?k40 ?a41 ?l41 ?c41 ?k41 ?a42 ?l42 ?c42 ?k42 ?a43 ?l43 ?c43 ?k43 ?a44 ?l44 ?c44 ?k44 ?a45 ?l45 ?c45 ?k45 ?a46 ?l46 ?c46 ?k46 ?a47 ?l47 ?c47 ?k47 ?a48 ?l48 ?c48 ?k48 ?a49 ?l49 ?c49 ?k49 ?a50 ?l50 ?c50 ?k50 ?a51 ?l51 ?c51 ?k51 ?a52 ?l52 ?c52 ?k52 ?a53 ?l53 ?c53 ?k53 ?z_isinstance ?z_int ?z_bool ?z_abs ?z_len ?z_max ?z_min ?z_range ?z_tuple ?z_sum ?z_zip ?z_list ?z_enumerate ?z_sorted ?z_all ?z_any ?a_Course ?kp_Course ?fi_Course ?li_Course ?ci_Course ?ki_Course ?sa_Course ?mkC ?ifC ?pgC ?hdC ?poC ?nc_place_bottom ?nc_speed_bottom ?nc_tick ?nc_weights ?nc_tracks ?nc_low ?nc_high ?v_NOUGHT ?l_NOUGHT
  (case a0=>k_is)
  (case l0=>k_is)
  (case c0=>k_is)
  (case k0=>k_is)
  (case a1=>k_is)
  (case l1=>k_is)
  (case c1=>k_is)
  (case k1=>k_is)
  (case a2=>k_is)
  (case l2=>k_is)
  (case c2=>k_is)
  (case k2=>k_is)
  (case a3=>k_is)
  (case l3=>k_is)
  (case c3=>k_is)
  (case k3=>k_is)
  (case a4=>k_is)
  (case l4=>k_is)
  (case c4=>k_is)
  (case k4=>k_is)
  (case ld4=>k_is)
  (case a5=>k_is)
  (case l5=>k_is)
  (case c5=>k_is)
  (case k5=>k_is)
  (case a6=>k_is)
  (case l6=>k_is)
  (case c6=>k_is)
  (case k6=>k_is)
  (case a7=>k_is)
  (case l7=>k_is)
  (case c7=>k_is)
  (case k7=>k_is)
  (case a8=>k_is)
  (case l8=>k_is)
  (case c8=>k_is)
  (case k8=>k_is)
  (case a9=>k_is)
  (case l9=>k_is)
  (case c9=>k_is)
  (case k9=>k_is)
  (case a10=>k_is)
  (case l10=>k_is)
  (case c10=>k_is)
  (case k10=>k_is)
  (case a11=>k_is)
  (case l11=>k_is)
  (case c11=>k_is)
  (case k11=>k_is)
  (case a12=>k_is)
  (case l12=>k_is)
  (case c12=>k_is)
  (case k12=>k_is)
  (case a13=>k_is)
  (case l13=>k_is)
  (case c13=>k_is)
  (case k13=>k_is)
  (case a14=>k_is)
  (case l14=>k_is)
  (case c14=>k_is)
  (case k14=>k_is)
  (case a15=>k_is)
  (case l15=>k_is)
  (case c15=>k_is)
  (case k15=>k_is)
  (case a16=>k_is)
  (case l16=>k_is)
  (case c16=>k_is)
  (case k16=>k_is)
  (case a17=>k_is)
  (case l17=>k_is)
  (case c17=>k_is)
  (case k17=>k_is)
  (case a18=>k_is)
  (case l18=>k_is)
  (case c18=>k_is)
  (case k18=>k_is)
  (case a19=>k_is)
  (case l19=>k_is)
  (case c19=>k_is)
  (case k19=>k_is)
  (case a20=>k_is)
  (case l20=>k_is)
  (case c20=>k_is)
  (case k20=>k_is)
  (case a21=>k_is)
  (case l21=>k_is)
  (case c21=>k_is)
  (case k21=>k_is)
  (case a22=>k_is)
  (case l22=>k_is)
  (case c22=>k_is)
  (case k22=>k_is)
  (case a23=>k_is)
  (case l23=>k_is)
  (case c23=>k_is)
  (case k23=>k_is)
  (case a24=>k_is)
  (case l24=>k_is)
  (case c24=>k_is)
  (case k24=>k_is)
  (case a25=>k_is)
  (case l25=>k_is)
  (case c25=>k_is)
  (case k25=>k_is)
  (case a26=>k_is)
  (case l26=>k_is)
  (case c26=>k_is)
  (case k26=>k_is)
  (case a27=>k_is)
  (case l27=>k_is)
  (case c27=>k_is)
  (case k27=>k_is)
  (case a28=>k_is)
  (case l28=>k_is)
  (case c28=>k_is)
  (case k28=>k_is)
  (case a29=>k_is)
  (case l29=>k_is)
  (case c29=>k_is)
  (case k29=>k_is)
  (case a30=>k_is)
  (case l30=>k_is)
  (case c30=>k_is)
  (case k30=>k_is)
  (case a31=>k_is)
  (case l31=>k_is)
  (case c31=>k_is)
  (case k31=>k_is)
  (case a32=>k_is)
  (case l32=>k_is)
  (case c32=>k_is)
  (case k32=>k_is)
  (case a33=>k_is)
  (case l33=>k_is)
  (case c33=>k_is)
  (case k33=>k_is)
  (case a34=>k_is)
  (case l34=>k_is)
  (case c34=>k_is)
  (case k34=>k_is)
  (case a35=>k_is)
  (case l35=>k_is)
  (case c35=>k_is)
  (case k35=>k_is)
  (case a36=>k_is)
  (case l36=>k_is)
  (case c36=>k_is)
  (case k36=>k_is)
  (case a37=>k_is)
  (case l37=>k_is)
  (case c37=>k_is)
  (case k37=>k_is)
  (case a38=>k_is)
  (case l38=>k_is)
  (case c38=>k_is)
  (case k38=>k_is)
  (case a39=>k_is)
  (case l39=>k_is)
  (case c39=>k_is)
  (case k39=>k_is)
  (case a40=>k_is)
  (case l40=>k_is)
  (case c40=>k_is)
  (case k40=>k_is)
  (case a41=>k_is)
  (case l41=>k_is)
  (case c41=>k_is)
  (case k41=>k_is)
  (case a42=>k_is)
  (case l42=>k_is)
  (case c42=>k_is)
  (case k42=>k_is)
  (case a43=>k_is)
  (case l43=>k_is)
  (case c43=>k_is)
  (case k43=>k_is)
  (case a44=>k_is)
  (case l44=>k_is)
  (case c44=>k_is)
  (case k44=>k_is)
  (case a45=>k_is)
  (case l45=>k_is)
  (case c45=>k_is)
  (case k45=>k_is)
  (case a46=>k_is)
  (case l46=>k_is)
  (case c46=>k_is)
  (case k46=>k_is)
  (case a47=>k_is)
  (case l47=>k_is)
  (case c47=>k_is)
  (case k47=>k_is)
  (case a48=>k_is)
  (case l48=>k_is)
  (case c48=>k_is)
  (case k48=>k_is)
  (case a49=>k_is)
  (case l49=>k_is)
  (case c49=>k_is)
  (case k49=>k_is)
  (case a50=>k_is)
  (case l50=>k_is)
  (case c50=>k_is)
  (case k50=>k_is)
  (case a51=>k_is)
  (case l51=>k_is)
  (case c51=>k_is)
  (case k51=>k_is)
  (case a52=>k_is)
  (case l52=>k_is)
  (case c52=>k_is)
  (case k52=>k_is)
  (case a53=>k_is)
  (case l53=>k_is)
  (case c53=>k_is)
  (case k53=>k_is)
  (case z_isinstance=>k_is)
  (case z_int=>k_is)
  (case z_bool=>k_is)
  (case z_abs=>k_is)
  (case z_len=>k_is)
  (case z_max=>k_is)
  (case z_min=>k_is)
  (case z_range=>k_is)
  (case z_tuple=>k_is)
  (case z_sum=>k_is)
  (case z_zip=>k_is)
  (case z_list=>k_is)
  (case z_enumerate=>k_is)
  (case z_sorted=>k_is)
  (case z_all=>k_is)
  (case z_any=>k_is)
  (case a_Course=>k_is)
  (case kp_Course=>k_is)
  (case fi_Course=>k_is)
  (case li_Course=>k_is)
  (case ci_Course=>k_is)
  (case ki_Course=>k_is)
  (case sa_Course=>k_is)
  (case mkC=>kernel_rfl)
  (case ifC=>kernel_rfl)
  (case pgC=>kernel_rfl)
  (case hdC=>kernel_rfl)
  (case poC=>kernel_rfl)
  (case nc_place_bottom=>k_is)
  (case nc_speed_bottom=>k_is)
  (case nc_tick=>k_is)
  (case nc_weights=>k_is)
  (case nc_tracks=>k_is)
  (case nc_low=>k_is)
  (case nc_high=>k_is)
  (case v_NOUGHT=>k_is)
  (case l_NOUGHT=>k_is)
end
