import PyProof.Rows.All
import Wide.All
import OpenK.AllK
import Wide.FinOn
import Lean
import PyProof.EqAt
import PyProof.EqKinds
import PyProof.TupleCall
import PyProof.CompFree
import PyProof.Rows.SumAny
import PyProof.ZipIter
import PyProof.ConsumeWalk
import PySem.Challenge.RW_clackrow_k32_papers_of_rounds_judged
import KE.KSortTup
import KE.KDictSum
import PyProof.Sound
import KE.KLam
import PyProof.WalkInts
import PyProof.Rows.SeqCalls
import PyProof.Draws
import KE.KDictLaws
import KE.KDictList
import PyProof.Rows.SortShell
import PyProof.Rows.SortWalk
import PyProof.DictTruth
import KE.KDictOf
import PyProof.AttrMissHeap
import PyProof.WalksS
import PyProof.Walks
import PyProof.Seq
import PyProof.ListNew
import PyProof.CollectWalk
import KE.KTryMore
set_option Elab.async false
set_option linter.all false
set_option maxRecDepth 100000
namespace L2
open PySem PySem.Spec PyProof.Rows
abbrev Key:=Sum Int Str
def XM:Key->Value->Bool
 | .inl k,v=>Value.isInt k v
 | .inr x,v=>Value.isStrOf x v
def keyH (w:World):Key->Int
 | .inl k=>hashInt k
 | .inr x=>hashStr w x
theorem xI:∀{k:Key}{v:Value},XM k v=true->(∃i t,k=Sum.inl i/\v=Value.int i t)\/(∃x t,k=Sum.inr x/\v=Value.str x t)
 | .inl i,v,h=>by
  obtain⟨t,e⟩:=Value.isInt_shape (k:=i) (v:=v) h
  exact .inl ⟨i,t,rfl,e⟩
 | .inr x,v,h=>by
  obtain⟨t,e⟩:=Value.isStrOf_shape (x:=x) (v:=v) h
  exact .inr ⟨x,t,rfl,e⟩
theorem JI (i:Int) (t:Tok):XM (.inl i) (.int i t)=true:=by simp[XM,Value.isInt]
theorem JJ (x:Str) (t:Tok):XM (.inr x) (.str x t)=true:=by simp[XM,Value.isStrOf]
theorem zcT (a b:Int):decide ((Sum.inl a:Key)=Sum.inl b)=(a == b):=by
 by_cases e:a=b
 ·subst e;simp
 ·have h:¬(Sum.inl a:Key)=Sum.inl b:=λq=>e (Sum.inl.inj q)
  rw[decide_eq_false h]
  exact(beq_eq_false_iff_ne.mpr e).symm
theorem zcW (a b:Str):decide ((Sum.inr a:Key)=Sum.inr b)=decide (a=b):=by
 by_cases e:a=b
 ·subst e;simp
 ·have h:¬(Sum.inr a:Key)=Sum.inr b:=λq=>e (Sum.inr.inj q)
  rw[decide_eq_false h,decide_eq_false e]
theorem zcU (a:Int) (b:Str):decide ((Sum.inl a:Key)=Sum.inr b)=false:=decide_eq_false (λq=>nomatch q)
theorem zcV (a:Str) (b:Int):decide ((Sum.inr a:Key)=Sum.inl b)=false:=decide_eq_false (λq=>nomatch q)
def xB (prog:Program) (w:World):PySem.KeyKind prog w Key where
 is:=XM
 hash:=keyH w
 inj:=λv a b ha hb=>by
  rcases xI ha with⟨i,t,rfl,rfl⟩ | ⟨x,t,rfl,rfl⟩
  ·rcases xI hb with⟨j,u,rfl,e⟩ | ⟨y,u,rfl,e⟩
   ·injection e with e1 _;rw[e1]
   ·exact nomatch e
  ·rcases xI hb with⟨j,u,rfl,e⟩ | ⟨y,u,rfl,e⟩
   ·exact nomatch e
   ·injection e with e1 _;rw[e1]
 byValue:=λk v h=>by
  rcases xI h with⟨i,t,rfl,rfl⟩ | ⟨x,t,rfl,rfl⟩ <;> rfl
 pyHash:=λhv h=>by
  rcases xI hv with⟨i,t,rfl,rfl⟩ | ⟨x,t,rfl,rfl⟩
  ·exact wpAny_pyHash_int h
  ·exact wpAny_pyHash_str h
 eqBool:=λhu hv h=>by
  rcases xI hu with⟨i,t,rfl,rfl⟩ | ⟨x,t,rfl,rfl⟩
  ·rcases xI hv with⟨j,u,rfl,rfl⟩ | ⟨y,u,rfl,rfl⟩
   ·rw[zcT]at h;exact wpAny_eqBool_int h
   ·rw[zcU]at h;exact SeqAt.EqAt.int_str i t y u _ _ _ _ h
  ·rcases xI hv with⟨j,u,rfl,rfl⟩ | ⟨y,u,rfl,rfl⟩
   ·rw[zcV]at h;exact SeqAt.EqAt.str_int x t j u _ _ _ _ h
   ·rw[zcW]at h;exact wpAny_eqBool_str h
 «strs»:=λk x t v h=>by
  rcases xI h with⟨i,u,rfl,e⟩ | ⟨y,u,rfl,e⟩
  ·exact nomatch e
  ·injection e with e1 _
   subst e1
   cases v <;> rfl
theorem QI (prog:Program) (w:World) (i:Int) (t:Tok):(xB prog w).is (.inl i) (.int i t)=true:=JI i t
theorem QJ (prog:Program) (w:World) (x:Str) (t:Tok):(xB prog w).is (.inr x) (.str x t)=true:=JJ x t
end L2
namespace L2
open PySem PySem.Spec PyProof.Rows
inductive V where
 | non | bl (b:Bool) | int (i:Int) | str (x:Str) | byt (b:Array UInt8) | flt (b:UInt64) | ref (a:Addr) | ty (n:String)
 deriving DecidableEq
def zQ:V->Value->Prop
 | .non,u=>u=Value.none
 | .bl b,u=>u=Value.bool b
 | .int i,u=>∃t,u=Value.int i t
 | .str x,u=>∃t,u=Value.str x t
 | .byt b,u=>∃t,u=Value.bytes b t
 | .flt b,u=>∃t,u=Value.float b t
 | .ref a,u=>u=Value.ref a
 | .ty n,u=>u=Value.type n
abbrev zK:List V->List Value->Prop:=Paired zQ
theorem zK.length {xs:List V}{us:List Value}(r:zK xs us):xs.length=us.length:=Paired.length r
theorem zK.get:∀{xs:List V}{us:List Value}{i:Nat}{x:V},zK xs us->xs[i]? = some x->∃u,us[i]? = some u/\zQ x u
 | _,_,_,_,.nil,e=>by simp at e
 | _,_,0,_,.cons r _,e=>by simp at e;subst e;exact⟨_,rfl,r⟩
 | _,_,i+1,x,.cons _ t,e=>by
  obtain⟨u,h1,h2⟩:=zK.get (i:=i) (x:=x) t (by simpa using e)
  exact⟨u,by simpa using h1,h2⟩
theorem zK.set {x:V}{u:Value}(r:zQ x u):∀{xs:List V}{us:List Value}(i:Nat),zK xs us->zK (xs.set i x) (us.set i u)
 | _,_,_,.nil=>.nil
 | _,_,0,.cons _ t=>.cons r t
 | _,_,i+1,.cons q t=>.cons q (zK.set r i t)
theorem zK.append:∀{xs ys:List V}{us ws:List Value},zK xs us->zK ys ws->zK (xs++ys) (us++ws)
 | _,_,_,_,.nil,s=>s
 | _,_,_,_,.cons r t,s=>.cons r (zK.append t s)
theorem zK.take:∀{xs:List V}{us:List Value}(n:Nat),zK xs us->zK (xs.take n) (us.take n)
 | _,_,0,_=>.nil
 | _,_,_+1,.nil=>.nil
 | _,_,n+1,.cons r t=>.cons r (zK.take n t)
theorem zK.drop:∀{xs:List V}{us:List Value}(n:Nat),zK xs us->zK (xs.drop n) (us.drop n)
 | _,_,0,r=>r
 | _,_,_+1,.nil=>.nil
 | _,_,n+1,.cons _ t=>zK.drop n t
def Zf:Option V->Option Value->Prop
 | some v,some u=>zQ v u
 | none,none=>True
 | _,_=>False
def KV {κ:Type}:List (κ×V)->List (κ×Value)->Prop:=Paired λ(p:κ×V) (q:κ×Value)=>p.1=q.1/\zQ p.2 q.2
def kV:Key->V
 | .inl i=>.int i
 | .inr x=>.str x
inductive HO where
 | lst (xs:List V)
 | tup (xs:List V)
 | dK (kvs:List (Key×V)) | dT (kvs:List (List Key×V))
 | set (S:Int->Bool) (n:Nat)
 | ins (C dx:Addr) (fs:List (Str×V))
 | own (x:Addr)
 | xd (fs:List (Str×V))
 | met (f x:Addr)
 | rng (lo hi:Int)
 | frz (o:Obj) (u:HO)
 | tbl (ps:Array Value)
 | ext (φ:Heap->Prop)
abbrev Hp:=Addr->Option HO
def upd (H:Hp) (a:Addr) (o:HO):Hp:=λb=>if b=a then some o else H b
theorem zg {H:Hp}{a:Addr}{o:HO}:upd H a o a=some o:=by unfold upd;rw[if_pos rfl]
theorem zB {H:Hp}{a b:Addr}{o:HO}(h:b≠a):upd H a o b=H b:=by unfold upd;rw[if_neg h]
theorem zcr {H:Hp}{a b:Addr}{o u:HO}(h:H a=some o) (h':H b=some u) (d:o≠u):a≠b:=by
 intro e;subst e;rw[h]at h';exact d (Option.some.inj h')
theorem zJ {H:Hp}{a b:Addr}{o:HO}(h:H a=some o) (h':H b=none):a≠b:=by
 intro e;subst e;rw[h]at h';cases h'
section
variable (P:Program) (w:World)
def xi (H:Hp) (h:Heap) (a:Addr):HO->Prop
 | .lst xs=>xs.length<=sizeLine/\∃(its:List Value) (n:Nat),zK xs its/\h.get? a=some { cls:=.type "list",data:=.seq its.toArray n }
 | .tup xs=>xs.length<=sizeLine/\∃its:List Value,zK xs its/\IsTup h a its.toArray
 | .dK kvs=>kvs.length<=sizeLine/\(a == sysModules)=false/\∃vs,KV kvs vs/\h.DictOf (xB P w) a vs
 | .dT kvs=>kvs.length<=sizeLine/\(a == sysModules)=false/\∃xs:List (List Key×Addr×Value),
   Paired (λ(p:List Key×V) (q:List Key×Addr×Value)=>p.1=q.1/\H q.2.1=some (.tup (p.1.map kV))/\zQ p.2 q.2.2) kvs xs ∧
   ∃o es ep,h.get? a=some o/\o.ExactDict/\o.data = .dict es ep/\es.toList=xs.map (entryOfKey (tupleKind (xB P w)))/\(xs.map (·.1)).Nodup
 | .set S n=>h.SetOf (intKind P w) a S n
 | .ins C dx fs=>H dx=some (.own a)/\fs.length<=1000/\dx≠a/\h.get? a=some (PySem.W.instObj C dx) ∧
   ∃mA,h.Ns1 dx mA/\(∀f,Zf (fs.lookup f) (mA f))/\PySem.Within mA (fs.map (·.1))
 | .own _=>∃o,h.get? a=some o
 | .xd fs=>∃mA,h.Ns1 a mA/\∀f,Zf (fs.lookup f) (mA f)
 | .rng lo hi=>∃t u v,h.get? a=some { cls:=.type "range",data:=.fields #[.int lo t,.int hi u,.int 1 v] }
 | .frz o u=>h.get? a=some o/\xi H h a u
 | .tbl ps=>h.get? a=some { cls:=.none,data:=.fields ps }
 | .met f x=>h.get? a=some (PySem.W.methodObj (.ref f) (.ref x))
 | .ext φ=>φ h/\(∃o,h.get? a=some o)/\∀h1 h2:Heap,φ h1->(∀o,h1.get? a=some o->h2.get? a=some o)->φ h2
def HOk (H:Hp) (h:Heap):Prop:=∀a o,H a=some o->xi P w H h a o
end
section
variable {P:Program}{w:World}{H H':Hp}{h h':Heap}{a:Addr}{o:HO}
theorem xi.lt (x:xi P w H h a o):a<h.objs.size:=by
 cases o with
 | lst xs=>obtain⟨_,_,_,_,e⟩:=x;exact Heap.lt_size e
 | tup xs=>obtain⟨_,_,_,p⟩:=x;exact p.lt
 | dK kvs=>obtain⟨_,_,_,_,o,_,_,e,_⟩:=x;exact Heap.lt_size e
 | dT kvs=>obtain⟨_,_,_,_,o,_,_,e,_⟩:=x;exact Heap.lt_size e
 | set S n=>obtain⟨o,_,_,_,e,_⟩:=x;exact Heap.lt_size e
 | ins C dx fs=>obtain⟨_,_,_,e,_⟩:=x;exact Heap.lt_size e
 | own y=>obtain⟨_,e⟩:=x;exact Heap.lt_size e
 | xd fs=>obtain⟨_,⟨_,_,_,e,_⟩,_⟩:=x;exact Heap.lt_size e
 | rng lo hi=>obtain⟨_,_,_,e⟩:=x;exact Heap.lt_size e
 | frz ob u=>obtain⟨e,_⟩:=x;exact Heap.lt_size e
 | tbl ps=>exact Heap.lt_size (show h.get? a=some _ from x)
 | met f y=>exact Heap.lt_size (show h.get? a=some _ from x)
 | ext φ=>obtain⟨_,⟨_,e⟩,_⟩:=x;exact Heap.lt_size e
theorem Paired.mapP {α β:Type}{F G:α->β->Prop}:∀{l₁:List α}{l₂:List β},Paired F l₁ l₂->(∀a b,F a b->G a b)->Paired G l₁ l₂
 | _,_,.nil,_=>.nil
 | _,_,.cons r t,f=>.cons (f _ _ r) (Paired.mapP t f)
theorem xi.stay (x:xi P w H h a o) (k:∀b u,(b=a\/H b=some (.own a))->h.get? b=some u->h'.get? b=some u)
  (ho:∀b,H b=some (.own a)->H' b=some (.own a)) (ht:∀b xs,H b=some (.tup xs)->H' b=some (.tup xs)):xi P w H' h' a o:=by
 induction o with
 | lst xs=>obtain⟨z,its,n,r,e⟩:=x;exact⟨z,its,n,r,k _ _ (.inl rfl) e⟩
 | tup xs=>obtain⟨z,its,r,ob,e,c⟩:=x;exact⟨z,its,r,ob,k _ _ (.inl rfl) e,c⟩
 | dK kvs=>obtain⟨z,y,vs,r,ob,es,ep,e,c⟩:=x;exact⟨z,y,vs,r,ob,es,ep,k _ _ (.inl rfl) e,c⟩
 | dT kvs =>
  obtain⟨z,y,xs,r,ob,es,ep,e,c⟩:=x
  exact⟨z,y,xs,Paired.mapP r λp q z=>⟨z.1,ht _ _ z.2.1,z.2.2⟩,ob,es,ep,k _ _ (.inl rfl) e,c⟩
 | set S n=>obtain⟨ob,es,ep,t,e,c⟩:=x;exact⟨ob,es,ep,t,k _ _ (.inl rfl) e,c⟩
 | ins C dx fs =>
  obtain⟨d,z,ne,e,mA,⟨od,es,ep,e2,c⟩,r⟩:=x
  exact⟨ho _ d,z,ne,k _ _ (.inl rfl) e,mA,⟨od,es,ep,k _ _ (.inr d) e2,c⟩,r⟩
 | own y=>obtain⟨ob,e⟩:=x;exact⟨ob,k _ _ (.inl rfl) e⟩
 | xd fs=>obtain⟨mA,⟨od,es,ep,e,c⟩,r⟩:=x;exact⟨mA,⟨od,es,ep,k _ _ (.inl rfl) e,c⟩,r⟩
 | rng lo hi=>obtain⟨t,u,v,e⟩:=x;exact⟨t,u,v,k _ _ (.inl rfl) e⟩
 | frz ob u ih=>obtain⟨e,q⟩:=x;exact⟨k _ _ (.inl rfl) e,ih q⟩
 | tbl ps =>
  have e:h.get? a=some { cls:=.none,data:=.fields ps }:=x
  show h'.get? a=some { cls:=.none,data:=.fields ps }
  exact k a _ (.inl rfl) e
 | met f y =>
  have e:h.get? a=some (PySem.W.methodObj (.ref f) (.ref y)):=x
  show h'.get? a=some (PySem.W.methodObj (.ref f) (.ref y))
  exact k a _ (.inl rfl) e
 | ext φ=>obtain⟨p,⟨o,e⟩,st⟩:=x;exact⟨st _ _ p λo q=>k _ _ (.inl rfl) q,⟨o,k _ _ (.inl rfl) e⟩,st⟩
theorem HOk.lt (x:HOk P w H h) (e:H a=some o):a<h.objs.size:=(x a o e).lt
theorem HOk.fresh (x:HOk P w H h) (e:h.objs.size<=a):H a=none:=by
 cases q:H a with
 | none=>rfl
 | some u=>exact absurd (Nat.lt_of_lt_of_le (x.lt q) e) (Nat.lt_irrefl _)
theorem HOk.kept (x:HOk P w H h) (k:∀b u,h.get? b=some u->h'.get? b=some u):HOk P w H h':=λa o e =>
 (x a o e).stay (λb u _ q=>k b u q) (λ_ q=>q) λ_ _ q=>q
theorem HOk.laid (x:HOk P w H h) (k:∀b u,h.get? b=some u->h'.get? b=some u) (hp:h.objs.size<=a) (new:xi P w (upd H a o) h' a o):HOk P w (upd H a o) h':=λb u e=>by
 have hn:=x.fresh hp
 by_cases hb:b=a
 ·subst hb;rw[zg]at e;cases e;exact new
 ·rw[zB hb]at e
  exact(x b u e).stay (λc v _ q=>k c v q) (λc q=>by rw[zB (zJ q hn)];exact q) λc xs q=>by rw[zB (zJ q hn)];exact q
end
def Rd (H:Hp) (a:Addr) (u:HO):Prop:=H a=some u\/∃o,H a=some (.frz o u)
theorem Rd.ok {P:Program}{w:World}{H:Hp}{h:Heap}{a:Addr}{u:HO}(r:Rd H a u) (x:HOk P w H h):xi P w H h a u:=by
 rcases r with r | ⟨o,r⟩
 ·exact x a u r
 ·obtain⟨_,q⟩:=x a _ r
  exact q
def Mut:Option HO->Prop
 | some (.lst _)=>True
 | some (.dK _)=>True
 | some (.dT _)=>True
 | some (.set _ _)=>True
 | some (.ins _ _ _)=>True
 | some (.ext _)=>True
 | _=>False
section
variable {P:Program}{w:World}{H:Hp}{h h':Heap}{x e:Addr}{o':HO}
theorem HOk.write (ok:HOk P w H h) (mu:Mut (H x)) (he:e=x\/H e=some (.own x)) (k:∀b u,b≠e->h.get? b=some u->h'.get? b=some u) (heo:∃u,h'.get? e=some u)
  (new:xi P w (upd H x o') h' x o'):HOk P w (upd H x o') h':=λb u q=>by
 have nown:∀c y,H c=some (.own y)->c≠x:=λc y r z=>by subst z;rw[r]at mu;exact mu
 have ntup:∀c xs,H c=some (.tup xs)->c≠x:=λc xs r z=>by subst z;rw[r]at mu;exact mu
 by_cases hb:b=x
 ·subst hb;rw[zg]at q;cases q;exact new
 ·rw[zB hb]at q
  by_cases hbe:b=e
  ·have q':H b=some (.own x):=by
    rcases he with z | z
    ·exact absurd (hbe.trans z) hb
    ·rw[hbe];exact z
   rw[q]at q';cases q'
   obtain⟨v,hv⟩:=heo
   exact⟨v,by rw[hbe];exact hv⟩
  ·refine(ok b u q).stay (λc v hc r=>k c v ?_ r) (λc r=>by rw[zB (nown c b r)];exact r) λc xs r=>by rw[zB (ntup c xs r)];exact r
   rcases hc with rfl | hc
   ·exact hbe
   ·rintro rfl
    rcases he with z | z
    ·exact nown c b hc z
    ·rw[hc]at z;cases z;exact hb rfl
end
structure Un (fs ex:List Addr) (H H':Hp) (h h':Heap):Prop where
 keep:∀b o,h.get? b=some o->H b=none->b∉fs->b∉ex->h'.get? b=some o
 slot:∀b o,h.get? b=some o->H b=none->b∈fs->b∉ex->∃sl,h'.get? b=some { o with slots:=sl }
 free:∀b o,h.get? b=some o->H b=none->b∉ex->H' b=none
 there:∀b o,h.get? b=some o->b∉ex->∃o',h'.get? b=some o'
 tups:∀b xs,H b=some (.tup xs)->H' b=some (.tup xs)
 frzs:∀b o u,H b=some (.frz o u)->H' b=some (.frz o u)
 tbls:∀b ps,H b=some (.tbl ps)->∃more,H' b=some (.tbl (ps++more))
section
variable {fs fs' ex ex':List Addr}{H H1 H2:Hp}{h h1 h2 h':Heap}{a x e:Addr}{o:HO}
theorem Un.any (u:Un fs ex H H1 h h1){b:Addr}{ob:Obj}(q:h.get? b=some ob) (n:H b=none) (hx:b∉ex):∃sl,h1.get? b=some { ob with slots:=sl }:=by
 by_cases hb:b∈fs
 ·exact u.slot b ob q n hb hx
 ·exact⟨ob.slots,u.keep b ob q n hb hx⟩
theorem Un.kept (k:∀b u,h.get? b=some u->h'.get? b=some u):Un fs ex H H h h' :=
 ⟨λb ob q _ _ _=>k b ob q,λb ob q _ _ _=>⟨ob.slots,k b ob q⟩,λ_ _ _ n _=>n,λb ob q _=>⟨ob,k b ob q⟩,λ_ _ q=>q,λ_ _ _ q=>q,λ_ ps q=>⟨#[],by rw[q];simp⟩⟩
theorem Un.refl:Un fs ex H H h h:=Un.kept λ_ _ q=>q
theorem Un.laid (k:∀b u,h.get? b=some u->h'.get? b=some u) (hp:h.objs.size<=a) (hn:H a=none):Un fs ex H (upd H a o) h h' where
 keep:=λb u q _ _ _=>k b u q
 slot:=λb u q _ _ _=>⟨u.slots,k b u q⟩
 free:=λb u q n _=>by rw[zB (Nat.ne_of_lt (Nat.lt_of_lt_of_le (Heap.lt_size q) hp))];exact n
 there:=λb u q _=>⟨u,k b u q⟩
 tups:=λb xs q=>by rw[zB (zJ q hn)];exact q
 frzs:=λb u xs q=>by rw[zB (zJ q hn)];exact q
 tbls:=λb ps q=>⟨#[],by rw[zB (zJ q hn),q];simp⟩
theorem Un.write (mu:Mut (H x)) (he:e=x\/H e=some (.own x)) (k:∀b u,b≠e->h.get? b=some u->h'.get? b=some u) (heo:∃u,h'.get? e=some u):Un fs ex H (upd H x o) h h':=by
 have hx:∀b,H b=none->b≠x:=λb n z=>by subst z;rw[n]at mu;exact mu
 have hb:∀b,H b=none->b≠e:=λb n z=>by
  subst z
  rcases he with r | r
  ·exact hx b n r
  ·rw[n]at r;cases r
 have hm:∀b u,H b=some u->¬Mut (some u)->b≠x:=λb u q nm z=>by subst z;rw[q]at mu;exact nm mu
 refine⟨λb u q n _ _=>k b u (hb b n) q,λb u q n _ _=>⟨u.slots,k b u (hb b n) q⟩,λb u q n _=>by rw[zB (hx b n)];exact n,λb u q _=>?_,
  λb xs q=>by rw[zB (hm b _ q λz=>z)];exact q,λb u xs q=>by rw[zB (hm b _ q λz=>z)];exact q,λb ps q=>⟨#[],by rw[zB (hm b _ q λz=>z),q];simp⟩⟩
 by_cases hbe:b=e
 ·subst hbe;exact heo
 ·exact⟨u,k b u hbe q⟩
end
def trk (h:Heap) (H:Hp):List Addr:=(List.range h.objs.size).filter λa=>(H a).isSome
def Qc (h:Heap) (H:Hp):Heap:=PySem.W.hideAll h (trk h H)
theorem JF (h:Heap) (H:Hp):(Qc h H).objs.size=h.objs.size:=PySem.W.hideAll_size _ _
theorem zap {h:Heap}{H:Hp}{b:Addr}{o:Obj}(e:h.get? b=some o) (n:H b=none):(Qc h H).get? b=some o :=
 PySem.W.hideAll_get _ e λhm=>by
  have q:(H b).isSome=true:=(List.mem_filter.mp hm).2
  rw[n]at q;simp at q
theorem zbM {h:Heap}{H:Hp}{b:Addr}{o:Obj}(e:(Qc h H).get? b=some o):h.get? b=some o/\H b=none:=by
 have e':h.get? b=some o:=PySem.W.of_hideAll (trk h H) e
 refine⟨e',?_⟩
 cases q:H b with
 | none=>rfl
 | some x =>
  have hm:b∈trk h H:=List.mem_filter.mpr ⟨List.mem_range.mpr (Heap.lt_size e'),by simp[q]⟩
  have z:(Qc h H).get? b=none:=PySem.W.hideAll_none (trk h H) hm
  rw[z]at e;cases e
end L2
namespace L2
open PySem PySem.Spec PyProof.Rows
structure Mod (K:PySem.W.Frag) (mg:Str->Option Value) (base:Heap):Prop where
 kin:K.In base
 glob:base.Ns mainGlobals mg
 blt:∃mb,base.Ns builtinsNs mb/\∀x:Str,x≠"__name__"->mb x=bootBuiltins x
 nolimit:base.NoLimit
structure Cx where
 prog:Program
 w:World
 K:PySem.W.Frag
 mg:Str->Option Value
 base:Heap
 A:Around
 N:List Str
 s₀:Shared
 H₀:Hp
 env:Env
 outer:List Env
 stack:List Env
 ex:List Addr
 fn:Str->Bool
 calm:Bool
 pn:List (Addr×Obj)
 xe:Value->Shared->Prop
def frs (l:List Env):List Addr:=l.filterMap (·.frame)
abbrev Cx.fs (X:Cx):List Addr:=frs X.outer
def Vis (sc:Scope) (x:Str):Prop:=sc.names.lookup x=some .local ∨ sc.names.lookup x=some .cell\/sc.names.lookup x=some .free
def Loc (sc:Scope) (x:Str):Prop:=sc.names.lookup x=some .local ∨ sc.names.lookup x=some .cell
def Look (env:Env) (h:Heap) (m:Str->Option Value) (x:Str) (u:Value):Prop :=
 (env.kindOf x=some .local ∧ m x=some u)\/((env.kindOf x=some .cell\/env.kindOf x=some .free)/\∃c,env.cells.lookup x=some c/\h.IsCell c (some u))
structure Cx.Ok (X:Cx):Prop where
 mod:Mod X.K X.mg X.base
 kind:X.env.scope.kind = .function
 glob:X.env.globals=mainGlobals
 blt:X.env.builtins=builtinsNs
 above:X.s₀.heap.objs.size<=X.env.locals
 inj:∀x y c,X.env.cells.lookup x=some c->X.env.cells.lookup y=some c->x=y
 has:∀x,(X.env.kindOf x=some .cell\/X.env.kindOf x=some .free)->∃c,X.env.cells.lookup x=some c
 cab:∀x c,X.fn x=true->X.env.cells.lookup x=some c->X.s₀.heap.objs.size<=c
 hd:X.calm=true->X.A.handled=none
 frames:X.A.frames=some X.stack
 stk:X.stack=X.outer\/(X.stack=X.env::X.outer/\X.env.frame=some X.env.locals)
 exf:∀b∈X.ex,b≠X.env.locals/\∀x c,X.env.cells.lookup x=some c->c≠b
 bs:∀b o,X.base.get? b=some o->X.s₀.heap.get? b=some o/\X.H₀ b=none
 bsz:X.base.objs.size<=X.s₀.heap.objs.size
 noex:∀b o,X.base.get? b=some o->b∉X.ex
 exfs:∀b∈X.ex,b∉X.fs
 funs:X.s₀.heap.FunFrames X.base X.outer
 frf:∀b∈X.fs,X.H₀ b=none
structure Inv (X:Cx) (pins:List (Addr×Obj)) (σ:List (Option V)) (H:Hp) (s:Shared):Prop where
 ok:X.Ok
 os:s.os=X.s₀.os
 bare:AllBare s.gens
 base:Un X.fs X.ex X.H₀ H X.s₀.heap s.heap
 loc:∃m,s.heap.Ns X.env.locals m/\∀(i:Nat) (x:Str) (v:V),X.N[i]? = some x->σ[i]? = some (some v)->Vis X.env.scope x->∃u,zQ v u/\Look X.env s.heap m x u
 cell:∀x c,X.env.cells.lookup x=some c->∃v,s.heap.IsCell c v
 free:H X.env.locals=none
 freeC:∀x c,X.env.cells.lookup x=some c->H c=none
 pin:∀p∈X.pn++pins,s.heap.get? p.1=some p.2/\H p.1=none/\p.1≠X.env.locals/\p.1∉X.fs/\∀v,p.2.data≠.cell v
 hok:HOk X.prog X.w H s.heap
 len:σ.length=X.N.length
section
variable {X:Cx}{pins:List (Addr×Obj)}{σ:List (Option V)}{H H':Hp}{s:Shared}{h':Heap}
theorem Cx.Ok.nofr (ok:X.Ok){b:Addr}{o:Obj}(e:X.base.get? b=some o):b∉X.fs:=λhb=>by
 have:=(ok.funs.mem hb).1
 rw[e]at this;cases this
theorem Inv.bs (I:Inv X pins σ H s):∀b o,X.base.get? b=some o->s.heap.get? b=some o/\H b=none:=λb o e =>
 ⟨I.base.keep b o (I.ok.bs b o e).1 (I.ok.bs b o e).2 (I.ok.nofr e) (I.ok.noex b o e),I.base.free b o (I.ok.bs b o e).1 (I.ok.bs b o e).2 (I.ok.noex b o e)⟩
theorem Inv.bk (I:Inv X pins σ H s):∀b o,X.base.get? b=some o->s.heap.get? b=some o:=λb o e=>(I.bs b o e).1
theorem Inv.mod (I:Inv X pins σ H s):Mod X.K X.mg X.base:=I.ok.mod
theorem Inv.kIn (I:Inv X pins σ H s):X.K.In s.heap:=I.ok.mod.kin.keeps I.bk
theorem Inv.lt (I:Inv X pins σ H s):X.env.locals<s.heap.objs.size:=let ⟨_,hn,_⟩:=I.loc;hn.lt
theorem Inv.sz (I:Inv X pins σ H s):X.s₀.heap.objs.size<=s.heap.objs.size:=Nat.le_trans I.ok.above (Nat.le_of_lt I.lt)
theorem Inv.nofs (I:Inv X pins σ H s){a:Addr}(h:s.heap.objs.size<=a):a∉X.fs:=λhb=>by
 obtain⟨_,o,ho,_⟩:=I.ok.funs.mem hb
 exact absurd (Nat.lt_of_lt_of_le (Heap.lt_size ho) (Nat.le_trans I.sz h)) (Nat.lt_irrefl _)
theorem Inv.cne (I:Inv X pins σ H s):∀x c,X.env.cells.lookup x=some c->c≠X.env.locals:=λx c e z=>by
 obtain⟨v,o,ho,hd⟩:=I.cell x c e
 obtain⟨m,⟨o',es,ep,ho',hd',_⟩,_⟩:=I.loc
 rw[z,ho']at ho;cases ho;rw[hd']at hd;cases hd
theorem Inv.funs (I:Inv X pins σ H s):s.heap.FunFrames X.base X.outer:=by
 have all:∀(l:List Env),(∀b∈frs l,b∈X.fs)->X.s₀.heap.FunFrames X.base l->s.heap.FunFrames X.base l:=by
  intro l
  induction l with
  | nil=>intro _ _;trivial
  | cons env r ih =>
   intro hs hl
   obtain⟨hk,⟨L,o,hf,hn,ho,hd⟩,hr⟩:=hl
   have hL:L∈X.fs:=hs L (by unfold frs;rw[List.filterMap_cons,hf];exact List.mem_cons_self)
   obtain⟨sl,e⟩:=I.base.slot L o ho (I.ok.frf L hL) hL λz=>I.ok.exfs L z hL
   exact⟨hk,⟨L,_,hf,hn,e,hd⟩,ih (λb hb=>hs b (by unfold frs;rw[List.filterMap_cons,hf];exact List.mem_cons_of_mem _ hb)) hr⟩
 exact all X.outer (λ_ hb=>hb) I.ok.funs
theorem Inv.stack (I:Inv X pins σ H s):s.heap.FunFrames X.base X.stack:=by
 rcases I.ok.stk with e | ⟨e,hf⟩
 ·rw[e];exact I.funs
 ·rw[e]
  obtain⟨m,hn,_⟩:=I.loc
  refine .cons (by rw[I.ok.kind];decide) hf hn ?_ I.funs
  exact Heap.get?_none_of_le (Nat.le_trans I.ok.bsz I.ok.above)
theorem Inv.stkSub (I:Inv X pins σ H s):∀b∈frs X.stack,b∈X.env.locals::X.fs:=λb hb=>by
 rcases I.ok.stk with e | ⟨e,hf⟩
 ·rw[e]at hb;exact List.mem_cons_of_mem _ hb
 ·rw[e]at hb
  unfold frs at hb
  rw[List.filterMap_cons,hf]at hb
  exact hb
theorem Inv.stkFree (I:Inv X pins σ H s):∀b∈frs X.stack,H b=none:=λb hb=>by
 rcases List.mem_cons.mp (I.stkSub b hb)with e | hb
 ·rw[e];exact I.free
 ·obtain⟨_,o,ho,_⟩:=I.ok.funs.mem hb
  exact I.base.free b o ho (I.ok.frf b hb) λz=>I.ok.exfs b z hb
theorem Inv.step {g':Array GenState}{t':Nat}{d':Drawn}{ch:List Addr}(I:Inv X pins σ H s)
  (hch:∀b∈ch,(b∈X.ex\/X.s₀.heap.objs.size<=b)/\b≠X.env.locals/\(∀x c,X.env.cells.lookup x=some c->c≠b)/\∀p∈X.pn++pins,p.1≠b)
  (keep:∀b o,b≠X.env.locals->b∉X.fs->b∉ch->s.heap.get? b=some o->H b=none->h'.get? b=some o)
  (slot:∀b o,b≠X.env.locals->b∈X.fs->b∉ch->s.heap.get? b=some o->H b=none->∃sl,h'.get? b=some { o with slots:=sl }) (free:∀b o,b∉ch->s.heap.get? b=some o->H b=none->H' b=none)
  (there:∀b o,b∉ch->s.heap.get? b=some o->∃o',h'.get? b=some o')
  (tups:∀b xs,H b=some (.tup xs)->H' b=some (.tup xs)) (frzs:∀b o u,H b=some (.frz o u)->H' b=some (.frz o u)) (tbls:∀b ps,H b=some (.tbl ps)->∃more,H' b=some (.tbl (ps++more)))
  (ns:∀m,s.heap.Ns X.env.locals m->h'.Ns X.env.locals m) (hok:HOk X.prog X.w H' h') (hg:AllBare g') :
  Inv X pins σ H' { s with heap:=h',gens:=g',drawn:=d',toks:=t' }:=by
 have neL:∀b o,X.s₀.heap.get? b=some o->b≠X.env.locals:=λb o e=>Nat.ne_of_lt (Nat.lt_of_lt_of_le (Heap.lt_size e) I.ok.above)
 have neC:∀b o,X.s₀.heap.get? b=some o->b∉X.ex->b∉ch:=λb o e hx hb=>by
  rcases(hch b hb).1 with z | z
  ·exact hx z
  ·exact absurd (Nat.lt_of_lt_of_le (Heap.lt_size e) z) (Nat.lt_irrefl _)
 have cellK:∀x c,X.env.cells.lookup x=some c->∀v,s.heap.IsCell c v->h'.IsCell c v:=λx c e v ⟨o,ho,hd⟩=>by
  have nch:c∉ch:=λz=>(hch c z).2.2.1 x c e rfl
  by_cases hc:c∈X.fs
  ·obtain⟨sl,q⟩:=slot c o (I.cne x c e) hc nch ho (I.freeC x c e)
   exact⟨_,q,hd⟩
  ·exact⟨o,keep c o (I.cne x c e) hc nch ho (I.freeC x c e),hd⟩
 refine⟨I.ok,I.os,hg,⟨λb o e n hb hx=>?_,λb o e n hb hx=>?_,λb o e n hx=>?_,λb o e hx=>?_,λb xs e=>tups b xs (I.base.tups b xs e),λb o xs e=>frzs b o xs (I.base.frzs b o xs e),λb ps e=>?_⟩,?_,λx c e=>?_,?_,λx c e=>?_,λp hp=>?_,hok,I.len⟩
 ·exact keep b o (neL b o e) hb (neC b o e hx) (I.base.keep b o e n hb hx) (I.base.free b o e n hx)
 ·obtain⟨sl,e1⟩:=I.base.slot b o e n hb hx
  obtain⟨sl',e2⟩:=slot b _ (neL b o e) hb (neC b o e hx) e1 (I.base.free b o e n hx)
  exact⟨sl',e2⟩
 ·obtain⟨o',e1⟩:=I.base.there b o e hx
  exact free b o' (neC b o e hx) e1 (I.base.free b o e n hx)
 ·obtain⟨o',e1⟩:=I.base.there b o e hx
  exact there b o' (neC b o e hx) e1
 ·obtain⟨m1,e1⟩:=I.base.tbls b ps e
  obtain⟨m2,e2⟩:=tbls b _ e1
  exact⟨m1++m2,by rw[e2,Array.append_assoc]⟩
 ·obtain⟨m,hn,hl⟩:=I.loc
  refine⟨m,ns m hn,λi x v e1 e2 e3=>?_⟩
  obtain⟨u,r,l⟩:=hl i x v e1 e2 e3
  refine⟨u,r,?_⟩
  rcases l with l | ⟨k,c,e,z⟩
  ·exact .inl l
  ·exact .inr ⟨k,c,e,cellK x c e _ z⟩
 ·obtain⟨v,z⟩:=I.cell x c e
  exact⟨v,cellK x c e v z⟩
 ·obtain⟨m,⟨o,_,_,ho,_⟩,_⟩:=I.loc
  exact free _ o (λz=>(hch _ z).2.1 rfl) ho I.free
 ·obtain⟨v,o,ho,hd⟩:=I.cell x c e
  exact free c o (λz=>(hch c z).2.2.1 x c e rfl) ho (I.freeC x c e)
 ·obtain⟨e,n,ne,nf,d⟩:=I.pin p hp
  have nch:p.1∉ch:=λz=>(hch p.1 z).2.2.2 p hp rfl
  exact⟨keep p.1 p.2 ne nf nch e n,free p.1 p.2 nch e n,ne,nf,d⟩
theorem Inv.un {t':Nat}(I:Inv X pins σ H s) (u:Un X.fs [] H H' s.heap h') (hok:HOk X.prog X.w H' h'):Inv X pins σ H' { s with heap:=h',toks:=t' }:=by
 obtain⟨m,⟨o,es,ep,ho,r⟩,_⟩:=id I.loc
 obtain⟨sl,hL⟩:=u.any ho I.free (by simp)
 exact I.step (g':=s.gens) (d':=s.drawn) (ch:=[]) (λ_ z=>nomatch z) (λb o _ hb _ e n=>u.keep b o e n hb (by simp)) (λb o _ hb _ e n=>u.slot b o e n hb (by simp)) (λb o _ e n=>u.free b o e n (by simp)) (λb o _ e=>u.there b o e (by simp)) u.tups u.frzs u.tbls (λm' hm=>by
  obtain⟨o',es',ep',ho',r'⟩:=hm
  rw[ho]at ho';cases ho'
  exact⟨_,es',ep',hL,r'⟩) hok I.bare
theorem Inv.call {g':Array GenState}{t':Nat}{d':Drawn}{ch:List Addr}(I:Inv X pins σ H s) (u:Un (frs X.stack) ch H H' s.heap h') (hok:HOk X.prog X.w H' h') (hg:AllBare g')
  (hch:∀b∈ch,(b∈X.ex\/X.s₀.heap.objs.size<=b)/\b≠X.env.locals/\(∀x c,X.env.cells.lookup x=some c->c≠b)/\∀p∈X.pn++pins,p.1≠b) :
  Inv X pins σ H' { s with heap:=h',gens:=g',drawn:=d',toks:=t' }:=by
 obtain⟨m,⟨o,es,ep,ho,r⟩,_⟩:=id I.loc
 obtain⟨sl,hL⟩:=u.any ho I.free λz=>(hch _ z).2.1 rfl
 exact I.step (ch:=ch) hch (λb o hL hb hc e n=>u.keep b o e n (λz=>(List.mem_cons.mp (I.stkSub b z)).elim hL hb) hc) (λb o _ _ hc e n=>u.any e n hc) (λb o hc e n=>u.free b o e n hc) (λb o hc e=>u.there b o e hc) u.tups u.frzs u.tbls (λm' hm=>by
  obtain⟨o',es',ep',ho',r'⟩:=hm
  rw[ho]at ho';cases ho'
  exact⟨_,es',ep',hL,r'⟩) hok hg
theorem Inv.turned {t':Nat}{it:Addr}(I:Inv X pins σ H s) (k:∀b o,b≠it->s.heap.get? b=some o->h'.get? b=some o) (hn:H it=none) (hL:it≠X.env.locals)
  (h1:it∈X.ex\/X.s₀.heap.objs.size<=it) (h2:∀x c,X.env.cells.lookup x=some c->c≠it) (h3:∀p∈X.pn++pins,p.1≠it):Inv X pins σ H { s with heap:=h',toks:=t' }:=by
 have nit:∀b u,H b=some u->b≠it:=λb u e z=>by rw[z,hn]at e;cases e
 refine I.step (g':=s.gens) (d':=s.drawn) (ch:=[it]) (λb hb=>?_) (λb o _ _ hc e _=>k b o (λz=>hc (by simp[z])) e) (λb o _ _ hc e _=>⟨o.slots,k b o (λz=>hc (by simp[z])) e⟩) (λ_ _ _ _ n=>n)
  (λb o hc e=>⟨o,k b o (λz=>hc (by simp[z])) e⟩) (λ_ _ e=>e) (λ_ _ _ e=>e) (λb ps e=>⟨#[],by rw[e];simp⟩) (λm hm=>?_) (λb u e=>?_) I.bare
 ·have e:b=it:=by simpa using hb
  subst e
  exact⟨h1,hL,h2,h3⟩
 ·obtain⟨o,es,ep,ho,r⟩:=hm
  exact⟨o,es,ep,k _ o (Ne.symm hL) ho,r⟩
 ·refine(I.hok b u e).stay (λc v hc q=>k c v ?_ q) (λ_ q=>q) λ_ _ q=>q
  rcases hc with z | z
  ·rw[z];exact nit b u e
  ·exact nit c _ z
theorem Inv.tok (I:Inv X pins σ H s) (t:Nat):Inv X pins σ H { s with toks:=t }:=I.un (h':=s.heap) (t':=t) Un.refl I.hok
theorem Inv.kept {t':Nat}(I:Inv X pins σ H s) (k:∀b u,s.heap.get? b=some u->h'.get? b=some u):Inv X pins σ H { s with heap:=h',toks:=t' }:=I.un (Un.kept k) (I.hok.kept k)
theorem Inv.laid {a:Addr}{o:HO}{t':Nat}(I:Inv X pins σ H s) (k:∀b u,s.heap.get? b=some u->h'.get? b=some u) (hp:s.heap.objs.size<=a) (new:xi X.prog X.w (upd H a o) h' a o) :
  Inv X pins σ (upd H a o) { s with heap:=h',toks:=t' }:=I.un (Un.laid k hp (I.hok.fresh hp)) (I.hok.laid k hp new)
theorem Inv.write {x e:Addr}{o:HO}{t':Nat}(I:Inv X pins σ H s) (mu:Mut (H x)) (he:e=x\/H e=some (.own x)) (k:∀b u,b≠e->s.heap.get? b=some u->h'.get? b=some u) (heo:∃u,h'.get? e=some u)
  (new:xi X.prog X.w (upd H x o) h' x o):Inv X pins σ (upd H x o) { s with heap:=h',toks:=t' }:=I.un (Un.write mu he k heo) (I.hok.write mu he k heo new)
theorem Inv.pins_of {pins':List (Addr×Obj)} (I:Inv X pins σ H s) (h:∀p∈pins',s.heap.get? p.1=some p.2/\H p.1=none/\p.1≠X.env.locals/\p.1∉X.fs/\∀v,p.2.data≠.cell v):Inv X pins' σ H s :=
 ⟨I.ok,I.os,I.bare,I.base,I.loc,I.cell,I.free,I.freeC,λp hp=>(List.mem_append.mp hp).elim (λz=>I.pin p (List.mem_append_left _ z)) (h p),I.hok,I.len⟩
theorem QL {N:List Str}(hN:N.Nodup){i j:Nat}{x:Str}(a:N[i]? = some x) (b:N[j]? = some x):i=j:=by
 obtain⟨h1,e1⟩:=List.getElem?_eq_some_iff.mp a
 obtain⟨h2,e2⟩:=List.getElem?_eq_some_iff.mp b
 exact(List.getElem_inj hN).mp (e1.trans e2.symm)
theorem XT {M:Model}{A:Around}{E:Value->Shared->Prop}{i:Nat}{x:Str}{v:V}{u:Value}{Q:Unit->Shared->Prop}(I:Inv X pins σ H s) (hN:X.N.Nodup) (hi:X.N[i]? = some x) (hx:Loc X.env.scope x) (r:zQ v u)
  (h:∀s',Inv X pins (σ.set i (some v)) H s'->(∃a,Heap.SameBut a s.heap s'.heap/\(a=X.env.locals\/X.env.cells.lookup x=some a))->Q () s') (hf:X.fn x=true\/X.env.scope.names.lookup x=some .local := by first | exact .inl rfl | exact .inr rfl | assumption):wpAny M A (storeName X.env x u) Q E s:=by
 obtain⟨m,hn,hl⟩:=id I.loc
 have hcls:(X.env.scope.kind == .class || (X.env.scope.kind == .module&&X.env.locals != X.env.globals))=false:=by rw[I.ok.kind];rfl
 have hiσ:i<σ.length:=by rw[I.len];exact(List.getElem?_eq_some_iff.mp hi).1
 have cne:=I.cne
 have tracked:∀{a:Addr}{h':Heap},(∃o,s.heap.get? a=some o/\H a=none)->Heap.SameBut a s.heap h'->HOk X.prog X.w H h':=λ{a h'} ha hs b ob e=>by
  obtain⟨_,_,hfree⟩:=ha
  refine(I.hok b ob e).stay (λc w' hc q=>(hs.2 c ?_).trans q) (λ_ q=>q) λ_ _ q=>q
  rintro rfl
  rcases hc with rfl | hc
  ·rw[hfree]at e;cases e
  ·rw[hfree]at hc;cases hc
 rcases hx with hk | hk
 ·refine wpAny_storeName_local hk hn (λh' hn' hs=>?_) hcls
  obtain⟨oL,_,_,hoL,_⟩:=id hn
  refine h _ ⟨I.ok,I.os,I.bare,⟨λb o e n hb hx=>?_,λb o e n hb hx=>?_,I.base.free,λb o e hx=>?_,I.base.tups,I.base.frzs,I.base.tbls⟩,⟨_,hn',λj y v' e1 e2 e3=>?_⟩,λy c e=>?_,I.free,I.freeC,λp hp=>?_,tracked ⟨oL,hoL,I.free⟩ hs,by simpa using I.len⟩ ⟨_,hs,.inl rfl⟩
  ·exact(hs.2 b (Nat.ne_of_lt (Nat.lt_of_lt_of_le (Heap.lt_size e) I.ok.above))).trans (I.base.keep b o e n hb hx)
  ·obtain⟨sl,e1⟩:=I.base.slot b o e n hb hx
   exact⟨sl,(hs.2 b (Nat.ne_of_lt (Nat.lt_of_lt_of_le (Heap.lt_size e) I.ok.above))).trans e1⟩
  ·obtain⟨o',e1⟩:=I.base.there b o e hx
   exact⟨o',(hs.2 b (Nat.ne_of_lt (Nat.lt_of_lt_of_le (Heap.lt_size e) I.ok.above))).trans e1⟩
  ·by_cases hj:j=i
   ·subst hj
    rw[hi]at e1;cases e1
    rw[List.getElem?_set_self hiσ]at e2
    cases e2
    exact⟨u,r,.inl ⟨hk,by simp⟩⟩
   ·rw[List.getElem?_set_ne (Ne.symm hj)]at e2
    obtain⟨u',r',q⟩:=hl j y v' e1 e2 e3
    refine⟨u',r',?_⟩
    rcases q with⟨k,e⟩ | ⟨k,c,e,z⟩
    ·refine .inl ⟨k,?_⟩
     have:y≠x:=λe=>hj (QL hN e1 (e ▸ hi))
     simp[this,e]
    ·exact .inr ⟨k,c,e,z.sameBut hs (cne y c e)⟩
  ·obtain⟨w',z⟩:=I.cell y c e
   exact⟨w',z.sameBut hs (cne y c e)⟩
  ·obtain⟨e,n,ne,nf,d⟩:=I.pin p hp
   exact⟨(hs.2 p.1 ne).trans e,n,ne,nf,d⟩
 ·have hfn:X.fn x=true:=by
   rcases hf with z | z
   ·exact z
   ·rw[z]at hk;cases hk
  obtain⟨c,hc⟩:=I.ok.has x (.inl hk)
  obtain⟨w',z⟩:=I.cell x c hc
  refine wpAny_storeName_cell I.ok.kind hk hc z (λh' hc' hs=>?_)
  obtain⟨oc,hoc,hocd⟩:=id z
  refine h { s with heap:=h' } ⟨I.ok,I.os,I.bare,⟨λb o e n hb hx=>?_,λb o e n hb hx=>?_,I.base.free,λb o e hx=>?_,I.base.tups,I.base.frzs,I.base.tbls⟩,⟨m,hn.sameBut hs (Ne.symm (cne x c hc)),λj y v' e1 e2 e3=>?_⟩,λy c' e=>?_,I.free,I.freeC,λp hp=>?_,tracked ⟨oc,hoc,I.freeC x c hc⟩ hs,by simpa using I.len⟩ ⟨c,hs,.inr hc⟩
  ·exact(hs.2 b (Nat.ne_of_lt (Nat.lt_of_lt_of_le (Heap.lt_size e) (I.ok.cab x c hfn hc)))).trans (I.base.keep b o e n hb hx)
  ·obtain⟨sl,e1⟩:=I.base.slot b o e n hb hx
   exact⟨sl,(hs.2 b (Nat.ne_of_lt (Nat.lt_of_lt_of_le (Heap.lt_size e) (I.ok.cab x c hfn hc)))).trans e1⟩
  ·obtain⟨o',e1⟩:=I.base.there b o e hx
   exact⟨o',(hs.2 b (Nat.ne_of_lt (Nat.lt_of_lt_of_le (Heap.lt_size e) (I.ok.cab x c hfn hc)))).trans e1⟩
  ·by_cases hj:j=i
   ·subst hj
    rw[hi]at e1;cases e1
    rw[List.getElem?_set_self hiσ]at e2
    cases e2
    exact⟨u,r,.inr ⟨.inl hk,c,hc,hc'⟩⟩
   ·rw[List.getElem?_set_ne (Ne.symm hj)]at e2
    obtain⟨u',r',q⟩:=hl j y v' e1 e2 e3
    refine⟨u',r',?_⟩
    rcases q with q | ⟨k,c',e,z'⟩
    ·exact .inl q
    ·refine .inr ⟨k,c',e,z'.sameBut hs ?_⟩
     rintro rfl
     exact hj (QL hN e1 (I.ok.inj _ _ _ e hc ▸ hi))
  ·by_cases hcc:c'=c
   ·subst hcc;exact⟨_,hc'⟩
   ·obtain⟨w2,z2⟩:=I.cell y c' e
    exact⟨w2,z2.sameBut hs hcc⟩
  ·obtain⟨e,n,ne,nf,d⟩:=I.pin p hp
   refine⟨(hs.2 p.1 ?_).trans e,n,ne,nf,d⟩
   intro q
   rw[q,hoc]at e
   have q':oc=p.2:=Option.some.inj e
   exact d w' (by rw[<-q'];exact hocd)
theorem j9 {M:Model}{A:Around}{E:Value->Shared->Prop}{i:Nat}{x:Str}{v:V}{u:Value}{Q:Unit->Shared->Prop}(I:Inv X pins σ H s) (hN:X.N.Nodup) (hi:X.N[i]? = some x) (hx:Loc X.env.scope x) (r:zQ v u)
  (h:∀s',Inv X pins (σ.set i (some v)) H s'->Q () s') (hf:X.fn x=true\/X.env.scope.names.lookup x=some .local := by first | exact .inl rfl | exact .inr rfl | assumption):wpAny M A (storeName X.env x u) Q E s :=
 XT I hN hi hx r (λs' I' _=>h s' I') hf
theorem Inv.call' {s':Shared}{ch:List Addr}(I:Inv X pins σ H s) (ho:s'.os=s.os) (u:Un (frs X.stack) ch H H' s.heap s'.heap) (hok:HOk X.prog X.w H' s'.heap) (hg:AllBare s'.gens)
  (hch:∀b∈ch,(b∈X.ex\/X.s₀.heap.objs.size<=b)/\b≠X.env.locals/\(∀x c,X.env.cells.lookup x=some c->c≠b)/\∀p∈X.pn++pins,p.1≠b):Inv X pins σ H' s':=by
 obtain⟨h',g',d',t',o'⟩:=s'
 have e:o'=s.os:=ho
 subst e
 exact I.call (g':=g') (t':=t') (d':=d') u hok hg hch
end
abbrev XK:=Value->Option Addr->Hp->Prop
abbrev St:=List (Option V)
abbrev VK:=V->Hp->Prop
abbrev TE:=St->Hp->VK->Prop
abbrev TT:=St->Hp->(Bool->Hp->Prop)->Prop
abbrev TA:=St->Hp->(List V->Hp->Prop)->Prop
structure je where
 nx:St->Hp->Prop
 rt:VK
 bk:St->Hp->Prop:=λ_ _=>False
 ct:St->Hp->Prop:=λ_ _=>False
abbrev TS:=je->St->Hp->Prop
def EP (X:Cx) (pins:List (Addr×Obj)) (σ:St) (Q:VK) (u:Value) (s':Shared):Prop:=∃v H',Inv X pins σ H' s'/\zQ v u/\Q v H'
def TP (X:Cx) (pins:List (Addr×Obj)) (σ:St) (Q:Bool->Hp->Prop) (b:Bool) (s':Shared):Prop:=∃H',Inv X pins σ H' s'/\Q b H'
def AP (X:Cx) (pins:List (Addr×Obj)) (σ:St) (Q:List V->Hp->Prop) (us:List Value) (s':Shared):Prop:=∃vs H',Inv X pins σ H' s'/\zK vs us/\Q vs H'
def SP (X:Cx) (pins:List (Addr×Obj)) (D:je) (f:Flow) (s':Shared):Prop :=
 match f with
 | .next=>∃σ' H',Inv X pins σ' H' s'/\D.nx σ' H'
 | .brk=>∃σ' H',Inv X pins σ' H' s'/\D.bk σ' H'
 | .cont=>∃σ' H',Inv X pins σ' H' s'/\D.ct σ' H'
 | .ret u=>∃v σ' H',Inv X pins σ' H' s'/\zQ v u/\D.rt v H'
def PE (X:Cx) (e:Expr) (t:TE):Prop :=
 ∀(pins:List (Addr×Obj)) (s:Shared) (σ:St) (H:Hp) (Q:VK),Inv X pins σ H s->t σ H Q->wpAny (model X.prog X.w) X.A (eval e X.env) (EP X pins σ Q) X.xe s
def PT (X:Cx) (e:Expr) (t:TT):Prop :=
 ∀(pins:List (Addr×Obj)) (s:Shared) (σ:St) (H:Hp) (Q:Bool->Hp->Prop),Inv X pins σ H s->t σ H Q->wpAny (model X.prog X.w) X.A (isTrue e X.env (eval e X.env)) (TP X pins σ Q) X.xe s
def PW (X:Cx) (e:Expr) (t:TT):Prop :=
 ∀(whole:Sem Value) (pins:List (Addr×Obj)) (s:Shared) (σ:St) (H:Hp) (Q:Bool->Hp->Prop),Inv X pins σ H s->t σ H Q->wpAny (model X.prog X.w) X.A (isTrue e X.env whole) (TP X pins σ Q) X.xe s
theorem PW.pt {X:Cx}{e:Expr}{t:TT}(h:PW X e t):PT X e t:=h _
def PA (X:Cx) (es:List Expr) (t:TA):Prop :=
 ∀(pos:Pos) (pins:List (Addr×Obj)) (s:Shared) (σ:St) (H:Hp) (Q:List V->Hp->Prop),Inv X pins σ H s->t σ H Q->wpAny (model X.prog X.w) X.A (spliced (backTo pos (starEach es X.env))) (AP X pins σ Q) X.xe s
def PS (X:Cx) (st:Stmt) (t:TS):Prop :=
 ∀(pins:List (Addr×Obj)) (s:Shared) (σ:St) (H:Hp) (D:je),Inv X pins σ H s->t D σ H->wpAny (model X.prog X.w) X.A (exec st X.env) (SP X pins D) X.xe s
def PSs (X:Cx) (st:List Stmt) (t:TS):Prop :=
 ∀(pins:List (Addr×Obj)) (s:Shared) (σ:St) (H:Hp) (D:je),Inv X pins σ H s->t D σ H->wpAny (model X.prog X.w) X.A (execs st X.env) (SP X pins D) X.xe s
theorem thn {α:Type}{t:Sem α}{Q Q':α->Shared->Prop}{M:Model}{A:Around}{E:Value->Shared->Prop}{s:Shared}(h:wpAny M A t Q E s) (hQ:∀a s,Q a s->Q' a s):wpAny M A t Q' E s:=wpAny_mono h hQ λ_ _ x=>x
end L2
namespace L2
open PySem PySem.Spec PyProof.Rows
section
variable {X:Cx}
def xN (i:Nat):TE:=λσ H Q=>∃v,σ[i]? = some (some v)/\Q v H
def tC (v:V):TE:=λ_ H Q=>Q v H
theorem zdA {i:Nat}{x:Str}{pos:Pos}(hN:X.N[i]? = some x) (hv:Vis X.env.scope x) (hd:(x == ("__debug__":Str))=false:=by decide) (hcd:(x == ("__classdict__":Str))=false:=by decide):PE X (.Name x pos) (xN i):=by
 intro pins s σ H Q I h
 obtain⟨v,e,h⟩:=h
 obtain⟨m,hn,hl⟩:=I.loc
 obtain⟨u,r,l⟩:=hl i x v hN e hv
 have fin:EP X pins σ Q u s:=⟨v,H,I,r,h⟩
 rcases l with⟨hk,hm⟩ | ⟨hk,c,hc,hcell⟩
 ·exact wpAny_Name (wpAny_loadName_local I.ok.kind hk hn hm fin) hd
 ·rcases hk with hk | hk
  ·exact wpAny_Name (wpAny_loadName_cell I.ok.kind hk hc hcell fin) hd
  ·exact wpAny_Name (wpAny_loadName_free I.ok.kind hk hc hcell fin hcd) hd
theorem zd {i j pos}:PE X (.Constant (.int i) j pos) (tC (.int i)):=λ_ _ _ H _ I h=>wpAny_Constant_int ⟨.int i,H,I.tok _,⟨_,rfl⟩,h⟩
theorem vF {b j pos}:PE X (.Constant (.bool b) j pos) (tC (.bl b)):=λ_ _ _ H _ I h=>Constant_bool ⟨.bl b,H,I,rfl,h⟩
theorem qh {j pos}:PE X (.Constant .none j pos) (tC .non):=λ_ _ _ H _ I h=>Constant_none ⟨.non,H,I,rfl,h⟩
def Gl (X:Cx) (x:Str):Prop:=X.env.kindOf x=some .globalImplicit
theorem Qg {E:Value->Shared->Prop}{pins:List (Addr×Obj)}{s:Shared}{σ:St}{H:Hp}{x:Str}{u:Value}{pos:Pos}{Q:Value->Shared->Prop}(I:Inv X pins σ H s) (hg:Gl X x) (hm:X.mg x=some u) (h:Q u s)
  (hd:(x == ("__debug__":Str))=false:=by decide):wpAny (model X.prog X.w) X.A (eval (.Name x pos) X.env) Q E s :=
 Calls.Name_function_global I.ok.kind hg (Calls.loadGlobal_global (by rw[I.ok.glob];exact I.mod.glob.keeps I.bk) hm h) hd
theorem jm {E:Value->Shared->Prop}{pins:List (Addr×Obj)}{s:Shared}{σ:St}{H:Hp}{x:Str}{u:Value}{pos:Pos}{Q:Value->Shared->Prop}(I:Inv X pins σ H s) (hg:Gl X x) (hm:X.mg x=none) (hv:bootBuiltins x=some u) (h:Q u s)
  (hn:x≠"__name__":=by decide) (hd:(x == ("__debug__":Str))=false:=by decide):wpAny (model X.prog X.w) X.A (eval (.Name x pos) X.env) Q E s:=by
 obtain⟨mb,h1,h2⟩:=I.mod.blt
 exact Calls.Name_function_global I.ok.kind hg (Calls.loadGlobal_builtin (by rw[I.ok.glob];exact I.mod.glob.keeps I.bk) hm (by rw[I.ok.blt];exact h1.keeps I.bk) ((h2 x hn).trans hv) h) hd
theorem Jf {x:Str}{v:V}{u:Value}{pos:Pos}(hg:Gl X x) (hm:X.mg x=some u) (r:zQ v u) (hd:(x == ("__debug__":Str))=false:=by decide):PE X (.Name x pos) (tC v) :=
 λ_ _ _ H _ I h=>Qg I hg hm ⟨v,H,I,r,h⟩ hd
theorem jX {x:Str}{v:V}{u:Value}{pos:Pos}(hg:Gl X x) (hm:X.mg x=none) (hv:bootBuiltins x=some u) (r:zQ v u) (hn:x≠"__name__":=by decide) (hd:(x == ("__debug__":Str))=false:=by decide):PE X (.Name x pos) (tC v) :=
 λ_ _ _ H _ I h=>jm I hg hm hv ⟨v,H,I,r,h⟩ hn hd
variable {a b:Expr}{ta tb:TE}{pos:Pos}
variable {tA tB':TT}{rest:List Expr}
def tAnd (t u:TT):TT:=λσ H Q=>t σ H λc H1=>if c=true then u σ H1 Q else Q false H1
def tOr (t u:TT):TT:=λσ H Q=>t σ H λc H1=>if c=true then Q true H1 else u σ H1 Q
def tNot (t:TT):TT:=λσ H Q=>t σ H λc H1=>Q (!c) H1
theorem jZ (ha:PT X a tA):PW X (.BoolOp .And [a] pos) tA:=by
 intro wh pins s σ H Q I h
 refine isTrue_and (thn (ha pins s σ H Q I h) λc s1 e=>?_)
 cases c with
 | true=>exact isTrue_and_nil e
 | false=>exact e
theorem vO (ha:PT X a tA):PW X (.BoolOp .Or [a] pos) tA:=by
 intro wh pins s σ H Q I h
 refine isTrue_or (thn (ha pins s σ H Q I h) λc s1 e=>?_)
 cases c with
 | false=>exact isTrue_or_nil e
 | true=>exact e
theorem Xi (ha:PT X a tA) (hb:PW X (.BoolOp .And (b::rest) pos) tB'):PW X (.BoolOp .And (a::b::rest) pos) (tAnd tA tB'):=by
 intro wh pins s σ H Q I h
 refine isTrue_and (thn (ha pins s σ H _ I h) λc s1 ⟨H1,I1,q1⟩=>?_)
 cases c with
 | true=>exact hb wh pins s1 σ H1 Q I1 q1
 | false=>exact⟨H1,I1,q1⟩
theorem vU (ha:PT X a tA) (hb:PW X (.BoolOp .Or (b::rest) pos) tB'):PW X (.BoolOp .Or (a::b::rest) pos) (tOr tA tB'):=by
 intro wh pins s σ H Q I h
 refine isTrue_or (thn (ha pins s σ H _ I h) λc s1 ⟨H1,I1,q1⟩=>?_)
 cases c with
 | true=>exact⟨H1,I1,q1⟩
 | false=>exact hb wh pins s1 σ H1 Q I1 q1
theorem vN (ha:PT X a tA):PT X (.UnaryOp .Not a pos) (tNot tA):=by
 intro pins s σ H Q I h
 exact isTrue_not (ha pins s σ H (λc H1=>Q (!c) H1) I h)
def ze5 (ta tb:TE):TE:=λσ H Q=>ta σ H λx H1=>∃c,x = .bl c/\if c=true then tb σ H1 Q else Q (.bl false) H1
def zd3 (ta tb:TE):TE:=λσ H Q=>ta σ H λx H1=>∃c,x = .bl c/\if c=true then Q (.bl true) H1 else tb σ H1 Q
def zfb (ta:TE):TE:=λσ H Q=>ta σ H λx H1=>∃c,x = .bl c/\Q (.bl (!c)) H1
theorem vK {op}{t:TE}(h:PE X a t):PE X (.BoolOp op [a] pos) t:=λpins s σ H Q I hw=>BoolOp_one (h pins s σ H Q I hw)
theorem qE (ha:PE X a ta) (hb:PE X (.BoolOp .And (b::rest) pos) tb):PE X (.BoolOp .And (a::b::rest) pos) (ze5 ta tb):=by
 intro pins s σ H Q I h
 refine BoolOp_and (thn (ha pins s σ H _ I h) λv s1 ⟨x,H1,I1,r1,q1⟩=>?_)
 obtain⟨c,rfl,q1⟩:=q1
 cases r1
 refine wpAny_truthy_bool ?_
 cases c with
 | true=>exact hb pins s1 σ H1 Q I1 q1
 | false=>exact⟨.bl false,H1,I1,rfl,q1⟩
theorem zeH (ha:PE X a ta) (hb:PE X (.BoolOp .Or (b::rest) pos) tb):PE X (.BoolOp .Or (a::b::rest) pos) (zd3 ta tb):=by
 intro pins s σ H Q I h
 refine BoolOp_or (thn (ha pins s σ H _ I h) λv s1 ⟨x,H1,I1,r1,q1⟩=>?_)
 obtain⟨c,rfl,q1⟩:=q1
 cases r1
 refine wpAny_truthy_bool ?_
 cases c with
 | false=>exact hb pins s1 σ H1 Q I1 q1
 | true=>exact⟨.bl true,H1,I1,rfl,q1⟩
theorem zaG (ha:PE X a ta):PE X (.UnaryOp .Not a pos) (zfb ta):=by
 intro pins s σ H Q I h
 refine UnaryOp_ (thn (ha pins s σ H _ I h) λv s1 ⟨x,H1,I1,r1,q1⟩=>?_)
 obtain⟨c,rfl,q1⟩:=q1
 cases r1
 exact not_of (wpAny_truthy_bool ⟨.bl (!c),H1,I1,rfl,q1⟩)
end
end L2
namespace L2
open PySem PySem.Spec PyProof.Rows
def SqL (K:PySem.W.Frag) (H:Hp) (a:Addr) (xs:List V):Prop :=
 Rd H a (.lst xs) ∨
  ∃(o:Obj) (its:Array Value) (n:Nat),K.lookup a=some o/\o.cls = .type "list"/\o.dict=none/\o.data = .seq its n/\its.size<=sizeLine/\zK xs its.toList
def SqT (K:PySem.W.Frag) (H:Hp) (a:Addr) (xs:List V):Prop :=
 Rd H a (.tup xs) ∨
  ∃(o:Obj) (its:Array Value) (n:Nat),K.lookup a=some o/\o.cls = .type "tuple"/\o.data = .seq its n/\its.size<=sizeLine/\zK xs its.toList
def absV:Value->Option V
 | .none=>some .non
 | .bool b=>some (.bl b)
 | .int i _=>some (.int i)
 | .str x _=>some (.str x)
 | .bytes b _=>some (.byt b)
 | .float b _=>some (.flt b)
 | .ref a=>some (.ref a)
 | .type n=>some (.ty n)
 | _=>none
theorem zQ.abs {x:V}{u:Value}(r:zQ x u):absV u=some x:=by
 cases x with
 | non=>cases r;rfl
 | bl _=>cases r;rfl
 | int _=>obtain⟨t,rfl⟩:=r;rfl
 | str _=>obtain⟨t,rfl⟩:=r;rfl
 | byt _=>obtain⟨t,rfl⟩:=r;rfl
 | flt _=>obtain⟨t,rfl⟩:=r;rfl
 | ref _=>cases r;rfl
 | ty _=>cases r;rfl
theorem zQ.inj {x y:V}{u:Value}(r:zQ x u) (q:zQ y u):x=y:=Option.some.inj (r.abs.symm.trans q.abs)
theorem zK.inj:∀{xs ys:List V}{us:List Value},zK xs us->zK ys us->xs=ys
 | _,_,_,.nil,.nil=>rfl
 | _,_,_,.cons r t,.cons r' t'=>by rw[r.inj r',zK.inj t t']
section
variable {X:Cx}{pins:List (Addr×Obj)}{σ:St}{H:Hp}{s:Shared}{a:Addr}{xs ys:List V}
theorem SqL.of {K:PySem.W.Frag}(h:H a=some (.lst xs)):SqL K H a xs:=.inl (.inl h)
theorem SqT.of {K:PySem.W.Frag}(h:H a=some (.tup xs)):SqT K H a xs:=.inl (.inl h)
theorem Inv.list (I:Inv X pins σ H s) (h:SqL X.K H a xs):∃its:List Value,zK xs its/\PlainL s.heap a its.toArray/\xs.length<=sizeLine:=by
 rcases h with h | ⟨o,its,n,hk,hc,hd,hs,hz,r⟩
 ·obtain⟨z,its,n,r,e⟩:=h.ok I.hok
  exact⟨its,r,⟨_,n,e,rfl,rfl,rfl⟩,z⟩
 ·refine⟨its.toList,r,⟨o,n,I.kIn a o hk,hc,hd,by simpa using hs⟩,?_⟩
  have e:=r.length
  simp only[Array.length_toList]at e
  omega
theorem Inv.tuple (I:Inv X pins σ H s) (h:SqT X.K H a xs):∃its:List Value,zK xs its/\IsTup s.heap a its.toArray/\xs.length<=sizeLine:=by
 rcases h with h | ⟨o,its,n,hk,hc,hs,hz,r⟩
 ·obtain⟨z,its,r,p⟩:=h.ok I.hok
  exact⟨its,r,p,z⟩
 ·refine⟨its.toList,r,⟨o,I.kIn a o hk,hc,n,by simpa using hs⟩,?_⟩
  have e:=r.length
  simp only[Array.length_toList]at e
  omega
theorem Inv.list_inj (I:Inv X pins σ H s) (h:SqL X.K H a xs) (h':SqL X.K H a ys):xs=ys:=by
 obtain⟨its,r,⟨o,n,e,_,_,d⟩,_⟩:=I.list h
 obtain⟨its',r',⟨o',n',e',_,_,d'⟩,_⟩:=I.list h'
 rw[e]at e';cases e'
 rw[d]at d'
 injection d' with d1 _
 have:its=its':=by simpa using congrArg Array.toList d1
 subst this
 exact r.inj r'
theorem Inv.tuple_inj (I:Inv X pins σ H s) (h:SqT X.K H a xs) (h':SqT X.K H a ys):xs=ys:=by
 obtain⟨its,r,⟨o,e,_,n,d⟩,_⟩:=I.tuple h
 obtain⟨its',r',⟨o',e',_,n',d'⟩,_⟩:=I.tuple h'
 rw[e]at e';cases e'
 rw[d]at d'
 injection d' with d1 _
 have:its=its':=by simpa using congrArg Array.toList d1
 subst this
 exact r.inj r'
end
abbrev Cx.wish (X:Cx) (E:Value->Shared->Prop):Cx:={ X with xe:=E }
abbrev Cx.nox (X:Cx):Cx:=X.wish λ_ _=>False
theorem Cx.Ok.wish {X:Cx}(ok:X.Ok) (E:Value->Shared->Prop):(X.wish E).Ok :=
 ⟨ok.mod,ok.kind,ok.glob,ok.blt,ok.above,ok.inj,ok.has,ok.cab,ok.hd,ok.frames,ok.stk,ok.exf,ok.bs,ok.bsz,ok.noex,ok.exfs,ok.funs,ok.frf⟩
theorem Cx.Ok.unwish {X:Cx}{E:Value->Shared->Prop}(ok:(X.wish E).Ok):X.Ok :=
 ⟨ok.mod,ok.kind,ok.glob,ok.blt,ok.above,ok.inj,ok.has,ok.cab,ok.hd,ok.frames,ok.stk,ok.exf,ok.bs,ok.bsz,ok.noex,ok.exfs,ok.funs,ok.frf⟩
section
variable {X:Cx}{pins:List (Addr×Obj)}{σ:St}{H:Hp}{s:Shared}{E:Value->Shared->Prop}
theorem Inv.wish (I:Inv X pins σ H s) (E:Value->Shared->Prop):Inv (X.wish E) pins σ H s:=⟨I.ok.wish E,I.os,I.bare,I.base,I.loc,I.cell,I.free,I.freeC,I.pin,I.hok,I.len⟩
theorem Inv.unwish (I:Inv (X.wish E) pins σ H s):Inv X pins σ H s:=⟨I.ok.unwish,I.os,I.bare,I.base,I.loc,I.cell,I.free,I.freeC,I.pin,I.hok,I.len⟩
theorem SP.unwish {D:je}{f:Flow}{s':Shared}(h:SP (X.wish E) pins D f s'):SP X pins D f s':=by
 cases f with
 | next=>obtain⟨σ',H',I,q⟩:=h;exact⟨σ',H',I.unwish,q⟩
 | brk=>obtain⟨σ',H',I,q⟩:=h;exact⟨σ',H',I.unwish,q⟩
 | cont=>obtain⟨σ',H',I,q⟩:=h;exact⟨σ',H',I.unwish,q⟩
 | ret u=>obtain⟨v,σ',H',I,r,q⟩:=h;exact⟨v,σ',H',I.unwish,r,q⟩
theorem PSs.nox {st:List Stmt}{t:TS}(h:PSs X.nox st t):PSs X st t:=λpins s σ H D I hw =>
 wpAny_mono (h pins s σ H D (I.wish _) hw) (λ_ _ q=>q.unwish) λ_ _ z=>False.elim z
end
section
variable {X:Cx}{st:Stmt}{rest:List Stmt}{t u:TS}{e:Expr}{te:TE}{pos:Pos}
def zcB:TS:=λD σ H=>D.nx σ H
def VJ (t u:TS):TS:=λD σ H=>t { D with nx:=u D } σ H
theorem zF:PSs X [] zcB:=λ_ _ σ H _ I h=>wpAny_execs_nil ⟨σ,H,I,h⟩
theorem zf (h1:PS X st t) (h2:PSs X rest u):PSs X (st::rest) (VJ t u):=by
 intro pins s σ H D I h
 refine wpAny_execs_cons (thn (h1 pins s σ H { D with nx:=u D } I h) λf s1 q=>?_)
 cases f with
 | next =>
  obtain⟨σ',H',I',q⟩:=q
  exact h2 pins s1 σ' H' D I' q
 | ret v=>exact q
 | brk=>exact q
 | cont=>exact q
theorem zj (h1:PS X st t):PSs X [st] t:=by
 intro pins s σ H D I h
 refine wpAny_execs_cons (thn (h1 pins s σ H D I h) λf s1 q=>?_)
 cases f with
 | next=>exact wpAny_execs_nil q
 | ret v=>exact q
 | brk=>exact q
 | cont=>exact q
theorem Inv.quiet {pins:List (Addr×Obj)}{σ:St}{H:Hp}{s:Shared}(I:Inv X pins σ H s):interactive X.env=false:=by simp[interactive,I.ok.kind]
def ze7 (te:TE):TS:=λD σ H=>te σ H λ_ H1=>D.nx σ H1
theorem xt (he:PE X e te) (hs:swapsWith e none pos.line X.env=pure false:=by rfl):PS X (.Expr e pos) (ze7 te):=by
 intro pins s σ H D I h
 exact wpAny_Expr_any (thn (he pins s σ H _ I h) λv s1 ⟨x,H1,I1,r1,q1⟩=>⟨σ,H1,I1,q1⟩) I.quiet hs
def zfd (te:TE):TS:=λD σ H=>te σ H D.rt
theorem zD (he:PE X e te):PS X (.Return (some e) pos) (zfd te):=by
 intro pins s σ H D I h
 exact wpAny_Return_some (thn (he pins s σ H _ I h) λv s1 ⟨x,H1,I1,r1,q1⟩=>⟨x,σ,H1,I1,r1,q1⟩)
def tIfS (c:TT) (t u:TS):TS:=λD σ H=>c σ H λb H1=>if b=true then t D σ H1 else u D σ H1
theorem zV {c:Expr}{a b:List Stmt}{tc:TT}(hc:PT X c tc) (ha:PSs X a t) (hb:PSs X b u):PS X (.If c a b pos) (tIfS tc t u):=by
 intro pins s σ H D I h
 refine wpAny_If (thn (hc pins s σ H _ I h) λd s1 ⟨H1,I1,q1⟩=>?_)
 cases d with
 | true=>exact ha pins s1 σ H1 D I1 q1
 | false=>exact hb pins s1 σ H1 D I1 q1
def zd2:TS:=λ_ _ _=>False
theorem Zv {sts:List Stmt}:PSs X sts zd2:=λ_ _ _ _ _ _ h=>h.elim
end
abbrev TG:=V->St->Hp->(St->Hp->Prop)->Prop
abbrev TGs:=List V->St->Hp->(St->Hp->Prop)->Prop
def PG (X:Cx) (target:Expr) (t:TG):Prop :=
 ∀(pins:List (Addr×Obj)) (s:Shared) (σ:St) (H:Hp) (v:V) (u:Value) (Q:St->Hp->Prop),Inv X pins σ H s->zQ v u->t v σ H Q →
  wpAny (model X.prog X.w) X.A (assign target X.env u) (λ_ s'=>∃σ' H',Inv X pins σ' H' s'/\Q σ' H') X.xe s
def PGs (X:Cx) (ts:List Expr) (t:TGs):Prop :=
 ∀(pins:List (Addr×Obj)) (s:Shared) (σ:St) (H:Hp) (vs:List V) (us:List Value) (Q:St->Hp->Prop),Inv X pins σ H s->zK vs us->t vs σ H Q →
  wpAny (model X.prog X.w) X.A (assignInOrder ((assignEach ts X.env).map (·.2)) us) (λ_ s'=>∃σ' H',Inv X pins σ' H' s'/\Q σ' H') X.xe s
abbrev zcF:=V->V->V->Hp->(Hp->Prop)->Prop
def zeb (X:Cx) (t:zcF):Prop :=
 ∀(pins:List (Addr×Obj)) (s:Shared) (σ:St) (H:Hp) (o i v:V) (ov iv u:Value) (Q:Hp->Prop),Inv X pins σ H s->zQ o ov->zQ i iv->zQ v u->t o i v H Q →
  wpAny (model X.prog X.w) X.A (setItem ov iv u) (λ_ s'=>∃H',Inv X pins σ H' s'/\Q H') X.xe s
section
variable {X:Cx}{pos:Pos}
def zn (i:Nat):TG:=λv σ H Q=>Q (σ.set i (some v)) H
theorem zk {i:Nat}{x:Str}(hN:X.N.Nodup) (hi:X.N[i]? = some x) (hx:Loc X.env.scope x) (hf:X.fn x=true\/X.env.scope.names.lookup x=some .local := by first | exact .inl rfl | exact .inr rfl | assumption):PG X (.Name x pos) (zn i):=by
 intro pins s σ H v u Q I r h
 exact wpAny_assign_Name (j9 I hN hi hx r (λs' I'=>⟨_,H,I',h⟩) hf)
def Z7:TGs:=λvs σ H Q=>vs=[]/\Q σ H
def qk (t:TG) (u:TGs):TGs:=λvs σ H Q=>∃v r,vs=v::r/\t v σ H λσ' H'=>u r σ' H' Q
theorem zO:PGs X [] Z7:=by
 intro pins s σ H vs us Q I r h
 obtain⟨e,h⟩:=h
 subst e
 cases r
 exact assignInOrder_nil ⟨σ,H,I,h⟩
theorem zm {e:Expr}{es:List Expr}{t:TG}{u:TGs}(h1:PG X e t) (h2:PGs X es u)
  (hs:(assignEach (e::es) X.env).map (·.2)=assign e X.env::(assignEach es X.env).map (·.2):=by rfl):PGs X (e::es) (qk t u):=by
 intro pins s σ H vs us Q I r h
 obtain⟨v,vr,e1,h⟩:=h
 subst e1
 cases r with
 | cons r rr =>
  rw[hs]
  refine assignInOrder_cons (thn (h1 pins s σ H _ _ _ I r h) λ_ s1 ⟨σ1,H1,I1,q1⟩=>?_)
  exact h2 pins s1 σ1 H1 _ _ Q I1 rr q1
def ZJ (K:PySem.W.Frag) (n:Nat) (t:TGs):TG:=λv σ H Q=>∃a xs,v = .ref a/\SqT K H a xs/\xs.length=n/\t xs σ H Q
theorem xP {es:List Expr}{k:Nat}{t:TGs}{n:Nat}(hc:X.calm=true) (h:PGs X es t)
  (hn:(assignEach es X.env).length=n:=by rfl) (hst:(assignEach es X.env).findIdx? (·.1)=none:=by rfl):PG X (.Tuple es k pos) (ZJ X.K n t):=by
 intro pins s σ H v u Q I r hw
 obtain⟨a,xs,e1,hq,hl,hw⟩:=hw
 subst e1
 cases r
 obtain⟨its,rv,ht,hz⟩:=I.tuple hq
 refine assign_Tuple_tuple (I.ok.hd hc) ht (by simp[hn,<-hl,rv.length]) hst λh' hx=>?_
 have I1:Inv X pins σ H { s with heap:=h' }:=I.kept (t':=s.toks) λb o e=>hx b o (Nat.ne_of_lt (Heap.lt_size e)) e
 exact h pins _ σ H xs _ Q I1 (by simpa using rv) hw
def gSub (to ti:TE) (t:zcF):TG:=λv σ H Q=>to σ H λo H1=>ti σ H1 λi H2=>t o i v H2 λH3=>Q σ H3
theorem Vz {o i:Expr}{to ti:TE}{t:zcF}(ho:PE X o to) (hi:PE X i ti) (hs:zeb X t)
  (ha:∀v,assign (.Subscript o i pos) X.env v=(do
   let ov <-holding [v] (eval o X.env)
   let iv <-holding [v,ov] (eval i X.env)
   standAt pos
   holding [v,ov,iv] (setItem ov iv v)
   release [v,ov,iv] []):=by intro _;rfl):PG X (.Subscript o i pos) (gSub to ti t):=by
 intro pins s σ H v u Q I r h
 rw[ha]
 refine wpAny_bind (wpAny_holding (thn (ho pins s σ H _ I h) λov s1 ⟨x,H1,I1,r1,q1⟩=>?_))
 refine wpAny_bind (wpAny_holding (thn (hi pins s1 σ H1 _ I1 q1) λiv s2 ⟨y,H2,I2,r2,q2⟩=>?_))
 refine wpAny_bind (wpAny_standAt (wpAny_bind (wpAny_holding (thn (hs pins s2 σ H2 x y v ov iv u _ I2 r1 r2 r q2) λ_ s3 ⟨H3,I3,q3⟩=>?_))))
 exact wpAny_release ⟨σ,H3,I3,q3⟩
def VI (te:TE) (g:TG):TS:=λD σ H=>te σ H λx H1=>g x σ H1 D.nx
theorem qi {tg e:Expr}{te:TE}{g:TG}(he:PE X e te) (hg:PG X tg g) (hs:swapsWithSole [tg] e pos.line X.env=pure false:=by rfl) (hw:swappedStores [tg] e X.env=pure none:=by rfl)
  (h1:(assignEach [tg] X.env).map (·.2)=[assign tg X.env]:=by rfl):PS X (.Assign [tg] e pos) (VI te g):=by
 intro pins s σ H D I h
 refine wpAny_Assign_stores (thn (he pins s σ H _ I h) λv s1 ⟨x,H1,I1,r1,q1⟩=>?_) hs hw
 rw[h1]
 exact thn (hg pins s1 σ H1 x v _ I1 r1 q1) λ_ s2 q=>q
theorem zA {i:Nat}{x:Str}{e:Expr}{te:TE}{pos':Pos}(hN:X.N.Nodup) (hi:X.N[i]? = some x) (hx:Loc X.env.scope x) (he:PE X e te) (hs:swapsWith e (some (.Name x pos')) pos.line X.env=pure false:=by rfl) (hf:X.fn x=true\/X.env.scope.names.lookup x=some .local := by first | exact .inl rfl | exact .inr rfl | assumption) :
  PS X (.Assign [.Name x pos'] e pos) (VI te (zn i)):=by
 intro pins s σ H D I h
 refine wpAny_Assign_Name (thn (he pins s σ H _ I h) λv s1 ⟨y,H1,I1,r1,q1⟩=>?_) hs
 exact j9 I1 hN hi hx r1 (λs2 I2=>⟨_,H1,I2,q1⟩) hf
def tPar (i j:Nat) (ta:TA):TS:=λD σ H=>ta σ H λvs H1=>∃v w,vs=[v,w]/\D.nx ((σ.set i (some v)).set j (some w)) H1
theorem vM {i j:Nat}{x y:Str}{a b:Expr}{ta:TA}{px py pt:Pos} {kt k2 pt2} (hc:X.calm=true) (hN:X.N.Nodup) (hi:X.N[i]? = some x) (hj:X.N[j]? = some y) (hij:i≠j)
  (hx:X.env.scope.names.lookup x=some .local) (hy:X.env.scope.names.lookup y=some .local) (ha:PA X [a,b] ta)
  (hw:swappedStores [.Tuple [.Name x px,.Name y py] kt pt] (.Tuple [a,b] k2 pt2) X.env=pure (some [x,y]))
  (hs:swapsWithSole [.Tuple [.Name x px,.Name y py] kt pt] (.Tuple [a,b] k2 pt2) pos.line X.env=pure false:=by rfl) :
  PS X (.Assign [.Tuple [.Name x px,.Name y py] kt pt] (.Tuple [a,b] k2 pt2) pos) (tPar i j ta):=by
 intro pins s σ H D I h
 rw[exec_Assign_arm]
 refine wpAny_bind (wpAny_standAt ?_)
 rw[hs]
 refine wpAny_bind (wpAny_pure ?_)
 rw[if_neg (by decide)]
 refine wpAny_bind (Tuple_ (thn (ha _ pins s σ H _ I h) λus s1 ⟨vs,H1,I1,r1,q1⟩=>?_))
 obtain⟨v,w,e1,q1⟩:=q1
 subst e1
 obtain⟨u1,u2,rfl,rv,rw'⟩:∃u1 u2,us=[u1,u2]/\zQ v u1/\zQ w u2:=by
  cases r1 with
  | cons p q =>
   cases q with
   | cons p' q' =>
    cases q'
    exact⟨_,_,rfl,p,p'⟩
 refine wpAny_newObj_type ?_ (by show 2<=sizeLine;decide)
 have I2:Inv X pins σ H1 { s1 with heap:=s1.heap.push { cls:=.type "tuple",data:=.seq [u1,u2].toArray } }:=I1.kept (t':=s1.toks) λb o e=>Heap.get?_push_of_some _ e
 rw[hw]
 refine wpAny_bind (wpAny_pure ?_)
 show wpAny (model X.prog X.w) X.A (do rule "assign.swapped-stores";let items <-unpackItems (.ref s1.heap.objs.size) 2 none;assignInOrder [λv=>bindName X.env y v,λv=>bindName X.env x v] items.reverse;pure Flow.next) _ _ _
 refine wpAny_bind (wpAny_rule (wpAny_bind (unpackItems_tuple (items:=#[u1,u2]) (I.ok.hd hc) (IsTup.new s1.heap _) λh' hx'=>?_)))
 have I3:=I2.kept (h':=h') (t':=s1.toks) λb o e=>hx' b o (Nat.ne_of_lt (Heap.lt_size e)) e
 show wpAny _ _ (assignInOrder [λv=>bindName X.env y v,λv=>bindName X.env x v] [u2,u1] >>= λ_=>pure Flow.next) _ _ _
 refine wpAny_bind (assignInOrder_cons (wpAny_bindName (j9 I3 hN hj (.inl hy) rw' (λs2 I4=>?_) (.inr hy))))
 refine assignInOrder_cons (wpAny_bindName (j9 I4 hN hi (.inl hx) rv (λs3 I5=>assignInOrder_nil (wpAny_pure ?_)) (.inr hx)))
 rw[List.set_comm _ _ (Ne.symm hij)]at I5
 exact⟨_,H1,I5,q1⟩
end
section
variable {X:Cx}{pos:Pos}
def zbf (c:TT) (tb:TS):TS:=λD σ H=>∃W:Nat->St->Hp->Prop,(∃m,W m σ H)/\∀m σ H,W m σ H →
 c σ H λb H1=>if b=true then ∃N:St->Hp->Prop,(∀σ' H',N σ' H'->∃m',m'<m/\W m' σ' H')/\tb { D with nx:=N,ct:=N,bk:=D.nx } σ H1 else D.nx σ H1
theorem jY {c:Expr}{body:List Stmt}{tc:TT}{tb:TS}(hp:PassesOwn (model X.prog X.w) X.A X.env X.xe) (hc:PT X c tc) (hb:PSs X body tb):PS X (.While c body [] pos) (zbf tc tb):=by
 intro pins s σ H D I h
 obtain⟨W,⟨m0,w0⟩,turn⟩:=h
 refine wpAny_While (codeAny_whileLoop (λn s'=>∃σ' H',Inv X pins σ' H' s'/\W n σ' H') ?_ m0 ⟨σ,H,I,w0⟩)
 rintro n s1 ⟨σ1,H1,I1,w1⟩
 refine wpAny_passesOwn hp (thn (hc pins s1 σ1 H1 _ I1 (turn n σ1 H1 w1)) λb s2 ⟨H2,I2,q2⟩=>?_)
 cases b with
 | true =>
  obtain⟨N,hN,q2⟩:=q2
  rw[if_pos rfl]
  refine wpAny_passesOwn hp (thn (hb pins s2 σ1 H2 _ I2 q2) λf s3 q3=>?_)
  cases f with
  | next =>
   obtain⟨σ3,H3,I3,n3⟩:=q3
   obtain⟨m',hm,w3⟩:=hN σ3 H3 n3
   exact⟨m',hm,σ3,H3,I3,w3⟩
  | cont =>
   obtain⟨σ3,H3,I3,n3⟩:=q3
   obtain⟨m',hm,w3⟩:=hN σ3 H3 n3
   exact⟨m',hm,σ3,H3,I3,w3⟩
  | brk=>exact q3
  | ret v=>exact q3
 | false =>
  rw[if_neg Bool.false_ne_true]
  exact wpAny_execs_nil ⟨σ1,H2,I2,q2⟩
end
structure It where
 go:Nat->Hp->Prop
 yld:Nat->Hp->V->Hp->Prop
 stop:Nat->Hp->Prop
def ZW (X:Cx) (pins:List (Addr×Obj)) (H:Hp) (b:Addr):Prop :=
 H b=none/\b≠X.env.locals/\b∉X.fs/\(b∈X.ex\/X.s₀.heap.objs.size<=b)/\(∀x c,X.env.cells.lookup x=some c->c≠b)/\∀p∈X.pn++pins,p.1≠b
theorem Inv.fpOk {X:Cx}{pins:List (Addr×Obj)}{σ:St}{H H':Hp}{s:Shared}{b:Addr}(I:Inv X pins σ H s) (hb:s.heap.objs.size<=b) (hn:H' b=none):ZW X pins H' b:=by
 refine⟨hn,Nat.ne_of_gt (Nat.lt_of_lt_of_le I.lt hb),I.nofs hb,.inr (Nat.le_trans I.sz hb),λx c e z=>?_,λp hp z=>?_⟩
 ·obtain⟨v,q⟩:=I.cell x c e
  exact absurd (Nat.lt_of_lt_of_le q.lt (by rw[z];exact hb)) (Nat.lt_irrefl _)
 ·exact absurd (Nat.lt_of_lt_of_le (Heap.lt_size (I.pin p hp).1) (by rw[z];exact hb)) (Nat.lt_irrefl _)
structure J7 (P:Program) (w:World) (K:PySem.W.Frag) (tg:Expr) (J:It) (fp:List Addr) (it:Addr) (tn:Nat->Heap->Prop):Prop where
 mem:it∈fp
 obj:∀i h,tn i h->∀b∈fp,∃o,h.get? b=some o/\∀v,o.data≠.cell v
 keep:∀i h h',tn i h->(∀b∈fp,∀o,h.get? b=some o->h'.get? b=some o)->tn i h'
 item:∀(X:Cx),X.prog=P->X.w=w->X.K=K->X.calm=true->∀(i:Nat) (pins:List (Addr×Obj)) (s:Shared) (σ:St) (H:Hp) (E:Value->Shared->Prop),Inv X pins σ H s->(∀b∈fp,ZW X pins H b)->tn i s.heap->J.go i H →
  wpAny (model P w) X.A (pyNext (.ref it)) (λr s1=>∃u,r=some u ∧
   wpAny (model P w) X.A (letOwnedTupleGo tg (.ref it) u) (λ_ s2=>∃x H',Inv X pins σ H' s2/\zQ x u/\J.yld i H x H'/\tn (i+1) s2.heap/\∀b∈fp,H' b=none) E s1) E s
 done:∀(X:Cx),X.prog=P->X.w=w->X.K=K->X.calm=true->∀(i:Nat) (pins:List (Addr×Obj)) (s:Shared) (σ:St) (H:Hp) (E:Value->Shared->Prop),Inv X pins σ H s->(∀b∈fp,ZW X pins H b)->tn i s.heap->J.stop i H →
  wpAny (model P w) X.A (pyNext (.ref it)) (λr s1=>r=none/\Inv X pins σ H s1) E s
 self:∀(A:Around) (i:Nat) (s:Shared) (Q:Value->Shared->Prop) (E:Value->Shared->Prop),tn i s.heap->Q (.ref it) s->wpAny (model P w) A (pyIter (.ref it)) Q E s
abbrev TI:=St->Hp->(It->Hp->Prop)->Prop
def PIE (X:Cx) (pins:List (Addr×Obj)) (σ:St) (tg:Expr) (R:It->Hp->Prop) (itv:Value) (s2:Shared):Prop :=
 ∃(it:Addr) (fp:List Addr) (tn:Nat->Heap->Prop) (J:It) (H':Hp),itv = .ref it/\Inv X pins σ H' s2/\J7 X.prog X.w X.K tg J fp it tn/\tn 0 s2.heap/\(∀b∈fp,ZW X pins H' b)/\R J H'
def PI (X:Cx) (tg iter:Expr) (wi:TI):Prop :=
 ∀(pins:List (Addr×Obj)) (s:Shared) (σ:St) (H:Hp) (R:It->Hp->Prop),Inv X pins σ H s->wi σ H R →
  wpAny (model X.prog X.w) X.A (eval iter X.env) (λv s1=>wpAny (model X.prog X.w) X.A (pyIter v) (PIE X pins σ tg R) X.xe s1) X.xe s
theorem zao {M:Model}{A:Around}{E:Value->Shared->Prop}{s:Shared}{tg:Expr}{it:Addr}{u:Value}{o:Obj}{n:String}{vs:Array Value}{Q:Unit->Shared->Prop}(ho:s.heap.get? it=some o) (hc:o.cls = .type n) (hd:o.data = .fields vs)
  (hn:["enumerate","zip","dict_itemiterator","dict_reverseitemiterator","odict_iterator","itertools.zip_longest","itertools.pairwise"].contains n=false) (hQ:Q () s):wpAny M A (letOwnedTupleGo tg (.ref it) u) Q E s:=by
 unfold letOwnedTupleGo
 cases tg <;> first
  | exact wpAny_pure hQ
  | (cases u <;> first
    | exact wpAny_pure hQ
    | (refine wpAny_bind (wpAny_load ho ?_)
       rw[hc,hd]
       show wpAny M A (if(["enumerate","zip","dict_itemiterator","dict_reverseitemiterator","odict_iterator","itertools.zip_longest","itertools.pairwise"].contains n&&vs[0]? == some (rawInt _))=true then _ else _) Q E s
       rw[if_neg (by intro h;rw[hn,Bool.false_and]at h;cases h)]
       exact wpAny_pure hQ))
def Itl (K:PySem.W.Frag) (a:Addr):It :=
 ⟨λi H=>∃xs x,SqL K H a xs/\xs[i]? = some x,λi H x H'=>H'=H/\∀xs,SqL K H a xs->xs[i]? = some x,λi H=>∃xs,SqL K H a xs/\xs.length<=i⟩
def Itt (K:PySem.W.Frag) (a:Addr):It :=
 ⟨λi H=>∃xs x,SqT K H a xs/\xs[i]? = some x,λi H x H'=>H'=H/\∀xs,SqT K H a xs->xs[i]? = some x,λi H=>∃xs,SqT K H a xs/\xs.length<=i⟩
def Itr (lo:Int) (n:Nat):It:=⟨λi _=>i<n,λi H x H'=>H'=H/\x = .int (lo+i),λi _=>n<=i⟩
theorem XV {P:Program}{w:World}{K:PySem.W.Frag}{tg:Expr}(a it:Addr):J7 P w K tg (Itl K a) [it] it (λi h=>h.IsListIter it a i) where
 mem:=by simp
 obj:=λi h st b hb=>by
  have e:b=it:=by simpa using hb
  subst e
  obtain⟨o,e,c,d⟩:=st
  exact⟨o,e,λv z=>by rw[d]at z;cases z⟩
 keep:=λi h h' st k=>st.at λo e=>k it (by simp) o e
 item:=by
  intro X hP hw hK hc i pins s σ H E I hf st hg
  subst hP hw hK
  obtain⟨xs,x,hq,hx⟩:=hg
  obtain⟨its,rv,p,hz⟩:=I.list hq
  obtain⟨u,hu,ru⟩:=rv.get hx
  obtain⟨f0,f1,f2,f3,f4,f5⟩:=hf it (by simp)
  refine wpAny_pyNext_list_item st p.isList (x:=u) (by simpa using hu) λh' st' sb=>?_
  have I1:Inv X pins σ H { s with heap:=h' }:=I.turned (t':=s.toks) (λb o hb e=>(sb.2 b hb).trans e) f0 f1 f3 f4 f5
  obtain⟨o,e,c,d⟩:=id st'
  exact⟨u,rfl,zao (s:={ s with heap:=h' }) e c d (by decide) ⟨x,H,I1,ru,⟨rfl,λys hy=>by rw[I.list_inj hy hq];exact hx⟩,st',λb hb=>(hf b hb).1⟩⟩
 done:=by
  intro X hP hw hK hc i pins s σ H E I hf st hg
  subst hP hw hK
  obtain⟨xs,hq,hx⟩:=hg
  obtain⟨its,rv,p,hz⟩:=I.list hq
  obtain⟨f0,f1,f2,f3,f4,f5⟩:=hf it (by simp)
  have hl:=rv.length
  exact wpAny_pyNext_list_end (I.ok.hd hc) st p.isList (by simp;omega) λh' eb=>⟨rfl,I.turned (t':=s.toks) (λb o hb e=>eb b o hb e) f0 f1 f3 f4 f5⟩
 self:=λ_ _ _ _ _ st h=>wpAny_pyIter_listiter st h
theorem Xp {P:Program}{w:World}{K:PySem.W.Frag}{tg:Expr}(a it:Addr):J7 P w K tg (Itt K a) [it] it (λi h=>h.IsTupleIter it a i) where
 mem:=by simp
 obj:=λi h st b hb=>by
  have e:b=it:=by simpa using hb
  subst e
  obtain⟨o,e,c,d⟩:=st
  exact⟨o,e,λv z=>by rw[d]at z;cases z⟩
 keep:=λi h h' st k=>st.at λo e=>k it (by simp) o e
 item:=by
  intro X hP hw hK hc i pins s σ H E I hf st hg
  subst hP hw hK
  obtain⟨xs,x,hq,hx⟩:=hg
  obtain⟨its,rv,p,hz⟩:=I.tuple hq
  obtain⟨u,hu,ru⟩:=rv.get hx
  obtain⟨f0,f1,f2,f3,f4,f5⟩:=hf it (by simp)
  refine wpAny_pyNext_tuple_item st (show s.heap.IsTuple a its.toArray from p) (x:=u) (by simpa using hu) λh' st' sb=>?_
  have I1:Inv X pins σ H { s with heap:=h' }:=I.turned (t':=s.toks) (λb o hb e=>(sb.2 b hb).trans e) f0 f1 f3 f4 f5
  obtain⟨o,e,c,d⟩:=id st'
  exact⟨u,rfl,zao (s:={ s with heap:=h' }) e c d (by decide) ⟨x,H,I1,ru,⟨rfl,λys hy=>by rw[I.tuple_inj hy hq];exact hx⟩,st',λb hb=>(hf b hb).1⟩⟩
 done:=by
  intro X hP hw hK hc i pins s σ H E I hf st hg
  subst hP hw hK
  obtain⟨xs,hq,hx⟩:=hg
  obtain⟨its,rv,p,hz⟩:=I.tuple hq
  obtain⟨f0,f1,f2,f3,f4,f5⟩:=hf it (by simp)
  have hl:=rv.length
  exact wpAny_pyNext_tuple_end (I.ok.hd hc) st (show s.heap.IsTuple a its.toArray from p) (by simp;omega) λh' eb=>⟨rfl,I.turned (t':=s.toks) (λb o hb e=>eb b o hb e) f0 f1 f3 f4 f5⟩
 self:=λ_ _ _ _ _ st h=>wpAny_pyIter_tupleiter st h
theorem VN {P:Program}{w:World}{K:PySem.W.Frag}{tg:Expr}(it:Addr) (lo:Int) (n:Nat):J7 P w K tg (Itr lo n) [it] it (λi h=>IsRangeIter h it (lo+(i:Nat)*1) ((n:Int) - (i:Nat)) 1) where
 mem:=by simp
 obj:=λi h st b hb=>by
  have e:b=it:=by simpa using hb
  subst e
  exact⟨_,st,λv z=>by
   have z':Data.fields _=Data.cell v:=z
   cases z'⟩
 keep:=λi h h' st k=>k it (by simp) _ st
 item:=by
  intro X hP hw hK hc i pins s σ H E I hf st hg
  subst hP hw hK
  obtain⟨f0,f1,f2,f3,f4,f5⟩:=hf it (by simp)
  have W:=Walks.range (prog:=X.prog) (w:=X.w) (I.ok.hd hc) it lo 1 n
  refine W.item i s _ _ hg st λv h' tk hv st' kk=>?_
  obtain⟨t,rfl⟩:=hv
  have I1:Inv X pins σ H { s with heap:=h',toks:=tk }:=I.turned (λb o hb e=>kk b o (by simpa using hb) e) f0 f1 f3 f4 f5
  refine⟨_,rfl,zao (s:={ s with heap:=h',toks:=tk }) (n:="range_iterator") st' rfl rfl (by decide) ⟨.int (lo+i),H,I1,⟨t,?_⟩,⟨rfl,rfl⟩,st',λb hb=>(hf b hb).1⟩⟩
  rw[Int.mul_one]
 done:=by
  intro X hP hw hK hc i pins s σ H E I hf st hg
  subst hP hw hK
  obtain⟨f0,f1,f2,f3,f4,f5⟩:=hf it (by simp)
  exact wpAny_pyNext_range_end (I.ok.hd hc) st (by have:n<=i:=hg;omega) λh' eb=>⟨rfl,I.turned (t':=s.toks) (λb o hb e=>eb b o hb e) f0 f1 f3 f4 f5⟩
 self:=λ_ _ _ _ _ st h=>wpAny_pyIter_rangeiter st h
end L2
namespace L2
open PySem PySem.Spec PyProof.Rows
section
variable {X:Cx}{tg:Expr}
def zcn (K:PySem.W.Frag) (tl:TE):TI:=λσ H R=>tl σ H λx H1=>∃a,x = .ref a/\(∃xs,SqL K H1 a xs)/\R (Itl K a) H1
def zby (K:PySem.W.Frag) (tl:TE):TI:=λσ H R=>tl σ H λx H1=>∃a,x = .ref a/\(∃xs,SqT K H1 a xs)/\R (Itt K a) H1
theorem zP {l:Expr}{tl:TE}(hl:PE X l tl):PI X tg l (zcn X.K tl):=by
 intro pins s σ H R I h
 refine thn (hl pins s σ H _ I h) λv s1 ⟨x,H1,I1,r1,q1⟩=>?_
 obtain⟨a,e,⟨xs,hq⟩,q⟩:=q1
 subst e
 cases r1
 obtain⟨its,rv,p,hz⟩:=I1.list hq
 refine wpAny_pyIter_list p.isList ?_
 refine⟨s1.heap.objs.size,[s1.heap.objs.size],_,_,H1,rfl,I1.kept (t':=s1.toks) λb o e=>Heap.get?_push_of_some _ e,XV a _,⟨_,Heap.get?_push_size _ rfl,rfl,rfl⟩,λb hb=>?_,q⟩
 have e:b=s1.heap.objs.size:=by simpa using hb
 subst e
 exact I1.fpOk (Nat.le_refl _) (I1.hok.fresh (Nat.le_refl _))
theorem vL {l:Expr}{tl:TE}(hl:PE X l tl):PI X tg l (zby X.K tl):=by
 intro pins s σ H R I h
 refine thn (hl pins s σ H _ I h) λv s1 ⟨x,H1,I1,r1,q1⟩=>?_
 obtain⟨a,e,⟨xs,hq⟩,q⟩:=q1
 subst e
 cases r1
 obtain⟨its,rv,p,hz⟩:=I1.tuple hq
 refine wpAny_pyIter_tuple (show s1.heap.IsTuple a its.toArray from p) ?_
 refine⟨s1.heap.objs.size,[s1.heap.objs.size],_,_,H1,rfl,I1.kept (t':=s1.toks) λb o e=>Heap.get?_push_of_some _ e,Xp a _,⟨_,Heap.get?_push_size _ rfl,rfl,rfl⟩,λb hb=>?_,q⟩
 have e:b=s1.heap.objs.size:=by simpa using hb
 subst e
 exact I1.fpOk (Nat.le_refl _) (I1.hok.fresh (Nat.le_refl _))
theorem QQ {pins:List (Addr×Obj)}{σ:St}{H:Hp}{s:Shared}{R:It->Hp->Prop}{E:Value->Shared->Prop}{lo hi:Int}{t u v:Tok}{tk:Nat}(I:Inv X pins σ H s) (h1 : -(2^62)<=lo) (h2:lo<2^62) (h3 : -(2^62)<=hi) (h4:hi<2^62)
  (q:R (Itr lo (hi - lo).toNat) H):wpAny (model X.prog X.w) X.A (pyIter (.ref s.heap.objs.size)) (PIE X pins σ tg R) E { s with heap:=s.heap.push { cls:=.type "range",data:=.fields #[.int lo t,.int hi u,.int 1 v] },toks:=tk }:=by
 refine wpAny_pyIter_range (IsRange.new ..) (small_one h1 h2 h3 h4) ?_
 have I1:Inv X pins σ H { s with heap:=s.heap.push { cls:=.type "range",data:=.fields #[.int lo t,.int hi u,.int 1 v] },toks:=tk }:=I.kept λb o e=>Heap.get?_push_of_some _ e
 refine⟨(s.heap.push { cls:=.type "range",data:=.fields #[.int lo t,.int hi u,.int 1 v] }).objs.size,[(s.heap.push { cls:=.type "range",data:=.fields #[.int lo t,.int hi u,.int 1 v] }).objs.size],_,_,H,rfl,
  I1.kept (t':=tk) λb o e=>Heap.get?_push_of_some _ e,VN _ lo (hi - lo).toNat,?_,λb hb=>?_,q⟩
 ·have e1:lo+((0:Nat):Int)*1=lo:=by simp
  have e2:(((hi - lo).toNat:Nat):Int) - ((0:Nat):Int)=Builtin.Range.rangeSize lo hi 1:=by rw[rangeSize_one];split <;> omega
  show IsRangeIter _ _ (lo+((0:Nat):Int)*1) ((((hi - lo).toNat:Nat):Int) - ((0:Nat):Int)) 1
  rw[e1,e2]
  exact Heap.get?_push_size _ rfl
 ·have e:b=(s.heap.push { cls:=.type "range",data:=.fields #[.int lo t,.int hi u,.int 1 v] }).objs.size:=by simpa using hb
  subst e
  exact I1.fpOk (Nat.le_refl _) (I1.hok.fresh (Nat.le_refl _))
def zeg (ta:TA):TI:=λσ H R=>ta σ H λvs H1=>∃j:Int,vs=[.int j] ∧ -(2^62)<=j/\j<2^62/\R (Itr 0 j.toNat) H1
def zeh (ta:TA):TI:=λσ H R=>ta σ H λvs H1=>∃i j:Int,vs=[.int i,.int j]/\(-(2^62)<=i/\i<2^62 ∧ -(2^62)<=j/\j<2^62)/\R (Itr i (j - i).toNat) H1
theorem qM {a:Expr}{ta:TA}{p pos:Pos}(hg:Gl X "range") (hm:X.mg "range" = none) (ha:PA X [a] ta) (hs:starEach [a] X.env=[(false,eval a X.env)]:=by rfl):PI X tg (.Call (.Name "range" p) [a] [] pos) (zeg ta):=by
 intro pins s σ H R I h
 refine Call_ (jm I hg hm boot_range (PyProof.Rows.callWith_type1 (thn (ha pos pins s σ H _ I h) λus s1 ⟨vs,H1,I1,r1,q1⟩=>?_) hs rfl))
 obtain⟨j,e,q1,q2,q⟩:=q1
 subst e
 cases r1 with
 | cons r rr =>
  cases rr
  obtain⟨t,rfl⟩:=r
  exact call_range_1 (QQ I1 (by omega) (by omega) q1 q2 (by simpa using q))
theorem JR {a b:Expr}{ta:TA}{p pos:Pos}(hg:Gl X "range") (hm:X.mg "range" = none) (ha:PA X [a,b] ta) (hs:starEach [a,b] X.env=[(false,eval a X.env),(false,eval b X.env)]:=by rfl) (hs2:starEach [b] X.env=[(false,eval b X.env)]:=by rfl) :
  PI X tg (.Call (.Name "range" p) [a,b] [] pos) (zeh ta):=by
 intro pins s σ H R I h
 refine Call_ (jm I hg hm boot_range (PyProof.Rows.callWith_type1 (thn (ha pos pins s σ H _ I h) λus s1 ⟨vs,H1,I1,r1,q1⟩=>?_) (by rw[hs,hs2]) (by rw[hs2];rfl)))
 obtain⟨i,j,e,⟨q1,q2,q3,q4⟩,q⟩:=q1
 subst e
 cases r1 with
 | cons r rr =>
  cases rr with
  | cons r' rr =>
   cases rr
   obtain⟨t,rfl⟩:=r
   obtain⟨t',rfl⟩:=r'
   exact call_range_2 (QQ I1 q1 q2 q3 q4 q)
def tFor (wi:TI) (g:TG) (tb:TS):TS:=λD σ H=>wi σ H λJ H1=>∃W:Nat->Nat->St->Hp->Prop,(∃m,W 0 m σ H1)/\∀i m σ H,W i m σ H →
 (J.stop i H/\D.nx σ H)\/(J.go i H/\∃N:St->Hp->Prop,(∀σ' H',N σ' H'->∃m',m'<m/\W (i+1) m' σ' H')/\∀x H',J.yld i H x H'->g x σ H' λσ2 H2=>tb { D with nx:=N,ct:=N,bk:=D.nx } σ2 H2)
def Zu (fp:List Addr) (h:Heap):List (Addr×Obj):=fp.filterMap λb=>(h.get? b).map λo=>(b,o)
theorem qK {fp:List Addr}{h:Heap}{b:Addr}{o:Obj}(hb:b∈fp) (e:h.get? b=some o):(b,o)∈Zu fp h:=List.mem_filterMap.mpr ⟨b,hb,by rw[e];rfl⟩
theorem JO {fp:List Addr}{h:Heap}{p:Addr×Obj}(hp:p∈Zu fp h):p.1∈fp/\h.get? p.1=some p.2:=by
 obtain⟨b,hb,e⟩:=List.mem_filterMap.mp hp
 cases q:h.get? b with
 | none=>rw[q]at e;cases e
 | some o =>
  rw[q]at e
  have e':(b,o)=p:=Option.some.inj e
  subst e'
  exact⟨hb,q⟩
theorem Inv.pinned {pins:List (Addr×Obj)}{σ:St}{H:Hp}{s:Shared}{fp:List Addr}(I:Inv X pins σ H s) (hf:∀b∈fp,ZW X pins H b) (ho:∀b∈fp,∃o,s.heap.get? b=some o/\∀v,o.data≠.cell v):Inv X (pins++Zu fp s.heap) σ H s :=
 I.pins_of λp hp=>(List.mem_append.mp hp).elim (λz=>I.pin p (List.mem_append_right _ z)) λz=>by
  obtain⟨hb,e⟩:=JO z
  obtain⟨f0,f1,f2,_⟩:=hf p.1 hb
  obtain⟨o,e',d⟩:=ho p.1 hb
  rw[e]at e';cases e'
  exact⟨e,f0,f1,f2,d⟩
theorem Inv.unpinned {pins pl:List (Addr×Obj)}{σ:St}{H:Hp}{s:Shared}(I:Inv X (pins++pl) σ H s):Inv X pins σ H s:=I.pins_of λp hp=>I.pin p (List.mem_append_right _ (List.mem_append_left _ hp))
theorem qj {iter:Expr}{body:List Stmt}{wi:TI}{g:TG}{tb:TS}{pos:Pos}(hp:PassesOwn (model X.prog X.w) X.A X.env X.xe) (hc:X.calm=true) (hi:PI X tg iter wi) (hg:PG X tg g) (hb:PSs X body tb)
  (hs:∀x,foldedSetIterable iter X.env x=pure x:=by intro _;rfl):PS X (.For tg iter body [] pos) (tFor wi g tb):=by
 intro pins s σ H D I h
 refine wpAny_For (thn (hi pins s σ H _ I h) λv s1 h1=>thn h1 λitv s2 h2=>?_) hs
 obtain⟨it,fp,tn,J,H2,e,I2,T,st2,f2,W,⟨m0,w0⟩,turn⟩:=h2
 subst e
 have stat:∀{H':Hp},(∀b∈fp,H' b=none)->∀b∈fp,ZW X pins H' b:=λhn b hb=>⟨hn b hb,(f2 b hb).2⟩
 refine codeAny_forLoop_any (λn s'=>∃i σ' H',Inv X pins σ' H' s'/\tn i s'.heap/\(∀b∈fp,H' b=none)/\W i n σ' H') ?_ m0 ⟨0,σ,H2,I2,st2,λb hb=>(f2 b hb).1,w0⟩
 rintro n s3 ⟨i,σ3,H3,I3,st3,fr3,w3⟩
 rcases turn i n σ3 H3 w3 with⟨stop,qn⟩ | ⟨go,N,hN,step⟩
 ·refine wpAny_passesOwn hp (thn (T.done X rfl rfl rfl hc i pins s3 σ3 H3 X.xe I3 (stat fr3) st3 stop) λr s4 ⟨hr,I4⟩=>?_)
  subst hr
  exact wpAny_execs_nil ⟨σ3,H3,I4,qn⟩
 ·refine wpAny_passesOwn hp (thn (T.item X rfl rfl rfl hc i pins s3 σ3 H3 X.xe I3 (stat fr3) st3 go) λr s4 ⟨u,hr,h4⟩=>?_)
  subst hr
  refine wpAny_passesOwn hp (thn h4 λ_ s5 ⟨x,H5,I5,r5,y5,st5,fr5⟩=>?_)
  have I5':=I5.pinned (stat fr5) (T.obj _ _ st5)
  refine wpAny_passesOwn hp (thn (hg _ s5 σ3 H5 x u _ I5' r5 (step x H5 y5)) λ_ s6 ⟨σ6,H6,I6,q6⟩=>?_)
  refine wpAny_passesOwn hp (thn (hb _ s6 σ6 H6 _ I6 q6) λf s7 q7=>?_)
  have again:∀{σ7:St}{H7:Hp},Inv X (pins++Zu fp s5.heap) σ7 H7 s7->N σ7 H7->∃m,m<n/\∃i σ' H',Inv X pins σ' H' s7/\tn i s7.heap/\(∀b∈fp,H' b=none)/\W i m σ' H':=λ{σ7 H7} I7 n7=>by
   obtain⟨m',hm,w7⟩:=hN σ7 H7 n7
   refine⟨m',hm,i+1,σ7,H7,I7.unpinned,T.keep _ _ _ st5 λb hb o e=>(I7.pin (b,o) (List.mem_append_right _ (List.mem_append_right _ (qK hb e)))).1,λb hb=>?_,w7⟩
   obtain⟨o,e,d⟩:=T.obj _ _ st5 b hb
   exact(I7.pin (b,o) (List.mem_append_right _ (List.mem_append_right _ (qK hb e)))).2.1
  cases f with
  | next=>obtain⟨σ7,H7,I7,n7⟩:=q7;exact again I7 n7
  | cont=>obtain⟨σ7,H7,I7,n7⟩:=q7;exact again I7 n7
  | brk=>obtain⟨σ7,H7,I7,q7⟩:=q7;exact⟨σ7,H7,I7.unpinned,q7⟩
  | ret v=>obtain⟨x7,σ7,H7,I7,r7,q7⟩:=q7;exact⟨x7,σ7,H7,I7.unpinned,r7,q7⟩
end
theorem vd {K:PySem.W.Frag}{a:Addr}{xs:List V}{g:TG}{tb:TS}{D:je}{σ:St}{H:Hp}(Pv:Nat->St->Hp->Prop) (h0:Pv 0 σ H) (hl:∀i σ H,i<=xs.length->Pv i σ H->SqL K H a xs)
  (hs:∀i x σ H,xs[i]? = some x->Pv i σ H->g x σ H λσ2 H2=>tb { D with nx:=Pv (i+1),ct:=Pv (i+1),bk:=D.nx } σ2 H2) (hd:∀σ H,Pv xs.length σ H->D.nx σ H) :
  ∃W:Nat->Nat->St->Hp->Prop,(∃m,W 0 m σ H)/\∀i m σ H,W i m σ H →
   ((Itl K a).stop i H/\D.nx σ H)\/((Itl K a).go i H/\∃N:St->Hp->Prop,(∀σ' H',N σ' H'->∃m',m'<m/\W (i+1) m' σ' H')/\∀x H',(Itl K a).yld i H x H'->g x σ H' λσ2 H2=>tb { D with nx:=N,ct:=N,bk:=D.nx } σ2 H2):=by
 refine⟨λi m σ H=>m=xs.length - i/\i<=xs.length/\Pv i σ H,⟨xs.length,by simp,Nat.zero_le _,h0⟩,?_⟩
 rintro i m σ H ⟨rfl,hi,p⟩
 have q:=hl i σ H hi p
 by_cases hlt:i<xs.length
 ·refine .inr ⟨⟨xs,xs[i],q,by simp[hlt]⟩,Pv (i+1),λσ' H' p'=>⟨xs.length - (i+1),by omega,rfl,hlt,p'⟩,λx H' y=>?_⟩
  obtain⟨e,y⟩:=y
  subst e
  exact hs i x σ _ (y xs q) p
 ·have e:i=xs.length:=by omega
  subst e
  exact .inl ⟨⟨xs,q,Nat.le_refl _⟩,hd σ H p⟩
theorem V0 {K:PySem.W.Frag}{a:Addr}{xs:List V}{g:TG}{tb:TS}{D:je}{σ:St}{H:Hp}(Pv:Nat->St->Hp->Prop) (h0:Pv 0 σ H) (hl:∀i σ H,i<=xs.length->Pv i σ H->SqT K H a xs)
  (hs:∀i x σ H,xs[i]? = some x->Pv i σ H->g x σ H λσ2 H2=>tb { D with nx:=Pv (i+1),ct:=Pv (i+1),bk:=D.nx } σ2 H2) (hd:∀σ H,Pv xs.length σ H->D.nx σ H) :
  ∃W:Nat->Nat->St->Hp->Prop,(∃m,W 0 m σ H)/\∀i m σ H,W i m σ H →
   ((Itt K a).stop i H/\D.nx σ H)\/((Itt K a).go i H/\∃N:St->Hp->Prop,(∀σ' H',N σ' H'->∃m',m'<m/\W (i+1) m' σ' H')/\∀x H',(Itt K a).yld i H x H'->g x σ H' λσ2 H2=>tb { D with nx:=N,ct:=N,bk:=D.nx } σ2 H2):=by
 refine⟨λi m σ H=>m=xs.length - i/\i<=xs.length/\Pv i σ H,⟨xs.length,by simp,Nat.zero_le _,h0⟩,?_⟩
 rintro i m σ H ⟨rfl,hi,p⟩
 have q:=hl i σ H hi p
 by_cases hlt:i<xs.length
 ·refine .inr ⟨⟨xs,xs[i],q,by simp[hlt]⟩,Pv (i+1),λσ' H' p'=>⟨xs.length - (i+1),by omega,rfl,hlt,p'⟩,λx H' y=>?_⟩
  obtain⟨e,y⟩:=y
  subst e
  exact hs i x σ _ (y xs q) p
 ·have e:i=xs.length:=by omega
  subst e
  exact .inl ⟨⟨xs,q,Nat.le_refl _⟩,hd σ H p⟩
theorem vS {lo:Int}{n:Nat}{g:TG}{tb:TS}{D:je}{σ:St}{H:Hp}(Pv:Nat->St->Hp->Prop) (h0:Pv 0 σ H)
  (hs:∀i σ H,i<n->Pv i σ H->g (.int (lo+i)) σ H λσ2 H2=>tb { D with nx:=Pv (i+1),ct:=Pv (i+1),bk:=D.nx } σ2 H2) (hd:∀σ H,Pv n σ H->D.nx σ H) :
  ∃W:Nat->Nat->St->Hp->Prop,(∃m,W 0 m σ H)/\∀i m σ H,W i m σ H →
   ((Itr lo n).stop i H/\D.nx σ H)\/((Itr lo n).go i H/\∃N:St->Hp->Prop,(∀σ' H',N σ' H'->∃m',m'<m/\W (i+1) m' σ' H')/\∀x H',(Itr lo n).yld i H x H'->g x σ H' λσ2 H2=>tb { D with nx:=N,ct:=N,bk:=D.nx } σ2 H2):=by
 refine⟨λi m σ H=>m=n - i/\i<=n/\Pv i σ H,⟨n,by simp,Nat.zero_le _,h0⟩,?_⟩
 rintro i m σ H ⟨rfl,hi,p⟩
 by_cases hlt:i<n
 ·refine .inr ⟨hlt,Pv (i+1),λσ' H' p'=>⟨n - (i+1),by omega,rfl,hlt,p'⟩,λx H' y=>?_⟩
  obtain⟨e,y⟩:=y
  subst e y
  exact hs i σ _ hlt p
 ·have e:i=n:=by omega
  subst e
  exact .inl ⟨Nat.le_refl _,hd σ H p⟩
theorem Zd {c:TT}{tb:TS}{D:je}{σ:St}{H:Hp}(Pv:St->Hp->Prop) (μ:St->Hp->Nat) (h0:Pv σ H)
  (hs:∀σ H,Pv σ H->c σ H λb H1=>if b=true then tb { D with nx:=λσ' H'=>Pv σ' H'/\μ σ' H'<μ σ H,ct:=λσ' H'=>Pv σ' H'/\μ σ' H'<μ σ H,bk:=D.nx } σ H1 else D.nx σ H1)
  (mono:∀σ H Q Q',(∀b H1,Q b H1->Q' b H1)->c σ H Q->c σ H Q'):zbf c tb D σ H:=by
 refine⟨λm σ H=>m=μ σ H/\Pv σ H,⟨_,rfl,h0⟩,?_⟩
 rintro m σ H ⟨rfl,p⟩
 refine mono σ H _ _ (λb H1 q=>?_) (hs σ H p)
 cases b with
 | true=>exact⟨_,λσ' H' ⟨p',l⟩=>⟨_,l,rfl,p'⟩,q⟩
 | false=>exact q
end L2
namespace L2
open PySem PySem.Spec PyProof.Rows
abbrev R2:=V->V->Hp->VK->Prop
def OpR (X:Cx) (f:Value->Value->Sem Value) (r:R2):Prop :=
 ∀(pins:List (Addr×Obj)) (s:Shared) (σ:St) (H:Hp) (x y:V) (v u:Value) (Q:VK),Inv X pins σ H s->zQ x v->zQ y u->r x y H Q →
  wpAny (model X.prog X.w) X.A (f v u) (EP X pins σ Q) X.xe s
def UnR (X:Cx) (f:Value->Sem Value) (r:V->Hp->VK->Prop):Prop :=
 ∀(pins:List (Addr×Obj)) (s:Shared) (σ:St) (H:Hp) (x:V) (v:Value) (Q:VK),Inv X pins σ H s->zQ x v->r x H Q →
  wpAny (model X.prog X.w) X.A (f v) (EP X pins σ Q) X.xe s
def va (X:Cx) (f:Value) (r:List V->Hp->VK->Prop):Prop :=
 ∀(pins:List (Addr×Obj)) (s:Shared) (σ:St) (H:Hp) (xs:List V) (us:List Value) (Q:VK),Inv X pins σ H s->zK xs us->r xs H Q →
  wpAny (model X.prog X.w) X.A (call f us) (EP X pins σ Q) X.xe s
def TruR (X:Cx) (r:V->Hp->(Bool->Hp->Prop)->Prop):Prop :=
 ∀(pins:List (Addr×Obj)) (s:Shared) (σ:St) (H:Hp) (x:V) (v:Value) (Q:Bool->Hp->Prop),Inv X pins σ H s->zQ x v->r x H Q →
  wpAny (model X.prog X.w) X.A (truthy v) (TP X pins σ Q) X.xe s
def tOp (r:R2) (ta tb:TE):TE:=λσ H Q=>ta σ H λx H1=>tb σ H1 λy H2=>r x y H2 Q
def tUn (r:V->Hp->VK->Prop) (ta:TE):TE:=λσ H Q=>ta σ H λx H1=>r x H1 Q
def rI (C:Int->Int->Prop) (g:Int->Int->V):R2:=λx y H Q=>∃i j,x = .int i/\y = .int j/\C i j/\Q (g i j) H
def rI0 (g:Int->Int->V):R2:=λx y H Q=>∃i j,x = .int i/\y = .int j/\Q (g i j) H
def rU (g:Int->V):V->Hp->VK->Prop:=λx H Q=>∃i,x = .int i/\Q (g i) H
section
variable {X:Cx}{a b c:Expr}{ta tb tc:TE}{pos:Pos}
theorem zcJ (ha:PE X a ta) (hb:PE X b tb){pins:List (Addr×Obj)}{s:Shared}{σ:St}{H:Hp}{R:V->V->Hp->Prop}(I:Inv X pins σ H s)
  (h:ta σ H λx H1=>tb σ H1 λy H2=>R x y H2){Q:Value->Shared->Prop}{f:Value->Value->Sem Value}
  (hf:∀v u s2 x y H2,Inv X pins σ H2 s2->zQ x v->zQ y u->R x y H2->wpAny (model X.prog X.w) X.A (f v u) Q X.xe s2) :
  wpAny (model X.prog X.w) X.A (eval a X.env) (λv s₁=>wpAny (model X.prog X.w) X.A (eval b X.env) (λu s₂=>wpAny (model X.prog X.w) X.A (f v u) Q X.xe s₂) X.xe s₁) X.xe s:=by
 refine thn (ha pins s σ H _ I h) λv s1 ⟨x,H1,I1,r1,q1⟩=>?_
 refine thn (hb pins s1 σ H1 _ I1 q1) λu s2 ⟨y,H2,I2,r2,q2⟩=>?_
 exact hf v u s2 x y H2 I2 r1 r2 q2
theorem zl {op:Operator}{r:R2}(ho:OpR X (binaryOp op) r) (ha:PE X a ta) (hb:PE X b tb):PE X (.BinOp a op b pos) (tOp r ta tb):=by
 intro pins s σ H Q I h
 exact wpAny_BinOp (zcJ ha hb I h λv u s2 x y H2 I2 rx ry q=>ho pins s2 σ H2 x y v u Q I2 rx ry q)
theorem zct {op:UnaryOp}{r:V->Hp->VK->Prop}(ho:UnR X (unaryOp op) r) (ha:PE X a ta):PE X (.UnaryOp op a pos) (tUn r ta):=by
 intro pins s σ H Q I h
 exact UnaryOp_ (thn (ha pins s σ H _ I h) λv s1 ⟨x,H1,I1,r1,q1⟩=>ho pins s1 σ H1 x v Q I1 r1 q1)
theorem opI {f:Value->Value->Sem Value}{C:Int->Int->Prop}{g:Int->Int->Int}
  (rule:∀(i j:Int) (t u:Tok) (s:Shared) (Q:Value->Shared->Prop) (E:Value->Shared->Prop),C i j->Q (.int (g i j) s.toks) { s with toks:=s.toks+1 }->wpAny (model X.prog X.w) X.A (f (.int i t) (.int j u)) Q E s) :
  OpR X f (rI C λi j=>.int (g i j)):=by
 intro pins s σ H x y v u Q I rx ry h
 obtain⟨i,j,rfl,rfl,hc,q⟩:=h
 obtain⟨t,rfl⟩:=rx
 obtain⟨t',rfl⟩:=ry
 exact rule i j t t' s _ _ hc ⟨.int (g i j),H,I.tok _,⟨_,rfl⟩,q⟩
theorem zeG {f:Value->Value->Sem Value}{g:Int->Int->Int}
  (rule:∀(i j:Int) (t u:Tok) (s:Shared) (Q:Value->Shared->Prop) (E:Value->Shared->Prop),Q (.int (g i j) s.toks) { s with toks:=s.toks+1 }->wpAny (model X.prog X.w) X.A (f (.int i t) (.int j u)) Q E s) :
  OpR X f (rI0 λi j=>.int (g i j)):=by
 intro pins s σ H x y v u Q I rx ry h
 obtain⟨i,j,rfl,rfl,q⟩:=h
 obtain⟨t,rfl⟩:=rx
 obtain⟨t',rfl⟩:=ry
 exact rule i j t t' s _ _ ⟨.int (g i j),H,I.tok _,⟨_,rfl⟩,q⟩
theorem zeF {f:Value->Value->Sem Value}{g:Int->Int->Bool}
  (rule:∀(i j:Int) (t u:Tok) (s:Shared) (Q:Value->Shared->Prop) (E:Value->Shared->Prop),Q (.bool (g i j)) s->wpAny (model X.prog X.w) X.A (f (.int i t) (.int j u)) Q E s) :
  OpR X f (rI0 λi j=>.bl (g i j)):=by
 intro pins s σ H x y v u Q I rx ry h
 obtain⟨i,j,rfl,rfl,q⟩:=h
 obtain⟨t,rfl⟩:=rx
 obtain⟨t',rfl⟩:=ry
 exact rule i j t t' s _ _ ⟨.bl (g i j),H,I,rfl,q⟩
def CDiv (i j:Int):Prop:=0<j/\j<1073741824
def CPow (i j:Int):Prop:=0<=j/\j<=1000000/\i.natAbs<2^64
def zcD (i j:Int):Prop:=(-(2^64)<i/\i<2^64)\/(-(2^64)<j/\j<2^64)
theorem zcD.ok {i j:Int}(h:zcD i j):IntMulOk i j:=by
 rcases h with⟨h1,h2⟩ | ⟨h1,h2⟩
 ·exact .of_left (intBits_le_64 h1 h2)
 ·exact .of_right (intBits_le_64 h1 h2)
theorem zR:OpR X (binaryOp .Add) (rI0 λi j=>.int (i+j)):=zeG λ_ _ _ _ _ _ _ q=>add_int q
theorem xr:OpR X (binaryOp .Sub) (rI0 λi j=>.int (i - j)):=zeG λ_ _ _ _ _ _ _ q=>sub_int q
theorem Vu:OpR X (binaryOp .Mult) (rI zcD λi j=>.int (i*j)):=opI λ_ _ _ _ _ _ _ hc q=>mul_int q hc.ok
theorem jV:OpR X (binaryOp .FloorDiv) (rI CDiv λi j=>.int (i/j)):=opI λi j _ _ _ _ _ hc q=>by
 have h1:(0:Int)<j:=hc.1
 have h2:j<1073741824:=hc.2
 exact floordiv_int (by omega) (by rw[Int.fdiv_eq_ediv_of_nonneg i (by omega)];exact q) (.inl (PyProof.noPylong_small (by omega)))
theorem qC:OpR X (binaryOp .Mod) (rI (λ_ j=>0<j) λi j=>.int (i % j)):=opI λi j _ _ _ _ _ hc q=>by
 have h1:(0:Int)<j:=hc
 exact mod_int' (by omega) (by rw[Int.fmod_eq_emod_of_nonneg i (by omega)];exact q)
theorem v8:OpR X (binaryOp .Pow) (rI CPow λi j=>.int (i^j.toNat)):=opI λ_ _ _ _ _ _ _ hc q=>pow_int_small hc.1 hc.2.1 hc.2.2 q
theorem unI {f:Value->Sem Value}{g:Int->Int}
  (rule:∀(i:Int) (t:Tok) (s:Shared) (Q:Value->Shared->Prop) (E:Value->Shared->Prop),Q (.int (g i) s.toks) { s with toks:=s.toks+1 }->wpAny (model X.prog X.w) X.A (f (.int i t)) Q E s) :
  UnR X f (rU λi=>.int (g i)):=by
 intro pins s σ H x v Q I rx h
 obtain⟨i,rfl,q⟩:=h
 obtain⟨t,rfl⟩:=rx
 exact rule i t s _ _ ⟨.int (g i),H,I.tok _,⟨_,rfl⟩,q⟩
theorem zbj:UnR X (unaryOp .USub) (rU λi=>.int (-i)):=unI λ_ _ _ _ _ q=>neg_int q
end
def zdN:V->V->Bool
 | .non,.non=>true | .non,.int _=>true | .int _,.non=>true | .non,.bl _=>true | .bl _,.non=>true | .non,.str _=>true | .str _,.non=>true
 | .int _,.int _=>true | .bl _,.bl _=>true | .str _,.str _=>true | .byt _,.byt _=>true
 | .int _,.str _=>true | .str _,.int _=>true | .bl _,.str _=>true | .str _,.bl _=>true
 | _,_=>false
def rEq:R2:=λx y H Q=>zdN x y=true/\Q (.bl (decide (x=y))) H
def rNe:R2:=λx y H Q=>zdN x y=true/\Q (.bl (!decide (x=y))) H
theorem VX {i j:Int}:decide (V.int i=V.int j)=(i == j):=by
 rw[Bool.eq_iff_iff]
 simp
theorem zaf {i j:Bool}:decide (V.bl i=V.bl j)=(i == j):=by
 rw[Bool.eq_iff_iff]
 simp
theorem VY {i j:Str}:decide (V.str i=V.str j)=(i == j):=by
 rw[Bool.eq_iff_iff]
 simp
theorem VW {i j:Array UInt8}:decide (V.byt i=V.byt j)=(i.toList == j.toList):=by
 rw[Bool.eq_iff_iff]
 cases i
 cases j
 simp
section
variable {X:Cx}{a b c:Expr}{ta tb tc:TE}{pos:Pos}
theorem zX {pins:List (Addr×Obj)}{σ:St}{H:Hp}{s:Shared}{Q:VK}{k k':Bool}(I:Inv X pins σ H s) (q:Q (.bl k) H) (e:k=k'):EP X pins σ Q (.bool k') s:=by
 subst e
 exact⟨.bl k,H,I,rfl,q⟩
theorem x5:OpR X (compareOp .Eq) rEq:=by
 intro pins s σ H x y v u Q I rx ry h
 obtain⟨hs,q⟩:=h
 cases x with
 | non =>
  cases rx
  cases y with
  | non=>cases ry;exact PySem.EqNone.eq_none_none (zX I q (by simp))
  | bl j=>cases ry;exact PySem.EqNone.eq_none_bool (zX I q (by simp))
  | int j=>obtain⟨t',rfl⟩:=ry;exact PySem.EqNone.eq_none_int (zX I q (by simp))
  | str j=>obtain⟨t',rfl⟩:=ry;exact PySem.EqNone.eq_none_str (zX I q (by simp))
  | _=>exact absurd (show false=true from hs) Bool.false_ne_true
 | bl i =>
  cases rx
  cases y with
  | non=>cases ry;exact PySem.EqNone.eq_bool_none (zX I q (by simp))
  | bl j=>cases ry;exact eq_bool (zX I q zaf)
  | str j=>obtain⟨t',rfl⟩:=ry;exact PySem.EqMixed.eq_bool_str (zX I q (by simp))
  | _=>exact absurd (show false=true from hs) Bool.false_ne_true
 | int i =>
  obtain⟨t,rfl⟩:=rx
  cases y with
  | non=>cases ry;exact PySem.EqNone.eq_int_none (zX I q (by simp))
  | int j=>obtain⟨t',rfl⟩:=ry;exact eq_int (zX I q VX)
  | str j=>obtain⟨t',rfl⟩:=ry;exact PySem.EqMixed.eq_int_str (zX I q (by simp))
  | _=>exact absurd (show false=true from hs) Bool.false_ne_true
 | str i =>
  obtain⟨t,rfl⟩:=rx
  cases y with
  | non=>cases ry;exact PySem.EqNone.eq_str_none (zX I q (by simp))
  | bl j=>cases ry;exact PySem.EqMixed.eq_str_bool (zX I q (by simp))
  | int j=>obtain⟨t',rfl⟩:=ry;exact PySem.EqMixed.eq_str_int (zX I q (by simp))
  | str j=>obtain⟨t',rfl⟩:=ry;exact eq_str (zX I q VY)
  | _=>exact absurd (show false=true from hs) Bool.false_ne_true
 | byt i =>
  obtain⟨t,rfl⟩:=rx
  cases y with
  | byt j=>obtain⟨t',rfl⟩:=ry;exact PySem.W.eq_bytes (zX I q VW)
  | _=>exact absurd (show false=true from hs) Bool.false_ne_true
 | _=>cases y <;> exact absurd (show false=true from hs) Bool.false_ne_true
theorem zcs:OpR X (compareOp .NotEq) rNe:=by
 intro pins s σ H x y v u Q I rx ry h
 obtain⟨hs,q⟩:=h
 cases x with
 | non =>
  cases rx
  cases y with
  | non=>cases ry;exact PySem.EqNone.ne_none_none (zX I q (by simp))
  | bl j=>cases ry;exact PySem.EqNone.ne_none_bool (zX I q (by simp))
  | int j=>obtain⟨t',rfl⟩:=ry;exact PySem.EqNone.ne_none_int (zX I q (by simp))
  | str j=>obtain⟨t',rfl⟩:=ry;exact PySem.EqNone.ne_none_str (zX I q (by simp))
  | _=>exact absurd (show false=true from hs) Bool.false_ne_true
 | bl i =>
  cases rx
  cases y with
  | non=>cases ry;exact PySem.EqNone.ne_bool_none (zX I q (by simp))
  | bl j=>cases ry;exact ne_bool (zX I q (congrArg not zaf))
  | str j=>obtain⟨t',rfl⟩:=ry;exact PySem.EqMixed.ne_bool_str (zX I q (by simp))
  | _=>exact absurd (show false=true from hs) Bool.false_ne_true
 | int i =>
  obtain⟨t,rfl⟩:=rx
  cases y with
  | non=>cases ry;exact PySem.EqNone.ne_int_none (zX I q (by simp))
  | int j=>obtain⟨t',rfl⟩:=ry;exact ne_int (zX I q (congrArg not VX))
  | str j=>obtain⟨t',rfl⟩:=ry;exact PySem.EqMixed.ne_int_str (zX I q (by simp))
  | _=>exact absurd (show false=true from hs) Bool.false_ne_true
 | str i =>
  obtain⟨t,rfl⟩:=rx
  cases y with
  | non=>cases ry;exact PySem.EqNone.ne_str_none (zX I q (by simp))
  | bl j=>cases ry;exact PySem.EqMixed.ne_str_bool (zX I q (by simp))
  | int j=>obtain⟨t',rfl⟩:=ry;exact PySem.EqMixed.ne_str_int (zX I q (by simp))
  | str j=>obtain⟨t',rfl⟩:=ry;exact ne_str (zX I q (congrArg not VY))
  | _=>exact absurd (show false=true from hs) Bool.false_ne_true
 | byt i =>
  obtain⟨t,rfl⟩:=rx
  cases y with
  | byt j=>obtain⟨t',rfl⟩:=ry;exact PySem.W.ne_bytes (zX I q (congrArg not VW))
  | _=>exact absurd (show false=true from hs) Bool.false_ne_true
 | _=>cases y <;> exact absurd (show false=true from hs) Bool.false_ne_true
theorem jW:OpR X (compareOp .Lt) (rI0 λi j=>.bl (decide (i<j))):=zeF λ_ _ _ _ _ _ _ q=>lt_int q
theorem jA:OpR X (compareOp .Gt) (rI0 λi j=>.bl (decide (j<i))):=zeF λ_ _ _ _ _ _ _ q=>gt_int q
theorem jp:OpR X (compareOp .Is) (λx y H Q=>y = .non/\Q (.bl (decide (x = .non))) H):=by
 intro pins s σ H x y v u Q I rx ry h
 obtain⟨rfl,q⟩:=h
 cases ry
 refine is_none_gen (zX I q ?_)
 cases x <;> first
  | (cases rx;rfl)
  | (obtain⟨t,rfl⟩:=rx;rfl)
theorem Jd:OpR X (compareOp .IsNot) (λx y H Q=>y = .non/\Q (.bl (!decide (x = .non))) H):=by
 intro pins s σ H x y v u Q I rx ry h
 obtain⟨rfl,q⟩:=h
 cases ry
 refine isnot_none_gen (zX I q ?_)
 cases x <;> first
  | (cases rx;rfl)
  | (obtain⟨t,rfl⟩:=rx;rfl)
theorem zy (b:Expr){op:CmpOp}(h:op≠.In:=by decide) (h2:op≠.NotIn:=by decide):behindInMarks op b=false:=by
 have e1:(op == CmpOp.In)=false:=by cases op <;> first | rfl | exact absurd rfl h
 have e2:(op == CmpOp.NotIn)=false:=by cases op <;> first | rfl | exact absurd rfl h2
 cases b <;> simp[behindInMarks,e1,e2]
theorem qF {op:CmpOp}{r:R2}(ho:OpR X (compareOp op) r) (ha:PE X a ta) (hb:PE X b tb) (hm:behindInMarks op b=false):PE X (.Compare a [op] [b] pos) (tOp r ta tb):=by
 intro pins s σ H Q I h
 exact wpAny_Compare1 (zcJ ha hb I h λv u s2 x y H2 I2 rx ry q=>ho pins s2 σ H2 x y v u Q I2 rx ry q) hm
def zfe (t:TE):TT:=λσ H Q=>t σ H λx H'=>∃k,x = .bl k/\Q k H'
theorem zu {op:CmpOp}{r:R2}(ho:OpR X (compareOp op) r) (ha:PE X a ta) (hb:PE X b tb) (hm:behindInMarks op b=false):PT X (.Compare a [op] [b] pos) (zfe (tOp r ta tb)):=by
 intro pins s σ H Q I h
 refine wpAny_isTrue_Compare1 (thn (ha pins s σ H _ I h) λv s1 ⟨x,H1,I1,r1,q1⟩=>thn (hb pins s1 σ H1 _ I1 q1) λu s2 ⟨y,H2,I2,r2,q2⟩ =>
  thn (ho pins s2 σ H2 x y v u _ I2 r1 r2 q2) λc s3 ⟨z,H3,I3,r3,k,e,q3⟩=>?_) hm
 subst e
 cases r3
 exact wpAny_truthy_bool ⟨H3,I3,q3⟩
def zbp (K:PySem.W.Frag) (x:V) (H:Hp) (k:Bool):Prop :=
 match x with
 | .non=>k=false
 | .bl b=>k=b
 | .int i=>k=(i != 0)
 | .str y=>y.length<=sizeLine/\k=((y.length:Int) != 0)
 | .byt y=>y.size<=sizeLine/\k=((y.size:Int) != 0)
 | .ref p=>(∃xs,SqL K H p xs/\k = !xs.isEmpty)\/(∃xs,SqT K H p xs/\k = !xs.isEmpty)\/∃kvs,H p=some (.dK kvs)/\k = !kvs.isEmpty
 | _=>False
theorem Vn {κ:Type}{kvs:List (κ×V)}{vs:List (κ×Value)} (r:KV kvs vs):(!vs.isEmpty) = !kvs.isEmpty:=by
 cases r <;> rfl
theorem Xb {xs:List V}{its:List Value}(r:zK xs its):(!its.toArray.isEmpty) = !xs.isEmpty:=by
 cases r <;> simp
theorem Xd:(sizeLine:Nat)<2^63:=by rw[sizeLine_eq];decide
theorem zd4:TruR X (λx H Q=>∃k,zbp X.K x H k/\Q k H):=by
 intro pins s σ H x v Q I rx h
 obtain⟨k,e,q⟩:=h
 have hl:=Xd
 have hs:sizeLine=16777216:=sizeLine_eq
 cases x with
 | non =>
  cases rx
  have e':k=false:=e
  subst e'
  exact truthy_none ⟨H,I,q⟩
 | bl b =>
  cases rx
  have e':k=b:=e
  subst e'
  exact wpAny_truthy_bool ⟨H,I,q⟩
 | int i =>
  obtain⟨t,rfl⟩:=rx
  have e':k=(i != 0):=e
  subst e'
  exact PySem.P.truthy_int ⟨H,I,q⟩
 | str y =>
  obtain⟨t,rfl⟩:=rx
  obtain⟨hy,e'⟩:y.length<=sizeLine/\k=((y.length:Int) != 0):=e
  subst e'
  exact PySem.P.truthy_str (by omega) ⟨H,I.tok _,q⟩
 | byt y =>
  obtain⟨t,rfl⟩:=rx
  obtain⟨hy,e'⟩:y.size<=sizeLine/\k=((y.size:Int) != 0):=e
  subst e'
  exact PySem.W.truthy_bytes (by omega) ⟨H,I.tok _,q⟩
 | ref p =>
  cases rx
  have e':(∃xs,SqL X.K H p xs/\k = !xs.isEmpty)\/(∃xs,SqT X.K H p xs/\k = !xs.isEmpty)\/∃kvs,H p=some (.dK kvs)/\k = !kvs.isEmpty:=e
  rcases e' with⟨xs,hx,e'⟩ | ⟨xs,hx,e'⟩ | ⟨kvs,hx,e'⟩
  ·subst e'
   obtain⟨its,r,pl,hz⟩:=I.list hx
   have hlen:=r.length
   exact wpAny_truthy_list pl.isList (by simp only[List.size_toArray];omega) ⟨H,I.tok _,by rw[Xb r];exact q⟩
  ·subst e'
   obtain⟨its,r,pl,hz⟩:=I.tuple hx
   have hlen:=r.length
   exact truthy_tuple pl (by simp only[List.size_toArray];omega) ⟨H,I.tok _,by rw[Xb r];exact q⟩
  ·subst e'
   obtain⟨hz,hS,vs,r,m⟩:kvs.length<=sizeLine/\(p == sysModules)=false/\∃vs,KV kvs vs/\s.heap.DictOf (xB X.prog X.w) p vs:=I.hok p _ hx
   have hlen:kvs.length=vs.length:=Paired.length r
   exact wpAny_truthy_dict hS m (by omega) ⟨H,I.tok _,by rw[Vn r];exact q⟩
 | _=>exact(show False from e).elim
theorem xL (ha:PE X a ta) (he:∀whole,isTrue a X.env whole=(do let v <-whole;standAt a.pos;holding [v] (truthy v))) :
  PT X a (λσ H Q=>ta σ H λx H'=>∃k,zbp X.K x H' k/\Q k H'):=by
 intro pins s σ H Q I h
 exact isTrue_plain (thn (ha pins s σ H _ I h) λv s1 ⟨x,H1,I1,r1,q1⟩=>zd4 pins s1 σ H1 x v Q I1 r1 q1) (he _)
theorem vW {x:V}{us:List Value}(r:zK [x] us):∃u,us=[u]/\zQ x u:=by
 cases r with
 | cons r1 r2=>cases r2;exact⟨_,rfl,r1⟩
theorem Q6 {x y:V}{us:List Value}(r:zK [x,y] us):∃u w',us=[u,w']/\zQ x u/\zQ y w':=by
 cases r with
 | cons r1 r2 =>
  cases r2 with
  | cons r3 r4=>cases r4;exact⟨_,_,rfl,r1,r3⟩
theorem jj:va X (.builtin "abs") (λxs H Q=>∃i,xs=[.int i]/\Q (.int (if i<0 then -i else i)) H):=by
 intro pins s σ H xs us Q I r h
 obtain⟨i,rfl,q⟩:=h
 obtain⟨u,rfl,t,rfl⟩:=vW r
 exact call_abs_int λu tk=>⟨.int (if i<0 then -i else i),H,I.tok _,⟨_,rfl⟩,q⟩
theorem jv (hc:X.calm=true):va X (.builtin "max") (λxs H Q=>∃i j,xs=[.int i,.int j]/\Q (.int (if j>i then j else i)) H):=by
 intro pins s σ H xs us Q I r h
 obtain⟨i,j,rfl,q⟩:=h
 obtain⟨u,w',rfl,⟨t,rfl⟩,⟨t',rfl⟩⟩:=Q6 r
 refine max_two_ints (I.ok.hd hc) λh' tk k=>⟨_,H,I.kept k,?_,q⟩
 by_cases hj:j>i
 ·rw[if_pos hj,if_pos hj];exact⟨_,rfl⟩
 ·rw[if_neg hj,if_neg hj];exact⟨_,rfl⟩
end
end L2
namespace L2
open PySem PySem.Spec PyProof.Rows
structure Jv (h:Heap) (x dx C:Addr) (mA:Str->Option Value):Prop where
 obj:h.get? x=some (PySem.W.instObj C dx)
 ns:h.Ns1 dx mA
 ne:dx≠x
theorem JL {h:Heap}{dx:Addr}{mA:Str->Option Value}(n:h.Ns1 dx mA):∃od,h.get? dx=some od/\∀name,PySem.W.lookIn name od=some (mA name):=by
 obtain⟨o,es,ep,ho,hd,hk,_,hm⟩:=n
 refine⟨o,ho,λname=>?_⟩
 have e:=hm name
 unfold nsFind findBy at e
 rw[<-Array.find?_toList]at e
 unfold PySem.W.lookIn
 rw[hd]
 dsimp only
 split
 ·rename_i y q
  rw[q]at e
  exact congrArg some e
 ·rename_i q
  rw[q]at e
  have a:es.toList.any (·.refKey)=false:=by
   rw[List.any_eq_false]
   intro y hy
   obtain⟨z,t,hkey⟩:=hk y (Array.mem_toList_iff.mp hy)
   simp[DictEntry.refKey,hkey]
  have a':¬es.toList.any (·.refKey)=true:=by rw[a];exact Bool.false_ne_true
  rw[if_neg a']
  exact congrArg some e
theorem Jv.look {h:Heap}{x dx C:Addr}{mA:Str->Option Value}(I:Jv h x dx C mA):∃od,PySem.W.InstAt h x (PySem.W.instObj C dx) C (some od)/\∀name,PySem.W.lookIn name od=some (mA name) :=
 let ⟨od,ho,hl⟩:=JL I.ns
 ⟨od,⟨I.obj,rfl,rfl,ho⟩,hl⟩
section
variable {prog:Program}{w:World}{A:Around}{E:Value->Shared->Prop}{s:Shared}{K:PySem.W.Frag}{x dx C f:Addr}{mA:Str->Option Value}{name:Str}{v:Value}
theorem zbx {expr:Bool}{Q:Value->Shared->Prop}(X:K.In s.heap) (I:Jv s.heap x dx C mA) (hg:PySem.W.plainGet K C name=true) (hh:PySem.W.hasDictIn K C=true)
  (ha:PySem.W.findIn K (.ref C) name=some none) (hv:mA name=some v) (hv':PySem.W.handedIn v=true) (h:Q v { s with toks:=s.toks+1 }) :
  wpAny (model prog w) A (getAttr (.ref x) name expr) Q E s:=by
 obtain⟨od,J,hl⟩:=I.look
 exact PySem.W.get_value X J (PySem.W.plainGet_of hg).1 (PySem.W.findObj_own hh ha rfl (by rw[hl,hv])) hv' h
theorem zb6 {ns:List Str}{Q:Unit->Shared->Prop}(X:K.In s.heap) (I:Jv s.heap x dx C mA)
  (hs:PySem.W.findIn K (.ref C) "__setattr__" = some (some (.builtin "object.__setattr__"))) (hp:PySem.W.plainOver K C=true) (ht:PySem.W.takerIn K C name=some none) (hh:PySem.W.hasDictIn K C=true)
  (hw:PySem.Within mA ns) (hsz:ns.length<=sizeLine)
  (h:∀h',Jv h' x dx C (λy=>if y=name then some v else mA y)->Heap.SameBut dx s.heap h'->Q () { s with heap:=h',toks:=s.toks+2 }) :
  wpAny (model prog w) A (setAttr (.ref x) name v) Q E s:=by
 obtain⟨od,J,hl⟩:=I.look
 refine PySem.W.set_plain X J hs (PySem.W.osa_open (s:={ s with toks:=s.toks+1 }) (r:=none) X J hp ht λb=>?_)
 obtain⟨cd,hc,hd'⟩:=PySem.W.any_some hh
 have hx:s.heap.get? x=some ⟨.ref C,some dx,.plain,#[]⟩:=I.obj
 refine wpAny_bind (wpAny_pure (wpAny_bind (wpAny_bind (wpAny_loadPart hx (wpAny_bind (PySem.W.Looks.here (s:={ s with toks:=s.toks+1 }) (PySem.W.looks_clsIn X hc) ?_))))))
 rw[hd']
 refine wpAny_pure (a:=some dx) (wpAny_bind (wpAny_pure (wpAny_bind ?_)))
 refine wpAny_nsSet1 (s:={ s with toks:=s.toks+1 }) I.ns λh' hn2 hs2=>?_
 obtain⟨oD,esD,epD,hoD,hdD,hcD⟩:=hn2.count (PySem.Within.cons name v hw)
 refine wpAny_bind (wpAny_lookBehind hoD (by rw[hdD];exact pastItsLine_dict (Nat.le_trans hcD (by rw[List.length_cons];omega))) ?_)
 exact wpAny_pure (h _ ⟨(hs2.2 _ (Ne.symm I.ne)).trans I.obj,hn2,I.ne⟩ hs2)
theorem zaz {R:Result->Shared->Prop}{vs:List Value}{kw:List (Str×Value)} (X:K.In s.heap) (hm:PySem.W.makesIn K C=true)
  (hi:PySem.W.findIn K (.ref C) "__init__" = some (some (.ref f))) (hf:PySem.W.typeIn K (.ref f)=some (.type "function"))
  (h:codeAny (model prog w) (A.under (.builtin "type.__call__" ⟨.ref C::vs,kw⟩)) (.call (.ref f) ⟨.ref (s.heap.objs.size+1)::vs,kw⟩) (PySem.W.InitBack (s.heap.objs.size+1) R)
   { s with heap:=(s.heap.push PySem.W.emptyDict).push (PySem.W.instObj C s.heap.objs.size) }) :
  codeAny (model prog w) A (.call (.ref C) ⟨vs,kw⟩) R s:=by
 obtain⟨hh,g,d,t,os⟩:=s
 exact PySem.W.make_core (PySem.W.makes_of X hm) (PySem.W.looks_findIn X hi) (λself=>PySem.W.bind_fn X self hf) (.inl rfl) h
end
def vT (f:Str) (v:V):List (Str×V)->List (Str×V)
 | []=>[(f,v)]
 | (g,x)::r=>if g=f then(g,v)::r else(g,x)::vT f v r
theorem ZI (f g:Str) (v:V):∀fs:List (Str×V),(vT f v fs).lookup g=if g=f then some v else fs.lookup g
 | []=>by
  show List.lookup g [(f,v)]=_
  by_cases h:g=f
  ·have hb:(g == f)=true:=beq_iff_eq.mpr h
   simp only[List.lookup,hb,if_pos h]
  ·have hb:(g == f)=false:=beq_eq_false_iff_ne.mpr h
   simp only[List.lookup,hb,if_neg h]
 | (k,x)::r=>by
  have ih:=ZI f g v r
  rw[show vT f v ((k,x)::r)=(if k=f then(k,v)::r else(k,x)::vT f v r)from rfl]
  by_cases hk:k=f
  ·rw[if_pos hk]
   by_cases h:g=k
   ·have hb:(g == k)=true:=beq_iff_eq.mpr h
    simp only[List.lookup,hb,if_pos (h.trans hk)]
   ·have hb:(g == k)=false:=beq_eq_false_iff_ne.mpr h
    simp only[List.lookup,hb,if_neg (λe:g=f=>h (e.trans hk.symm))]
  ·rw[if_neg hk]
   by_cases h:g=k
   ·have hb:(g == k)=true:=beq_iff_eq.mpr h
    simp only[List.lookup,hb,if_neg (λe:g=f=>hk (h.symm.trans e))]
   ·have hb:(g == k)=false:=beq_eq_false_iff_ne.mpr h
    simp only[List.lookup,hb]
    exact ih
theorem Zr (f:Str) (v:V):∀fs:List (Str×V),f∈(vT f v fs).map (·.1)/\∀g,g∈fs.map (·.1)->g∈(vT f v fs).map (·.1)
 | []=>⟨by simp[vT],λg h=>by simp at h⟩
 | (k,x)::r=>by
  obtain⟨i1,i2⟩:=Zr f v r
  rw[show vT f v ((k,x)::r)=(if k=f then(k,v)::r else(k,x)::vT f v r)from rfl]
  by_cases hk:k=f
  ·rw[if_pos hk]
   subst hk
   exact⟨by simp,λg h=>by simpa using h⟩
  ·rw[if_neg hk]
   refine⟨?_,λg h=>?_⟩
   ·rw[List.map_cons]
    exact List.mem_cons_of_mem _ i1
   ·rw[List.map_cons]at h ⊢
    rcases List.mem_cons.mp h with e | e
    ·exact List.mem_cons.mpr (.inl e)
    ·exact List.mem_cons_of_mem _ (i2 g e)
theorem ZH (f:Str) (v:V):∀fs:List (Str×V),(vT f v fs).length<=fs.length+1
 | []=>by simp[vT]
 | (k,x)::r=>by
  have ih:=ZH f v r
  rw[show vT f v ((k,x)::r)=(if k=f then(k,v)::r else(k,x)::vT f v r)from rfl]
  by_cases hk:k=f
  ·rw[if_pos hk,List.length_cons,List.length_cons];omega
  ·rw[if_neg hk,List.length_cons,List.length_cons];omega
theorem Zf.some_of {v:V}{o:Option Value}(r:Zf (some v) o):∃u,o=some u/\zQ v u:=by
 cases o with
 | none=>exact(show False from r).elim
 | some u=>exact⟨u,rfl,r⟩
theorem JE {v:V}{u:Value}(r:zQ v u):PySem.W.handedIn u=true:=by
 cases v with
 | non=>cases(show u=Value.none from r);rfl
 | bl b=>cases(show u=Value.bool b from r);rfl
 | int i=>obtain⟨t,e⟩:=(show ∃t,u=Value.int i t from r);cases e;rfl
 | str x=>obtain⟨t,e⟩:=(show ∃t,u=Value.str x t from r);cases e;rfl
 | byt b=>obtain⟨t,e⟩:=(show ∃t,u=Value.bytes b t from r);cases e;rfl
 | flt b=>obtain⟨t,e⟩:=(show ∃t,u=Value.float b t from r);cases e;rfl
 | ref a=>cases(show u=Value.ref a from r);rfl
 | ty n=>cases(show u=Value.type n from r);rfl
section
variable {P:Program}{w:World}{H H':Hp}{h h':Heap}{a C dx:Addr}{fs fs':List (Str×V)}
theorem Qd (hok:HOk P w H h) (e:H a=some (.ins C dx fs)):∃mA,Jv h a dx C mA/\(∀f,Zf (fs.lookup f) (mA f))/\PySem.Within mA (fs.map (·.1))/\fs.length<=1000/\H dx=some (.own a):=by
 obtain⟨d,z,ne,ob,mA,n,r,q⟩:=(show xi P w H h a (.ins C dx fs)from hok a _ e)
 exact⟨mA,⟨ob,n,ne⟩,r,q,z,d⟩
end
structure Cls (K:PySem.W.Frag) (C:Addr):Prop where
 pg:PySem.W.plainGet K C Str.empty=true
 hd:PySem.W.hasDictIn K C=true
 po:PySem.W.plainOver K C=true
 sa:PySem.W.findIn K (.ref C) "__setattr__" = some (some (.builtin "object.__setattr__"))
theorem Cls.get {K:PySem.W.Frag}{C:Addr}(c:Cls K C) (f:Str):PySem.W.plainGet K C f=true:=c.pg
def x4 (K:PySem.W.Frag) (C:Addr) (f:Str):Prop:=PySem.W.findIn K (.ref C) f=some none
theorem x4.taker {K:PySem.W.Frag}{C:Addr}{f:Str}(n:x4 K C f):PySem.W.takerIn K C f=some none:=by
 unfold PySem.W.takerIn
 rw[show PySem.W.findIn K (.ref C) f=some none from n]
 rfl
section
variable {X:Cx}{pins:List (Addr×Obj)}{σ:St}{H:Hp}{s:Shared}{a C dx:Addr}{fs:List (Str×V)}{f:Str}{v:V}{A:Around}{E:Value->Shared->Prop}
theorem Vl {b:Bool}{Q:Value->Shared->Prop}(I:Inv X pins σ H s) (e:H a=some (.ins C dx fs)) (c:Cls X.K C) (n:x4 X.K C f) (l:fs.lookup f=some v)
  (h:∀u s',Inv X pins σ H s'->zQ v u->Q u s'):wpAny (model X.prog X.w) A (getAttr (.ref a) f b) Q E s:=by
 obtain⟨mA,O,r,_,_,_⟩:=Qd I.hok e
 obtain⟨u,hu,ru⟩:=Zf.some_of (v:=v) (o:=mA f) (by rw[<-l];exact r f)
 exact zbx I.kIn O (c.get f) c.hd n hu (JE ru) (h u _ (I.tok _) ru)
theorem VD {y:V}{u:Value}{Q:Unit->Shared->Prop}(I:Inv X pins σ H s) (e:H a=some (.ins C dx fs)) (c:Cls X.K C) (n:x4 X.K C f) (hl:fs.length<1000) (ry:zQ y u)
  (h:∀s',Inv X pins σ (upd H a (.ins C dx (vT f y fs))) s'->Q () s'):wpAny (model X.prog X.w) A (setAttr (.ref a) f u) Q E s:=by
 obtain⟨mA,O,r,wi,_,ho⟩:=Qd I.hok e
 have hz:(fs.map (·.1)).length<=sizeLine:=by rw[List.length_map,sizeLine_eq];omega
 refine zb6 I.kIn O c.sa c.po n.taker c.hd wi hz λh' O' sb=>h _ ?_
 have hd:∃o,h'.get? dx=some o:=let ⟨o,_,_,e',_⟩:=O'.ns;⟨o,e'⟩
 refine I.write (x:=a) (e:=dx) (by rw[e];exact True.intro) (.inr ho) (λb q hb z=>(sb.2 b hb).trans z) hd ?_
 refine⟨by rw[zB O.ne];exact ho,?_,O.ne,O'.obj,_,O'.ns,λg=>?_,λg hg=>?_⟩
 ·have:=ZH f y fs;omega
 ·show Zf ((vT f y fs).lookup g) (if g=f then some u else mA g)
  rw[ZI]
  by_cases q:g=f
  ·rw[if_pos q,if_pos q];exact ry
  ·rw[if_neg q,if_neg q];exact r g
 ·by_cases q:g=f
  ·rw[q];exact(Zr f y fs).1
  ·refine(Zr f y fs).2 g (wi g λz=>hg ?_)
   show (if g=f then some u else mA g)=none
   rw[if_neg q];exact z
theorem Inv.made (I:Inv X pins σ H s):Inv X pins σ (upd (upd H s.heap.objs.size (.own (s.heap.objs.size+1))) (s.heap.objs.size+1) (.ins C s.heap.objs.size []))
  { s with heap:=(s.heap.push PySem.W.emptyDict).push (PySem.W.instObj C s.heap.objs.size) }:=by
 have e1:(s.heap.push PySem.W.emptyDict).get? s.heap.objs.size=some PySem.W.emptyDict:=Heap.get?_push_size s.heap rfl
 have e2:((s.heap.push PySem.W.emptyDict).push (PySem.W.instObj C s.heap.objs.size)).get? (s.heap.objs.size+1)=some (PySem.W.instObj C s.heap.objs.size):=by
  have:=Heap.get?_push_size (s.heap.push PySem.W.emptyDict) (o:=PySem.W.instObj C s.heap.objs.size) rfl
  rwa [Heap.size_push]at this
 have e3:(s.heap.push PySem.W.emptyDict).Ns s.heap.objs.size (λ_=>none):=⟨PySem.W.emptyDict,#[],_,e1,rfl,(λe he=>absurd he (by simp)),λ_=>rfl⟩
 have I1:=I.laid (a:=s.heap.objs.size) (o:=.own (s.heap.objs.size+1)) (h':=s.heap.push PySem.W.emptyDict) (t':=s.toks) (λb u q=>Heap.get?_push_of_some _ q) (Nat.le_refl _) ⟨_,e1⟩
 refine I1.laid (a:=s.heap.objs.size+1) (o:=.ins C s.heap.objs.size []) (t':=s.toks) (λb u q=>Heap.get?_push_of_some _ q) (Nat.le_of_eq (Heap.size_push _ _)) ?_
 have ne:s.heap.objs.size≠s.heap.objs.size+1:=Nat.ne_of_lt (Nat.lt_succ_self _)
 refine⟨by rw[zB ne,zg],Nat.zero_le _,ne,e2,λ_=>none,(Heap.Ns1.of_empty e3).at λo q=>Heap.get?_push_of_some _ q,λ_=>True.intro,λy hy=>absurd rfl hy⟩
theorem zbs {prog:Program}{w:World}{env:Env}{e:Expr}{f:Str}{pos:Pos}{s:Shared}{Q:Value->Shared->Prop}(hb:attributeBase e f env (eval e env)=eval e env)
  (h:wpAny (model prog w) A (eval e env) (λo s₁=>wpAny (model prog w) A (getAttr o f true) Q E s₁) E s):wpAny (model prog w) A (eval (.Attribute e f pos) env) Q E s :=
 Attribute_any_ h (by rw[arm_eval_Attribute,hb])
end
def ze8 (K:PySem.W.Frag) (ta:TE) (f:Str):TE:=λσ H Q=>ta σ H λx H1=>∃a C dx fs v,x = .ref a/\H1 a=some (.ins C dx fs)/\Cls K C/\x4 K C f/\fs.lookup f=some v/\Q v H1
def zdF (K:PySem.W.Frag) (ta tv:TE) (f:Str):TS:=λD σ H=>tv σ H λy H1=>ta σ H1 λx H2=>∃a C dx fs,x = .ref a/\H2 a=some (.ins C dx fs)/\Cls K C/\x4 K C f/\fs.length<1000 ∧
 D.nx σ (upd H2 a (.ins C dx (vT f y fs)))
section
variable {X:Cx}{o e value:Expr}{f:Str}{pos pos' tpos:Pos}{ta tv:TE}
theorem qL (he:PE X e ta) (hb:attributeBase e f X.env (eval e X.env)=eval e X.env):PE X (.Attribute e f pos) (ze8 X.K ta f):=by
 intro pins s σ H Q I h
 refine zbs hb (thn (he pins s σ H _ I h) λu s1 ⟨x,H1,I1,rx,a,C,dx,fs,v,ex,ea,c,n,l,q⟩=>?_)
 subst ex
 obtain rfl:u=Value.ref a:=rx
 exact Vl I1 ea c n l λu' s2 I2 ru=>⟨v,H1,I2,ru,q⟩
theorem jH (ha:PE X o ta) (hv:PE X value tv) (hs:swapsWith value (some (.Attribute o f pos')) pos.line X.env=pure false):PS X (.Assign [.Attribute o f pos'] value pos) (zdF X.K ta tv f):=by
 intro pins s σ H D I h
 refine plainObj_wpAny_Assign_Attribute (thn (hv pins s σ H _ I h) λu s1 ⟨y,H1,I1,ry,q⟩=>thn (ha pins s1 σ H1 _ I1 q) λov s2 ⟨x,H2,I2,rx,a,C,dx,fs,ex,ea,c,n,l,q2⟩=>?_) hs
 subst ex
 obtain rfl:ov=Value.ref a:=rx
 exact VD I2 ea c n l ry λs3 I3=>⟨σ,_,I3,q2⟩
end
section
variable {X:Cx}{pins:List (Addr×Obj)}{σ:St}{H:Hp}{s:Shared}{A:Around}{E:Value->Shared->Prop}{Q:Value->Shared->Prop}{c:Value}{b:Bool}
inductive Zh (K:PySem.W.Frag) (H:Hp):V->Value->Prop where
 | non:Zh K H .non (.type "NoneType")
 | bl (x:Bool):Zh K H (.bl x) (.type "bool")
 | int (i:Int):Zh K H (.int i) (.type "int")
 | str (x:Str):Zh K H (.str x) (.type "str")
 | flt (x:UInt64):Zh K H (.flt x) (.type "float")
 | lst {a:Addr}{xs:List V}(e:H a=some (.lst xs)):Zh K H (.ref a) (.type "list")
 | frz {a:Addr}{o:Obj}{xs:List V}(e:H a=some (.frz o (.lst xs))):Zh K H (.ref a) (.type "list")
 | tup {a:Addr}{xs:List V}(e:H a=some (.tup xs)):Zh K H (.ref a) (.type "tuple")
 | dK {a:Addr}{kvs:List (Key×V)} (e:H a=some (.dK kvs)):Zh K H (.ref a) (.type "dict")
 | dT {a:Addr}{kvs:List (List Key×V)} (e:H a=some (.dT kvs)):Zh K H (.ref a) (.type "dict")
 | ins {a C dx:Addr}{fs:List (Str×V)} (e:H a=some (.ins C dx fs)) (cl:Cls K C) (ha:PySem.W.findIn K (.ref C) "__class__" = some (some (.builtin "object.__class__")))
   (hn:PySem.W.specialIn K (.builtin "object.__class__") "__get__" = some (some (.builtin "getset_descriptor.__get__"))) (htk:PySem.W.takesIn K (.builtin "object.__class__")=some true)
   (hm:PySem.W.mroIn K C (.type "object")=some true):Zh K H (.ref a) (.ref C)
theorem JH {x:V}{u t:Value}(I:Inv X pins σ H s) (rx:zQ x u) (ty:Zh X.K H x t) (e:PySem.W.kitOne X.K t c=some b) (h:∀tk,Q (.bool b) { s with toks:=tk }) :
  wpAny (model X.prog X.w) A (call (.builtin "isinstance") [u,c]) Q E s:=by
 cases ty with
 | non=>cases(show u=Value.none from rx);exact PySem.W.kia_one PySem.W.kitx_none I.kIn True.intro e (λz=>nomatch z) h
 | bl y=>cases(show u=Value.bool y from rx);exact PySem.W.kia_one PySem.W.kitx_bool I.kIn True.intro e (λz=>nomatch z) h
 | int i=>obtain⟨t,q⟩:=(show ∃t,u=Value.int i t from rx);cases q;exact PySem.W.kia_one PySem.W.kitx_int I.kIn True.intro e (λz=>nomatch z) h
 | str y=>obtain⟨t,q⟩:=(show ∃t,u=Value.str y t from rx);cases q;exact PySem.W.kia_one PySem.W.kitx_str I.kIn True.intro e (λz=>nomatch z) h
 | flt y=>obtain⟨t,q⟩:=(show ∃t,u=Value.float y t from rx);cases q;exact PySem.W.kia_one PySem.W.kitx_float I.kIn True.intro e (λz=>nomatch z) h
 | @lst a xs ea =>
  cases(show u=Value.ref a from rx)
  obtain⟨_,_,n,_,h1⟩:=(show xi X.prog X.w H s.heap a (.lst xs)from I.hok a _ ea)
  exact PySem.W.kia_one PySem.W.kitx_list I.kIn ⟨_,h1,rfl⟩ e (λz=>nomatch z) h
 | @frz a ob xs ea =>
  cases(show u=Value.ref a from rx)
  obtain⟨_,_,_,n,_,h1⟩:=(show xi X.prog X.w H s.heap a (.frz ob (.lst xs))from I.hok a _ ea)
  exact PySem.W.kia_one PySem.W.kitx_list I.kIn ⟨_,h1,rfl⟩ e (λz=>nomatch z) h
 | @tup a xs ea =>
  cases(show u=Value.ref a from rx)
  obtain⟨_,_,_,p⟩:=(show xi X.prog X.w H s.heap a (.tup xs)from I.hok a _ ea)
  obtain⟨o,h1,h2,_⟩:=p
  exact PySem.W.kia_one PySem.W.kitx_tuple I.kIn ⟨o,h1,h2⟩ e (λz=>nomatch z) h
 | @dK a kvs ea =>
  cases(show u=Value.ref a from rx)
  obtain⟨_,_,vs,_,p⟩:=(show xi X.prog X.w H s.heap a (.dK kvs)from I.hok a _ ea)
  obtain⟨o,es,ep,h1,h2,_⟩:=p
  exact PySem.W.kia_one PySem.W.kitx_dict I.kIn ⟨o,h1,h2.1⟩ e (λz=>nomatch z) h
 | @dT a kvs ea =>
  cases(show u=Value.ref a from rx)
  obtain⟨_,_,xs,_,o,es,ep,h1,h2,_⟩:=(show xi X.prog X.w H s.heap a (.dT kvs)from I.hok a _ ea)
  exact PySem.W.kia_one PySem.W.kitx_dict I.kIn ⟨o,h1,h2.1⟩ e (λz=>nomatch z) h
 | @ins a C dx fs ea cl ha hn htk hm =>
  cases(show u=Value.ref a from rx)
  obtain⟨mA,O,_⟩:=Qd I.hok ea
  obtain⟨od,J,_⟩:=O.look
  exact PySem.W.kia_one (PySem.W.kitx_own (cl.get _) cl.hd ha hn htk hm) I.kIn J e (λz=>nomatch z) h
end
end L2
namespace L2
open PySem PySem.Spec PyProof.Rows
structure xj (k:Nat) (A:Around):Prop where
 hd:A.handled=none
 dp:A.depth+3*k+5<recursionLimit
 un:A.units+16*k+200<cLine
theorem xj.mono {j k:Nat}{A:Around}(r:xj k A) (h:j<=k):xj j A:=⟨r.hd,by have:=r.dp;omega,by have:=r.un;omega⟩
theorem xj.deeper {k:Nat}{A:Around}(r:xj (k+1) A) (env:Env):xj k (A.deeper env) :=
 ⟨r.hd,by have:=r.dp;show A.depth+1+3*k+5<_;omega,by have:=r.un;show A.units+3+16*k+200<_;omega⟩
theorem Vq {A:Around}{C:Addr}{us:List Value}{kw:List (Str×Value)}:(A.under (.builtin "type.__call__" ⟨.ref C::us,kw⟩)).depth=A.depth+1:=by
 first | rfl | simp[Around.under,Code.weight,Code.isCreation,Code.isGuard,Code.isCaller,Code.frames,Code.isFrame,guardIds]
theorem Vr {A:Around}{C:Addr}{us:List Value}{kw:List (Str×Value)}:(A.under (.builtin "type.__call__" ⟨.ref C::us,kw⟩)).units=A.units+1:=by
 first | rfl | simp[Around.under,Code.cUnits,Code.frames,Code.isFrame]
theorem xj.make {k:Nat}{A:Around}(r:xj (k+1) A) (C:Addr) (us:List Value) (kw:List (Str×Value)):xj k (A.under (.builtin "type.__call__" ⟨.ref C::us,kw⟩)) :=
 ⟨r.hd,by have:=r.dp;rw[Vq];omega,by have:=r.un;rw[Vr];omega⟩
theorem xj.depth {k:Nat}{A:Around}(r:xj k A):A.depth<recursionLimit:=by have:=r.dp;omega
theorem xj.units {k:Nat}{A:Around}(r:xj k A):A.units+64<cLine:=by have:=r.un;omega
def ju:TA:=λ_ H Q=>Q [] H
def x6 (ta:TE) (tr:TA):TA:=λσ H Q=>ta σ H λx H1=>tr σ H1 λxs H2=>Q (x::xs) H2
section
variable {X:Cx}{e:Expr}{es:List Expr}{te:TE}{t:TA}{pos:Pos}
theorem ze:PA X [] ju:=λ_ _ _ _ H Q I h=>Calls.spliced_nil ⟨[],H,I,.nil,h⟩
theorem za (ha:PE X e te) (hr:PA X es t) (hs:starEach (e::es) X.env=(false,eval e X.env)::starEach es X.env:=by rfl):PA X (e::es) (x6 te t):=by
 intro pos pins s σ H Q I h
 rw[hs]
 show wpAny _ _ (spliced ((false,eval e X.env)::backTo pos (starEach es X.env))) _ _ s
 refine Calls.spliced_cons (thn (ha pins s σ H _ I h) λu s1 ⟨x,H1,I1,r1,q1⟩=>?_)
 exact thn (hr pos pins s1 σ H1 _ I1 q1) λus s2 ⟨xs,H2,I2,r2,q2⟩=>⟨x::xs,H2,I2,.cons r1 r2,q2⟩
def zff (t:TA):TE:=λσ H Q=>t σ H λxs H1=>xs.length<=sizeLine/\∀p,H1 p=none->Q (.ref p) (upd H1 p (.tup xs))
def ze9 (t:TA):TE:=λσ H Q=>t σ H λxs H1=>xs.length<=sizeLine/\∀p,H1 p=none->Q (.ref p) (upd H1 p (.lst xs))
theorem zN {x1} (h:PA X es t):PE X (.Tuple es x1 pos) (zff t):=by
 intro pins s σ H Q I hq
 refine wpAny_Tuple_spliced (thn (h pos pins s σ H _ I hq) λus s1 ⟨xs,H1,I1,r,z,q⟩=>⟨by rw[<-r.length];exact z,?_⟩)
 have hf:H1 s1.heap.objs.size=none:=I1.hok.fresh (Nat.le_refl _)
 refine⟨.ref s1.heap.objs.size,upd H1 s1.heap.objs.size (.tup xs),I1.laid (t':=s1.toks) (λb u e=>Heap.get?_push_of_some _ e) (Nat.le_refl _) ?_,rfl,q _ hf⟩
 exact⟨z,us,r,⟨_,Heap.get?_push_size _ rfl,rfl,_,rfl⟩⟩
theorem qp (h:PA X es t):PE X (.List es pos) (ze9 t):=by
 intro pins s σ H Q I hq
 refine wpAny_List_spliced (thn (h pos pins s σ H _ I hq) λus s1 ⟨xs,H1,I1,r,z,q⟩=>⟨by rw[<-r.length];exact z,?_⟩)
 have hf:H1 s1.heap.objs.size=none:=I1.hok.fresh (Nat.le_refl _)
 refine⟨.ref s1.heap.objs.size,upd H1 s1.heap.objs.size (.lst xs),I1.laid (t':=s1.toks) (λb u e=>Heap.get?_push_of_some _ e) (Nat.le_refl _) ?_,rfl,q _ hf⟩
 exact⟨z,us,0,r,Heap.get?_push_size _ rfl⟩
end
abbrev Sp:=List V->Hp->VK->XK->Prop
abbrev CXT:=List Env->Hp->Shared->XK->Value->Shared->Prop
structure Q9 (P:Program) (w:World) (K:PySem.W.Frag) (mg:Str->Option Value) (base:Heap) (A:Around) (outer:List Env) (s:Shared) (H:Hp):Prop where
 frames:A.frames=some outer
 mod:Mod K mg base
 bs:∀b o,base.get? b=some o->s.heap.get? b=some o/\H b=none
 bsz:base.objs.size<=s.heap.objs.size
 funs:s.heap.FunFrames base outer
 frf:∀b∈frs outer,H b=none
 hok:HOk P w H s.heap
 bare:AllBare s.gens
def CE (outer:List Env) (P:Program) (w:World) (H:Hp) (s:Shared) (Q:VK) (u:Value) (s':Shared):Prop :=
 ∃v H',s'.os=s.os/\AllBare s'.gens/\Un (frs outer) [] H H' s.heap s'.heap/\HOk P w H' s'.heap/\zQ v u/\Q v H'
def CR (CX:CXT) (outer:List Env) (P:Program) (w:World) (H:Hp) (s:Shared) (Q:VK) (E:XK) (r:Result) (s':Shared):Prop :=
 match r with
 | .ok (.ret u)=>CE outer P w H s Q u s'
 | .ok _=>False
 | .error e=>CX outer H s E e s'
structure jD (P:Program) (w:World) (K:PySem.W.Frag) (mg:Str->Option Value) (base:Heap) (CX:CXT) (k:Nat) (f:Addr) (fd:FuncData) (ps:List Str) (sp:Sp):Prop where
 len:∀vs H Q E,sp vs H Q E->vs.length=ps.length
 run:∀(A:Around) (outer:List Env) (s:Shared) (H:Hp) (args:Args) (us:List Value) (vs:List V) (Q:VK) (E:XK),xj k A->Q9 P w K mg base A outer s H->BindsTo s fd args (ps.zip us)->zK vs us->sp vs H Q E →
  codeAny (model P w) A (.call (.ref f) args) (CR CX outer P w H s Q E) s
theorem Q9.make {P:Program}{w:World}{K:PySem.W.Frag}{mg:Str->Option Value}{base:Heap}{A:Around}{outer:List Env}{s:Shared}{H:Hp}(e:Q9 P w K mg base A outer s H) (C:Addr) (us:List Value) (kw:List (Str×Value)) :
  Q9 P w K mg base (A.under (.builtin "type.__call__" ⟨.ref C::us,kw⟩)) outer s H:=⟨by first | exact e.frames | (simpa [Around.under,Code.envs,Code.isFrame,pushEnvs]using e.frames),e.mod,e.bs,e.bsz,e.funs,e.frf,e.hok,e.bare⟩
section
variable {X:Cx}{pins:List (Addr×Obj)}{σ:St}{H:Hp}{s s':Shared}
theorem Inv.env0 (I:Inv X pins σ H s):Q9 X.prog X.w X.K X.mg X.base X.A X.stack s H :=
 ⟨I.ok.frames,I.ok.mod,I.bs,Nat.le_trans I.ok.bsz I.sz,I.stack,I.stkFree,I.hok,I.bare⟩
theorem Inv.after {Q:VK}{u:Value}(I:Inv X pins σ H s) (h:CE X.stack X.prog X.w H s Q u s'):EP X pins σ Q u s':=by
 obtain⟨v,H',os,bare,un,hok,r,q⟩:=h
 obtain⟨hh,g,d,t,os'⟩:=s'
 obtain rfl:os'=s.os:=os
 exact⟨v,H',I.call (h':=hh) (g':=g) (d':=d) (t':=t) (ch:=[]) un hok bare (λb z=>absurd z (by simp)),r,q⟩
end
def jC (sp:Sp) (dvs:List V) (E:XK) (t:TA):TE:=λσ H Q=>t σ H λvs H1=>sp (vs++dvs) H1 Q E
def zfa (C:Addr) (sp:Sp) (dvs:List V) (E:XK) (t:TA):TE:=λσ H Q=>t σ H λvs H1=>∀x dx,H1 x=none->H1 dx=none->dx≠x →
 sp (.ref x::(vs++dvs)) (upd (upd H1 dx (.own x)) x (.ins C dx [])) (λv H2=>v = .non/\Q (.ref x) H2) E
def jd (K:PySem.W.Frag) (fd:FuncData) (ps:List Str) (ds:List Value):Prop :=
 ∀(s:Shared) (us:List Value),K.In s.heap->(us++ds).length=ps.length->BindsTo s fd ⟨us,[]⟩ (ps.zip (us++ds))
theorem jd.all {K:PySem.W.Frag}{fd:FuncData}{ps:List Str}(h:∀us:List Value,us.length=ps.length->bindArgs fd ⟨us,[]⟩=pure (ps.zip us)):jd K fd ps []:=λs us _ hl=>by
 rw[List.append_nil]at hl ⊢
 exact .of_eq (h us hl)
def ZX (CX:CXT) (X:Cx) (E:XK):Prop:=∀(pins:List (Addr×Obj)) (σ:St) (H:Hp) (s:Shared) (e:Value) (s':Shared),Inv X pins σ H s->CX X.stack H s E e s'->X.xe e s'
section
variable {X:Cx}{CX:CXT}{k:Nat}{f C:Addr}{fd:FuncData}{ps:List Str}{sp:Sp}{dvs:List V}{ds:List Value}{E:XK}{x m:Str}{p pos apos:Pos}{e o:Expr}{es:List Expr}{ta:TE}{t:TA}
theorem zdE {pins:List (Addr×Obj)}{σ:St}{H:Hp}{s:Shared}{Q:VK}{us:List Value}{vs:List V}(F:jD X.prog X.w X.K X.mg X.base CX k f fd ps sp) (hr:xj k X.A) (hb:jd X.K fd ps ds) (hd:zK dvs ds) (hx:ZX CX X E)
  (I:Inv X pins σ H s) (r:zK vs us) (h:sp (vs++dvs) H Q E):wpAny (model X.prog X.w) X.A (call (.ref f) us) (EP X pins σ Q) X.xe s:=by
 have r2:zK (vs++dvs) (us++ds):=r.append hd
 have hl:(us++ds).length=ps.length:=by rw[<-r2.length];exact F.len _ _ _ _ h
 refine wpAny_call (codeAny_mono (F.run X.A X.stack s H ⟨us,[]⟩ (us++ds) (vs++dvs) Q E hr I.env0 (hb s us I.kIn hl) r2 h) λr s' hq=>?_)
 cases r with
 | error e=>exact hx pins σ H s e s' I hq
 | ok fl =>
  cases fl with
  | ret u=>exact I.after hq
  | next=>exact False.elim hq
  | brk=>exact False.elim hq
  | cont=>exact False.elim hq
theorem zbU (F:jD X.prog X.w X.K X.mg X.base CX k f fd ps sp) (hr:xj k X.A) (hg:Gl X x) (hm:X.mg x=some (.ref f)) (hk:PySem.W.keepIn X.K (.ref f)=true) (hb:jd X.K fd ps ds) (hd:zK dvs ds) (hx:ZX CX X E)
  (ha:PA X (e::es) t) (hdb:(x == ("__debug__":Str))=false:=by decide) (he:starEach (e::es) X.env=(false,eval e X.env)::starEach es X.env:=by rfl) (hpl:(backTo pos (starEach es X.env)).any (·.1)=false:=by rfl) :
  PE X (.Call (.Name x p) (e::es) [] pos) (jC sp dvs E t):=by
 intro pins s σ H Q I h
 refine wpAny_Call_Name_kw (Qg I hg hm ?_ hdb)
 refine PySem.W.callWith_K (h₀:=X.base) I.ok.mod.kin hk (thn (ha pos pins s σ H _ I h) λus s1 ⟨vs,H1,I1,r,q⟩=>⟨I1.kIn,?_⟩) he hpl
 exact zdE F hr hb hd hx I1 r q
structure Mk (K:PySem.W.Frag) (C f:Addr):Prop where
 makes:PySem.W.makesIn K C=true
 init:PySem.W.findIn K (.ref C) "__init__" = some (some (.ref f))
 fn:PySem.W.isFn K (.ref f)=true
 kp:PySem.W.keepIn K (.ref C)=true
theorem zaV {pins:List (Addr×Obj)}{σ:St}{H:Hp}{s:Shared}{Q:VK}{us:List Value}{vs:List V}(M:Mk X.K C f) (F:jD X.prog X.w X.K X.mg X.base CX k f fd ps sp) (hr:xj (k+1) X.A) (hb:jd X.K fd ps ds) (hd:zK dvs ds)
  (hx:ZX CX X E) (I:Inv X pins σ H s) (r:zK vs us)
  (h:∀x dx,H x=none->H dx=none->dx≠x->sp (.ref x::(vs++dvs)) (upd (upd H dx (.own x)) x (.ins C dx [])) (λv H2=>v = .non/\Q (.ref x) H2) E) :
  wpAny (model X.prog X.w) X.A (call (.ref C) us) (EP X pins σ Q) X.xe s:=by
 have hq:=h (s.heap.objs.size+1) s.heap.objs.size (I.hok.fresh (Nat.le_succ _)) (I.hok.fresh (Nat.le_refl _)) (Nat.ne_of_lt (Nat.lt_succ_self _))
 have I2:=Inv.made (C:=C) I
 have r2:zK (V.ref (s.heap.objs.size+1)::(vs++dvs)) (Value.ref (s.heap.objs.size+1)::(us++ds)):=.cons rfl (r.append hd)
 have hl:(Value.ref (s.heap.objs.size+1)::us++ds).length=ps.length:=by
  have e:=r2.length
  rw[F.len _ _ _ _ hq]at e
  exact e.symm
 refine wpAny_call (zaz (f:=f) I.kIn M.makes M.init (beq_iff_eq.mp M.fn) (codeAny_mono (F.run _ X.stack _ _ ⟨Value.ref (s.heap.objs.size+1)::us,[]⟩ (Value.ref (s.heap.objs.size+1)::(us++ds)) _ _ E (hr.make C us [])
  (I2.env0.make C us []) (hb _ (Value.ref (s.heap.objs.size+1)::us) I2.kIn hl) r2 hq) λr s' hq'=>?_))
 cases r with
 | error e=>exact hx pins σ _ _ e s' I2 hq'
 | ok fl =>
  cases fl with
  | ret u =>
   obtain⟨v,H',I3,rv,ev,q3⟩:=I2.after hq'
   subst ev
   exact⟨rv,⟨V.ref (s.heap.objs.size+1),H',I3,rfl,q3⟩⟩
  | next=>exact False.elim hq'
  | brk=>exact False.elim hq'
  | cont=>exact False.elim hq'
theorem Jg (M:Mk X.K C f) (F:jD X.prog X.w X.K X.mg X.base CX k f fd ps sp) (hr:xj (k+1) X.A) (hg:Gl X x) (hm:X.mg x=some (.ref C)) (hb:jd X.K fd ps ds) (hd:zK dvs ds) (hx:ZX CX X E)
  (ha:PA X (e::es) t) (hdb:(x == ("__debug__":Str))=false:=by decide) (he:starEach (e::es) X.env=(false,eval e X.env)::starEach es X.env:=by rfl) (hpl:(backTo pos (starEach es X.env)).any (·.1)=false:=by rfl) :
  PE X (.Call (.Name x p) (e::es) [] pos) (zfa C sp dvs E t):=by
 intro pins s σ H Q I h
 refine wpAny_Call_Name_kw (Qg I hg hm ?_ hdb)
 refine PySem.W.callWith_K (h₀:=X.base) I.ok.mod.kin M.kp (thn (ha pos pins s σ H _ I h) λus s1 ⟨vs,H1,I1,r,q⟩=>⟨I1.kIn,?_⟩) he hpl
 exact zaV M F hr hb hd hx I1 r q
end
structure zx (N P:List Str) (sc:Scope):Prop where
 kind:sc.kind = .function
 co:sc.isCoroutine=false
 gen:sc.isGenerator=false
 nd:N.Nodup
 pre:N.take P.length=P
 par:∀x∈P,sc.names.lookup x=some .local ∨ sc.names.lookup x=some .cell
 nofree:∀y∈sc.names,y.2≠.free
theorem XE {kindOf:Str->Option NameKind}{x:Str}:∀{binds:List (Str×Value)}{m:Str->Option Value},(∀v,(x,v)∉binds)->bindL kindOf binds m x=m x
 | [],_,_=>rfl
 | (n,v)::r,m,h=>by
  unfold bindL
  rw[XE λw hw=>h w (List.mem_cons_of_mem _ hw)]
  split
  ·have:x≠n:=by rintro rfl;exact h v List.mem_cons_self
   simp[this]
  ·rfl
theorem XC {kindOf:Str->Option NameKind}{x:Str}:∀{binds:List (Str×Value)}{m:Str->Option Value},(∀v,(x,v)∉binds)->bindC kindOf binds m x=m x
 | [],_,_=>rfl
 | (n,v)::r,m,h=>by
  unfold bindC
  rw[XC λw hw=>h w (List.mem_cons_of_mem _ hw)]
  split
  ·rfl
  ·have:x≠n:=by rintro rfl;exact h v List.mem_cons_self
   simp[this]
theorem XD {kindOf:Str->Option NameKind}{x:Str}{v:Value}:∀{P:List Str}{vs:List Value}{i:Nat}{m:Str->Option Value},P.Nodup->P[i]? = some x->vs[i]? = some v->kindOf x=some .local →
  bindL kindOf (P.zip vs) m x=some v
 | [],_,_,_,_,h,_,_=>by simp at h
 | _::_,[],_,_,_,_,h,_=>by simp at h
 | p::P,w::vs,0,m,nd,h1,h2,hk=>by
  simp at h1 h2;subst h1;subst h2
  show bindL kindOf ((p,w)::P.zip vs) m p=_
  unfold bindL
  rw[XE λv hv=>(List.nodup_cons.mp nd).1 (List.of_mem_zip hv).1,if_pos hk]
  simp
 | p::P,w::vs,i+1,m,nd,h1,h2,hk=>by
  show bindL kindOf ((p,w)::P.zip vs) m x=_
  unfold bindL
  exact XD (i:=i) (List.nodup_cons.mp nd).2 (by simpa using h1) (by simpa using h2) hk
theorem XB {kindOf:Str->Option NameKind}{x:Str}{v:Value}:∀{P:List Str}{vs:List Value}{i:Nat}{m:Str->Option Value},P.Nodup->P[i]? = some x->vs[i]? = some v->kindOf x≠some .local →
  bindC kindOf (P.zip vs) m x=some v
 | [],_,_,_,_,h,_,_=>by simp at h
 | _::_,[],_,_,_,_,h,_=>by simp at h
 | p::P,w::vs,0,m,nd,h1,h2,hk=>by
  simp at h1 h2;subst h1;subst h2
  show bindC kindOf ((p,w)::P.zip vs) m p=_
  unfold bindC
  rw[XC λv hv=>(List.nodup_cons.mp nd).1 (List.of_mem_zip hv).1,if_neg hk]
  simp
 | p::P,w::vs,i+1,m,nd,h1,h2,hk=>by
  show bindC kindOf ((p,w)::P.zip vs) m x=_
  unfold bindC
  exact XB (i:=i) (List.nodup_cons.mp nd).2 (by simpa using h1) (by simpa using h2) hk
def jB (N:List Str) (vs:List V):St:=vs.map some++List.replicate (N.length - vs.length) none
def QC (CX:CXT) (P:Program) (w:World) (K:PySem.W.Frag) (mg:Str->Option Value) (base:Heap) (N:List Str) (qual:Str) (scope:Scope) (f:Addr) (cd:Value) (A:Around) (outer:List Env) (s:Shared) (H:Hp) (E:XK):Cx where
 prog:=P
 w:=w
 K:=K
 mg:=mg
 base:=base
 A:=A.deeper (envOfC qual scope s.heap.objs.size f cd)
 N:=N
 s₀:=s
 H₀:=H
 env:=envOfC qual scope s.heap.objs.size f cd
 outer:=outer
 stack:=envOfC qual scope s.heap.objs.size f cd::outer
 ex:=[]
 calm:=true
 fn:=λ_=>true
 pn:=[]
 xe:=λe s'=>wpAny (model P w) (A.deeper (envOfC qual scope s.heap.objs.size f cd)) (leaving (envOfC qual scope s.heap.objs.size f cd) e) (λ_ s''=>CX outer H s E e s'') (λe' s''=>CX outer H s E e' s'') s'
theorem Qy {sc:Scope}{n:Nat}{x:Str}(h:sc.names.lookup x=some .cell):∃c,(cellsFrom n sc.names []).lookup x=some c:=by
 have q:=PySem.W.cellsFrom_some sc.names n [] (.inl h)
 exact Option.isSome_iff_exists.mp q
theorem JG {CX:CXT}{P:Program}{w:World}{K:PySem.W.Frag}{mg:Str->Option Value}{base:Heap}{N ps:List Str}{qual:Str}{scope:Scope}{f:Addr}{cd:Value}{A:Around}{outer:List Env}{s s1:Shared}{H:Hp}{E:XK}{us:List Value}{vs:List V}
  (S:zx N ps scope) (hd:A.handled=none) (e0:Q9 P w K mg base A outer s H) (hl:vs.length=ps.length) (r:zK vs us)
  (x:InCallC s s.heap.objs.size (bindL (envOfC qual scope s.heap.objs.size f cd).kindOf (ps.zip us) λ_=>none) (cellsFrom (s.heap.objs.size+1) scope.names []) (bindC (envOfC qual scope s.heap.objs.size f cd).kindOf (ps.zip us) λ_=>none) s1) :
  Inv (QC CX P w K mg base N qual scope f cd A outer s H E) [] (jB N vs) H s1:=by
 have hpl:ps.length<=N.length:=by have:=congrArg List.length S.pre;rw[List.length_take]at this;omega
 obtain⟨h1,tk,rfl,hk⟩:=x.done
 have noA:∀b:Addr,b∉(QC CX P w K mg base N qual scope f cd A outer s H E).ex:=λb z=>absurd (show b∈([]:List Addr)from z) (by simp)
 refine⟨⟨e0.mod,S.kind,rfl,rfl,Nat.le_refl _,λy z c h1 h2=>?_,λy hy=>?_,λy c _ h=>?_,λ_=>hd,Around.frames_deeper e0.frames,.inr ⟨rfl,rfl⟩,λb z=>absurd z (noA b),e0.bs,e0.bsz,λb _ _=>noA b,λb z=>absurd z (noA b),e0.funs,e0.frf⟩,
  rfl,e0.bare,Un.kept hk,⟨_,x.toInCall.ns,λi y v h1 h2 h3=>?_⟩,λy c h=>⟨_,x.cell y c h⟩,e0.hok.fresh (Nat.le_refl _),λy c h=>?_,λp hp=>absurd (show p∈([]:List (Addr×Obj))from hp) (by simp),e0.hok.kept hk,?_⟩
 ·exact name_of_addr x.apart (PySem.mem_of_lookup h1) (PySem.mem_of_lookup h2)
 ·have hy:scope.names.lookup y=some .cell\/scope.names.lookup y=some .free:=hy
  rcases hy with hy | hy
  ·exact Qy hy
  ·exact absurd rfl (S.nofree _ (PySem.mem_of_lookup hy))
 ·exact Nat.le_of_lt (x.above y c (PySem.mem_of_lookup h))
 ·have hi:i<vs.length:=by
   unfold jB at h2
   by_cases hi:i<vs.length
   ·exact hi
   ·rw[List.getElem?_append_right (by simpa using hi)]at h2
    rw[List.getElem?_replicate]at h2
    split at h2 <;> cases h2
  have ha:vs[i]? = some v:=by
   unfold jB at h2
   rw[List.getElem?_append_left (by simpa using hi),List.getElem?_map]at h2
   cases e:vs[i]? with
   | none=>rw[e]at h2;cases h2
   | some a=>rw[e]at h2;cases h2;rfl
  obtain⟨u,hu,rv⟩:=r.get ha
  have hp:ps[i]? = some y:=by
   rw[<-S.pre,List.getElem?_take_of_lt (by omega)];exact h1
  have ndP:ps.Nodup:=by rw[<-S.pre];exact S.nd.sublist (List.take_sublist _ _)
  refine⟨u,rv,?_⟩
  rcases S.par y (List.mem_of_getElem? hp)with k | k
  ·exact .inl ⟨k,XD ndP hp hu k⟩
  ·obtain⟨c,e⟩:=Qy (n:=s.heap.objs.size+1) k
   refine .inr ⟨.inl k,c,e,?_⟩
   have q:=x.cell y c e
   rw[XB ndP hp hu (by show scope.names.lookup y≠_;rw[k];decide)]at q
   exact q
 ·exact e0.hok.fresh (Nat.le_of_lt (x.above y c (PySem.mem_of_lookup h)))
 ·unfold jB
  show _=N.length
  rw[List.length_append,List.length_map,List.length_replicate]
  omega
theorem zcm {CX:CXT}{P:Program}{w:World}{K:PySem.W.Frag}{mg:Str->Option Value}{base:Heap}{k:Nat}{f:Addr}{name qual:Str}{params:Arguments}{body:List Stmt}{scope:Scope}{dV kV doc pm cdv ct oc:Value}{an od:Option Addr}
  {osl:Array (Option Value)}{N ps:List Str}{sp:Sp}(lk:K.lookup f=some ⟨oc,od,.func (PySem.W.fnOf name qual params body scope dV kV doc pm an cdv ct),osl⟩) (hcd:PySem.W.codeIn K cdv qual=true) (S:zx N ps scope)
  (len:∀vs H Q E,sp vs H Q E->vs.length=ps.length)
  (hbody:∀(A:Around) (outer:List Env) (s:Shared) (H:Hp) (vs:List V) (Q:VK) (E:XK),xj k (A.deeper (envOfC qual scope s.heap.objs.size f cdv))->sp vs H Q E →
   ∃t,PSs (QC CX P w K mg base N qual scope f cdv A outer s H E) body t/\t { nx:=λ_ H'=>Q .non H',rt:=Q } (jB N vs) H) :
  jD P w K mg base CX (k+1) f (PySem.W.fnOf name qual params body scope dV kV doc pm an cdv ct) ps sp:=by
 refine⟨len,λA outer s H args us vs Q E hr e0 hb r hsp=>?_⟩
 have hl:=len _ _ _ _ hsp
 have KX:K.In s.heap:=e0.mod.kin.keeps λb o e=>(e0.bs b o e).1
 have lim:s.heap.NoLimit:=e0.mod.nolimit.keeps λb o e=>(e0.bs b o e).1
 have hkind:∀y∈ps.zip us,scope.names.lookup y.1=some .local ∨ (scope.names.lookup y.1=some .cell/\((cellsFrom (s.heap.objs.size+1) scope.names []).lookup y.1).isSome=true):=λ⟨n,v⟩ hy=>by
  rcases S.par n (List.of_mem_zip hy).1 with q | q
  ·exact .inl q
  ·exact .inr ⟨q,PySem.W.cellsFrom_some _ _ _ (.inl q)⟩
 refine codeAny_call_function hr.depth (KX _ _ lk) rfl S.co S.gen rfl (PySem.W.codeRec_of KX hcd) (hb _ _ _ _ ?_)
 refine wpAny_newFunctionEnv_cells S.kind hkind λenv he s1 x=>?_
 subst he
 refine⟨lim.keeps x.toInCall.keep,codeAny_func ?_⟩
 obtain⟨t,ht,hq⟩:=hbody A outer s H vs Q E (hr.deeper _) hsp
 have I:Inv (QC CX P w K mg base N qual scope f cdv A outer s H E) [] (jB N vs) H s1:=JG S hr.hd e0 hl r x
 refine wpAny_mono (ht [] s1 (jB N vs) H _ I hq) (λfl s' hs=>?_) λe s' hs=>hs
 have fin:∀{σ':St}{H':Hp}{v:V}{u:Value},Inv (QC CX P w K mg base N qual scope f cdv A outer s H E) [] σ' H' s'->zQ v u->Q v H'->CE outer P w H s Q u s' :=
  λ{σ' H' v u} J rv q=>⟨v,H',J.os,J.bare,J.base,J.hok,rv,q⟩
 cases fl with
 | ret u =>
  obtain⟨v,σ',H',J,rv,q⟩:=hs
  exact fin J rv q
 | next =>
  obtain⟨σ',H',J,q⟩:=hs
  exact fin (v:=V.non) (u:=Value.none) J rfl q
 | brk =>
  obtain⟨_,_,_,q⟩:=hs
  exact False.elim q
 | cont =>
  obtain⟨_,_,_,q⟩:=hs
  exact False.elim q
end L2
namespace L2
open PySem PySem.Spec PyProof.Rows
section
variable {X:Cx}{x:Str}{p pos:Pos}{e:Expr}{es:List Expr}{t:TA}{id T:String}{r:List V->Hp->VK->Prop}
def tCB (r:List V->Hp->VK->Prop) (t:TA):TE:=λσ H Q=>t σ H λvs H1=>r vs H1 Q
theorem zw (hc:va X (.builtin id) r) (hg:Gl X x) (hm:X.mg x=none) (hv:bootBuiltins x=some (.builtin id)) (ha:PA X (e::es) t) (hn:x≠"__name__":=by decide) (hdb:(x == ("__debug__":Str))=false:=by decide)
  (he:starEach (e::es) X.env=(false,eval e X.env)::starEach es X.env:=by rfl) (hpl:(backTo pos (starEach es X.env)).any (·.1)=false:=by rfl):PE X (.Call (.Name x p) (e::es) [] pos) (tCB r t):=by
 intro pins s σ H Q I h
 refine wpAny_Call_Name_kw (jm I hg hm hv ?_ hn hdb)
 exact PyProof.Rows.callWith_builtin1 (thn (ha pos pins s σ H _ I h) λus s1 ⟨vs,H1,I1,r1,q1⟩=>hc pins s1 σ H1 vs us Q I1 r1 q1) he hpl
theorem vp (hc:va X (.type T) r) (hg:Gl X x) (hm:X.mg x=none) (hv:bootBuiltins x=some (.type T)) (ha:PA X (e::es) t) (hn:x≠"__name__":=by decide) (hdb:(x == ("__debug__":Str))=false:=by decide)
  (he:starEach (e::es) X.env=(false,eval e X.env)::starEach es X.env:=by rfl) (hpl:(backTo pos (starEach es X.env)).any (·.1)=false:=by rfl):PE X (.Call (.Name x p) (e::es) [] pos) (tCB r t):=by
 intro pins s σ H Q I h
 refine wpAny_Call_Name_kw (jm I hg hm hv ?_ hn hdb)
 exact PyProof.Rows.callWith_type1 (thn (ha pos pins s σ H _ I h) λus s1 ⟨vs,H1,I1,r1,q1⟩=>hc pins s1 σ H1 vs us Q I1 r1 q1) he hpl
end
end L2
namespace HT
open PySem PyProof.Rows
section
variable {prog:Program}{w:World}{A:Around}{E:Value->Shared->Prop}{s:Shared}
def sIx (n d:Nat):Option Int->Nat
 | none=>d
 | some v=>if v<0 then(v+(n:Int)).toNat else min v.toNat n
theorem zdG (n d:Nat) (hd:d<=n) (o:Option Int):sIx n d o<=n:=by
 cases o with
 | none=>exact hd
 | some v =>
  show (if v<0 then(v+(n:Int)).toNat else min v.toNat n)<=n
  by_cases hv:v<0
  ·rw[if_pos hv];omega
  ·rw[if_neg hv];exact Nat.min_le_right _ _
theorem VU (v:Int) (n d:Nat):(if v<0 then max (v+(n:Int)) 0 else min v (n:Int))=((sIx n d (some v):Nat):Int):=by
 show (if v<0 then max (v+(n:Int)) 0 else min v (n:Int))=(((if v<0 then(v+(n:Int)).toNat else min v.toNat n):Nat):Int)
 by_cases hv:v<0
 ·simp only[if_pos hv];omega
 ·simp only[if_neg hv];omega
theorem Vc (lo hi:Option Int) (n:Nat):Builtin.Slice.sliceAdjust lo hi 1 (n:Int)=(((sIx n 0 lo:Nat):Int),((sIx n n hi:Nat):Int)):=by
 have h1:¬((1:Int)<0):=by omega
 unfold Builtin.Slice.sliceAdjust
 simp only[h1,if_false]
 refine Prod.ext ?_ ?_
 ·cases lo with
  | none=>rfl
  | some v=>exact VU v n 0
 ·cases hi with
  | none=>rfl
  | some v=>exact VU v n n
theorem VB (i j:Nat):Builtin.Slice.slicePlaces (i:Int) (j:Int) 1=j - i:=by
 unfold Builtin.Slice.slicePlaces
 have h1:(1:Int)>0:=by omega
 simp only[h1,if_true,Int.ediv_one]
 split <;> omega
theorem Xm {v:Value}{o:Option Int}{Q:Option Int->Shared->Prop}(p:IsPart v o) (h:Q o s):wpAny (model prog w) A (Builtin.Slice.slicePartIndex v) Q E s:=by
 cases p with
 | none=>exact slicePart_none h
 | int i t=>exact slicePart_int h
theorem ZA {sl:Addr}{vl vu:Value}{lo hi:Option Int}{n:Nat}{Q:Int×Int×Nat->Shared->Prop}(hs:s.heap.IsSliceOf sl vl vu .none) (pl:IsPart vl lo) (pu:IsPart vu hi)
  (h:Q (((sIx n 0 lo:Nat):Int),1,sIx n n hi - sIx n 0 lo) s):wpAny (model prog w) A (Builtin.Slice.sliceApplied (.ref sl) (pure (n:Int))) Q E s:=by
 obtain⟨os,hos,hcs,hds⟩:=id hs
 unfold Builtin.Slice.sliceApplied Builtin.Slice.sliceFields
 refine wpAny_bind (wpAny_bind (wpAny_field hos hds (x:=vl) rfl (wpAny_bind (wpAny_field hos hds (x:=vu) rfl (wpAny_bind (wpAny_field hos hds (x:=.none) rfl (wpAny_pure ?_)))))))
 refine wpAny_bind (slicePart_none ?_)
 show wpAny _ _ (if((1:Int) == 0)=true then _ else _) _ _ s
 rw[if_neg (by decide)]
 refine wpAny_bind (Xm pl (wpAny_bind (Xm pu (wpAny_bind (wpAny_pure ?_)))))
 show wpAny _ _ (match Builtin.Slice.sliceAdjust lo hi 1 (n:Int)with | (lo,hi)=>pure (lo,(1:Int),Builtin.Slice.slicePlaces lo hi 1)) _ _ s
 rw[Vc lo hi n]
 show wpAny _ _ (pure (((sIx n 0 lo:Nat):Int),(1:Int),Builtin.Slice.slicePlaces ((sIx n 0 lo:Nat):Int) ((sIx n n hi:Nat):Int) 1)) _ _ s
 rw[VB]
 exact wpAny_pure h
theorem zaK (xs:Array Value) (i k:Nat):((List.range k).filterMap λ(m:Nat)=>xs[((i:Int)+(m:Int)*1).toNat]?).toArray=((xs.toList.drop i).take k).toArray:=by
 have e:(λ(m:Nat)=>xs[((i:Int)+(m:Int)*1).toNat]?)=λm=>xs[i+m]?:=by
  funext m
  have:((i:Int)+(m:Int)*1).toNat=i+m:=by omega
  rw[this]
 rw[e]
 have:=pick_run xs i k
 rw[List.filterMap_map]at this
 have e2:((λx=>xs[x]?) ∘ λx=>i+x)=λm=>xs[i+m]?:=rfl
 rw[e2]at this
 rw[this]
theorem getItem_tuple_cut {t sl:Addr}{items:Array Value}{vl vu:Value}{lo hi:Option Int}{Q:Value->Shared->Prop}(ht:IsTup s.heap t items) (hs:s.heap.IsSliceOf sl vl vu .none) (pl:IsPart vl lo) (pu:IsPart vu hi)
  (hw:¬(sIx items.size 0 lo=0/\sIx items.size items.size hi=items.size))
  (h:Q (.ref s.heap.objs.size) { s with heap:=s.heap.push { cls:=.type "tuple",data:=.seq ((items.toList.drop (sIx items.size 0 lo)).take (sIx items.size items.size hi - sIx items.size 0 lo)).toArray } })
  (hsz:items.size<=sizeLine):wpAny (model prog w) A (getItem (.ref t) (.ref sl)) Q E s:=by
 have htake:sizeOk (.seq ((items.toList.drop (sIx items.size 0 lo)).take (sIx items.size items.size hi - sIx items.size 0 lo)).toArray):=by
  show ((items.toList.drop (sIx items.size 0 lo)).take (sIx items.size items.size hi - sIx items.size 0 lo)).toArray.size<=sizeLine
  rw[List.size_toArray,List.length_take,List.length_drop,Array.length_toList]
  omega
 have hj:sIx items.size items.size hi<=items.size:=zdG _ _ (Nat.le_refl _) hi
 obtain⟨os,hos,hcs,hds⟩:=id hs
 have hTs:s.TypeIs (.ref sl) "slice":=⟨os,hos,hcs⟩
 unfold getItem
 try with_reducible refine wpAny_holding ?_
 first | refine wpAny_bind (wpAny_pure ?_) | skip
 refine wpAny_bind (wpAny_sequenceKey ht.typeIs (by decide) ?_)
 refine wpAny_bind (wpAny_callSpecial?_slot (name:=Str.ofString "__getitem__") ht.typeIs PyProof.Rows.slot_tuple_getitem
  (wpAny_call_entry PyProof.Rows.slot_tuple_getitem ht.typeIs entry_tuple_getitem ?_ (args_tuple_getitem _ _)))
 show wpAny _ _ (Builtin.Tuple.tupleItemsOf (.ref t) >>= _) _ _ s
 refine wpAny_bind (tupleItemsOf_ ht ?_)
 refine wpAny_bind (wpAny_typeOf hTs ?_)
 rw[if_pos (by decide)]
 refine wpAny_bind (ZA hs pl pu ?_)
 have hno:¬((((sIx items.size 0 lo:Nat):Int) == 0&&(1:Int) == 1&&(sIx items.size items.size hi - sIx items.size 0 lo) == items.size)=true):=by
  intro q
  rw[Bool.and_eq_true,Bool.and_eq_true]at q
  have q1:((sIx items.size 0 lo:Nat):Int)=0:=eq_of_beq q.1.1
  have q2:sIx items.size items.size hi - sIx items.size 0 lo=items.size:=eq_of_beq q.2
  exact hw ⟨by omega,by omega⟩
 show wpAny _ _ (if(((sIx items.size 0 lo:Nat):Int) == 0&&(1:Int) == 1&&(sIx items.size items.size hi - sIx items.size 0 lo) == items.size)=true then _ else _) _ _ s
 rw[if_neg hno,zaK]
 first
  | exact wpAny_bind (m:=Builtin.Tuple.tupleExact _) (wpAny_newObj_type (wpAny_pure ⟨_,rfl,wpAny_pure h⟩) htake)
  | exact wpAny_bind (m:=Builtin.Tuple.tupleExact _) (wpAny_newObj_type (wpAny_bind (wpAny_pure (wpAny_pure ⟨_,rfl,wpAny_pure h⟩))) htake)
  | exact wpAny_bind (wpAny_bind (m:=Builtin.Tuple.tupleExact _) (wpAny_newObj_type (wpAny_pure (wpAny_pure ⟨_,rfl,wpAny_pure h⟩)) htake))
  | exact wpAny_bind (wpAny_bind (m:=Builtin.Tuple.tupleExact _) (wpAny_newObj_type (wpAny_pure ⟨_,rfl,wpAny_pure h⟩) htake))
end
end HT
namespace L2
open PySem PySem.Spec PyProof.Rows
abbrev TO:=St->Hp->(Option Int->Hp->Prop)->Prop
def PO (X:Cx) (e:Option Expr) (t:TO):Prop :=
 ∀(pins:List (Addr×Obj)) (s:Shared) (σ:St) (H:Hp) (Q:Option Int->Hp->Prop),Inv X pins σ H s->t σ H Q →
  wpAny (model X.prog X.w) X.A (evalPart e X.env) (λu s'=>∃o H',Inv X pins σ H' s'/\IsPart u o/\Q o H') X.xe s
def zfc (t:TE):TO:=λσ H Q=>t σ H λx H1=>∃i,x = .int i/\Q (some i) H1
theorem v3 {ns:List Int}:∀{us:List Value},zK (ns.map V.int) us->IntsAre us ns:=by
 induction ns with
 | nil=>intro us r;rw[List.map_nil]at r;cases r;exact .nil
 | cons n ns ih =>
  intro us r
  rw[List.map_cons]at r
  cases r with
  | cons r1 r2 =>
   obtain⟨t,e⟩:=r1
   subst e
   exact .cons n t (ih r2)
section
variable {X:Cx}{e:Expr}{te:TE}{lo hi:Option Expr}{tl th:TO}{pos p2:Pos}
theorem Ji (h:PE X e te):PO X (some e) (zfc te):=by
 intro pins s σ H Q I hw
 rw[evalPart_some]
 refine thn (h pins s σ H _ I hw) λu s1 ⟨x,H1,I1,r1,q1⟩=>?_
 obtain⟨i,rfl,q⟩:=q1
 obtain⟨t,rfl⟩:=r1
 exact⟨some i,H1,I1,.int i t,q⟩
def SlR (X:Cx) (r:V->Option Int->Option Int->Hp->VK->Prop):Prop :=
 ∀(pins:List (Addr×Obj)) (s:Shared) (σ:St) (H:Hp) (x:V) (v vl vu:Value) (lo hi:Option Int) (sl:Addr) (Q:VK),Inv X pins σ H s->zQ x v->s.heap.IsSliceOf sl vl vu .none->IsPart vl lo->IsPart vu hi->r x lo hi H Q →
  ∃T id,typeLookup (.type T) "__getitem__" = pure (some (.builtin id))/\s.TypeIs v T/\wpAny (model X.prog X.w) X.A (getItem v (.ref sl)) (EP X pins σ Q) X.xe s
def tSl (r:V->Option Int->Option Int->Hp->VK->Prop) (te:TE) (tl th:TO):TE:=λσ H Q=>te σ H λx H1=>tl σ H1 λl H2=>th σ H2 λu H3=>r x l u H3 Q
theorem zaH {r:V->Option Int->Option Int->Hp->VK->Prop}(hr:SlR X r) (he:PE X e te) (hl:PO X lo tl) (hu:PO X hi th):PE X (.Subscript e (.Slice lo hi none p2) pos) (tSl r te tl th):=by
 intro pins s σ H Q I h
 refine Subscript_ (thn (he pins s σ H _ I h) λv s1 ⟨x,H1,I1,r1,q1⟩=>?_)
 refine wpAny_Slice (thn (hl pins s1 σ H1 _ I1 q1) λvl s2 ⟨l,H2,I2,pl,q2⟩=>thn (hu pins s2 σ H2 _ I2 q2) λvu s3 ⟨u,H3,I3,pu,q3⟩=>?_)
 rw[evalPart_none]
 refine wpAny_pure ?_
 have I4:Inv X pins σ H3 { s3 with heap:=s3.heap.push { cls:=.type "slice",data:=.fields #[vl,vu,.none] } }:=I3.kept (t':=s3.toks) λb ob q=>Heap.get?_push_of_some _ q
 obtain⟨T,id,hT,ht,hg⟩:=hr pins { s3 with heap:=s3.heap.push { cls:=.type "slice",data:=.fields #[vl,vu,.none] } } σ H3 x v vl vu l u s3.heap.objs.size Q I4 r1 (Heap.IsSliceOf.new ..) pl pu q3
 show wpAny (model X.prog X.w) X.A (subscriptTail e (.Slice lo hi none p2) v (.ref s3.heap.objs.size)) (EP X pins σ Q) X.xe { s3 with heap:=s3.heap.push { cls:=.type "slice",data:=.fields #[vl,vu,.none] } }
 exact tail_any (ops:=[.ref s3.heap.objs.size,v]) ht hT hg (by with_unfolding_all rfl)
def zae (xs:List V) (lo hi:Option Int):List V:=(xs.drop (HT.sIx xs.length 0 lo)).take (HT.sIx xs.length xs.length hi - HT.sIx xs.length 0 lo)
theorem QB (xs:List V) (lo hi:Option Int):(zae xs lo hi).length<=xs.length:=by
 unfold zae
 rw[List.length_take,List.length_drop]
 omega
def rSlT (K:PySem.W.Frag):V->Option Int->Option Int->Hp->VK->Prop:=λx lo hi H Q=>∃a xs,x = .ref a/\SqT K H a xs ∧
 ¬(HT.sIx xs.length 0 lo=0/\HT.sIx xs.length xs.length hi=xs.length)/\∀p,H p=none->Q (.ref p) (upd H p (.tup (zae xs lo hi)))
theorem zdO:SlR X (rSlT X.K):=by
 intro pins s σ H x v vl vu lo hi sl Q I rx hs pl pu h
 obtain⟨a,xs,rfl,hx,hw,q⟩:=h
 cases rx
 obtain⟨its,r,ht,hz⟩:=I.tuple hx
 have hlen:its.toArray.size=xs.length:=by rw[List.size_toArray];exact r.length.symm
 refine⟨"tuple",_,PyProof.Rows.slot_tuple_getitem.lookup,ht.typeIs,?_⟩
 refine HT.getItem_tuple_cut ht hs pl pu (by rw[hlen];exact hw) ?_ (by rw[hlen];exact hz)
 rw[hlen]
 refine⟨.ref s.heap.objs.size,_,I.laid (t':=s.toks) (o:=.tup (zae xs lo hi)) (λb ob q=>Heap.get?_push_of_some _ q) (Nat.le_refl _) ?_,rfl,q _ (I.hok.fresh (Nat.le_refl _))⟩
 exact⟨Nat.le_trans (QB xs lo hi) hz,_,(r.drop (HT.sIx xs.length 0 lo)).take (HT.sIx xs.length xs.length hi - HT.sIx xs.length 0 lo),IsTup.new _ _⟩
end
end L2
namespace L2
open PySem PySem.Spec PyProof.Rows
def ixN (n:Nat) (i:Int):Option Nat:=if 0<=i then(if i<n then some i.toNat else none)else if -(n:Int)<=i then some (i+n).toNat else none
def atI {α:Type}(xs:List α) (i:Int):Option α:=(ixN xs.length i).bind λj=>xs[j]?
theorem V5 {n:Nat}{i:Int}{j:Nat}(h:ixN n i=some j):seqIndex? i n=some j/\j<n ∧ -(n:Int)<=i/\i<n:=by
 unfold ixN at h
 by_cases h0:0<=i
 ·rw[if_pos h0]at h
  by_cases h1:i<n
  ·rw[if_pos h1]at h
   have e:i.toNat=j:=Option.some.inj h
   exact⟨by rw[seqIndex_of h0 h1,e],by omega,by omega,h1⟩
  ·rw[if_neg h1]at h;cases h
 ·rw[if_neg h0]at h
  by_cases h1 : -(n:Int)<=i
  ·rw[if_pos h1]at h
   have e:(i+n).toNat=j:=Option.some.inj h
   exact⟨by rw[seqIndex_neg (by omega) h1,e],by omega,h1,by omega⟩
  ·rw[if_neg h1]at h;cases h
theorem VS {α:Type}{xs:List α}{i:Int}{v:α}(h:atI xs i=some v):∃j,seqIndex? i xs.length=some j/\xs[j]? = some v/\j<xs.length ∧ -(xs.length:Int)<=i/\i<xs.length:=by
 unfold atI at h
 cases e:ixN xs.length i with
 | none=>rw[e]at h;cases h
 | some j =>
  rw[e]at h
  obtain⟨h1,h2,h3,h4⟩:=V5 e
  exact⟨j,h1,h,h2,h3,h4⟩
theorem jN {α:Type}{xs:List α}{j:Nat}{v:α}(h:xs[j]? = some v):atI xs (j:Int)=some v:=by
 have hj:j<xs.length:=(List.getElem?_eq_some_iff.mp h).1
 have e:ixN xs.length (j:Int)=some j:=by
  unfold ixN
  rw[if_pos (by omega),if_pos (by omega)];simp
 unfold atI;rw[e];exact h
def VQ (b:Expr):Prop:=∀o i,subscripted b false o i=operate [o,i] (getItem o i)
def IxR (X:Cx) (r:R2):Prop :=
 ∀(value slice:Expr) (pins:List (Addr×Obj)) (s:Shared) (σ:St) (H:Hp) (x y:V) (v u:Value) (Q:VK),Inv X pins σ H s->zQ x v->zQ y u->r x y H Q →
  subscripted slice false v u=operate [v,u] (getItem v u)->wpAny (model X.prog X.w) X.A (subscriptTail value slice v u) (EP X pins σ Q) X.xe s
def MtR (X:Cx) (id:String) (r:V->List V->Hp->VK->Prop):Prop :=
 ∀(pins:List (Addr×Obj)) (s:Shared) (σ:St) (H:Hp) (x:V) (xs:List V) (v:Value) (us:List Value) (Q:VK),Inv X pins σ H s->zQ x v->zK xs us->r x xs H Q →
  wpAny (model X.prog X.w) X.A (call (.builtin id) (v::us)) (EP X pins σ Q) X.xe s
section
variable {X:Cx}{a b:Expr}{ta tb:TE}{pos:Pos}
theorem zE {r:R2}(hr:IxR X r) (ha:PE X a ta) (hb:PE X b tb) (hs:VQ b):PE X (.Subscript a b pos) (tOp r ta tb):=by
 intro pins s σ H Q I h
 exact Subscript_ (zcJ ha hb I h λv u s2 x y H2 I2 rx ry q=>hr a b pins s2 σ H2 x y v u Q I2 rx ry q (hs _ _))
def rIxL (K:PySem.W.Frag):R2:=λx y H Q=>∃p xs i v,x = .ref p/\y = .int i/\SqL K H p xs/\atI xs i=some v/\Q v H
def j0 (K:PySem.W.Frag):R2:=λx y H Q=>∃p xs i v,x = .ref p/\y = .int i/\SqT K H p xs/\atI xs i=some v/\Q v H
theorem xk:IxR X (rIxL X.K):=by
 intro value slice pins s σ H x y v u Q I rx ry h hs
 obtain⟨p,xs,i,z,rfl,rfl,hq,he,q⟩:=h
 cases rx
 obtain⟨t,rfl⟩:=ry
 obtain⟨its,r,pl,hz⟩:=I.list hq
 obtain⟨j,h1,h2,h3,h4,h5⟩:=VS he
 obtain⟨w,ew,rw'⟩:=r.get h2
 have hl:=r.length
 have hn:=Xd
 have fin:EP X pins σ Q w s:=⟨z,H,I,rw',q⟩
 by_cases h0:0<=i
 ·have hj:i.toNat=j:=by
   rw[seqIndex_of h0 h5]at h1
   exact Option.some.inj h1
  exact item_listR pl.isList h0 (by omega) (by rw[hj];simpa using ew) fin hs
 ·have hj:(i+(its.toArray.size:Int)).toNat=j:=by
   rw[seqIndex_neg (by omega) h4]at h1
   rw[List.size_toArray,<-hl]
   exact Option.some.inj h1
  exact subscriptTail_builtinR (x:=w) pl.isList.typeIs slot_list_getitem.lookup
   (wpAny_getItem_list_neg (Q:=λr s'=>r=w/\EP X pins σ Q r s') pl.isList (by omega) (by rw[List.size_toArray] <;> omega) (by omega) (by rw[hj];simpa using ew) ⟨rfl,fin⟩) hs
theorem zH:IxR X (j0 X.K):=by
 intro value slice pins s σ H x y v u Q I rx ry h hs
 obtain⟨p,xs,i,z,rfl,rfl,hq,he,q⟩:=h
 cases rx
 obtain⟨t,rfl⟩:=ry
 obtain⟨its,r,pl,hz⟩:=I.tuple hq
 obtain⟨j,h1,h2,h3,h4,h5⟩:=VS he
 obtain⟨w,ew,rw'⟩:=r.get h2
 have hl:=r.length
 have hn:=Xd
 have fin:EP X pins σ Q w s:=⟨z,H,I,rw',q⟩
 exact subscriptTail_builtinR (x:=w) pl.typeIs slot_tuple_getitem.lookup
  (getItem_tuple (j:=j) (Q:=λr s'=>r=w/\EP X pins σ Q r s') pl (by omega) (by omega) (by rw[List.size_toArray,<-hl];exact h1) (by simpa using ew) ⟨rfl,fin⟩) hs
theorem Vs (its:List Value) (n j:Nat) (u:Value):Obj.mapSeq (·.setIfInBounds j u) { cls:=.type "list",data:=.seq its.toArray n } = { cls:=.type "list",data:=.seq (its.set j u).toArray n }:=by
 simp[Obj.mapSeq]
theorem Inv.lst {pins:List (Addr×Obj)}{σ:St}{H:Hp}{s:Shared}{p:Addr}{xs:List V}(I:Inv X pins σ H s) (h:H p=some (.lst xs)) :
  ∃(its:List Value) (n:Nat),zK xs its/\s.heap.get? p=some { cls:=.type "list",data:=.seq its.toArray n }/\xs.length<=sizeLine:=by
 obtain⟨z,its,n,r,e⟩:=I.hok p _ h
 exact⟨its,n,r,e,z⟩
theorem Inv.lstUpd {pins:List (Addr×Obj)}{σ:St}{H:Hp}{s:Shared}{p:Addr}{xs ys:List V}{its its':List Value}{n n':Nat}{f:Obj->Obj}(I:Inv X pins σ H s) (h:H p=some (.lst xs))
  (ho:s.heap.get? p=some { cls:=.type "list",data:=.seq its.toArray n }) (hf:f { cls:=.type "list",data:=.seq its.toArray n } = { cls:=.type "list",data:=.seq its'.toArray n' }) (r:zK ys its') (hz:ys.length<=sizeLine) (t:Nat) :
  Inv X pins σ (upd H p (.lst ys)) { s with heap:=s.heap.update p f,toks:=t }:=by
 have e:(s.heap.update p f).get? p=some { cls:=.type "list",data:=.seq its'.toArray n' }:=by
  rw[Heap.get?_update_self f ho (by rw[hf] <;> rfl),hf]
 refine I.write (x:=p) (e:=p) (by rw[h];trivial) (.inl rfl) (λb u hb q=>(Heap.get?_update_other _ _ (Ne.symm hb)).trans q) ⟨_,e⟩ ?_
 exact⟨hz,its',n',r,e⟩
def zeJ:V->V->V->Hp->(Hp->Prop)->Prop:=λo i v H Q=>∃p xs k j,o = .ref p/\i = .int k/\H p=some (.lst xs)/\ixN xs.length k=some j/\Q (upd H p (.lst (xs.set j v)))
theorem Xl:zeb X zeJ:=by
 intro pins s σ H o i v ov iv u Q I ro ri rv h
 obtain⟨p,xs,k,j,rfl,rfl,hp,hj,q⟩:=h
 cases ro
 obtain⟨t,rfl⟩:=ri
 obtain⟨its,n,r,ho,hz⟩:=I.lst hp
 obtain⟨h1,h2,h3,h4⟩:=V5 hj
 have hl:=r.length
 have hn:=Xd
 have I':Inv X pins σ (upd H p (.lst (xs.set j v))) { s with heap:=s.heap.update p (Obj.mapSeq (·.setIfInBounds j u)) } :=
  I.lstUpd hp ho (Vs its n j u) (r.set rv j) (by rw[List.length_set];exact hz) s.toks
 by_cases h0:0<=k
 ·have hk:k.toNat=j:=by
   rw[seqIndex_of h0 h4]at h1
   exact Option.some.inj h1
  exact PySem.W.ki_setAt ho h0 (by omega) (by rw[List.size_toArray,<-hl];exact h4) (by rw[hk];exact⟨_,I',q⟩)
 ·have hk:(k+(its.toArray.size:Int)).toNat=j:=by
   rw[seqIndex_neg (by omega) h3]at h1
   rw[List.size_toArray,<-hl]
   exact Option.some.inj h1
  exact PySem.W.ki_setBack ho (by omega) (by rw[List.size_toArray,<-hl];exact h3) (by omega) (by rw[hk];exact⟨_,I',q⟩)
def ZG:V->Bool
 | .non=>true
 | .bl _=>true
 | .int _=>true
 | .str _=>true
 | _=>false
def eqV:V->V->Bool
 | .non,.non=>true
 | .bl a,.bl b=>a == b
 | .bl a,.int b=>(if a then 1 else 0) == b
 | .int a,.bl b=>a == (if b then 1 else 0)
 | .int a,.int b=>a == b
 | .str a,.str b=>a == b
 | _,_=>false
theorem zcO {A:Around}{s:Shared}{y x:V}{u v:Value}(ry:zQ y u) (rx:zQ x v) (fy:ZG y=true) (fx:ZG x=true):SeqAt.EqAt A s u v (eqV y x):=by
 cases y with
 | non =>
  cases ry
  cases x with
  | non=>cases rx;exact SeqAt.EqAt.same _
  | bl b=>cases rx;exact SeqAt.EqAt.none_bool b
  | int b=>obtain⟨t,rfl⟩:=rx;exact SeqAt.EqAt.none_int b t
  | str b=>obtain⟨t,rfl⟩:=rx;exact SeqAt.EqAt.none_str b t
  | _=>exact absurd (show false=true from fx) Bool.false_ne_true
 | bl a =>
  cases ry
  cases x with
  | non=>cases rx;exact SeqAt.EqAt.bool_none a
  | bl b=>cases rx;exact SeqAt.EqAt.bool_bool a b
  | int b=>obtain⟨t,rfl⟩:=rx;exact SeqAt.EqAt.bool_int a b t
  | str b=>obtain⟨t,rfl⟩:=rx;exact SeqAt.EqAt.bool_str a b t
  | _=>exact absurd (show false=true from fx) Bool.false_ne_true
 | int a =>
  obtain⟨t',rfl⟩:=ry
  cases x with
  | non=>cases rx;exact SeqAt.EqAt.int_none a t'
  | bl b=>cases rx;exact SeqAt.EqAt.int_bool a t' b
  | int b=>obtain⟨t,rfl⟩:=rx;exact SeqAt.EqAt.int_int a t' b t
  | str b=>obtain⟨t,rfl⟩:=rx;exact SeqAt.EqAt.int_str a t' b t
  | _=>exact absurd (show false=true from fx) Bool.false_ne_true
 | str a =>
  obtain⟨t',rfl⟩:=ry
  cases x with
  | non=>cases rx;exact SeqAt.EqAt.str_none a t'
  | bl b=>cases rx;exact SeqAt.EqAt.str_bool a t' b
  | int b=>obtain⟨t,rfl⟩:=rx;exact SeqAt.EqAt.str_int a t' b t
  | str b=>obtain⟨t,rfl⟩:=rx;exact SeqAt.EqAt.str_str a t' b t
  | _=>exact absurd (show false=true from fx) Bool.false_ne_true
 | _=>exact absurd (show false=true from fy) Bool.false_ne_true
def eqU (x:V) (u:Value):Bool:=match u with
 | .none=>eqV .non x
 | .bool b=>eqV (.bl b) x
 | .int i _=>eqV (.int i) x
 | .str z _=>eqV (.str z) x
 | _=>false
theorem zam {x y:V}{u:Value}(r:zQ y u) (f:ZG y=true):eqU x u=eqV y x:=by
 cases y with
 | non=>cases r;rfl
 | bl b=>cases r;rfl
 | int i=>obtain⟨t,rfl⟩:=r;rfl
 | str z=>obtain⟨t,rfl⟩:=r;rfl
 | _=>exact absurd (show false=true from f) Bool.false_ne_true
theorem XZ {x:V}:∀{xs:List V}{us:List Value},zK xs us->xs.all ZG=true->us.any (eqU x)=xs.any λy=>eqV y x
 | _,_,.nil,_=>rfl
 | y::xs,u::us,.cons r t,f=>by
  rw[List.all_cons,Bool.and_eq_true]at f
  rw[List.any_cons,List.any_cons,zam r f.1,XZ t f.2]
theorem Xe {A:Around}{s:Shared}{x:V}{v:Value}(rx:zQ x v) (fx:ZG x=true):∀{xs:List V}{us:List Value},zK xs us->xs.all ZG=true->∀u∈us,SeqAt.EqAt A s u v (eqU x u)
 | _,_,.nil,_=>λu hu=>by cases hu
 | y::xs,u::us,.cons r t,f=>λu' hu=>by
  rw[List.all_cons,Bool.and_eq_true]at f
  rcases List.mem_cons.mp hu with rfl | hu
  ·rw[zam r f.1];exact zcO r rx f.1 fx
  ·exact Xe rx fx t f.2 u' hu
def inV (x:V) (xs:List V):Bool:=xs.any λy=>eqV y x
def rIn (K:PySem.W.Frag) (neg:Bool):R2:=λx y H Q=>∃p xs,y = .ref p/\(SqL K H p xs\/SqT K H p xs)/\ZG x=true/\xs.all ZG=true/\Q (.bl (if neg then !inV x xs else inV x xs)) H
theorem XQ:OpR X (compareOp .In) (rIn X.K false):=by
 intro pins s σ H x y v u Q I rx ry h
 obtain⟨p,xs,rfl,hq,fx,fs,q⟩:=h
 cases ry
 rcases hq with hq | hq
 ·obtain⟨its,r,pl,hz⟩:=I.list hq
  refine SeqAt.in_listAt (eqU x) pl.isList (λw hw=>Xe rx fx r fs w (by simpa using hw)) ⟨.bl _,H,I,rfl,?_⟩
  rw[show its.toArray.any (eqU x)=its.any (eqU x) by simp,XZ r fs]
  exact q
 ·obtain⟨its,r,pl,hz⟩:=I.tuple hq
  refine SeqAt.in_tupleAt (eqU x) pl (λw hw=>Xe rx fx r fs w (by simpa using hw)) ⟨.bl _,H,I,rfl,?_⟩
  rw[show its.toArray.any (eqU x)=its.any (eqU x) by simp,XZ r fs]
  exact q
theorem xq:va X (.builtin "len") (λxs H Q=>∃p ys,xs=[.ref p]/\(SqL X.K H p ys\/SqT X.K H p ys)/\Q (.int ys.length) H):=by
 intro pins s σ H xs us Q I r h
 obtain⟨p,ys,rfl,hq,q⟩:=h
 obtain⟨u,rfl,rx⟩:=vW r
 cases rx
 have hn:=Xd
 rcases hq with hq | hq
 ·obtain⟨its,r',pl,hz⟩:=I.list hq
  have hlen:=r'.length
  exact Calls.call_len_list pl.isList (by simp only[List.size_toArray] <;> omega) ⟨.int ys.length,H,I.tok _,⟨s.toks+1,by rw[List.size_toArray,hlen]⟩,q⟩
 ·obtain⟨its,r',pl,hz⟩:=I.tuple hq
  have hlen:=r'.length
  exact len_tuple pl (by simp only[List.size_toArray] <;> omega) ⟨.int ys.length,H,I.tok _,⟨s.toks+1,by rw[List.size_toArray,hlen]⟩,q⟩
theorem vY:va X (.type "list") (λxs H Q=>∃p ys,xs=[.ref p]/\(SqL X.K H p ys\/SqT X.K H p ys)/\∀l,H l=none->Q (.ref l) (upd H l (.lst ys))):=by
 intro pins s σ H xs us Q I r h
 obtain⟨p,ys,rfl,hq,q⟩:=h
 obtain⟨u,rfl,rx⟩:=vW r
 cases rx
 have fin:∀(its:List Value),zK ys its->ys.length<=sizeLine->∀(h':Heap) (c':Nat),(∀b o',s.heap.get? b=some o'->h'.get? b=some o') →
   h'.get? s.heap.objs.size=some { cls:=.type "list",dict:=none,data:=.seq its.toArray c',slots:=#[] }->EP X pins σ Q (.ref s.heap.objs.size) { s with heap:=h' }:=λits r' hz h' c' kp e =>
  ⟨.ref s.heap.objs.size,_,I.laid (t':=s.toks) kp (Nat.le_refl _) (show xi X.prog X.w _ h' _ (.lst ys)from⟨hz,its,c',r',e⟩),rfl,q _ (I.hok.fresh (Nat.le_refl _))⟩
 rcases hq with hq | hq
 ·obtain⟨its,r',pl,hz⟩:=I.list hq
  have hlen:=r'.length
  obtain⟨o,ho,hc,n,hd⟩:=pl.isList
  exact call_list_seq p (.inl rfl) ho hc hd (λh' c' kp e=>fin its r' hz h' c' kp e) (by simp only[List.size_toArray] <;> omega)
 ·obtain⟨its,r',pl,hz⟩:=I.tuple hq
  have hlen:=r'.length
  obtain⟨o,ho,hc,n,hd⟩:=pl
  exact call_list_seq p (.inr rfl) ho hc hd (λh' c' kp e=>fin its r' hz h' c' kp e) (by simp only[List.size_toArray] <;> omega)
theorem vI:va X (.type "tuple") (λxs H Q=>∃p ys,xs=[.ref p]/\((SqL X.K H p ys/\∀l,H l=none->Q (.ref l) (upd H l (.tup ys)))\/(SqT X.K H p ys/\Q (.ref p) H))):=by
 intro pins s σ H xs us Q I r h
 obtain⟨p,ys,rfl,h⟩:=h
 obtain⟨u,rfl,rx⟩:=vW r
 cases rx
 rcases h with⟨hq,q⟩ | ⟨hq,q⟩
 ·obtain⟨its,r',pl,hz⟩:=I.list hq
  have hlen:=r'.length
  refine call_tuple_list pl.isList (λh' kp=>?_) (by simp only[List.size_toArray] <;> omega)
  have I1:Inv X pins σ H { s with heap:=h' }:=I.kept (t':=s.toks) kp
  have I2:Inv X pins σ (upd H h'.objs.size (.tup ys)) { s with heap:=h'.push { cls:=.type "tuple",data:=.seq its.toArray } } :=
   I1.laid (t':=s.toks) (λb o e=>Heap.get?_push_of_some _ e) (Nat.le_refl _) (show xi X.prog X.w _ _ _ (.tup ys)from⟨hz,its,r',IsTup.new _ _⟩)
  exact⟨.ref h'.objs.size,_,I2,rfl,q _ (I1.hok.fresh (Nat.le_refl _))⟩
 ·obtain⟨its,r',pl,hz⟩:=I.tuple hq
  exact call_tuple_same pl ⟨.ref p,H,I,rfl,q⟩
def tyV (K:PySem.W.Frag) (T:String) (x:V) (H:Hp):Prop:=match x with
 | .str _=>T = "str"
 | .int _=>T = "int"
 | .ref p=>(T = "list"/\∃xs,SqL K H p xs)\/(T = "tuple"/\∃o,K.lookup p=some o/\o.cls = .type "tuple"/\o.dict=none) ∨
   (T = "dict"/\((∃kvs,H p=some (.dK kvs))\/∃kvs,H p=some (.dT kvs)))\/(T = "set"/\∃S n,H p=some (.set S n))
 | _=>False
theorem zbi {pins:List (Addr×Obj)}{σ:St}{H:Hp}{s:Shared}{T:String}{x:V}{v:Value}(I:Inv X pins σ H s) (r:zQ x v) (ty:tyV X.K T x H) :
  s.TypeIs v T/\∀a,v = .ref a->∃ob,s.heap.get? a=some ob/\ob.dict=none:=by
 cases x with
 | str z =>
  obtain⟨t,rfl⟩:=r
  cases(show T = "str" from ty)
  exact⟨typeIs_str s z t,λ_ e=>nomatch e⟩
 | int i =>
  obtain⟨t,rfl⟩:=r
  cases(show T = "int" from ty)
  exact⟨typeIs_int s i t,λ_ e=>nomatch e⟩
 | ref p =>
  cases r
  rcases ty with⟨rfl,xs,hq⟩ | ⟨rfl,o,hk,hc,hd⟩ | ⟨rfl,hk⟩ | ⟨rfl,S,n,hk⟩
  ·obtain⟨its,_,pl,_⟩:=I.list hq
   refine⟨pl.isList.typeIs,λa e=>?_⟩
   cases e
   obtain⟨o,n,e,c,hd,_⟩:=pl
   exact⟨o,e,hd⟩
  ·refine⟨⟨o,I.kIn p o hk,hc⟩,λa e=>?_⟩
   cases e
   exact⟨o,I.kIn _ o hk,hd⟩
  ·have z:∃o,s.heap.get? p=some o/\o.ExactDict:=by
    rcases hk with⟨kvs,hk⟩ | ⟨kvs,hk⟩
    ·obtain⟨_,_,_,_,o,_,_,e,ex,_⟩:=I.hok p _ hk
     exact⟨o,e,ex⟩
    ·obtain⟨_,_,_,_,o,_,_,e,ex,_⟩:=I.hok p _ hk
     exact⟨o,e,ex⟩
   obtain⟨o,e,ex⟩:=z
   refine⟨⟨o,e,ex.1⟩,λa e2=>?_⟩
   cases e2
   exact⟨o,e,ex.2.1⟩
  ·obtain⟨o,_,_,_,e,ex,_⟩:=I.hok p _ hk
   refine⟨⟨o,e,ex.1⟩,λa e2=>?_⟩
   cases e2
   exact⟨o,e,ex.2.1⟩
 | _=>exact False.elim ty
def tBM0 (K:PySem.W.Frag) (T:String) (r:V->List V->Hp->VK->Prop) (to:TE):TE:=λσ H Q=>to σ H λx H1=>tyV K T x H1/\r x [] H1 Q
def tBM (K:PySem.W.Frag) (T:String) (r:V->List V->Hp->VK->Prop) (to:TE) (t:TA):TE:=λσ H Q=>to σ H λx H1=>tyV K T x H1/\t σ H1 λxs H2=>r x xs H2 Q
variable {o e:Expr}{es:List Expr}{to:TE}{t:TA}{name:Str}{apos cpos:Pos}{T id:String}{r:V->List V->Hp->VK->Prop}
theorem zdz (pa:PlainAttrs T) (slot:Slot T name id) (hty:typeOf (.builtin id)=pure (.type "method_descriptor")) (hm:MtR X id r) (ho:PE X o to)
  (hbase:attributeBase o name X.env (eval o X.env)=eval o X.env:=by rfl) (hline:(apos.endLine == cpos.line)=true:=by rfl):PE X (.Call (.Attribute o name apos) [] [] cpos) (tBM0 X.K T r to):=by
 intro pins s σ H Q I h
 refine wpAny_Call_method0_late hbase hline (thn (ho pins s σ H _ I h) λv s1 ⟨x,H1,I1,r1,ty,q1⟩=>?_)
 obtain⟨h1,h2⟩:=zbi I1 r1 ty
 exact⟨T,id,pa,slot,hty,h1,h2,Calls.callWith_builtin rfl (PySem.evalArgs_none (hm pins s1 σ H1 x [] v [] Q I1 r1 .nil q1))⟩
theorem qI (pa:PlainAttrs T) (slot:Slot T name id) (hty:typeOf (.builtin id)=pure (.type "method_descriptor")) (hm:MtR X id r) (ho:PE X o to) (ha:PA X (e::es) t)
  (hbase:attributeBase o name X.env (eval o X.env)=eval o X.env:=by rfl)
  (hfew:((backTo cpos (starEach (e::es) X.env)).all (λx=>!x.1)&&(backToKw cpos (keywordEach [] X.env)).all (λx=>x.1.isSome)
   && decide ((e::es).length+([]:List Keyword).length+(if([]:List Keyword).isEmpty then 0 else 1)<30))=true:=by rfl)
  (hline:(apos.endLine == cpos.line)=true:=by rfl) (hs:starEach (e::es) X.env=(false,eval e X.env)::starEach es X.env:=by rfl) (hplain:(backTo cpos (starEach es X.env)).any (·.1)=false:=by rfl) :
  PE X (.Call (.Attribute o name apos) (e::es) [] cpos) (tBM X.K T r to t):=by
 intro pins s σ H Q I h
 refine wpAny_Call_method_late hbase hfew hline rfl (thn (ho pins s σ H _ I h) λv s1 ⟨x,H1,I1,r1,ty,q1⟩=>?_)
 obtain⟨h1,h2⟩:=zbi I1 r1 ty
 refine⟨T,id,pa,slot,hty,h1,h2,?_⟩
 have hA:=ha cpos pins s1 σ H1 _ I1 q1
 rw[hs]at hA ⊢
 refine Calls.callWith_builtin (by show (false || (backTo cpos (starEach es X.env)).any (·.1))=false;rw[hplain] <;> rfl) (Calls.evalArgs_plain ?_)
 exact thn hA λus s2 ⟨vs,H2,I2,r2,q2⟩=>hm pins s2 σ H2 x vs v us Q I2 r1 r2 q2
end
end L2
namespace L2
open PySem PySem.Spec PyProof.Rows
def MtM (X:Cx) (id:String) (r:V->List V->Hp->VK->Prop):Prop :=
 ∀(pins:List (Addr×Obj)) (s:Shared) (σ:St) (H:Hp) (x:V) (xs:List V) (v:Value) (us:List Value) (Q:VK),Inv X pins σ H s->zQ x v->zK xs us->r x xs H Q →
  wpAny (model X.prog X.w) X.A (call (.builtin id) (v::us)) (EP X pins σ Q) X.xe s
theorem zK.one:∀{x:V}{us:List Value},zK [x] us->∃u,us=[u]/\zQ x u
 | _,_,.cons r .nil=>⟨_,rfl,r⟩
theorem zK.two:∀{x y:V}{us:List Value},zK [x,y] us->∃u v,us=[u,v]/\zQ x u/\zQ y v
 | _,_,_,.cons r (.cons q .nil)=>⟨_,_,rfl,r,q⟩
theorem zK.zero:∀{us:List Value},zK [] us->us=[]
 | _,.nil=>rfl
theorem zK.eraseIdx:∀{xs:List V}{us:List Value}(i:Nat),zK xs us->zK (xs.eraseIdx i) (us.eraseIdx i)
 | _,_,_,.nil=>.nil
 | _,_,0,.cons _ t=>t
 | _,_,i+1,.cons r t=>.cons r (zK.eraseIdx i t)
theorem zK.reverse {xs:List V}{us:List Value}(h:zK xs us):zK xs.reverse us.reverse:=by
 induction h with
 | nil=>exact .nil
 | cons r t ih=>rw[List.reverse_cons,List.reverse_cons];exact zK.append ih (.cons r .nil)
theorem XO {α:Type}:∀(l:List α) (i:Nat),(l.eraseIdx i).length<=l.length
 | [],_=>Nat.le_refl _
 | _::_,0=>Nat.le_succ _
 | _::r,i+1=>Nat.succ_le_succ (XO r i)
section
variable {X:Cx}{pins:List (Addr×Obj)}{σ:St}{H:Hp}{s:Shared}{l b:Addr}{xs ys zs:List V}
theorem Inv.lset {its its':List Value}{n:Nat}{f:Array Value->Array Value}{t':Nat}(I:Inv X pins σ H s) (hH:H l=some (.lst xs))
  (e:s.heap.get? l=some { cls:=.type "list",data:=.seq its.toArray n }) (hf:f its.toArray=its'.toArray) (hv:zK ys its') (hz:ys.length<=sizeLine) :
  Inv X pins σ (upd H l (.lst ys)) { s with heap:=s.heap.update l (Obj.mapSeq f),toks:=t' }:=by
 have q:=PySem.IsL.update e f
 rw[hf]at q
 refine I.write (x:=l) (e:=l) (by rw[hH];exact trivial) (.inl rfl) (λb' u hb hu=>(Heap.get?_update_other s.heap (Obj.mapSeq f) (Ne.symm hb)).trans hu) ⟨_,q⟩ ?_
 exact⟨hz,its',_,hv,q⟩
theorem Inv.lnew {its:List Value}{t':Nat}(I:Inv X pins σ H s) (hv:zK ys its) (hz:ys.length<=sizeLine) :
  Inv X pins σ (upd H s.heap.objs.size (.lst ys)) { s with heap:=s.heap.push { cls:=.type "list",data:=.seq its.toArray },toks:=t' } :=
 I.laid (λ_ _ q=>Heap.get?_push_of_some _ q) (Nat.le_refl _) ⟨hz,its,0,hv,Heap.get?_push_size _ rfl⟩
theorem Inv.fresh (I:Inv X pins σ H s):H s.heap.objs.size=none:=I.hok.fresh (Nat.le_refl _)
theorem Inv.lstM (I:Inv X pins σ H s) (hH:H l=some (.lst xs)):xs.length<=sizeLine/\∃(its:List Value) (n:Nat),zK xs its/\xs.length=its.length/\s.heap.get? l=some { cls:=.type "list",data:=.seq its.toArray n }:=by
 obtain⟨z,its,n,r,e⟩:=I.hok l _ hH
 exact⟨z,its,n,r,r.length,e⟩
end
section
variable {X:Cx}
def zbX:V->List V->Hp->VK->Prop:=λx vs H Q=>∃l xs y,x = .ref l/\vs=[y]/\H l=some (.lst xs)/\xs.length<sizeLine/\Q .non (upd H l (.lst (xs++[y])))
theorem xl:MtM X "list.append" zbX:=by
 intro pins s σ H x vs v us Q I rx rv h
 obtain⟨l,xs,y,rfl,rfl,hH,hz,q⟩:=h
 cases rx
 obtain⟨u,rfl,ru⟩:=rv.one
 obtain⟨z,its,n,r,hl,e⟩:=I.lstM hH
 refine call_meets F.slot_list_append ⟨_,e,rfl⟩ F.entry_list_append (F.args_list_append_2 _ _) (PySem.list_append l its.toArray n u (by rw[List.size_toArray];omega)) ⟨e,?_⟩
 refine⟨.non,_,I.lset (its':=its++[u]) hH e (by simp) (r.append (.cons ru .nil)) ?_,rfl,q⟩
 rw[List.length_append,List.length_singleton]
 omega
def zdD:V->List V->Hp->VK->Prop:=λx vs H Q=>∃l xs i k y,x = .ref l/\vs=[.int i]/\H l=some (.lst xs) ∧ -(2^63)<=i/\i<2^63/\seqIndex? i xs.length=some k/\xs[k]? = some y/\Q y (upd H l (.lst (xs.eraseIdx k)))
theorem QK:MtM X "list.pop" zdD:=by
 intro pins s σ H x vs v us Q I rx rv h
 obtain⟨l,xs,i,k,y,rfl,rfl,hH,h1,h2,hk,hy,q⟩:=h
 cases rx
 obtain⟨u,rfl,ru⟩:=rv.one
 obtain⟨t,rfl⟩:=ru
 obtain⟨z,its,n,r,hl,e⟩:=I.lstM hH
 obtain⟨w,hw,rw'⟩:=r.get hy
 refine call_meets F.slot_list_pop ⟨_,e,rfl⟩ F.entry_list_pop (F.args_list_pop_2 _ _)
  (MeetsSeq.list_pop_at l its.toArray n i t k w (fitsIndex_both h1 h2) (by rw[List.size_toArray,<-hl];exact hk) (by rw[<-Array.getElem?_toList];exact hw) (by rw[List.size_toArray];omega)) ⟨e,?_⟩
 refine⟨y,_,I.lset (its':=its.eraseIdx k) hH e ?_ (r.eraseIdx k) ?_,rw',q⟩
 ·show its.toArray.eraseIdxIfInBounds k=(its.eraseIdx k).toArray
  rw[List.eraseIdxIfInBounds_toArray]
 ·have:=XO xs k
  omega
def zaQ:V->List V->Hp->VK->Prop:=λx vs H Q=>∃l xs,x = .ref l/\vs=[]/\H l=some (.lst xs)/\Q .non (upd H l (.lst xs.reverse))
theorem Vt:MtM X "list.reverse" zaQ:=by
 intro pins s σ H x vs v us Q I rx rv h
 obtain⟨l,xs,rfl,rfl,hH,q⟩:=h
 cases rx
 have hus:=rv.zero
 subst hus
 obtain⟨z,its,n,r,hl,e⟩:=I.lstM hH
 refine call_meets F.slot_list_reverse ⟨_,e,rfl⟩ F.entry_list_reverse (F.args_list_reverse_1 _) (AutoSeq1.list_reverse_list_0 l its.toArray n (by rw[List.size_toArray];omega)) ⟨e,?_⟩
 refine⟨.non,_,I.lset (its':=its.reverse) hH e (by simp) r.reverse ?_,rfl,q⟩
 rw[List.length_reverse]
 omega
def rCat:R2:=λx y H Q=>∃l b xs zs,x = .ref l/\y = .ref b/\H l=some (.lst xs)/\H b=some (.lst zs)/\xs.length+zs.length<=sizeLine/\∀p,H p=none->Q (.ref p) (upd H p (.lst (xs++zs)))
theorem zdx:OpR X (binaryOp .Add) rCat:=by
 intro pins s σ H x y v u Q I rx ry h
 obtain⟨l,b,xs,zs,rfl,rfl,hH,hB,hz,q⟩:=h
 cases rx
 cases ry
 obtain⟨z,its,n,r,hl,e⟩:=I.lstM hH
 obtain⟨z2,its2,n2,r2,hl2,e2⟩:=I.lstM hB
 refine PySem.P.add_list e e2 ?_ (by rw[List.size_toArray,List.size_toArray];omega)
 have ea:its.toArray++its2.toArray=(its++its2).toArray:=by simp
 rw[ea]
 exact⟨.ref _,_,I.lnew (t':=s.toks) (r.append r2) (by rw[List.length_append];omega),rfl,q _ I.fresh⟩
end
end L2
namespace Att
open PySem PySem.W PySem.Calls PyProof.Rows
theorem ZK {P:Params}{h:Heap}:∀(ns:List Int) (vs:List Value),WellAll P h vs (ns.map WData.int)->IntsAre vs ns:=by
 intro ns
 induction ns with
 | nil =>
  intro vs w
  rw[List.map_nil]at w
  cases w
  exact .nil
 | cons n ns ih =>
  intro vs w
  rw[List.map_cons]at w
  cases w with
  | cons a b =>
   cases a
   exact .cons _ _ (ih _ b)
theorem JW {l:OpenLaw}{n:Nat}(hn:l.most=some n){P:Params}{h:Heap}{args:List WData}{vals:List Value}
  (hpre:l.row.toRowW.claim.pre args=true) (hwl:WellAll P h vals args) :
  ∃a vs ns,vals=[Value.ref a]/\args=[WData.list (ns.map WData.int)]/\h.get? a=some { cls:=.type "list",data:=.seq vs.toArray }/\IntsAre vs ns/\ns.length<=n:=by
 have hsh:WShape.hasAll [] args [.list .int]=true:=(pre_splitW hpre).1
 have hc:l.pre.holds [] { args:=args } = true:=(pre_splitW hpre).2
 obtain⟨d,r,rfl,h1,h2⟩:=hasAllW_cons hsh
 obtain rfl:=hasAllW_nil h2
 obtain⟨xs,rfl,h3⟩:=hasW_list h1
 obtain⟨ns,rfl⟩:=items_int h3
 have hlen:ns.length<=n:=by
  unfold OpenLaw.pre at hc
  have h4:(WTm.not (.lt (.lit (.int (n:Int))) (.len (.arg 0)))).holds [] { args:=[.list (ns.map .int)] } = true:=by
   have h4:=(holds_andW hc).1
   rw[hn]at h4
   exact h4
  have h5:=condW_of h4 (w_not (w_lt w_lit (w_len_list (w_arg rfl))))
  rw[List.length_map]at h5
  refine Nat.le_of_not_lt λq=>?_
  have q':(n:Int)<((ns.length:Nat):Int):=by omega
  first
   | (rw[decide_eq_true q']at h5;exact absurd h5 (by decide))
   | (simp at h5;omega)
 cases hwl with
 | cons w1 w2 =>
  cases w2
  cases w1 with
  | list ho hall=>exact⟨_,_,ns,rfl,rfl,ho,ZK ns _ hall,hlen⟩
theorem JS (l:OpenLaw) (args:List WData):l.row.toRowW.claim.post args (.bool true) args=true :=
 postW_of (r:=l.row.toRowW) (X:=(true == true))
  (show WShape.has [] (.bool true) .bool=true by first | rfl | decide | simp[WShape.has,WShape.arms,WShape.armsAll])
  (show (WTm.eq .res (.lit (.bool true))).value [] { args:=args,res:=some (.bool true),after:=args } = some (.bool (true == true))from w_eq_bool (w_res rfl) w_lit) rfl
theorem attach_call {l:OpenLaw}{n:Nat}{q:Program}{loose:List Str}{XP:(Str->Option Value)->Heap->Prop}{YP:World->Heap->Prop}{d:DefRec}
  (hn:l.most=some n) (hdf:d.params.defaults=[])
  (call:∀(w:World) (s₀ s₁:Shared) (mg mb:Str->Option Value) (fa:Addr) (o:Obj) (pm cd doc:Value) (a:Addr) (vs:List Value) (ns:List Int),
   Ground q loose [] XP w s₀ mg mb s₁.heap->YP w s₁.heap →
   s₁.heap.get? fa=some o->o.data = .func (docDef d.name d.params d.body d.scope pm cd doc)->s₁.heap.CodeRec cd d.name->mg d.name=some (.ref fa) →
   s₁.heap.get? a=some { cls:=.type "list",data:=.seq vs.toArray }->IntsAre vs ns->ns.length<=n->s₁.gens = #[] →
   codeAny (model l.prog w) callerA (.call (.ref fa) ⟨[.ref a],[]⟩) (λr s'=>r = .ok (.ret (.bool true))/\OldK s₁.heap s'.heap/\s'.os=s₁.os/\AllBare s'.gens) s₁) :
  WalkO q loose XP YP l.row.toRowW d [] (λf vs=>PySem.call f vs):=by
 intro w s₀ s₁ mg mb G Y fa o pm cd doc dV kV ho hd hcd hD hmg hg args vals as hpre hlay hrd hwl hlo
 obtain rfl:dV = .none:=Dflts.none hD hdf
 obtain rfl:kV = .none:=Dflts.noKw hD
 obtain⟨a,vs,ns,rfl,rfl,hobj,hints,hlen⟩:=JW hn hpre hwl
 refine enter_call (codeAny_mono (call w s₀ s₁ mg mb fa o pm cd doc a vs ns G Y ho (fd_plain hd) hcd hmg hobj hints hlen hg) λr s' hq=>?_)
 obtain⟨rfl,h2,h3,h4⟩:=hq
 exact⟨.inl ⟨.bool true,.bool true,[],rfl,λ_=>rfl,.bool true,JS l _,λ_=>⟨List.Pairwise.nil,λ_ hm=>(nomatch hm)⟩⟩,h2,h3,h4⟩
end Att
namespace L2
open PySem PySem.Spec PyProof.Rows
theorem jy:∀{vs:List Value}{ns:List Int},IntsAre vs ns->zK (ns.map V.int) vs
 | _,_,.nil=>.nil
 | _,_,.cons n t h=>.cons ⟨t,rfl⟩ (jy h)
def zcE (H:Hp):Prop:=∀b,H b=none\/∃o xs,H b=some (.frz o (.lst xs))
theorem zas {P:Program}{w:World}{K:PySem.W.Frag}{mg mb:Str->Option Value}{CX:CXT}{k:Nat}{fa a:Addr}{fd:FuncData}{x:Str}{sp:Sp}{s₁:Shared}{vs:List Value}{ns:List Int}
  (KX:K.In s₁.heap) (hns:s₁.heap.Ns mainGlobals mg) (hb:s₁.heap.Ns builtinsNs mb) (hbb:∀x:Str,x≠"__name__"->mb x=bootBuiltins x) (hlim:s₁.heap.NoLimit) (hg:s₁.gens = #[])
  (ha:s₁.heap.get? a=some { cls:=.type "list",data:=.seq vs.toArray }) (hi:IntsAre vs ns) (hl:ns.length<=sizeLine) (hr:xj k callerA)
  (F:∀base:Heap,K.In base->base.Ns mainGlobals mg->jD P w K mg base CX k fa fd [x] sp) (hbind:∀(s:Shared) (u:Value),BindsTo s fd ⟨[u],[]⟩ [(x,u)])
  (hsp:∀H:Hp,zcE H->SqL K H a (ns.map V.int)->sp [.ref a] H (λv _=>v = .bl true) λ_ _ _=>False)
  (hCX:∀H e s',CX [] H s₁ (λ_ _ _=>False) e s'->False) :
  codeAny (model P w) callerA (.call (.ref fa) ⟨[.ref a],[]⟩) (λr s'=>r = .ok (.ret (.bool true))/\OldK s₁.heap s'.heap/\s'.os=s₁.os/\AllBare s'.gens) s₁:=by
 have rv:=jy hi
 have lenV:=hi.length
 have core:∀H:Hp,zcE H->SqL K H a (ns.map V.int)->HOk P w H s₁.heap->(∀b,H b≠none->b=a)->(H a≠none->K.lookup a=none) →
   codeAny (model P w) callerA (.call (.ref fa) ⟨[.ref a],[]⟩) (λr s'=>r = .ok (.ret (.bool true))/\OldK s₁.heap s'.heap/\s'.os=s₁.os/\AllBare s'.gens) s₁:=by
  intro H hO hS hok hA hK
  have base_of:∀{b:Addr}{o:Obj},s₁.heap.get? b=some o->H b=none->(Qc s₁.heap H).get? b=some o:=λe n=>zap e n
  have noA:∀{b:Addr}{o:Obj}{es:Array DictEntry}{ep:Nat},s₁.heap.get? b=some o->o.data = .dict es ep->H b=none:=λ{b o es ep} e d=>by
   cases q:H b with
   | none=>rfl
   | some u =>
    have e':b=a:=hA b (by rw[q];simp)
    subst e'
    rw[ha]at e;cases e
    have d':Data.seq vs.toArray _=Data.dict es ep:=d
    cases d'
  have nsK:∀{b:Addr}{m:Str->Option Value},s₁.heap.Ns b m->(Qc s₁.heap H).Ns b m:=λ{b m} ⟨o,es,ep,e,d,r⟩=>⟨o,es,ep,base_of e (noA e d),d,r⟩
  have hKb:K.In (Qc s₁.heap H):=λb o e=>base_of (KX b o e) (by
   cases q:H b with
   | none=>rfl
   | some u =>
    have e':b=a:=hA b (by rw[q];simp)
    subst e'
    rw[hK (by rw[q];simp)]at e;cases e)
  have hM:Mod K mg (Qc s₁.heap H):=⟨hKb,nsK hns,⟨mb,nsK hb,hbb⟩,let ⟨mc,h1,h2⟩:=hlim;⟨mc,nsK h1,h2⟩⟩
  have e0:Q9 P w K mg (Qc s₁.heap H) callerA [] s₁ H:=⟨rfl,hM,λb o e=>zbM e,Nat.le_of_eq (JF _ _),trivial,λb hb=>absurd (show b∈([]:List Addr)from hb) (by simp),hok,.of_eq hg⟩
  refine codeAny_mono ((F _ hKb (nsK hns)).run callerA [] s₁ H ⟨[.ref a],[]⟩ [.ref a] [.ref a] _ _ hr e0 (hbind s₁ (.ref a)) (.cons rfl .nil) (hsp H hO hS)) λr s' h=>?_
  cases r with
  | error e=>exact(hCX H e s' h).elim
  | ok fl =>
   cases fl with
   | next=>exact False.elim h
   | brk=>exact False.elim h
   | cont=>exact False.elim h
   | ret u =>
    obtain⟨v,H',os,bare,un,hok',r',q⟩:=h
    have q':v = .bl true:=q
    subst q'
    obtain rfl:u=Value.bool true:=r'
    refine⟨rfl,OldK.of_keep λb o e=>?_,os,bare⟩
    cases q:H b with
    | none=>exact un.keep b o e q (by intro z;exact absurd (show b∈([]:List Addr)from z) (by simp)) (by simp)
    | some u =>
     rcases hO b with z | ⟨ob,xs,z⟩
     ·rw[q]at z;cases z
     ·have z2:=un.frzs b ob _ z
      obtain⟨e1,_⟩:=hok b _ z
      obtain⟨e2,_⟩:=hok' b _ z2
      rw[e]at e1;cases e1
      exact e2
 cases hk:K.lookup a with
 | some o =>
  have e:=KX a o hk
  rw[ha]at e
  cases e
  refine core (λ_=>none) (λ_=>.inl rfl) (.inr ⟨_,vs.toArray,_,hk,rfl,rfl,rfl,by rw[List.size_toArray,lenV];exact hl,by simpa using rv⟩) (λb u z=>by have z':(none:Option HO)=some u:=z;cases z') (λb z=>absurd rfl z) λz=>absurd rfl z
 | none =>
  refine core (λb=>if b=a then some (.frz { cls:=.type "list",data:=.seq vs.toArray } (.lst (ns.map V.int)))else none) (λb=>?_) (.inl (.inr ⟨{ cls:=.type "list",data:=.seq vs.toArray },if_pos rfl⟩)) (λb u z=>?_) (λb z=>?_) λ_=>hk
  ·by_cases hb:b=a
   ·exact .inr ⟨_,_,if_pos hb⟩
   ·exact .inl (if_neg hb)
  ·by_cases hb:b=a
   ·have z':=(if_pos hb).symm.trans z
    cases z'
    subst hb
    exact⟨ha,by rw[List.length_map];exact hl,vs,_,rv,ha⟩
   ·have z':=(if_neg hb).symm.trans z
    cases z'
  ·by_cases hb:b=a
   ·exact hb
   ·exact absurd (if_neg hb) z
end L2
namespace L2
open PySem PySem.Spec PyProof.Rows
theorem zcc {l:PySem.W.OpenLaw}{n k:Nat}{q:Program}{loose:List Str}{XP:(Str->Option Value)->Heap->Prop}{YP:World->Heap->Prop}{d:DefRec}{K:Params->PySem.W.Frag}{CX:World->CXT}{sp:World->Sp}{x:Str}
  (hn:l.most=some n) (hn2:n<=sizeLine) (hdf:d.params.defaults=[]) (hr:xj k callerA)
  (hY:∀(w:World) (h:Heap),YP w h->(K w.params).In h)
  (F:∀(w:World) (mg:Str->Option Value) (fa:Addr) (h:Heap),(K w.params).In h->h.Ns mainGlobals mg->mg d.name=some (.ref fa) →
   ∃fd:FuncData,(∀(s:Shared) (u:Value),BindsTo s fd ⟨[u],[]⟩ [(x,u)]) ∧
    ∀base:Heap,(K w.params).In base->base.Ns mainGlobals mg->jD l.prog w (K w.params) mg base (CX w) k fa fd [x] (sp w))
  (hsp:∀(w:World) (H:Hp) (a:Addr) (ns:List Int),ns.length<=n->zcE H->SqL (K w.params) H a (ns.map V.int)->sp w [.ref a] H (λv _=>v = .bl true) λ_ _ _=>False)
  (hCX:∀(w:World) (H:Hp) (s:Shared) (e:Value) (s':Shared),CX w [] H s (λ_ _ _=>False) e s'->False) :
  PySem.W.WalkO q loose XP YP l.row.toRowW d [] (λf vs=>PySem.call f vs):=by
 refine Att.attach_call hn hdf λw s₀ s₁ mg mb fa o pm cd doc a vs ns G Y ho hd hcd hmg hobj hints hlen hg=>?_
 have KX:=hY w _ Y
 obtain⟨fd,hb,hF⟩:=F w mg fa _ KX G.T.g hmg
 exact zas KX G.T.g G.T.b G.T.builtins G.T.nolimit hg hobj hints (Nat.le_trans hlen hn2) hr hF hb (λH hO hS=>hsp w H a ns hlen hO hS) λH e s'=>hCX w H s₁ e s'
end L2
namespace L2
open PySem PySem.Spec PyProof.Rows
def zbA (s:Stmt) (j:Nat):Stmt:=match s with
 | .ClassDef _ _ _ body _ _ _ _ _ _ _=>body.getD j (.Pass ⟨0,0,0,0⟩)
 | _=>.Pass ⟨0,0,0,0⟩
def zr (s:Stmt):Arguments:=match s with
 | .FunctionDef _ a _ _ _ _ _ _ _ _=>a
 | _=>{ posonlyargs:=[],args:=[],vararg:=none,kwonlyargs:=[],kw_defaults:=[],kwarg:=none,defaults:=[] }
def zq (s:Stmt):List Stmt:=match s with
 | .FunctionDef _ _ b _ _ _ _ _ _ _=>b
 | _=>[]
def zh (s:Stmt):Scope:=match s with
 | .FunctionDef _ _ _ _ _ _ sc _ _ _=>sc
 | _=>{ kind:=.function,names:=[],isGenerator:=false,isCoroutine:=false }
abbrev CX0:CXT:=λ_ _ _ _ _ _=>False
abbrev E0:XK:=λ_ _ _=>False
theorem zaD {X:Cx}:ZX CX0 X E0:=λ_ _ _ _ _ _ _ h=>h.elim
structure Fun (K:PySem.W.Frag) (x qual:Str) (st:Stmt) (f:Addr) (fd:FuncData):Prop where
 ex:∃(oc:Value) (od:Option Addr) (kV doc pm:Value) (an:Option Addr) (cdv ct:Value) (osl:Array (Option Value)),
  fd=PySem.W.fnOf x qual (zr st) (zq st) (zh st) .none kV doc pm an cdv ct/\K.lookup f=some ⟨oc,od,.func fd,osl⟩/\PySem.W.codeIn K cdv qual=true
 kp:PySem.W.keepIn K (.ref f)=true
section
variable {P:Program}{w:World}{K:PySem.W.Frag}{mg:Str->Option Value}{base:Heap}
theorem Fun.ok {x qual:Str}{st:Stmt}{f:Addr}{fd:FuncData}{N ps:List Str}{k:Nat}{sp:Sp}(F:Fun K x qual st f fd) (S:zx N ps (zh st)) (len:∀vs H Q E,sp vs H Q E->vs.length=ps.length)
  (hbody:∀(cdv:Value) (A:Around) (outer:List Env) (s:Shared) (H:Hp) (vs:List V) (Q:VK) (E:XK),xj k (A.deeper (envOfC qual (zh st) s.heap.objs.size f cdv))->sp vs H Q E →
   ∃t,PSs (QC CX0 P w K mg base N qual (zh st) f cdv A outer s H E).nox (zq st) t/\t { nx:=λ_ H'=>Q .non H',rt:=Q } (jB N vs) H):jD P w K mg base CX0 (k+1) f fd ps sp:=by
 obtain⟨oc,od,kV,doc,pm,an,cdv,ct,osl,rfl,lk,hcd⟩:=F.ex
 refine zcm lk hcd S len λA outer s H vs Q E hr hsp=>?_
 obtain⟨t,h,q⟩:=hbody cdv A outer s H vs Q E hr hsp
 exact⟨t,h.nox,q⟩
theorem Fun.binds {x qual:Str}{st:Stmt}{f:Addr}{fd:FuncData}{ps:List Str}(F:Fun K x qual st f fd)
  (h:∀(kV doc pm:Value) (an:Option Addr) (cdv ct:Value) (us:List Value),us.length=ps.length->bindArgs (PySem.W.fnOf x qual (zr st) (zq st) (zh st) .none kV doc pm an cdv ct) ⟨us,[]⟩=pure (ps.zip us)):jd K fd ps []:=by
 obtain⟨oc,od,kV,doc,pm,an,cdv,ct,osl,rfl,lk,hcd⟩:=F.ex
 exact .all (h kV doc pm an cdv ct)
theorem zan {x qual:Str}{st:Stmt}{f:Addr}{oc:Value}{od an:Option Addr}{osl:Array (Option Value)}{kV doc pm cdv ct:Value}(l:K.lookup f=some ⟨oc,od,.func (PySem.W.fnOf x qual (zr st) (zq st) (zh st) .none kV doc pm an cdv ct),osl⟩)
  (c:PySem.W.codeIn K cdv qual=true) (k:PySem.W.keepIn K (.ref f)=true):Fun K x qual st f (PySem.W.fnOf x qual (zr st) (zq st) (zh st) .none kV doc pm an cdv ct):=⟨⟨oc,od,kV,doc,pm,an,cdv,ct,osl,rfl,l,c⟩,k⟩
end
theorem zef {A:Around}{k:Nat}(hr:xj k A):A.units+1<cLine:=Nat.lt_of_le_of_lt (Nat.add_le_add_left (by decide:1<=64) _) hr.units
theorem xy {n:Nat}(h:n<=1000):n<sizeLine:=Nat.lt_of_le_of_lt h (by decide)
section
variable {X:Cx}
theorem pv (i:Nat){x:Str}{pos:Pos}(hN:X.N[i]? = some x:=by rfl) (hv:Vis X.env.scope x:=by first | exact Or.inl rfl | exact Or.inr (Or.inl rfl) | exact Or.inr (Or.inr rfl)) (hd:(x == ("__debug__":Str))=false:=by decide)
  (hcd:(x == ("__classdict__":Str))=false:=by decide):PE X (.Name x pos) (xN i):=zdA hN hv hd hcd
end
theorem xZ {A B:Prop}(h:B):if false=true then A else B:=by
 rw[if_neg Bool.false_ne_true]
 exact h
theorem xY {A B:Prop}(h:A):if true=true then A else B:=by
 rw[if_pos rfl]
 exact h
theorem xO {c A B:Prop} [Decidable c] (h1:c->A) (h2:¬c->B):if c then A else B:=by
 by_cases h:c
 ·rw[if_pos h]
  exact h1 h
 ·rw[if_neg h]
  exact h2 h
def zi (H H':Hp):Prop:=∀b o,H b=some o->H' b=some o
theorem zi.refl (H:Hp):zi H H:=λ_ _ h=>h
theorem zi.trans {H H1 H2:Hp}(a:zi H H1) (b:zi H1 H2):zi H H2:=λc o h=>b c o (a c o h)
theorem zi.free {H H':Hp}(e:zi H H'){l:Addr}(h:H' l=Option.none):H l=Option.none:=by
 cases q:H l with
 | none=>rfl
 | some o =>
  rw[e l o q]at h
  cases h
theorem zi.seq {K:PySem.W.Frag}{H H':Hp}{a:Addr}{xs:List V}(e:zi H H') (h:SqL K H a xs):SqL K H' a xs:=by
 rcases h with(h | ⟨o,h⟩) | h
 ·exact .inl (.inl (e _ _ h))
 ·exact .inl (.inr ⟨o,e _ _ h⟩)
 ·exact .inr h
end L2
set_option Elab.async false
set_option linter.all false
set_option maxRecDepth 100000
namespace L2
open PySem PySem.Spec PyProof.Rows
section
variable {prog:Program}{w:World}{A:Around}{R:Result->Shared->Prop}{s:Shared}
theorem jR {elt target iter:Expr}{ifs:List Expr}{scope:Scope}{pos:Pos}{it acc:Value}{env:Env}(I:Nat->Shared->Prop)
  (turn:∀n s,I n s->wpAny (model prog w) A (pyNext it) (λr s₁=>match r with
   | none=>R (.ok .next) s₁
   | some v=>wpAny (model prog w) A (letOwnedTupleGo target it v) (λ_ s₀=>wpAny (model prog w) A (assign target env v) (λ_ s₂ =>
     wpAny (model prog w) A (forIn ifs true λc r=>if r=true then do let ok <-isTrue c env (eval c env);pure (ForInStep.yield ok)else pure (ForInStep.yield r)) (λok s₃ =>
      if ok=true then wpAny (model prog w) A (eval elt env) (λx s₄ =>
       wpAny (model prog w) A (call (.builtin "list.append") [acc,x]) (λ_ s₅=>∃m,m<n/\I m s₅) (λ_ _=>False) s₄) (λ_ _=>False) s₃
      else ∃m,m<n/\I m s₃) (λ_ _=>False) s₂) (λ_ _=>False) s₀) (λ_ _=>False) s₁) (λ_ _=>False) s)
  (n:Nat) (h:I n s) :
  codeAny (model prog w) A (.compLoop (.ListComp elt [⟨target,iter,ifs,0⟩] scope pos) 0 it acc env) R s:=by
 refine codeAny_loop rfl I (λn s hI=>?_) n h
 show wpAny _ A ((compTurn (.ListComp elt [⟨target,iter,ifs,0⟩] scope pos) 0 it acc env).onRaise (λx=>do noteFrame x env;theTreesLotGoes x)) _ _ s
 refine wpAny_noted ?_
 rw[compTurn_list]
 have no:∀{X:Prop},∀(e:Value) (s':Shared),(λ_ _=>False:Value->Shared->Prop) e s'->X:=λ_ _ z=>False.elim z
 refine wpAny_bind (wpAny_standAt (wpAny_bind (wpAny_mono (turn n s hI) (λr s₁ h₁=>?_) λe s'=>no e s')))
 cases r with
 | none=>exact wpAny_pure h₁
 | some v =>
  refine wpAny_bind (wpAny_mono h₁ (λ_ s₀ h₀=>?_) λe s'=>no e s')
  refine wpAny_bind (wpAny_mono h₀ (λ_ s₂ h₂=>wpAny_bind (wpAny_mono h₂ (λok s₃ h₃=>?_) λe s'=>no e s')) λe s'=>no e s')
  cases ok with
  | false=>exact wpAny_pure ⟨rfl,h₃⟩
  | true =>
   exact wpAny_bind (wpAny_bind (wpAny_mono h₃ (λx s₄ h₄=>wpAny_bind (wpAny_mono h₄ (λ_ s₅ h₅=>wpAny_pure (wpAny_pure ⟨rfl,h₅⟩)) λe s'=>no e s')) λe s'=>no e s'))
end
def qJ (X:Cx) (NB:List Str) (scope:Scope) (s3:Shared) (H3:Hp) (fp:List Addr):Cx :=
 { X with N:=NB,s₀:=s3,H₀:=H3,env:=compEnv scope s3.heap.objs.size X.env,outer:=X.stack,stack:=X.stack,ex:=fp,fn:=λ_=>true,pn:=[],xe:=λ_ _=>False }
def PTs (X:Cx) (ifs:List Expr) (t:TT):Prop :=
 ∀(pins:List (Addr×Obj)) (s:Shared) (σ:St) (H:Hp) (Q:Bool->Hp->Prop),Inv X pins σ H s->t σ H Q →
  wpAny (model X.prog X.w) X.A (forIn ifs true λc r=>if r=true then do let ok <-isTrue c X.env (eval c X.env);pure (ForInStep.yield ok)else pure (ForInStep.yield r)) (TP X pins σ Q) X.xe s
theorem zL {X:Cx}:PTs X [] (λ_ H Q=>Q true H):=λ_ _ _ H _ I h=>wpAny_tests_nil ⟨H,I,h⟩
theorem Jj {X:Cx}{c:Expr}{t:TT}(h:PT X c t):PTs X [c] t:=λpins s σ H Q I q=>wpAny_tests_one (h pins s σ H Q I q)
def Jr (n:Nat) (wi:TI) (g:TG) (tt:TT) (te:TE):TE:=λσ H Q=>wi σ H λJ H1=>∀D,H1 D=none->∃W:Nat->Nat->Hp->List V->Prop,(∃m,W 0 m (upd H1 D (.lst [])) []) ∧
 ∀i m H2 ys,W i m H2 ys->H2 D=some (.lst ys)->(J.stop i H2/\Q (.ref D) H2) ∨
  (J.go i H2/\∀σB x H3,σB.length=n->J.yld i H2 x H3->g x σB H3 λσ4 H4=>tt σ4 H4 λb H5=>if b=true then te σ4 H5 (λv H6=>H6 D=some (.lst ys)/\ys.length<sizeLine/\∃m',m'<m/\W (i+1) m' (upd H6 D (.lst (ys++[v]))) (ys++[v]))
   else H5 D=some (.lst ys)/\∃m',m'<m/\W (i+1) m' H5 ys)
theorem qo {X:Cx}{elt tg iter:Expr}{ifs:List Expr}{scope:Scope}{pos:Pos}{NB:List Str}{wi:TI}{g:TG}{tt:TT}{te:TE}
  (hc:X.calm=true) (hfree:∀x∈scope.names,x.2≠.free) (hcell:∀x∈scope.names,x.2≠.cell) (hkind:scope.kind = .function) (hnames:∀x∈scope.names,x.2 = .local → scope.names.lookup x.1=some .local)
  (hi:PI X tg iter wi) (hb:∀s3 H3 fp,PG (qJ X NB scope s3 H3 fp) tg g/\PTs (qJ X NB scope s3 H3 fp) ifs tt/\PE (qJ X NB scope s3 H3 fp) elt te)
  (hs:∀x,foldedSetIterable iter X.env x=pure x:=by intro _;rfl) :
  PE X (.ListComp elt [⟨tg,iter,ifs,0⟩] scope pos) (Jr NB.length wi g tt te):=by
 intro pins s σ H Q I h
 refine wpAny_ListComp hfree hkind hnames (thn (hi pins s σ H _ I h) λv s1 h1=>thn h1 λitv s2 h2=>?_) hs
 obtain⟨it,fp,tn,J,H2,e,I2,T,st2,f2,q2⟩:=h2
 subst e
 have hf2:H2 s2.heap.objs.size=none:=I2.hok.fresh (Nat.le_refl _)
 obtain⟨W,⟨m0,w0⟩,turn⟩:=q2 _ hf2
 refine wpAny_newObj_type (hd:=by size_fits) ?_
 have I3:Inv X pins σ (upd H2 s2.heap.objs.size (.lst [])) { s2 with heap:=s2.heap.push { cls:=.type "list",dict:=none,data:=.seq ([]:List Value).toArray } } :=
  I2.laid (t':=s2.toks) (λb u e=>Heap.get?_push_of_some _ e) (Nat.le_refl _) ⟨by decide,[],0,.nil,Heap.get?_push_size _ rfl⟩
 generalize hD:s2.heap.objs.size=D at *
 generalize hs3:({ s2 with heap:=s2.heap.push { cls:=.type "list",dict:=none,data:=.seq ([]:List Value).toArray } }:Shared)=s3 at *
 generalize hH3:upd H2 D (.lst [])=H3 at *
 have h3D:H3 D=some (.lst []):=by rw[<-hH3];exact zg
 have fpD:∀b∈fp,b≠D:=λb hb=>by
  obtain⟨o,e,_⟩:=T.obj _ _ st2 b hb
  rw[<-hD];exact Nat.ne_of_lt (Heap.lt_size e)
 have k23:∀b u,s2.heap.get? b=some u->s3.heap.get? b=some u:=λb u e=>by rw[<-hs3];exact Heap.get?_push_of_some _ e
 have st3:tn 0 s3.heap:=T.keep _ _ _ st2 λb _ o e=>k23 b o e
 have f3:∀b∈fp,ZW X pins H3 b:=λb hb=>⟨by rw[<-hH3,zB (fpD b hb)];exact(f2 b hb).1,(f2 b hb).2⟩
 refine wpAny_newFunctionEnv hcell (by intro y hy;simp at hy) (λh4 hns4 hsb4=>?_) hkind
 have k34:∀b u,s3.heap.get? b=some u->h4.get? b=some u:=λb u e=>hsb4.extBut b u (Nat.ne_of_lt (Heap.lt_size e)) (Heap.get?_push_of_some _ e)
 have okB:(qJ X NB scope s3 H3 fp).Ok:=by
  refine⟨I3.ok.mod,hkind,I3.ok.glob,I3.ok.blt,Nat.le_refl _,λx y c e _=>?_,λx e=>?_,λx c _ e=>?_,I3.ok.hd,I3.ok.frames,.inl rfl,λb hb=>⟨?_,λx c e=>?_⟩,I3.bs,Nat.le_trans I3.ok.bsz I3.sz,λb o e hb=>?_,λb hb z=>?_,I3.stack,I3.stkFree⟩
  ·exact absurd (show ([]:List (Str×Addr)).lookup x=some c from e) (by simp)
  ·have e':scope.names.lookup x=some .cell\/scope.names.lookup x=some .free:=e
   rcases e' with e' | e'
   ·exact absurd rfl (hcell _ (PySem.mem_of_lookup e'))
   ·exact absurd rfl (hfree _ (PySem.mem_of_lookup e'))
  ·exact absurd (show ([]:List (Str×Addr)).lookup x=some c from e) (by simp)
  ·obtain⟨o,e,_⟩:=T.obj _ _ st3 b hb
   exact Nat.ne_of_lt (Heap.lt_size e)
  ·exact absurd (show ([]:List (Str×Addr)).lookup x=some c from e) (by simp)
  ·obtain⟨_,_,_,z,_⟩:=f3 b hb
   rcases z with z | z
   ·exact I3.ok.noex b o e z
   ·exact absurd (Nat.lt_of_lt_of_le (Heap.lt_size e) (Nat.le_trans I3.ok.bsz z)) (Nat.lt_irrefl _)
  ·obtain⟨_,z1,z2,_⟩:=f3 b hb
   rcases List.mem_cons.mp (I3.stkSub b z)with e | e
   ·exact z1 e
   ·exact z2 e
 have IB:Inv (qJ X NB scope s3 H3 fp) [] (List.replicate NB.length none) H3 { s3 with heap:=h4,toks:=s3.toks+([]:List (Str×Value)).length }:=by
  refine⟨okB,rfl,I3.bare,Un.kept k34,⟨_,hns4,λi x v _ e _=>?_⟩,λx c e=>?_,I3.hok.fresh (Nat.le_refl _),λx c e=>?_,λp hp=>?_,I3.hok.kept k34,by simp[qJ]⟩
  ·rw[List.getElem?_replicate]at e
   split at e <;> cases e
  ·exact absurd (show ([]:List (Str×Addr)).lookup x=some c from e) (by simp)
  ·exact absurd (show ([]:List (Str×Addr)).lookup x=some c from e) (by simp)
  ·exact absurd (show p∈([]:List (Addr×Obj))from hp) (by simp)
 have st4:tn 0 h4:=T.keep _ _ _ st3 λb _ o e=>k34 b o e
 have C_ne:∀b∈fp,b≠s3.heap.objs.size:=λb hb=>(okB.exf b hb).1
 have stat:∀{H':Hp},(∀b∈fp,H' b=none)->∀b∈fp,ZW (qJ X NB scope s3 H3 fp) [] H' b:=λhn b hb =>
  ⟨hn b hb,C_ne b hb,okB.exfs b hb,.inl hb,λx c e=>absurd (show ([]:List (Str×Addr)).lookup x=some c from e) (by simp),λp hp=>absurd (show p∈([]:List (Addr×Obj))from hp) (by simp)⟩
 obtain⟨hg,ht,he⟩:=hb s3 H3 fp
 have fin:∀{σ':St}{H':Hp}{s':Shared},Inv (qJ X NB scope s3 H3 fp) [] σ' H' s'->Q (.ref D) H' →
   ∃m,s'.heap.Ns s3.heap.objs.size m/\∀h',Heap.SameBut s3.heap.objs.size s'.heap h'->EP X pins σ Q (.ref D) { s' with heap:=h' }:=λ{σ' H' s'} J q=>by
  obtain⟨m,hm,_⟩:=J.loc
  refine⟨m,hm,λh' sb=>⟨.ref D,H',?_,rfl,q⟩⟩
  have neC:∀b o,s3.heap.get? b=some o->b≠s3.heap.objs.size:=λb o e=>Nat.ne_of_lt (Heap.lt_size e)
  have hfr:H' s3.heap.objs.size=none:=J.free
  have up:∀b o,b≠s3.heap.objs.size->s'.heap.get? b=some o->h'.get? b=some o:=λb o hb e=>(sb.2 b hb).trans e
  have hok':HOk X.prog X.w H' h':=λb ob e=>(J.hok b ob e).stay (λc w' hc q=>up c w' (by
   rintro rfl
   rcases hc with rfl | hc
   ·rw[hfr]at e;cases e
   ·rw[hfr]at hc;cases hc) q) (λ_ q=>q) λ_ _ q=>q
  have u:Un (frs X.stack) fp H3 H' s3.heap h' :=
   ⟨λb o e n hb hx=>up b o (neC b o e) (J.base.keep b o e n hb hx),λb o e n hb hx=>by
    obtain⟨sl,e'⟩:=J.base.slot b o e n hb hx
    exact⟨sl,up b _ (neC b o e) e'⟩,J.base.free,λb o e hx=>by
    obtain⟨o',e'⟩:=J.base.there b o e hx
    exact⟨o',up b _ (neC b o e) e'⟩,J.base.tups,J.base.frzs,J.base.tbls⟩
  refine I3.call' (s':={ s' with heap:=h' }) (ch:=fp) J.os u hok' J.bare λb hb=>?_
  obtain⟨z0,z1,z2,z3,z4,z5⟩:=f3 b hb
  exact⟨z3,z1,z4,z5⟩
 have loop:∀s5:Shared,s5 = { s3 with heap:=h4,toks:=s3.toks+([]:List (Str×Value)).length } →
   codeAny (model X.prog X.w) X.A (.compLoop (.ListComp elt [⟨tg,iter,ifs,0⟩] scope pos) 0 (.ref it) (.ref D) (compEnv scope s3.heap.objs.size X.env))
    (λr s'=>∃m,s'.heap.Ns s3.heap.objs.size m/\∀h',Heap.SameBut s3.heap.objs.size s'.heap h' →
     match r with | .ok _=>EP X pins σ Q (.ref D) { s' with heap:=h' } | .error x=>wpAny (model X.prog X.w) X.A (passOn "comprehension.variables-let-go" x (compEnv scope s3.heap.objs.size X.env)) (EP X pins σ Q) X.xe { s' with heap:=h' }) s5:=by
  rintro s5 rfl
  refine jR (λn s'=>∃i σ' H' ys,Inv (qJ X NB scope s3 H3 fp) [] σ' H' s'/\tn i s'.heap/\(∀b∈fp,H' b=none)/\H' D=some (.lst ys)/\W i n H' ys) ?_ m0
   ⟨0,_,H3,[],IB,st4,λb hb=>(f3 b hb).1,h3D,by rw[<-hH3]at *;exact w0⟩
  rintro n s6 ⟨i,σ6,H6,ys,I6,st6,fr6,hD6,w6⟩
  rcases turn i n H6 ys w6 hD6 with⟨stop,qn⟩ | ⟨go,step⟩
  ·refine thn (T.done (qJ X NB scope s3 H3 fp) rfl rfl rfl hc i [] s6 σ6 H6 _ I6 (stat fr6) st6 stop) λr s7 ⟨hr,I7⟩=>?_
   subst hr
   exact fin I7 qn
  ·refine thn (T.item (qJ X NB scope s3 H3 fp) rfl rfl rfl hc i [] s6 σ6 H6 _ I6 (stat fr6) st6 go) λr s7 ⟨u,hr,h7⟩=>?_
   subst hr
   refine thn h7 λ_ s8 ⟨x,H8,I8,r8,y8,st8,fr8⟩=>?_
   have I8':=I8.pinned (stat fr8) (T.obj _ _ st8)
   have again:∀{σ9:St}{H9:Hp}{s9:Shared}{zs:List V}{m':Nat},Inv (qJ X NB scope s3 H3 fp) ([]++Zu fp s8.heap) σ9 H9 s9->H9 D=some (.lst zs)->m'<n->W (i+1) m' H9 zs →
     ∃m,m<n/\∃i σ' H' ys,Inv (qJ X NB scope s3 H3 fp) [] σ' H' s9/\tn i s9.heap/\(∀b∈fp,H' b=none)/\H' D=some (.lst ys)/\W i m H' ys:=λ{σ9 H9 s9 zs m'} I9 hz hm w9=>by
    refine⟨m',hm,i+1,σ9,H9,zs,I9.unpinned,T.keep _ _ _ st8 λb hb o e=>(I9.pin (b,o) (List.mem_append_right _ (List.mem_append_right _ (qK hb e)))).1,λb hb=>?_,hz,w9⟩
    obtain⟨o,e,d⟩:=T.obj _ _ st8 b hb
    exact(I9.pin (b,o) (List.mem_append_right _ (List.mem_append_right _ (qK hb e)))).2.1
   refine thn (hg _ s8 σ6 H8 x u _ I8' r8 (step σ6 x H8 I6.len y8)) λ_ s9 ⟨σ9,H9,I9,q9⟩=>?_
   refine thn (ht _ s9 σ9 H9 _ I9 q9) λok s10 ⟨H10,I10,q10⟩=>?_
   cases ok with
   | false =>
    rw[if_neg (by decide)]at q10 ⊢
    obtain⟨hz,m',hm,w'⟩:=q10
    exact again I10 hz hm w'
   | true =>
    rw[if_pos rfl]at q10 ⊢
    refine thn (he _ s10 σ9 H10 _ I10 q10) λy s11 ⟨v,H11,I11,r11,hz,hlen,m',hm,w'⟩=>?_
    refine thn (xl _ s11 σ9 H11 (.ref D) [v] (.ref D) [y] (λ_ H12=>H12=upd H11 D (.lst (ys++[v]))) I11 rfl (.cons r11 .nil) ⟨D,ys,v,rfl,rfl,hz,hlen,rfl⟩) λ_ s12 ⟨_,H12,I12,_,e12⟩=>?_
    subst e12
    exact again I12 zg hm w'
 exact codeAny_compStart_list (loop _ rfl) (T.self X.A 0 _ _ _ st4 (loop _ rfl))
end L2
set_option Elab.async false
set_option linter.all false
set_option maxRecDepth 100000
namespace L2
open PySem PySem.Spec PyProof.Rows
mutual
inductive RdD (H:Hp):V->PyData->Prop
 | non:RdD H .non .none
 | bl (b:Bool):RdD H (.bl b) (.bool b)
 | int (i:Int):RdD H (.int i) (.int i)
 | str (x:Str):RdD H (.str x) (.str x)
 | tup {a:Addr}{xs:List V}{ds:List PyData}:H a=some (.tup xs)->jz H xs ds->RdD H (.ref a) (.tuple ds)
 | lst {a:Addr}{xs:List V}{ds:List PyData}:H a=some (.lst xs)->jz H xs ds->RdD H (.ref a) (.list ds)
inductive jz (H:Hp):List V->List PyData->Prop
 | nil:jz H [] []
 | cons {x:V}{d:PyData}{xs:List V}{ds:List PyData}:RdD H x d->jz H xs ds->jz H (x::xs) (d::ds)
end
section
variable {X:Cx}{pins:List (Addr×Obj)}{σ:St}{H:Hp}{s:Shared}
mutual
theorem RdD.reads (I:Inv X pins σ H s):∀{x:V}{d:PyData},RdD H x d->∀{u:Value},zQ x u->∃as,Reads s.heap u d as
 | _,_,.non,u,r=>by cases(show u=Value.none from r);exact⟨_,.none⟩
 | _,_,.bl b,u,r=>by cases(show u=Value.bool b from r);exact⟨_,.bool b⟩
 | _,_,.int i,u,r=>by obtain⟨t,e⟩:=(show ∃t,u=Value.int i t from r);subst e;exact⟨_,.int i t⟩
 | _,_,.str x,u,r=>by obtain⟨t,e⟩:=(show ∃t,u=Value.str x t from r);subst e;exact⟨_,.str x t⟩
 | _,_,@RdD.tup _ a xs ds e h,u,r=>by
  cases(show u=Value.ref a from r)
  obtain⟨_,its,rv,o,h1,h2,n,h3⟩:=(show xi X.prog X.w H s.heap a (.tup xs)from I.hok a _ e)
  obtain⟨as,ra⟩:=jz.reads I h rv
  exact⟨_,.tuple h1 h2 h3 (by simpa using ra)⟩
 | _,_,@RdD.lst _ a xs ds e h,u,r=>by
  cases(show u=Value.ref a from r)
  obtain⟨_,its,n,rv,h1⟩:=(show xi X.prog X.w H s.heap a (.lst xs)from I.hok a _ e)
  obtain⟨as,ra⟩:=jz.reads I h rv
  exact⟨_,.list h1 rfl rfl (by simpa using ra)⟩
theorem jz.reads (I:Inv X pins σ H s):∀{xs:List V}{ds:List PyData},jz H xs ds->∀{us:List Value},zK xs us->∃as,ReadsAll s.heap us ds as
 | _,_,.nil,us,r=>by cases r;exact⟨_,.nil⟩
 | _,_,.cons h t,us,r=>by
  cases r with
  | cons r1 r2 =>
   obtain⟨a1,q1⟩:=RdD.reads I h r1
   obtain⟨a2,q2⟩:=jz.reads I t r2
   exact⟨_,.cons q1 q2⟩
end
end
def rEqD:R2:=λx y H Q=>∃d e,RdD H x d/\RdD H y e/\SeqAt.shaped d=true/\SeqAt.shaped e=true/\Q (.bl (PyData.eqv d e)) H
def zdC:R2:=λx y H Q=>∃d e,RdD H x d/\RdD H y e/\SeqAt.shaped d=true/\SeqAt.shaped e=true/\Q (.bl (!PyData.eqv d e)) H
section
variable {X:Cx}
theorem Xh (hu:X.A.units+64<cLine):OpR X (compareOp .Eq) rEqD:=by
 intro pins s σ H x y v u Q I rx ry h
 obtain⟨d,e,hd,he,s1,s2,q⟩:=h
 obtain⟨as,r1⟩:=hd.reads I rx
 obtain⟨bs,r2⟩:=he.reads I ry
 exact eq_dataH r1 r2 s1 s2 hu ⟨.bl _,H,I,rfl,q⟩
theorem Vv (hu:X.A.units+64<cLine):OpR X (compareOp .NotEq) zdC:=by
 intro pins s σ H x y v u Q I rx ry h
 obtain⟨d,e,hd,he,s1,s2,q⟩:=h
 obtain⟨as,r1⟩:=hd.reads I rx
 obtain⟨bs,r2⟩:=he.reads I ry
 exact ne_dataH r1 r2 s1 s2 hu ⟨.bl _,H,I,rfl,q⟩
def Bd (n:Nat) (i:Int):Prop:=i.natAbs<2^n
theorem Bd.mono {m n:Nat}{i:Int}(h:Bd m i) (l:m<=n):Bd n i:=Nat.lt_of_lt_of_le h (Nat.pow_le_pow_right (by decide) l)
theorem Bd.bits {n:Nat}{i:Int}(h:Bd n i):Builtin.Int.intBits i<=n:=intBits_le_iff.mpr h
theorem Bd.of_bits {n:Nat}{i:Int}(h:Builtin.Int.intBits i<=n):Bd n i:=intBits_le_iff.mp h
theorem Bd.mul {m n:Nat}{i j:Int}(h:Bd m i) (k:Bd n j):Bd (m+n) (i*j):=.of_bits (intBits_mul_le h.bits k.bits)
theorem Bd.add {m n:Nat}{i j:Int}(h:Bd m i) (k:Bd n j):Bd (max m n+1) (i+j):=.of_bits (intBits_add_le h.bits k.bits)
theorem Bd.neg {n:Nat}{i:Int}(h:Bd n i):Bd n (-i):=by unfold Bd;rw[Int.natAbs_neg];exact h
theorem Bd.sub {m n:Nat}{i j:Int}(h:Bd m i) (k:Bd n j):Bd (max m n+1) (i - j):=by rw[Int.sub_eq_add_neg];exact h.add k.neg
def zd9 (i j:Int):Prop:=Bd 1000000 i/\Bd 1000000 j
theorem zG:OpR X (binaryOp .Mult) (rI zd9 λi j=>.int (i*j)):=opI λ_ _ _ _ _ _ _ hc q=>mul_int q (IntMulOk.of_le hc.1.bits hc.2.bits (by decide))
def J3 (i j:Int):Prop:=j≠0/\Bd 8900 j
theorem qm:OpR X (binaryOp .FloorDiv) (rI J3 λi j=>.int (i.fdiv j)):=opI λ_ j _ _ _ _ _ hc q=>floordiv_int hc.1 q (.inl (PyProof.noPylong_of_log2 (by
 have h1:j.natAbs≠0:=λz=>hc.1 (Int.natAbs_eq_zero.mp z)
 have h2:j.natAbs<2^9000:=Nat.lt_of_lt_of_le hc.2 (Nat.pow_le_pow_right (by decide) (by decide))
 exact(Nat.log2_lt h1).mpr h2)))
theorem vc:va X (.builtin "isinstance") (λxs H Q=>∃x t n b,xs=[x,.ty n]/\Zh X.K H x t/\PySem.W.kitOne X.K t (.type n)=some b/\Q (.bl b) H):=by
 intro pins s σ H xs us Q I r h
 obtain⟨x,t,n,b,rfl,ty,e,q⟩:=h
 obtain⟨u,w',rfl,r1,r2⟩:=Q6 r
 cases(show w'=Value.type n from r2)
 exact JH I r1 ty e λtk=>⟨.bl b,H,I.tok tk,rfl,q⟩
end
end L2
set_option Elab.async false
set_option linter.all false
set_option maxRecDepth 100000
namespace HT
open PySem PySem.Spec PyProof.Rows L2
end HT
namespace L2
open PySem PySem.Spec PyProof.Rows
end L2
namespace KM
theorem Xa {a b:Int}(ha:0<=a) (hb:0<b):Int.gcd b (a % b)=Int.gcd a b:=by
 obtain⟨m,rfl⟩:=Int.eq_ofNat_of_zero_le ha
 obtain⟨n,rfl⟩:=Int.eq_ofNat_of_zero_le (Int.le_of_lt hb)
 rw[<-Int.natCast_emod,Int.gcd_comm (m:Int)]
 show Nat.gcd n (m % n)=Nat.gcd n m
 rw[Nat.gcd_comm n (m % n)]
 exact(Nat.gcd_rec n m).symm
theorem zcL (q:Rat):(q.den:Int)≠0:=by have:=q.den_nz;omega
theorem den_pos (q:Rat):(0:Int)<q.den:=by have:=q.den_nz;omega
def dv (t b:Int):Int:=if b<0 then -(Int.gcd t b:Int)else(Int.gcd t b:Int)
theorem zbv {t b:Int}(hb:b≠0):0<Int.gcd t b:=Int.gcd_pos_of_ne_zero_right _ hb
theorem zck {t b:Int}(hb:b≠0):dv t b≠0:=by
 have:=zbv (t:=t) hb
 unfold dv;split <;> omega
theorem zcN {t b:Int}:(dv t b).natAbs=Int.gcd t b:=by
 unfold dv;split <;> omega
theorem zcj {t b:Int}(hb:b≠0):(dv t b).natAbs<=b.natAbs:=by
 rw[zcN];exact Nat.le_of_dvd (by omega) (Int.gcd_dvd_natAbs_right t b)
theorem Vi {t b:Int}(hb:b≠0):t.fdiv (dv t b)=(Rat.divInt t b).num:=by
 rw[Rat.num_divInt,Int.gcd_comm b t]
 have h1:((Int.gcd t b:Nat):Int) ∣ t:=Int.gcd_dvd_left ..
 unfold dv
 split
 ·rename_i h
  rw[Int.fdiv_eq_ediv_of_dvd (Int.neg_dvd.mpr h1),Int.ediv_neg,Int.sign_eq_neg_one_of_neg h]
  rw[show (-1*t) = -t by omega,Int.neg_ediv_of_dvd h1]
 ·rename_i h
  rw[Int.fdiv_eq_ediv_of_dvd h1,Int.sign_eq_one_of_pos (by omega),Int.one_mul]
theorem zal {t b:Int}(hb:b≠0):b.fdiv (dv t b)=((Rat.divInt t b).den:Int):=by
 rw[Rat.den_divInt,if_neg hb,Int.gcd_comm b t]
 have h1:((Int.gcd t b:Nat):Int) ∣ b:=Int.gcd_dvd_right ..
 have h2:Int.gcd t b ∣ b.natAbs:=Int.gcd_dvd_natAbs_right t b
 unfold dv
 split
 ·rename_i h
  rw[Int.fdiv_eq_ediv_of_dvd (Int.neg_dvd.mpr h1),Int.ediv_neg]
  rw[Int.natCast_ediv,show ((b.natAbs:Nat):Int) = -b by omega,Int.neg_ediv_of_dvd h1]
 ·rename_i h
  rw[Int.fdiv_eq_ediv_of_dvd h1,Int.natCast_ediv,show ((b.natAbs:Nat):Int)=b by omega]
theorem zde {t b:Int}(hb:b≠0):(Rat.divInt t b).num.natAbs<=t.natAbs:=by
 rw[<-Vi hb]
 have:t.fdiv (dv t b) ∣ t:=by
  have h1:dv t b ∣ t:=by
   unfold dv;split
   ·exact Int.neg_dvd.mpr (Int.gcd_dvd_left ..)
   ·exact Int.gcd_dvd_left ..
  obtain⟨c,hc⟩:=h1
  rw[Int.fdiv_eq_ediv_of_dvd ⟨c,hc⟩]
  refine⟨dv t b,?_⟩
  exact(Int.ediv_mul_cancel ⟨c,hc⟩).symm
 by_cases h0:t=0
 ·subst h0;simp
 ·exact Nat.le_of_dvd (by omega) (Int.natAbs_dvd_natAbs.mpr this)
theorem zag {t b:Int}(hb:b≠0):(Rat.divInt t b).den<=b.natAbs:=by
 rw[Rat.den_divInt,if_neg hb];exact Nat.div_le_self _ _
theorem zaw (a b:Rat):a.num*b.den<b.num*a.den↔a<b:=(Rat.lt_iff a b).symm
structure vX where
 pl:Rat
 sp:Rat
 wt:Int
end KM
set_option Elab.async false
set_option linter.all false
set_option maxRecDepth 100000
namespace L2
open PySem PySem.Spec PyProof.Rows
structure Cal (P:Program) (w:World) (K:PySem.W.Frag) (mg:Str->Option Value) (base:Heap) (x:Str) (k:Nat) (ps:List Str) (dvs:List V) (sp:Sp):Prop where
 ex:∃f fd ds,jD P w K mg base CX0 k f fd ps sp/\mg x=some (.ref f)/\PySem.W.keepIn K (.ref f)=true/\jd K fd ps ds/\zK dvs ds
theorem zv {X:Cx}{x:Str}{k:Nat}{ps:List Str}{dvs:List V}{sp:Sp}{p pos:Pos}{e:Expr}{es:List Expr}{t:TA}
  (c:Cal X.prog X.w X.K X.mg X.base x k ps dvs sp) (hr:xj k X.A) (ha:PA X (e::es) t) (hg:Gl X x:=by rfl) (hdb:(x == ("__debug__":Str))=false:=by decide)
  (he:starEach (e::es) X.env=(false,eval e X.env)::starEach es X.env:=by rfl) (hpl:(backTo pos (starEach es X.env)).any (·.1)=false:=by rfl) :
  PE X (.Call (.Name x p) (e::es) [] pos) (jC sp dvs E0 t):=by
 obtain⟨f,fd,ds,F,hm,hk,hb,hd⟩:=c.ex
 exact zbU F hr hg hm hk hb hd zaD ha hdb he hpl
structure Df (K:PySem.W.Frag) (mg:Str->Option Value) (x:Str) (st:Stmt) (ps:List Str) (dvs:List V):Prop where
 ex:∃(f:Addr) (oc:Value) (od:Option Addr) (dV kV doc pm:Value) (an:Option Addr) (cdv ct:Value) (osl:Array (Option Value)) (ds:List Value),
  K.lookup f=some ⟨oc,od,.func (PySem.W.fnOf x x (zr st) (zq st) (zh st) dV kV doc pm an cdv ct),osl⟩/\PySem.W.codeIn K cdv x=true/\PySem.W.keepIn K (.ref f)=true/\mg x=some (.ref f) ∧
  zK dvs ds/\jd K (PySem.W.fnOf x x (zr st) (zq st) (zh st) dV kV doc pm an cdv ct) ps ds
section
variable {P:Program}{w:World}{K:PySem.W.Frag}{mg:Str->Option Value}{base:Heap}
theorem Df.cal {x:Str}{st:Stmt}{N ps:List Str}{dvs:List V}{k:Nat}{sp:Sp}(D:Df K mg x st ps dvs) (S:zx N ps (zh st)) (len:∀vs H Q E,sp vs H Q E->vs.length=ps.length)
  (hbody:∀(f:Addr) (cdv:Value) (A:Around) (outer:List Env) (s:Shared) (H:Hp) (vs:List V) (Q:VK) (E:XK),xj k (A.deeper (envOfC x (zh st) s.heap.objs.size f cdv))->sp vs H Q E →
   ∃t,PSs (QC CX0 P w K mg base N x (zh st) f cdv A outer s H E).nox (zq st) t/\t { nx:=λ_ H'=>Q .non H',rt:=Q } (jB N vs) H):Cal P w K mg base x (k+1) ps dvs sp:=by
 obtain⟨f,oc,od,dV,kV,doc,pm,an,cdv,ct,osl,ds,lk,hcd,hk,hm,hv,hb⟩:=D.ex
 refine⟨⟨f,_,ds,zcm lk hcd S len λA outer s H vs Q E hr hsp=>?_,hm,hk,hb,hv⟩⟩
 obtain⟨t,h,q⟩:=hbody f cdv A outer s H vs Q E hr hsp
 exact⟨t,h.nox,q⟩
theorem zY {x:Str}{st:Stmt}{ps:List Str}{f:Addr}{oc:Value}{od an:Option Addr}{osl:Array (Option Value)}{dV kV doc pm cdv ct:Value}
  (l:K.lookup f=some ⟨oc,od,.func (PySem.W.fnOf x x (zr st) (zq st) (zh st) dV kV doc pm an cdv ct),osl⟩) (c:PySem.W.codeIn K cdv x=true) (k:PySem.W.keepIn K (.ref f)=true) (m:mg x=some (.ref f))
  (hb:∀us:List Value,us.length=ps.length->bindArgs (PySem.W.fnOf x x (zr st) (zq st) (zh st) dV kV doc pm an cdv ct) ⟨us,[]⟩=pure (ps.zip us)):Df K mg x st ps [] :=
 ⟨⟨f,oc,od,dV,kV,doc,pm,an,cdv,ct,osl,[],l,c,k,m,.nil,.all hb⟩⟩
end
def rp (q:Rat):List V:=[.int q.num,.int (q.den:Int)]
def zI (H:Hp) (p:Addr) (q:Rat):Prop:=H p=some (.tup (rp q))
theorem zI.same {H H':Hp}{p:Addr}{q:Rat}(h:zI H p q) (e:zi H H'):zI H' p q:=e _ _ h
def Sz (n:Nat) (q:Rat):Prop:=Bd n q.num/\Bd n (q.den:Int)
theorem Sz.mono {m n:Nat}{q:Rat}(h:Sz m q) (l:m<=n):Sz n q:=⟨h.1.mono l,h.2.mono l⟩
theorem Bd.of_le {n:Nat}{i j:Int}(h:i.natAbs<=j.natAbs) (b:Bd n j):Bd n i:=Nat.lt_of_le_of_lt h b
theorem Sz.divInt {n:Nat}{t b:Int}(hb:b≠0) (h1:Bd n t) (h2:Bd n b):Sz n (Rat.divInt t b) :=
 ⟨h1.of_le (KM.zde hb),h2.of_le (by have:=KM.zag (t:=t) hb;omega)⟩
theorem JX (q:Rat):SeqAt.shaped (.tuple [.int q.num,.int (q.den:Int)])=true:=rfl
theorem zI.rd {H:Hp}{p:Addr}{q:Rat}(h:zI H p q):RdD H (.ref p) (.tuple [.int q.num,.int (q.den:Int)]):=.tup h (.cons (.int _) (.cons (.int _) .nil))
theorem zcP (x y:Rat):PyData.eqv (.tuple [.int x.num,.int (x.den:Int)]) (.tuple [.int y.num,.int (y.den:Int)])=decide (x=y):=by
 simp only[PyData.eqv,PyData.eqvAll,Bool.and_true]
 rw[Bool.eq_iff_iff]
 simp only[Bool.and_eq_true,beq_iff_eq,decide_eq_true_eq]
 constructor
 ·rintro ⟨h1,h2⟩;exact Rat.ext h1 (by omega)
 ·rintro rfl;exact⟨rfl,rfl⟩
def XS:Sp:=λvs H Q _=>∃t b,vs=[.int t,.int b]/\b≠0/\Bd 8900 b/\∀p H',zi H H'->zI H' p (Rat.divInt t b)->Q (.ref p) H'
theorem at0 {α:Type}(a b:α):atI [a,b] 0=some a:=rfl
theorem at1 {α:Type}(a b:α):atI [a,b] 1=some b:=rfl
theorem zi.upd {H:Hp}{p:Addr}{o:HO}(h:H p=none):zi H (upd H p o):=λb u e=>by rw[zB (zJ e h)];exact e
end L2
set_option Elab.async false
set_option linter.all false
set_option maxRecDepth 100000
namespace L2
open PySem PySem.Spec PyProof.Rows
end L2
set_option Elab.async false
set_option linter.all false
set_option maxRecDepth 100000
namespace L2
open PySem PySem.Spec PyProof.Rows
end L2
set_option Elab.async false
set_option linter.all false
set_option maxRecDepth 100000
namespace L2
open PySem PySem.Spec PyProof.Rows
end L2
set_option Elab.async false
set_option linter.all false
set_option maxRecDepth 100000
namespace L2
open PySem PySem.Spec PyProof.Rows PySem.W
end L2
set_option Elab.async false
set_option linter.all false
set_option maxRecDepth 100000
namespace L2
open PySem PySem.Spec PyProof.Rows
def qz (σ:St) (js:List Nat):St:=js.map λj=>(σ[j]?).getD none
inductive jL (X:Cx) (scope:Scope) (cl:List (Str×Addr)):List Str->List Nat->Prop
 | nil:jL X scope cl [] []
 | cons {x:Str}{j:Nat}{r:List Str}{js:List Nat}:X.N[j]? = some x->X.env.kindOf x=some .cell->(relabel scope X.env).names.lookup x=some .cell->(∃c,cl.lookup x=some c)->jL X scope cl r js->jL X scope cl (x::r) (j::js)
section
variable {X:Cx}{scope:Scope}{cl:List (Str×Addr)}
theorem jL.length:∀{r:List Str}{js:List Nat},jL X scope cl r js->r.length=js.length
 | _,_,.nil=>rfl
 | _,_,.cons _ _ _ _ t=>by rw[List.length_cons,List.length_cons,jL.length t]
theorem jL.get:∀{r:List Str}{js:List Nat}{k:Nat}{x:Str},jL X scope cl r js->r[k]? = some x->∃j,js[k]? = some j/\X.N[j]? = some x/\X.env.kindOf x=some .cell/\(relabel scope X.env).names.lookup x=some .cell/\∃c,cl.lookup x=some c
 | _,_,_,_,.nil,e=>by simp at e
 | _,_,0,_,.cons h1 h2 h3 h4 _,e=>by
  simp at e;subst e
  exact⟨_,rfl,h1,h2,h3,h4⟩
 | _,_,k+1,x,.cons _ _ _ _ t,e=>by
  obtain⟨j,r⟩:=jL.get (k:=k) t (by simpa using e)
  exact⟨j,by simpa using r⟩
theorem jL.has {r:List Str}{js:List Nat}(h:jL X scope cl r js){x:Str}(hx:x∈r):∃c,cl.lookup x=some c:=by
 obtain⟨k,hk⟩:=List.getElem?_of_mem hx
 obtain⟨_,_,_,_,_,z⟩:=h.get hk
 exact z
end
def xA (X:Cx) (NB FR:List Str) (scope:Scope) (cl:List (Str×Addr)) (s3:Shared) (H3:Hp) (fp:List Addr):Cx :=
 { X with N:=NB++FR,s₀:=s3,H₀:=H3,env:=compEnvC scope cl s3.heap.objs.size X.env,outer:=X.stack,stack:=X.stack,ex:=fp,fn:=λ_=>false,pn:=[],xe:=λ_ _=>False }
def Qt (n:Nat) (js:List Nat) (wi:TI) (g:TG) (tt:TT) (te:TE):TE:=λσ H Q=>wi σ H λJ H1=>∀D,H1 D=none->∃W:Nat->Nat->Hp->List V->Prop,(∃m,W 0 m (upd H1 D (.lst [])) []) ∧
 ∀i m H2 ys,W i m H2 ys->H2 D=some (.lst ys)->(J.stop i H2/\Q (.ref D) H2) ∨
  (J.go i H2/\∀zs x H3,zs.length=n->J.yld i H2 x H3->g x (zs++qz σ js) H3 λσ4 H4=>σ4.drop n=qz σ js/\tt σ4 H4 λb H5 =>
   if b=true then te σ4 H5 (λv H6=>H6 D=some (.lst ys)/\ys.length<sizeLine/\∃m',m'<m/\W (i+1) m' (upd H6 D (.lst (ys++[v]))) (ys++[v]))
   else H5 D=some (.lst ys)/\∃m',m'<m/\W (i+1) m' H5 ys)
theorem QS {scope:Scope}{env:Env}{FR:List Str}{x:Str}(h:(relabel scope env).names.all (λy=>!(y.2 == .cell || y.2 == .free) || FR.contains y.1)=true)
  (e:(relabel scope env).names.lookup x=some .cell\/(relabel scope env).names.lookup x=some .free):x∈FR:=by
 have key:∀k:NameKind,(k == .cell || k == .free)=true->(x,k)∈(relabel scope env).names->x∈FR:=λk hk hm=>by
  have z:=List.all_eq_true.mp h _ hm
  simp only[hk,Bool.not_true,Bool.false_or,List.contains_iff_mem]at z
  exact z
 rcases e with e | e
 ·exact key .cell rfl (PySem.mem_of_lookup e)
 ·exact key .free rfl (PySem.mem_of_lookup e)
theorem XG {X:Cx}{elt tg iter:Expr}{ifs:List Expr}{scope:Scope}{cl:List (Str×Addr)}{pos:Pos}{NB FR:List Str}{js:List Nat}{wi:TI}{g:TG}{tt:TT}{te:TE}{Q:VK}{RR:Value->Addr->Result->Shared->Prop}
  {pins:List (Addr×Obj)}{s:Shared}{σ:St}{H:Hp}(hc:X.calm=true) (hcl:∀x c,cl.lookup x=some c->X.env.cells.lookup x=some c) (hcap:jL X scope cl FR js)
  (hnm:(relabel scope X.env).names.all (λy=>!(y.2 == .cell || y.2 == .free) || FR.contains y.1)=true) (hcell:∀x∈scope.names,x.2≠.cell) (hkind:scope.kind = .function)
  (hi:PI X tg iter wi) (hb:∀s3 H3 fp,PG (xA X NB FR scope cl s3 H3 fp) tg g/\PTs (xA X NB FR scope cl s3 H3 fp) ifs tt/\PE (xA X NB FR scope cl s3 H3 fp) elt te)
  (I:Inv X pins σ H s) (h:Qt NB.length js wi g tt te σ H Q)
  (hRR:∀D C H' s',Inv X pins σ H' s'->ZW X pins H' C->(∃m,s'.heap.Ns C m)->Q (.ref D) H'->RR (.ref D) C (.ok .next) s') :
  wpAny (model X.prog X.w) X.A (eval iter X.env) (λv s1=>wpAny (model X.prog X.w) X.A (pyIter v) (λit s2=>wpAny (model X.prog X.w) X.A (newList []) (λacc s3 =>
   wpAny (model X.prog X.w) X.A (newFunctionEnv scope X.env.globals cl [] X.env.qual none .none (some X.env)) (λcenv s4 =>
    codeAny (model X.prog X.w) X.A (.compStart (.ListComp elt [⟨tg,iter,ifs,0⟩] scope pos) 0 it acc { cenv with scope:=relabel scope X.env }) (RR acc cenv.locals) s4) X.xe s3) X.xe s2) X.xe s1) X.xe s:=by
 refine thn (hi pins s σ H _ I h) λv s1 h1=>thn h1 λitv s2 h2=>?_
 obtain⟨it,fp,tn,J,H2,e,I2,T,st2,f2,q2⟩:=h2
 subst e
 have hf2:H2 s2.heap.objs.size=none:=I2.hok.fresh (Nat.le_refl _)
 obtain⟨W,⟨m0,w0⟩,turn⟩:=q2 _ hf2
 refine wpAny_newObj_type (hd:=by size_fits) ?_
 have I3:Inv X pins σ (upd H2 s2.heap.objs.size (.lst [])) { s2 with heap:=s2.heap.push { cls:=.type "list",dict:=none,data:=.seq ([]:List Value).toArray } } :=
  I2.laid (t':=s2.toks) (λb u e=>Heap.get?_push_of_some _ e) (Nat.le_refl _) ⟨by decide,[],0,.nil,Heap.get?_push_size _ rfl⟩
 generalize hD:s2.heap.objs.size=D at *
 generalize hs3:({ s2 with heap:=s2.heap.push { cls:=.type "list",dict:=none,data:=.seq ([]:List Value).toArray } }:Shared)=s3 at *
 generalize hH3:upd H2 D (.lst [])=H3 at *
 have h3D:H3 D=some (.lst []):=by rw[<-hH3];exact zg
 have fpD:∀b∈fp,b≠D:=λb hb=>by
  obtain⟨o,e,_⟩:=T.obj _ _ st2 b hb
  rw[<-hD];exact Nat.ne_of_lt (Heap.lt_size e)
 have k23:∀b u,s2.heap.get? b=some u->s3.heap.get? b=some u:=λb u e=>by rw[<-hs3];exact Heap.get?_push_of_some _ e
 have st3:tn 0 s3.heap:=T.keep _ _ _ st2 λb _ o e=>k23 b o e
 have f3:∀b∈fp,ZW X pins H3 b:=λb hb=>⟨by rw[<-hH3,zB (fpD b hb)];exact(f2 b hb).1,(f2 b hb).2⟩
 refine wpAny_newFunctionEnv hcell (by intro y hy;simp at hy) (λh4 hns4 hsb4=>?_) hkind
 have k34:∀b u,s3.heap.get? b=some u->h4.get? b=some u:=λb u e=>hsb4.extBut b u (Nat.ne_of_lt (Heap.lt_size e)) (Heap.get?_push_of_some _ e)
 have okB:(xA X NB FR scope cl s3 H3 fp).Ok:=by
  refine⟨I3.ok.mod,hkind,I3.ok.glob,I3.ok.blt,Nat.le_refl _,λx y c e1 e2=>I3.ok.inj x y c (hcl _ _ e1) (hcl _ _ e2),λx e=>hcap.has (QS hnm e),(λx c e=>nomatch e),I3.ok.hd,I3.ok.frames,.inl rfl,λb hb=>⟨?_,λx c e=>?_⟩,I3.bs,Nat.le_trans I3.ok.bsz I3.sz,λb o e hb=>?_,λb hb z=>?_,I3.stack,I3.stkFree⟩
  ·obtain⟨o,e,_⟩:=T.obj _ _ st3 b hb
   exact Nat.ne_of_lt (Heap.lt_size e)
  ·exact(f3 b hb).2.2.2.2.1 x c (hcl _ _ e)
  ·obtain⟨_,_,_,z,_⟩:=f3 b hb
   rcases z with z | z
   ·exact I3.ok.noex b o e z
   ·exact absurd (Nat.lt_of_lt_of_le (Heap.lt_size e) (Nat.le_trans I3.ok.bsz z)) (Nat.lt_irrefl _)
  ·obtain⟨_,z1,z2,_⟩:=f3 b hb
   rcases List.mem_cons.mp (I3.stkSub b z)with e | e
   ·exact z1 e
   ·exact z2 e
 have IB:Inv (xA X NB FR scope cl s3 H3 fp) [] (List.replicate NB.length none++qz σ js) H3 { s3 with heap:=h4,toks:=s3.toks+([]:List (Str×Value)).length }:=by
  refine⟨okB,rfl,I3.bare,Un.kept k34,⟨_,hns4,λi x v e1 e2 e3=>?_⟩,λx c e=>?_,I3.hok.fresh (Nat.le_refl _),λx c e=>I3.freeC x c (hcl _ _ e),λp hp=>?_,I3.hok.kept k34,?_⟩
  ·by_cases hi:i<NB.length
   ·rw[List.getElem?_append_left (by simpa using hi),List.getElem?_replicate,if_pos hi]at e2
    cases e2
   ·have e1':FR[i - NB.length]? = some x:=by
     have z:(NB++FR)[i]? = some x:=e1
     rw[List.getElem?_append_right (by omega)]at z;exact z
    rw[List.getElem?_append_right (by simp;omega),List.length_replicate]at e2
    obtain⟨j,hj,hN,hk,hb',c,hc'⟩:=hcap.get e1'
    have e2':σ[j]? = some (some v):=by
     unfold qz at e2
     rw[List.getElem?_map,hj]at e2
     simp only[Option.map_some,Option.some.injEq]at e2
     cases hσ:σ[j]? with
     | none=>rw[hσ]at e2;cases e2
     | some o=>rw[hσ]at e2;simp only[Option.getD_some]at e2;rw[e2]
    obtain⟨m,hn,hl⟩:=I3.loc
    obtain⟨u,ru,lu⟩:=hl j x v hN e2' (.inr (.inl hk))
    refine⟨u,ru,.inr ⟨.inl hb',c,hc',?_⟩⟩
    rcases lu with⟨z,_⟩ | ⟨_,c',z,q⟩
    ·rw[hk]at z;cases z
    ·rw[hcl _ _ hc']at z;cases z
     obtain⟨o,ho,hd⟩:=q
     exact⟨o,k34 _ _ ho,hd⟩
  ·obtain⟨v,o,ho,hd⟩:=I3.cell x c (hcl _ _ e)
   exact⟨v,o,k34 _ _ ho,hd⟩
  ·exact absurd (show p∈([]:List (Addr×Obj))from hp) (by simp)
  ·show _=(NB++FR).length
   rw[List.length_append,List.length_append,List.length_replicate,hcap.length]
   unfold qz;rw[List.length_map]
 have st4:tn 0 h4:=T.keep _ _ _ st3 λb _ o e=>k34 b o e
 have stat:∀{H':Hp},(∀b∈fp,H' b=none)->∀b∈fp,ZW (xA X NB FR scope cl s3 H3 fp) [] H' b:=λhn b hb =>
  ⟨hn b hb,(okB.exf b hb).1,okB.exfs b hb,.inl hb,λx c e=>(f3 b hb).2.2.2.2.1 x c (hcl _ _ e),λp hp=>absurd (show p∈([]:List (Addr×Obj))from hp) (by simp)⟩
 obtain⟨hg,ht,he⟩:=hb s3 H3 fp
 have fin:∀{σ':St}{H':Hp}{s':Shared},Inv (xA X NB FR scope cl s3 H3 fp) [] σ' H' s'->Q (.ref D) H'->RR (.ref D) s3.heap.objs.size (.ok .next) s':=λ{σ' H' s'} J q=>by
  have hm:∃m,s'.heap.Ns s3.heap.objs.size m:=by
   obtain⟨m,hm,_⟩:=J.loc
   exact⟨m,hm⟩
  refine hRR D _ H' s' (I3.call' (ch:=fp) J.os J.base J.hok J.bare λb hb=>?_) (I3.fpOk (Nat.le_refl _) J.free) hm q
  obtain⟨_,z1,z2,z3,z4,z5⟩:=f3 b hb
  exact⟨z3,z1,z4,z5⟩
 have loop:∀s5:Shared,s5 = { s3 with heap:=h4,toks:=s3.toks+([]:List (Str×Value)).length } →
   codeAny (model X.prog X.w) X.A (.compLoop (.ListComp elt [⟨tg,iter,ifs,0⟩] scope pos) 0 (.ref it) (.ref D) (compEnvC scope cl s3.heap.objs.size X.env)) (RR (.ref D) s3.heap.objs.size) s5:=by
  rintro s5 rfl
  refine jR (λn s'=>∃i zs H' ys,zs.length=NB.length/\Inv (xA X NB FR scope cl s3 H3 fp) [] (zs++qz σ js) H' s'/\tn i s'.heap/\(∀b∈fp,H' b=none)/\H' D=some (.lst ys)/\W i n H' ys) ?_ m0
   ⟨0,_,H3,[],List.length_replicate,IB,st4,λb hb=>(f3 b hb).1,h3D,by rw[<-hH3]at *;exact w0⟩
  rintro n s6 ⟨i,zs,H6,ys,hzs,I6,st6,fr6,hD6,w6⟩
  rcases turn i n H6 ys w6 hD6 with⟨stop,qn⟩ | ⟨go,step⟩
  ·refine thn (T.done (xA X NB FR scope cl s3 H3 fp) rfl rfl rfl hc i [] s6 _ H6 _ I6 (stat fr6) st6 stop) λr s7 ⟨hr,I7⟩=>?_
   subst hr
   exact fin I7 qn
  ·refine thn (T.item (xA X NB FR scope cl s3 H3 fp) rfl rfl rfl hc i [] s6 _ H6 _ I6 (stat fr6) st6 go) λr s7 ⟨u,hr,h7⟩=>?_
   subst hr
   refine thn h7 λ_ s8 ⟨x,H8,I8,r8,y8,st8,fr8⟩=>?_
   have I8':=I8.pinned (stat fr8) (T.obj _ _ st8)
   have again:∀{σ9:St}{H9:Hp}{s9:Shared}{ws:List V}{m':Nat},σ9.drop NB.length=qz σ js->Inv (xA X NB FR scope cl s3 H3 fp) ([]++Zu fp s8.heap) σ9 H9 s9->H9 D=some (.lst ws)->m'<n->W (i+1) m' H9 ws →
     ∃m,m<n/\∃i zs H' ys,zs.length=NB.length/\Inv (xA X NB FR scope cl s3 H3 fp) [] (zs++qz σ js) H' s9/\tn i s9.heap/\(∀b∈fp,H' b=none)/\H' D=some (.lst ys)/\W i m H' ys:=λ{σ9 H9 s9 ws m'} hdr I9 hz hm w9=>by
    have hl:σ9.length=(NB++FR).length:=I9.len
    rw[List.length_append]at hl
    refine⟨m',hm,i+1,σ9.take NB.length,H9,ws,by rw[List.length_take];omega,?_,T.keep _ _ _ st8 λb hb o e=>(I9.pin (b,o) (List.mem_append_right _ (List.mem_append_right _ (qK hb e)))).1,λb hb=>?_,hz,w9⟩
    ·rw[<-hdr,List.take_append_drop];exact I9.unpinned
    ·obtain⟨o,e,d⟩:=T.obj _ _ st8 b hb
     exact(I9.pin (b,o) (List.mem_append_right _ (List.mem_append_right _ (qK hb e)))).2.1
   refine thn (hg _ s8 _ H8 x u _ I8' r8 (step zs x H8 hzs y8)) λ_ s9 ⟨σ9,H9,I9,hdr,q9⟩=>?_
   refine thn (ht _ s9 σ9 H9 _ I9 q9) λok s10 ⟨H10,I10,q10⟩=>?_
   cases ok with
   | false =>
    rw[if_neg (by decide)]at q10 ⊢
    obtain⟨hz,m',hm,w'⟩:=q10
    exact again hdr I10 hz hm w'
   | true =>
    rw[if_pos rfl]at q10 ⊢
    refine thn (he _ s10 σ9 H10 _ I10 q10) λy s11 ⟨v,H11,I11,r11,hz,hlen,m',hm,w'⟩=>?_
    refine thn (xl _ s11 σ9 H11 (.ref D) [v] (.ref D) [y] (λ_ H12=>H12=upd H11 D (.lst (ys++[v]))) I11 rfl (.cons r11 .nil) ⟨D,ys,v,rfl,rfl,hz,hlen,rfl⟩) λ_ s12 ⟨_,H12,I12,_,e12⟩=>?_
    subst e12
    exact again hdr I12 zg hm w'
 exact codeAny_compStart_list (loop _ rfl) (T.self X.A 0 _ _ _ st4 (loop _ rfl))
section
variable {X:Cx}{elt tg iter:Expr}{ifs:List Expr}{scope:Scope}{cl:List (Str×Addr)}{pos spos py:Pos}{NB FR:List Str}{js:List Nat}{wi:TI}{g:TG}{tt:TT}{te:TE}
theorem xK (hc:X.calm=true) (hclos:closureFor scope X.env=pure cl) (hcl:∀x c,cl.lookup x=some c->X.env.cells.lookup x=some c) (hcap:jL X scope cl FR js)
  (hnm:(relabel scope X.env).names.all (λy=>!(y.2 == .cell || y.2 == .free) || FR.contains y.1)=true) (hcell:∀x∈scope.names,x.2≠.cell) (hkind:scope.kind = .function) (hnames:∀x∈scope.names,x.2 = .local → scope.names.lookup x.1=some .local)
  (hi:PI X tg iter wi) (hb:∀s3 H3 fp,PG (xA X NB FR scope cl s3 H3 fp) tg g/\PTs (xA X NB FR scope cl s3 H3 fp) ifs tt/\PE (xA X NB FR scope cl s3 H3 fp) elt te)
  (hs:∀x,foldedSetIterable iter X.env x=pure x:=by intro _;rfl) :
  PE X (.ListComp elt [⟨tg,iter,ifs,0⟩] scope pos) (Qt NB.length js wi g tt te):=by
 intro pins s σ H Q I h
 rw[eval_ListComp]
 refine wpAny_comprehension_free (use:=none) rfl hs hclos hkind hnames (XG (RR:=λacc C=>compPost (model X.prog X.w) X.A X.xe none (EP X pins σ Q) acc C) hc hcl hcap hnm hcell hkind hi hb I h ?_)
 intro D C H' s' I' ⟨f0,f1,f2,f3,f4,f5⟩ ⟨m,hm⟩ q
 exact⟨m,hm,λh' sb=>⟨.ref D,H',I'.turned (t':=s'.toks) (λb o hb e=>(sb.2 b hb).trans e) f0 f1 f3 f4 f5,rfl,q⟩⟩
theorem vG {i:Nat}{y:Str}(hc:X.calm=true) (hclos:closureFor scope X.env=pure cl) (hcl:∀x c,cl.lookup x=some c->X.env.cells.lookup x=some c) (hcap:jL X scope cl FR js)
  (hnm:(relabel scope X.env).names.all (λy=>!(y.2 == .cell || y.2 == .free) || FR.contains y.1)=true) (hcell:∀x∈scope.names,x.2≠.cell) (hkind:scope.kind = .function) (hnames:∀x∈scope.names,x.2 = .local → scope.names.lookup x.1=some .local)
  (hN:X.N.Nodup) (hiN:X.N[i]? = some y) (hy:X.env.kindOf y=some .local) (hsw:swapsWith (.ListComp elt [⟨tg,iter,ifs,0⟩] scope pos) (some (.Name y py)) spos.line X.env=pure true)
  (hi:PI X tg iter wi) (hb:∀s3 H3 fp,PG (xA X NB FR scope cl s3 H3 fp) tg g/\PTs (xA X NB FR scope cl s3 H3 fp) ifs tt/\PE (xA X NB FR scope cl s3 H3 fp) elt te)
  (hs:∀x,foldedSetIterable iter X.env x=pure x:=by intro _;rfl) :
  PS X (.Assign [.Name y py] (.ListComp elt [⟨tg,iter,ifs,0⟩] scope pos) spos) (VI (Qt NB.length js wi g tt te) (zn i)):=by
 intro pins s σ H D I h
 rw[exec_Assign_Name_used _ _ _ _ hsw]
 refine wpAny_bind (wpAny_standAt (wpAny_bind ?_))
 show wpAny _ _ (do let _ <-comprehension (.ListComp elt [⟨tg,iter,ifs,0⟩] scope pos) scope X.env _ (newList []) false (eval iter X.env) (some (assign (.Name y py) X.env))) _ _ s
 refine wpAny_bind (wpAny_mono (wpAny_comprehension_free (use:=some (assign (.Name y py) X.env)) (Q:=λ_ s'=>SP X pins D .next s') rfl hs hclos hkind hnames
  (XG (RR:=λacc C=>compPost (model X.prog X.w) X.A X.xe (some (assign (.Name y py) X.env)) (λ_ s'=>SP X pins D .next s') acc C) hc hcl hcap hnm hcell hkind hi hb I h ?_)) (λ_ s' hq=>wpAny_pure (wpAny_pure hq)) λ_ _ e=>e)
 intro DD C H' s' I' ⟨f0,f1,f2,f3,f4,f5⟩ ⟨m,hm⟩ q
 show wpAny _ _ (assign (.Name y py) X.env (.ref DD)) _ _ s'
 refine wpAny_assign_Name (XT (v:=.ref DD) I' hN hiN (.inl hy) rfl (λs'' I'' ⟨a,sa,ha⟩=>?_) (.inr hy))
 have hCa:C≠a:=by
  rcases ha with rfl | ha
  ·exact f1
  ·exact λz=>f4 y a ha z.symm
 exact⟨m,hm.sameBut sa hCa,λh' sb=>⟨_,H',I''.turned (t':=s''.toks) (λb o hb e=>(sb.2 b hb).trans e) f0 f1 f3 f4 f5,q⟩⟩
end
end L2
set_option Elab.async false
set_option linter.all false
set_option maxRecDepth 100000
namespace L2
open PySem PySem.Spec PyProof.Rows
section
variable {prog:Program}{w:World}{A:Around}{E:Value->Shared->Prop}{s:Shared}
theorem zbL {j t:Addr}{i:Nat}{vs:Array Value}{x:Value}{Q:Value->Shared->Prop}(kj:s.heap.IsTupleIter j t i) (kt:s.heap.IsTuple t vs) (kx:vs[i]? = some x)
  (q:∀h',h'.IsTupleIter j t (i+1)->Heap.SameBut j s.heap h'->Q x { s with heap:=h' }):wpAny (model prog w) A (Builtin.SmallTypes.nextOf (.ref j)) Q E s:=by
 obtain⟨oj,e1,e2,e3⟩:=id kj
 obtain⟨ot,f1,_,nt,f3⟩:=kt
 unfold Builtin.SmallTypes.nextOf
 refine wpAny_bind (wpAny_callSpecial?_slot (name:=Str.ofString "__next__") kj.typeIs F.slot_tuple_iterator_next (wpAny_call_entry F.slot_tuple_iterator_next kj.typeIs F.entry_tuple_iterator_next ?_ (F.args_tuple_iterator_next_1 _)))
 show wpAny _ _ (field (.ref j) 0 >>= _) _ _ s
 refine wpAny_bind (wpAny_field e1 e3 (x:=.ref t) rfl ?_)
 show wpAny _ _ (if(Value.ref t == .none)=true then _ else _) _ _ s
 rw[if_neg (show ¬((Value.ref t == .none)=true)from Bool.false_ne_true)]
 show wpAny _ _ (field (.ref j) 1 >>= _) _ _ s
 refine wpAny_bind (wpAny_field e1 e3 (x:=.int i 0) rfl (?_:wpAny _ _ (seqItems? (.ref t) >>= _) _ _ s))
 refine wpAny_bind (wpAny_seqItems f1 f3 ?_)
 simp only[Int.toNat_natCast,kx]
 refine wpAny_bind (wpAny_setField e1 e3 (by simp) (wpAny_pure ⟨x,rfl,wpAny_pure (q _ ⟨_,Heap.get?_update_self _ e1 (Obj.isFreed_of_fields (Obj.data_mapFields e3 _)),(Obj.cls_mapFields ..).trans e2,?_⟩ (Heap.SameBut.update ..))⟩))
 rw[Obj.data_mapFields e3];simp[rawInt]
theorem zdd {j t:Addr}{i:Nat}{vs:Array Value}{Q:Value->Shared->Prop}(hh:A.handled=none) (kj:s.heap.IsTupleIter j t i) (kt:s.heap.IsTuple t vs) (kx:vs[i]? = none)
  (q:∀h' e,Heap.ExtBut j s.heap h'->(∃o,h'.get? e=some o/\o.cls = .type "StopIteration")->E (.ref e) { s with heap:=h' }):wpAny (model prog w) A (Builtin.SmallTypes.nextOf (.ref j)) Q E s:=by
 obtain⟨oj,e1,e2,e3⟩:=id kj
 obtain⟨ot,f1,_,nt,f3⟩:=kt
 unfold Builtin.SmallTypes.nextOf
 refine wpAny_bind (wpAny_callSpecial?_slot (name:=Str.ofString "__next__") kj.typeIs F.slot_tuple_iterator_next (wpAny_call_entry F.slot_tuple_iterator_next kj.typeIs F.entry_tuple_iterator_next ?_ (F.args_tuple_iterator_next_1 _)))
 show wpAny _ _ (field (.ref j) 0 >>= _) _ _ s
 refine wpAny_bind (wpAny_field e1 e3 (x:=.ref t) rfl ?_)
 show wpAny _ _ (if(Value.ref t == .none)=true then _ else _) _ _ s
 rw[if_neg (show ¬((Value.ref t == .none)=true)from Bool.false_ne_true)]
 show wpAny _ _ (field (.ref j) 1 >>= _) _ _ s
 refine wpAny_bind (wpAny_field e1 e3 (x:=.int i 0) rfl (?_:wpAny _ _ (seqItems? (.ref t) >>= _) _ _ s))
 refine wpAny_bind (wpAny_seqItems f1 f3 ?_)
 simp only[Int.toNat_natCast,kx]
 refine wpAny_bind (wpAny_rule (wpAny_bind (wpAny_setField e1 e3 (by simp) (?_:wpAny _ _ (newExc (.type "StopIteration") [] >>= _) _ _ _))))
 refine wpAny_bind ?_
 simp only[newExc,newTuple]
 refine wpAny_bind (wpAny_newObj_type (wpAny_bind (m:=firstArgMember _ _) (wpAny_of_eq (a:=Value.none) (by first | rfl | (simp only[firstArgMember];rfl)) (wpAny_newObj_type ?_ (by size_fits)))) (by size_fits))
 simp only[raiseNew]
 refine wpAny_bind (wpAny_handled (?_))
 first | rw[show A.in1.handled=none from hh] | rw[hh]
 exact wpAny_bind (wpAny_pure (wpAny_throw (q _ _ (((Heap.SameBut.update ..).extBut.push _).push _) ⟨_,Heap.get?_push_size _ rfl,rfl⟩)))
section
variable {z TI TO j1 j2 t1 t2:Addr}{i:Nat}{xs ys:Array Value}
theorem zbg {h:Heap}{f0:Value}{vs:Array Value}{t:Addr}(ht:h.IsTuple t vs) (hz:IsZip h z TI TO f0):t≠z:=λe=>by
 obtain⟨o,e1,e2,_⟩:=ht
 rw[e,hz]at e1;cases e1;simp at e2
end
end
end L2
set_option Elab.async false
set_option linter.all false
set_option maxRecDepth 100000
namespace L2
open PySem PySem.Spec PyProof.Rows
section
variable {X:Cx}
theorem nne {a b:Nat}(h:a<b):a≠b:=Nat.ne_of_lt h
theorem X0:∀{bs:List Bool}{us:List Value}{i:Nat}{v:Value},zK (bs.map V.bl) us->us[i]? = some v->∃b,bs[i]? = some b/\v = .bool b
 | [],_,_,_,r,e=>by cases r;simp at e
 | b::bs,_,i,v,r,e=>by
  cases r with
  | cons h t =>
   cases i with
   | zero=>simp at e;subst e;exact⟨b,rfl,h⟩
   | succ i=>obtain⟨c,e1,e2⟩:=X0 (i:=i) t (by simpa using e);exact⟨c,by simpa using e1,e2⟩
theorem Xz:∀(bs:List Bool) (k:Nat),((List.range' k bs.length).all λi=>(bs[i - k]?).getD true)=bs.all id
 | [],k=>rfl
 | b::bs,k=>by
  rw[List.length_cons,List.range'_succ,List.all_cons,List.all_cons]
  simp only[Nat.sub_self,List.getElem?_cons_zero,Option.getD_some,id]
  congr 1
  rw[<-Xz bs (k+1)]
  apply Bool.eq_iff_iff.mpr
  simp only[List.all_eq_true,List.mem_range'_1]
  constructor
  ·intro h i hi
   have:=h i hi
   rw[show i - k=(i - (k+1))+1 by omega,List.getElem?_cons_succ]at this;exact this
  ·intro h i hi
   rw[show i - k=(i - (k+1))+1 by omega,List.getElem?_cons_succ];exact h i hi
theorem jO (hc:X.calm=true):va X (.builtin "all") (λxs H Q=>∃(p:Addr) (bs:List Bool),xs=[.ref p]/\SqL X.K H p (bs.map V.bl)/\Q (.bl (bs.all id)) H):=by
 intro pins s σ H xs us Q I r h
 obtain⟨p,bs,rfl,hq,q⟩:=h
 obtain⟨u,rfl,ru⟩:=vW r
 cases ru
 obtain⟨its,rv,pl,_⟩:=I.list hq
 have hlt:p<s.heap.objs.size:=by obtain⟨o,n,e,_⟩:=pl;exact Heap.lt_size e
 have hl:=rv.length
 rw[List.length_map]at hl
 refine call_all_walk (wpAny_pyIter_list pl.isList ⟨s.heap.objs.size,_,_,_,_,_,λi=>(bs[i]?).getD true,rfl,Walks.list (A:=X.A.in1) (show X.A.in1.handled=none from I.ok.hd hc) s.heap.objs.size p (Nat.ne_of_lt hlt) its.toArray,
  ⟨⟨_,Heap.get?_push_size _ rfl,rfl,rfl⟩,pl.isList.push _⟩,λi v s' Q' E' hv hQ'=>?_,λh' tk k=>⟨.bl (bs.all id),H,I.kept λb o e=>k b o (by simpa using Nat.ne_of_lt (Heap.lt_size e)) (Heap.get?_push_of_some _ e),?_,q⟩⟩)
 ·obtain⟨b,e1,rfl⟩:=X0 rv (by simpa using hv)
  simp only[e1,Option.getD_some]at hQ'
  exact wpAny_pure hQ'
 ·have:=Xz bs 0
  simp only[Nat.sub_zero]at this
  rw[show its.toArray.size=bs.length by simp[hl],List.range_eq_range',this];rfl
def J5 (K:PySem.W.Frag) (a:Addr) (i j:Int):Prop:=∃o t u n,K.lookup a=some o/\o.cls = .type "tuple"/\o.data = .seq #[.int i t,.int j u] n
def zbY (K:PySem.W.Frag):R2:=λx y H Q=>∃d a i j,RdD H x d/\y = .ref a/\J5 K a i j/\SeqAt.shaped d=true/\Q (.bl (PyData.eqv d (.tuple [.int i,.int j]))) H
theorem zdy (hu:X.A.units+64<cLine):OpR X (compareOp .Eq) (zbY X.K):=by
 intro pins s σ H x y v u Q I rx ry h
 obtain⟨d,a,i,j,hd,rfl,⟨o,t1,t2,n,hk,h1,h2⟩,s1,q⟩:=h
 obtain⟨as,r1⟩:=hd.reads I rx
 cases(show u=Value.ref a from ry)
 have r2:Reads s.heap (.ref a) (.tuple [.int i,.int j]) _:=.tuple (I.kIn _ _ hk) h1 h2 (.cons (.int i t1) (.cons (.int j t2) .nil))
 exact eq_dataH r1 r2 s1 rfl hu ⟨.bl _,H,I,rfl,q⟩
end
end L2
set_option Elab.async false
set_option linter.all false
set_option maxRecDepth 100000
namespace HT
open PySem PyProof.Rows
end HT
namespace L2
open PySem PySem.Spec PyProof.Rows
end L2
set_option Elab.async false
set_option linter.all false
set_option maxRecDepth 100000
namespace L2
open PySem PySem.Spec PyProof.Rows
section
variable {J:It}{D:Addr}{N n:Nat}{js:List Nat}{σ:St}{g:TG}{tt:TT}{te:TE}{Q:VK}{H:Hp}
theorem ZN (Pv:Nat->Hp->List V->Prop) (h0:Pv 0 (upd H D (.lst [])) []) (hgo:∀i H ys,i<N->Pv i H ys->J.go i H) (hst:∀H ys,Pv N H ys->J.stop N H)
  (hs:∀i x zs H2 H3 ys (Nx:Hp->List V->Prop),(∀H ys,Pv (i+1) H ys->Nx H ys)->i<N->zs.length=n->J.yld i H2 x H3->Pv i H2 ys->H2 D=some (.lst ys)->g x zs H3 λσ4 H4=>tt σ4 H4 λb H5 =>
   if b=true then te σ4 H5 (λv H6=>H6 D=some (.lst ys)/\ys.length<sizeLine/\Nx (upd H6 D (.lst (ys++[v]))) (ys++[v]))else H5 D=some (.lst ys)/\Nx H5 ys)
  (hd:∀H ys,Pv N H ys->H D=some (.lst ys)->Q (.ref D) H) :
  ∃W:Nat->Nat->Hp->List V->Prop,(∃m,W 0 m (upd H D (.lst [])) [])/\∀i m H2 ys,W i m H2 ys->H2 D=some (.lst ys)->(J.stop i H2/\Q (.ref D) H2) ∨
   (J.go i H2/\∀σB x H3,σB.length=n->J.yld i H2 x H3->g x σB H3 λσ4 H4=>tt σ4 H4 λb H5=>if b=true then te σ4 H5 (λv H6=>H6 D=some (.lst ys)/\ys.length<sizeLine/\∃m',m'<m/\W (i+1) m' (upd H6 D (.lst (ys++[v]))) (ys++[v]))
    else H5 D=some (.lst ys)/\∃m',m'<m/\W (i+1) m' H5 ys):=by
 refine⟨λi m H ys=>m=N - i/\i<=N/\Pv i H ys,⟨N,by simp,Nat.zero_le _,h0⟩,?_⟩
 rintro i m H2 ys ⟨rfl,hi,p⟩ hD
 by_cases hlt:i<N
 ·exact .inr ⟨hgo i H2 ys hlt p,λσB x H3 hB y=>hs i x σB H2 H3 ys (λH' ys'=>∃m',m'<N - i/\(m'=N - (i+1)/\i+1<=N/\Pv (i+1) H' ys')) (λH' ys' z=>⟨N - (i+1),by omega,rfl,hlt,z⟩) hlt hB y p hD⟩
 ·obtain rfl:i=N:=by omega
  exact .inl ⟨hst H2 ys p,hd H2 ys p hD⟩
theorem jQ (Pv:Nat->Hp->List V->Prop) (h0:Pv 0 (upd H D (.lst [])) []) (hgo:∀i H ys,i<N->Pv i H ys->J.go i H) (hst:∀H ys,Pv N H ys->J.stop N H)
  (hs:∀i x zs H2 H3 ys (Nx:Hp->List V->Prop),(∀H ys,Pv (i+1) H ys->Nx H ys)->i<N->zs.length=n->J.yld i H2 x H3->Pv i H2 ys->H2 D=some (.lst ys)->g x (zs++qz σ js) H3 λσ4 H4=>σ4.drop n=qz σ js/\tt σ4 H4 λb H5 =>
   if b=true then te σ4 H5 (λv H6=>H6 D=some (.lst ys)/\ys.length<sizeLine/\Nx (upd H6 D (.lst (ys++[v]))) (ys++[v]))else H5 D=some (.lst ys)/\Nx H5 ys)
  (hd:∀H ys,Pv N H ys->H D=some (.lst ys)->Q (.ref D) H) :
  ∃W:Nat->Nat->Hp->List V->Prop,(∃m,W 0 m (upd H D (.lst [])) [])/\∀i m H2 ys,W i m H2 ys->H2 D=some (.lst ys)->(J.stop i H2/\Q (.ref D) H2) ∨
   (J.go i H2/\∀zs x H3,zs.length=n->J.yld i H2 x H3->g x (zs++qz σ js) H3 λσ4 H4=>σ4.drop n=qz σ js/\tt σ4 H4 λb H5=>if b=true then te σ4 H5 (λv H6=>H6 D=some (.lst ys)/\ys.length<sizeLine/\∃m',m'<m/\W (i+1) m' (upd H6 D (.lst (ys++[v]))) (ys++[v]))
    else H5 D=some (.lst ys)/\∃m',m'<m/\W (i+1) m' H5 ys):=by
 refine⟨λi m H ys=>m=N - i/\i<=N/\Pv i H ys,⟨N,by simp,Nat.zero_le _,h0⟩,?_⟩
 rintro i m H2 ys ⟨rfl,hi,p⟩ hD
 by_cases hlt:i<N
 ·exact .inr ⟨hgo i H2 ys hlt p,λσB x H3 hB y=>hs i x σB H2 H3 ys (λH' ys'=>∃m',m'<N - i/\(m'=N - (i+1)/\i+1<=N/\Pv (i+1) H' ys')) (λH' ys' z=>⟨N - (i+1),by omega,rfl,hlt,z⟩) hlt hB y p hD⟩
 ·obtain rfl:i=N:=by omega
  exact .inl ⟨hst H2 ys p,hd H2 ys p hD⟩
end
theorem Qk {H H2 H3:Hp}{D:Addr}{o:HO}(hD:H D=none) (e:zi H H2) (e2:zi H2 H3):zi H (upd H3 D o):=λb u z=>by rw[zB (zJ z hD)];exact e2 _ _ (e _ _ z)
end L2
set_option Elab.async false
set_option linter.all false
set_option maxRecDepth 100000
namespace L2
open PySem PySem.Spec PyProof.Rows
end L2
set_option Elab.async false
set_option linter.all false
set_option maxRecDepth 100000
namespace L2
open PySem PySem.Spec PyProof.Rows
def rD (x:Rat):PyData:=.tuple [.int x.num,.int (x.den:Int)]
theorem Zw {H:Hp}{p:Addr}{x:Rat}(h:zI H p x):RdD H (.ref p) (rD x):=h.rd
end L2
set_option Elab.async false
set_option linter.all false
set_option maxRecDepth 100000
namespace L2
open PySem PySem.Spec PyProof.Rows
theorem szl {n:Nat}(h:n<=1000):n<=sizeLine:=Nat.le_of_lt (xy h)
theorem zdW {te:TE}{i:Nat}{u:TS}{D:je}{σ:St}{H:Hp}(h:te σ H λv H1=>u D (σ.set i (some v)) H1):VJ (VI te (zn i)) u D σ H:=h
end L2
set_option Elab.async false
set_option linter.all false
set_option maxRecDepth 100000
namespace L2
open PySem PySem.Spec PyProof.Rows
inductive Bx (p:Prop):Prop
 | mk (h:p):Bx p
section
variable {X:Cx}
theorem jh:Bx (PA X [] ju):=⟨ze⟩
theorem zC {e:Expr}{es:List Expr}{te:TE}{t:TA}(ha:Bx (PE X e te)) (hr:Bx (PA X es t)) (hs:starEach (e::es) X.env=(false,eval e X.env)::starEach es X.env:=by rfl):Bx (PA X (e::es) (x6 te t)):=by
 obtain⟨ha⟩:=ha;obtain⟨hr⟩:=hr;exact⟨za ha hr hs⟩
theorem jg {es:List Expr}{t:TA}{pos:Pos}(h:Bx (PA X es t)):Bx (PE X (.List es pos) (ze9 t)):=by
 obtain⟨h⟩:=h;exact⟨qp h⟩
theorem Ve {i:Nat}{x:Str}{e:Expr}{te:TE}{pos pos':Pos}(hN:X.N.Nodup) (hi:X.N[i]? = some x) (hx:Loc X.env.scope x) (he:Bx (PE X e te)) (hs:swapsWith e (some (.Name x pos')) pos.line X.env=pure false:=by rfl)
  (hf:X.fn x=true\/X.env.scope.names.lookup x=some .local := by first | exact .inl rfl | exact .inr rfl | assumption):Bx (PS X (.Assign [.Name x pos'] e pos) (VI te (zn i))):=by
 obtain⟨he⟩:=he;exact⟨zA hN hi hx he hs hf⟩
theorem z9 {st:Stmt}{rest:List Stmt}{t u:TS}(h1:Bx (PS X st t)) (h2:Bx (PSs X rest u)):Bx (PSs X (st::rest) (VJ t u)):=by
 obtain⟨h1⟩:=h1;obtain⟨h2⟩:=h2;exact⟨zf h1 h2⟩
end
section
variable {P:Program}{w:World}{K:PySem.W.Frag}{mg:Str->Option Value}{base:Heap}
theorem Df.calB {x:Str}{st:Stmt}{N ps:List Str}{dvs:List V}{k:Nat}{sp:Sp}(D:Df K mg x st ps dvs) (S:zx N ps (zh st)) (len:∀vs H Q E,sp vs H Q E->vs.length=ps.length)
  (hbody:∀(f:Addr) (cdv:Value) (A:Around) (outer:List Env) (s:Shared) (H:Hp) (vs:List V) (Q:VK) (E:XK),xj k (A.deeper (envOfC x (zh st) s.heap.objs.size f cdv))->sp vs H Q E →
   ∃t,Bx (PSs (QC CX0 P w K mg base N x (zh st) f cdv A outer s H E).nox (zq st) t)/\t { nx:=λ_ H'=>Q .non H',rt:=Q } (jB N vs) H):Cal P w K mg base x (k+1) ps dvs sp :=
 D.cal S len λf cdv A outer s H vs Q E hr h=>by
  obtain⟨t,⟨p⟩,q⟩:=hbody f cdv A outer s H vs Q E hr h
  exact⟨t,p,q⟩
end
end L2
set_option Elab.async false
set_option linter.all false
set_option maxRecDepth 100000
namespace L2
open PySem PySem.Spec PyProof.Rows
end L2
set_option Elab.async false
set_option linter.all false
set_option maxRecDepth 100000
namespace L2
open PySem PySem.Spec PyProof.Rows PySem.W
end L2
set_option Elab.async false
set_option linter.all false
set_option maxRecDepth 100000
namespace L2
open PySem PySem.Spec PyProof.Rows
def xo (H H':Hp):Prop:=∀b xs,H b=some (.tup xs)->H' b=some (.tup xs)
theorem xo.of {H H':Hp}(h:zi H H'):xo H H':=λb xs e=>h b _ e
theorem xo.trans {H H1 H2:Hp}(a:xo H H1) (b:xo H1 H2):xo H H2:=λc xs e=>b c xs (a c xs e)
theorem xo.upd {H:Hp}{D:Addr}{ys:List V}{o:HO}(h:H D=some (.lst ys)):xo H (upd H D o):=λb xs e=>by rw[zB (λz=>by subst z;rw[h]at e;cases e)];exact e
structure Vb (J:It) (H:Hp) (xs:List V):Prop where
 go:∀i H',i<xs.length->zi H H'->J.go i H'
 stop:∀H',zi H H'->J.stop xs.length H'
 yld:∀i x H2 H3,zi H H2->J.yld i H2 x H3->H3=H2/\xs[i]? = some x
theorem zT {K:PySem.W.Frag}{H:Hp}{a:Addr}{xs:List V}(h:H a=some (.lst xs)):Vb (Itl K a) H xs :=
 ⟨λi H' hi s=>⟨xs,xs[i],.of (s _ _ h),by simp[hi]⟩,λH' s=>⟨xs,.of (s _ _ h),Nat.le_refl _⟩,λi x H2 H3 s y=>⟨y.1,y.2 xs (.of (s _ _ h))⟩⟩
theorem jt {K:PySem.W.Frag}{H:Hp}{a:Addr}{xs:List V}(h:H a=some (.tup xs)):Vb (Itt K a) H xs :=
 ⟨λi H' hi s=>⟨xs,xs[i],.of (s _ _ h),by simp[hi]⟩,λH' s=>⟨xs,.of (s _ _ h),Nat.le_refl _⟩,λi x H2 H3 s y=>⟨y.1,y.2 xs (.of (s _ _ h))⟩⟩
section
variable {J:It}{D:Addr}{n:Nat}{js:List Nat}{σ:St}{g:TG}{te:TE}{Z:Hp->Prop}{H:Hp}{xs:List V}
theorem qt (R:Nat->V->Hp->Prop) (hR:∀i v H H',xo H H'->R i v H->R i v H') (hD:H D=none) (hJ:Vb J H xs) (hl:xs.length<sizeLine)
  (hs:∀i x zs H2 Q',xs[i]? = some x->zs.length=n->zi H H2->(∀v H6,zi H2 H6->R i v H6->Q' v H6)->g x zs H2 λσ4 H4=>te σ4 H4 Q')
  (k:∀ys H',zi H H'->H' D=some (.lst ys)->ys.length=xs.length->(∀i v,ys[i]? = some v->R i v H')->Z H') :
  ∃W:Nat->Nat->Hp->List V->Prop,(∃m,W 0 m (upd H D (.lst [])) [])/\∀i m H2 ys,W i m H2 ys->H2 D=some (.lst ys)->(J.stop i H2/\Z H2) ∨
   (J.go i H2/\∀σB x H3,σB.length=n->J.yld i H2 x H3->g x σB H3 λσ4 H4=>(λ_ H Q=>Q true H:TT) σ4 H4 λb H5=>if b=true then te σ4 H5 (λv H6=>H6 D=some (.lst ys)/\ys.length<sizeLine/\∃m',m'<m/\W (i+1) m' (upd H6 D (.lst (ys++[v]))) (ys++[v]))
    else H5 D=some (.lst ys)/\∃m',m'<m/\W (i+1) m' H5 ys):=by
 refine ZN (Q:=λ_ H=>Z H) (tt:=λ_ H Q=>Q true H) (N:=xs.length) (λi H2 ys=>zi H H2/\ys.length=i/\∀j v,ys[j]? = some v->R j v H2) ⟨zi.upd hD,rfl,λj v e=>by simp at e⟩ (λi H2 ys hi p=>hJ.go i H2 hi p.1) (λH2 ys p=>hJ.stop H2 p.1) ?_ (λH2 ys p e=>k ys H2 p.1 e p.2.1 p.2.2)
 rintro i x zs H2 H3 ys Nx hN hi hz hy ⟨s2,hyl,hyR⟩ hD2
 obtain⟨rfl,hx⟩:=hJ.yld i x H2 H3 s2 hy
 refine hs i x zs H3 _ hx hz s2 λv H6 s6 r6=>⟨s6 _ _ hD2,by omega,hN _ _ ⟨λc o e=>?_,by simp[hyl],λj u e=>?_⟩⟩
 ·rw[zB (zJ e hD)];exact s6 _ _ (s2 _ _ e)
 ·have T6:xo H6 (upd H6 D (.lst (ys++[v]))):=.upd (s6 _ _ hD2)
  by_cases hj:j<ys.length
  ·rw[List.getElem?_append_left hj]at e
   exact hR _ _ _ _ ((xo.of s6).trans T6) (hyR j u e)
  ·rw[List.getElem?_append_right (by omega)]at e
   have:j - ys.length=0:=by
    rcases Nat.eq_zero_or_pos (j - ys.length)with z | z
    ·exact z
    ·rw[List.getElem?_eq_none (by simp;omega)]at e;cases e
   rw[this]at e
   simp at e
   subst e
   rw[show j=i by omega]
   exact hR _ _ _ _ T6 r6
theorem zW (R:Nat->V->Hp->Prop) (hR:∀i v H H',xo H H'->R i v H->R i v H') (hD:H D=none) (hJ:Vb J H xs) (hl:xs.length<sizeLine)
  (hs:∀i x zs H2 Q',xs[i]? = some x->zs.length=n->zi H H2->(∀v H6,zi H2 H6->R i v H6->Q' v H6)->g x (zs++qz σ js) H2 λσ4 H4=>σ4.drop n=qz σ js/\te σ4 H4 Q')
  (k:∀ys H',zi H H'->H' D=some (.lst ys)->ys.length=xs.length->(∀i v,ys[i]? = some v->R i v H')->Z H') :
  ∃W:Nat->Nat->Hp->List V->Prop,(∃m,W 0 m (upd H D (.lst [])) [])/\∀i m H2 ys,W i m H2 ys->H2 D=some (.lst ys)->(J.stop i H2/\Z H2) ∨
   (J.go i H2/\∀zs x H3,zs.length=n->J.yld i H2 x H3->g x (zs++qz σ js) H3 λσ4 H4=>σ4.drop n=qz σ js/\(λ_ H Q=>Q true H:TT) σ4 H4 λb H5=>if b=true then te σ4 H5 (λv H6=>H6 D=some (.lst ys)/\ys.length<sizeLine/\∃m',m'<m/\W (i+1) m' (upd H6 D (.lst (ys++[v]))) (ys++[v]))
    else H5 D=some (.lst ys)/\∃m',m'<m/\W (i+1) m' H5 ys):=by
 refine jQ (Q:=λ_ H=>Z H) (tt:=λ_ H Q=>Q true H) (N:=xs.length) (λi H2 ys=>zi H H2/\ys.length=i/\∀j v,ys[j]? = some v->R j v H2) ⟨zi.upd hD,rfl,λj v e=>by simp at e⟩ (λi H2 ys hi p=>hJ.go i H2 hi p.1) (λH2 ys p=>hJ.stop H2 p.1) ?_ (λH2 ys p e=>k ys H2 p.1 e p.2.1 p.2.2)
 rintro i x zs H2 H3 ys Nx hN hi hz hy ⟨s2,hyl,hyR⟩ hD2
 obtain⟨rfl,hx⟩:=hJ.yld i x H2 H3 s2 hy
 refine hs i x zs H3 _ hx hz s2 λv H6 s6 r6=>⟨s6 _ _ hD2,by omega,hN _ _ ⟨λc o e=>?_,by simp[hyl],λj u e=>?_⟩⟩
 ·rw[zB (zJ e hD)];exact s6 _ _ (s2 _ _ e)
 ·have T6:xo H6 (upd H6 D (.lst (ys++[v]))):=.upd (s6 _ _ hD2)
  by_cases hj:j<ys.length
  ·rw[List.getElem?_append_left hj]at e
   exact hR _ _ _ _ ((xo.of s6).trans T6) (hyR j u e)
  ·rw[List.getElem?_append_right (by omega)]at e
   have:j - ys.length=0:=by
    rcases Nat.eq_zero_or_pos (j - ys.length)with z | z
    ·exact z
    ·rw[List.getElem?_eq_none (by simp;omega)]at e;cases e
   rw[this]at e
   simp at e
   subst e
   rw[show j=i by omega]
   exact hR _ _ _ _ T6 r6
end
end L2
namespace L2
open PySem PySem.Spec PyProof.Rows
section
variable {J:It}{D:Addr}{n:Nat}{σ:St}{g:TG}{tt:TT}{te:TE}{Z:Hp->Prop}{H:Hp}{xs:List V}
theorem zad (p:V->Bool) (hD:H D=none) (hJ:Vb J H xs) (hl:xs.length<sizeLine)
  (hs:∀(i:Nat) (x:V) (zs:St) (H2:Hp) (A:VK) (B:Hp->Prop),xs[i]? = some x->zs.length=n->zi H H2->(p x=true->A x H2)->(p x=false->B H2)->g x zs H2 λσ4 H4=>tt σ4 H4 λb H5=>if b=true then te σ4 H5 A else B H5)
  (k:∀H',zi H H'->H' D=some (.lst (xs.filter p))->Z H') :
  ∃W:Nat->Nat->Hp->List V->Prop,(∃m,W 0 m (upd H D (.lst [])) [])/\∀i m H2 ys,W i m H2 ys->H2 D=some (.lst ys)->(J.stop i H2/\Z H2) ∨
   (J.go i H2/\∀σB x H3,σB.length=n->J.yld i H2 x H3->g x σB H3 λσ4 H4=>tt σ4 H4 λb H5=>if b=true then te σ4 H5 (λv H6=>H6 D=some (.lst ys)/\ys.length<sizeLine/\∃m',m'<m/\W (i+1) m' (upd H6 D (.lst (ys++[v]))) (ys++[v]))
    else H5 D=some (.lst ys)/\∃m',m'<m/\W (i+1) m' H5 ys):=by
 refine ZN (Q:=λ_ H=>Z H) (tt:=tt) (N:=xs.length) (λi H2 ys=>zi H H2/\ys=(xs.take i).filter p) ⟨zi.upd hD,rfl⟩ (λi H2 ys hi p=>hJ.go i H2 hi p.1) (λH2 ys p=>hJ.stop H2 p.1) ?_ (λH2 ys q e=>k H2 q.1 (by rw[e,q.2,List.take_length]))
 rintro i x zs H2 H3 ys Nx hN hi hz hy ⟨s2,rfl⟩ hD2
 obtain⟨rfl,hx⟩:=hJ.yld i x H2 H3 s2 hy
 have et:xs.take (i+1)=xs.take i++[x]:=by rw[List.take_add_one,hx];rfl
 refine hs i x zs H3 _ _ hx hz s2 (λhp=>⟨hD2,?_,hN _ _ ⟨λc o e=>?_,?_⟩⟩) (λhp=>⟨hD2,hN _ _ ⟨s2,?_⟩⟩)
 ·have:=List.length_filter_le p (xs.take i)
  have:=List.length_take_le i xs
  omega
 ·rw[zB (zJ e hD)];exact s2 _ _ e
 ·rw[et,List.filter_append];simp[hp]
 ·rw[et,List.filter_append];simp[hp]
end
end L2
set_option Elab.async false
set_option linter.all false
set_option maxRecDepth 100000
namespace L2
open PySem PySem.Spec PyProof.Rows
section
variable {prog:Program}{w:World}{A:Around}{E:Value->Shared->Prop}{s:Shared}
theorem zbK {j t:Addr}{i:Nat}{vs:Array Value}{x:Value}{Q:Value->Shared->Prop}(kj:s.heap.IsListIter j t i) (kt:s.heap.IsList t vs) (kx:vs[i]? = some x)
  (q:∀h',h'.IsListIter j t (i+1)->Heap.SameBut j s.heap h'->Q x { s with heap:=h' }):wpAny (model prog w) A (Builtin.SmallTypes.nextOf (.ref j)) Q E s:=by
 obtain⟨oj,e1,e2,e3⟩:=id kj
 obtain⟨ot,f1,_,nt,f3⟩:=kt
 unfold Builtin.SmallTypes.nextOf
 refine wpAny_bind (wpAny_callSpecial?_slot (name:=Str.ofString "__next__") kj.typeIs slot_listiter_next (wpAny_call_entry slot_listiter_next kj.typeIs entry_listiter_next ?_ (args_listiter_next _)))
 show wpAny _ _ (field (.ref j) 0 >>= _) _ _ s
 refine wpAny_bind (wpAny_field e1 e3 (x:=.ref t) rfl ?_)
 show wpAny _ _ (if(Value.ref t == .none)=true then _ else _) _ _ s
 rw[if_neg (show ¬((Value.ref t == .none)=true)from Bool.false_ne_true)]
 show wpAny _ _ (field (.ref j) 1 >>= _) _ _ s
 refine wpAny_bind (wpAny_field e1 e3 (x:=.int i 0) rfl (?_:wpAny _ _ (seqItems? (.ref t) >>= _) _ _ s))
 refine wpAny_bind (wpAny_seqItems f1 f3 ?_)
 simp only[Int.toNat_natCast,kx]
 refine wpAny_bind (wpAny_setField e1 e3 (by simp) (wpAny_pure ⟨x,rfl,wpAny_pure (q _ ⟨_,Heap.get?_update_self _ e1 (Obj.isFreed_of_fields (Obj.data_mapFields e3 _)),(Obj.cls_mapFields ..).trans e2,?_⟩ (Heap.SameBut.update ..))⟩))
 rw[Obj.data_mapFields e3];simp[rawInt]
theorem zdc {j t:Addr}{i:Nat}{vs:Array Value}{Q:Value->Shared->Prop}(hh:A.handled=none) (kj:s.heap.IsListIter j t i) (kt:s.heap.IsList t vs) (kx:vs[i]? = none)
  (q:∀h' e,Heap.ExtBut j s.heap h'->(∃o,h'.get? e=some o/\o.cls = .type "StopIteration")->E (.ref e) { s with heap:=h' }):wpAny (model prog w) A (Builtin.SmallTypes.nextOf (.ref j)) Q E s:=by
 obtain⟨oj,e1,e2,e3⟩:=id kj
 obtain⟨ot,f1,_,nt,f3⟩:=kt
 unfold Builtin.SmallTypes.nextOf
 refine wpAny_bind (wpAny_callSpecial?_slot (name:=Str.ofString "__next__") kj.typeIs slot_listiter_next (wpAny_call_entry slot_listiter_next kj.typeIs entry_listiter_next ?_ (args_listiter_next _)))
 show wpAny _ _ (field (.ref j) 0 >>= _) _ _ s
 refine wpAny_bind (wpAny_field e1 e3 (x:=.ref t) rfl ?_)
 show wpAny _ _ (if(Value.ref t == .none)=true then _ else _) _ _ s
 rw[if_neg (show ¬((Value.ref t == .none)=true)from Bool.false_ne_true)]
 show wpAny _ _ (field (.ref j) 1 >>= _) _ _ s
 refine wpAny_bind (wpAny_field e1 e3 (x:=.int i 0) rfl (?_:wpAny _ _ (seqItems? (.ref t) >>= _) _ _ s))
 refine wpAny_bind (wpAny_seqItems f1 f3 ?_)
 simp only[Int.toNat_natCast,kx]
 refine wpAny_bind (wpAny_rule (wpAny_bind (wpAny_setField e1 e3 (by simp) (?_:wpAny _ _ (newExc (.type "StopIteration") [] >>= _) _ _ _))))
 refine wpAny_bind ?_
 simp only[newExc,newTuple]
 refine wpAny_bind (wpAny_newObj_type (wpAny_bind (m:=firstArgMember _ _) (wpAny_of_eq (a:=Value.none) (by first | rfl | (simp only[firstArgMember];rfl)) (wpAny_newObj_type ?_ (by size_fits)))) (by size_fits))
 simp only[raiseNew]
 refine wpAny_bind (wpAny_handled (?_))
 first | rw[show A.in1.handled=none from hh] | rw[hh]
 exact wpAny_bind (wpAny_pure (wpAny_throw (q _ _ (((Heap.SameBut.update ..).extBut.push _).push _) ⟨_,Heap.get?_push_size _ rfl,rfl⟩)))
section
variable {z TI TO j1 j2 t1 t2:Addr}{i:Nat}{xs ys:Array Value}
theorem zay {h:Heap}{f0:Value}{vs:Array Value}{t:Addr}(ht:h.IsList t vs) (hz:IsZip h z TI TO f0):t≠z:=λe=>by
 obtain⟨o,e1,e2,_⟩:=ht
 rw[e,hz]at e1;cases e1;simp at e2
end
end
end L2
set_option Elab.async false
set_option linter.all false
set_option maxRecDepth 100000
namespace L2
open PySem PySem.Spec PyProof.Rows
end L2
set_option Elab.async false
set_option linter.all false
set_option maxRecDepth 100000
namespace L2
open PySem PySem.Spec PyProof.Rows
end L2
set_option Elab.async false
set_option linter.all false
set_option maxRecDepth 100000
namespace L2
open PySem PySem.Spec PyProof.Rows
structure zcg (J:It) (H:Hp) (N:Nat) (xs ys:List V):Prop where
 go:∀i H',i<N->zi H H'->J.go i H'
 stop:∀H',zi H H'->J.stop N H'
 yld:∀i v H2 H3,zi H H2->J.yld i H2 v H3->∃T x y,v = .ref T/\H2 T=none/\H3=upd H2 T (.tup [x,y])/\xs[i]? = some x/\ys[i]? = some y
def sel (p:Nat->Bool) (N:Nat):List Nat:=(List.range N).filter p
theorem j7 (p:Nat->Bool) (N:Nat):sel p (N+1)=sel p N++(if p N=true then [N]else []):=by
 unfold sel
 rw[List.range_succ,List.filter_append]
 by_cases h:p N=true <;> simp[h]
section
variable {J:It}{D:Addr}{n N:Nat}{js:List Nat}{σ:St}{g:TG}{tt:TT}{te:TE}{Z:Hp->Prop}{H:Hp}{xs ys:List V}
theorem Jz (p:Nat->Bool) (R:Nat->V->Hp->Prop) (hR:∀i v H H',xo H H'->R i v H->R i v H') (hD:H D=none) (hJ:zcg J H N xs ys) (hl:N<sizeLine)
  (hs:∀(i:Nat) (T:Addr) (x y:V) (zs:St) (H2:Hp) (A:VK) (B:Hp->Prop),xs[i]? = some x->ys[i]? = some y->zs.length=n->zi H H2->H2 T=some (.tup [x,y])->(p i=true->∀v H6,zi H2 H6->R i v H6->A v H6)->(p i=false->∀H6,zi H2 H6->B H6) →
   g (.ref T) (zs++qz σ js) H2 λσ4 H4=>σ4.drop n=qz σ js/\tt σ4 H4 λb H5=>if b=true then te σ4 H5 A else B H5)
  (k:∀us H',zi H H'->H' D=some (.lst us)->us.length=(sel p N).length->(∀(j i:Nat) (v:V),(sel p N)[j]? = some i->us[j]? = some v->R i v H')->Z H') :
  ∃W:Nat->Nat->Hp->List V->Prop,(∃m,W 0 m (upd H D (.lst [])) [])/\∀i m H2 ys,W i m H2 ys->H2 D=some (.lst ys)->(J.stop i H2/\Z H2) ∨
   (J.go i H2/\∀zs x H3,zs.length=n->J.yld i H2 x H3->g x (zs++qz σ js) H3 λσ4 H4=>σ4.drop n=qz σ js/\tt σ4 H4 λb H5=>if b=true then te σ4 H5 (λv H6=>H6 D=some (.lst ys)/\ys.length<sizeLine/\∃m',m'<m/\W (i+1) m' (upd H6 D (.lst (ys++[v]))) (ys++[v]))
    else H5 D=some (.lst ys)/\∃m',m'<m/\W (i+1) m' H5 ys):=by
 refine jQ (Q:=λ_ H=>Z H) (N:=N) (λi H2 us=>zi H H2/\us.length=(sel p i).length/\∀(j q:Nat) (v:V),(sel p i)[j]? = some q->us[j]? = some v->R q v H2)
  ⟨zi.upd hD,rfl,λj q v e=>by simp[sel]at e⟩ (λi H2 us hi q=>hJ.go i H2 hi q.1) (λH2 us q=>hJ.stop H2 q.1) ?_ (λH2 us q e=>k us H2 q.1 e q.2.1 q.2.2)
 rintro i x zs H2 H3 us Nx hN hi hz hy ⟨s2,hul,huR⟩ hD2
 obtain⟨T,a,b,rfl,hT,rfl,e1,e2⟩:=hJ.yld i x H2 H3 s2 hy
 have hDT:D≠T:=λz=>by rw[z,hT]at hD2;cases hD2
 have s3:zi H2 (upd H2 T (.tup [a,b])):=zi.upd hT
 have hD3:upd H2 T (.tup [a,b]) D=some (.lst us):=s3 _ _ hD2
 have hsl:us.length<sizeLine:=by
  have h1:(sel p i).length<=i:=by
   have:=List.length_filter_le p (List.range i)
   rw[List.length_range]at this;exact this
  omega
 refine hs i T a b zs _ _ _ e1 e2 hz (s2.trans s3) zg (λhp v H6 s6 r6=>⟨s6 _ _ hD3,hsl,hN _ _ ⟨λc o e=>?_,?_,λj q u f1 f2=>?_⟩⟩) (λhp H6 s6=>⟨s6 _ _ hD3,hN _ _ ⟨λc o e=>s6 _ _ (s3 _ _ (s2 _ _ e)),?_,λj q u f1 f2=>?_⟩⟩)
 ·rw[zB (zJ e hD)];exact s6 _ _ (s3 _ _ (s2 _ _ e))
 ·rw[j7,if_pos hp];simp[hul]
 ·rw[j7,if_pos hp]at f1
  have T6:xo H6 (upd H6 D (.lst (us++[v]))):=.upd (s6 _ _ hD3)
  by_cases hj:j<us.length
  ·rw[List.getElem?_append_left hj]at f2
   rw[List.getElem?_append_left (by omega)]at f1
   exact hR _ _ _ _ ((xo.of (s3.trans s6)).trans T6) (huR j q u f1 f2)
  ·rw[List.getElem?_append_right (by omega)]at f2
   rw[List.getElem?_append_right (by omega)]at f1
   have:j - us.length=0:=by
    rcases Nat.eq_zero_or_pos (j - us.length)with z | z
    ·exact z
    ·rw[List.getElem?_eq_none (by simp;omega)]at f2;cases f2
   rw[this]at f2
   rw[show j - (sel p i).length=0 by omega]at f1
   simp at f1 f2
   subst f1;subst f2
   exact hR _ _ _ _ T6 r6
 ·rw[j7,if_neg (by simp[hp])];simp[hul]
 ·rw[j7,if_neg (by simp[hp])]at f1
  rw[List.append_nil]at f1
  exact hR _ _ _ _ (xo.of (s3.trans s6)) (huR j q u f1 f2)
end
end L2
section
set_option maxHeartbeats 4000000
set_option Elab.async false
set_option linter.all false
set_option maxRecDepth 100000
namespace L2
open PySem PySem.Spec PyProof.Rows
def KIt (k:Bool) (h:Heap) (j t:Addr) (i:Nat):Prop:=match k with | true=>h.IsTupleIter j t i | false=>h.IsListIter j t i
def KSq (k:Bool) (h:Heap) (t:Addr) (xs:Array Value):Prop:=match k with | true=>h.IsTuple t xs | false=>h.IsList t xs
def SqK (k:Bool) (K:PySem.W.Frag) (H:Hp) (t:Addr) (xs:List V):Prop:=match k with | true=>SqT K H t xs | false=>SqL K H t xs
def ZL (k:Bool) (t:Addr):Obj:={ cls:=.type (match k with | true=>"tuple_iterator" | false=>"list_iterator"),data:=.fields #[.ref t,.int 0 0] }
theorem KIt.at {k:Bool}{h h':Heap}{j t:Addr}{i:Nat}(x:KIt k h j t i) (e:∀o,h.get? j=some o->h'.get? j=some o):KIt k h' j t i:=by
 cases k
 ·exact Heap.IsListIter.at x e
 ·exact Heap.IsTupleIter.at x e
theorem KIt.ob {k:Bool}{h:Heap}{j t:Addr}{i:Nat}(x:KIt k h j t i):∃o,h.get? j=some o/\∀v,o.data≠.cell v:=by
 cases k
 ·obtain⟨o,e,_,d⟩:=x;exact⟨o,e,λ_ r=>by rw[d]at r;cases r⟩
 ·obtain⟨o,e,_,d⟩:=x;exact⟨o,e,λ_ r=>by rw[d]at r;cases r⟩
theorem KSq.keep {k:Bool}{h h':Heap}{t:Addr}{xs:Array Value}(x:KSq k h t xs) (e:∀o,h.get? t=some o->h'.get? t=some o):KSq k h' t xs:=by
 cases k
 ·obtain⟨o,ho,r⟩:=x;exact⟨o,e _ ho,r⟩
 ·obtain⟨o,ho,r⟩:=x;exact⟨o,e _ ho,r⟩
theorem KSq.push {k:Bool}{h:Heap}{t:Addr}{xs:Array Value}{ob:Obj}(x:KSq k h t xs):KSq k (h.push ob) t xs:=x.keep λ_ e=>Heap.get?_push_of_some _ e
theorem KSq.lt {k:Bool}{h:Heap}{t:Addr}{xs:Array Value}(x:KSq k h t xs):t<h.objs.size:=by
 cases k
 ·obtain⟨o,ho,r⟩:=x;exact Heap.lt_size ho
 ·obtain⟨o,ho,r⟩:=x;exact Heap.lt_size ho
theorem KSq.ne_z {k:Bool}{h:Heap}{f0:Value}{vs:Array Value}{t z TI TO:Addr}(x:KSq k h t vs) (hz:IsZip h z TI TO f0):t≠z:=by
 cases k
 ·exact zay x hz
 ·exact zbg x hz
theorem KSq.ne_j {k k':Bool}{h:Heap}{vs:Array Value}{t j u:Addr}{n:Nat}(x:KSq k h t vs) (hj:KIt k' h j u n):t≠j:=by
 rintro rfl
 cases k <;> cases k' <;> (obtain⟨o,e1,e2,_⟩:=x;obtain⟨o',f1,f2,_⟩:=hj;rw[f1]at e1;cases e1;rw[f2]at e2;simp at e2)
theorem Qj {h:Heap}{a:Addr}{o o':Obj}(e:a=h.objs.size) (q:o=o') (f:o.isFreed=false:=by rfl):(h.push o).get? a=some o':=by subst e;subst q;exact Heap.get?_push_size _ f
theorem V6 {k:Bool}{h:Heap}{j t:Addr}(e:h.get? j=some (ZL k t)):KIt k h j t 0:=by
 cases k
 ·exact⟨_,e,rfl,rfl⟩
 ·exact⟨_,e,rfl,rfl⟩
section
variable {prog:Program}{w:World}{A:Around}{E:Value->Shared->Prop}{s:Shared}
theorem Vo {k:Bool}{j t:Addr}{i:Nat}{vs:Array Value}{x:Value}{Q:Value->Shared->Prop}(kj:KIt k s.heap j t i) (kt:KSq k s.heap t vs) (kx:vs[i]? = some x)
  (q:∀h',KIt k h' j t (i+1)->Heap.SameBut j s.heap h'->Q x { s with heap:=h' }):wpAny (model prog w) A (Builtin.SmallTypes.nextOf (.ref j)) Q E s:=by
 cases k
 ·exact zbK kj kt kx q
 ·exact zbL kj kt kx q
theorem zcp {k:Bool}{j t:Addr}{i:Nat}{vs:Array Value}{Q:Value->Shared->Prop}(hh:A.handled=none) (kj:KIt k s.heap j t i) (kt:KSq k s.heap t vs) (kx:vs[i]? = none)
  (q:∀h' e,Heap.ExtBut j s.heap h'->(∃o,h'.get? e=some o/\o.cls = .type "StopIteration")->E (.ref e) { s with heap:=h' }):wpAny (model prog w) A (Builtin.SmallTypes.nextOf (.ref j)) Q E s:=by
 cases k
 ·exact zdc hh kj kt kx q
 ·exact zdd hh kj kt kx q
theorem zco {k:Bool}{t:Addr}{vs:Array Value}{Q:Value->Shared->Prop}(kt:KSq k s.heap t vs) (q:Q (.ref s.heap.objs.size) { s with heap:=s.heap.push (ZL k t) }):wpAny (model prog w) A (pyIter (.ref t)) Q E s:=by
 cases k
 ·exact wpAny_pyIter_list kt q
 ·exact wpAny_pyIter_tuple kt q
end
theorem ZD {k:Bool}{X:Cx}{pins:List (Addr×Obj)}{σ:St}{H:Hp}{s:Shared}{a:Addr}{xs:List V}(I:Inv X pins σ H s) (h:SqK k X.K H a xs):∃its:List Value,zK xs its/\KSq k s.heap a its.toArray:=by
 cases k
 ·obtain⟨us,r,p,_⟩:=I.list h;exact⟨us,r,p.isList⟩
 ·obtain⟨us,r,p,_⟩:=I.tuple h;exact⟨us,r,p⟩
theorem Jq {k:Bool}{X:Cx}{pins:List (Addr×Obj)}{σ:St}{H:Hp}{s:Shared}{a:Addr}{xs ys:List V}(I:Inv X pins σ H s) (h:SqK k X.K H a xs) (h':SqK k X.K H a ys):xs=ys:=by
 cases k
 ·exact I.list_inj h h'
 ·exact I.tuple_inj h h'
structure ZN2 (z TI TO j1 j2:Addr):Prop where
 z_TI:z≠TI
 z_TO:z≠TO
 z_j1:z≠j1
 z_j2:z≠j2
 TI_TO:TI≠TO
 TI_j1:TI≠j1
 TI_j2:TI≠j2
 TO_j1:TO≠j1
 TO_j2:TO≠j2
 j1_j2:j1≠j2
abbrev Ze (h:Heap) (T:Addr) (a1 a2:Value):Prop:=h.get? T=some { cls:=.type "tuple",data:=.seq #[a1,a2] }
section
variable {prog:Program}{w:World}{A:Around}{E:Value->Shared->Prop}{s:Shared}
theorem VO {T:Addr}{a1 a2 x:Value}{k:Nat}{Q:Unit->Shared->Prop}(hT:Ze s.heap T a1 a2)
  (h:∀h',h'.get? T=some { cls:=.type "tuple",data:=.seq ((#[a1,a2]:Array Value).setIfInBounds k x) }->Heap.SameBut T s.heap h'->Q () { s with heap:=h' }) :
  wpAny (model prog w) A (updateSeq T (·.setIfInBounds k x)) Q E s:=by
 refine wpAny_updateSeq hT rfl (h _ ?_ (Heap.SameBut.update ..))
 rw[Heap.get?_update_self _ hT rfl]
 simp[Obj.mapSeq]
structure ZS2 (z TI TO j1 j2 t1 t2:Addr) (k1 k2:Bool) (f0:Value) (i:Nat) (h:Heap):Prop where
 z:IsZip h z TI TO f0
 ti:Ze h TI (.ref j1) (.ref j2)
 to:∃a1 a2,Ze h TO a1 a2
 i1:KIt k1 h j1 t1 i
 i2:KIt k2 h j2 t2 i
variable {z TI TO j1 j2 t1 t2:Addr}{k1 k2:Bool}{i:Nat}{xs1 xs2:Array Value}
theorem zcd {x1 x2:Value}{Q:Option Value->Shared->Prop}(D:ZN2 z TI TO j1 j2) (Z:ZS2 z TI TO j1 j2 t1 t2 k1 k2 .none i s.heap) (q1:KSq k1 s.heap t1 xs1) (q2:KSq k2 s.heap t2 xs2) (n1:t1≠TO) (n2:t2≠TO) (ex1:xs1[i]? = some x1) (ex2:xs2[i]? = some x2)
  (q:∀h',ZS2 z TI TO j1 j2 t1 t2 k1 k2 (rawInt s.heap.objs.size) (i+1) h'->Ze h' s.heap.objs.size x1 x2->h'.objs.size=s.heap.objs.size+1 →
   (∀c o,c≠z->c≠TO->c≠j1->c≠j2->s.heap.get? c=some o->h'.get? c=some o)->Q (some (.ref s.heap.objs.size)) { s with heap:=h' }):wpAny (model prog w) A (pyNext (.ref z)) Q E s:=by
 obtain⟨Zz,Zi,⟨a1,a2,Zo⟩,Z1,Z2⟩:=Z
 have ty:s.TypeIs (.ref z) "zip":=⟨_,Zz,rfl⟩
 unfold pyNext
 refine wpAny_bind (wpAny_attempt (wpAny_callSpecial?_slot (name:=Str.ofString "__next__") ty F.slot_zip_next (wpAny_call_entry F.slot_zip_next ty F.entry_zip_next ?_ (F.args_zip_next_1 _))))
 show wpAny _ _ (field (.ref z) 2 >>= _) _ _ s
 refine wpAny_bind (wpAny_field Zz rfl (x:=.bool false) rfl (?_:wpAny _ _ (field (.ref z) 3 >>= _) _ _ s))
 refine wpAny_bind (wpAny_field Zz rfl (x:=.ref TI) rfl (wpAny_bind (wpAny_seqItems Zi rfl (?_:wpAny _ _ (Builtin.SmallTypes.ownedTupleIsFree (.ref z) >>= _) _ _ s))))
 refine wpAny_bind ?_;unfold Builtin.SmallTypes.ownedTupleIsFree
 refine wpAny_bind (wpAny_field Zz rfl (x:=.none) rfl (wpAny_pure ?_))
 simp only[if_true]
 refine wpAny_bind (wpAny_rule (wpAny_bind (wpAny_field Zz rfl (x:=.ref TO) rfl (wpAny_bind (wpAny_setField_rec Zz (by simp) λg1 Zz1 m1=>?_)))))
 replace Zz1:IsZip g1 z TI TO .ellipsis:=Zz1
 refine wpAny_bind ?_;simp only[List.zipIdx_cons,List.zipIdx_nil,List.forIn_cons,List.forIn_nil]
 refine wpAny_bind (wpAny_bind (wpAny_onRaise (?_:wpAny _ _ (Builtin.SmallTypes.nextOf (.ref j1) >>= _) _ _ _)))
 refine wpAny_bind (Vo (Z1.at λo e=>(m1.extBut _ _ D.z_j1.symm e)) (q1.keep λo e=>(m1.extBut _ _ (q1.ne_z Zz) e)) ex1 λg2 Y1 m2=>wpAny_pure ?_)
 have Zo2:Ze g2 TO a1 a2:=m2.extBut _ _ D.TO_j1 (m1.extBut _ _ D.z_TO.symm Zo)
 refine wpAny_bind (wpAny_seqItems Zo2 rfl (wpAny_bind (VO Zo2 λg3 Zo3 m3=>wpAny_bind (wpAny_letGo (wpAny_pure ?_)))))
 replace Zo3:Ze g3 TO x1 a2:=Zo3
 refine wpAny_bind (wpAny_bind (wpAny_onRaise (?_:wpAny _ _ (Builtin.SmallTypes.nextOf (.ref j2) >>= _) _ _ _)))
 refine wpAny_bind (Vo (Z2.at λo e=>(m3.extBut _ _ D.TO_j2.symm (m2.extBut _ _ D.j1_j2.symm (m1.extBut _ _ D.z_j2.symm e)))) (q2.keep λo e=>(m3.extBut _ _ n2 (m2.extBut _ _ (q2.ne_j Z1) (m1.extBut _ _ (q2.ne_z Zz) e)))) ex2 λg4 Y2 m4=>wpAny_pure ?_)
 have Zo4:Ze g4 TO x1 a2:=m4.extBut _ _ D.TO_j2 Zo3
 refine wpAny_bind (wpAny_seqItems Zo4 rfl (wpAny_bind (VO Zo4 λg5 Zo5 m5=>wpAny_bind (wpAny_letGo (wpAny_pure (wpAny_pure ?_))))))
 replace Zo5:Ze g5 TO x1 x2:=Zo5
 refine wpAny_bind (wpAny_seqItems Zo5 rfl (wpAny_bind (wpAny_newTuple ?_)))
 have sz:g5.objs.size=s.heap.objs.size:=by rw[m5.1,m4.1,m3.1,m2.1,m1.1]
 have ZzL:IsZip g5 z TI TO .ellipsis:=(m5.extBut _ _ D.z_TO (m4.extBut _ _ D.z_j2 (m3.extBut _ _ D.z_TO (m2.extBut _ _ D.z_j1 Zz1))))
 have kp:∀c o,c≠z->c≠TO->c≠j1->c≠j2->s.heap.get? c=some o->g5.get? c=some o:=λc o c_z c_TO c_j1 c_j2 e=>(m5.extBut _ _ c_TO (m4.extBut _ _ c_j2 (m3.extBut _ _ c_TO (m2.extBut _ _ c_j1 (m1.extBut _ _ c_z e)))))
 have W1:KIt k1 g5 j1 t1 (i+1):=Y1.at λo e=>(m5.extBut _ _ D.TO_j1.symm (m4.extBut _ _ D.j1_j2 (m3.extBut _ _ D.TO_j1.symm e)))
 have W2:KIt k2 g5 j2 t2 (i+1):=Y2.at λo e=>(m5.extBut _ _ D.TO_j2.symm e)
 have zlt:g5.objs.size≠z:=Nat.ne_of_gt (Heap.lt_size ZzL)
 show wpAny _ _ (Builtin.SmallTypes.ownedTupleHandOut (.ref z) (.ref g5.objs.size) >>= _) _ _ _
 refine wpAny_bind ?_;unfold Builtin.SmallTypes.ownedTupleHandOut
 refine wpAny_bind (wpAny_setField_rec (Heap.get?_push_of_some _ ZzL) (by simp) λh7 Zz7 p7=>?_)
 replace Zz7:IsZip h7 z TI TO (rawInt g5.objs.size):=Zz7
 refine wpAny_setField_rec Zz7 (by simp) λh8 Zz8 p8=>?_
 replace Zz8:IsZip h8 z TI TO (rawInt g5.objs.size):=Zz8
 have up:∀c o,c≠z->g5.get? c=some o->h8.get? c=some o:=λc o c1 e=>p8.extBut _ _ c1 (p7.extBut _ _ c1 (Heap.get?_push_of_some _ e))
 have T8:Ze h8 g5.objs.size x1 x2:=p8.extBut _ _ zlt (p7.extBut _ _ zlt (Heap.get?_push_size _ rfl))
 have s8:h8.objs.size=g5.objs.size+1:=by rw[p8.1,p7.1,Heap.size_push]
 refine wpAny_pure ⟨_,rfl,wpAny_pure ?_⟩
 rw[sz]at Zz8 T8 s8
 show Q (some (.ref g5.objs.size)) _
 rw[sz]
 exact q h8 ⟨Zz8,up _ _ D.z_TI.symm (kp _ _ D.z_TI.symm D.TI_TO D.TI_j1 D.TI_j2 Zi),⟨_,_,up _ _ D.z_TO.symm Zo5⟩,W1.at λo e=>up _ o D.z_j1.symm e,W2.at λo e=>up _ o D.z_j2.symm e⟩ T8 s8 λc o c_z c_TO c_j1 c_j2 e=>up c o c_z (kp c o c_z c_TO c_j1 c_j2 e)
theorem zd6 {Q:Option Value->Shared->Prop}(hh:A.handled=none) (D:ZN2 z TI TO j1 j2) (Z:ZS2 z TI TO j1 j2 t1 t2 k1 k2 .none i s.heap) (q1:KSq k1 s.heap t1 xs1) (q2:KSq k2 s.heap t2 xs2) (n1:t1≠TO) (n2:t2≠TO) (en:xs1[i]? = none\/xs2[i]? = none)
  (q:∀h',(∀c o,c≠z->c≠TO->c≠j1->c≠j2->s.heap.get? c=some o->h'.get? c=some o)->Q none { s with heap:=h' }):wpAny (model prog w) A (pyNext (.ref z)) Q E s:=by
 obtain⟨Zz,Zi,⟨a1,a2,Zo⟩,Z1,Z2⟩:=Z
 have ty:s.TypeIs (.ref z) "zip":=⟨_,Zz,rfl⟩
 have fin:∀(g':Heap) (e:Addr),(∀c o,c≠z->c≠TO->c≠j1->c≠j2->s.heap.get? c=some o->g'.get? c=some o)->(∃o,g'.get? e=some o/\o.cls = .type "StopIteration") →
   wpAny (model prog w) A (do if <-isInstance (.ref e) (.type "StopIteration")then pure none else throw (.ref e):Sem (Option Value)) Q E { s with heap:=g' }:=λg' e kk ⟨o,ho,hc⟩ =>
  wpAny_bind (wpAny_isInstance (T:="StopIteration") (b:=true) ⟨o,ho,hc⟩ isSubtype_stop (wpAny_pure (q g' kk)))
 unfold pyNext
 refine wpAny_bind (wpAny_attempt (wpAny_callSpecial?_slot (name:=Str.ofString "__next__") ty F.slot_zip_next (wpAny_call_entry F.slot_zip_next ty F.entry_zip_next ?_ (F.args_zip_next_1 _))))
 show wpAny _ _ (field (.ref z) 2 >>= _) _ _ s
 refine wpAny_bind (wpAny_field Zz rfl (x:=.bool false) rfl (?_:wpAny _ _ (field (.ref z) 3 >>= _) _ _ s))
 refine wpAny_bind (wpAny_field Zz rfl (x:=.ref TI) rfl (wpAny_bind (wpAny_seqItems Zi rfl (?_:wpAny _ _ (Builtin.SmallTypes.ownedTupleIsFree (.ref z) >>= _) _ _ s))))
 refine wpAny_bind ?_;unfold Builtin.SmallTypes.ownedTupleIsFree
 refine wpAny_bind (wpAny_field Zz rfl (x:=.none) rfl (wpAny_pure ?_))
 simp only[if_true]
 refine wpAny_bind (wpAny_rule (wpAny_bind (wpAny_field Zz rfl (x:=.ref TO) rfl (wpAny_bind (wpAny_setField_rec Zz (by simp) λg1 Zz1 m1=>?_)))))
 replace Zz1:IsZip g1 z TI TO .ellipsis:=Zz1
 refine wpAny_bind ?_;simp only[List.zipIdx_cons,List.zipIdx_nil,List.forIn_cons,List.forIn_nil]
 refine wpAny_bind (wpAny_bind (wpAny_onRaise (?_:wpAny _ _ (Builtin.SmallTypes.nextOf (.ref j1) >>= _) _ _ _)))
 cases ex1:xs1[i]? with
 | none =>
  refine wpAny_bind (zcp hh (Z1.at λo e=>(m1.extBut _ _ D.z_j1.symm e)) (q1.keep λo e=>(m1.extBut _ _ (q1.ne_z Zz) e)) ex1 λg2 e m2 ⟨oe,e1,e2⟩=>?_)
  have ZzE:IsZip g2 z TI TO .ellipsis:=m2 _ _ D.z_j1 Zz1
  have nz:e≠z:=λr=>by subst r;rw[ZzE]at e1;cases e1;simp at e2
  exact wpAny_setField_rec ZzE (by simp) λgE _ mE=>fin gE e (λc o c_z c_TO c_j1 c_j2 r=>mE.extBut _ _ c_z (m2 _ _ c_j1 (m1.extBut _ _ c_z r))) ⟨oe,mE.extBut _ _ nz e1,e2⟩
 | some x1 =>
  refine wpAny_bind (Vo (Z1.at λo e=>(m1.extBut _ _ D.z_j1.symm e)) (q1.keep λo e=>(m1.extBut _ _ (q1.ne_z Zz) e)) ex1 λg2 Y1 m2=>wpAny_pure ?_)
  have Zo2:Ze g2 TO a1 a2:=m2.extBut _ _ D.TO_j1 (m1.extBut _ _ D.z_TO.symm Zo)
  refine wpAny_bind (wpAny_seqItems Zo2 rfl (wpAny_bind (VO Zo2 λg3 Zo3 m3=>wpAny_bind (wpAny_letGo (wpAny_pure ?_)))))
  replace Zo3:Ze g3 TO x1 a2:=Zo3
  refine wpAny_bind (wpAny_bind (wpAny_onRaise (?_:wpAny _ _ (Builtin.SmallTypes.nextOf (.ref j2) >>= _) _ _ _)))
  have ex2:xs2[i]? = none:=by
   rcases en with r | r
   ·rw[ex1]at r;cases r
   ·exact r
  refine wpAny_bind (zcp hh (Z2.at λo e=>(m3.extBut _ _ D.TO_j2.symm (m2.extBut _ _ D.j1_j2.symm (m1.extBut _ _ D.z_j2.symm e)))) (q2.keep λo e=>(m3.extBut _ _ n2 (m2.extBut _ _ (q2.ne_j Z1) (m1.extBut _ _ (q2.ne_z Zz) e)))) ex2 λg4 e m4 ⟨oe,e1,e2⟩=>?_)
  have ZzE:IsZip g4 z TI TO .ellipsis:=m4 _ _ D.z_j2 (m3.extBut _ _ D.z_TO (m2.extBut _ _ D.z_j1 Zz1))
  have nz:e≠z:=λr=>by subst r;rw[ZzE]at e1;cases e1;simp at e2
  exact wpAny_setField_rec ZzE (by simp) λgE _ mE=>fin gE e (λc o c_z c_TO c_j1 c_j2 r=>mE.extBut _ _ c_z (m4 _ _ c_j2 (m3.extBut _ _ c_TO (m2.extBut _ _ c_j1 (m1.extBut _ _ c_z r))))) ⟨oe,mE.extBut _ _ nz e1,e2⟩
end
def Va (k1 k2:Bool) (K:PySem.W.Frag) (t1 t2:Addr):It :=
 ⟨λi H=>∃(xs1:List V) (xs2:List V) (x1:V) (x2:V),SqK k1 K H t1 xs1/\SqK k2 K H t2 xs2/\xs1[i]? = some x1/\xs2[i]? = some x2,
  λi H v H'=>∃(T:Addr) (x1 x2:V),v = .ref T/\H T=none/\H'=upd H T (.tup [x1,x2])/\(∀xs,SqK k1 K H t1 xs->xs[i]? = some x1)/\(∀xs,SqK k2 K H t2 xs->xs[i]? = some x2),
  λi H=>∃(xs1:List V) (xs2:List V),SqK k1 K H t1 xs1/\SqK k2 K H t2 xs2/\(xs1.length<=i\/xs2.length<=i)⟩
theorem zcb {P:Program}{w:World}{K:PySem.W.Frag}{elts:List Expr}{kc:Nat}{tp:Pos}(k1 k2:Bool) (z TI TO j1 j2 t1 t2:Addr) (D:ZN2 z TI TO j1 j2) (n1:t1≠TO) (n2:t2≠TO) :
  J7 P w K (.Tuple elts kc tp) (Va k1 k2 K t1 t2) [z,TI,TO,j1,j2] z (λi h=>ZS2 z TI TO j1 j2 t1 t2 k1 k2 .none i h) where
 mem:=by simp
 obj:=λi h st b hb=>by
  obtain⟨Zz,Zi,⟨a1,a2,Zo⟩,Z1,Z2⟩:=st
  simp only[List.mem_cons,List.not_mem_nil,or_false]at hb
  rcases hb with rfl | rfl | rfl | rfl | rfl
  ·exact⟨_,Zz,λ_ r=>by cases r⟩
  ·exact⟨_,Zi,λ_ r=>by cases r⟩
  ·exact⟨_,Zo,λ_ r=>by cases r⟩
  ·exact Z1.ob
  ·exact Z2.ob
 keep:=λi h h' st k=>by
  obtain⟨Zz,Zi,⟨a1,a2,Zo⟩,Z1,Z2⟩:=st
  exact⟨k z (by simp) _ Zz,k TI (by simp) _ Zi,⟨a1,a2,k TO (by simp) _ Zo⟩,Z1.at λo e=>k j1 (by simp) o e,Z2.at λo e=>k j2 (by simp) o e⟩
 item:=by
  intro X hP hw hK hc i pins s σ H E I hf st hg
  subst hP hw hK
  obtain⟨xs1,xs2,x1,x2,h1,h2,ex1,ex2⟩:=hg
  obtain⟨us1,r1,p1⟩:=ZD I h1
  obtain⟨us2,r2,p2⟩:=ZD I h2
  obtain⟨u1,eu1,rx1⟩:=r1.get ex1
  obtain⟨u2,eu2,rx2⟩:=r2.get ex2
  refine zcd D st (xs1:=us1.toArray) (xs2:=us2.toArray) p1 p2 n1 n2 (by simpa using eu1) (by simpa using eu2) λh' st' pr sz kk=>⟨_,rfl,?_⟩
  obtain⟨Zz,Zi,⟨a1,a2,Zo⟩,Z1,Z2⟩:=st'
  refine wpAny_letOwnedTupleGo_zip Zz λh2' Zz' sb=>?_
  have hTz:s.heap.objs.size≠z:=Nat.ne_of_gt (Heap.lt_size st.z)
  have kk2:∀c o,c≠z->c≠TO->c≠j1->c≠j2->s.heap.get? c=some o->h2'.get? c=some o:=λc o c_z c_TO c_j1 c_j2 e=>(sb.2 c c_z).trans (kk c o c_z c_TO c_j1 c_j2 e)
  have prT:h2'.get? s.heap.objs.size=some { cls:=.type "tuple",data:=.seq #[u1,u2] }:=(sb.2 _ hTz).trans pr
  have hT:H s.heap.objs.size=none:=I.hok.fresh (Nat.le_refl _)
  have neC:∀b,b∉[z,TO,j1,j2]->b≠z/\b≠TO/\b≠j1/\b≠j2:=λb hb=>by simpa using hb
  have trk:∀b u,H b=some u->b≠z/\b≠TO/\b≠j1/\b≠j2:=λb u e=>by
   refine⟨?_,?_,?_,?_⟩ <;> rintro rfl
   ·rw[(hf b (by simp)).1]at e;cases e
   ·rw[(hf b (by simp)).1]at e;cases e
   ·rw[(hf b (by simp)).1]at e;cases e
   ·rw[(hf b (by simp)).1]at e;cases e
  have ltT:∀b o,s.heap.get? b=some o->b≠s.heap.objs.size:=λb o e=>Nat.ne_of_lt (Heap.lt_size e)
  have u:Un (frs X.stack) [z,TO,j1,j2] H (upd H s.heap.objs.size (.tup [x1,x2])) s.heap h2' :=
   ⟨λb o e n _ hb=>by obtain⟨d0,d1,d2,d3⟩:=neC b hb;exact kk2 b o d0 d1 d2 d3 e,λb o e n _ hb=>by obtain⟨d0,d1,d2,d3⟩:=neC b hb;exact⟨o.slots,kk2 b o d0 d1 d2 d3 e⟩,
    λb o e n hb=>by rw[zB (ltT b o e)];exact n,λb o e hb=>by obtain⟨d0,d1,d2,d3⟩:=neC b hb;exact⟨o,kk2 b o d0 d1 d2 d3 e⟩,
    λb ws e=>by rw[zB (zJ e hT)];exact e,λb o ws e=>by rw[zB (zJ e hT)];exact e,λb ps e=>⟨#[],by rw[zB (zJ e hT),e];simp⟩⟩
  have hok:HOk X.prog X.w (upd H s.heap.objs.size (.tup [x1,x2])) h2':=λb ob e=>by
   by_cases hb:b=s.heap.objs.size
   ·subst hb
    rw[zg]at e;cases e
    exact⟨by show 2<=sizeLine;decide,[u1,u2],(.cons rx1 (.cons rx2 .nil)),_,prT,rfl,0,rfl⟩
   ·rw[zB hb]at e
    refine(I.hok b ob e).stay (λc v hc' qc=>?_) (λc q=>by rw[zB (zJ q hT)];exact q) λc ws q=>by rw[zB (zJ q hT)];exact q
    have:∃o,H c=some o:=by
     rcases hc' with rfl | hc'
     ·exact⟨_,e⟩
     ·exact⟨_,hc'⟩
    obtain⟨o,ho⟩:=this
    obtain⟨d0,d1,d2,d3⟩:=trk c o ho
    exact kk2 c v d0 d1 d2 d3 qc
  refine⟨.ref s.heap.objs.size,upd H s.heap.objs.size (.tup [x1,x2]),?_,rfl,⟨_,x1,x2,rfl,hT,rfl,λxs' h=>by rw[Jq I h h1];exact ex1,λxs' h=>by rw[Jq I h h2];exact ex2⟩,
   ⟨Zz',(sb.2 _ D.z_TI.symm).trans Zi,⟨_,_,(sb.2 _ D.z_TO.symm).trans Zo⟩,Z1.at λo e=>(sb.2 _ D.z_j1.symm).trans e,Z2.at λo e=>(sb.2 _ D.z_j2.symm).trans e⟩,λb hb=>?_⟩
  ·refine I.call' (s':={ s with heap:=h2' }) (ch:=[z,TO,j1,j2]) rfl u hok I.bare λb hb=>?_
   obtain⟨_,y1,y2,y3,y4,y5⟩:=hf b (by simp only[List.mem_cons,List.not_mem_nil,or_false]at hb ⊢;rcases hb with r | r | r | r <;> simp[r])
   exact⟨y3,y1,y4,y5⟩
  ·obtain⟨o,e,_⟩:∃o,s.heap.get? b=some o/\True:=by
    obtain⟨Zz,Zi,⟨a1,a2,Zo⟩,Z1,Z2⟩:=st
    simp only[List.mem_cons,List.not_mem_nil,or_false]at hb
    rcases hb with rfl | rfl | rfl | rfl | rfl
    ·exact⟨_,Zz,trivial⟩
    ·exact⟨_,Zi,trivial⟩
    ·exact⟨_,Zo,trivial⟩
    ·obtain⟨o,e,_⟩:=Z1.ob;exact⟨o,e,trivial⟩
    ·obtain⟨o,e,_⟩:=Z2.ob;exact⟨o,e,trivial⟩
   rw[zB (ltT b o e)];exact(hf b hb).1
 done:=by
  intro X hP hw hK hc i pins s σ H E I hf st hg
  subst hP hw hK
  obtain⟨xs1,xs2,h1,h2,en⟩:=hg
  obtain⟨us1,r1,p1⟩:=ZD I h1
  have l1:=r1.length
  obtain⟨us2,r2,p2⟩:=ZD I h2
  have l2:=r2.length
  refine zd6 (I.ok.hd hc) D st (xs1:=us1.toArray) (xs2:=us2.toArray) p1 p2 n1 n2 (by rcases en with r | r;exact .inl (by simp;omega);exact .inr ((by simp;omega))) λh' kk=>⟨rfl,?_⟩
  have neC:∀b,b∉[z,TO,j1,j2]->b≠z/\b≠TO/\b≠j1/\b≠j2:=λb hb=>by simpa using hb
  have u:Un (frs X.stack) [z,TO,j1,j2] H H s.heap h' :=
   ⟨λb o e n _ hb=>by obtain⟨d0,d1,d2,d3⟩:=neC b hb;exact kk b o d0 d1 d2 d3 e,λb o e n _ hb=>by obtain⟨d0,d1,d2,d3⟩:=neC b hb;exact⟨o.slots,kk b o d0 d1 d2 d3 e⟩,
    λb o e n hb=>n,λb o e hb=>by obtain⟨d0,d1,d2,d3⟩:=neC b hb;exact⟨o,kk b o d0 d1 d2 d3 e⟩,λb ws e=>e,λb o ws e=>e,λb ps e=>⟨#[],by rw[e];simp⟩⟩
  have hok:HOk X.prog X.w H h':=λb ob e=>by
   refine(I.hok b ob e).stay (λc v hc' qc=>?_) (λc q=>q) λc ws q=>q
   have:∃o,H c=some o:=by
    rcases hc' with rfl | hc'
    ·exact⟨_,e⟩
    ·exact⟨_,hc'⟩
   obtain⟨o,ho⟩:=this
   have nn:∀d∈[z,TI,TO,j1,j2],c≠d:=λd hd r=>by subst r;rw[(hf c hd).1]at ho;cases ho
   exact kk c v (nn _ (by simp)) (nn _ (by simp)) (nn _ (by simp)) (nn _ (by simp)) qc
  refine I.call' (s':={ s with heap:=h' }) (ch:=[z,TO,j1,j2]) rfl u hok I.bare λb hb=>?_
  obtain⟨_,y1,y2,y3,y4,y5⟩:=hf b (by simp only[List.mem_cons,List.not_mem_nil,or_false]at hb ⊢;rcases hb with r | r | r | r <;> simp[r])
  exact⟨y3,y1,y4,y5⟩
 self:=λ_ _ _ _ _ st h=>wpAny_pyIter_zip st.z h
def Qw (h:Heap) (k1 k2:Bool) (t1 t2:Addr):Heap:=((((h.push (ZL k1 t1)).push (ZL k2 t2)).push { cls:=.type "tuple",data:=.seq #[.ref h.objs.size,.ref (h.objs.size+1)] }).push { cls:=.type "tuple",data:=.seq #[.none,.none] }).push { cls:=.type "zip",data:=.fields #[.none,.bool false,.bool false,.ref (h.objs.size+2),.ref (h.objs.size+3)] }
theorem zbm (k1 k2:Bool) (t1 t2:Addr) (xs1 xs2:Array Value):Meets (Builtin.«zip.__new__» ⟨[.type "zip",.ref t1,.ref t2],[]⟩) (λ_ R s=>KSq k1 s.heap t1 xs1/\KSq k2 s.heap t2 xs2/\R (.ok (.ret (.ref (s.heap.objs.size+4)))) { s with heap:=Qw s.heap k1 k2 t1 t2 }) :=
 .of_wp λprog w A R s h=>by
  obtain⟨hp,g,d,tk,os⟩:=s;obtain⟨q1,q2,h⟩:=h
  have hs:=sub_zip
  have K1:KSq k1 (Shared.heap ⟨hp,g,d,tk,os⟩) t1 xs1:=q1
  have K2:KSq k2 (Shared.heap ⟨(hp.push (ZL k1 t1)),g,d,tk,os⟩) t2 xs2:=(KSq.push q2)
  wp_walk using zco K1,zco K2
  refine⟨_,rfl,?_⟩
  unfold Qw at h
  simp only[Heap.size_push]at h ⊢
  exact h
section
variable {X:Cx}
def zei (K:PySem.W.Frag) (t:TA):TI:=λσ H R=>t σ H λvs H1=>∃(k1 k2:Bool) (t1 t2:Addr),vs=[.ref t1,.ref t2]/\(∃xs,SqK k1 K H1 t1 xs)/\(∃xs,SqK k2 K H1 t2 xs)/\R (Va k1 k2 K t1 t2) H1
theorem zbo {h:Heap}{k1 k2:Bool}{t1 t2:Addr}:IsZip (Qw h k1 k2 t1 t2) (h.objs.size+4) (h.objs.size+2) (h.objs.size+3) .none/\Ze (Qw h k1 k2 t1 t2) (h.objs.size+2) (.ref h.objs.size) (.ref (h.objs.size+1))/\Ze (Qw h k1 k2 t1 t2) (h.objs.size+3) .none .none ∧
  KIt k1 (Qw h k1 k2 t1 t2) (h.objs.size) t1 0/\KIt k2 (Qw h k1 k2 t1 t2) (h.objs.size+1) t2 0/\∀c o,h.get? c=some o->(Qw h k1 k2 t1 t2).get? c=some o:=by
 have z1:(h.push (ZL k1 t1)).objs.size=h.objs.size+1:=by rw[Heap.size_push]
 have z2:((h.push (ZL k1 t1)).push (ZL k2 t2)).objs.size=h.objs.size+2:=by rw[Heap.size_push,z1]
 have z3:(((h.push (ZL k1 t1)).push (ZL k2 t2)).push { cls:=.type "tuple",data:=.seq #[.ref h.objs.size,.ref (h.objs.size+1)] }).objs.size=h.objs.size+3:=by rw[Heap.size_push,z2]
 have z4:((((h.push (ZL k1 t1)).push (ZL k2 t2)).push { cls:=.type "tuple",data:=.seq #[.ref h.objs.size,.ref (h.objs.size+1)] }).push { cls:=.type "tuple",data:=.seq #[.none,.none] }).objs.size=h.objs.size+4:=by rw[Heap.size_push,z3]
 unfold Qw
 refine⟨?_,?_,?_,?_,?_,λc o e=>?_⟩
 ·rw[<-z4];exact Heap.get?_push_size _ rfl
 ·refine Heap.get?_push_of_some _ (Heap.get?_push_of_some _ ?_)
  refine Qj z2.symm ?_
  rfl
 ·refine Heap.get?_push_of_some _ ?_
  refine Qj z3.symm ?_
  rfl
 ·refine V6 (Heap.get?_push_of_some _ (Heap.get?_push_of_some _ (Heap.get?_push_of_some _ (Heap.get?_push_of_some _ ?_))))
  exact Heap.get?_push_size _ rfl
 ·refine V6 (Heap.get?_push_of_some _ (Heap.get?_push_of_some _ (Heap.get?_push_of_some _ ?_)))
  exact Qj z1.symm rfl
 ·exact(Heap.get?_push_of_some _ (Heap.get?_push_of_some _ (Heap.get?_push_of_some _ (Heap.get?_push_of_some _ (Heap.get?_push_of_some _ e)))))
theorem Jh {a b:Expr}{ta:TA}{p pos tp:Pos}{elts:List Expr}{kc:Nat}(hg:Gl X "zip") (hm:X.mg "zip" = none) (ha:PA X [a,b] ta) (hs:starEach [a,b] X.env=[(false,eval a X.env),(false,eval b X.env)]:=by rfl) (hs1:starEach [b] X.env=[(false,eval b X.env)]:=by rfl) :
  PI X (.Tuple elts kc tp) (.Call (.Name "zip" p) [a,b] [] pos) (zei X.K ta):=by
 intro pins s σ H R I h
 refine Call_ (jm I hg hm (by decide +kernel:bootBuiltins "zip" = some (.type "zip")) (PyProof.Rows.callWith_type1 (thn (ha pos pins s σ H _ I h) λus s1 ⟨vs,H1,I1,r1,q1⟩=>?_) (by rw[hs,hs1]) (by rw[hs1];rfl)))
 obtain⟨k1,k2,t1,t2,e,⟨xs1,k_1⟩,⟨xs2,k_2⟩,q⟩:=q1
 subst e
 obtain⟨u1,u2,rfl,ru1,ru2⟩:=Q6 r1
 cases(show u1=Value.ref t1 from ru1)
 cases(show u2=Value.ref t2 from ru2)
 obtain⟨as1,ra1,pa1⟩:=ZD I1 k_1
 obtain⟨as2,ra2,pa2⟩:=ZD I1 k_2
 refine callType_new F.called_zip (by decide) (F.typeCall_zip_2 _ _) (F.newCall_zip_2 _ _) (λobj=>F.args_object_init_3 obj _ _) F.entry_zip_new (zbm k1 k2 t1 t2 as1.toArray as2.toArray) ⟨pa1,pa2,?_⟩
 obtain⟨g1,g2,g3,g4,g5,g6⟩:=zbo (h:=s1.heap) (k1:=k1) (k2:=k2) (t1:=t1) (t2:=t2)
 show _/\_
 refine⟨⟨_,g1,rfl⟩,wpAny_pyIter_zip g1 ⟨_,[s1.heap.objs.size+4,s1.heap.objs.size+2,s1.heap.objs.size+3,s1.heap.objs.size,s1.heap.objs.size+1],_,_,H1,rfl,I1.kept (t':=s1.toks) g6,
  zcb k1 k2 (s1.heap.objs.size+4) (s1.heap.objs.size+2) (s1.heap.objs.size+3) s1.heap.objs.size (s1.heap.objs.size+1) t1 t2 ?_ (nne (Nat.lt_of_lt_of_le pa1.lt (Nat.le_add_right _ _))) (nne (Nat.lt_of_lt_of_le pa2.lt (Nat.le_add_right _ _))),⟨g1,g2,⟨_,_,g3⟩,g4,g5⟩,λb hb=>?_,q⟩⟩
 ·constructor <;> (intro z;simp only[Nat.add_right_inj,Nat.add_eq_left,Nat.left_eq_add]at z;try omega)
 ·have hb':s1.heap.objs.size<=b:=by
   simp only[List.mem_cons,List.not_mem_nil,or_false]at hb
   rcases hb with rfl | rfl | rfl | rfl | rfl
   ·exact Nat.le_add_right _ _
   ·exact Nat.le_add_right _ _
   ·exact Nat.le_add_right _ _
   ·exact Nat.le_refl _
   ·exact Nat.le_add_right _ _
  exact I1.fpOk hb' (I1.hok.fresh hb')
end
def HSq (k:Bool) (H:Hp) (a:Addr) (xs:List V):Prop:=match k with | true=>H a=some (.tup xs) | false=>H a=some (.lst xs)
theorem HSq.sq {k:Bool}{K:PySem.W.Frag}{H:Hp}{a:Addr}{xs:List V}(h:HSq k H a xs):SqK k K H a xs:=by
 cases k
 ·exact SqL.of h
 ·exact SqT.of h
theorem HSq.same {k:Bool}{H H':Hp}{a:Addr}{xs:List V}(h:HSq k H a xs) (e:zi H H'):HSq k H' a xs:=by
 cases k <;> exact e _ _ h
theorem zb2 {k1 k2:Bool}{K:PySem.W.Frag}{H:Hp}{a b:Addr}{xs ys:List V}(ha:HSq k1 H a xs) (hb:HSq k2 H b ys) (e:xs.length<=ys.length):zcg (Va k1 k2 K a b) H xs.length xs ys :=
 ⟨λi H' hi s=>⟨xs,ys,xs[i],ys[i],(ha.same s).sq,(hb.same s).sq,by simp[hi],List.getElem?_eq_getElem _⟩,λH' s=>⟨xs,ys,(ha.same s).sq,(hb.same s).sq,.inl (Nat.le_refl _)⟩,
  λi v H2 H3 s ⟨T,x,y,z,h1,h2,h3,h4⟩=>⟨T,x,y,z,h1,h2,h3 xs (ha.same s).sq,h4 ys (hb.same s).sq⟩⟩
theorem zcQ {k1 k2:Bool}{K:PySem.W.Frag}{a b:Addr}{xs ys:List V}{g:TG}{tb:TS}{D:je}{σ:St}{H:Hp}(e:xs.length<=ys.length) (Pv:Nat->St->Hp->Prop) (h0:Pv 0 σ H) (hl:∀i σ H,Pv i σ H->SqK k1 K H a xs/\SqK k2 K H b ys)
  (hs:∀(i:Nat) (x y:V) (σ:St) (H:Hp) (T:Addr),xs[i]? = some x->ys[i]? = some y->Pv i σ H->H T=none->g (.ref T) σ (upd H T (.tup [x,y])) λσ2 H2=>tb { D with nx:=Pv (i+1),ct:=Pv (i+1),bk:=D.nx } σ2 H2)
  (hd:∀σ H,Pv xs.length σ H->D.nx σ H) :
  ∃W:Nat->Nat->St->Hp->Prop,(∃m,W 0 m σ H)/\∀i m σ H,W i m σ H →
   ((Va k1 k2 K a b).stop i H/\D.nx σ H)\/((Va k1 k2 K a b).go i H/\∃N:St->Hp->Prop,(∀σ' H',N σ' H'->∃m',m'<m/\W (i+1) m' σ' H')/\∀x H',(Va k1 k2 K a b).yld i H x H'->g x σ H' λσ2 H2=>tb { D with nx:=N,ct:=N,bk:=D.nx } σ2 H2):=by
 refine⟨λi m σ H=>m=xs.length - i/\i<=xs.length/\Pv i σ H,⟨xs.length,by simp,Nat.zero_le _,h0⟩,?_⟩
 rintro i m σ H ⟨rfl,hi,p⟩
 have q1:=hl i σ H p
 by_cases hlt:i<xs.length
 ·refine .inr ⟨⟨xs,ys,xs[i],ys[i],q1.1,q1.2,by simp,by simp⟩,Pv (i+1),λσ' H' p'=>⟨xs.length - (i+1),by omega,rfl,hlt,p'⟩,λv H' y=>?_⟩
  obtain⟨T,u1,u2,rfl,hT,rfl,e1,e2⟩:=y
  exact hs i u1 u2 σ H T (e1 xs q1.1) (e2 ys q1.2) p hT
 ·have e:i=xs.length:=by omega
  subst e
  exact .inl ⟨⟨xs,ys,q1.1,q1.2,.inl (Nat.le_refl _)⟩,hd σ H p⟩
end L2
end
namespace KM
theorem JD {a b d:Int}(hd:0<d):Rat.divInt a d<Rat.divInt b d↔a<b:=by
 rw[Rat.divInt_eq_div,Rat.divInt_eq_div]
 have h:(0:Rat)<d:=Rat.intCast_pos.mpr hd
 rw[Rat.div_lt_iff h,Rat.div_mul_cancel (by grind)];exact Rat.intCast_lt_intCast
end KM
section
set_option maxHeartbeats 8000000
set_option Elab.async false
set_option linter.all false
set_option maxRecDepth 100000
namespace L2
open PySem PySem.Spec PyProof.Rows
end L2
namespace L2
open PySem PySem.Spec PyProof.Rows
end L2
namespace L2
open PySem PySem.Spec PyProof.Rows
end L2
namespace L2
open PySem PySem.Spec PyProof.Rows
end L2
namespace L2
open PySem PySem.Spec PyProof.Rows
end L2
namespace L2
open PySem PySem.Spec PyProof.Rows
end L2
namespace L2
open PySem PySem.Spec PyProof.Rows
end L2
namespace L2
open PySem PySem.Spec PyProof.Rows
end L2
namespace L2
open PySem PySem.Spec PyProof.Rows
end L2
namespace L2
open PySem PySem.Spec PyProof.Rows
end L2
namespace L2
open PySem PySem.Spec PyProof.Rows
section
variable {κ:Type} [DecidableEq κ]
def vV (kvs:List (κ×V)) (k:κ):Option V:=(kvs.find? λkv=>decide (kv.1=k)).map (·.2)
def jq (kvs:List (κ×V)) (k:κ) (v:V):List (κ×V) :=
 if(kvs.any λkv=>decide (kv.1=k))=true then kvs.map (λkv=>if kv.1=k then(kv.1,v)else kv)else kvs++[(k,v)]
theorem Zc {p:κ×V}{r:List (κ×V)}{k:κ}(e:p.1=k):vV (p::r) k=some p.2:=by simp[vV,List.find?_cons,e]
theorem Zb {p:κ×V}{r:List (κ×V)}{k:κ}(e:¬p.1=k):vV (p::r) k=vV r k:=by simp[vV,List.find?_cons,e]
theorem Xq (k:κ):∀kvs:List (κ×V),(kvs.any λkv=>decide (kv.1=k))=(vV kvs k).isSome
 | []=>rfl
 | p::r=>by
  rw[List.any_cons]
  by_cases e:p.1=k
  ·simp only[Zc e,decide_eq_true e,Bool.true_or,Option.isSome_some]
  ·rw[Zb e,decide_eq_false e,Bool.false_or];exact Xq k r
theorem jn (kvs:List (κ×V)) (k:κ) (v:V):(jq kvs k v).length<=kvs.length+1:=by
 unfold jq
 split
 ·rw[List.length_map];omega
 ·rw[List.length_append,List.length_cons,List.length_nil];omega
theorem Zf.isSome_eq {o:Option V}{u:Option Value}(r:Zf o u):o.isSome=u.isSome:=by
 cases o with
 | none=>cases u with
  | none=>rfl
  | some _=>exact(show False from r).elim
 | some _=>cases u with
  | none=>exact(show False from r).elim
  | some _=>rfl
theorem KV.val {kvs:List (κ×V)}{vs:List (κ×Value)} (r:KV kvs vs) (k:κ):Zf (vV kvs k) (valueAt vs k):=by
 unfold KV at r
 induction r with
 | nil=>exact True.intro
 | @cons p q ps qs h t ih =>
  obtain⟨h1,h2⟩:=h
  by_cases e:p.1=k
  ·have e':q.1=k:=h1.symm.trans e
   have b:valueAt (q::qs) k=some q.2:=by simp[valueAt,List.find?_cons,e']
   rw[Zc e,b];exact h2
  ·have e':¬q.1=k:=λz=>e (h1.trans z)
   have b:valueAt (q::qs) k=valueAt qs k:=by simp[valueAt,List.find?_cons,e']
   rw[Zb e,b];exact ih
theorem KV.any {kvs:List (κ×V)}{vs:List (κ×Value)} (r:KV kvs vs) (k:κ):(kvs.any λkv=>decide (kv.1=k))=vs.any λkv=>decide (kv.1=k):=by
 unfold KV at r
 induction r with
 | nil=>rfl
 | cons h t ih=>rw[List.any_cons,List.any_cons,ih,h.1]
theorem KV.repl {kvs:List (κ×V)}{vs:List (κ×Value)} (r:KV kvs vs) (k:κ){y:V}{u:Value}(ry:zQ y u) :
  KV (kvs.map λkv=>if kv.1=k then(kv.1,y)else kv) (vs.map λkv=>if kv.1=k then(kv.1,u)else kv):=by
 unfold KV at r ⊢
 induction r with
 | nil=>exact .nil
 | @cons p q ps qs h t ih =>
  rw[List.map_cons,List.map_cons]
  refine .cons ?_ ih
  obtain⟨h1,h2⟩:=h
  by_cases e:p.1=k
  ·rw[if_pos e,if_pos (h1.symm.trans e)];exact⟨h1,ry⟩
  ·rw[if_neg e,if_neg (λz=>e (h1.trans z))];exact⟨h1,h2⟩
theorem KV.put {kvs:List (κ×V)}{vs:List (κ×Value)} (r:KV kvs vs) (k:κ){y:V}{u:Value}(ry:zQ y u):KV (jq kvs k y) (stored vs k u):=by
 unfold jq stored
 rw[r.any k]
 by_cases e:(vs.any λkv=>decide (kv.1=k))=true
 ·rw[if_pos e,if_pos e];exact r.repl k ry
 ·rw[if_neg e,if_neg e];exact Paired.snoc r ⟨rfl,ry⟩
theorem KV.keys {kvs:List (κ×V)}{vs:List (κ×Value)} (r:KV kvs vs):kvs.map (·.1)=vs.map (·.1):=by
 unfold KV at r
 induction r with
 | nil=>rfl
 | cons h t ih=>rw[List.map_cons,List.map_cons,ih,h.1]
theorem KV.length {kvs:List (κ×V)}{vs:List (κ×Value)} (r:KV kvs vs):kvs.length=vs.length:=Paired.length r
end
theorem V7 {P:Program}{w:World}{k:Key}{u:Value}(r:zQ (kV k) u):(xB P w).is k u=true:=by
 cases k with
 | inl i=>obtain⟨t,e⟩:=(show ∃t,u=Value.int i t from r);subst e;exact QI P w i t
 | inr x=>obtain⟨t,e⟩:=(show ∃t,u=Value.str x t from r);subst e;exact QJ P w x t
theorem XL {P:Program}{w:World}:∀{ks:List Key}{us:List Value},zK (ks.map kV) us->ItemsAre (xB P w) ks us
 | [],_,r=>by rw[List.map_nil]at r;cases r;exact .nil
 | k::ks,_,r=>by
  rw[List.map_cons]at r
  cases r with
  | cons h t=>exact .cons (V7 h) (XL t)
abbrev KT (H:Hp):List (List Key×V)->List (List Key×Addr×Value)->Prop:=Paired λp q=>p.1=q.1/\H q.2.1=some (.tup (p.1.map kV))/\zQ p.2 q.2.2
theorem KT.val {H:Hp}{kvs:List (List Key×V)}{xs:List (List Key×Addr×Value)} (r:KT H kvs xs) (k:List Key):Zf (vV kvs k) ((atKey xs k).map (·.2)):=by
 induction r with
 | nil=>exact True.intro
 | @cons p q ps qs h t ih =>
  obtain⟨h1,_,h2⟩:=h
  by_cases e:p.1=k
  ·have e':q.1=k:=h1.symm.trans e
   have b:atKey (q::qs) k=some q.2:=by simp[atKey,List.find?_cons,e']
   rw[Zc e,b];exact h2
  ·have e':¬q.1=k:=λz=>e (h1.trans z)
   have b:atKey (q::qs) k=atKey qs k:=by simp[atKey,List.find?_cons,e']
   rw[Zb e,b];exact ih
theorem KT.repl {H:Hp}{kvs:List (List Key×V)}{xs:List (List Key×Addr×Value)} (r:KT H kvs xs) (k:List Key){y:V}{u:Value}(ry:zQ y u) :
  KT H (kvs.map λkv=>if kv.1=k then(kv.1,y)else kv) (xs.map (putAt k u)):=by
 induction r with
 | nil=>exact .nil
 | @cons p q ps qs h t ih =>
  rw[List.map_cons,List.map_cons]
  refine .cons ?_ ih
  obtain⟨h1,h2,h3⟩:=h
  unfold putAt
  by_cases e:p.1=k
  ·rw[if_pos e,if_pos (h1.symm.trans e)];exact⟨h1,h2,ry⟩
  ·rw[if_neg e,if_neg (λz=>e (h1.trans z))];exact⟨h1,h2,h3⟩
theorem KT.put {H:Hp}{kvs:List (List Key×V)}{xs:List (List Key×Addr×Value)} (r:KT H kvs xs) (k:List Key){b:Addr}{y:V}{u:Value}(hb:H b=some (.tup (k.map kV))) (ry:zQ y u) :
  KT H (jq kvs k y) (storedH xs k b u):=by
 have e:(kvs.any λkv=>decide (kv.1=k))=(atKey xs k).isSome:=by
  rw[Xq,(r.val k).isSome_eq,Option.isSome_map]
 unfold jq storedH
 rw[e]
 by_cases q:(atKey xs k).isSome=true
 ·rw[if_pos q,if_pos q];exact r.repl k ry
 ·rw[if_neg q,if_neg q];exact Paired.snoc r ⟨rfl,hb,ry⟩
theorem KT.keeps {H H':Hp}{kvs:List (List Key×V)}{xs:List (List Key×Addr×Value)} (r:KT H kvs xs) (ht:∀b ys,H b=some (.tup ys)->H' b=some (.tup ys)):KT H' kvs xs :=
 Paired.mapP r λ_ _ z=>⟨z.1,ht _ _ z.2.1,z.2.2⟩
section
variable {P:Program}{w:World}{H:Hp}{h:Heap}{a:Addr}
theorem zcu {u:HO}(ok:HOk P w H h) (e:Rd H a u):xi P w H h a u:=e.ok ok
theorem zai {kvs:List (Key×V)} (ok:HOk P w H h) (e:Rd H a (.dK kvs)):kvs.length<=sizeLine/\(a == sysModules)=false/\∃vs,KV kvs vs/\h.DictOf (xB P w) a vs :=
 show xi P w H h a (.dK kvs)from zcu ok e
theorem XI {kvs:List (Key×V)} (ok:HOk P w H h) (e:H a=some (.dK kvs)):kvs.length<=sizeLine/\(a == sysModules)=false/\∃vs,KV kvs vs/\h.DictOf (xB P w) a vs:=zai ok (.inl e)
theorem Vp {ks:List Key}(ok:HOk P w H h) (e:H a=some (.tup (ks.map kV))):(tupleKind (xB P w)).is h ks a:=by
 obtain⟨_,its,r,o,h1,h2,n,h3⟩:=(show xi P w H h a (.tup (ks.map kV))from ok a _ e)
 exact⟨o,its.toArray,n,h1,h2,h3,by simpa using XL r⟩
theorem zak {kvs:List (List Key×V)} (ok:HOk P w H h) (e:Rd H a (.dT kvs)):kvs.length<=sizeLine/\(a == sysModules)=false ∧
  ∃xs,KT H kvs xs/\h.DictOfH (tupleKind (xB P w)) a xs:=by
 obtain⟨z,y,xs,r,o,es,ep,h1,h2,h3,h4,h5⟩:=(show xi P w H h a (.dT kvs)from zcu ok e)
 refine⟨z,y,xs,r,o,es,ep,h1,h2,h3,h4,λx hx=>?_,h5⟩
 have all:∀{l:List (List Key×V)}{m:List (List Key×Addr×Value)},KT H l m->∀x∈m,(tupleKind (xB P w)).is h x.1 x.2.1:=by
  intro l m q
  induction q with
  | nil=>intro x hx;exact nomatch hx
  | @cons p q ps qs hq t ih =>
   intro x hx
   rcases List.mem_cons.mp hx with e | hx
   ·subst e
    exact Vp ok (by rw[<-hq.1];exact hq.2.1)
   ·exact ih x hx
 exact all r x hx
theorem zee {kvs:List (List Key×V)} (ok:HOk P w H h) (e:H a=some (.dT kvs)):kvs.length<=sizeLine/\(a == sysModules)=false ∧
  ∃xs,KT H kvs xs/\h.DictOfH (tupleKind (xB P w)) a xs:=zak ok (.inl e)
end
def ZV (H:Hp) (a:Addr) (y:V) (r:Option V):Prop :=
 (∃kvs k,Rd H a (.dK kvs)/\y=kV k/\r=vV kvs k)\/∃kvs k b,Rd H a (.dT kvs)/\y = .ref b/\H b=some (.tup (k.map kV))/\r=vV kvs k
def J4 (H:Hp) (a:Addr) (y v:V) (H':Hp):Prop :=
 (∃kvs k,H a=some (.dK kvs)/\y=kV k/\kvs.length<sizeLine/\H'=upd H a (.dK (jq kvs k v))) ∨
 ∃kvs k b,H a=some (.dT kvs)/\y = .ref b/\H b=some (.tup (k.map kV))/\kvs.length<sizeLine/\H'=upd H a (.dT (jq kvs k v))
theorem ZV.k {H:Hp}{a:Addr}{kvs:List (Key×V)}{k:Key}(e:H a=some (.dK kvs)):ZV H a (kV k) (vV kvs k):=.inl ⟨kvs,k,.inl e,rfl,rfl⟩
theorem J4.t {H:Hp}{a b:Addr}{kvs:List (List Key×V)}{k:List Key}{v:V}(e:H a=some (.dT kvs)) (eb:H b=some (.tup (k.map kV))) (hl:kvs.length<sizeLine) :
  J4 H a (.ref b) v (upd H a (.dT (jq kvs k v))):=.inr ⟨kvs,k,b,e,rfl,eb,hl,rfl⟩
section
variable {X:Cx}{pins:List (Addr×Obj)}{σ:St}{H:Hp}{s:Shared}{a:Addr}{y v:V}{u r:Value}{o:Option V}{A:Around}{E:Value->Shared->Prop}
theorem Inv.big (I:Inv X pins σ H s):sysModules<s.heap.objs.size:=by
 have h:mainGlobals<s.heap.objs.size:=(I.mod.glob.keeps I.bk).lt
 exact Nat.lt_trans (by decide) h
theorem JB {Q:Value->Shared->Prop}(hu:A.units+1<cLine) (I:Inv X pins σ H s) (g:ZV H a y (some v)) (ry:zQ y u) (h:∀w' s',Inv X pins σ H s'->zQ v w'->Q w' s') :
  wpAny (model X.prog X.w) A (getItem (.ref a) u) Q E s:=by
 rcases g with⟨kvs,k,e,ey,l⟩ | ⟨kvs,k,b,e,ey,eb,l⟩
 ·subst ey
  obtain⟨z,hd,vs,rel,dd⟩:=zai I.hok e
  obtain⟨w',hw,rw'⟩:=Zf.some_of (v:=v) (o:=valueAt vs k) (by rw[l];exact rel.val k)
  exact wpAny_getItem_of (V7 ry) dd.mapOf hw (h w' _ (I.tok _) rw')
 ·subst ey
  cases(show u=Value.ref b from ry)
  obtain⟨z,hd,xs,rel,dd⟩:=zak I.hok e
  obtain⟨w',hw,rw'⟩:=Zf.some_of (v:=v) (o:=(atKey xs k).map (·.2)) (by rw[l];exact rel.val k)
  obtain⟨p,hp,hp2⟩:=Option.map_eq_some_iff.mp hw
  refine wpAny_getItem_heap (tupleKind_room_in1 hu) (Vp I.hok eb) dd hp ?_
  rw[hp2]
  exact h w' _ (I.tok _) rw'
theorem X9 {h':Heap}{t':Nat}{ob:HO}(I:Inv X pins σ H s) (mu:Mut (H a)) (hs:Heap.SameBut a s.heap h') (he:∃q,h'.get? a=some q) (new:xi X.prog X.w (upd H a ob) h' a ob) :
  Inv X pins σ (upd H a ob) { s with heap:=h',toks:=t' } :=
 I.write (x:=a) (e:=a) mu (.inl rfl) (λb q hb z=>(hs.2 b hb).trans z) he new
theorem Qa {P:Program}{w:World}{H':Hp}{h':Heap}{kvs:List (Key×V)}{vs:List (Key×Value)} (z:kvs.length<=sizeLine) (hd:(a == sysModules)=false) (rel:KV kvs vs) (dd:h'.DictOf (xB P w) a vs) :
  xi P w H' h' a (.dK kvs):=⟨z,hd,vs,rel,dd⟩
theorem JC {H':Hp}{Q:Unit->Shared->Prop}(hu:A.units+1<cLine) (I:Inv X pins σ H s) (g:J4 H a y v H') (ry:zQ y u) (rv:zQ v r) (h:∀s',Inv X pins σ H' s'->Q () s') :
  wpAny (model X.prog X.w) A (setItem (.ref a) u r) Q E s:=by
 rcases g with⟨kvs,k,e,ey,l,eH⟩ | ⟨kvs,k,b,e,ey,eb,l,eH⟩
 ·subst ey eH
  obtain⟨z,hd,vs,rel,dd⟩:=XI I.hok e
  have hz:vs.length<=sizeLine:=by rw[<-rel.length];exact z
  have hl:(jq kvs k v).length<=sizeLine:=by have:=jn kvs k v;omega
  refine wpAny_setItem_pairs (hsz:=hz) (V7 ry) dd λh' dd' hs=>h _ ?_
  have he:∃q,h'.get? a=some q:=let ⟨q,_,_,hq,_⟩:=dd';⟨q,hq⟩
  exact X9 I (by rw[e];exact True.intro) hs he (Qa hl hd (rel.put k rv) dd')
 ·subst ey eH
  cases(show u=Value.ref b from ry)
  obtain⟨z,hd,xs,rel,dd⟩:=zee I.hok e
  have hz:xs.length<=sizeLine:=by rw[<-Paired.length rel];exact z
  have hl:(jq kvs k v).length<=sizeLine:=by have:=jn kvs k v;omega
  refine wpAny_setItem_heap (hsz:=hz) (tupleKind_room_in1 hu) (Vp I.hok eb) dd λh' dd' hs=>h _ ?_
  obtain⟨q,es,ep,hq,h2,h3,h4,_,h5⟩:=dd'
  refine X9 I (by rw[e];exact True.intro) hs ⟨q,hq⟩ ⟨hl,hd,_,(rel.put k eb rv).keeps λc ys ec=>?_,q,es,ep,hq,h2,h3,h4,h5⟩
  rw[zB (zcr ec e (λz=>nomatch z))]
  exact ec
end
def zea (i:Expr):Prop:=∀ov iv,subscripted i false ov iv=operate [ov,iv] (getItem ov iv)
theorem zca {prog:Program}{w:World}{A:Around}{E:Value->Shared->Prop}{s:Shared}{env:Env}{value slice:Expr}{pos:Pos}{T id:String}{Q:Value->Shared->Prop}
  (hl:typeLookup (.type T) "__getitem__" = pure (some (.builtin id))) (hs:zea slice)
  (h:wpAny (model prog w) A (eval value env) (λo s₁=>wpAny (model prog w) A (eval slice env) (λi s₂=>s₂.TypeIs o T/\wpAny (model prog w) A (getItem o i) Q E s₂) E s₁) E s) :
  wpAny (model prog w) A (eval (.Subscript value slice pos) env) Q E s:=by
 refine Subscript_ (wpAny_mono h (λo s₁ h₁=>wpAny_mono h₁ (λi s₂ h₂=>?_) λ_ _ x=>x) λ_ _ x=>x)
 obtain⟨hT,h₂⟩:=h₂
 unfold subscriptTail
 refine wpAny_bind ?_
 rw[getitemInPython_of_ne hT.not_modules]
 refine wpAny_bind (wpAny_specialOf hT hl ?_)
 have fin:wpAny (model prog w) A (subscripted slice false o i) (λr s₃=>wpAny (model prog w) A (letTemporaryGo value o r >>= λ_=>pure r) Q E s₃) E s₂:=by
  rw[hs o i]
  exact wpAny_operating (wpAny_mono h₂ (λr s₃ h₃=>wpAny_bind (wpAny_letTemporaryGo (wpAny_pure h₃))) λ_ _ x=>x)
 first
  | exact wpAny_pure (wpAny_bind fin)
  | exact wpAny_bind (wpAny_pure (wpAny_bind fin))
  | exact wpAny_bind fin
theorem QD {X:Cx}{pins:List (Addr×Obj)}{σ:St}{H:Hp}{s:Shared}{a:Addr}{y:V}{o:Option V}(I:Inv X pins σ H s) (g:ZV H a y o):s.TypeIs (.ref a) "dict":=by
 rcases g with⟨kvs,k,e,_,_⟩ | ⟨kvs,k,b,e,_,_,_⟩
 ·obtain⟨_,_,vs,_,dd⟩:=zai I.hok e
  exact dd.typeIs
 ·obtain⟨_,_,xs,_,dd⟩:=zak I.hok e
  exact dd.typeIs
def ze6 (td ty:TE):TE:=λσ H Q=>td σ H λx H1=>ty σ H1 λy H2=>∃a v,x = .ref a/\ZV H2 a y (some v)/\Q v H2
def zeL (td ty tv:TE):TS:=λD σ H=>tv σ H λv H1=>td σ H1 λx H2=>ty σ H2 λy H3=>∃a H4,x = .ref a/\J4 H3 a y v H4/\D.nx σ H4
section
variable {X:Cx}{o i e value:Expr}{pos pos' tpos:Pos}{td ty tv:TE}
theorem ZP (hu:X.A.units+1<cLine) (ho:PE X o td) (hi:PE X i ty) (hs:zea i):PE X (.Subscript o i pos) (ze6 td ty):=by
 intro pins s σ H Q I h
 refine zca PySem.F.slot_dict_getitem.lookup hs (thn (ho pins s σ H _ I h) λu s1 ⟨x,H1,I1,rx,q1⟩=>thn (hi pins s1 σ H1 _ I1 q1) λiv s2 ⟨y,H2,I2,ry,a,v,ex,g,q2⟩=>?_)
 subst ex
 obtain rfl:u=Value.ref a:=rx
 exact⟨QD I2 g,JB hu I2 g ry λw' s3 I3 rw'=>⟨v,H2,I3,rw',q2⟩⟩
theorem zbW (hu:X.A.units+1<cLine) (ho:PE X o td) (hi:PE X i ty) (hv:PE X value tv) (hs:swapsWith value (some (.Subscript o i pos')) pos.line X.env=pure false) :
  PS X (.Assign [.Subscript o i pos'] value pos) (zeL td ty tv):=by
 intro pins s σ H D I h
 refine wpAny_Assign_Subscript (thn (hv pins s σ H _ I h) λr s1 ⟨v,H1,I1,rv,q1⟩=>thn (ho pins s1 σ H1 _ I1 q1) λu s2 ⟨x,H2,I2,rx,q2⟩=>thn (hi pins s2 σ H2 _ I2 q2) λiv s3 ⟨y,H3,I3,ry,a,H4,ex,g,q3⟩=>?_) hs
 subst ex
 obtain rfl:u=Value.ref a:=rx
 exact JC hu I3 g ry rv λs4 I4=>⟨σ,H4,I4,q3⟩
end
theorem zah {P:Program}{w:World}{H:Hp}(h:Heap) (hb:sysModules<h.objs.size):xi P w H (h.push { cls:=.type "dict",data:=.dict #[] }) h.objs.size (.dK []) :=
 ⟨Nat.zero_le _,beq_eq_false_iff_ne.mpr (Ne.symm (Nat.ne_of_lt hb)),[],.nil,Heap.DictOf.new h⟩
theorem zaj {P:Program}{w:World}{H:Hp}(h:Heap) (hb:sysModules<h.objs.size):xi P w H (h.push { cls:=.type "dict",data:=.dict #[] }) h.objs.size (.dT []) :=
 ⟨Nat.zero_le _,beq_eq_false_iff_ne.mpr (Ne.symm (Nat.ne_of_lt hb)),[],.nil,_,#[],0,Heap.get?_push_size _ rfl,⟨rfl,rfl,rfl⟩,rfl,rfl,List.nodup_nil⟩
def zdY:TE:=λ_ H Q=>∀p,H p=none->Q (.ref p) (upd H p (.dK []))
def zdZ:TE:=λ_ H Q=>∀p,H p=none->Q (.ref p) (upd H p (.dT []))
section
variable {X:Cx}{pos:Pos}
theorem QN:PE X (.Dict [] [] pos) zdY:=λpins s σ H Q I h =>
 wpAny_Dict_empty ⟨.ref s.heap.objs.size,_,I.laid (a:=s.heap.objs.size) (o:=.dK []) (t':=s.toks) (λ_ _ q=>Heap.get?_push_of_some _ q) (Nat.le_refl _) (zah s.heap I.big),rfl,h _ (I.hok.fresh (Nat.le_refl _))⟩
theorem zaE:PE X (.Dict [] [] pos) zdZ:=λpins s σ H Q I h =>
 wpAny_Dict_empty ⟨.ref s.heap.objs.size,_,I.laid (a:=s.heap.objs.size) (o:=.dT []) (t':=s.toks) (λ_ _ q=>Heap.get?_push_of_some _ q) (Nat.le_refl _) (zaj s.heap I.big),rfl,h _ (I.hok.fresh (Nat.le_refl _))⟩
end
end L2
namespace Att
open PySem PySem.W PySem.Calls PyProof.Rows
end Att
namespace L2
open PySem PySem.Spec PyProof.Rows
end L2
namespace L2
open PySem PySem.Spec PyProof.Rows
end L2
end
section
set_option maxHeartbeats 4000000
set_option Elab.async false
set_option linter.all false
set_option maxRecDepth 100000
namespace L2
open PySem PySem.W PyProof.Rows
theorem zd5 {α:Type}{M:Model}{c:Code}{t:Sem α}{Q:α->Prop}{p:Pos}{s:Shared}(h1:Sem.wp M (Ctx.of c []) t (λa _ _=>Q a) (λ_ _ _=>False) p s) (h2:Sem.wp M (Ctx.of c []) t (λa _ _=>¬Q a) (λ_ _ _=>False) p s):False:=by
 classical
 let f:α->Sem PySem.Fin:=λa=>if Q a then pure (.done (.ret .none))else throw Value.none
 have w1:Sem.wp M (Ctx.of c []) (t >>= f) (Sem.finPost M (Ctx.of c []) λr _=>∃z,r = .ok z) (λe _ s'=>(λ(r:Result) (_:Shared)=>∃z,r = .ok z) (.error e) s') p s:=by
  rw[Sem.wp_bind']
  refine Sem.wp_mono M _ t (λa p' s' q=>?_) (λ_ _ _ q=>q.elim) p s h1
  show Sem.wp M _ (if Q a then pure (PySem.Fin.done (.ret .none))else throw Value.none:Sem PySem.Fin) _ _ _ _
  rw[if_pos q]
  exact⟨_,rfl⟩
 have w2:Sem.wp M (Ctx.of c []) (t >>= f) (Sem.finPost M (Ctx.of c []) λr _=>∃z,r = .error z) (λe _ s'=>(λ(r:Result) (_:Shared)=>∃z,r = .error z) (.error e) s') p s:=by
  rw[Sem.wp_bind']
  refine Sem.wp_mono M _ t (λa p' s' q=>?_) (λ_ _ _ q=>q.elim) p s h2
  show Sem.wp M _ (if Q a then pure (PySem.Fin.done (.ret .none))else throw Value.none:Sem PySem.Fin) _ _ _ _
  rw[if_neg q]
  exact⟨_,rfl⟩
 obtain⟨r1,s1,a1,z1,e1⟩:=(wp_iff_reach _ _ p s).mp w1
 obtain⟨r2,s2,a2,z2,e2⟩:=(wp_iff_reach _ _ p s).mp w2
 obtain⟨_,e⟩:=Reach.det a1 a2
 subst e1;subst e2
 cases e
def QT {α:Type}(lt:Nat->Nat->Bool):KasT α->α
 | .ret a=>a
 | .ask i j k=>QT lt (k (lt i j))
def TOk {α:Type}(n:Nat) (R:α->Prop):KasT α->Prop
 | .ret a=>R a
 | .ask i j k=>i<n/\j<n/\∀b,TOk n R (k b)
theorem TOk.bind {α β:Type}{n:Nat}{R:α->Prop}{R':β->Prop}{f:α->KasT β}(hf:∀a,R a->TOk n R' (f a)):∀t:KasT α,TOk n R t->TOk n R' (t.bind f)
 | .ret a,h=>hf a h
 | .ask i j k,h=>⟨h.1,h.2.1,λb=>TOk.bind hf (k b) (h.2.2 b)⟩
theorem TOk.run {α:Type}{n:Nat}{R:α->Prop}{lt:Nat->Nat->Bool}:∀t:KasT α,TOk n R t->R (QT lt t)
 | .ret a,h=>h
 | .ask i j k,h=>TOk.run (k (lt i j)) (h.2.2 _)
theorem TOk.wp {α:Type}{n:Nat}{R:α->Prop}{lt:Nat->Nat->Bool}{cmp:Nat->Nat->(Bool->Shared->Prop)->Shared->Prop}{s:Shared}(hc:∀i j C,i<n->j<n->C (lt i j) s->cmp i j C s){Q:α->Shared->Prop}:∀t:KasT α,TOk n R t->Q (QT lt t) s->t.kasWp cmp Q s
 | .ret a,h,q=>q
 | .ask i j k,h,q=>hc i j _ h.1 h.2.1 (TOk.wp hc (k (lt i j)) (h.2.2 _) q)
def Bel (n:Nat) (p:Array Nat):Prop:=0<n/\∀x∈p.toList,x<n
theorem Bel.at {n:Nat}{p:Array Nat}(h:Bel n p) (k:Nat):p.getD k 0<n:=by
 unfold Array.getD
 split
 ·exact h.2 _ (by simp)
 ·exact h.1
theorem Bel.perm {n:Nat}{p q:Array Nat}(h:Bel n p) (e:q.Perm p):Bel n q:=⟨h.1,λx m=>h.2 x ((Array.perm_iff_toList_perm.mp e).mem_iff.mp m)⟩
theorem Bel.rev {n:Nat}{p:Array Nat}(h:Bel n p) (i j:Nat):Bel n (kas_rev p i j):=h.perm (mirror_perm _ _ _ _)
theorem Qv {n:Nat}{p:Array Nat}(h:Bel n p):∀f k,TOk n (λ_=>True) (kas_asc p f k)
 | 0,_=>trivial
 | f+1,k=>⟨h.at _,h.at _,λb=>by
  cases b with
  | true=>exact trivial
  | false=>exact Qv h f (k+1)⟩
theorem Za {n:Nat}:∀f p k q,Bel n p->TOk n (λr=>Bel n r.1) (kas_desc f p k q)
 | 0,_,_,_,h=>h
 | f+1,p,k,q,h=>⟨h.at _,h.at _,λb=>by
  cases b with
  | true =>
   show TOk n _ (if q>0 then _ else _)
   by_cases hq:q>0
   ·rw[if_pos hq];exact Za f _ _ _ (h.rev _ _)
   ·rw[if_neg hq];exact Za f _ _ _ h
  | false =>
   refine⟨h.at _,h.at _,λd=>?_⟩
   cases d with
   | true=>exact h
   | false=>exact Za f _ _ _ h⟩
theorem XU {n k m:Nat}{p:Array Nat}(h:Bel n p):TOk n (λr=>Bel n r.2) (kas_tail3 k m p):=by
 refine TOk.bind (R:=λ_=>True) (λ_ _=>?_) _ (Qv (h.rev 0 k) _ _)
 exact h.rev 0 k
theorem QZ {n k m:Nat}{p:Array Nat}(h:Bel n p):TOk n (λr=>Bel n r.2) (kas_descPart k m p):=by
 refine TOk.bind (λr hr=>?_) _ (Za _ _ _ _ h)
 by_cases hq:r.2.2>0
 ·rw[if_pos hq];exact XU (Bel.rev hr _ _)
 ·rw[if_neg hq];exact XU hr
theorem J0 {n m:Nat}{p:Array Nat}(h:Bel n p):TOk n (λr=>Bel n r.2) (kas_count m p):=by
 refine TOk.bind (λk _=>?_) _ (Qv h _ _)
 by_cases e1:(k == m)=true
 ·rw[if_pos e1];exact h
 ·rw[if_neg e1]
  by_cases e2:k>1
  ·rw[if_pos e2]
   refine⟨h.at _,h.at _,λb=>?_⟩
   cases b with
   | true=>exact h
   | false=>exact QZ (h.rev 0 k)
  ·rw[if_neg e2];exact QZ h
theorem ZE {n k:Nat}{p:Array Nat}(h:Bel n p):∀f l r,TOk n (λ_=>True) (kas_place p k f l r)
 | 0,_,_=>trivial
 | f+1,l,r=>by
  unfold kas_place
  by_cases e:l>=r
  ·rw[if_pos e];exact trivial
  ·rw[if_neg e]
   refine⟨h.at _,h.at _,λb=>?_⟩
   cases b with
   | true=>exact ZE h f _ _
   | false=>exact ZE h f _ _
theorem Js {n:Nat}:∀f p k,Bel n p->TOk n (Bel n) (kas_bin f p k)
 | 0,_,_,h=>h
 | f+1,p,k,h=>TOk.bind (λl _=>Js f _ _ (h.perm (bubble_perm _ _ _))) _ (ZE h _ _ _)
theorem Q0 {n:Nat}(h:0<n):TOk n (Bel n) (kas_sort n):=by
 have h0:Bel n (List.toArray (List.range n)):=⟨h,λx m=>by simpa using m⟩
 refine TOk.bind (λr hr=>?_) _ (J0 h0)
 by_cases e:r.1<n
 ·rw[if_pos e];exact Js _ _ _ hr
 ·rw[if_neg e];exact hr
end L2
end
section
set_option maxHeartbeats 4000000
set_option Elab.async false
set_option linter.all false
set_option maxRecDepth 100000
namespace L2
open PySem PySem.W PyProof.Rows
def qN (r:Nat->Int) (n:Nat):Array Keyed:=((List.range n).map λi=>((.int (r i) 0,.int i 0):Keyed)).toArray
theorem vq (r:Nat->Int) (n:Nat):(qN r n).size=n:=by simp[qN]
theorem ZQ {r:Nat->Int}{n i:Nat}(h:i<n):kas_item (qN r n) i=(.int (r i) 0,.int i 0):=by
 unfold kas_item Array.getD
 rw[dif_pos (by rw[vq];exact h)]
 simp[qN]
theorem VF (prog:Program) (w:World) (s:Shared){n:Nat}(h2:2<=n) (h64:n<64) (r:Nat->Int) (p:Array Nat) (hp:p=QT (λi j=>decide (r i<r j)) (kas_sort n)) :
  p.toList.Perm (List.range n)/\(p.toList.map r).Pairwise (·<=·):=by
 have tk:=Q0 (n:=n) (by omega)
 have hb:Bel n p:=hp ▸ TOk.run _ tk
 let A0:Around:={ handled:=(Ctx.of default []).handled,depth:=frameCount (Ctx.of default []).below+(Ctx.of default []).code.weight,units:=(Ctx.of default []).units }
 have hin:(Ctx.of default []).In A0:=⟨rfl,Nat.le_refl _,(λl h=>by cases h),(λg h=>by cases h),Nat.le_refl _⟩
 have est:arrOf (kas_st oneType' (qN r n) (List.toArray (List.range n)))=qN r n:=by
  have e:=kas_range (qN r n)
  rw[vq]at e
  exact e
 have k1:kasC (model prog w) A0 (λ_ _=>False) sortRuns' (λ_ st' _=>arrOf st'=p.map (kas_item (qN r n))) (kas_st oneType' (qN r n) (List.toArray (List.range n))) s:=by
  refine kas_runs (G:=λp' _=>p'=p) h2 h64 (λp' st' s' a1 a2 a3 a4=>by subst a4;exact a2) (TOk.wp (n:=n) (lt:=λi j=>decide (r i<r j)) (λi j C hi hj hC=>?_) _ tk hp.symm)
  unfold kas_cmp
  rw[ZQ hi,ZQ hj]
  exact kat_lt_int hC
 have k2:wpS (model prog w) A0 (λ_ _=>False) s sortRuns' (λ_ st'=>(arrOf st').Perm (qN r n)/\SortedTo (arrOf st') (qN r n).size) (kas_st oneType' (qN r n) (List.toArray (List.range n))):=by
  refine wpS_sortRuns (a₀:=qN r n) (λq m=>?_) ⟨by rw[est],rfl,rfl,rfl⟩ (by rw[vq];exact h2) (by rw[vq];exact h64) λst' a1 _ a3=>⟨a1,a3⟩
  simp[qN]at m
  obtain⟨i,_,rfl⟩:=m
  exact⟨_,_,rfl⟩
 have main:(p.map (kas_item (qN r n))).Perm (qN r n)/\SortedTo (p.map (kas_item (qN r n))) (qN r n).size:=by
  refine Classical.byContradiction λno=>?_
  refine zd5 (M:=model prog w) (c:=default) (t:=sortRuns'.run (kas_st oneType' (qN r n) (List.toArray (List.range n)))) (Q:=λq=>(arrOf q.2).Perm (qN r n)/\SortedTo (arrOf q.2) (qN r n).size) (p:=default) (s:=s) ?_ ?_
  ·exact Sem.wp_mono _ _ _ (λa _ _ q=>q.2) (λ_ _ _ q=>q) _ _ (k2 _ default hin)
  ·refine Sem.wp_mono _ _ _ (λa _ _ q=>?_) (λ_ _ _ q=>q) _ _ (k1 _ default hin)
   rw[q];exact no
 have lt:∀i,(h:i<p.size)->p[i]<n:=λi h=>hb.2 _ (by simp)
 refine⟨?_,?_⟩
 ·have e:=(Array.perm_iff_toList_perm.mp main.1).map (λk:Keyed=>(numOf k.2).toNat)
  have e1:((p.map (kas_item (qN r n))).toList.map λk:Keyed=>(numOf k.2).toNat)=p.toList:=by
   rw[Array.toList_map,List.map_map]
   conv=>rhs;rw[<-List.map_id p.toList]
   refine List.map_congr_left λi m=>?_
   show (numOf (kas_item (qN r n) i).2).toNat=i
   rw[ZQ (hb.2 i m)]
   rfl
  have e2:((qN r n).toList.map λk:Keyed=>(numOf k.2).toNat)=List.range n:=by
   simp[qN,Function.comp_def,numOf]
  rw[e1,e2]at e
  exact e
 ·have hs:=main.2
  rw[vq]at hs
  have hsz:p.size=n:=by
   have:=main.1.size_eq
   rw[Array.size_map,vq]at this
   exact this
  have hK:∀i (h:i<p.size),K (p.map (kas_item (qN r n))) i=r p[i]:=λi h=>by
   unfold K
   rw[Array.getElem?_map,Array.getElem?_eq_getElem h]
   show numOf (kas_item (qN r n) p[i]).1=_
   rw[ZQ (lt i h)]
   rfl
  rw[List.pairwise_iff_getElem]
  intro i j hi hj hij
  simp only[List.length_map,Array.length_toList]at hi hj
  have:=hs i j (by omega) (by omega)
  rw[hK i hi,hK j hj]at this
  simpa using this
def xM:List Int->List Int->Bool
 | [],[]=>false
 | [],_::_=>true
 | _::_,[]=>false
 | a::x,b::y=>if a=b then xM x y else decide (a<b)
theorem QG:∀x,xM x x=false
 | []=>rfl
 | a::x=>by rw[xM,if_pos rfl];exact QG x
theorem jF:∀{x y z},xM x y=true->xM y z=true->xM x z=true
 | [],[],_,h,_=>by simp[xM]at h
 | [],_::_,[],_,h=>by simp[xM]at h
 | [],_::_,_::_,_,_=>rfl
 | _::_,[],_,h,_=>by simp[xM]at h
 | _::_,_::_,[],_,h=>by simp[xM]at h
 | a::x,b::y,c::z,h1,h2=>by
  rw[xM]at *
  by_cases e1:a=b
  ·subst e1
   by_cases e2:a=c
   ·subst e2
    simp only[if_true]at *
    exact jF h1 h2
   ·rw[if_neg e2]at *;exact h2
  ·rw[if_neg e1]at h1
   by_cases e2:b=c
   ·subst e2
    rw[if_neg e1];exact h1
   ·rw[if_neg e2]at h2
    have h1:=of_decide_eq_true h1
    have h2:=of_decide_eq_true h2
    rw[if_neg (by omega)]
    exact decide_eq_true (by omega)
theorem QH:∀{x y},xM x y=false->xM y x=false->x=y
 | [],[],_,_=>rfl
 | [],_::_,h,_=>by simp[xM]at h
 | _::_,[],_,h=>by simp[xM]at h
 | a::x,b::y,h1,h2=>by
  rw[xM]at h1 h2
  by_cases e:a=b
  ·subst e
   simp only[if_true]at h1 h2
   rw[QH h1 h2]
  ·rw[if_neg e]at h1
   rw[if_neg (Ne.symm e)]at h2
   have h1:=of_decide_eq_false h1
   have h2:=of_decide_eq_false h2
   omega
theorem zbF {x y z} (h1:xM y x=false) (h2:xM z y=false):xM z x=false:=by
 cases h:xM z x with
 | false=>rfl
 | true =>
  cases h3:xM x y with
  | true=>rw[jF h h3]at h2;cases h2
  | false=>have e:=QH h3 h1;subst e;rw[h]at h2;cases h2
def vD (ks:List (List Int)) (x:List Int):Int:=((ks.countP λy=>xM y x:Nat):Int)
theorem XH {α:Type}{p q:α->Bool}:∀{l:List α},(∀x,p x=true->q x=true)->(∃x∈l,p x=false/\q x=true)->l.countP p<l.countP q
 | [],_,⟨_,m,_⟩=>by simp at m
 | a::l,hi,⟨x,m,h1,h2⟩=>by
  have le:=List.countP_mono_left (l:=l) (p:=p) (q:=q) (λy _=>hi y)
  rw[List.countP_cons,List.countP_cons]
  rcases List.mem_cons.mp m with rfl | m
  ·rw[h1,h2];simp;omega
  ·have ih:=XH (l:=l) hi ⟨x,m,h1,h2⟩
   cases ha:p a with
   | true=>rw[hi a ha];simp;exact ih
   | false=>cases q a <;> simp <;> omega
theorem zaT {ks:List (List Int)}{x y:List Int}(hx:x∈ks):(vD ks x<vD ks y)↔xM x y=true:=by
 unfold vD
 constructor
 ·intro h
  cases e:xM x y with
  | true=>rfl
  | false =>
   have:=List.countP_mono_left (l:=ks) (p:=λz=>xM z y) (q:=λz=>xM z x) (λz _ hz=>by
    cases h3:xM z x with
    | true=>rfl
    | false=>rw[zbF e h3]at hz;cases hz)
   omega
 ·intro h
  have:=XH (l:=ks) (p:=λz=>xM z x) (q:=λz=>xM z y) (λz hz=>jF hz h) ⟨x,hx,QG x,h⟩
  omega
end L2
end
section
set_option maxHeartbeats 4000000
set_option Elab.async false
set_option linter.all false
set_option maxRecDepth 100000
namespace L2
open PySem PySem.W PyProof.Rows
section
variable {prog:Program}{w:World}{A:Around}{E:Value->Shared->Prop}{s:Shared}
theorem zbS {f:Bool}{a b:Int}{t u:Tok}{Q:Bool->Shared->Prop}(h:Q (decide (a<b)) s):wpAny (model prog w) A (oneLt' f (.int a t) (.int b u)) Q E s:=by
 cases f with
 | true=>exact oneLt_int h
 | false=>exact kat_one _ _ (wpAny_lt_int (Q:=W.BoolBack Q) h)
theorem zbG {Q:Bool->Shared->Prop}{b fin:Bool}{xs:List Value}{ns:List Int}(hx:IntsAre xs ns):∀{ys:List Value}{ms:List Int}(i:Nat),IntsAre ys ms->fin=decide (ns.length<ms.length)->Q (xM ns ms) s->KatLex prog w A b fin Q (xs.zip ys) i s:=by
 induction hx with
 | nil =>
  intro ys ms i hy hf h
  cases hy with
  | nil=>subst hf;exact kat_nil h
  | cons m u _=>subst hf;exact kat_nil (by simpa [xM]using h)
 | cons n t hx ih =>
  intro ys ms i hy hf h
  cases hy with
  | nil=>subst hf;exact kat_nil (by simpa [xM]using h)
  | @cons m u ys' ms' hy =>
   rw[List.zip_cons_cons]
   refine kat_cons (wpAny_eqBool_int ?_)
   rw[xM]at h
   by_cases e:n=m
   ·subst e
    rw[if_pos rfl]at h
    rw[beq_self_eq_true]
    exact kat_yes (ih (i+1) hy (by rw[hf];simp) h)
   ·rw[if_neg e]at h
    rw[beq_eq_false_iff_ne.mpr e]
    exact kat_no (zbS h)
def zed (h:Heap) (v:Value) (k:List Int):Prop:=∃a o xs n,v = .ref a/\h.get? a=some o/\o.cls = .type "tuple"/\o.data = .seq xs n/\IntsAre xs.toList k/\k≠[]
inductive vb (h:Heap):List Value->List (List Int)->Prop
 | nil:vb h [] []
 | cons {v:Value}{k:List Int}{vs:List Value}{ks:List (List Int)} (a:zed h v k) (t:vb h vs ks):vb h (v::vs) (k::ks)
theorem vb.len {h:Heap}{vs:List Value}{ks:List (List Int)} (t:vb h vs ks):vs.length=ks.length:=by
 induction t with
 | nil=>rfl
 | cons a t ih=>simp[ih]
theorem vb.get {h:Heap}{vs:List Value}{ks:List (List Int)} (t:vb h vs ks):∀{i:Nat},i<vs.length->zed h (vs.getD i .none) (ks.getD i []):=by
 induction t with
 | nil=>intro i hi;simp at hi
 | cons a t ih =>
  intro i hi
  cases i with
  | zero=>exact a
  | succ i=>simpa using ih (by simpa using hi)
theorem vb.keep {h h':Heap}{vs:List Value}{ks:List (List Int)} (t:vb h vs ks) (k:∀v∈vs,∀a o,v = .ref a->h.get? a=some o->h'.get? a=some o):vb h' vs ks:=by
 induction t with
 | nil=>exact .nil
 | @cons v q vs ks a t ih =>
  obtain⟨a,o,xs,n,rfl,ho,r⟩:=a
  exact .cons ⟨a,o,xs,n,rfl,k _ (.head _) a o rfl ho,r⟩ (ih λv m=>k v (.tail _ m))
theorem vb.firsts {h:Heap}{vs:List Value}{ks:List (List Int)} (t:vb h vs ks):∃fs,KatTups h vs fs/\fs.length=vs.length/\∀f∈fs,∃n u,f=Value.int n u:=by
 induction t with
 | nil=>exact⟨[],KatTups.nil,rfl,λ_ m=>by simp at m⟩
 | @cons v q vs ks a t ih =>
  obtain⟨fs,k1,k2,k3⟩:=ih
  obtain⟨a,o,xs,n,rfl,ho,hc,hd,hi,hne⟩:=a
  obtain⟨l,rfl⟩:∃l:List Value,xs=l.toArray:=⟨xs.toList,by simp⟩
  cases q with
  | nil=>exact absurd rfl hne
  | cons z q =>
   have hi':IntsAre l (z::q):=by simpa using hi
   cases hi' with
   | cons _ u hi''=>exact⟨_::fs,KatTups.cons ho hc hd (by simp;rfl) k1,by simp[k2],λf m=>by
     rcases List.mem_cons.mp m with rfl | m
     ·exact⟨_,_,rfl⟩
     ·exact k3 f m⟩
def Xy (vs:List Value) (ks:List (List Int)) (out:List Value):Prop:=∃ps:List (List Int×Value),ps.Perm (ks.zip vs)/\out=ps.map Prod.snd/\ps.Pairwise λa b=>xM b.1 a.1=false
theorem za7 {n:Nat}{vs:List Value}{ks:List (List Int)} (hv:vs.length=n) (hk:ks.length=n) (h2:2<=n) (h64:n<64) (prog:Program) (w:World) (s:Shared){lt:Nat->Nat->Bool}(hlt:∀i j,lt i j=decide (vD ks (ks.getD i [])<vD ks (ks.getD j []))) :
  Xy vs ks ((QT lt (kas_sort n)).toList.map λi=>vs.getD i Value.none):=by
 have elt:lt=λi j=>decide (vD ks (ks.getD i [])<vD ks (ks.getD j [])):=by funext i j;exact hlt i j
 obtain⟨hp,hs⟩:=VF prog w s h2 h64 (λi=>vD ks (ks.getD i [])) _ rfl
 rw[<-elt]at hp hs
 refine⟨(QT lt (kas_sort n)).toList.map λi=>(ks.getD i [],vs.getD i Value.none),?_,by simp,?_⟩
 ·have e:(List.range n).map (λi=>(ks.getD i [],vs.getD i Value.none))=ks.zip vs:=by
   refine List.ext_getElem (by simp[hv,hk]) λi h1 h2=>?_
   have hi:i<n:=by simpa using h1
   simp[hv,hk,hi]
  rw[<-e]
  exact hp.map _
 ·rw[List.pairwise_map]at hs ⊢
  refine List.Pairwise.imp_of_mem (λ{a b} ma mb q=>?_) hs
  have hb:b<n:=by simpa using hp.mem_iff.mp mb
  show xM (ks.getD b []) (ks.getD a [])=false
  cases e:xM (ks.getD b []) (ks.getD a [])with
  | false=>rfl
  | true =>
   have hm:ks.getD b []∈ks:=by
    have:b<ks.length:=by omega
    simp[this]
   have:=(zaT hm).mpr e
   omega
theorem zbH {a:Addr}{vs:List Value}{ks:List (List Int)}{n:Nat}{P:PySem.Fin->Shared->Prop}(ho:s.heap.get? a=some (seqObj "list" vs.toArray n)) (hT:vb s.heap vs ks) (hna:∀v∈vs,v≠.ref a) (h64:vs.length<64)
  (h:∀h' out c,(∀b o,b≠a->s.heap.get? b=some o->h'.get? b=some o)->h'.get? a=some (seqObj "list" (List.toArray out) c)->Xy vs ks out->P (.done (.ret .none)) { s with heap:=h' }) :
  wpAny (model prog w) A (Builtin.«list.sort» ⟨[.ref a],[]⟩) P E s:=by
 have hlen:=hT.len
 have ha:a<s.heap.objs.size:=Heap.lt_size ho
 obtain⟨e1,ho1⟩:∃e1,(s.heap.update a (Obj.mapSeq λ_=>(#[]:Array Value))).get? a=some (seqObj "list" #[] e1):=⟨_,get?_update_seq ho λ_=>#[]⟩
 have kp:∀b o,b≠a->s.heap.get? b=some o->(((s.heap.update a (Obj.mapSeq λ_=>(#[]:Array Value))).push (seqObj "tuple" vs.toArray 0)).push (seqObj "list" #[] 0)).get? b=some o:=λb o hb e =>
  Heap.get?_push_of_some _ (Heap.get?_push_of_some _ (((Heap.SameBut.update s.heap a _).2 b hb).trans e))
 have ho6:(((s.heap.update a (Obj.mapSeq λ_=>(#[]:Array Value))).push (seqObj "tuple" vs.toArray 0)).push (seqObj "list" #[] 0)).get? a=some (seqObj "list" #[] e1):=Heap.get?_push_of_some _ (Heap.get?_push_of_some _ ho1)
 have hT6:vb (((s.heap.update a (Obj.mapSeq λ_=>(#[]:Array Value))).push (seqObj "tuple" vs.toArray 0)).push (seqObj "list" #[] 0)) vs ks:=hT.keep λv m b o e q=>kp b o (λz=>hna v m (by rw[e,z])) q
 rw[list_sort_plain]
 refine wpAny_bind (listItems_at ho rfl (wpAny_bind (listUpdate_at ho rfl (wpAny_bind (seqEpoch_at ho1 rfl (wpAny_bind (wpAny_newTuple (wpAny_bind (wpAny_newList (wpAny_holding ?_) (Nat.zero_le _))) (by show vs.length<=_;rw[sizeLine_eq];omega))))) (by rw[List.size_toArray,sizeLine_eq];omega) (Nat.zero_le _))))
 show wpAny (model prog w) A _ P E { s with heap:=((s.heap.update a (Obj.mapSeq λ_=>(#[]:Array Value))).push (seqObj "tuple" vs.toArray 0)).push (seqObj "list" #[] 0) }
 dsimp only
 have fin:∀(out:List Value) (c:Nat),out.length=vs.length->Xy vs ks out->(((((s.heap.update a (Obj.mapSeq λ_=>(#[]:Array Value))).push (seqObj "tuple" vs.toArray 0)).push (seqObj "list" #[] 0)).update a (Obj.mapSeq λ_=>List.toArray out)).get? a=some (seqObj "list" (List.toArray out) c)) →
   P (.done (.ret .none)) { s with heap:=(((s.heap.update a (Obj.mapSeq λ_=>(#[]:Array Value))).push (seqObj "tuple" vs.toArray 0)).push (seqObj "list" #[] 0)).update a (Obj.mapSeq λ_=>List.toArray out) }:=λout c _ hz hc =>
  h _ out c (λb o hb e=>((Heap.SameBut.update _ a _).2 b hb).trans (kp b o hb e)) hc hz
 by_cases h2:vs.toArray.size<2
 ·rw[if_pos h2,if_pos h2]
  refine wpAny_bind (wpAny_pure ?_)
  rw[StateT.run_pure]
  refine wpAny_bind (wpAny_pure ?_)
  have eo:(arrOf (SortSt.mk' general' (vs.toArray.zip vs.toArray) #[] 7 none)).map (·.2)=List.toArray vs:=by
   show (vs.toArray.zip vs.toArray).map (·.2)=_
   apply Array.toList_inj.mp
   simp[List.map_snd_zip]
  dsimp only
  refine wpAny_bind (seqEpoch_at ho6 rfl (wpAny_bind (listUpdate_at ho6 rfl ?_ (Nat.zero_le _) (by rw[eo,List.size_toArray,sizeLine_eq];omega))))
  simp only[bne_self_eq_false,Bool.false_eq_true,if_false]
  rw[eo]
  refine wpAny_pure (fin vs _ rfl ⟨ks.zip vs,.refl _,by rw[List.map_snd_zip];omega,?_⟩ (get?_update_seq ho6 _))
  rw[List.size_toArray]at h2
  match ks,vs,hlen,h2 with
  | [],[],_,_=>exact .nil
  | [k],[v],_,_=>exact List.pairwise_singleton _ _
  | _::_::_,_::_::_,_,h2=>simp at h2;omega
 ·rw[if_neg h2,if_neg h2]
  rw[List.size_toArray]at h2
  obtain⟨fs,k1,k2,k3⟩:=hT6.firsts
  refine wpAny_bind (kat_kind (T:=.type "int") k1 (by omega) (λv m=>?_) (by rfl) ?_)
  ·obtain⟨z,u,rfl⟩:=k3 v m
   exact Looks.of_pure rfl
  have hlt:∀i j,decide (vD ks (ks.getD i [])<vD ks (ks.getD j []))=decide (vD ks (ks.getD i [])<vD ks (ks.getD j [])):=λ_ _=>rfl
  have so:=za7 (n:=vs.length) (ks:=ks) rfl hlen.symm (by omega) h64 prog w s (lt:=λi j=>decide (vD ks (ks.getD i [])<vD ks (ks.getD j []))) hlt
  have tk:=Q0 (n:=vs.length) (by omega)
  refine wpAny_bind (wpAny_mono (kat_run (ks:=vs) (vs:=vs) (κ:=tuples' (Value.type "int" != Value.type "tuple")) (Q:=λst' s'=>s' = { s with heap:=((s.heap.update a (Obj.mapSeq λ_=>(#[]:Array Value))).push (seqObj "tuple" vs.toArray 0)).push (seqObj "list" #[] 0) }/\failedOf st'=none/\∃p:Array Nat,p.size=vs.length/\arrOf st'=p.map (kas_item (vs.toArray.zip vs.toArray))/\p=QT (λi j=>decide (vD ks (ks.getD i [])<vD ks (ks.getD j []))) (kas_sort vs.length))
   (G:=λp s'=>s' = { s with heap:=((s.heap.update a (Obj.mapSeq λ_=>(#[]:Array Value))).push (seqObj "tuple" vs.toArray 0)).push (seqObj "list" #[] 0) }/\p=QT (λi j=>decide (vD ks (ks.getD i [])<vD ks (ks.getD j []))) (kas_sort vs.length)) rfl (by omega) h64 (λp st' s' a1 a2 a3 a4=>⟨a4.1,a3,p,a1,a2,a4.2⟩)
   (TOk.wp (n:=vs.length) (lt:=λi j=>decide (vD ks (ks.getD i [])<vD ks (ks.getD j []))) (λi j C hi hj hC=>?_) _ tk ⟨rfl,rfl⟩)) ?_ λ_ _ e=>e)
  ·unfold kas_ask
   obtain⟨x,ox,xs,nx,ex,hx,_,dx,ix,_⟩:=hT6.get hi
   obtain⟨y,oy,ys,ny,ey,hy,_,dy,iy,_⟩:=hT6.get hj
   rw[ex,ey]
   have hm:ks.getD i []∈ks:=by
    have:i<ks.length:=by omega
    simp[this]
   refine kat_lt hx dx hy dy (zbG ix 0 iy ?_ ?_)
   ·rw[<-ix.length,<-iy.length];simp
   ·have e:xM (ks.getD i []) (ks.getD j [])=decide (vD ks (ks.getD i [])<vD ks (ks.getD j [])):=by
     cases q:xM (ks.getD i []) (ks.getD j [])with
     | true=>exact(decide_eq_true ((zaT hm).mpr q)).symm
     | false=>exact(decide_eq_false λz=>by rw[(zaT hm).mp z]at q;cases q).symm
    rw[e];exact hC
  ·rintro ⟨⟨⟩,st'⟩ s' ⟨es,hf,p,hp,har,ep⟩
   dsimp only at es hf har
   subst es
   have eo:=kat_snds (ks:=vs) (vs:=vs) rfl har
   dsimp only
   have ln:(p.toList.map λi=>vs.getD i Value.none).length=vs.length:=by simp[hp]
   refine wpAny_bind (seqEpoch_at ho6 rfl (wpAny_bind (listUpdate_at ho6 rfl ?_ (Nat.zero_le _) (by rw[eo,List.size_toArray,ln,sizeLine_eq];omega))))
   rw[hf]
   simp only[bne_self_eq_false,Bool.false_eq_true,if_false]
   rw[eo]
   rw[<-ep]at so
   exact wpAny_pure (fin _ _ ln so (get?_update_seq ho6 _))
end
end L2
end
section
set_option maxHeartbeats 4000000
set_option Elab.async false
set_option linter.all false
set_option maxRecDepth 100000
namespace L2
open PySem PySem.W PyProof.Rows
def jM (h:Heap) (d:Addr) (es:Array DictEntry) (ep:Nat):Prop:=∃o,h.get? d=some o/\o.ExactDict/\o.data = .dict es ep
theorem jM.ty {s:Shared}{d:Addr}{es:Array DictEntry}{ep:Nat}(x:jM s.heap d es ep):s.TypeIs (.ref d) "dict":=let ⟨o,ho,hc,_⟩:=x;⟨o,ho,hc.1⟩
theorem jM.to {h h':Heap}{d:Addr}{es:Array DictEntry}{ep:Nat}(x:jM h d es ep) (k:∀o,h.get? d=some o->h'.get? d=some o):jM h' d es ep:=let ⟨o,ho,r⟩:=x;⟨o,k o ho,r⟩
section
variable {prog:Program}{w:World}{A:Around}{E:Value->Shared->Prop}{s:Shared}{it d v:Addr}{i ep:Nat}{es:Array DictEntry}
theorem zaS {Q:Option Value->Shared->Prop}(hit:s.heap.IsKeyIter it d i es.size ep) (hm:jM s.heap d es ep) (hi:i<es.size)
  (hQ:∀h',h'.IsKeyIter it d (i+1) es.size ep->Heap.SameBut it s.heap h'->Q (some es[i].key) { s with heap:=h' }):wpAny (model prog w) A (pyNext (.ref it)) Q E s:=by
 obtain⟨o,ho,hc,hd⟩:=id hit
 obtain⟨od,hod,hcd,hdd⟩:=id hm
 unfold pyNext
 refine wpAny_bind (wpAny_attempt (wpAny_callSpecial?_slot (name:=Str.ofString "__next__") hit.typeIs PySem.F.slot_dict_keyiterator_next
  (wpAny_call_entry PySem.F.slot_dict_keyiterator_next hit.typeIs PySem.F.entry_dict_keyiterator_next (wpAny_bind (wpAny_pure (wpAny_bind (wpAny_bind ?_)))) (PySem.F.args_dict_keyiterator_next_1 _))))
 first | refine wpAny_bind (wpAny_typeNameOfWhole_keyiter hit.typeIs (wpAny_pure (wpAny_bind (wpAny_fieldsOf ho hd ?_)))) | refine wpAny_bind (wpAny_typeNameOf_keyiter hit.typeIs (wpAny_pure (wpAny_bind (wpAny_fieldsOf ho hd ?_))))
 have hown:Builtin.Dict_items.ownsTuple "dict_keyiterator" = false:=by decide
 simp only[hown,Bool.false_eq_true,if_false]
 show wpAny _ _ (if(Value.ref d == Value.none)=true then _ else _) _ _ s
 rw[if_neg (show ¬((Value.ref d == Value.none)=true)from Bool.false_ne_true)]
 refine wpAny_bind (wpAny_pure (wpAny_bind (wpAny_dictEntries hod hdd ?_)))
 rw[if_neg (by simp)]
 refine wpAny_bind (wpAny_pure (wpAny_bind (wpAny_dictEpoch hod hdd ?_)))
 rw[if_neg (by simp)]
 refine wpAny_pure ?_
 simp only[show ¬((i:Int)<0)from by omega,if_false,Int.toNat_natCast,Array.getElem?_eq_getElem hi]
 refine wpAny_bind ?_
 first | refine wpAny_bind (wpAny_typeNameOfWhole_keyiter hit.typeIs (wpAny_pure (wpAny_bind (wpAny_isOneOf_keyiter hit.typeIs ?_)))) | refine wpAny_bind (wpAny_typeNameOf_keyiter hit.typeIs (wpAny_pure (wpAny_bind (wpAny_isOneOf_keyiter hit.typeIs ?_))))
 show wpAny _ _ (setField (.ref it) 1 (rawInt ((i:Int)+1)) >>= _) _ _ s
 have hit':(s.heap.update it (Obj.mapFields (·.setIfInBounds 1 (rawInt ((i:Int)+1))))).IsKeyIter it d (i+1) es.size ep :=
  ⟨_,Heap.get?_update_self _ ho (Obj.isFreed_of_fields (Obj.data_mapFields hd _)),(Obj.cls_mapFields ..).trans hc,by rw[Obj.data_mapFields hd];simp[rawInt]⟩
 refine wpAny_bind (wpAny_setField ho hd (by simp) (wpAny_bind (wpAny_holding (wpAny_bind (wpAny_isOneOf_keyiter (s:={ s with heap:=s.heap.update it (Obj.mapFields (·.setIfInBounds 1 (rawInt ((i:Int)+1)))) }) hit'.typeIs ?_)))))
 show wpAny _ _ (pure es[i].key) _ _ _
 exact wpAny_pure (wpAny_pure ⟨_,rfl,wpAny_pure (hQ _ hit' (Heap.SameBut.update ..))⟩)
theorem zb0 {Q:Option Value->Shared->Prop}(hh:A.handled=none) (hit:s.heap.IsKeyIter it d es.size es.size ep) (hm:jM s.heap d es ep)
  (hQ:∀h',Heap.ExtBut it s.heap h'->Q none { s with heap:=h' }):wpAny (model prog w) A (pyNext (.ref it)) Q E s:=by
 obtain⟨o,ho,hc,hd⟩:=id hit
 obtain⟨od,hod,hcd,hdd⟩:=id hm
 unfold pyNext
 refine wpAny_bind (wpAny_attempt (wpAny_callSpecial?_slot (name:=Str.ofString "__next__") hit.typeIs PySem.F.slot_dict_keyiterator_next
  (wpAny_call_entry PySem.F.slot_dict_keyiterator_next hit.typeIs PySem.F.entry_dict_keyiterator_next (wpAny_bind (wpAny_pure (wpAny_bind (wpAny_bind ?_)))) (PySem.F.args_dict_keyiterator_next_1 _))))
 first | refine wpAny_bind (wpAny_typeNameOfWhole_keyiter hit.typeIs (wpAny_pure (wpAny_bind (wpAny_fieldsOf ho hd ?_)))) | refine wpAny_bind (wpAny_typeNameOf_keyiter hit.typeIs (wpAny_pure (wpAny_bind (wpAny_fieldsOf ho hd ?_))))
 have hown:Builtin.Dict_items.ownsTuple "dict_keyiterator" = false:=by decide
 simp only[hown,Bool.false_eq_true,if_false]
 show wpAny _ _ (if(Value.ref d == Value.none)=true then _ else _) _ _ s
 rw[if_neg (show ¬((Value.ref d == Value.none)=true)from Bool.false_ne_true)]
 refine wpAny_bind (wpAny_pure (wpAny_bind (wpAny_dictEntries hod hdd ?_)))
 rw[if_neg (by simp)]
 refine wpAny_bind (wpAny_pure (wpAny_bind (wpAny_dictEpoch hod hdd ?_)))
 rw[if_neg (by simp)]
 refine wpAny_pure ?_
 simp only[show ¬((es.size:Int)<0)from by omega,if_false,Int.toNat_natCast,Array.getElem?_eq_none (Nat.le_refl es.size)]
 refine wpAny_bind ?_
 first | refine wpAny_bind (wpAny_typeNameOfWhole_keyiter hit.typeIs (wpAny_pure ?_)) | refine wpAny_bind (wpAny_typeNameOf_keyiter hit.typeIs (wpAny_pure ?_))
 show wpAny _ _ (setField (.ref it) 0 .none >>= _) _ _ s
 refine wpAny_bind (wpAny_setField ho hd (by simp) ?_)
 show wpAny _ _ (newExc (.type "StopIteration") [] >>= _) _ _ _
 refine wpAny_bind ?_
 simp only[newExc,newTuple]
 refine wpAny_bind (wpAny_newObj_type (wpAny_bind (m:=firstArgMember _ _) (wpAny_of_eq (a:=Value.none) (by first | rfl | (simp only[firstArgMember];rfl)) (wpAny_newObj_type ?_ (by size_fits)))) (by size_fits))
 simp only[raiseNew]
 refine wpAny_bind (wpAny_handled ?_)
 rw[show A.in1.handled=none from hh]
 refine wpAny_bind (wpAny_pure (wpAny_throw ?_))
 refine wpAny_bind (wpAny_isInstance (T:="StopIteration") (b:=true) ⟨_,Heap.get?_push_size _ rfl,rfl⟩ isSubtype_stop ?_)
 exact wpAny_pure (hQ _ (((Heap.SameBut.update ..).extBut.push _).push _))
theorem zaR {Q:Value->Shared->Prop}(hv:KdlKeysView s.heap v d) (hm:jM s.heap d es ep)
  (hQ:Q (.ref s.heap.objs.size) { s with heap:=s.heap.push { cls:=.type "dict_keyiterator",data:=.fields #[.ref d,.int 0 0,.int es.size 0,.int ep 0] } }):wpAny (model prog w) A (pyIter (.ref v)) Q E s:=by
 obtain⟨ov,hov,hcv,hdv⟩:=id hv
 obtain⟨o,ho,hc,hdat⟩:=id hm
 refine wpAny_pyIter_slot hv.typeIs kdl_slot_keys_iter (wpAny_call_entry kdl_slot_keys_iter hv.typeIs kdl_entry_keys_iter ?_ (kdl_args_keys_iter _))
 unfold Builtin.«dict_keys.__iter__»
 refine wpAny_bind (wpAny_pure (wpAny_bind ?_))
 unfold Builtin.Dict_items.dictOf
 refine wpAny_bind (wpAny_field hov hdv (x:=.ref d) rfl (wpAny_pure (wpAny_bind ?_)))
 unfold Builtin.Dict_items.newIterator
 refine wpAny_bind (wpAny_dictEntries ho hdat (wpAny_bind (wpAny_dictEpoch ho hdat ?_)))
 have hown:Builtin.Dict_items.ownsTuple "dict_keyiterator" = false:=by decide
 simp only[hown,Bool.false_eq_true,if_false]
 refine wpAny_newObj_type (wpAny_pure ⟨_,rfl,"dict_keyiterator",_,⟨_,Heap.get?_push_size _ rfl,rfl⟩,PySem.F.slot_dict_keyiterator_next.lookup,?_⟩)
 simpa [rawInt]using hQ
theorem zb1:KdlSrc prog w "dict_keys" v d es.size (λi x=>∃e,es[i]? = some e/\x=e.key) (λh=>KdlKeysView h v d/\jM h d es ep) where
 type:=λ_ hm=>hm.1.typeIs
 there:=λ_ hm=>⟨let ⟨_,ho,_⟩:=hm.1;Heap.lt_size ho,let ⟨_,ho,_⟩:=hm.2;Heap.lt_size ho⟩
 keep:=λ_ _ hm hk=>⟨let ⟨o,ho,x⟩:=hm.1;⟨o,hk v (.inl rfl) o ho,x⟩,hm.2.to λo e=>hk d (.inr rfl) o e⟩
 notList:=by decide
 notTuple:=by decide
 hint:=λ_ _ _ _ hm hq=>kdl_hint_keys hm.1.typeIs hq
 iter:=λA0 s0 hh hm=>by
  have hdlt:d<s0.heap.objs.size:=let ⟨_,ho,_⟩:=hm.2;Heap.lt_size ho
  refine⟨_,λi h=>h.IsKeyIter s0.heap.objs.size d i es.size ep/\jM h d es ep,(λ_ _ hq=>zaR hm.1 hm.2 hq),⟨λb hb=>by simp at hb;simp[hb],λi h h' st hk=>⟨st.1.at λo e=>hk _ (by simp) o e,st.2.to λo e=>hk d (by simp) o e⟩,λi s1 Q E hi st hQ=>?_,λs1 Q E st hQ=>?_,λ_ _ _ _ st hQ=>wpAny_pyIter_keyiter st.1 hQ⟩,⟨_,Heap.get?_push_size _ rfl,rfl,rfl⟩,hm.2.to λo e=>Heap.get?_push_of_some _ e⟩
  ·exact zaS st.1 st.2 hi λh' hit' hs'=>hQ _ h' s1.toks ⟨_,Array.getElem?_eq_getElem hi,rfl⟩ ⟨hit',st.2.to λo e=>(hs'.2 d (Nat.ne_of_lt hdlt)).trans e⟩ λb o hb e=>(hs'.2 b (λz=>hb (by simp[z]))).trans e
  ·exact zb0 hh st.1 st.2 λh' he'=>hQ h' s1.toks λb o hb e=>he' b o (λz=>hb (by simp[z])) e
theorem QR {Q:Value->Shared->Prop}(lo:(d == sysModules)=false) (hm:jM s.heap d es ep)
  (h:Q (.ref s.heap.objs.size) { s with heap:=s.heap.push { cls:=.type "dict_keys",data:=.fields #[.ref d] } }):wpAny (model prog w) A (call (.builtin "dict.keys") [.ref d]) Q E s:=by
 refine wpAny_call_entry PySem.F.slot_dict_keys hm.ty PySem.F.entry_dict_keys ?_ (PySem.F.args_dict_keys_1 _)
 show wpAny _ _ (Builtin.«dict.keys» ⟨[.ref d],[]⟩) _ _ s
 unfold Builtin.«dict.keys»
 refine wpAny_bind ?_
 unfold Builtin.Dict.noArgs
 refine wpAny_bind (wpAny_notOrdered_dict hm.ty ?_)
 show wpAny _ _ (pure d) _ _ s
 refine wpAny_pure ?_
 show wpAny _ _ (Builtin.Dict.showsAll d >>= _) _ _ s
 unfold Builtin.Dict.showsAll
 rw[if_neg (by rw[lo];exact Bool.false_ne_true)]
 exact wpAny_bind (wpAny_pure (wpAny_bind (wpAny_newObj_type (wpAny_pure ⟨_,rfl,h⟩))))
theorem JM {x:Addr}{vs:List Value}{ks:List (List Int)}{Q:Value->Shared->Prop}(hT:vb s.heap vs ks) (h64:vs.length<64)
  (hcol:∀R:List Value->Shared->Prop,(∀(h1:Heap) (tk:Nat),(∀b o,s.heap.get? b=some o->h1.get? b=some o)->R vs { s with heap:=h1,toks:=tk })->wpAny (model prog w) A.in1 (collect (.ref x)) R E s)
  (h:∀(h1 h':Heap) (tk:Nat) (out:List Value) (c:Nat),(∀b o,s.heap.get? b=some o->h1.get? b=some o)->(∀b o,h1.get? b=some o->h'.get? b=some o)->h'.get? h1.objs.size=some (seqObj "list" (List.toArray out) c)->Xy vs ks out->Q (.ref h1.objs.size) { s with heap:=h',toks:=tk }) :
  wpAny (model prog w) A (call (.builtin "sorted") [.ref x]) Q E s:=by
 refine Calls.call_function_entry kind_sorted plain_sorted entry_sorted (args_sorted1 _) ?_
 unfold Builtin.«sorted»
 refine wpAny_bind (m:=checkCount "sorted" 1 1 _) (wpAny_pure (wpAny_bind (hcol _ λh1 tk k1=>wpAny_bind (wpAny_newList ?_ (by rw[sizeLine_eq];omega)))))
 have hoL:(h1.push (seqObj "list" vs.toArray 0)).get? h1.objs.size=some (seqObj "list" vs.toArray 0):=Heap.get?_push_size _ rfl
 have kk:∀b o,s.heap.get? b=some o->(h1.push (seqObj "list" vs.toArray 0)).get? b=some o:=λb o e=>Heap.get?_push_of_some _ (k1 b o e)
 show wpAny _ _ _ _ _ { s with heap:=h1.push (seqObj "list" vs.toArray 0),toks:=tk }
 refine wpAny_bind (wpAny_holding (wpAny_call_entry slot_list_sort ⟨_,hoL,rfl⟩ entry_list_sort (zbH (s:={ s with heap:=h1.push (seqObj "list" vs.toArray 0),toks:=tk }) (ks:=ks) hoL (hT.keep λv m b o _ q=>kk b o q) (λv m z=>?_) h64 λh' out c k2 k3 k4=>⟨_,rfl,?_⟩) (args_list_sort _)))
 ·subst z
  have lt:∀{vs:List Value}{ks:List (List Int)},vb s.heap vs ks->Value.ref h1.objs.size∈vs->h1.objs.size<h1.objs.size:=λt=>by
   induction t with
   | nil=>intro m;simp at m
   | cons a t ih =>
    intro m
    rcases List.mem_cons.mp m with e | m
    ·obtain⟨b,o,xs,n,rfl,ho,_⟩:=a
     cases e
     exact Heap.lt_size (k1 _ _ ho)
    ·exact ih m
  exact Nat.lt_irrefl _ (lt hT m)
 ·exact wpAny_pure ⟨_,rfl,h h1 h' tk out c k1 (λb o e=>k2 b o (Nat.ne_of_lt (Heap.lt_size e)) (Heap.get?_push_of_some _ e)) k3 k4⟩
end
end L2
end
section
set_option maxHeartbeats 4000000
set_option Elab.async false
set_option linter.all false
set_option maxRecDepth 100000
namespace L2
open PySem PySem.Spec PyProof.Rows
inductive vm (H:Hp):List V->List (List Int)->Prop
 | nil:vm H [] []
 | cons {a:Addr}{k:List Int}{xs:List V}{ks:List (List Int)} (e:H a=some (.tup (k.map V.int))) (ne:k≠[]) (t:vm H xs ks):vm H (.ref a::xs) (k::ks)
theorem vm.len {H:Hp}{xs:List V}{ks:List (List Int)} (t:vm H xs ks):xs.length=ks.length:=by
 induction t with
 | nil=>rfl
 | cons e ne t ih=>simp[ih]
theorem vm.vals {P:Program}{w:World}{H:Hp}{h:Heap}{xs:List V}{ks:List (List Int)} (ok:HOk P w H h) (t:vm H xs ks):∀{its:List Value},zK xs its->vb h its ks:=by
 induction t with
 | nil=>intro its r;cases r;exact .nil
 | @cons a k xs ks e ne t ih =>
  intro its r
  cases r with
  | cons ru rs =>
   cases ru
   obtain⟨_,ys,rv,o,ho,hc,n,hd⟩:=(show xi P w H h a (.tup (k.map V.int))from ok a _ e)
   exact .cons ⟨a,o,_,n,rfl,ho,hc,hd,by simpa using v3 rv,ne⟩ (ih rs)
def ZZ (xs:List V) (ks:List (List Int)) (ys:List V):Prop:=∃ps:List (List Int×V),ps.Perm (ks.zip xs)/\ys=ps.map Prod.snd/\ps.Pairwise λa b=>xM b.1 a.1=false
inductive Zq:List (List Int×V)->List (List Int×Value)->Prop where
 | nil:Zq [] []
 | cons {k:List Int}{v:V}{u:Value}{l:List (List Int×V)}{m:List (List Int×Value)} (r:zQ v u) (t:Zq l m):Zq ((k,v)::l) ((k,u)::m)
theorem zbn:∀{kz:List (List Int)}{xs:List V}{vs:List Value},zK xs vs->Zq (kz.zip xs) (kz.zip vs)
 | [],_,_,_=>by simp;exact .nil
 | _::_,_,_,.nil=>by simp;exact .nil
 | k::kz,_,_,.cons r t=>by rw[List.zip_cons_cons,List.zip_cons_cons];exact .cons r (zbn t)
theorem zce {l1 l2:List (List Int×Value)} (p:l1.Perm l2):∀{m2:List (List Int×V)},Zq m2 l2->∃m1,m1.Perm m2/\Zq m1 l1:=by
 induction p with
 | nil=>intro m2 h;cases h;exact⟨[],.refl _,.nil⟩
 | cons x p ih=>intro m2 h;cases h with | cons r t=>obtain⟨m1,a,b⟩:=ih t;exact⟨_,a.cons _,.cons r b⟩
 | swap x y l=>intro m2 h;cases h with | cons r t=>cases t with | cons r' t'=>exact⟨_,List.Perm.swap ..,.cons r' (.cons r t')⟩
 | trans p1 p2 ih1 ih2=>intro m2 h;obtain⟨m1,a,b⟩:=ih2 h;obtain⟨m0,c,d⟩:=ih1 b;exact⟨m0,c.trans a,d⟩
theorem zd7 {m:List (List Int×V)}{l:List (List Int×Value)} (h:Zq m l):m.map Prod.fst=l.map Prod.fst:=by
 induction h with
 | nil=>rfl
 | cons r t ih=>simp[ih]
theorem zd8 {m:List (List Int×V)}{l:List (List Int×Value)} (h:Zq m l):zK (m.map Prod.snd) (l.map Prod.snd):=by
 induction h with
 | nil=>exact .nil
 | cons r t ih=>exact .cons r ih
theorem JY {xs:List V}{ks:List (List Int)}{its out:List Value}(rv:zK xs its) (z:Xy its ks out):∃ys,ZZ xs ks ys/\zK ys out:=by
 obtain⟨ps,hp,ho,hw⟩:=z
 obtain⟨ms,hm,hz⟩:=zce hp (zbn rv)
 have hw':(ps.map Prod.fst).Pairwise λa b=>xM b a=false:=List.pairwise_map.mpr hw
 rw[<-zd7 hz]at hw'
 exact⟨ms.map Prod.snd,⟨ms,hm,rfl,List.pairwise_map.mp hw'⟩,ho ▸ zd8 hz⟩
theorem ZZ.len {xs:List V}{ks:List (List Int)}{ys:List V}(h:ZZ xs ks ys) (e:xs.length=ks.length):ys.length=xs.length:=by
 obtain⟨ps,hp,rfl,_⟩:=h
 rw[List.length_map,hp.length_eq,List.length_zip]
 omega
theorem ZZ.tups {H:Hp}{xs:List V}{ks:List (List Int)}{ys:List V}(t:vm H xs ks) (h:ZZ xs ks ys):∃js:List (List Int),vm H ys js/\js.Perm ks/\js.Pairwise λa b=>xM b a=false:=by
 obtain⟨ps,hp,rfl,hw⟩:=h
 have all:∀{xs:List V}{ks:List (List Int)},vm H xs ks->∀p∈ks.zip xs,p.1≠[]/\∃a,p.2 = .ref a/\H a=some (.tup (p.1.map V.int)):=λt=>by
  induction t with
  | nil=>intro p m;simp at m
  | cons e ne t ih =>
   intro p m
   rw[List.zip_cons_cons]at m
   rcases List.mem_cons.mp m with rfl | m
   ·exact⟨ne,_,rfl,e⟩
   ·exact ih p m
 have mk:∀{ps:List (List Int×V)},(∀p∈ps,p.1≠[]/\∃a,p.2 = .ref a/\H a=some (.tup (p.1.map V.int)))->vm H (ps.map Prod.snd) (ps.map Prod.fst):=λ{ps}=>by
  induction ps with
  | nil=>intro _;exact .nil
  | cons p ps ih =>
   intro h
   obtain⟨ne,a,e1,e2⟩:=h p (.head _)
   obtain⟨k,v⟩:=p
   cases e1
   exact .cons e2 ne (ih λq m=>h q (.tail _ m))
 refine⟨ps.map Prod.fst,mk λp m=>all t p (hp.mem_iff.mp m),?_,List.pairwise_map.mpr hw⟩
 have e:=hp.map Prod.fst
 rw[List.map_fst_zip (by have:=t.len;omega)]at e
 exact e
section
variable {X:Cx}{pins:List (Addr×Obj)}{σ:St}{H:Hp}{s:Shared}
theorem VG {xs:List V}{ks:List (List Int)}{its out:List Value}{h1 h':Heap}{tk c:Nat}{Q:VK}(I:Inv X pins σ H s) (t:vm H xs ks) (rv:zK xs its) (h64:xs.length<64) (k1:∀b o,s.heap.get? b=some o->h1.get? b=some o) (k2:∀b o,h1.get? b=some o->h'.get? b=some o)
  (hD:h'.get? h1.objs.size=some (seqObj "list" (List.toArray out) c)) (z:Xy its ks out) (q:∀D ys,H D=none->ZZ xs ks ys->Q (.ref D) (upd H D (.lst ys))):EP X pins σ Q (.ref h1.objs.size) { s with heap:=h',toks:=tk }:=by
 obtain⟨ys,hy,hv⟩:=JY rv z
 have J:=I.kept (t':=tk) k1
 refine⟨.ref h1.objs.size,_,J.laid (t':=tk) (o:=.lst ys) k2 (Nat.le_refl _) ⟨?_,out,c,hv,hD⟩,rfl,q _ ys (J.hok.fresh (Nat.le_refl _)) hy⟩
 rw[hy.len t.len,sizeLine_eq];omega
abbrev KV2 (v d:Addr):HO:=.ext λh=>PySem.W.KdlKeysView h v d
def zd1 (td:TE):TE:=λσ H Q=>td σ H λx H1=>∃d kvs,x = .ref d/\H1 d=some (.dT kvs)/\∀v,H1 v=none->Q (.ref v) (upd H1 v (KV2 v d))
theorem zaF {o:Expr}{td:TE}{apos cpos:Pos}(ho:PE X o td) (hbase:attributeBase o "keys" X.env (eval o X.env)=eval o X.env:=by rfl) (hline:(apos.endLine == cpos.line)=true:=by rfl) :
  PE X (.Call (.Attribute o "keys" apos) [] [] cpos) (zd1 td):=by
 intro pins s σ H Q I h
 refine wpAny_Call_method0_late hbase hline (thn (ho pins s σ H _ I h) λv s1 ⟨x,H1,I1,r1,d,kvs,ex,e,q⟩=>?_)
 subst ex
 cases r1
 obtain⟨_,lo,xs,rel,ob,es,ep,h1,h2,h3,h4,h5⟩:=(show xi X.prog X.w H1 s1.heap d (.dT kvs)from I1.hok d _ e)
 have rw':jM s1.heap d es ep:=⟨ob,h1,h2,h3⟩
 refine⟨"dict","dict.keys",PySem.F.plainAttrs_dict,PySem.F.slot_dict_keys,PySem.F.type_dict_keys,rw'.ty,λb hb=>?_,Calls.callWith_builtin rfl (PySem.evalArgs_none ?_)⟩
 ·cases hb
  exact⟨ob,h1,h2.2.1⟩
 refine QR lo rw' ⟨.ref s1.heap.objs.size,_,I1.laid (t':=s1.toks) (o:=KV2 s1.heap.objs.size d) (λb o e=>Heap.get?_push_of_some _ e) (Nat.le_refl _) ?_,rfl,q _ (I1.hok.fresh (Nat.le_refl _))⟩
 refine⟨⟨_,Heap.get?_push_size _ rfl,rfl,rfl⟩,⟨_,Heap.get?_push_size _ rfl⟩,λa b x k=>?_⟩
 obtain⟨o',ho',r'⟩:=x
 exact⟨o',k _ ho',r'⟩
theorem XN {P:Program}{w:World}{es:Array DictEntry}:∀{kvs:List (List Key×V)}{xs:List (List Key×Addr×Value)}{ks:List (List Int)},Paired (λ(p:List Key×V) (q:List Key×Addr×Value)=>p.1=q.1/\H q.2.1=some (.tup (p.1.map kV))/\zQ p.2 q.2.2) kvs xs->kvs.map Prod.fst=ks.map (List.map Sum.inl)->(∀k∈ks,k≠[])->vm H (xs.map λx=>.ref x.2.1) ks
 | [],_,ks,.nil,e,_=>by
  cases ks with
  | nil=>exact .nil
  | cons _ _=>simp at e
 | (k,v)::kvs,_,ks,.cons h t,e,ne=>by
  cases ks with
  | nil=>simp at e
  | cons j ks =>
   simp only[List.map_cons,List.cons.injEq]at e
   refine .cons ?_ (ne j (.head _)) (XN (P:=P) (w:=w) (es:=es) t e.2 λk m=>ne k (.tail _ m))
   have:=h.2.1
   rw[show k=j.map Sum.inl from e.1,List.map_map]at this
   exact this
theorem Vf (hc:X.calm=true):va X (.builtin "sorted") (λvs H Q=>∃(v d:Addr) (kvs:List (List Key×V)) (ks:List (List Int)),vs=[.ref v]/\H v=some (KV2 v d)/\H d=some (.dT kvs)/\kvs.map Prod.fst=ks.map (List.map Sum.inl)/\(∀k∈ks,k≠[])/\ks.length<64/\∀D xs ys,H D=none->vm H xs ks->ZZ xs ks ys->Q (.ref D) (upd H D (.lst ys))):=by
 intro pins s σ H vs us Q I r h
 obtain⟨v,d,kvs,ks,rfl,hv,hd,ek,ne,h64,q⟩:=h
 obtain⟨u,rfl,ru⟩:=vW r
 cases ru
 obtain⟨kv,_,_⟩:=(show xi X.prog X.w H s.heap v (KV2 v d)from I.hok v _ hv)
 obtain⟨_,lo,xs,rel,ob,es,ep,h1,h2,h3,h4,h5⟩:=(show xi X.prog X.w H s.heap d (.dT kvs)from I.hok d _ hd)
 have rw':jM s.heap d es ep:=⟨ob,h1,h2,h3⟩
 have ht:vm H (xs.map λx=>V.ref x.2.1) ks:=XN (P:=X.prog) (w:=X.w) (es:=es) rel ek ne
 have rv:zK (xs.map λx=>V.ref x.2.1) (xs.map λx=>Value.ref x.2.1):=by
  clear ht rel h4 h5
  induction xs with
  | nil=>exact .nil
  | cons a l ih=>exact .cons rfl ih
 have hlk:ks.length=xs.length:=by have:=ht.len;simpa using this.symm
 have hse:es.size=xs.length:=by rw[<-Array.length_toList,h4,List.length_map]
 refine JM (vs:=xs.map λx=>Value.ref x.2.1) (ks:=ks) (ht.vals I.hok rv) (by simp;omega) (λR hR=>PySem.W.kdu_collect (zb1 (v:=v) (d:=d) (es:=es) (ep:=ep)) (I.ok.hd hc) ⟨kv,rw'⟩ (by rw[hse,sizeLine_eq];omega) λh' tk acc k ha=>?_) λh1 h' tk out c k1 k2 hD z=>VG I ht rv (by simp;omega) k1 k2 hD z λD ys n y=>q D _ ys n ht y
 have e:acc.toList=xs.map λx=>Value.ref x.2.1:=by
  refine List.ext_getElem (by rw[Array.length_toList,ha.1,List.length_map];exact hse) λi a1 a2=>?_
  have hi:i<acc.size:=by simpa using a1
  obtain⟨e,he,hx⟩:=ha.2 i acc[i] (Array.getElem?_eq_getElem hi)
  have he':es.toList[i]? = some e:=by rw[Array.getElem?_toList];exact he
  rw[h4,List.getElem?_map]at he'
  have hix:i<xs.length:=by simpa using a2
  rw[List.getElem?_eq_getElem hix]at he'
  simp only[Option.map_some,Option.some.injEq]at he'
  rw[Array.getElem_toList,hx,<-he',List.getElem_map]
  rfl
 rw[e]
 exact hR h' tk k
end
end L2
end
set_option Elab.async false
set_option linter.all false
set_option maxRecDepth 100000
namespace L2
open PySem PySem.Spec PyProof.Rows
section
variable {X:Cx}
theorem Jx (hc:X.calm=true):va X (.builtin "min") (λxs H Q=>∃(p:Addr) (ns:List Int),xs=[.ref p]/\SqL X.K H p (ns.map V.int)/\0<ns.length/\∀M,M∈ns->(∀a,a∈ns->M<=a)->Q (.int M) H):=by
 intro pins s σ H xs us Q I r h
 obtain⟨p,ns,rfl,hq,hne,q⟩:=h
 obtain⟨u,rfl,ru⟩:=vW r
 cases ru
 obtain⟨its,rv,pl,_⟩:=I.list hq
 have hi:IntsAre its ns:=v3 rv
 obtain⟨ys,e⟩:=hi.allInts.items
 have hl:=pl.isList
 rw[e]at hl
 have hns:ns=ys.toList.map (·.1):=by rw[<-hi.numsOf,<-nums_intItems,<-e]
 have hsz:0<ys.size:=by
  have h3:=hne;rw[hns,List.length_map,Array.length_toList]at h3;exact h3
 refine min_intList (I.ok.hd hc) hl hsz λv h' tk hv hk=>?_
 obtain⟨t,rfl⟩:=intItems_at hv
 obtain⟨h1,h2⟩:=argBest_lt (numAt ys) (ys.size - 1)
 refine⟨.int _,H,I.kept hk,⟨_,rfl⟩,q _ ?_ λa ha=>?_⟩
 ·rw[hns,numAt_eq];exact getD_mem (by rw[List.length_map,Array.length_toList];omega)
 ·rw[hns]at ha
  obtain⟨j,hj,rfl⟩:=mem_getD ha
  rw[List.length_map,Array.length_toList]at hj
  rw[<-numAt_eq];exact h2 j (by omega)
theorem Zk (hc:X.calm=true):va X (.builtin "max") (λxs H Q=>∃(p:Addr) (ns:List Int),xs=[.ref p]/\SqL X.K H p (ns.map V.int)/\0<ns.length/\∀M,M∈ns->(∀a,a∈ns->a<=M)->Q (.int M) H):=by
 intro pins s σ H xs us Q I r h
 obtain⟨p,ns,rfl,hq,hne,q⟩:=h
 obtain⟨u,rfl,ru⟩:=vW r
 cases ru
 obtain⟨its,rv,pl,_⟩:=I.list hq
 have hi:IntsAre its ns:=v3 rv
 obtain⟨ys,e⟩:=hi.allInts.items
 have hl:=pl.isList
 rw[e]at hl
 have hns:ns=ys.toList.map (·.1):=by rw[<-hi.numsOf,<-nums_intItems,<-e]
 have hsz:0<ys.size:=by
  have h3:=hne;rw[hns,List.length_map,Array.length_toList]at h3;exact h3
 refine max_intList (I.ok.hd hc) hl hsz λv h' tk hv hk=>?_
 obtain⟨t,rfl⟩:=intItems_at hv
 obtain⟨h1,h2⟩:=argBest_gt (numAt ys) (ys.size - 1)
 refine⟨.int _,H,I.kept hk,⟨_,rfl⟩,q _ ?_ λa ha=>?_⟩
 ·rw[hns,numAt_eq];exact getD_mem (by rw[List.length_map,Array.length_toList];omega)
 ·rw[hns]at ha
  obtain⟨j,hj,rfl⟩:=mem_getD ha
  rw[List.length_map,Array.length_toList]at hj
  rw[<-numAt_eq];exact h2 j (by omega)
end
end L2
section
set_option maxHeartbeats 8000000
set_option Elab.async false
set_option linter.all false
set_option maxRecDepth 100000
namespace L2
open PySem PySem.Spec PyProof.Rows
end L2
end
set_option Elab.async false
set_option linter.all false
set_option maxRecDepth 100000
namespace L2
open PySem PySem.Spec PyProof.Rows
end L2
section
set_option maxHeartbeats 8000000
set_option Elab.async false
set_option linter.all false
set_option maxRecDepth 100000
namespace L2
open PySem PySem.Spec PyProof.Rows
def Jk:V->List V->Hp->VK->Prop:=λx vs H Q=>∃a kvs k d,x = .ref a/\vs=[kV k,d]/\H a=some (.dK kvs)/\kvs.length<sizeLine/\(∀v,vV kvs k=some v->Q v H)/\(vV kvs k=none->Q d (upd H a (.dK (jq kvs k d))))
section
variable {X:Cx}
theorem Zt:MtR X "dict.setdefault" Jk:=by
 intro pins s σ H x vs v us Q I rx rv h
 obtain⟨a,kvs,k,d,rfl,rfl,hH,hz,q1,q2⟩:=h
 cases rx
 obtain⟨uk,ud,rfl,rk,rd⟩:=Q6 rv
 obtain⟨z,hd,ws,rel,dd⟩:=XI I.hok hH
 have hl:ws.length<=sizeLine:=by rw[<-rel.length];omega
 have hl2:(jq kvs k d).length<=sizeLine:=by have:=jn kvs k d;omega
 refine call_meetsIn F.slot_dict_setdefault dd.typeIs F.entry_dict_setdefault (F.args_dict_setdefault_3 _ _ _) (kt_meets_setdefault (xB X.prog X.w) a (V7 rk) hd ud) ⟨ws,dd,hl,λw hw=>?_,λhn h' dd' hs=>?_⟩
 ·have r:=rel.val k
  rw[hw]at r
  cases hv:vV kvs k with
  | none=>rw[hv]at r;exact(show False from r).elim
  | some y=>rw[hv]at r;exact⟨y,H,I.tok _,r,q1 y hv⟩
 ·have r:=rel.val k
  rw[hn]at r
  cases hv:vV kvs k with
  | some y=>rw[hv]at r;exact(show False from r).elim
  | none =>
   have he:∃q,h'.get? a=some q:=let ⟨q,_,_,hq,_⟩:=dd';⟨q,hq⟩
   exact⟨d,_,X9 I (by rw[hH];exact True.intro) hs he (Qa hl2 hd (rel.put k rd) dd'),rd,q2 hv⟩
end
section
variable {prog:Program}{w:World}{A:Around}{E:Value->Shared->Prop}{s:Shared}
theorem QE:∀{us:List Value}{ns:List Int},IntsAre us ns->us.length=ns.length:=λh=>by
 have:=(jy h).length;simpa using this.symm
theorem Zs {x:Addr}{ns:List Int}{Q:Value->Shared->Prop}(h64:ns.length<64)
  (hcol:∀R:List Value->Shared->Prop,(∀(h1:Heap) (tk:Nat) (vs:List Value),IntsAre vs ns->(∀b o,s.heap.get? b=some o->h1.get? b=some o)->R vs { s with heap:=h1,toks:=tk })->wpAny (model prog w) A.in1 (collect (.ref x)) R E s)
  (h:∀(h1 h':Heap) (tk:Nat) (out:List Value) (c:Nat) (ns':List Int),(∀b o,s.heap.get? b=some o->h1.get? b=some o)->(∀b o,h1.get? b=some o->h'.get? b=some o)->h'.get? h1.objs.size=some (seqObj "list" (List.toArray out) c)->IntsAre out ns'->ns'.Perm ns->ns'.Pairwise (·<=·)->Q (.ref h1.objs.size) { s with heap:=h',toks:=tk }) :
  wpAny (model prog w) A (call (.builtin "sorted") [.ref x]) Q E s:=by
 refine Calls.call_function_entry kind_sorted plain_sorted entry_sorted (args_sorted1 _) ?_
 unfold Builtin.«sorted»
 refine wpAny_bind (m:=checkCount "sorted" 1 1 _) (wpAny_pure (wpAny_bind (hcol _ λh1 tk vs hI k1=>wpAny_bind (wpAny_newList ?_ (by have:=QE hI;rw[sizeLine_eq];omega)))))
 have hvl:=QE hI
 have hoL:(h1.push (seqObj "list" vs.toArray 0)).get? h1.objs.size=some (seqObj "list" vs.toArray 0):=Heap.get?_push_size _ rfl
 show wpAny _ _ _ _ _ { s with heap:=h1.push (seqObj "list" vs.toArray 0),toks:=tk }
 refine wpAny_bind (wpAny_holding (wpAny_call_entry slot_list_sort ⟨_,hoL,rfl⟩ entry_list_sort (list_sort_tree (s:={ s with heap:=h1.push (seqObj "list" vs.toArray 0),toks:=tk }) hoL hI (by omega) λout ns' a1 a2 a3=>⟨_,rfl,?_⟩) (args_list_sort _)))
 obtain⟨c,hc⟩:∃c,(sortedHeap (h1.push (seqObj "list" vs.toArray 0)) h1.objs.size vs out).get? h1.objs.size=some (seqObj "list" out c):=sortedHeap_at hoL
 refine wpAny_pure ⟨_,rfl,h h1 _ tk out.toList c ns' k1 (λb o e=>?_) (by simpa using hc) a1 a2 a3⟩
 have hlt:b<h1.objs.size:=Heap.lt_size e
 rw[sortedHeap_old (Nat.ne_of_lt hlt) (show b<(h1.push _).objs.size by rw[size_push'];exact Nat.lt_succ_of_lt hlt)]
 exact Heap.get?_push_of_some _ e
end
section
variable {X:Cx}{pins:List (Addr×Obj)}{σ:St}{H:Hp}{s:Shared}
theorem Ja {P:Program}{w:World}{n:Int}{v:Value}(h:(xB P w).is (Sum.inl n) v=true):∃t,v = .int n t:=by
 exact Value.isInt_shape (k:=n) (v:=v) h
theorem Qe:∀{us:List Value}{ns:List Int},us.length=ns.length->(∀(i:Nat) (v:Value) (n:Int),us[i]? = some v->ns[i]? = some n->∃t,v = .int n t)->IntsAre us ns
 | [],[],_,_=>.nil
 | [],_::_,h,_=>by simp at h
 | _::_,[],h,_=>by simp at h
 | u::us,n::ns,h,f=>by
  obtain⟨t,rfl⟩:=f 0 u n rfl rfl
  exact .cons n t (Qe (by simpa using h) λi v m e1 e2=>f (i+1) v m (by simpa using e1) (by simpa using e2))
theorem ZC {ns ns':List Int}{out:List Value}{h1 h':Heap}{tk c:Nat}{Q:VK}(I:Inv X pins σ H s) (h64:ns.length<64) (k1:∀b o,s.heap.get? b=some o->h1.get? b=some o) (k2:∀b o,h1.get? b=some o->h'.get? b=some o)
  (hD:h'.get? h1.objs.size=some (seqObj "list" (List.toArray out) c)) (hI:IntsAre out ns') (hp:ns'.Perm ns) (hs:ns'.Pairwise (·<=·)) (q:∀D (ms:List Int),H D=none->ms.Perm ns->ms.Pairwise (·<=·)->Q (.ref D) (upd H D (.lst (ms.map V.int)))):EP X pins σ Q (.ref h1.objs.size) { s with heap:=h',toks:=tk }:=by
 have J:=I.kept (t':=tk) k1
 refine⟨.ref h1.objs.size,_,J.laid (t':=tk) (o:=.lst (ns'.map V.int)) k2 (Nat.le_refl _) ⟨?_,out,c,jy hI,hD⟩,rfl,q _ ns' (J.hok.fresh (Nat.le_refl _)) hp hs⟩
 rw[List.length_map,hp.length_eq,sizeLine_eq];omega
theorem vZ:va X (.builtin "sorted") (λvs H Q=>∃(p:Addr) (ns:List Int),vs=[.ref p]/\SqL X.K H p (ns.map V.int)/\ns.length<64/\∀D (ms:List Int),H D=none->ms.Perm ns->ms.Pairwise (·<=·)->Q (.ref D) (upd H D (.lst (ms.map V.int)))):=by
 intro pins s σ H vs us Q I r h
 obtain⟨p,ns,rfl,hq,h64,q⟩:=h
 obtain⟨u,rfl,ru⟩:=vW r
 cases ru
 obtain⟨its,rv,pl,hz⟩:=I.list hq
 have hl:=rv.length
 rw[List.length_map]at hl
 refine Zs (ns:=ns) h64 (λR hR=>collect_list pl.isList (hR _ s.toks its (v3 rv) λb o e=>?_) (by rw[sizeLine_eq];omega)) λh1 h' tk out c ns' k1 k2 hD a1 a2 a3=>ZC I h64 k1 k2 hD a1 a2 a3 q
 have hlt:b<s.heap.objs.size:=Heap.lt_size e
 rw[Heap.get?_update_ne _ _ _ _ (Nat.ne_of_lt hlt),Heap.get?_push_ne _ _ _ (Nat.ne_of_lt hlt)]
 exact e
theorem Z4 (hc:X.calm=true):va X (.builtin "sorted") (λvs H Q=>∃(d:Addr) (kvs:List (Key×V)) (ns:List Int),vs=[.ref d]/\H d=some (.dK kvs)/\kvs.map Prod.fst=ns.map Sum.inl/\ns.length<64/\∀D (ms:List Int),H D=none->ms.Perm ns->ms.Pairwise (·<=·)->Q (.ref D) (upd H D (.lst (ms.map V.int)))):=by
 intro pins s σ H vs us Q I r h
 obtain⟨d,kvs,ns,rfl,hd,ek,h64,q⟩:=h
 obtain⟨u,rfl,ru⟩:=vW r
 cases ru
 obtain⟨z,lo,ws,rel,dd⟩:=XI I.hok hd
 obtain⟨ep,hat⟩:=dd.dictAt
 have hk:=rel.keys
 have hwl:ws.length=ns.length:=by have:=congrArg List.length (hk.symm.trans ek);simpa using this
 refine Zs (ns:=ns) h64 (λR hR=>PySem.W.kdu_collect (PySem.W.kdl_dict (knd:=xB X.prog X.w) (kvs:=ws) (ep:=ep) lo) (I.ok.hd hc) hat (by rw[hwl,sizeLine_eq];omega) λh' tk acc k ha=>hR h' tk acc.toList ?_ k) λh1 h' tk out c ns' k1 k2 hD a1 a2 a3=>ZC I h64 k1 k2 hD a1 a2 a3 q
 refine Qe (by rw[Array.length_toList,ha.1];exact hwl) λi v n e1 e2=>?_
 obtain⟨kk,y,hy,hki⟩:=ha.2 i v (by rw[<-Array.getElem?_toList];exact e1)
 have e3:(ws.map Prod.fst)[i]? = some kk:=by rw[List.getElem?_map,hy];rfl
 rw[<-hk,ek,List.getElem?_map,e2]at e3
 cases e3
 exact Ja hki
theorem Jw:va X (.builtin "len") (λxs H Q=>∃p kvs,xs=[.ref p]/\H p=some (.dK kvs)/\Q (.int kvs.length) H):=by
 intro pins s σ H xs us Q I r h
 obtain⟨p,kvs,rfl,hd,q⟩:=h
 obtain⟨u,rfl,ru⟩:=vW r
 cases ru
 obtain⟨z,lo,ws,rel,dd⟩:=XI I.hok hd
 have hl:=rel.length
 have hs:sizeLine=16777216:=sizeLine_eq
 exact call_len_dict lo dd (by omega) ⟨.int kvs.length,H,I.tok _,⟨_,by rw[hl]⟩,q⟩
end
end L2
end
section
set_option maxHeartbeats 4000000
set_option Elab.async false
set_option linter.all false
set_option maxRecDepth 100000
namespace L2
open PySem PySem.Spec PyProof.Rows
section
variable {X:Cx}{pins:List (Addr×Obj)}{σ:St}{H:Hp}{s:Shared}
def zd0 (td:TE):TE:=λσ H Q=>td σ H λx H1=>∃d kvs,x = .ref d/\H1 d=some (.dK kvs)/\∀v,H1 v=none->Q (.ref v) (upd H1 v (KV2 v d))
theorem QO {o:Expr}{td:TE}{apos cpos:Pos}(ho:PE X o td) (hbase:attributeBase o "keys" X.env (eval o X.env)=eval o X.env:=by rfl) (hline:(apos.endLine == cpos.line)=true:=by rfl) :
  PE X (.Call (.Attribute o "keys" apos) [] [] cpos) (zd0 td):=by
 intro pins s σ H Q I h
 refine wpAny_Call_method0_late hbase hline (thn (ho pins s σ H _ I h) λv s1 ⟨x,H1,I1,r1,d,kvs,ex,e,q⟩=>?_)
 subst ex
 cases r1
 obtain⟨z,lo,ws,rel,ob,es,ep,h1,h2,h3,h4⟩:=XI I1.hok e
 have rw':jM s1.heap d es ep:=⟨ob,h1,h2,h3⟩
 refine⟨"dict","dict.keys",PySem.F.plainAttrs_dict,PySem.F.slot_dict_keys,PySem.F.type_dict_keys,rw'.ty,λb hb=>?_,Calls.callWith_builtin rfl (PySem.evalArgs_none ?_)⟩
 ·cases hb
  exact⟨ob,h1,h2.2.1⟩
 refine QR lo rw' ⟨.ref s1.heap.objs.size,_,I1.laid (t':=s1.toks) (o:=KV2 s1.heap.objs.size d) (λb o e=>Heap.get?_push_of_some _ e) (Nat.le_refl _) ?_,rfl,q _ (I1.hok.fresh (Nat.le_refl _))⟩
 refine⟨⟨_,Heap.get?_push_size _ rfl,rfl,rfl⟩,⟨_,Heap.get?_push_size _ rfl⟩,λa b x k=>?_⟩
 obtain⟨o',ho',r'⟩:=x
 exact⟨o',k _ ho',r'⟩
theorem Z5 (hc:X.calm=true):va X (.builtin "sorted") (λvs H Q=>∃(v d:Addr) (kvs:List (Key×V)) (ns:List Int),vs=[.ref v]/\H v=some (KV2 v d)/\H d=some (.dK kvs)/\kvs.map Prod.fst=ns.map Sum.inl/\ns.length<64/\∀D (ms:List Int),H D=none->ms.Perm ns->ms.Pairwise (·<=·)->Q (.ref D) (upd H D (.lst (ms.map V.int)))):=by
 intro pins s σ H vs us Q I r h
 obtain⟨v,d,kvs,ns,rfl,hv,hd,ek,h64,q⟩:=h
 obtain⟨u,rfl,ru⟩:=vW r
 cases ru
 obtain⟨kv,_,_⟩:=(show xi X.prog X.w H s.heap v (KV2 v d)from I.hok v _ hv)
 obtain⟨z,lo,ws,rel,dd⟩:=XI I.hok hd
 obtain⟨ep,hat⟩:=dd.dictAt
 have hk:=rel.keys
 have hwl:ws.length=ns.length:=by have:=congrArg List.length (hk.symm.trans ek);simpa using this
 refine Zs (ns:=ns) h64 (λR hR=>PySem.W.kdu_collect (PySem.W.kdl_keys (knd:=xB X.prog X.w) (r:=v) (d:=d) (kvs:=ws) (ep:=ep)) (I.ok.hd hc) ⟨kv,hat⟩ (by rw[hwl,sizeLine_eq];omega) λh' tk acc k ha=>hR h' tk acc.toList ?_ k) λh1 h' tk out c ns' k1 k2 hD a1 a2 a3=>ZC I h64 k1 k2 hD a1 a2 a3 q
 refine Qe (by rw[Array.length_toList,ha.1];exact hwl) λi v n e1 e2=>?_
 obtain⟨kk,y,hy,hki⟩:=ha.2 i v (by rw[<-Array.getElem?_toList];exact e1)
 have e3:(ws.map Prod.fst)[i]? = some kk:=by rw[List.getElem?_map,hy];rfl
 rw[<-hk,ek,List.getElem?_map,e2]at e3
 cases e3
 exact Ja hki
end
end L2
end
section
set_option maxHeartbeats 8000000
set_option Elab.async false
set_option linter.all false
set_option maxRecDepth 100000
namespace PySem
end PySem
namespace L2
open PySem PySem.Spec PyProof.Rows
end L2
end
section
set_option maxHeartbeats 8000000
set_option Elab.async false
set_option linter.all false
set_option maxRecDepth 100000
namespace PySem
def zfg (TI TO T:Addr) (b:Bool):Obj:=⟨.type "zip",none,.fields #[rawInt T,.bool b,.bool false,.ref TI,.ref TO],#[]⟩
section
variable {prog:Program}{w:World}{A:Around}{E:Value->Shared->Prop}{s:Shared}
theorem J1 {M:Model}{a:Addr}{Q:Option Obj->Shared->Prop}(h:Q (s.heap.get? a) s):wpAny M A (loadIfAlive a) Q E s:=λ_ _ _=>h
structure ZB (h:Heap) (z TI TO i1 i2 l1 l2 T:Addr) (b:Bool) (xs ys:Array Value) (i:Nat):Prop where
 z:h.get? z=some (zfg TI TO T b)
 t:∃o,h.get? T=some o/\o.cls = .type "tuple"
 TI:IsPair h TI (.ref i1) (.ref i2)
 p:h.IsListIter i1 l1 i
 q:h.IsListIter i2 l2 i
 a:h.IsList l1 xs
 b:h.IsList l2 ys
theorem ZB.free {z TI TO i1 i2 l1 l2 T:Addr}{b:Bool}{xs ys:Array Value}{i:Nat}{Q:Bool->Shared->Prop}(Z:ZB s.heap z TI TO i1 i2 l1 l2 T b xs ys i)
  (h:∀g,ZB g z TI TO i1 i2 l1 l2 T true xs ys i->Heap.SameBut z s.heap g->Q false { s with heap:=g }) (n:ZipApart z TI TO i1 i2 l1 l2) (nT:T≠z):wpAny (model prog w) A (Builtin.SmallTypes.ownedTupleIsFree (.ref z)) Q E s:=by
 have up:∀{g:Heap},g.get? z=some (zfg TI TO T true)->Heap.SameBut z s.heap g->ZB g z TI TO i1 i2 l1 l2 T true xs ys i:=λe sb =>
  ⟨e,let ⟨o,q,r⟩:=Z.t;⟨o,sb.extBut _ _ nT q,r⟩,sb.extBut _ _ n.TIz Z.TI,Z.p.extBut sb.extBut n.i1z,Z.q.extBut sb.extBut n.i2z,Z.a.extBut sb.extBut n.l1z,Z.b.extBut sb.extBut n.l2z⟩
 obtain⟨o,alive,_⟩:=Z.t
 refine wpAny_bind (wpAny_field Z.z rfl (x:=rawInt T) rfl (wpAny_bind (J1 ?_)))
 have e:s.heap.get? (Int.toNat T)=some o:=alive
 simp only[e,Option.isNone_some,Bool.false_eq_true,if_false]
 refine wpAny_bind (wpAny_field Z.z rfl (x:=.bool b) rfl ?_)
 cases b
 ·rw[if_pos (by decide)];exact wpAny_bind (wpAny_setField_rec Z.z (by simp) λg e sb=>wpAny_pure (h g (up e sb) sb))
 ·rw[if_neg (by decide)];exact wpAny_bind (wpAny_pure (wpAny_pure (h s.heap Z (Heap.SameBut.refl ..))))
theorem ZB.item {z TI TO i1 i2 l1 l2 T:Addr}{b:Bool}{xs ys:Array Value}{i:Nat}{x y:Value}{Q:Value->Shared->Prop}(n:ZipApart z TI TO i1 i2 l1 l2) (Z:ZB s.heap z TI TO i1 i2 l1 l2 T b xs ys i) (nT:T≠z/\T≠i1/\T≠i2) (hx:xs[i]? = some x) (hy:ys[i]? = some y)
  (k:∀g,ZB g z TI TO i1 i2 l1 l2 T true xs ys (i+1)->IsPair g s.heap.objs.size x y->(∀c o,c≠z->c≠i1->c≠i2->s.heap.get? c=some o->g.get? c=some o)->Q (.ref s.heap.objs.size) { s with heap:=g }) :
  wpAny (model prog w) A (Builtin.«zip.__next__» ⟨[.ref z],[]⟩) (λf t=>∃v,f = .done (.ret v)/\Q v t) E s:=by
 refine wpAny_bind (m:=slotArgs "__next__" 0 _) (wpAny_pure ?_)
 dsimp only
 refine wpAny_bind (wpAny_field (ZB.z Z) rfl (x:=Value.bool false) rfl (wpAny_bind (wpAny_field (ZB.z Z) rfl (x:=Value.ref _) rfl (wpAny_bind (wpAny_seqItems (ZB.TI Z) rfl ?_)))))
 refine wpAny_bind (ZB.free Z (λg Zg sbg=>?_) n nT.1)
 simp only[Bool.false_eq_true,if_false,<-Array.forIn_toList,List.forIn_cons,List.forIn_nil]
 refine wpAny_bind (wpAny_bind (wpAny_bind (wpAny_holding (wpAny_bind ?_))))
 refine wpAny_nextOf_list_item Zg.p Zg.a hx λg1 p1 sb1=>wpAny_pure (wpAny_pure (wpAny_bind (wpAny_bind (wpAny_holding (wpAny_bind ?_)))))
 refine wpAny_nextOf_list_item (Zg.q.extBut sb1.extBut n.i12.symm) (Zg.b.extBut sb1.extBut n.l2i1) hy λg2 q2 sb2=>wpAny_pure (wpAny_pure (wpAny_pure (wpAny_bind (wpAny_newTuple (hsz:=by show 2<=sizeLine;decide) (wpAny_pure ⟨_,rfl,?_⟩)))))
 have size:g2.objs.size=s.heap.objs.size:=by rw[sb2.1,sb1.1,sbg.1]
 have on:∀{c o},c≠i1->c≠i2->g.get? c=some o->(g2.push ⟨.type "tuple",none,.seq #[x,y] 0,#[]⟩).get? c=some o:=λc1 c2 e=>Heap.get?_push_of_some _ (sb2.extBut _ _ c2 (sb1.extBut _ _ c1 e))
 show Q (.ref g2.objs.size) _
 rw[size]
 refine k _ ⟨on n.i1z.symm n.i2z.symm Zg.z,let ⟨o,e,r⟩:=Zg.t;⟨o,on nT.2.1 nT.2.2 e,r⟩,on n.TIi1 n.TIi2 Zg.TI,(p1.extBut sb2.extBut n.i12).at λo e=>Heap.get?_push_of_some _ e,q2.at λo e=>Heap.get?_push_of_some _ e,Zg.a.at λo e=>on n.l1i1 n.l1i2 e,Zg.b.at λo e=>on n.l2i1 n.l2i2 e⟩ ?_ λc o c1 c2 c3 e=>on c2 c3 (sbg.extBut _ _ c1 e)
 rw[<-size];exact Heap.get?_push_size _ rfl
theorem ZB.over {z TI TO i1 i2 l1 l2 T:Addr}{b:Bool}{xs ys:Array Value}{i:Nat}{Q:Fin->Shared->Prop}(hh:A.handled=none) (n:ZipApart z TI TO i1 i2 l1 l2) (Z:ZB s.heap z TI TO i1 i2 l1 l2 T b xs ys i) (nT:T≠z) (none1:xs[i]? = none)
  (k:∀g e,(∀c o,c≠z->c≠i1->s.heap.get? c=some o->g.get? c=some o)->(∃o,g.get? e=some o/\o.cls = .type "StopIteration")->E (.ref e) { s with heap:=g }) :
  wpAny (model prog w) A (Builtin.«zip.__next__» ⟨[.ref z],[]⟩) Q E s:=by
 refine wpAny_bind (m:=slotArgs "__next__" 0 _) (wpAny_pure ?_)
 dsimp only
 refine wpAny_bind (wpAny_field (ZB.z Z) rfl (x:=Value.bool false) rfl (wpAny_bind (wpAny_field (ZB.z Z) rfl (x:=Value.ref _) rfl (wpAny_bind (wpAny_seqItems (ZB.TI Z) rfl ?_)))))
 refine wpAny_bind (ZB.free Z (λg Zg sbg=>?_) n nT)
 simp only[Bool.false_eq_true,if_false,<-Array.forIn_toList,List.forIn_cons,List.forIn_nil]
 refine wpAny_bind (wpAny_bind (wpAny_bind (wpAny_holding (wpAny_bind ?_))))
 exact wpAny_nextOf_list_end hh Zg.p Zg.a none1 λg1 e keep stop=>k g1 e (λc o c1 c2 q=>keep _ _ c2 (sbg.extBut _ _ c1 q)) stop
inductive ZS (h:Heap) (z TI TO i1 i2 l1 l2:Addr) (xs ys:Array Value):Nat->Prop
 | new {a b:Value}:IsZip h z TI TO .none->IsPair h TI (.ref i1) (.ref i2)->IsPair h TO a b->h.IsListIter i1 l1 0->h.IsListIter i2 l2 0->h.IsList l1 xs->h.IsList l2 ys->ZS h z TI TO i1 i2 l1 l2 xs ys 0
 | on {T:Addr}{b:Bool}{i:Nat}:ZB h z TI TO i1 i2 l1 l2 T b xs ys i->T≠z->T≠i1->T≠i2->ZS h z TI TO i1 i2 l1 l2 xs ys i
theorem ZS.item {z TI TO i1 i2 l1 l2:Addr}{xs ys:Array Value}{i:Nat}{x y:Value}{Q:Option Value->Shared->Prop}(n:ZipApart z TI TO i1 i2 l1 l2) (Z:ZS s.heap z TI TO i1 i2 l1 l2 xs ys i) (hx:xs[i]? = some x) (hy:ys[i]? = some y)
  (k:∀g,ZS g z TI TO i1 i2 l1 l2 xs ys (i+1)->IsPair g s.heap.objs.size x y->(∀c o,c≠z->c≠TO->c≠i1->c≠i2->s.heap.get? c=some o->g.get? c=some o)->Q (some (.ref s.heap.objs.size)) { s with heap:=g }):wpAny (model prog w) A (pyNext (.ref z)) Q E s:=by
 have far:∀{c:Addr}{o:Obj},s.heap.get? c=some o->s.heap.objs.size≠c:=λe=>Nat.ne_of_gt (Heap.lt_size e)
 have farI:∀{c l:Addr}{j:Nat},s.heap.IsListIter c l j->s.heap.objs.size≠c:=λq=>let ⟨_,e,_⟩:=q;far e
 cases Z with
 | new hz hTI hTO p q a b =>
  refine wpAny_pyNext_zip_item n hz hTI hTO p q a b hx hy λg a1 a2 a3 a4 a5 _ hk=>k g (.on (b:=false) ⟨a1,⟨_,a5,rfl⟩,hk _ _ n.TIz n.TITO n.TIi1 n.TIi2 hTI,a3,a4,a.at λo e=>hk _ o n.l1z n.l1TO n.l1i1 n.l1i2 e,b.at λo e=>hk _ o n.l2z n.l2TO n.l2i1 n.l2i2 e⟩ (far hz) (farI p) (farI q)) a5 hk
 | on B t1 t2 t3 =>
  have ty:s.TypeIs (.ref z) "zip":=⟨_,B.z,rfl⟩
  refine wpAny_bind (wpAny_attempt (wpAny_callSpecial?_slot (name:=Str.ofString "__next__") ty F.slot_zip_next (wpAny_call_entry F.slot_zip_next ty F.entry_zip_next (B.item n ⟨t1,t2,t3⟩ hx hy λg Bg pair hk=>?_) (F.args_zip_next_1 _))))
  exact wpAny_pure (k g (.on Bg t1 t2 t3) pair λc o c1 _ c3 c4 e=>hk c o c1 c3 c4 e)
theorem ZS.over {z TI TO i1 i2 l1 l2:Addr}{xs ys:Array Value}{i:Nat}{Q:Option Value->Shared->Prop}(hh:A.handled=none) (n:ZipApart z TI TO i1 i2 l1 l2) (Z:ZS s.heap z TI TO i1 i2 l1 l2 xs ys i) (none1:xs[i]? = none)
  (k:∀g,(∀c o,c≠z->c≠TO->c≠i1->c≠i2->s.heap.get? c=some o->g.get? c=some o)->Q none { s with heap:=g }):wpAny (model prog w) A (pyNext (.ref z)) Q E s:=by
 cases Z with
 | new hz hTI hTO p q a b=>exact wpAny_pyNext_zip_end hh n hz hTI hTO p q a b (.inl none1) k
 | on B t1 _ _ =>
  have ty:s.TypeIs (.ref z) "zip":=⟨_,B.z,rfl⟩
  refine wpAny_bind (wpAny_attempt (wpAny_callSpecial?_slot (name:=Str.ofString "__next__") ty F.slot_zip_next (wpAny_call_entry F.slot_zip_next ty F.entry_zip_next (B.over hh n t1 none1 λg e hk stop=>?_) (F.args_zip_next_1 _))))
  obtain⟨o,q,r⟩:=stop
  exact wpAny_bind (wpAny_isInstance (b:=true) ⟨o,q,r⟩ isSubtype_stop (wpAny_pure (k g λc o c1 _ c3 _ e=>hk c o c1 c3 e)))
end
theorem VP:typeLookup (.type "zip") "__len__" = pure none:=by rw[typeLookup_type,builtinLookup_eq_fast];kernel_rfl
theorem Q8:typeLookup (.type "zip") "__length_hint__" = pure none:=by rw[typeLookup_type,builtinLookup_eq_fast];kernel_rfl
structure XY (h:Heap) (base:Nat) (xs ys:Array Value) (acc:Array Value) (i:Nat):Prop where
 len:acc.size=i
 it:∀(j:Nat) (v:Value),acc[j]? = some v->∃T x y,v = .ref T/\base<=T/\xs[j]? = some x/\ys[j]? = some y/\IsPair h T x y
 nd:∀(j k:Nat) (T U:Addr),acc[j]? = some (.ref T)->acc[k]? = some (.ref U)->j<k->T<U
theorem XY.keep {h h':Heap}{base:Nat}{xs ys acc:Array Value}{i:Nat}(a:XY h base xs ys acc i) (k:∀c o,base<=c->h.get? c=some o->h'.get? c=some o):XY h' base xs ys acc i :=
 ⟨a.len,λj v e=>let ⟨T,x,y,q1,q2,q3,q4,q5⟩:=a.it j v e;⟨T,x,y,q1,q2,q3,q4,k _ _ q2 q5⟩,a.nd⟩
theorem XY.more {h:Heap}{base:Nat}{xs ys acc:Array Value}{i:Nat}{T:Addr}{x y:Value}(a:XY h base xs ys acc i) (hT:base<=T) (hx:xs[i]? = some x) (hy:ys[i]? = some y) (p:IsPair h T x y) (above:∀(j:Nat) (U:Addr),acc[j]? = some (.ref U)->U<T):XY h base xs ys (acc.push (.ref T)) (i+1):=by
 have at':∀{j v},(acc.push (.ref T))[j]? = some v->(j=i/\v = .ref T)\/acc[j]? = some v:=λ{j v} e=>by
  rw[Array.getElem?_push,a.len]at e
  split at e
  ·exact .inl ⟨by assumption,by injection e with e;exact e.symm⟩
  ·exact .inr e
 have bound:∀{j v},acc[j]? = some v->j<i:=λe=>by have:=(Array.getElem?_eq_some_iff.mp e).1;rw[a.len]at this;exact this
 refine⟨by rw[Array.size_push,a.len],λj v e=>?_,λj k U W e1 e2 lt=>?_⟩
 ·rcases at' e with⟨rfl,rfl⟩ | e
  ·exact⟨T,x,y,rfl,hT,hx,hy,p⟩
  ·exact a.it j v e
 ·rcases at' e2 with⟨rfl,q⟩ | e2
  ·injection q with q
   subst q
   rcases at' e1 with⟨z,_⟩ | e1
   ·exact absurd lt (by rw[z];exact Nat.lt_irrefl _)
   ·exact above j U e1
  ·rcases at' e1 with⟨rfl,_⟩ | e1
   ·exact absurd (bound e2) (Nat.not_lt_of_gt lt)
   ·exact a.nd j k U W e1 e2 lt
def off (S z TO i1 i2 a:Addr):Prop:=a≠S/\a≠z/\a≠TO/\a≠i1/\a≠i2
theorem ZS.at_ {h h':Heap}{z TI TO i1 i2 l1 l2 S:Addr}{xs ys:Array Value}{i:Nat}(Z:ZS h z TI TO i1 i2 l1 l2 xs ys i) (k:∀a o,a≠S->h.get? a=some o->h'.get? a=some o) (n:S≠z/\S≠TI/\S≠TO/\S≠i1/\S≠i2/\S≠l1/\S≠l2) (hS:∃o,h.get? S=some o/\o.cls = .type "list"):ZS h' z TI TO i1 i2 l1 l2 xs ys i:=by
 obtain⟨n1,n2,n3,n4,n5,n6,n7⟩:=n
 cases Z with
 | new q1 q2 q3 q4 q5 q6 q7=>exact .new (k _ _ n1.symm q1) (k _ _ n2.symm q2) (k _ _ n3.symm q3) (q4.at λo e=>k _ o n4.symm e) (q5.at λo e=>k _ o n5.symm e) (q6.at λo e=>k _ o n6.symm e) (q7.at λo e=>k _ o n7.symm e)
 | @on T b _ B t1 t2 t3 =>
  obtain⟨o,e,c⟩:=B.t
  obtain⟨oS,eS,cS⟩:=hS
  have nT:T≠S:=λq=>by
   rw[q,eS]at e
   injection e with e
   rw[e,c]at cS
   exact absurd cS (by decide)
  exact .on ⟨k _ _ n1.symm B.z,⟨o,k _ _ nT e,c⟩,k _ _ n2.symm B.TI,B.p.at λo e=>k _ o n4.symm e,B.q.at λo e=>k _ o n5.symm e,B.a.at λo e=>k _ o n6.symm e,B.b.at λo e=>k _ o n7.symm e⟩ t1 t2 t3
section
variable {prog:Program}{w:World}{A:Around}
abbrev Qh (acc:Array Value) (c:Nat):Obj:=⟨.type "list",none,.seq acc c,#[]⟩
theorem Q7 {R:Result->Shared->Prop}{z TI TO i1 i2 l1 l2 S:Addr}{xs ys:Array Value}{base:Nat}(hh:A.handled=none) (n:ZipApart z TI TO i1 i2 l1 l2) (nS:S≠z/\S≠TI/\S≠TO/\S≠i1/\S≠i2/\S≠l1/\S≠l2) (lo:S<base/\z<base/\TO<base/\i1<base/\i2<base) (len:xs.size=ys.size) (fit:xs.size<=sizeLine)
  (i:Nat) (s:Shared) (acc:Array Value) (c:Nat) (hi:i<=xs.size) (Z:ZS s.heap z TI TO i1 i2 l1 l2 xs ys i) (hb:base<=s.heap.objs.size) (hS:s.heap.get? S=some (Qh acc c)) (ha:XY s.heap base xs ys acc i)
  (k:∀g acc' c',(∀a o,off S z TO i1 i2 a->s.heap.get? a=some o->g.get? a=some o)->g.get? S=some (Qh acc' c')->XY g base xs ys acc' xs.size->R (.ok (.ret .none)) { s with heap:=g }) :
  codeAny (model prog w) A (.builtin "list.extend.loop" ⟨[.ref S,.ref z,.none],[]⟩) R s:=by
 have high:∀a,base<=a->off S z TO i1 i2 a:=λa h=>⟨Nat.ne_of_gt (Nat.lt_of_lt_of_le lo.1 h),Nat.ne_of_gt (Nat.lt_of_lt_of_le lo.2.1 h),Nat.ne_of_gt (Nat.lt_of_lt_of_le lo.2.2.1 h),Nat.ne_of_gt (Nat.lt_of_lt_of_le lo.2.2.2.1 h),Nat.ne_of_gt (Nat.lt_of_lt_of_le lo.2.2.2.2 h)⟩
 have hS0:off z z TO i1 i2 S\/True:=.inr trivial
 refine codeAny_builtin F.entry_extend_loop ((Around.under_plainId F.plain_extend_loop _).symm ▸ ?_)
 rcases Nat.lt_or_ge i xs.size with lt | ge
 ·refine wpAny_bind (Z.item n (Array.getElem?_eq_getElem lt) (Array.getElem?_eq_getElem (by rw[<-len];exact lt)) λg Zg pair hk=>?_)
  have gS:=hk _ _ nS.1 nS.2.2.1 nS.2.2.2.1 nS.2.2.2.2.1 hS
  have on:∀a o,a≠S->g.get? a=some o->(g.update S (Obj.mapSeq (·.push (.ref s.heap.objs.size)))).get? a=some o:=λa o na e=>(Heap.get?_update_other _ _ na.symm).trans e
  have a1:=ha.keep (h':=g) λc o hc e=>let ⟨_,q2,q3,q4,q5⟩:=high c hc;hk c o q2 q3 q4 q5 e
  have a2:=(a1.more hb (Array.getElem?_eq_getElem lt) (Array.getElem?_eq_getElem (by rw[<-len];exact lt)) pair λj U e=>let ⟨_,_,_,q1,_,_,_,q5⟩:=ha.it j _ e;by cases q1;exact Heap.lt_size q5).keep (h':=g.update S (Obj.mapSeq (·.push (.ref s.heap.objs.size)))) λc o hc e=>on c o (high c hc).1 e
  refine wpAny_bind (wpAny_updateSeq gS rfl (wpAny_pure ⟨plainId_quiet F.plain_extend_loop _,Q7 hh n nS lo len fit (i+1) _ _ _ lt (Zg.at_ on nS ⟨_,gS,rfl⟩) (Nat.le_trans hb (Nat.le_of_lt (Heap.lt_size (on _ _ (high _ hb).1 pair)))) (Heap.get?_update_self _ gS rfl) a2 λg' acc' c' hk'=>?_⟩) ?_ ?_)
  ·exact k g' acc' c' λa o q e=>hk' a o q (on a o q.1 (hk a o q.2.1 q.2.2.1 q.2.2.2.1 q.2.2.2.2 e))
  ·rw[ha.len];omega
  ·show (acc.push _).size<=sizeLine+1
   rw[Array.size_push,ha.len];omega
 ·obtain rfl:i=xs.size:=Nat.le_antisymm hi ge
  refine wpAny_bind (Z.over (by simpa using hh) n (by simp) λg hk=>wpAny_pure ?_)
  exact k g acc c (λa o q e=>hk a o q.2.1 q.2.2.1 q.2.2.2.1 q.2.2.2.2 e) (hk _ _ nS.1 nS.2.2.1 nS.2.2.2.1 nS.2.2.2.2.1 hS) (ha.keep λc o hc e=>let ⟨_,q2,q3,q4,q5⟩:=high c hc;hk c o q2 q3 q4 q5 e)
termination_by xs.size - i
theorem Xv {E:Value->Shared->Prop}{s:Shared}{z TI TO i1 i2 l1 l2:Addr}{xs ys:Array Value}{Q:Value->Shared->Prop}(hh:A.handled=none) (n:ZipApart z TI TO i1 i2 l1 l2) (lo:z<s.heap.objs.size/\TI<s.heap.objs.size/\TO<s.heap.objs.size/\i1<s.heap.objs.size/\i2<s.heap.objs.size/\l1<s.heap.objs.size/\l2<s.heap.objs.size) (len:xs.size=ys.size) (fit:xs.size<=sizeLine)
  (hz:IsZip s.heap z TI TO .none) (Z:ZS s.heap z TI TO i1 i2 l1 l2 xs ys 0)
  (k:∀g acc c,(∀a o,a≠z->a≠TO->a≠i1->a≠i2->s.heap.get? a=some o->g.get? a=some o)->g.get? s.heap.objs.size=some (Qh acc c)->XY g (s.heap.objs.size+1) xs ys acc xs.size->Q (.ref s.heap.objs.size) { s with heap:=g }) :
  wpAny (model prog w) A (call (.type "list") [.ref z]) Q E s:=by
 obtain⟨b1,b2,b3,b4,b5,b6,b7⟩:=lo
 have nS:s.heap.objs.size≠z/\s.heap.objs.size≠TI/\s.heap.objs.size≠TO/\s.heap.objs.size≠i1/\s.heap.objs.size≠i2/\s.heap.objs.size≠l1/\s.heap.objs.size≠l2:=⟨Nat.ne_of_gt b1,Nat.ne_of_gt b2,Nat.ne_of_gt b3,Nat.ne_of_gt b4,Nat.ne_of_gt b5,Nat.ne_of_gt b6,Nat.ne_of_gt b7⟩
 refine callType_codes (Q₁:=λv t=>v = .ref s.heap.objs.size/\t = { s with heap:=s.heap.push (Qh #[] 0) }) F.called_list (F.typeCall_list_1 _) F.entry_list_init (code_list_new _ ⟨rfl,rfl⟩) λv t e=>?_
 rcases e with⟨rfl,rfl⟩
 have new:(s.heap.push (Qh #[] 0)).get? s.heap.objs.size=some (Qh #[] 0):=Heap.get?_push_size _ rfl
 refine⟨⟨_,new,rfl⟩,F.args_list_init_2 _ _,?_⟩
 have way:∀(g:Heap) (c:Nat),g.get? s.heap.objs.size=some (Qh #[] c)->(∀a o,a≠s.heap.objs.size->s.heap.get? a=some o->g.get? a=some o)->ZS g z TI TO i1 i2 l1 l2 xs ys 0/\IsZip g z TI TO .none:=λg c e on=>by
  have low:∀{a:Addr},s.heap.objs.size≠a->a≠s.heap.objs.size:=λh=>h.symm
  refine⟨?_,on _ _ (low nS.1) hz⟩
  cases Z with
  | new q1 q2 q3 q4 q5 q6 q7=>exact .new (on _ _ (low nS.1) q1) (on _ _ (low nS.2.1) q2) (on _ _ (low nS.2.2.1) q3) (q4.at λo e=>on _ o (low nS.2.2.2.1) e) (q5.at λo e=>on _ o (low nS.2.2.2.2.1) e) (q6.at λo e=>on _ o (low nS.2.2.2.2.2.1) e) (q7.at λo e=>on _ o (low nS.2.2.2.2.2.2) e)
  | on B t1 t2 t3 =>
   have:=B.z
   rw[hz]at this
   injection this with this
   cases this
 have upd1:=Heap.get?_update_self (Obj.mapSeq λ_=>(#[]:Array Value)) new rfl
 have on1:∀a o,a≠s.heap.objs.size->s.heap.get? a=some o->((s.heap.push (Qh #[] 0)).update s.heap.objs.size (Obj.mapSeq λ_=>(#[]:Array Value))).get? a=some o:=λa o na e=>(Heap.get?_update_other _ _ na.symm).trans (Heap.get?_push_of_some _ e)
 refine wpAny_bind (m:=Builtin.List.listItems _) (wpAny_bind (wpAny_seqItems new rfl (wpAny_pure (wpAny_bind (wpAny_updateSeq new rfl (wpAny_bind (wpAny_letGo ?_)))))))
 generalize (s.heap.push (Qh #[] 0)).update s.heap.objs.size (Obj.mapSeq λ_=>(#[]:Array Value))=g1 at upd1 on1
 obtain⟨_,hz1⟩:=way g1 _ upd1 on1
 have ty:Shared.TypeIs { s with heap:=g1 } (.ref z) "zip":=⟨_,hz1,rfl⟩
 refine wpAny_bind (m:=typeOf (.ref z)) (wpAny_typeOf ty ?_)
 rw[if_neg (by simp[Builtin.List.listSameRef,nS.1])]
 refine wpAny_bind (wpAny_pyIter_zip (s:={ s with heap:=g1 }) hz1 (wpAny_bind (wpAny_holding ?_)))
 refine wpAny_bind (m:=specialOf _ _) (wpAny_specialOf ty VP ?_)
 refine wpAny_bind (m:=specialOf _ _) (wpAny_specialOf ty Q8 (wpAny_pure ?_))
 refine wpAny_bind (m:=rule _) (wpAny_rule (wpAny_bind (m:=Builtin.List.listTouch _) ?_))
 have upd2:=Heap.get?_update_self (Obj.mapSeq (·.push Value.none)) upd1 rfl
 have upd3:=Heap.get?_update_self (Obj.mapSeq (·.pop)) upd2 rfl
 refine wpAny_bind (m:=updateSeq _ _) (wpAny_updateSeq upd1 rfl (wpAny_updateSeq (hz:=by seq_fits) upd2 rfl ?_))
 have on3:∀a o,a≠s.heap.objs.size->s.heap.get? a=some o->((g1.update s.heap.objs.size (Obj.mapSeq (·.push Value.none))).update s.heap.objs.size (Obj.mapSeq (·.pop))).get? a=some o:=λa o na e=>by
  rw[Heap.get?_update_other _ _ na.symm,Heap.get?_update_other _ _ na.symm];exact on1 a o na e
 generalize (g1.update s.heap.objs.size (Obj.mapSeq (·.push Value.none))).update s.heap.objs.size (Obj.mapSeq (·.pop))=g3 at upd3 on3
 obtain⟨Z3,_⟩:=way g3 _ upd3 on3
 refine wpAny_pure ⟨plainId_quiet F.plain_extend_loop _,Q7 (base:=s.heap.objs.size+1) (by simpa using hh) n nS ⟨Nat.lt_succ_self _,Nat.lt_succ_of_lt b1,Nat.lt_succ_of_lt b3,Nat.lt_succ_of_lt b4,Nat.lt_succ_of_lt b5⟩ len fit 0 _ #[] _ (Nat.zero_le _) Z3 (Heap.lt_size upd3) upd3 ⟨rfl,λj v e=>by simp at e,λj k T U e=>by simp at e⟩ λg acc c hk hS ha=>⟨rfl,k g acc c (λa o a1 a2 a3 a4 e=>?_) hS ha⟩⟩
 have na:a≠s.heap.objs.size:=Nat.ne_of_lt (Heap.lt_size e)
 exact hk a o ⟨na,a1,a2,a3,a4⟩ (on3 a o na e)
end
end PySem
end
section
set_option maxHeartbeats 8000000
set_option Elab.async false
set_option linter.all false
set_option maxRecDepth 100000
namespace L2
open PySem PySem.Spec PyProof.Rows
section
variable {X:Cx}{pins:List (Addr×Obj)}{σ:St}{H:Hp}{s:Shared}
theorem Inv.laidF {H':Hp}{h':Heap}{t':Nat}(I:Inv X pins σ H s) (k:∀b u,s.heap.get? b=some u->h'.get? b=some u) (hs:zi H H') (hn:∀b,b<s.heap.objs.size->H b=none->H' b=none) (new:∀b o,H' b=some o->H b=none->xi X.prog X.w H' h' b o) :
  Inv X pins σ H' { s with heap:=h',toks:=t' }:=by
 refine I.un ⟨λb u q _ _ _=>k b u q,λb u q _ _ _=>⟨u.slots,k b u q⟩,λb u q n _=>hn b (Heap.lt_size q) n,λb u q _=>⟨u,k b u q⟩,λb xs q=>hs _ _ q,λb u xs q=>hs _ _ q,λb ps q=>⟨#[],by rw[hs _ _ q];simp⟩⟩ (λb u e=>?_)
 cases hb:H b with
 | none=>exact new b u e hb
 | some o =>
  have:=hs _ _ hb
  rw[e]at this;cases this
  exact(I.hok b u hb).stay (λc v _ q=>k c v q) (λc q=>hs _ _ q) λc xs q=>hs _ _ q
end
theorem Xr:∀{Ts:List Addr}{us:List Value},us.length=Ts.length->(∀i,i<Ts.length->us[i]? = some (.ref (Ts.getD i 0)))->zK (Ts.map V.ref) us
 | [],[],_,_=>.nil
 | [],_::_,h,_=>by simp at h
 | _::_,[],h,_=>by simp at h
 | T::Ts,u::us,h,f=>by
  have h0:=f 0 (by simp)
  have e0:u = .ref T:=by simpa using h0
  subst e0
  exact .cons rfl (Xr (by simpa using h) λi hi=>by have:=f (i+1) (by simp;omega);simpa using this)
def zch (H:Hp) (us xs ys:List V):Prop:=us.length=xs.length/\∀(i:Nat) (v:V),us[i]? = some v->∃T x y,v = .ref T/\xs[i]? = some x/\ys[i]? = some y/\H T=some (.tup [x,y])
def tLZ (ta tb:TE):TE:=λσ H Q=>ta σ H λx H1=>tb σ H1 λy H2=>∃p q xs ys,x = .ref p/\y = .ref q/\H2 p=some (.lst xs)/\H2 q=some (.lst ys)/\xs.length=ys.length ∧
 ∀l us H',zi H2 H'->H2 l=none->H' l=some (.lst us)->zch H' us xs ys->Q (.ref l) H'
section
variable {X:Cx}
theorem Vy {a b:Expr}{ta tb:TE}{p1 p2 pz pos:Pos}(hc:X.calm=true) (hgL:Gl X "list") (hmL:X.mg "list" = none) (hgZ:Gl X "zip") (hmZ:X.mg "zip" = none) (ha:PE X a ta) (hb:PE X b tb)
  (hs0:starEach [.Call (.Name "zip" p2) [a,b] [] pz] X.env=[(false,eval (.Call (.Name "zip" p2) [a,b] [] pz) X.env)]:=by rfl)
  (hs1:starEach [a,b] X.env=(false,eval a X.env)::starEach [b] X.env:=by rfl) (hs2:starEach [b] X.env=[(false,eval b X.env)]:=by rfl) :
  PE X (.Call (.Name "list" p1) [.Call (.Name "zip" p2) [a,b] [] pz] [] pos) (tLZ ta tb):=by
 intro pins s σ H Q I h
 refine wpAny_Call_Name_kw (jm I hgL hmL PyProof.Rows.boot_list ?_)
 refine PyProof.Rows.callWith_type1 ?_ hs0 rfl
 rw[hs0]
 show wpAny _ _ (spliced ((false,eval (.Call (.Name "zip" p2) [a,b] [] pz) X.env)::[])) _ _ s
 refine Calls.spliced_cons ?_
 refine wpAny_Call_Name_kw (jm I hgZ hmZ (by decide +kernel:bootBuiltins "zip" = some (.type "zip")) ?_)
 refine PyProof.Rows.callWith_type1 ?_ hs1 (by rw[hs2];rfl)
 have hA:PA X [a,b] (x6 ta (x6 tb ju)):=za ha (za hb ze hs2) hs1
 refine thn (hA pz pins s σ H (λvs H2=>match vs with
  | [x,y]=>∃p q xs ys,x = .ref p/\y = .ref q/\H2 p=some (.lst xs)/\H2 q=some (.lst ys)/\xs.length=ys.length/\∀l us H',zi H2 H'->H2 l=none->H' l=some (.lst us)->zch H' us xs ys->Q (.ref l) H'
  | _=>False) I h) λus s1 ⟨vs,H1,I1,r1,q1⟩=>?_
 match vs,q1 with
 | [x,y],q1 =>
 obtain⟨p,q,xs,ys,rfl,rfl,hp,hq,hl,k⟩:=q1
 obtain⟨u1,u2,rfl,e1,e2⟩:=Q6 r1
 cases e1;cases e2
 obtain⟨z1,its1,c1,v1,n1,g1⟩:=I1.lstM hp
 obtain⟨z2,its2,c2,v2,n2,g2⟩:=I1.lstM hq
 have il1:s1.heap.IsList p its1.toArray:=⟨_,g1,rfl,c1,rfl⟩
 have il2:s1.heap.IsList q its2.toArray:=⟨_,g2,rfl,c2,rfl⟩
 have lp:@LT.lt Nat instLTNat p s1.heap.objs.size:=Heap.lt_size g1
 have lq:@LT.lt Nat instLTNat q s1.heap.objs.size:=Heap.lt_size g2
 refine call_zip_2 il1 il2 λh2 hz hTI hTO hi1 hi2 hsz hk=>?_
 refine Calls.spliced_nil ?_
 generalize hN:s1.heap.objs.size=N at *
 have D:ZipApart (N+4) (N+2) (N+3) N (N+1) p q:=by
  constructor <;> first | omega | exact Nat.ne_of_lt (by omega) | exact Nat.ne_of_gt (by omega)
 have Z:ZS h2 (N+4) (N+2) (N+3) N (N+1) p q its1.toArray its2.toArray 0:=.new hz hTI hTO hi1 hi2 (il1.at λo e=>hk _ o e) (il2.at λo e=>hk _ o e)
 refine Xv (s:={ s1 with heap:=h2 }) (I1.ok.hd hc) D (by show @LT.lt Nat instLTNat (N+4) h2.objs.size/\@LT.lt Nat instLTNat (N+2) h2.objs.size/\@LT.lt Nat instLTNat (N+3) h2.objs.size/\@LT.lt Nat instLTNat N h2.objs.size/\@LT.lt Nat instLTNat (N+1) h2.objs.size/\@LT.lt Nat instLTNat p h2.objs.size/\@LT.lt Nat instLTNat q h2.objs.size;rw[hsz];refine⟨?_,?_,?_,?_,?_,?_,?_⟩ <;> omega) (by rw[List.size_toArray,List.size_toArray];omega) (by rw[List.size_toArray];omega) hz Z λh' acc c hk' hL hacc=>?_
 have al:acc.size=xs.length:=by rw[hacc.len,List.size_toArray];omega
 have hacc0:=hacc
 obtain⟨Ts,hTl,hT⟩:∃Ts:List Addr,Ts.length=xs.length/\∀i,i<xs.length->∃x y,acc[i]? = some (.ref (Ts.getD i 0))/\xs[i]? = some x/\ys[i]? = some y/\N+6<=Ts.getD i 0/\∃u v,zQ x u/\zQ y v/\IsPair h' (Ts.getD i 0) u v:=by
  have hex:∀i,∃T:Addr,i<xs.length->∃x y,acc[i]? = some (.ref T)/\xs[i]? = some x/\ys[i]? = some y/\N+6<=T/\∃u v,zQ x u/\zQ y v/\IsPair h' T u v:=λi=>by
   by_cases hi:i<xs.length
   ·obtain⟨T,a',b',q1,q2,q3,q4,q5⟩:=hacc.it i acc[i] (Array.getElem?_eq_getElem (by omega))
    obtain⟨w1,e1,r1'⟩:=v1.get (List.getElem?_eq_getElem hi)
    obtain⟨w2,e2,r2'⟩:=v2.get (List.getElem?_eq_getElem (show i<ys.length by omega))
    rw[List.getElem?_toArray,e1]at q3
    rw[List.getElem?_toArray,e2]at q4
    cases q3;cases q4
    refine⟨T,λ_=>⟨xs[i],ys[i],by rw[<-q1];exact Array.getElem?_eq_getElem (by omega),List.getElem?_eq_getElem hi,List.getElem?_eq_getElem _,?_,a',b',r1',r2',q5⟩⟩
    have:h2.objs.size+1<=T:=q2
    rw[hsz]at this;exact this
   ·exact⟨0,λz=>absurd z hi⟩
  obtain⟨f,hf⟩:=Classical.skolem.mp hex
  refine⟨(List.range xs.length).map f,by simp,λi hi=>?_⟩
  have e:((List.range xs.length).map f).getD i 0=f i:=by simp[List.getD,hi]
  rw[e];exact hf i hi
 have inj:∀i j,i<xs.length->j<xs.length->Ts.getD i 0=Ts.getD j 0->i=j:=λi j hi hj e=>by
  obtain⟨_,_,a1,_⟩:=hT i hi
  obtain⟨_,_,a2,_⟩:=hT j hj
  rcases Nat.lt_trichotomy i j with c | c | c
  ·have:=hacc.nd i j _ _ a1 a2 c;rw[e]at this;exact absurd this (Nat.lt_irrefl _)
  ·exact c
  ·have:=hacc.nd j i _ _ a2 a1 c;rw[e]at this;exact absurd this (Nat.lt_irrefl _)
 let fd:Addr->Option Nat:=λa=>(List.range xs.length).find? λi=>decide (Ts.getD i 0=a)
 let H2:Hp:=λa=>if a=N+5 then some (.lst (Ts.map V.ref))else match fd a with
  | some i=>some (.tup [xs.getD i .non,ys.getD i .non])
  | none=>H1 a
 have fdS:∀{a i},fd a=some i->i<xs.length/\Ts.getD i 0=a:=λ{a i} e=>by
  have h1:=List.find?_some e
  have h2:=List.mem_of_find?_eq_some e
  exact⟨List.mem_range.mp h2,of_decide_eq_true h1⟩
 have fdT:∀i,i<xs.length->fd (Ts.getD i 0)=some i:=λi hi=>by
  cases e:fd (Ts.getD i 0)with
  | none=>exact absurd (decide_eq_true rfl) (List.find?_eq_none.mp e i (List.mem_range.mpr hi))
  | some j=>obtain⟨a1,a2⟩:=fdS e;rw[inj j i a1 hi a2]
 have fdN:∀a:Addr,@LT.lt Nat instLTNat a (N+6)->fd a=none:=λa ha=>by
  cases e:fd a with
  | none=>rfl
  | some j =>
   obtain⟨a1,a2⟩:=fdS e
   obtain⟨_,_,_,_,_,b1,_⟩:=hT j a1
   rw[a2]at b1
   exact absurd (Nat.lt_of_lt_of_le ha b1) (Nat.lt_irrefl _)
 have fr:∀a:Addr,@LE.le Nat instLENat N a->H1 a=none:=λa ha=>I1.hok.fresh (by rw[hN];exact ha)
 have lo:∀a o,H1 a=some o->@LT.lt Nat instLTNat a N:=λa o e=>by
  rcases Nat.lt_or_ge a N with c | c
  ·exact c
  ·rw[fr a c]at e;cases e
 have hS2:zi H1 H2:=λa o e=>by
  have l1:=lo a o e
  show (if a=N+5 then _ else _)=_
  rw[if_neg (show ¬(@Eq Nat a (N+5)) by omega)]
  rw[fdN a (by omega)];exact e
 have hT2:∀i,i<xs.length->H2 (Ts.getD i 0)=some (.tup [xs.getD i .non,ys.getD i .non]):=λi hi=>by
  obtain⟨_,_,_,_,_,b1,_⟩:=hT i hi
  have b1':@LE.le Nat instLENat (N+6) (Ts.getD i 0):=b1
  show (if Ts.getD i 0=N+5 then _ else _)=_
  rw[if_neg (show ¬(@Eq Nat (Ts.getD i 0) (N+5)) by omega),fdT i hi]
 have hL2:H2 (N+5)=some (.lst (Ts.map V.ref)):=by show (if(N+5:Addr)=N+5 then _ else _)=_;rw[if_pos rfl]
 have gd:∀i,i<xs.length->xs[i]? = some (xs.getD i .non)/\ys[i]? = some (ys.getD i .non):=λi hi=>by
  constructor
  ·rw[List.getElem?_eq_getElem hi];simp[List.getD,hi]
  ·have:i<ys.length:=by omega
   rw[List.getElem?_eq_getElem this];simp[List.getD,this]
 have hkeep:∀b u,s1.heap.get? b=some u->h'.get? b=some u:=λb u e=>by
  have lb:@LT.lt Nat instLTNat b N:=by rw[<-hN];exact Heap.lt_size e
  exact hk' b u (show ¬(@Eq Nat b (N+4)) by omega) (show ¬(@Eq Nat b (N+3)) by omega) (show ¬(@Eq Nat b N) by omega) (show ¬(@Eq Nat b (N+1)) by omega) (hk _ _ e)
 have hsz5:h2.objs.size=N+5:=hsz
 have J:Inv X pins σ H2 { s1 with heap:=h',toks:=s1.toks }:=by
  refine I1.laidF hkeep hS2 (λb hb hn=>?_) λb o e hn=>?_
  ·rw[hN]at hb
   have hb':@LT.lt Nat instLTNat b N:=hb
   show (if b=N+5 then _ else _)=_
   rw[if_neg (show ¬(@Eq Nat b (N+5)) by omega),fdN b (by omega)];exact hn
  ·by_cases hb:b=N+5
   ·subst hb
    rw[hL2]at e;cases e
    refine⟨by rw[List.length_map,hTl];exact z1,acc.toList,c,?_,?_⟩
    ·refine Xr (by simp[al,hTl]) λi hi=>?_
     rw[hTl]at hi
     obtain⟨_,_,a1,_⟩:=hT i hi
     rw[Array.getElem?_toList];exact a1
    ·rw[<-hsz5];simpa using hL
   ·have e':(match fd b with | some i=>some (HO.tup [xs.getD i .non,ys.getD i .non]) | none=>H1 b)=some o:=by
     have:(if b=N+5 then some (HO.lst (Ts.map V.ref))else match fd b with | some i=>some (HO.tup [xs.getD i .non,ys.getD i .non]) | none=>H1 b)=some o:=e
     rw[if_neg hb]at this;exact this
    cases hf:fd b with
    | none=>rw[hf,hn]at e';cases e'
    | some i =>
     rw[hf]at e'
     cases e'
     obtain⟨hi,rfl⟩:=fdS hf
     obtain⟨x,y,_,ex,ey,_,u,v,ru,rv,hp'⟩:=hT i hi
     have eg:=gd i hi
     rw[ex]at eg;rw[ey]at eg
     obtain⟨g3,g4⟩:=eg
     injection g3 with g3
     injection g4 with g4
     rw[<-g3,<-g4]
     exact⟨by show 2<=sizeLine;decide,[u,v],.cons ru (.cons rv .nil),_,hp',rfl,_,rfl⟩
 refine⟨.ref (N+5),H2,?_,?_,k (N+5) (Ts.map V.ref) H2 hS2 (fr _ (by omega)) hL2 ⟨by rw[List.length_map,hTl],λi v e=>?_⟩⟩
 ·exact J
 ·show Value.ref _=Value.ref _;rw[hsz5]
 ·rw[List.getElem?_map]at e
  cases ht:Ts[i]? with
  | none=>rw[ht]at e;cases e
  | some T =>
   rw[ht]at e;cases e
   have hi:i<xs.length:=by rw[<-hTl];exact(List.getElem?_eq_some_iff.mp ht).1
   have eT:Ts.getD i 0=T:=by simp[List.getD,ht]
   have:=hT2 i hi
   rw[eT]at this
   exact⟨T,_,_,rfl,(gd i hi).1,(gd i hi).2,this⟩
theorem XA:∀(bs:List Bool) (k:Nat),((List.range' k bs.length).any λi=>(bs[i - k]?).getD false)=bs.any id
 | [],k=>rfl
 | b::bs,k=>by
  rw[List.length_cons,List.range'_succ,List.any_cons,List.any_cons]
  simp only[Nat.sub_self,List.getElem?_cons_zero,Option.getD_some,id]
  congr 1
  rw[<-XA bs (k+1)]
  apply Bool.eq_iff_iff.mpr
  simp only[List.any_eq_true,List.mem_range'_1]
  constructor
  ·rintro ⟨i,hi,h⟩
   refine⟨i,hi,?_⟩
   rw[show i - k=(i - (k+1))+1 by omega,List.getElem?_cons_succ]at h;exact h
  ·rintro ⟨i,hi,h⟩
   refine⟨i,hi,?_⟩
   rw[show i - k=(i - (k+1))+1 by omega,List.getElem?_cons_succ];exact h
theorem Qx (hc:X.calm=true):va X (.builtin "any") (λxs H Q=>∃(p:Addr) (bs:List Bool),xs=[.ref p]/\SqL X.K H p (bs.map V.bl)/\Q (.bl (bs.any id)) H):=by
 intro pins s σ H xs us Q I r h
 obtain⟨p,bs,rfl,hq,q⟩:=h
 obtain⟨u,rfl,ru⟩:=vW r
 cases ru
 obtain⟨its,rv,pl,_⟩:=I.list hq
 have hlt:p<s.heap.objs.size:=by obtain⟨o,n,e,_⟩:=pl;exact Heap.lt_size e
 have hl:=rv.length
 rw[List.length_map]at hl
 refine call_any_walk (wpAny_pyIter_list pl.isList ⟨s.heap.objs.size,_,_,_,_,_,λi=>(bs[i]?).getD false,rfl,Walks.list (A:=X.A.in1) (show X.A.in1.handled=none from I.ok.hd hc) s.heap.objs.size p (Nat.ne_of_lt hlt) its.toArray,
  ⟨⟨_,Heap.get?_push_size _ rfl,rfl,rfl⟩,pl.isList.push _⟩,λi v s' Q' E' hv hQ'=>?_,λh' tk k=>⟨.bl (bs.any id),H,I.kept λb o e=>k b o (by simpa using Nat.ne_of_lt (Heap.lt_size e)) (Heap.get?_push_of_some _ e),?_,q⟩⟩)
 ·obtain⟨b,e1,rfl⟩:=X0 rv (by simpa using hv)
  simp only[e1,Option.getD_some]at hQ'
  exact wpAny_pure hQ'
 ·have:=XA bs 0
  simp only[Nat.sub_zero]at this
  rw[show its.toArray.size=bs.length by simp[hl],List.range_eq_range',this];rfl
def iAny (tl:TE):TI:=λσ H R=>tl σ H λx H1=>∃a us,x = .ref a/\(H1 a=some (.lst us)\/H1 a=some (.tup us))/\∀J,Vb J H1 us->R J H1
theorem zaJ {l tg:Expr}{tl:TE}(hl:PE X l tl):PI X tg l (iAny tl):=by
 intro pins s σ H R I h
 refine thn (hl pins s σ H _ I h) λv s1 ⟨x,H1,I1,r1,q1⟩=>?_
 obtain⟨a,us,e,q1,q2⟩:=q1
 subst e
 cases r1
 rcases q1 with hq | hq
 ·have q:=q2 (Itl X.K a) (zT hq)
  obtain⟨its,rv,p,hz⟩:=I1.list (SqL.of hq)
  refine wpAny_pyIter_list p.isList ?_
  refine⟨s1.heap.objs.size,[s1.heap.objs.size],_,_,H1,rfl,I1.kept (t':=s1.toks) λb o e=>Heap.get?_push_of_some _ e,XV a _,⟨_,Heap.get?_push_size _ rfl,rfl,rfl⟩,λb hb=>?_,q⟩
  have e:b=s1.heap.objs.size:=by simpa using hb
  subst e
  exact I1.fpOk (Nat.le_refl _) (I1.hok.fresh (Nat.le_refl _))
 ·have q:=q2 (Itt X.K a) (jt hq)
  obtain⟨its,rv,p,hz⟩:=I1.tuple (SqT.of hq)
  refine wpAny_pyIter_tuple (show s1.heap.IsTuple a its.toArray from p) ?_
  refine⟨s1.heap.objs.size,[s1.heap.objs.size],_,_,H1,rfl,I1.kept (t':=s1.toks) λb o e=>Heap.get?_push_of_some _ e,Xp a _,⟨_,Heap.get?_push_size _ rfl,rfl,rfl⟩,λb hb=>?_,q⟩
  have e:b=s1.heap.objs.size:=by simpa using hb
  subst e
  exact I1.fpOk (Nat.le_refl _) (I1.hok.fresh (Nat.le_refl _))
end
end L2
end
set_option Elab.async false
set_option linter.all false
set_option maxRecDepth 100000
namespace KK
open PySem L2
def top (i:Nat):Stmt:=PySem.Challenge.pw_clackrow_k32_papers_of_rounds_judged.main.body.getD i (.Pass ⟨0,0,0,0⟩)
abbrev qS:Stmt:=top 5
abbrev qR:Stmt:=top 6
abbrev xf:Stmt:=top 7
abbrev qP:Stmt:=top 8
abbrev v9:Stmt:=top 9
abbrev xw:Stmt:=top 12
abbrev xD:Stmt:=top 13
abbrev qZ:Stmt:=top 14
abbrev qx:Stmt:=top 15
abbrev vv:Stmt:=top 18
abbrev xR:Stmt:=top 19
abbrev xQ:Stmt:=top 20
abbrev xU:Stmt:=top 21
abbrev vt:Stmt:=top 22
abbrev qQ:Stmt:=top 23
abbrev qO:Stmt:=top 25
abbrev xG:Stmt:=top 26
abbrev xF:Stmt:=top 27
abbrev vx:Stmt:=top 28
abbrev qy:Stmt:=top 31
abbrev xS:Stmt:=top 32
abbrev xE:Stmt:=top 33
abbrev xg:Stmt:=top 34
abbrev xX:Stmt:=top 35
abbrev qY:Stmt:=top 36
abbrev qf:Stmt:=top 37
abbrev qW:Stmt:=top 39
abbrev qU:Stmt:=top 40
abbrev qX:Stmt:=top 41
abbrev x9:Stmt:=top 42
abbrev xV:Stmt:=top 43
abbrev xh:Stmt:=top 44
abbrev xW:Stmt:=top 45
abbrev qw:Stmt:=top 46
abbrev vw:Stmt:=top 47
abbrev qa:Stmt:=top 48
abbrev qv:Stmt:=top 49
abbrev qV:Stmt:=top 50
abbrev xu:Stmt:=top 51
abbrev xm:Stmt:=top 52
abbrev qe:Stmt:=top 53
abbrev qT:Stmt:=top 54
abbrev qu:Stmt:=top 55
abbrev x8:Stmt:=top 56
abbrev s_law:Stmt:=top 57
abbrev xT:Stmt:=zbA (top 11) 0
end KK
set_option Elab.async false
set_option linter.all false
set_option maxRecDepth 100000
namespace KK
open PySem L2
structure TxB (K:PySem.W.Frag) (mg:Str->Option Value):Prop where
 ii:PySem.W.kitOne K (.type "int") (.type "int")=some true
 ib:PySem.W.kitOne K (.type "int") (.type "bool")=some false
 nIs:mg "isinstance" = none
 nInt:mg "int" = none
 nBool:mg "bool" = none
 nAbs:mg "abs" = none
 nLen:mg "len" = none
 nMax:mg "max" = none
 nMin:mg "min" = none
 nRange:mg "range" = none
 nTuple:mg "tuple" = none
 nSum:mg "sum" = none
section
variable {P:Program}{w:World}{K:PySem.W.Frag}{mg:Str->Option Value}{base:Heap}
def ZT:Sp:=λvs H Q _=>∃i,vs=[.int i]/\Q (.bl true) H
theorem za5:zx ["thing"] ["thing"] (zh qS):=⟨rfl,rfl,rfl,by decide +kernel,rfl,by decide +kernel,by decide +kernel⟩
theorem zaC (D:Df K mg "is_whole" qS ["thing"] []) (T:TxB K mg):Cal P w K mg base "is_whole" 1 ["thing"] [] ZT:=by
 refine D.cal (k:=0) za5 (λvs H Q E h=>by obtain⟨i,rfl,_⟩:=h;rfl) (λf cdv A outer s H vs Q E hr h=>?_)
 obtain⟨i,rfl,k⟩:=h
 refine⟨_,zj (zD (qE
  (zw vc rfl T.nIs PyProof.Rows.boot_isinstance (za (pv 0) (za (jX (v:=.ty "int") (u:=.type "int") rfl T.nInt PyProof.Rows.boot_int rfl) ze)))
  (vK (zaG (zw vc rfl T.nIs PyProof.Rows.boot_isinstance (za (pv 0) (za (jX (v:=.ty "bool") (u:=.type "bool") rfl T.nBool (by decide +kernel) rfl) ze))))))),?_⟩
 refine⟨_,rfl,_,_,_,true,rfl,.int i,T.ii,true,rfl,xY ?_⟩
 exact⟨_,rfl,_,_,_,false,rfl,.int i,T.ib,false,rfl,k⟩
def QV:Sp:=λvs H Q _=>∃a b:Int,vs=[.int a,.int b]/\0<=a/\0<=b/\Q (.int (Int.gcd a b:Nat)) H
theorem zaZ:zx ["one","other"] ["one","other"] (zh xf):=⟨rfl,rfl,rfl,by decide +kernel,rfl,by decide +kernel,by decide +kernel⟩
theorem zdg (D:Df K mg "greatest_divisor" xf ["one","other"] []):Cal P w K mg base "greatest_divisor" 1 ["one","other"] [] QV:=by
 refine D.cal (k:=0) zaZ (λvs H Q E h=>by obtain⟨a,b,rfl,_⟩:=h;rfl) (λf cdv A outer s H vs Q E hr h=>?_)
 obtain⟨a,b,rfl,ha,hb,k⟩:=h
 refine⟨_,zf (jY PassesOwn.never (zu jA (pv 1) zd (zy _))
   (zj (vM (i:=0) (j:=1) rfl zaZ.nd rfl rfl (by decide) rfl rfl (za (pv 1) (za (zl qC (pv 0) (pv 1)) ze)) (by rfl))))
  (zj (zD (pv 0))),?_⟩
 refine Zd (λσ H1=>H1=H/\∃x y:Int,σ=[some (.int x),some (.int y)]/\0<=x/\0<=y/\Int.gcd x y=Int.gcd a b)
  (λσ _=>match σ with | [_,some (.int y)]=>y.toNat | _=>0) ⟨rfl,a,b,rfl,ha,hb,rfl⟩ ?_ ?_
 ·rintro σ H1 ⟨rfl,x,y,rfl,hx,hy,e⟩
  refine⟨_,rfl,_,_,rfl,rfl,_,rfl,xO (λh=>?_) (λh=>?_)⟩
  ·have h':0<y:=of_decide_eq_true h
   refine⟨_,rfl,_,rfl,_,rfl,_,_,rfl,rfl,h',_,_,rfl,⟨rfl,_,_,rfl,hy,Int.emod_nonneg _ (by omega),?_⟩,?_⟩
   ·rw[KM.Xa hx h'];exact e
   ·show (x % y).toNat<y.toNat
    have:=Int.emod_lt_of_pos x h'
    omega
  ·have h':¬ 0<y:=λz=>h (decide_eq_true z)
   have:y=0:=by omega
   subst this
   refine⟨_,rfl,?_⟩
   have e2:x=(Int.gcd a b:Nat):=by rw[<-e,Int.gcd_zero_right];omega
   rw[e2];exact k
 ·rintro σ H1 Q1 Q2 hq ⟨v,e,i,j,e1,e2,k1,e3,q⟩
  exact⟨v,e,i,j,e1,e2,k1,e3,hq _ _ q⟩
theorem Xk:zx ["top","bottom","divisor"] ["top","bottom"] (zh v9):=⟨rfl,rfl,rfl,by decide +kernel,rfl,by decide +kernel,by decide +kernel⟩
theorem jf (i:Int):(if i<0 then -i else i)=(i.natAbs:Int):=by split <;> omega
theorem zaA {dvs:List V}(D:Df K mg "ratio" v9 ["top","bottom"] dvs) (T:TxB K mg) (cW:Cal P w K mg base "is_whole" 1 ["thing"] [] ZT) (cG:Cal P w K mg base "greatest_divisor" 1 ["one","other"] [] QV) :
  Cal P w K mg base "ratio" 2 ["top","bottom"] dvs XS:=by
 refine D.cal (k:=1) Xk (λvs H Q E h=>by obtain⟨a,b,rfl,_⟩:=h;rfl) (λf cdv A outer s H vs Q E hr h=>?_)
 obtain⟨t,b,rfl,hb,hz,k⟩:=h
 refine⟨_,zf (zV (vU (vN (xL (zv cW hr (za (pv 0) ze)) λ_=>rfl)) (vU (vN (xL (zv cW hr (za (pv 1) ze)) λ_=>rfl)) (vO (zu x5 (pv 1) zd (zy _))))).pt Zv zF)
  (zf (zA (i:=2) Xk.nd rfl (Or.inl rfl) (zv cG hr (za (zw jj rfl T.nAbs PyProof.Rows.boot_abs (za (pv 0) ze)) (za (zw jj rfl T.nAbs PyProof.Rows.boot_abs (za (pv 1) ze)) ze))))
  (zf (zV (zu jW (pv 1) zd (zy _)) (zj (zA (i:=2) Xk.nd rfl (Or.inl rfl) (zct zbj (pv 2)))) zF)
  (zj (zD (zN (za (zl qm (pv 0) (pv 2)) (za (zl qm (pv 1) (pv 2)) ze))))))),?_⟩
 refine⟨_,rfl,t,rfl,true,rfl,xZ ?_⟩
 refine⟨_,rfl,b,rfl,true,rfl,xZ ?_⟩
 refine⟨_,rfl,rfl,_,rfl,xO (λh=>absurd (of_decide_eq_true h) (by intro z;injection z with z;exact hb z)) (λ_=>?_)⟩
 refine⟨_,rfl,t,rfl,⟨_,rfl,b,rfl,⟨_,_,rfl,(by rw[jf];omega),(by rw[jf];omega),?_⟩⟩⟩
 have hd:=KM.zck (t:=t) hb
 have hdz:Bd 8900 (KM.dv t b):=hz.of_le (KM.zcj hb)
 have fin:∀σ:St,σ=[some (.int t),some (.int b),some (.int (KM.dv t b))]->zfd (zff (x6 (tOp (rI J3 λi j=>V.int (i.fdiv j)) (xN 0) (xN 2)) (x6 (tOp (rI J3 λi j=>V.int (i.fdiv j)) (xN 1) (xN 2)) ju))) { nx:=λ_ H'=>Q .non H',rt:=Q } σ H:=by
  rintro σ rfl
  refine⟨_,rfl,_,rfl,_,_,rfl,rfl,⟨hd,hdz⟩,_,rfl,_,rfl,_,_,rfl,rfl,⟨hd,hdz⟩,?_⟩
  refine⟨by show 2<=sizeLine;decide,λp hp=>k p _ (zi.upd hp) ?_⟩
  show upd H p _ p=_
  rw[zg]
  dsimp only
  rw[KM.Vi hb,KM.zal hb];rfl
 have ge:(Int.gcd (if t<0 then -t else t) (if b<0 then -b else b):Nat)=Int.gcd t b:=by
  rw[jf,jf];simp[Int.gcd]
 refine⟨_,rfl,_,_,rfl,rfl,_,rfl,xO (λh=>?_) (λh=>?_)⟩
 ·have h':b<0:=of_decide_eq_true h
  refine⟨_,rfl,_,rfl,fin _ ?_⟩
  rw[ge];unfold KM.dv;rw[if_pos h'];rfl
 ·have h':¬b<0:=λz=>h (decide_eq_true z)
  refine fin _ ?_
  rw[ge];unfold KM.dv;rw[if_neg h'];rfl
end
end KK
set_option Elab.async false
set_option linter.all false
set_option maxRecDepth 100000
namespace KK
open PySem L2
end KK
section
set_option maxHeartbeats 4000000
set_option Elab.async false
set_option linter.all false
set_option maxRecDepth 100000
namespace KK
open PySem L2
def vn (H:Hp) (p:Addr):Prop:=∃a b c:Int,H p=some (.lst [.int a,.int b,.int c])
structure zS (p:Addr) (H H':Hp):Prop where
 pool:vn H' p
 keep:∀b o,H b=some o->b≠p->H' b=some o
theorem zS.trans {p:Addr}{H H1 H2:Hp}(a:zS p H H1) (b:zS p H1 H2):zS p H H2:=⟨b.pool,λc o e n=>b.keep c o (a.keep c o e n) n⟩
theorem zS.same {p:Addr}{H H1 H2:Hp}(a:zS p H H1) (b:zi H1 H2):zS p H H2:=⟨by obtain⟨x,y,z,e⟩:=a.pool;exact⟨x,y,z,b _ _ e⟩,λc o e n=>b c o (a.keep c o e n)⟩
theorem zS.pre {p:Addr}{H H1 H2:Hp}(b:zS p H1 H2) (a:zi H H1):zS p H H2:=⟨b.pool,λc o e n=>b.keep c o (a c o e) n⟩
theorem vn.new {H:Hp}{p l:Addr}{o:HO}(h:vn H p) (hl:H l=none):vn (upd H l o) p:=by obtain⟨a,b,c,e⟩:=h;exact⟨a,b,c,zi.upd hl _ _ e⟩
theorem vn.ne {H:Hp}{p l:Addr}(h:vn H p) (hl:H l=none):l≠p:=by obtain⟨a,b,c,e⟩:=h;exact(zJ e hl).symm
theorem zS.refl {p:Addr}{H:Hp}(h:vn H p):zS p H H:=⟨h,λ_ _ e _=>e⟩
theorem zS.tup {p a:Addr}{H H':Hp}{xs:List V}(s:zS p H H') (hp:vn H p) (h:H a=some (.tup xs)):H' a=some (.tup xs):=by
 obtain⟨_,_,_,e⟩:=hp
 exact s.keep a _ h (zcr h e (by intro z;cases z))
theorem zS.rat {p a:Addr}{H H':Hp}{q:Rat}(s:zS p H H') (hp:vn H p) (h:zI H a q):zI H' a q:=s.tup hp h
section
variable {P:Program}{w:World}{K:PySem.W.Frag}{mg:Str->Option Value}{base:Heap}
def zcx:Sp:=λvs H Q _=>∃c:Int,vs=[.int c]/\∀p H',H p=none->zi H H'->vn H' p->Q (.ref p) H'
theorem zdH:zx ["cell"] ["cell"] (zh qW):=⟨rfl,rfl,rfl,by decide +kernel,rfl,by decide +kernel,by decide +kernel⟩
theorem zdf (D:Df K mg "_law_pool" qW ["cell"] []) (T:TxB K mg):Cal P w K mg base "_law_pool" 1 ["cell"] [] zcx:=by
 refine D.cal (k:=0) zdH (λvs H Q E h=>by obtain⟨a,rfl,_⟩:=h;rfl) (λf cdv A outer s H vs Q E hr h=>?_)
 obtain⟨c,rfl,k⟩:=h
 refine⟨_,zj (zD (qp (za (zw (jv rfl) (by rfl) T.nMax PyProof.Rows.boot_max (za zd (za (zl xr (pv 0) (zl v8 zd zd)) ze))) (za (zl qC (pv 0) (zl v8 zd zd)) (za zd ze))))),?_⟩
 refine⟨_,rfl,_,_,rfl,rfl,⟨by decide,by decide,by decide⟩,_,_,rfl,rfl,_,_,rfl,?_⟩
 refine⟨_,rfl,_,_,rfl,rfl,⟨by decide,by decide,by decide⟩,_,_,rfl,rfl,(by show (0:Int)<10^18;decide),(by show 3<=sizeLine;decide),λp hp=>?_⟩
 exact k p _ hp (zi.upd hp) ⟨_,_,_,zg⟩
def jb:Sp:=λvs H Q _=>∃(p:Addr) (n:Int),vs=[.ref p,.int n]/\0<n/\n<1073741824/\vn H p/\∀(d:Int) H',0<=d->d<n->zS p H H'->Q (.int d) H'
theorem ZR:zx ["pool","base","digit","mixed","stir"] ["pool","base"] (zh qU):=⟨rfl,rfl,rfl,by decide +kernel,rfl,by decide +kernel,by decide +kernel⟩
theorem QX {H:Hp}{p:Addr}{a b c:Int}:zS p H (upd H p (.lst [.int a,.int b,.int c])):=⟨⟨a,b,c,zg⟩,λd o e n=>by rw[zB n];exact e⟩
theorem zbP (D:Df K mg "_law_next" qU ["pool","base"] []):Cal P w K mg base "_law_next" 1 ["pool","base"] [] jb:=by
 refine D.cal (k:=0) ZR (λvs H Q E h=>by obtain⟨a,b,rfl,_⟩:=h;rfl) (λf cdv A outer s H vs Q E hr h=>?_)
 obtain⟨p,n,rfl,n0,n1,⟨a,b,c,hp⟩,k⟩:=h
 refine⟨_,zf (zV (zu jA (zE xk (pv 0) zd (λ_ _=>rfl)) zd (zy _))
   (zf (zA (i:=2) ZR.nd rfl (Or.inl rfl) (zl qC (zE xk (pv 0) zd (λ_ _=>rfl)) (pv 1)))
   (zf (qi (zl jV (zE xk (pv 0) zd (λ_ _=>rfl)) (pv 1)) (Vz (pv 0) zd Xl))
   (zj (zD (pv 2))))) zF)
  (zf (qi (zl zR (zE xk (pv 0) zd (λ_ _=>rfl)) zd) (Vz (pv 0) zd Xl))
  (zf (zA (i:=3) ZR.nd rfl (Or.inl rfl) (zl qC (zl zR (zE xk (pv 0) zd (λ_ _=>rfl)) (zl Vu zd (zE xk (pv 0) zd (λ_ _=>rfl)))) zd))
  (zf (zA (i:=4) ZR.nd rfl (Or.inl rfl) (zl qC (zl Vu (zl zR (pv 3) zd) (zl zR (pv 3) zd)) zd))
  (zj (zD (zl qC (zl jV (zl qC (zl Vu (pv 4) (pv 4)) zd) zd) (pv 1))))))),?_⟩
 refine⟨_,rfl,p,_,_,_,rfl,rfl,.of hp,rfl,_,_,rfl,rfl,_,rfl,xO (λh=>?_) (λh=>?_)⟩
 ·refine⟨_,rfl,p,_,_,_,rfl,rfl,.of hp,rfl,_,rfl,_,_,rfl,rfl,n0,?_⟩
  refine⟨_,rfl,p,_,_,_,rfl,rfl,.of hp,rfl,_,rfl,_,_,rfl,rfl,⟨n0,n1⟩,?_⟩
  refine⟨_,rfl,p,_,_,0,rfl,rfl,hp,rfl,?_⟩
  exact⟨_,rfl,k _ _ (Int.emod_nonneg _ (by omega)) (Int.emod_lt_of_pos _ n0) QX⟩
 ·refine⟨_,rfl,p,_,_,_,rfl,rfl,.of hp,rfl,_,_,rfl,rfl,?_⟩
  refine⟨_,rfl,p,_,_,2,rfl,rfl,hp,rfl,?_⟩
  refine⟨_,rfl,p,_,_,_,rfl,rfl,.of zg,rfl,_,rfl,p,_,_,_,rfl,rfl,.of zg,rfl,_,_,rfl,rfl,.inl ⟨by decide,by decide⟩,_,_,rfl,rfl,_,_,rfl,rfl,(by show (0:Int)<1000000007;decide),?_⟩
  refine⟨_,rfl,_,_,rfl,rfl,_,rfl,_,_,rfl,rfl,_,_,rfl,rfl,.inl (by constructor <;> omega),_,_,rfl,rfl,(by show (0:Int)<998244353;decide),?_⟩
  refine⟨_,rfl,_,rfl,_,_,rfl,rfl,.inl (by constructor <;> omega),_,_,rfl,rfl,(by show (0:Int)<2147483647;decide),_,_,rfl,rfl,⟨by decide,by decide⟩,_,rfl,_,_,rfl,rfl,n0,?_⟩
  exact k _ _ (Int.emod_nonneg _ (by omega)) (Int.emod_lt_of_pos _ n0) QX
end
end KK
end
section
set_option maxHeartbeats 4000000
set_option Elab.async false
set_option linter.all false
set_option maxRecDepth 100000
namespace KK
open PySem L2 KM
inductive xb (H:Hp):List V->List vX->Prop
 | nil:xb H [] []
 | cons {a p q:Addr}{b:vX}{vs:List V}{bs:List vX}:H a=some (.tup [.ref p,.ref q,.int b.wt])->zI H p b.pl->zI H q b.sp->xb H vs bs->xb H (.ref a::vs) (b::bs)
theorem xb.mono {H H':Hp}(m:∀b xs,H b=some (.tup xs)->H' b=some (.tup xs)):∀{vs:List V}{bs:List vX},xb H vs bs->xb H' vs bs
 | _,_,.nil=>.nil
 | _,_,.cons h1 h2 h3 t=>.cons (m _ _ h1) (m _ _ h2) (m _ _ h3) (xb.mono m t)
theorem xb.same {H H':Hp}{vs:List V}{bs:List vX}(h:xb H vs bs) (e:zi H H'):xb H' vs bs:=h.mono λb xs z=>e b _ z
theorem xb.length {H:Hp}:∀{vs:List V}{bs:List vX},xb H vs bs->vs.length=bs.length
 | _,_,.nil=>rfl
 | _,_,.cons _ _ _ t=>by rw[List.length_cons,List.length_cons,xb.length t]
theorem xb.get {H:Hp}:∀{vs:List V}{bs:List vX}{i:Nat}{v:V},xb H vs bs->vs[i]? = some v->∃(a p q:Addr) (b:vX),bs[i]? = some b/\v = .ref a/\H a=some (.tup [.ref p,.ref q,.int b.wt])/\zI H p b.pl/\zI H q b.sp
 | _,_,_,_,.nil,e=>by simp at e
 | _,_,0,_,.cons h1 h2 h3 _,e=>by
  simp at e;subst e
  exact⟨_,_,_,_,rfl,rfl,h1,h2,h3⟩
 | _,_,i+1,v,.cons _ _ _ t,e=>by
  obtain⟨a,p,q,b,e1,r⟩:=xb.get (i:=i) t (by simpa using e)
  exact⟨a,p,q,b,by simpa using e1,r⟩
end KK
end
section
set_option maxHeartbeats 4000000
set_option Elab.async false
set_option linter.all false
set_option maxRecDepth 100000
namespace KK
open PySem L2 KM
theorem q8 {X:Cx}{es:List Expr}{k:Nat}{pos:Pos}{t:TGs}{n:Nat}{K:PySem.W.Frag}(hK:X.K=K) (hc:X.calm=true) (h:PGs X es t)
  (hn:(assignEach es X.env).length=n:=by rfl) (hst:(assignEach es X.env).findIdx? (·.1)=none:=by rfl):PG X (.Tuple es k pos) (ZJ K n t):=by subst hK;exact xP hc h hn hst
theorem qA {X:Cx}{K:PySem.W.Frag}(hK:X.K=K):IxR X (j0 K):=by subst hK;exact zH
section
variable {P:Program}{w:World}{K:PySem.W.Frag}{mg:Str->Option Value}{base:Heap}
theorem Bd9 {i:Int}(h:Bd 8900 i):Bd 1000000 i:=h.mono (by decide)
def xJ (ks:List Int):Int:=ks.foldl (λc n=>c/(Int.gcd c n:Int)*n) 1
theorem jl {c n:Int}(hc:0<c) (hn:0<n):0<c/(Int.gcd c n:Int)*n:=by
 refine Int.mul_pos ?_ hn
 have hg:0<(Int.gcd c n:Int):=by have:=Int.gcd_pos_of_ne_zero_left n (a:=c) (by omega);omega
 exact Int.ediv_pos_of_pos_of_dvd hc (by omega) (Int.gcd_dvd_left c n)
theorem zc2 {c n:Int}(hc:0<c) (hn:0<n):c/(Int.gcd c n:Int)*n<=c*n:=by
 have hg:0<(Int.gcd c n:Int):=by have:=Int.gcd_pos_of_ne_zero_left n (a:=c) (by omega);omega
 exact Int.mul_le_mul_of_nonneg_right (Int.ediv_le_self _ (by omega)) (by omega)
theorem Vd {m n:Nat}{c k:Int}(hc:0<c) (hk:0<k) (h:Bd m c) (h':Bd n k):Bd (m+n) (c/(Int.gcd c k:Int)*k) :=
 (h.mul h').of_le (by have:=zc2 hc hk;have:=jl hc hk;omega)
def Pos (n:Nat) (ks:List Int):Prop:=∀k∈ks,0<k/\Bd n k
def za8:Sp:=λvs H Q _=>∃p ks,vs=[.ref p]/\H p=some (.lst (ks.map V.int))/\Pos 400 ks/\ks.length<=20/\Q (.int (xJ ks)) H
theorem Ql:zx ["numbers","common","number"] ["numbers"] (zh xw):=⟨rfl,rfl,rfl,by decide +kernel,rfl,by decide +kernel,by decide +kernel⟩
theorem zdj (D:Df K mg "least_multiple" xw ["numbers"] []) (cG:Cal P w K mg base "greatest_divisor" 1 ["one","other"] [] QV):Cal P w K mg base "least_multiple" 2 ["numbers"] [] za8:=by
 refine D.cal (k:=1) Ql (λvs H Q E h=>by obtain⟨_,_,rfl,_⟩:=h;rfl) (λf cdv A outer s H vs Q E hr h=>?_)
 obtain⟨p,ks,rfl,hp,hk,hl,k⟩:=h
 refine⟨_,(zf (zA (i:=1) Ql.nd rfl (Or.inl rfl) zd)
  (zf (qj PassesOwn.never rfl (zP (pv 0)) (zk (i:=2) Ql.nd rfl (Or.inl rfl)) (zj (zA (i:=1) Ql.nd rfl (Or.inl rfl) (zl zG (zl qm (pv 1) (zv cG hr (za (pv 1) (za (pv 2) ze)))) (pv 2)))))
  (zj (zD (pv 1))))),?_⟩
 refine⟨_,rfl,p,rfl,⟨_,SqL.of hp⟩,vd (xs:=ks.map V.int) (λi σ H1=>H1=H/\∃z,σ=[some (.ref p),some (.int (xJ (ks.take i))),z]/\0<xJ (ks.take i)/\Bd (1+400*i) (xJ (ks.take i))) ⟨rfl,none,rfl,(by show (0:Int)<1;decide),(show (1:Int).natAbs<2^1 by decide)⟩ ?_ ?_ ?_⟩
 ·rintro i σ H1 _ ⟨rfl,_⟩;exact .of hp
 ·rintro i x σ H1 hx ⟨rfl,z,rfl,h1,h2⟩
  have hi:i<ks.length:=by
   have:=(List.getElem?_eq_some_iff.mp hx).1
   simpa using this
  obtain⟨n,hn,rfl⟩:∃n,ks[i]? = some n/\V.int n=x:=by simpa using hx
  have hn':=hk n (List.mem_of_getElem? hn)
  have et:xJ (ks.take (i+1))=xJ (ks.take i)/(Int.gcd (xJ (ks.take i)) n:Int)*n:=by
   rw[List.take_add_one,hn];simp[xJ,List.foldl_append]
  have hg:0<(Int.gcd (xJ (ks.take i)) n:Int):=by have:=Int.gcd_pos_of_ne_zero_left n (a:=xJ (ks.take i)) (by omega);omega
  have b1:Bd 8900 (xJ (ks.take i)):=h2.mono (by omega)
  have hgb:Bd 8900 (Int.gcd (xJ (ks.take i)) n:Int):=b1.of_le (by have:=Int.le_of_dvd h1 (Int.gcd_dvd_left (xJ (ks.take i)) n);omega)
  have hq:Bd 8900 ((xJ (ks.take i)).fdiv (Int.gcd (xJ (ks.take i)) n:Int)):=by
   rw[Int.fdiv_eq_ediv_of_nonneg _ (by omega)]
   exact b1.of_le (by have:=Int.ediv_le_self (Int.gcd (xJ (ks.take i)) n:Int) (a:=xJ (ks.take i)) (by omega);have:=Int.ediv_nonneg (a:=xJ (ks.take i)) (b:=(Int.gcd (xJ (ks.take i)) n:Int)) (by omega) (by omega);omega)
  refine⟨_,rfl,_,rfl,_,rfl,⟨_,_,rfl,by omega,by omega,?_⟩⟩
  refine⟨_,_,rfl,rfl,⟨by omega,hgb⟩,_,rfl,_,_,rfl,rfl,⟨Bd9 hq,hn'.2.mono (by decide)⟩,?_⟩
  refine⟨rfl,some (.int n),?_,?_,?_⟩
  ·rw[et,<-Int.fdiv_eq_ediv_of_nonneg _ (by omega)];rfl
  ·rw[et];exact jl h1 hn'.1
  ·rw[et];exact(Vd h1 hn'.1 h2 hn'.2).mono (by omega)
 ·rintro σ H1 ⟨rfl,z,rfl,_⟩
  refine⟨_,rfl,?_⟩
  rw[List.length_map,List.take_length];exact k
end
end KK
end
section
set_option maxHeartbeats 4000000
set_option Elab.async false
set_option linter.all false
set_option maxRecDepth 100000
namespace KK
open PySem L2 KM
def zcf (H:Hp) (us:List V) (qs:List Rat):Prop:=us.length=qs.length/\∀(i:Nat) (v:V),us[i]? = some v->∃a q,v=V.ref a/\qs[i]? = some q/\zI H a q
theorem Vj {α:Type}{f:α->V}{ys:List V}{qs:List α}(h:ys.length=qs.length) (k:∀(i:Nat) (v:V),ys[i]? = some v->∃q,qs[i]? = some q/\v=f q):ys=qs.map f:=by
 refine List.ext_getElem? λi=>?_
 by_cases hi:i<ys.length
 ·obtain⟨q,e1,e2⟩:=k i ys[i] (by simp[hi])
  rw[List.getElem?_map,e1,List.getElem?_eq_getElem hi,e2];rfl
 ·rw[List.getElem?_eq_none (by omega),List.getElem?_eq_none (by rw[List.length_map];omega)]
theorem jU {σ:St}(h:σ.length=2):∃a b,σ=[a,b]:=by
 match σ,h with
 | [a,b],_=>exact⟨a,b,rfl⟩
theorem v7 {σ:St}(h:σ.length=1):∃a,σ=[a]:=by
 match σ,h with
 | [a],_=>exact⟨a,rfl⟩
theorem zZ {n:Nat}(h:n<=20):n<sizeLine:=Nat.lt_of_le_of_lt h (by decide)
section
variable {P:Program}{w:World}{K:PySem.W.Frag}{mg:Str->Option Value}{base:Heap}
def Qf (qs:List Rat):Int:=xJ (qs.map λq=>(q.den:Int))
def zeR:Sp:=λvs H Q _=>∃p us qs,vs=[.ref p]/\H p=some (.lst us)/\zcf H us qs/\(∀q∈qs,Bd 400 (q.den:Int))/\qs.length<=20/\∀H',zi H H'->Q (.int (Qf qs)) H'
theorem zeM:zx ["ratios"] ["ratios"] (zh xD):=⟨rfl,rfl,rfl,by decide +kernel,rfl,by decide +kernel,by decide +kernel⟩
theorem zem (D:Df K mg "common_bottom" xD ["ratios"] []) (cL:Cal P w K mg base "least_multiple" 2 ["numbers"] [] za8):Cal P w K mg base "common_bottom" 3 ["ratios"] [] zeR:=by
 refine D.cal (k:=2) zeM (λvs H Q E h=>by obtain⟨_,_,_,rfl,_⟩:=h;rfl) (λf cdv A outer s H vs Q E hr h=>?_)
 obtain⟨p,us,qs,rfl,hp,hR,hb,hl,k⟩:=h
 refine⟨_,(zj (zD (zv cL hr (za (qo (NB:=["top","bottom"]) rfl (by decide +kernel) (by decide +kernel) rfl (by decide +kernel) (zP (pv 0)) (by intro _ _ _;refine⟨?_,?_,?_⟩;(exact(q8 (K:=K) (n:=2) rfl rfl (zm (zk (i:=0) (show List.Nodup (["top","bottom"]:List Str) by decide +kernel) rfl (Or.inl rfl)) (zm (zk (i:=1) (show List.Nodup (["top","bottom"]:List Str) by decide +kernel) rfl (Or.inl rfl)) zO))));(exact zL);(exact(pv 1)))) ze)))),?_⟩
 refine⟨_,rfl,p,rfl,⟨_,SqL.of hp⟩,λDa hD=>?_⟩
 refine qt (J:=Itl K p) (n:=2) (g:=ZJ K 2 (qk (zn 0) (qk (zn 1) Z7))) (te:=xN 1) (xs:=us) (λi v _=>∃q:Rat,qs[i]? = some q/\v = .int (q.den:Int)) (λ_ _ _ _ _ z=>z) hD (zT hp) (zZ (by rw[hR.1];exact hl)) ?_ ?_
 ·intro i x zs H2 Q' hx hz s2 hk
  obtain⟨a,q,rfl,hq,ha⟩:=hR.2 i x hx
  obtain⟨z1,z2,rfl⟩:=jU hz
  exact⟨a,_,rfl,SqT.of (s2 _ _ ha),rfl,_,_,rfl,_,_,rfl,rfl,_,rfl,hk _ _ (zi.refl _) ⟨q,hq,rfl⟩⟩
 ·intro ys H' s' hy hyl hyR
  have e:=Vj (f:=λq:Rat=>V.int (q.den:Int)) (hyl.trans hR.1) hyR
  refine⟨Da,qs.map λq:Rat=>(q.den:Int),rfl,?_,λn hn=>?_,by simpa using hl,k H' s'⟩
  ·rw[hy,e,List.map_map];rfl
  ·obtain⟨q,hq,rfl⟩:=List.mem_map.mp hn
   exact⟨by have:=q.den_pos;omega,hb q hq⟩
theorem zcH {a:V}{r:List V}:atI (a::r) 0=some a:=by
 unfold atI ixN;rw[if_pos (by decide),if_pos (by simp only[List.length_cons];omega)];rfl
theorem zcI {a b:V}{r:List V}:atI (a::b::r) 1=some b:=by
 unfold atI ixN;rw[if_pos (by decide),if_pos (by simp only[List.length_cons];omega)];rfl
structure TCo (K:PySem.W.Frag) (C:Addr):Prop where
 cls:Cls K C
 pb:x4 K C "place_bottom"
 sb:x4 K C "speed_bottom"
 tick:x4 K C "tick"
 weights:x4 K C "weights"
 tracks:x4 K C "tracks"
 low:x4 K C "low"
 high:x4 K C "high"
def Xs (H:Hp) (a:Addr) (x y:Rat):Prop:=∃p q r,H a=some (.tup (.ref p::.ref q::r))/\zI H p x/\zI H q y
theorem Xs.keeps {H H':Hp}{a:Addr}{x y:Rat}(h:Xs H a x y) (t:xo H H'):Xs H' a x y:=by
 obtain⟨p,q,r,h1,h2,h3⟩:=h
 exact⟨p,q,r,t _ _ h1,t _ _ h2,t _ _ h3⟩
def byB (x:Rat) (b:Int):Int:=x.num*b.fdiv (x.den:Int)
def zb9 (C:Addr):Sp:=λvs H Q _=>∃(c dx:Addr) (fs:List (Str×V)) (pb sb:Int),H c=some (.ins C dx fs)/\fs.lookup ("place_bottom":Str)=some (V.int pb)/\fs.lookup ("speed_bottom":Str)=some (V.int sb) ∧
 ((vs=[.ref c,.non]/\Q .non H)\/∃a x y,vs=[.ref c,.ref a]/\Xs H a x y/\Sz 400 x/\Sz 400 y/\0<pb/\0<sb/\Bd 8900 pb/\Bd 8900 sb/\∀r H',zi H H'->H' r=some (.tup [.int (byB x pb),.int (byB y sb)])->Q (.ref r) H')
theorem zcw:zx ["course","thing","start"] ["course","thing"] (zh qZ):=⟨rfl,rfl,rfl,by decide +kernel,rfl,by decide +kernel,by decide +kernel⟩
theorem VT {b d:Int}(hb:0<b) (hd:0<d) (h:Bd 8900 b):Bd 8900 (b.fdiv d):=by
 rw[Int.fdiv_eq_ediv_of_nonneg _ (by omega)]
 exact h.of_le (by have:=Int.ediv_le_self d (a:=b) (by omega);have:=Int.ediv_nonneg (a:=b) (b:=d) (by omega) (by omega);omega)
theorem zez {C:Addr}(D:Df K mg "track_of" qZ ["course","thing"] []) (TC:TCo K C):Cal P w K mg base "track_of" 1 ["course","thing"] [] (zb9 C):=by
 refine D.cal (k:=0) zcw (λvs H Q E h=>by obtain⟨_,_,_,_,_,_,_,_,⟨rfl,_⟩ | ⟨_,_,_,rfl,_⟩⟩:=h <;> rfl) (λf cdv A outer s H vs Q E hr h=>?_)
 obtain⟨c,dx,fs,pb,sb,hc,e1,e2,h⟩:=h
 refine⟨_,(zf (zV (zu jp (pv 1) qh (zy _)) (zj (zD qh)) zF)
  (zf (zA (i:=2) zcw.nd rfl (Or.inl rfl) (zl zG (zE zH (zE zH (pv 1) zd (λ_ _=>rfl)) zd (λ_ _=>rfl)) (zl qm (qL (pv 0) rfl) (zE zH (zE zH (pv 1) zd (λ_ _=>rfl)) zd (λ_ _=>rfl)))))
  (zj (zD (zN (za (pv 2) (za (zl zG (zE zH (zE zH (pv 1) zd (λ_ _=>rfl)) zd (λ_ _=>rfl)) (zl qm (qL (pv 0) rfl) (zE zH (zE zH (pv 1) zd (λ_ _=>rfl)) zd (λ_ _=>rfl)))) ze))))))),?_⟩
 rcases h with⟨rfl,k⟩ | ⟨a,x,y,rfl,⟨p,q,r,ha,hp,hq⟩,hx,hy,p1,p2,b1,b2,k⟩
 ·refine⟨_,rfl,rfl,_,rfl,xY k⟩
 ·refine⟨_,rfl,rfl,_,rfl,xZ ?_⟩
  have d1:0<(x.den:Int):=by have:=x.den_pos;omega
  have d2:0<(y.den:Int):=by have:=y.den_pos;omega
  have z1:=VT p1 d1 b1
  have z2:=VT p2 d2 b2
  refine⟨_,rfl,a,_,_,_,rfl,rfl,.of ha,zcH,p,_,_,_,rfl,rfl,.of hp,at0 ..,_,rfl,c,C,dx,fs,_,rfl,hc,TC.cls,TC.pb,e1,_,rfl,a,_,_,_,rfl,rfl,.of ha,zcH,p,_,_,_,rfl,rfl,.of hp,at1 ..,_,_,rfl,rfl,⟨by omega,hx.2.mono (by decide)⟩,_,_,rfl,rfl,⟨hx.1.mono (by decide),Bd9 z1⟩,?_⟩
  refine⟨_,rfl,_,rfl,a,_,_,_,rfl,rfl,.of ha,zcI,q,_,_,_,rfl,rfl,.of hq,at0 ..,_,rfl,c,C,dx,fs,_,rfl,hc,TC.cls,TC.sb,e2,_,rfl,a,_,_,_,rfl,rfl,.of ha,zcI,q,_,_,_,rfl,rfl,.of hq,at1 ..,_,_,rfl,rfl,⟨by omega,hy.2.mono (by decide)⟩,_,_,rfl,rfl,⟨hy.1.mono (by decide),Bd9 z2⟩,?_⟩
  exact⟨by show 2<=sizeLine;decide,λr hr=>k r _ (zi.upd hr) (by rw[zg];rfl)⟩
end
end KK
end
section
set_option maxHeartbeats 4000000
set_option Elab.async false
set_option linter.all false
set_option maxRecDepth 100000
namespace KK
open PySem L2 KM
theorem V9 {c n:Int}(hc:0<c) (hn:0<n):c ∣ c/(Int.gcd c n:Int)*n/\n ∣ c/(Int.gcd c n:Int)*n:=by
 refine⟨?_,Int.dvd_mul_left ..⟩
 obtain⟨m,hm⟩:=Int.gcd_dvd_right c n
 have hg:0<(Int.gcd c n:Int):=by have:=Int.gcd_pos_of_ne_zero_left n (a:=c) (by omega);omega
 refine⟨m,?_⟩
 have e1:c/(Int.gcd c n:Int)*(Int.gcd c n:Int)=c:=Int.ediv_mul_cancel (Int.gcd_dvd_left c n)
 calc c/(Int.gcd c n:Int)*n=c/(Int.gcd c n:Int)*((Int.gcd c n:Int)*m):=by rw[<-hm]
  _=c/(Int.gcd c n:Int)*(Int.gcd c n:Int)*m:=by rw[Int.mul_assoc]
  _=c*m:=by rw[e1]
theorem jT {n:Nat}:∀{ks:List Int}{c:Int}{m:Nat},0<c->Bd m c->Pos n ks →
  0<ks.foldl (λc n=>c/(Int.gcd c n:Int)*n) c/\Bd (m+n*ks.length) (ks.foldl (λc n=>c/(Int.gcd c n:Int)*n) c)/\c ∣ ks.foldl (λc n=>c/(Int.gcd c n:Int)*n) c/\∀k∈ks,k ∣ ks.foldl (λc n=>c/(Int.gcd c n:Int)*n) c
 | [],c,m,hc,hm,_=>⟨hc,hm,Int.dvd_refl c,λk hk=>by cases hk⟩
 | k::r,c,m,hc,hm,hp=>by
  have hk:=hp k List.mem_cons_self
  have d:=V9 hc hk.1
  obtain⟨a1,a2,a3,a4⟩:=jT (ks:=r) (jl hc hk.1) (Vd hc hk.1 hm hk.2) λx hx=>hp x (List.mem_cons_of_mem _ hx)
  refine⟨a1,a2.mono (by rw[List.length_cons,Nat.mul_add];omega),Int.dvd_trans d.1 a3,λx hx=>?_⟩
  rcases List.mem_cons.mp hx with rfl | hx
  ·exact Int.dvd_trans d.2 a3
  ·exact a4 x hx
theorem V8 {qs:List Rat}(h:∀q∈qs,Bd 400 (q.den:Int)) (hl:qs.length<=20):0<Qf qs/\Bd 8900 (Qf qs)/\∀q∈qs,(q.den:Int) ∣ Qf qs:=by
 obtain⟨a1,a2,_,a4⟩:=jT (n:=400) (ks:=qs.map λq=>(q.den:Int)) (c:=1) (m:=1) (by decide) (show (1:Int).natAbs<2^1 by decide) (λk hk=>by
  obtain⟨q,hq,rfl⟩:=List.mem_map.mp hk
  exact⟨by have:=q.den_pos;omega,h q hq⟩)
 exact⟨a1,a2.mono (by rw[List.length_map];omega),λq hq=>a4 _ (List.mem_map.mpr ⟨q,hq,rfl⟩)⟩
structure Bl where
 pl:Rat
 sp:Rat
 wt:Int
def J2 (H:Hp) (v:V) (b:Bl):Prop:=∃a p q,v=V.ref a/\H a=some (.tup [.ref p,.ref q,.int b.wt])/\zI H p b.pl/\zI H q b.sp
def ZY (H:Hp) (us:List V) (bs:List Bl):Prop:=us.length=bs.length/\∀(i:Nat) (v:V),us[i]? = some v->∃b,bs[i]? = some b/\J2 H v b
def Xt (H:Hp) (v:V):Option (Rat×Rat)->Prop
 | none=>v = .non
 | some w=>∃a,v=V.ref a/\Xs H a w.1 w.2
theorem J2.keeps {H H':Hp}{v:V}{b:Bl}(h:J2 H v b) (t:xo H H'):J2 H' v b:=by
 obtain⟨a,p,q,e,h1,h2,h3⟩:=h
 exact⟨a,p,q,e,t _ _ h1,t _ _ h2,t _ _ h3⟩
theorem ZY.keeps {H H':Hp}{us:List V}{bs:List Bl}(h:ZY H us bs) (t:xo H H'):ZY H' us bs :=
 ⟨h.1,λi v e=>by obtain⟨b,e1,e2⟩:=h.2 i v e;exact⟨b,e1,e2.keeps t⟩⟩
theorem Xt.keeps {H H':Hp}{v:V}{w:Option (Rat×Rat)} (h:Xt H v w) (t:xo H H'):Xt H' v w:=by
 cases w with
 | none=>exact h
 | some w=>obtain⟨a,e,h⟩:=h;exact⟨a,e,h.keeps t⟩
def TsI (H:Hp) (vs:List V) (ts:List (Rat×Rat)):Prop:=vs.length=ts.length/\∀(i:Nat) (v:V),vs[i]? = some v->∃t a,ts[i]? = some t/\v=V.ref a/\Xs H a t.1 t.2
theorem TsI.keeps {H H':Hp}{vs:List V}{ts:List (Rat×Rat)} (h:TsI H vs ts) (t:xo H H'):TsI H' vs ts :=
 ⟨h.1,λi v e=>by obtain⟨x,a,e1,e2,e3⟩:=h.2 i v e;exact⟨x,a,e1,e2,e3.keeps t⟩⟩
theorem TsI.nil {H:Hp}:TsI H [] []:=⟨rfl,λi v e=>by simp at e⟩
theorem TsI.cons {H:Hp}{a:Addr}{t:Rat×Rat}{vs:List V}{ts:List (Rat×Rat)} (h:Xs H a t.1 t.2) (r:TsI H vs ts):TsI H (.ref a::vs) (t::ts):=by
 refine⟨by simp[r.1],λi v e=>?_⟩
 cases i with
 | zero=>simp at e;subst e;exact⟨t,a,rfl,rfl,h⟩
 | succ i=>obtain⟨x,b,e1,e2⟩:=r.2 i v (by simpa using e);exact⟨x,b,by simpa using e1,e2⟩
theorem TsI.append {H:Hp}{vs vs':List V}{ts ts':List (Rat×Rat)} (h:TsI H vs ts) (h':TsI H vs' ts'):TsI H (vs++vs') (ts++ts'):=by
 refine⟨by simp[h.1,h'.1],λi v e=>?_⟩
 by_cases hi:i<vs.length
 ·rw[List.getElem?_append_left hi]at e
  rw[List.getElem?_append_left (by rw[<-h.1];exact hi)]
  exact h.2 i v e
 ·rw[List.getElem?_append_right (by omega)]at e
  rw[List.getElem?_append_right (by rw[<-h.1];omega),<-h.1]
  exact h'.2 _ v e
theorem ZY.ts {H:Hp}{us:List V}{bs:List Bl}(h:ZY H us bs):TsI H us (bs.map λb=>(b.pl,b.sp)):=by
 refine⟨by simp[h.1],λi v e=>?_⟩
 obtain⟨b,e1,a,p,q,rfl,h1,h2,h3⟩:=h.2 i v e
 exact⟨(b.pl,b.sp),a,by rw[List.getElem?_map,e1];rfl,rfl,p,q,_,h1,h2,h3⟩
def jG:Option (Rat×Rat)->List (Rat×Rat)
 | none=>[]
 | some w=>[w]
theorem zbl {H:Hp}{v1 v2:V}{lo hi:Option (Rat×Rat)} (h1:Xt H v1 lo) (h2:Xt H v2 hi):TsI H ([v1,v2].filter λv=>!decide (v = .non)) (jG lo++jG hi):=by
 have one:∀{v:V}{w:Option (Rat×Rat)},Xt H v w->TsI H ([v].filter λv=>!decide (v = .non)) (jG w):=λ{v w} h=>by
  cases w with
  | none =>
   have e:v = .non:=h
   subst e;exact .nil
  | some w =>
   obtain⟨a,e,h⟩:=h
   subst e
   rw[List.filter_cons_of_pos (by simp)]
   exact .cons h .nil
 have e:([v1,v2].filter λv=>!decide (v = .non))=([v1].filter λv=>!decide (v = .non))++([v2].filter λv=>!decide (v = .non)):=by
  rw[<-List.filter_append];rfl
 rw[e];exact(one h1).append (one h2)
def xz (c:Addr) (H H':Hp):Prop:=∀b o,b≠c->H b=some o->H' b=some o
theorem xz.of {c:Addr}{H H':Hp}(h:zi H H'):xz c H H':=λb o _ e=>h b o e
theorem xz.trans {c:Addr}{H H1 H2:Hp}(a:xz c H H1) (b:xz c H1 H2):xz c H H2:=λx o n e=>b x o n (a x o n e)
theorem xz.upd {c:Addr}{H:Hp}{o:HO}:xz c H (upd H c o):=λb u n e=>by rw[zB n];exact e
theorem xz.tup {c C dx:Addr}{fs:List (Str×V)}{H H':Hp}(h:xz c H H') (e:H c=some (.ins C dx fs)):xo H H':=λb xs q=>h b _ (λz=>by subst z;rw[e]at q;cases q) q
end KK
end
section
set_option maxHeartbeats 4000000
set_option Elab.async false
set_option linter.all false
set_option maxRecDepth 100000
namespace KK
open PySem L2 KM
structure TxQ (K:PySem.W.Frag) (mg:Str->Option Value):Prop extends TxB K mg where
 nList:mg "list" = none
 nZip:mg "zip" = none
def XX (H:Hp) (v:V):Option (Int×Int)->Prop
 | none=>v = .non
 | some t=>∃a,v=V.ref a/\H a=some (.tup [.int t.1,.int t.2])
def J6 (H:Hp) (vs:List V) (ts:List (Int×Int)):Prop:=vs.length=ts.length/\∀(i:Nat) (v:V),vs[i]? = some v->∃t,ts[i]? = some t/\XX H v (some t)
theorem XX.keeps {H H':Hp}{v:V}{w:Option (Int×Int)} (h:XX H v w) (t:xo H H'):XX H' v w:=by
 cases w with
 | none=>exact h
 | some w=>obtain⟨a,e,h⟩:=h;exact⟨a,e,t _ _ h⟩
theorem J6.keeps {H H':Hp}{vs:List V}{ts:List (Int×Int)} (h:J6 H vs ts) (t:xo H H'):J6 H' vs ts :=
 ⟨h.1,λi v e=>by obtain⟨x,e1,e2⟩:=h.2 i v e;exact⟨x,e1,e2.keeps t⟩⟩
structure CoF (H:Hp) (fs:List (Str×V)) (pb sb:Int) (tk:Rat) (ws:List Int) (trs:List (Int×Int)) (lo hi:Option (Int×Int)):Prop where
 pb:fs.lookup ("place_bottom":Str)=some (V.int pb)
 sb:fs.lookup ("speed_bottom":Str)=some (V.int sb)
 tick:∃tp,fs.lookup ("tick":Str)=some (V.ref tp)/\zI H tp tk
 weights:∃wl,fs.lookup ("weights":Str)=some (V.ref wl)/\H wl=some (.lst (ws.map V.int))
 tracks:∃tl tv,fs.lookup ("tracks":Str)=some (V.ref tl)/\H tl=some (.lst tv)/\J6 H tv trs
 low:∃v,fs.lookup ("low":Str)=some v/\XX H v lo
 high:∃v,fs.lookup ("high":Str)=some v/\XX H v hi
 len:fs.length<=20
def XW (H:Hp) (C c:Addr) (pb sb:Int) (tk:Rat) (ws:List Int) (trs:List (Int×Int)) (lo hi:Option (Int×Int)):Prop:=∃dx fs,H c=some (.ins C dx fs)/\CoF H fs pb sb tk ws trs lo hi
def CoN (H0 H:Hp) (C c:Addr) (pb sb:Int) (tk:Rat) (ws:List Int) (trs:List (Int×Int)) (lo hi:Option (Int×Int)):Prop:=∃dx fs tl,H c=some (.ins C dx fs)/\CoF H fs pb sb tk ws trs lo hi/\fs.lookup ("tracks":Str)=some (V.ref tl)/\H0 tl=none
theorem CoN.co {H0 H:Hp}{C c:Addr}{pb sb:Int}{tk:Rat}{ws:List Int}{trs:List (Int×Int)}{lo hi:Option (Int×Int)} (h:CoN H0 H C c pb sb tk ws trs lo hi):XW H C c pb sb tk ws trs lo hi:=by
 obtain⟨dx,fs,tl,h1,h2,_⟩:=h;exact⟨dx,fs,h1,h2⟩
def ths (bs:List Bl) (lo hi:Option (Rat×Rat)):List (Rat×Rat):=bs.map (λb=>(b.pl,b.sp))++(jG lo++jG hi)
def pbO (bs:List Bl) (lo hi:Option (Rat×Rat)):Int:=Qf ((ths bs lo hi).map (·.1))
def sbO (bs:List Bl) (lo hi:Option (Rat×Rat)):Int:=Qf ((ths bs lo hi).map (·.2))
def trB (pb sb:Int) (t:Rat×Rat):Int×Int:=(byB t.1 pb,byB t.2 sb)
section
variable {P:Program}{w:World}{K:PySem.W.Frag}{mg:Str->Option Value}{base:Heap}
def zdP (C:Addr):Sp:=λvs H Q _=>∃c dx r wa us bs v1 v2 lo hi,vs=[V.ref c,.ref r,.ref wa]/\H c=some (.ins C dx [])/\H r=some (.tup us)/\ZY H us bs/\H wa=some (.tup [v1,v2])/\Xt H v1 lo/\Xt H v2 hi/\bs.length<=8 ∧
 (∀t∈ths bs lo hi,Sz 400 t.1/\Sz 400 t.2)/\∀H',xz c H H'->CoN H H' C c (pbO bs lo hi) (sbO bs lo hi) (Rat.divInt (sbO bs lo hi) (pbO bs lo hi)) (bs.map Bl.wt) (bs.map λb=>trB (pbO bs lo hi) (sbO bs lo hi) (b.pl,b.sp)) (lo.map (trB (pbO bs lo hi) (sbO bs lo hi))) (hi.map (trB (pbO bs lo hi) (sbO bs lo hi)))->Q .non H'
theorem zcv:zx ["self","row","walls","things"] ["self","row","walls"] (zh xT):=⟨rfl,rfl,rfl,by decide +kernel,rfl,by decide +kernel,by decide +kernel⟩
theorem vH {bs:List Bl}{lo hi:Option (Rat×Rat)} (h:bs.length<=8):(ths bs lo hi).length<=20:=by
 unfold ths
 have e:∀w:Option (Rat×Rat),(jG w).length<=1:=λw=>by cases w <;> simp[jG]
 have:=e lo
 have:=e hi
 simp only[List.length_append,List.length_map];omega
theorem VV {σ:St}{H:Hp}{Q:VK}{L:Addr}{vs:List V}{ts:List (Rat×Rat)}{j:Nat}{i:Int}(f:Rat×Rat->Rat) (hσ:σ[j]? = some (some (.ref L))) (hL:H L=some (.lst vs)) (hT:TsI H vs ts) (hl:ts.length<=20)
  (hf:∀H2 a t,Xs H2 a t.1 t.2->∃xs p,H2 a=some (.tup xs)/\atI xs i=some (.ref p)/\zI H2 p (f t))
  (k:∀D ys H',zi H H'->H' D=some (.lst ys)->zcf H' ys (ts.map f)->Q (.ref D) H') :
  Jr 1 (zcn K (xN j)) (zn 0) (λ_ H Q=>Q true H) (tOp (j0 K) (xN 0) (tC (.int i))) σ H Q:=by
 refine⟨_,hσ,L,rfl,⟨_,SqL.of hL⟩,λD hD=>?_⟩
 refine qt (J:=Itl K L) (n:=1) (g:=zn 0) (te:=tOp (j0 K) (xN 0) (tC (.int i))) (xs:=vs) (λm v H=>∃t p,ts[m]? = some t/\v = .ref p/\zI H p (f t)) (λ_ _ _ _ t ⟨x,p,e1,e2,e3⟩=>⟨x,p,e1,e2,t _ _ e3⟩) hD (zT hL) (zZ (by rw[hT.1];exact hl)) ?_ ?_
 ·intro m x zs H2 Q' hx hz s2 hk
  obtain⟨t,a,e,rfl,ha⟩:=hT.2 m x hx
  obtain⟨z1,rfl⟩:=v7 hz
  obtain⟨xs,p,h1,h2,h3⟩:=hf H2 a t (ha.keeps (.of s2))
  dsimp only[zn]
  try rw[if_pos rfl]
  exact⟨_,rfl,a,_,_,_,rfl,rfl,.of h1,h2,hk _ _ (zi.refl _) ⟨t,p,e,rfl,h3⟩⟩
 ·intro ys H' s' hy hyl hyR
  refine k D ys H' s' hy ⟨by simp[hyl,hT.1],λm v e=>?_⟩
  obtain⟨t,p,e1,e2,e3⟩:=hyR m v e
  exact⟨p,f t,e2,by rw[List.getElem?_map,e1];rfl,e3⟩
end
end KK
end
section
set_option maxHeartbeats 4000000
set_option Elab.async false
set_option linter.all false
set_option maxRecDepth 100000
namespace KK
open PySem L2 KM
section
variable {P:Program}{w:World}{K:PySem.W.Frag}{mg:Str->Option Value}{base:Heap}
theorem th0:∀(H2:Hp) (a:Addr) (t:Rat×Rat),Xs H2 a t.1 t.2->∃xs p,H2 a=some (.tup xs)/\atI xs 0=some (.ref p)/\zI H2 p t.1:=λH2 a t ⟨p,q,r,h1,h2,h3⟩=>⟨_,p,h1,zcH,h2⟩
theorem th1:∀(H2:Hp) (a:Addr) (t:Rat×Rat),Xs H2 a t.1 t.2->∃xs p,H2 a=some (.tup xs)/\atI xs 1=some (.ref p)/\zI H2 p t.2:=λH2 a t ⟨p,q,r,h1,h2,h3⟩=>⟨_,q,h1,zcI,h3⟩
theorem jw {tv:TE}{rest:TS}{f:Str}{D:je}{σ:St}{H:Hp}(h:tv σ H λy H1=>xN 0 σ H1 λx H2=>∃a C dx fs,x = .ref a/\H2 a=some (.ins C dx fs)/\Cls K C/\x4 K C f/\fs.length<1000/\rest D σ (upd H2 a (.ins C dx (vT f y fs)))):VJ (zdF K (xN 0) tv f) rest D σ H:=h
theorem zbR {tv:TE}{f:Str}{D:je}{σ:St}{H:Hp}(h:tv σ H λy H1=>xN 0 σ H1 λx H2=>∃a C dx fs,x = .ref a/\H2 a=some (.ins C dx fs)/\Cls K C/\x4 K C f/\fs.length<1000/\D.nx σ (upd H2 a (.ins C dx (vT f y fs)))):zdF K (xN 0) tv f D σ H:=h
theorem zci {te:TE}{sp:Sp}{σ:St}{H:Hp}{Q:VK}(h:te σ H λx H1=>sp [x] H1 Q E0):jC sp [] E0 (x6 te ju) σ H Q:=h
theorem zac {ta tb:TE}{sp:Sp}{σ:St}{H:Hp}{Q:VK}(h:ta σ H λx H1=>tb σ H1 λy H2=>sp [x,y] H2 Q E0):jC sp [] E0 (x6 ta (x6 tb ju)) σ H Q:=h
theorem vC {c C dx:Addr}{fs:List (Str×V)}{f:Str}{y:V}{rest:TS}{D:je}{σ:St}{H3:Hp}(hσ:σ[0]? = some (some (.ref c))) (hc:H3 c=some (.ins C dx fs)) (cl:Cls K C) (na:x4 K C f) (hl:fs.length<1000)
  (k:∀G,xz c H3 G->G c=some (.ins C dx (vT f y fs))->rest D σ G):xN 0 σ H3 λx H2=>∃a C dx fs,x = .ref a/\H2 a=some (.ins C dx fs)/\Cls K C/\x4 K C f/\fs.length<1000/\rest D σ (upd H2 a (.ins C dx (vT f y fs))) :=
 ⟨_,hσ,c,C,dx,fs,rfl,hc,cl,na,hl,k _ .upd zg⟩
theorem Jt {C c dx:Addr}{fs:List (Str×V)}{pb sb:Int}{G:Hp}{v:V}{w:Option (Rat×Rat)}{Q:VK}{E:XK}(hc:G c=some (.ins C dx fs)) (e1:fs.lookup ("place_bottom":Str)=some (V.int pb)) (e2:fs.lookup ("speed_bottom":Str)=some (V.int sb)) (hw:Xt G v w)
  (hz:∀t,w=some t->Sz 400 t.1/\Sz 400 t.2) (p1:0<pb/\Bd 8900 pb) (p2:0<sb/\Bd 8900 sb) (k:∀v' H',zi G H'->XX H' v' (w.map (trB pb sb))->Q v' H'):zb9 C [.ref c,v] G Q E:=by
 refine⟨c,dx,fs,pb,sb,hc,e1,e2,?_⟩
 cases w with
 | none =>
  have e:v = .non:=hw
  subst e
  exact .inl ⟨rfl,k _ _ (zi.refl _) rfl⟩
 | some t =>
  obtain⟨a,rfl,ha⟩:=hw
  have z:=hz t rfl
  exact .inr ⟨a,t.1,t.2,rfl,ha,z.1,z.2,p1.1,p2.1,p1.2,p2.2,λr H' s h=>k _ _ s ⟨r,rfl,h⟩⟩
theorem zeo {C f:Addr}{fd:FuncData}(F:Fun K "__init__" "Course.__init__" xT f fd) (T:TxQ K mg) (TC:TCo K C) (cB:Cal P w K mg base "common_bottom" 3 ["ratios"] [] zeR) (cR:Cal P w K mg base "ratio" 2 ["top","bottom"] [] XS)
  (cT:Cal P w K mg base "track_of" 1 ["course","thing"] [] (zb9 C)):jD P w K mg base CX0 4 f fd ["self","row","walls"] (zdP C):=by
 refine F.ok (k:=3) zcv (λvs H Q E h=>by obtain⟨_,_,_,_,_,_,_,_,_,_,rfl,_⟩:=h;rfl) (λcdv A outer s H vs Q E hr h=>?_)
 obtain⟨c,dx,r,wa,us,bs,v1,v2,lo,hi,rfl,hc,hrr,hB,hw,h1,h2,hl,hz,k⟩:=h
 have hr2:xj 2 _:=hr.mono (by decide)
 have hr1:xj 1 _:=hr.mono (by decide)
 refine⟨_,(zf (zA (i:=3) zcv.nd rfl (Or.inl rfl) (zl zdx (vp vY (by rfl) T.nList PyProof.Rows.boot_list (za (pv 1) ze)) (qo (NB:=["wall"]) rfl (by decide +kernel) (by decide +kernel) rfl (by decide +kernel) (vL (pv 2)) (by intro _ _ _;refine⟨?_,?_,?_⟩;(exact(zk (i:=0) (show List.Nodup (["wall"]:List Str) by decide +kernel) rfl (Or.inl rfl)));(exact(Jj (zu Jd (pv 0) qh (zy _))));(exact(pv 0))))))
  (zf (jH (pv 0) (zv cB hr (za (qo (NB:=["thing"]) rfl (by decide +kernel) (by decide +kernel) rfl (by decide +kernel) (zP (pv 3)) (by intro _ _ _;refine⟨?_,?_,?_⟩;(exact(zk (i:=0) (show List.Nodup (["thing"]:List Str) by decide +kernel) rfl (Or.inl rfl)));(exact zL);(exact(zE (qA (K:=K) rfl) (pv 0) zd (λ_ _=>rfl))))) ze)) rfl)
  (zf (jH (pv 0) (zv cB hr (za (qo (NB:=["thing"]) rfl (by decide +kernel) (by decide +kernel) rfl (by decide +kernel) (zP (pv 3)) (by intro _ _ _;refine⟨?_,?_,?_⟩;(exact(zk (i:=0) (show List.Nodup (["thing"]:List Str) by decide +kernel) rfl (Or.inl rfl)));(exact zL);(exact(zE (qA (K:=K) rfl) (pv 0) zd (λ_ _=>rfl))))) ze)) rfl)
  (zf (jH (pv 0) (zv cR hr2 (za (qL (pv 0) rfl) (za (qL (pv 0) rfl) ze))) rfl)
  (zf (jH (pv 0) (qo (NB:=["ball"]) rfl (by decide +kernel) (by decide +kernel) rfl (by decide +kernel) (vL (pv 1)) (by intro _ _ _;refine⟨?_,?_,?_⟩;(exact(zk (i:=0) (show List.Nodup (["ball"]:List Str) by decide +kernel) rfl (Or.inl rfl)));(exact zL);(exact(zE (qA (K:=K) rfl) (pv 0) zd (λ_ _=>rfl))))) rfl)
  (zf (jH (pv 0) (xK (NB:=["ball"]) (FR:=["self"]) (js:=[0]) rfl rfl (λ_ _ h=>h) (.cons rfl rfl rfl ⟨_,rfl⟩ .nil) rfl (by decide +kernel) rfl (by decide +kernel) (vL (pv 1)) (by intro _ _ _;refine⟨?_,?_,?_⟩;(exact(zk (i:=0) (show List.Nodup (["ball","self"]:List Str) by decide +kernel) rfl (Or.inl rfl)));(exact zL);(exact(zv cT hr1 (za (pv 1) (za (pv 0) ze)))))) rfl)
  (zf (jH (pv 0) (zv cT hr1 (za (pv 0) (za (zE zH (pv 2) zd (λ_ _=>rfl)) ze))) rfl)
  (zj (jH (pv 0) (zv cT hr1 (za (pv 0) (za (zE zH (pv 2) zd (λ_ _=>rfl)) ze))) rfl))))))))),?_⟩
 refine⟨_,rfl,r,us,rfl,.inr (.of hrr),λl hll=>?_⟩
 refine⟨_,rfl,wa,rfl,⟨_,SqT.of (zi.upd hll _ _ hw)⟩,λDa hD=>?_⟩
 refine zad (J:=Itt K wa) (n:=1) (g:=zn 0) (te:=xN 0) (xs:=[v1,v2]) (λv=>!decide (v = .non)) hD (jt (zi.upd hll _ _ hw)) (zZ (by show 2<=20;decide)) ?_ ?_
 ·intro m x zs H2 A2 B2 hx hz2 s2 ka kb
  obtain⟨z1,rfl⟩:=v7 hz2
  dsimp only[zn]
  refine⟨_,rfl,rfl,_,rfl,?_⟩
  cases e:decide (x=V.non)with
  | true=>exact kb (by simp[e])
  | false=>exact⟨_,rfl,ka (by simp[e])⟩
 intro H1 s1 hy
 have hl1:H1 l=some (.lst us):=s1 _ _ zg
 refine⟨l,Da,us,_,rfl,rfl,hl1,hy,?_,λL hL=>?_⟩
 ·have z1:=List.length_filter_le (λv=>!decide (v=V.non)) [v1,v2]
  have z2:=hB.1
  have z3:20<sizeLine:=zZ (Nat.le_refl _)
  simp only[List.length_cons,List.length_nil]at z1
  omega
 have S1:zi H H1:=(zi.upd hll).trans s1
 have S2:zi H (upd H1 L (.lst (us++[v1,v2].filter λv=>!decide (v = .non)))):=S1.trans (zi.upd hL)
 have hT:TsI H (us++[v1,v2].filter λv=>!decide (v = .non)) (ths bs lo hi):=hB.ts.append (zbl h1 h2)
 have hLL:upd H1 L (.lst (us++[v1,v2].filter λv=>!decide (v = .non))) L=some (.lst (us++[v1,v2].filter λv=>!decide (v = .non))):=zg
 generalize upd H1 L (.lst (us++[v1,v2].filter λv=>!decide (v = .non)))=G0 at S2 hLL
 generalize (us++[v1,v2].filter λv=>!decide (v = .non))=tv at hT hLL
 have hw0:=S2 _ _ hw
 have hr0:=S2 _ _ hrr
 have hc0:=S2 _ _ hc
 have cL:L≠c:=λz=>by subst z;rw[hLL]at hc0;cases hc0
 dsimp only[zn]
 refine jw (K:=K) ?_
 refine zci ?_
 refine VV (λt=>t.1) (by rfl) hLL (hT.keeps (.of S2)) (vH hl) th0 λD1 y1 H2 s2 hy1 hR1=>?_
 refine⟨D1,y1,_,rfl,hy1,hR1,λq hq=>?_,by rw[List.length_map];exact vH hl,λH3 s3=>?_⟩
 ·obtain⟨t,ht,rfl⟩:=List.mem_map.mp hq
  exact(hz t ht).1.2
 have p1:=V8 (qs:=(ths bs lo hi).map (·.1)) (λq hq=>by obtain⟨t,ht,rfl⟩:=List.mem_map.mp hq;exact(hz t ht).1.2) (by rw[List.length_map];exact vH hl)
 have p2:=V8 (qs:=(ths bs lo hi).map (·.2)) (λq hq=>by obtain⟨t,ht,rfl⟩:=List.mem_map.mp hq;exact(hz t ht).2.2) (by rw[List.length_map];exact vH hl)
 refine vC (by rfl) (s3 _ _ (s2 _ _ hc0)) TC.cls TC.pb (by decide) λG1 X1 c1=>?_
 replace X1:xz c G0 G1:=(xz.of (s2.trans s3)).trans X1
 have t1:xo H G1:=(xo.of S2).trans (X1.tup hc0)
 refine jw (K:=K) ?_
 refine zci ?_
 refine VV (λt=>t.2) (by rfl) (X1 _ _ cL hLL) (hT.keeps t1) (vH hl) th1 λD2 y2 H4 s4 hy2 hR2=>?_
 refine⟨D2,y2,_,rfl,hy2,hR2,λq hq=>?_,by rw[List.length_map];exact vH hl,λH5 s5=>?_⟩
 ·obtain⟨t,ht,rfl⟩:=List.mem_map.mp hq
  exact(hz t ht).2.2
 refine vC (by rfl) (s5 _ _ (s4 _ _ c1)) TC.cls TC.sb (by show 1<1000;decide) λG2 X2 c2=>?_
 replace X2:xz c G0 G2:=X1.trans ((xz.of (s4.trans s5)).trans X2)
 refine jw (K:=K) ?_
 refine⟨_,rfl,c,C,dx,_,_,rfl,c2,TC.cls,TC.sb,rfl,_,rfl,c,C,dx,_,_,rfl,c2,TC.cls,TC.pb,rfl,_,_,rfl,by have:=p1.1;omega,p1.2.1,λtp H6 s6 htp=>?_⟩
 refine vC (by rfl) (s6 _ _ c2) TC.cls TC.tick (by show 2<1000;decide) λG3 X3' c3=>?_
 have X3:xz c G0 G3:=X2.trans ((xz.of s6).trans X3')
 have htp3:zI G3 tp _:=X3' _ _ (λz=>by subst z;have:=s6 _ _ c2;rw[htp]at this;cases this) htp
 have t3:xo H G3:=(xo.of S2).trans (X3.tup hc0)
 refine jw (K:=K) ?_
 have l20:us.length<sizeLine:=zZ (by rw[hB.1];omega)
 refine⟨_,rfl,r,rfl,⟨_,SqT.of (t3 _ _ hrr)⟩,λD4 hD4=>?_⟩
 refine qt (J:=Itt K r) (n:=1) (g:=zn 0) (te:=tOp (j0 K) (xN 0) (tC (.int 2))) (xs:=us) (λm v _=>∃b:Bl,bs[m]? = some b/\v = .int b.wt) (λ_ _ _ _ _ z=>z) hD4 (jt (t3 _ _ hrr)) l20 ?_ ?_
 ·intro m x zs H7 Q' hx hz7 s7 hk
  obtain⟨b,e,a,p,q,rfl,ha,_⟩:=(hB.keeps (t3.trans (.of s7))).2 m x hx
  obtain⟨z1,rfl⟩:=v7 hz7
  dsimp only[zn]
  exact⟨_,rfl,a,_,_,_,rfl,rfl,.of ha,rfl,hk _ _ (zi.refl _) ⟨b,e,rfl⟩⟩
 intro y4 H7 s7 hy4 hyl4 hyR4
 have e4:y4=(bs.map Bl.wt).map V.int:=by
  rw[List.map_map]
  exact Vj (hyl4.trans hB.1) hyR4
 refine vC (by rfl) (s7 _ _ c3) TC.cls TC.weights (by show 3<1000;decide) λG4 X4' c4=>?_
 have X4:xz c G0 G4:=X3.trans ((xz.of s7).trans X4')
 have nc:∀{G:Hp}{fs:List (Str×V)}{b:Addr}{o:HO},G c=some (.ins C dx fs)->G b=some o->(∀fs,o≠.ins C dx fs)->b≠c:=λh1 h2 h3 z=>by subst z;rw[h1]at h2;cases h2;exact h3 _ rfl
 have wl4:G4 D4=some (.lst ((bs.map Bl.wt).map V.int)):=by
  rw[<-e4];exact X4' _ _ (nc (s7 _ _ c3) hy4 (λ_ z=>by cases z)) hy4
 have htp4:zI G4 tp _:=X4' _ _ (nc (s7 _ _ c3) (s7 _ _ htp3) (λ_ z=>by cases z)) (s7 _ _ htp3)
 have t4:xo H G4:=(xo.of S2).trans (X4.tup hc0)
 refine jw (K:=K) ?_
 refine⟨_,rfl,r,rfl,⟨_,SqT.of (t4 _ _ hrr)⟩,λD5 hD5=>?_⟩
 refine zW (J:=Itt K r) (n:=1) (js:=[0]) (g:=zn 0) (te:=jC (zb9 C) [] E0 (x6 (xN 1) (x6 (xN 0) ju))) (xs:=us) (λm v H=>∃t,(bs.map λb=>trB (pbO bs lo hi) (sbO bs lo hi) (b.pl,b.sp))[m]? = some t/\XX H v (some t)) (λ_ _ _ _ t ⟨x,e1,e2⟩=>⟨x,e1,e2.keeps t⟩) hD5 (jt (t4 _ _ hrr)) l20 ?_ ?_
 ·intro m x zs H8 Q' hx hz8 s8 hk
  obtain⟨b,e,a,p,q,rfl,ha,hp,hq⟩:=(hB.keeps (t4.trans (.of s8))).2 m x hx
  obtain⟨z1,rfl⟩:=v7 hz8
  dsimp only[zn]
  have zb:=hz (b.pl,b.sp) (List.mem_append_left _ (List.mem_map.mpr ⟨b,List.mem_of_getElem? e,rfl⟩))
  refine⟨rfl,_,rfl,_,rfl,c,dx,_,_,_,s8 _ _ c4,rfl,rfl,.inr ⟨a,b.pl,b.sp,rfl,⟨p,q,_,ha,hp,hq⟩,zb.1,zb.2,p1.1,p2.1,p1.2.1,p2.2.1,λr' H9 s9 h9=>hk _ _ s9 ⟨_,by rw[List.getElem?_map,e];rfl,r',rfl,h9⟩⟩⟩
 intro y5 H8 s8 hy5 hyl5 hyR5
 refine vC (by rfl) (s8 _ _ c4) TC.cls TC.tracks (by show 4<1000;decide) λG5 X5' c5=>?_
 have X5:xz c G0 G5:=X4.trans ((xz.of s8).trans X5')
 have tl5:G5 D5=some (.lst y5):=X5' _ _ (nc (s8 _ _ c4) hy5 (λ_ z=>by cases z)) hy5
 have tr5:J6 G5 y5 (bs.map λb=>trB (pbO bs lo hi) (sbO bs lo hi) (b.pl,b.sp)):=⟨by rw[hyl5,List.length_map,hB.1],λm v e=>by
  obtain⟨t,e1,e2⟩:=hyR5 m v e
  exact⟨t,e1,e2.keeps (X5'.tup (s8 _ _ c4))⟩⟩
 have wl5:=X5' _ _ (nc (s8 _ _ c4) (s8 _ _ wl4) (λ_ z=>by cases z)) (s8 _ _ wl4)
 have htp5:zI G5 tp _:=X5' _ _ (nc (s8 _ _ c4) (s8 _ _ htp4) (λ_ z=>by cases z)) (s8 _ _ htp4)
 have t5:xo H G5:=(xo.of S2).trans (X5.tup hc0)
 have zlo:∀t,lo=some t->Sz 400 t.1/\Sz 400 t.2:=λt e=>hz t (by unfold ths;rw[e];simp[jG])
 have zhi:∀t,hi=some t->Sz 400 t.1/\Sz 400 t.2:=λt e=>hz t (by unfold ths;rw[e];simp[jG])
 refine jw (K:=K) ?_
 refine zac ⟨_,rfl,_,rfl,wa,_,_,_,rfl,rfl,.of (t5 _ _ hw),at0 ..,?_⟩
 refine Jt c5 rfl rfl (h1.keeps t5) zlo ⟨p1.1,p1.2.1⟩ ⟨p2.1,p2.2.1⟩ λlv H9 s9 hlv=>?_
 refine vC (by rfl) (s9 _ _ c5) TC.cls TC.low (by show 5<1000;decide) λG6 X6' c6=>?_
 have X6:xz c G0 G6:=X5.trans ((xz.of s9).trans X6')
 have t6:xo H G6:=(xo.of S2).trans (X6.tup hc0)
 have X56:xz c G5 G6:=(xz.of s9).trans X6'
 refine zbR (K:=K) ?_
 refine zac ⟨_,rfl,_,rfl,wa,_,_,_,rfl,rfl,.of (t6 _ _ hw),at1 ..,?_⟩
 refine Jt c6 rfl rfl (h2.keeps t6) zhi ⟨p1.1,p1.2.1⟩ ⟨p2.1,p2.2.1⟩ λhv H10 s10 hhv=>?_
 refine vC (rest:=je.nx) (by rfl) (s10 _ _ c6) TC.cls TC.high (by show 6<1000;decide) λG7 X7' c7=>?_
 have X67:xz c G6 G7:=(xz.of s10).trans X7'
 have X57:xz c G5 G7:=X56.trans X67
 have X7:xz c G0 G7:=X6.trans X67
 have hD5H:H D5=none:=by
  cases e:H D5 with
  | none=>rfl
  | some o =>
   by_cases z:D5=c
   ·rw[z,c4]at hD5;cases hD5
   ·rw[X4 _ _ z (S2 _ _ e)]at hD5;cases hD5
 refine k G7 ((xz.of S2).trans X7) ⟨dx,_,D5,c7,⟨rfl,rfl,⟨tp,rfl,X57 _ _ (nc c5 htp5 (λ_ z=>by cases z)) htp5⟩,⟨D4,rfl,X57 _ _ (nc c5 wl5 (λ_ z=>by cases z)) wl5⟩,
  ⟨D5,y5,rfl,X57 _ _ (nc c5 tl5 (λ_ z=>by cases z)) tl5,tr5.keeps (X57.tup c5)⟩,⟨lv,rfl,(hlv.keeps (X6'.tup (s9 _ _ c5))).keeps (X67.tup c6)⟩,⟨hv,rfl,hhv.keeps (X7'.tup (s10 _ _ c6))⟩,by show 7<=20;decide⟩,rfl,hD5H⟩
end
end KK
end
section
set_option maxHeartbeats 8000000
set_option Elab.async false
set_option linter.all false
set_option maxRecDepth 100000
namespace KK
open PySem L2 KM
structure Tx3 (K:PySem.W.Frag) (mg:Str->Option Value) (aN:Addr):Prop where
 nAll:mg "all" = none
 nSorted:mg "sorted" = none
 nEnum:mg "enumerate" = none
 mn:mg "NOUGHT" = some (.ref aN)
 kn:J5 K aN 0 1
 tt:PySem.W.kitOne K (.type "tuple") (.type "tuple")=some true
abbrev Wl:=Option (Rat×Rat)
def xc (H:Hp) (v:V):Wl->Prop
 | none=>v = .non
 | some (x,y)=>∃a p q,v = .ref a/\H a=some (.tup [.ref p,.ref q])/\zI H p x/\zI H q y
theorem xc.same {H H':Hp}{v:V}{l:Wl}(h:xc H v l) (e:zi H H'):xc H' v l:=by
 cases l with
 | none=>exact h
 | some z=>obtain⟨a,p,q,e1,e2,e3,e4⟩:=h;exact⟨a,p,q,e1,e _ _ e2,e3.same e,e4.same e⟩
theorem iteD {c:Prop} [Decidable c] {A B:Prop}(e:¬c) (h:B):if decide c=true then A else B:=by
 rw[decide_eq_false e];exact xZ h
theorem Qu {α:Type}{l:List α}{i:Nat}{x:α}(h:l[i]? = some x):l.take (i+1)=l.take i++[x]:=by rw[List.take_add_one,h];rfl
theorem ln1 {σ:St}(h:σ.length=1):∃a,σ=[a]:=by
 match σ,h with
 | [a],_=>exact⟨a,rfl⟩
section
variable {P:Program}{w:World}{K:PySem.W.Frag}{mg:Str->Option Value}{base:Heap}{aN:Addr}
def zbc:Sp:=λvs H Q _=>∃p xs n,vs=[.ref p,.int n]/\H p=some (.tup xs)/\Q (.bl (decide (V.int (xs.length:Nat)=V.int n))) H
theorem za0:zx ["thing","many"] ["thing","many"] (zh qR):=⟨rfl,rfl,rfl,by decide +kernel,rfl,by decide +kernel,by decide +kernel⟩
theorem zeA (D:Df K mg "is_tuple" qR ["thing","many"] []) (T:TxB K mg) (T3:Tx3 K mg aN):Cal P w K mg base "is_tuple" 1 ["thing","many"] [] zbc:=by
 refine D.cal (k:=0) za0 (λvs H Q E h=>by obtain⟨_,_,_,rfl,_⟩:=h;rfl) (λf cdv A outer s H vs Q E hr h=>?_)
 obtain⟨p,xs,n,rfl,hp,k⟩:=h
 refine⟨_,(zj (zD (qE (zw vc (by rfl) T.nIs PyProof.Rows.boot_isinstance (za (pv 0) (za (jX (v:=.ty "tuple") (u:=.type "tuple") (by rfl) T.nTuple PyProof.Rows.boot_tuple rfl) ze))) (vK (qF x5 (zw xq (by rfl) T.nLen PySem.boot_len (za (pv 0) ze)) (pv 1) (zy _)))))),?_⟩
 exact⟨_,rfl,_,_,_,true,rfl,.tup hp,T3.tt,true,rfl,xY ⟨_,rfl,p,_,rfl,.inr (SqT.of hp),_,rfl,rfl,k⟩⟩
def zdQ:Sp:=λvs H Q _=>∃p x,vs=[.ref p]/\zI H p x/\Q (.bl true) H
theorem zbw (x:Rat):(Int.gcd (if x.num<0 then -x.num else x.num) (x.den:Int):Int)=1:=by
 rw[jf]
 have:=x.reduced
 show ((Nat.gcd x.num.natAbs x.den:Nat):Int)=1
 rw[this];rfl
theorem VC:zx ["thing","top","bottom"] ["thing"] (zh qP):=⟨rfl,rfl,rfl,by decide +kernel,rfl,by decide +kernel,by decide +kernel⟩
theorem zer (D:Df K mg "is_ratio" qP ["thing"] []) (T:TxB K mg) (cTu:Cal P w K mg base "is_tuple" 1 ["thing","many"] [] zbc) (cW:Cal P w K mg base "is_whole" 1 ["thing"] [] ZT) (cG:Cal P w K mg base "greatest_divisor" 1 ["one","other"] [] QV) :
  Cal P w K mg base "is_ratio" 2 ["thing"] [] zdQ:=by
 refine D.cal (k:=1) VC (λvs H Q E h=>by obtain⟨_,_,rfl,_⟩:=h;rfl) (λf cdv A outer s H vs Q E hr1 h=>?_)
 obtain⟨p,x,rfl,hp,k⟩:=h
 refine⟨_,(zf (zV (vN (xL (zv cTu hr1 (za (pv 0) (za zd ze))) λ_=>rfl)) (zj (zD vF)) zF)
  (zf (qi (pv 0) (xP rfl (zm (zk (i:=1) VC.nd rfl (Or.inl rfl)) (zm (zk (i:=2) VC.nd rfl (Or.inl rfl)) zO))))
  (zf (zV ((vU (vN (xL (zv cW hr1 (za (pv 1) ze)) λ_=>rfl)) (vU (vN (xL (zv cW hr1 (za (pv 2) ze)) λ_=>rfl)) (vO (zu jW (pv 2) zd (zy _)))))).pt (zj (zD vF)) zF)
  (zj (zD (qF x5 (zv cG hr1 (za (zw jj (by rfl) T.nAbs PyProof.Rows.boot_abs (za (pv 1) ze)) (za (pv 2) ze))) zd (zy _))))))),?_⟩
 refine⟨_,rfl,p,_,_,rfl,hp,_,rfl,xZ ?_⟩
 refine⟨_,rfl,p,_,rfl,SqT.of hp,rfl,_,_,rfl,_,_,rfl,rfl,?_⟩
 refine⟨_,rfl,_,rfl,true,rfl,xZ ⟨_,rfl,_,rfl,true,rfl,xZ ?_⟩⟩
 refine⟨_,rfl,_,_,rfl,rfl,_,rfl,iteD (by have:=den_pos x;omega) ?_⟩
 refine⟨_,rfl,_,rfl,_,rfl,_,_,rfl,(by rw[jf];omega),(by omega),rfl,?_⟩
 show Q (.bl (decide (V.int (Int.gcd (if x.num<0 then -x.num else x.num) (x.den:Int):Int)=V.int 1))) H
 rw[zbw,decide_eq_true rfl];exact k
def ze2:Sp:=λvs H Q _=>∃v l,vs=[v]/\xc H v l/\Q (.bl true) H
theorem JV:zx ["thing"] ["thing"] (zh vv):=⟨rfl,rfl,rfl,by decide +kernel,rfl,by decide +kernel,by decide +kernel⟩
theorem zeB (D:Df K mg "is_wall" vv ["thing"] []) (cTu:Cal P w K mg base "is_tuple" 1 ["thing","many"] [] zbc) (cIr:Cal P w K mg base "is_ratio" 2 ["thing"] [] zdQ):Cal P w K mg base "is_wall" 3 ["thing"] [] ze2:=by
 refine D.cal (k:=2) JV (λvs H Q E h=>by obtain⟨_,_,rfl,_⟩:=h;rfl) (λf cdv A outer s H vs Q E hr2 h=>?_)
 obtain⟨v,l,rfl,hw,k⟩:=h
 have hr1:xj 1 _:=hr2.mono (by decide)
 refine⟨_,(zf (zV (zu jp (pv 0) qh (zy _)) (zj (zD vF)) zF)
  (zj (zD (qE (zv cTu hr1 (za (pv 0) (za zd ze))) (qE (zv cIr hr2 (za (zE zH (pv 0) zd (λ_ _=>rfl)) ze)) (vK (zv cIr hr2 (za (zE zH (pv 0) zd (λ_ _=>rfl)) ze)))))))),?_⟩
 cases l with
 | none =>
  obtain rfl:v = .non:=hw
  exact⟨_,rfl,rfl,_,rfl,xY k⟩
 | some z =>
  obtain⟨x,y⟩:=z
  obtain⟨a,p,q,rfl,ha,hp,hq⟩:=hw
  refine⟨_,rfl,rfl,_,rfl,xZ ?_⟩
  refine⟨_,rfl,a,_,_,rfl,ha,true,rfl,xY ?_⟩
  refine⟨_,rfl,a,_,_,_,rfl,rfl,.of ha,rfl,p,x,rfl,hp,true,rfl,xY ?_⟩
  exact⟨_,rfl,a,_,_,_,rfl,rfl,.of ha,rfl,q,y,rfl,hq,k⟩
def ze4:Sp:=λvs H Q _=>∃a v1 v2 l1 l2,vs=[.ref a]/\H a=some (.tup [v1,v2])/\xc H v1 l1/\xc H v2 l2/\Q (.bl true) H
theorem zb4:zx ["thing"] ["thing"] (zh xR):=⟨rfl,rfl,rfl,by decide +kernel,rfl,by decide +kernel,by decide +kernel⟩
theorem zeE (D:Df K mg "is_wall_pair" xR ["thing"] []) (cTu:Cal P w K mg base "is_tuple" 1 ["thing","many"] [] zbc) (cWa:Cal P w K mg base "is_wall" 3 ["thing"] [] ze2):Cal P w K mg base "is_wall_pair" 4 ["thing"] [] ze4:=by
 refine D.cal (k:=3) zb4 (λvs H Q E h=>by obtain⟨_,_,_,_,_,rfl,_⟩:=h;rfl) (λf cdv A outer s H vs Q E hr3 h=>?_)
 obtain⟨a,v1,v2,l1,l2,rfl,ha,h1,h2,k⟩:=h
 have hr1:xj 1 _:=hr3.mono (by decide)
 refine⟨_,(zj (zD (qE (zv cTu hr1 (za (pv 0) (za zd ze))) (qE (zv cWa hr3 (za (zE zH (pv 0) zd (λ_ _=>rfl)) ze)) (vK (zv cWa hr3 (za (zE zH (pv 0) zd (λ_ _=>rfl)) ze))))))),?_⟩
 refine⟨_,rfl,a,_,_,rfl,ha,true,rfl,xY ?_⟩
 refine⟨_,rfl,a,_,_,_,rfl,rfl,.of ha,rfl,v1,l1,rfl,h1,true,rfl,xY ?_⟩
 exact⟨_,rfl,a,_,_,_,rfl,rfl,.of ha,rfl,v2,l2,rfl,h2,k⟩
def zeQ:Sp:=λvs H Q _=>∃a p q x y n,vs=[.ref a]/\H a=some (.tup [.ref p,.ref q,.int n])/\zI H p x/\zI H q y/\Q (.bl true) H
theorem zaX:zx ["thing"] ["thing"] (zh xQ):=⟨rfl,rfl,rfl,by decide +kernel,rfl,by decide +kernel,by decide +kernel⟩
theorem zel (D:Df K mg "is_ball_form" xQ ["thing"] []) (cTu:Cal P w K mg base "is_tuple" 1 ["thing","many"] [] zbc) (cIr:Cal P w K mg base "is_ratio" 2 ["thing"] [] zdQ) (cW:Cal P w K mg base "is_whole" 1 ["thing"] [] ZT):Cal P w K mg base "is_ball_form" 3 ["thing"] [] zeQ:=by
 refine D.cal (k:=2) zaX (λvs H Q E h=>by obtain⟨_,_,_,_,_,_,rfl,_⟩:=h;rfl) (λf cdv A outer s H vs Q E hr2 h=>?_)
 obtain⟨a,p,q,x,y,n,rfl,ha,hp,hq,k⟩:=h
 have hr1:xj 1 _:=hr2.mono (by decide)
 refine⟨_,(zj (zD (qE (zv cTu hr1 (za (pv 0) (za zd ze))) (qE (zv cIr hr2 (za (zE zH (pv 0) zd (λ_ _=>rfl)) ze)) (qE (zv cIr hr2 (za (zE zH (pv 0) zd (λ_ _=>rfl)) ze)) (vK (zv cW hr1 (za (zE zH (pv 0) zd (λ_ _=>rfl)) ze)))))))),?_⟩
 refine⟨_,rfl,a,_,_,rfl,ha,true,rfl,xY ?_⟩
 refine⟨_,rfl,a,_,_,_,rfl,rfl,.of ha,rfl,p,x,rfl,hp,true,rfl,xY ?_⟩
 refine⟨_,rfl,a,_,_,_,rfl,rfl,.of ha,rfl,q,y,rfl,hq,true,rfl,xY ?_⟩
 exact⟨_,rfl,a,_,_,_,rfl,rfl,.of ha,rfl,n,rfl,k⟩
theorem all_map (f:α->Bool) (l:List α):(l.map f).all id=l.all f:=by rw[List.all_map];rfl
theorem Vg {σ:St}{H:Hp}{Q:VK}{j:Nat}{sp:Sp}{r:Addr}{us:List V}{bs:List vX}(hσ:σ[j]? = some (some (.ref r))) (hr:H r=some (.tup us)) (hB:xb H us bs) (hlen:bs.length<=8)
  (hsp:∀(H1:Hp) (v:V) (b:vX) (Q:VK),zi H H1->b∈bs->(∃a p q,v = .ref a/\H1 a=some (.tup [.ref p,.ref q,.int b.wt])/\zI H1 p b.pl/\zI H1 q b.sp)->Q (.bl true) H1->sp [v] H1 Q E0)
  (k:∀D H',zi H H'->H' D=some (.lst ((List.replicate bs.length true).map V.bl))->Q (.ref D) H') :
  Jr 1 (zby K (xN j)) (zn 0) (λ_ H Q=>Q true H) (jC sp [] E0 (x6 (xN 0) ju)) σ H Q:=by
 refine⟨_,hσ,r,rfl,⟨_,SqT.of hr⟩,λD hD=>?_⟩
 have hl:=hB.length
 refine ZN (J:=Itt K r) (g:=zn 0) (tt:=λ_ H Q=>Q true H) (te:=jC sp [] E0 (x6 (xN 0) ju)) (Q:=Q) (N:=us.length) (n:=1) (λi H2 ys=>zi H H2/\ys=(List.replicate i true).map V.bl) ⟨zi.upd hD,rfl⟩ (λi H2 ys hi ⟨s2,_⟩=>?_) (λH2 ys ⟨s2,_⟩=>?_) ?_ ?_
 ·exact⟨us,us[i],.of (s2 _ _ hr),List.getElem?_eq_getElem hi⟩
 ·exact⟨us,.of (s2 _ _ hr),Nat.le_refl _⟩
 ·rintro i x zs H2 H3 ys Nx hNx hi hzs ⟨rfl,f1⟩ ⟨s2,rfl⟩ hD2
  obtain⟨z1,rfl⟩:=ln1 hzs
  obtain⟨a,p,q,b,eb,rfl,ha,hp,hq⟩:=hB.get (f1 us (.of (s2 _ _ hr)))
  dsimp only[zn]
  try rw[if_pos rfl]
  refine⟨_,rfl,?_⟩
  refine hsp H3 (.ref a) b _ s2 (List.mem_of_getElem? eb) ⟨a,p,q,rfl,s2 _ _ ha,hp.same s2,hq.same s2⟩ ?_
  refine⟨hD2,?_,hNx _ _ ⟨Qk hD s2 (zi.refl _),?_⟩⟩
  ·rw[List.length_map,List.length_replicate];exact xy (by omega)
  ·rw[List.replicate_succ',List.map_append];rfl
 ·rintro H2 ys ⟨s2,rfl⟩ hD2
  rw[hl]at hD2
  exact k D H2 s2 hD2
theorem J9 (n:Nat):(List.replicate n true).all id=true:=by simp
def evB (b0:vX) (bs:List vX):Bool:=bs.all λb=>decide (b.wt=b0.wt)
def xa:Wl->Bool
 | none=>true
 | some (_,y)=>decide (y=0)
theorem zbT {X:Cx}{K:PySem.W.Frag}(hK:X.K=K) (hu:X.A.units+64<cLine):OpR X (compareOp .Eq) (zbY K):=by subst hK;exact zdy hu
theorem zbk (i j:Int):decide (V.int i=V.int j)=decide (i=j):=by
 rw[Bool.eq_iff_iff,decide_eq_true_eq,decide_eq_true_eq]
 exact⟨λz=>by injection z,λz=>by rw[z]⟩
theorem JA {σ:St}{H:Hp}{Q:VK}{r:Addr}{us:List V}{bs:List vX}{b0:vX}(hσ:σ[0]? = some (some (.ref r))) (hr:H r=some (.tup us)) (hB:xb H us bs) (h0:bs[0]? = some b0) (hlen:bs.length<=8)
  (k:∀D H',zi H H'->H' D=some (.lst ((bs.map λb=>decide (b.wt=b0.wt)).map V.bl))->Q (.ref D) H') :
  Qt 1 [0] (zby K (xN 0)) (zn 0) (λ_ H Q=>Q true H) (tOp rEq (tOp (j0 K) (xN 0) (tC (.int 2))) (tOp (j0 K) (tOp (j0 K) (xN 1) (tC (.int 0))) (tC (.int 2)))) σ H Q:=by
 have hcap:qz σ [0]=[some (.ref r)]:=by simp[qz,hσ]
 refine⟨_,hσ,r,rfl,⟨_,SqT.of hr⟩,λD hD=>?_⟩
 have hl:=hB.length
 have hu0:0<us.length:=by rw[hl];exact(List.getElem?_eq_some_iff.mp h0).1
 obtain⟨a0,p0,q0,b0',e0,f0,ha0,_,_⟩:=hB.get (i:=0) (List.getElem?_eq_getElem hu0)
 rw[h0]at e0;cases e0
 refine jQ (J:=Itt K r) (g:=zn 0) (tt:=λ_ H Q=>Q true H) (te:=tOp rEq (tOp (j0 K) (xN 0) (tC (.int 2))) (tOp (j0 K) (tOp (j0 K) (xN 1) (tC (.int 0))) (tC (.int 2)))) (Q:=Q) (N:=us.length) (n:=1)
  (λi H2 ys=>zi H H2/\ys=((bs.map λb=>decide (b.wt=b0.wt)).map V.bl).take i) ⟨zi.upd hD,rfl⟩ (λi H2 ys hi ⟨s2,_⟩=>?_) (λH2 ys ⟨s2,_⟩=>?_) ?_ ?_
 ·exact⟨us,us[i],.of (s2 _ _ hr),List.getElem?_eq_getElem hi⟩
 ·exact⟨us,.of (s2 _ _ hr),Nat.le_refl _⟩
 ·rintro i x zs H2 H3 ys Nx hNx hi hzs ⟨rfl,f1⟩ ⟨s2,rfl⟩ hD2
  obtain⟨z1,rfl⟩:=ln1 hzs
  obtain⟨a,p,q,b,eb,rfl,ha,hp,hq⟩:=hB.get (f1 us (.of (s2 _ _ hr)))
  rw[hcap]
  dsimp only[zn]
  refine⟨rfl,?_⟩
  rw[if_pos rfl]
  refine⟨_,rfl,a,_,_,_,rfl,rfl,.of (s2 _ _ ha),rfl,_,rfl,r,_,_,_,rfl,rfl,.of (s2 _ _ hr),(by rw[<-f0];exact jN (j:=0) (List.getElem?_eq_getElem hu0)),a0,_,_,_,rfl,rfl,.of (s2 _ _ ha0),rfl,rfl,?_⟩
  refine⟨hD2,?_,hNx _ _ ⟨Qk hD s2 (zi.refl _),?_⟩⟩
  ·rw[List.length_take];exact xy (by omega)
  ·rw[Qu (x:=V.bl (decide (b.wt=b0.wt))) (by rw[List.getElem?_map,List.getElem?_map,eb];rfl)]
   show _++[V.bl (decide (V.int b.wt=V.int b0.wt))]=_
   rw[zbk]
 ·rintro H2 ys ⟨s2,rfl⟩ hD2
  rw[List.take_of_length_le (by rw[List.length_map,List.length_map,hl];exact Nat.le_refl _)]at hD2
  exact k D H2 s2 hD2
def zeS:Sp:=λvs H Q _=>∃r us bs b0,vs=[.ref r]/\H r=some (.tup us)/\xb H us bs/\bs[0]? = some b0/\bs.length<=8/\∀H',zi H H'->Q (.bl (evB b0 bs)) H'
theorem zb3:zx ["row"] ["row"] (zh vt):=⟨rfl,rfl,rfl,by decide +kernel,rfl,by decide +kernel,by decide +kernel⟩
def zeY:Sp:=λvs H Q _=>∃r us bs,vs=[.ref r]/\H r=some (.tup us)/\xb H us bs/\0<bs.length/\bs.length<=8/\∀H',zi H H'->Q (.bl true) H'
theorem za3:zx ["thing"] ["thing"] (zh xU):=⟨rfl,rfl,rfl,by decide +kernel,rfl,by decide +kernel,by decide +kernel⟩
theorem zaB (D:Df K mg "is_row_form" xU ["thing"] []) (T:TxB K mg) (T3:Tx3 K mg aN) (cBf:Cal P w K mg base "is_ball_form" 3 ["thing"] [] zeQ):Cal P w K mg base "is_row_form" 4 ["thing"] [] zeY:=by
 refine D.cal (k:=3) za3 (λvs H Q E h=>by obtain⟨_,_,_,rfl,_⟩:=h;rfl) (λf cdv A outer s H vs Q E hr3 h=>?_)
 obtain⟨r,us,bs,rfl,hrr,hB,h0,hlen,k⟩:=h
 have hl:=hB.length
 refine⟨_,(zj (zD (qE (zw vc (by rfl) T.nIs PyProof.Rows.boot_isinstance (za (pv 0) (za (jX (v:=.ty "tuple") (u:=.type "tuple") (by rfl) T.nTuple PyProof.Rows.boot_tuple rfl) ze))) (qE (qF jA (zw xq (by rfl) T.nLen PySem.boot_len (za (pv 0) ze)) zd (zy _)) (vK (zw (jO rfl) (by rfl) T3.nAll (by decide +kernel) (za (qo (NB:=["ball"]) rfl (by decide +kernel) (by decide +kernel) rfl (by decide +kernel) (vL (pv 0)) (by intro _ _ _;refine⟨?_,?_,?_⟩;(exact(zk (i:=0) (show List.Nodup (["ball"]:List Str) by decide +kernel) rfl (Or.inl rfl)));(exact zL);(exact(zv cBf hr3 (za (pv 0) ze))))) ze))))))),?_⟩
 refine⟨_,rfl,_,_,_,true,rfl,.tup hrr,T3.tt,true,rfl,xY ?_⟩
 refine⟨_,rfl,r,_,rfl,.inr (SqT.of hrr),_,_,rfl,rfl,_,rfl,?_⟩
 rw[show decide ((0:Int)<((us.length:Nat):Int))=true from decide_eq_true (by omega)]
 refine xY ?_
 unfold tCB x6
 refine Vg (K:=K) (j:=0) rfl hrr hB hlen (λH1 v b Q e mb ⟨a,p,q,e1,e2,e3,e4⟩ q'=>?_) λDD H2 e2 hD=>⟨DD,_,rfl,SqL.of hD,?_⟩
 ·subst e1
  exact⟨a,p,q,b.pl,b.sp,b.wt,rfl,e2,e3,e4,q'⟩
 ·rw[J9]
  exact k H2 e2
theorem zep (D:Df K mg "is_even" vt ["row"] []) (T:TxB K mg) (T3:Tx3 K mg aN) (cRf:Cal P w K mg base "is_row_form" 4 ["thing"] [] zeY):Cal P w K mg base "is_even" 5 ["row"] [] zeS:=by
 refine D.cal (k:=4) zb3 (λvs H Q E h=>by obtain⟨_,_,_,_,rfl,_⟩:=h;rfl) (λf cdv A outer s H vs Q E hr4 h=>?_)
 obtain⟨r,us,bs,b0,rfl,hrr,hB,h0,hlen,k⟩:=h
 have hb0:0<bs.length:=(List.getElem?_eq_some_iff.mp h0).1
 refine⟨_,(zj (zD (qE (zv cRf hr4 (za (pv 0) ze)) (vK (zw (jO rfl) (by rfl) T3.nAll (by decide +kernel) (za (xK (NB:=["ball"]) (FR:=["row"]) (js:=[0]) rfl rfl (λ_ _ h=>h) (.cons rfl rfl rfl ⟨_,rfl⟩ .nil) rfl (by decide +kernel) rfl (by decide +kernel) (vL (pv 0)) (by intro _ _ _;refine⟨?_,?_,?_⟩;(exact(zk (i:=0) (show List.Nodup (["ball","row"]:List Str) by decide +kernel) rfl (Or.inl rfl)));(exact zL);(exact(qF x5 (zE (qA (K:=K) rfl) (pv 0) zd (λ_ _=>rfl)) (zE (qA (K:=K) rfl) (zE (qA (K:=K) rfl) (pv 1) zd (λ_ _=>rfl)) zd (λ_ _=>rfl)) (zy _))))) ze)))))),?_⟩
 refine⟨_,rfl,r,us,bs,rfl,hrr,hB,hb0,hlen,λH2 e2=>⟨true,rfl,xY ?_⟩⟩
 unfold tCB x6
 refine JA (K:=K) rfl (e2 _ _ hrr) (hB.same e2) h0 hlen λD3 H3 e3 hD3=>⟨D3,_,rfl,SqL.of hD3,?_⟩
 rw[all_map];exact k H3 (e2.trans e3)
theorem Vh {σ:St}{H:Hp}{Q:VK}{r:Addr}{v1 v2:V}{l1 l2:Wl}(hN:J5 K aN 0 1) (hσ:σ[0]? = some (some (.ref r))) (hr:H r=some (.tup [v1,v2])) (h1:xc H v1 l1) (h2:xc H v2 l2)
  (k:∀D H',zi H H'->H' D=some (.lst ([xa l1,xa l2].map V.bl))->Q (.ref D) H') :
  Jr 1 (zby K (xN 0)) (zn 0) (λ_ H Q=>Q true H) (zd3 (tOp (λx y H Q=>y = .non/\Q (.bl (decide (x = .non))) H) (xN 0) (tC .non)) (tOp (zbY K) (tOp (j0 K) (xN 0) (tC (.int 1))) (tC (.ref aN)))) σ H Q:=by
 refine⟨_,hσ,r,rfl,⟨_,SqT.of hr⟩,λD hD=>?_⟩
 refine ZN (J:=Itt K r) (g:=zn 0) (tt:=λ_ H Q=>Q true H) (te:=zd3 (tOp (λx y H Q=>y = .non/\Q (.bl (decide (x = .non))) H) (xN 0) (tC .non)) (tOp (zbY K) (tOp (j0 K) (xN 0) (tC (.int 1))) (tC (.ref aN)))) (Q:=Q) (N:=2) (n:=1)
  (λi H2 ys=>zi H H2/\ys=([xa l1,xa l2].map V.bl).take i) ⟨zi.upd hD,rfl⟩ (λi H2 ys hi ⟨s2,_⟩=>?_) (λH2 ys ⟨s2,_⟩=>?_) ?_ ?_
 ·exact⟨_,[v1,v2][i],.of (s2 _ _ hr),List.getElem?_eq_getElem hi⟩
 ·exact⟨_,.of (s2 _ _ hr),Nat.le_refl _⟩
 ·rintro i x zs H2 H3 ys Nx hNx hi hzs ⟨rfl,f1⟩ ⟨s2,rfl⟩ hD2
  obtain⟨z1,rfl⟩:=ln1 hzs
  have g1:=f1 _ (.of (s2 _ _ hr))
  obtain⟨l,hl,el⟩:∃l,xc H3 x l/\([xa l1,xa l2].map V.bl)[i]? = some (.bl (xa l)):=by
   match i,hi with
   | 0,_=>simp at g1;subst g1;exact⟨l1,h1.same s2,rfl⟩
   | 1,_=>simp at g1;subst g1;exact⟨l2,h2.same s2,rfl⟩
  dsimp only[zn]
  try rw[if_pos rfl]
  have fin:H3 D=some (.lst (([xa l1,xa l2].map V.bl).take i))/\(([xa l1,xa l2].map V.bl).take i).length<sizeLine/\Nx (upd H3 D (.lst (([xa l1,xa l2].map V.bl).take i++[.bl (xa l)]))) (([xa l1,xa l2].map V.bl).take i++[.bl (xa l)]):=by
   refine⟨hD2,?_,hNx _ _ ⟨Qk hD s2 (zi.refl _),?_⟩⟩
   ·rw[List.length_take];exact xy (by omega)
   ·rw[Qu el]
  cases l with
  | none =>
   obtain rfl:x = .non:=hl
   exact⟨_,rfl,rfl,true,rfl,xY fin⟩
  | some z =>
   obtain⟨px,py⟩:=z
   obtain⟨a,p,q,rfl,ha,hp,hq⟩:=hl
   refine⟨_,rfl,rfl,false,rfl,xZ ⟨_,rfl,a,_,_,_,rfl,rfl,.of ha,rfl,_,aN,0,1,hq.rd,rfl,hN,JX _,?_⟩⟩
   rw[show PyData.eqv (.tuple [.int py.num,.int (py.den:Int)]) (.tuple [.int 0,.int 1])=xa (some (px,py))from zcP py 0]
   exact fin
 ·rintro H2 ys ⟨s2,rfl⟩ hD2
  exact k D H2 s2 hD2
def ze1:Sp:=λvs H Q _=>∃a v1 v2 l1 l2,vs=[.ref a]/\H a=some (.tup [v1,v2])/\xc H v1 l1/\xc H v2 l2/\∀H',zi H H'->Q (.bl (xa l1&&xa l2)) H'
theorem za4:zx ["walls"] ["walls"] (zh qQ):=⟨rfl,rfl,rfl,by decide +kernel,rfl,by decide +kernel,by decide +kernel⟩
theorem zey (D:Df K mg "is_still" qQ ["walls"] []) (T3:Tx3 K mg aN) (cWp:Cal P w K mg base "is_wall_pair" 4 ["thing"] [] ze4):Cal P w K mg base "is_still" 5 ["walls"] [] ze1:=by
 refine D.cal (k:=4) za4 (λvs H Q E h=>by obtain⟨_,_,_,_,_,rfl,_⟩:=h;rfl) (λf cdv A outer s H vs Q E hr h=>?_)
 obtain⟨a,v1,v2,l1,l2,rfl,ha,h1,h2,k⟩:=h
 have hu:=hr.units
 refine⟨_,(zj (zD (qE (zv cWp hr (za (pv 0) ze)) (vK (zw (jO rfl) (by rfl) T3.nAll (by decide +kernel) (za (qo (NB:=["wall"]) rfl (by decide +kernel) (by decide +kernel) rfl (by decide +kernel) (vL (pv 0)) (by intro _ _ _;refine⟨?_,?_,?_⟩;(exact(zk (i:=0) (show List.Nodup (["wall"]:List Str) by decide +kernel) rfl (Or.inl rfl)));(exact zL);(exact(zeH (qF jp (pv 0) qh (zy _)) (vK (qF (zbT (K:=K) rfl hu) (zE (qA (K:=K) rfl) (pv 0) zd (λ_ _=>rfl)) (Jf (v:=.ref aN) (by rfl) T3.mn rfl) (zy _))))))) ze)))))),?_⟩
 refine⟨_,rfl,a,v1,v2,l1,l2,rfl,ha,h1,h2,true,rfl,xY ?_⟩
 unfold tCB x6
 refine Vh (K:=K) T3.kn rfl ha h1 h2 λDD H2 e2 hD=>⟨DD,_,rfl,SqL.of hD,?_⟩
 rw[show ([xa l1,xa l2].all id)=(xa l1&&xa l2) by simp]
 exact k H2 e2
end
end KK
end
section
set_option maxHeartbeats 8000000
set_option Elab.async false
set_option linter.all false
set_option maxRecDepth 100000
namespace L2
open PySem PySem.Spec PyProof.Rows PySem.W
section
variable {X:Cx}
def zeI (K:PySem.W.Frag):R2:=λx y H Q=>∃l b xs zs,x = .ref l/\y = .ref b/\SqL K H l xs/\SqL K H b zs/\xs.length+zs.length<=sizeLine/\∀p,H p=none->Q (.ref p) (upd H p (.lst (xs++zs)))
theorem Jc:OpR X (binaryOp .Add) (zeI X.K):=by
 intro pins s σ H x y v u Q I rx ry h
 obtain⟨l,b,xs,zs,rfl,rfl,hH,hB,hz,q⟩:=h
 cases rx
 cases ry
 obtain⟨its,r,pl,z⟩:=I.list hH
 obtain⟨its2,r2,pl2,z2⟩:=I.list hB
 have e1:=r.length
 have e2:=r2.length
 obtain⟨⟨cls,dd,data,sl⟩,n,ho,hc,hdn,hd⟩:=pl
 obtain⟨⟨cls2,dd2,data2,sl2⟩,n2,ho2,hc2,hdn2,hd2⟩:=pl2
 simp only at hc hd hc2 hd2
 subst hc hd hc2 hd2
 refine concat_meets ⟨_,ho,rfl⟩ ⟨_,ho2,rfl⟩ noFill_list_add seq_list_add PySem.F.slot_list_add PySem.F.entry_list_add (PySem.F.args_list_add_2 _ _) (list_addW l b its.toArray its2.toArray n n2 dd dd2 sl sl2 (by simp only[List.size_toArray];omega)) ⟨ho,ho2,?_⟩
 have ea:its.toArray++its2.toArray=(its++its2).toArray:=by simp
 rw[ea]
 exact⟨.ref _,_,I.lnew (t':=s.toks) (r.append r2) (by rw[List.length_append];omega),rfl,q _ I.fresh⟩
end
end L2
end
section
set_option maxHeartbeats 8000000
set_option Elab.async false
set_option linter.all false
set_option maxRecDepth 100000
namespace L2
open PySem
theorem jx {D:je}{σ:St}{H:Hp}(h:D.nx σ H):zcB D σ H:=h
theorem zU {t u:TS}{D:je}{σ:St}{H:Hp}(R:St->Hp->Prop) (h2:∀σ' H',R σ' H'->u D σ' H') (h1:∀nx:St->Hp->Prop,(∀σ' H',R σ' H'->nx σ' H')->t { D with nx:=nx } σ H):VJ t u D σ H:=h1 (u D) h2
end L2
namespace KK
open PySem L2 KM
def lv:Option Int->V
 | none=>.non
 | some l=>.int l
def Wb (w:Option (Int×Int)):Prop:=∀t,w=some t->Bd 2000 t.1
section
variable {P:Program}{w:World}{K:PySem.W.Frag}{mg:Str->Option Value}{base:Heap}{C:Addr}
theorem zcl {H:Hp}{v:V}{w:Option (Int×Int)} (h:XX H v w):(w=none/\v = .non)\/∃t a,w=some t/\v = .ref a/\H a=some (.tup [.int t.1,.int t.2]):=by
 cases w with
 | none=>exact .inl ⟨rfl,h⟩
 | some t=>obtain⟨a,e,h⟩:=h;exact .inr ⟨t,a,rfl,e,h⟩
theorem XW.same {H H':Hp}{c:Addr}{pb sb:Int}{tk:Rat}{ws:List Int}{trs:List (Int×Int)}{lo hi:Option (Int×Int)} (h:XW H C c pb sb tk ws trs lo hi) (e:zi H H'):XW H' C c pb sb tk ws trs lo hi:=by
 obtain⟨dx,fs,h1,F⟩:=h
 obtain⟨tp,t1,t2⟩:=F.tick
 obtain⟨wl,w1,w2⟩:=F.weights
 obtain⟨tl,tv,r1,r2,r3⟩:=F.tracks
 obtain⟨v,l1,l2⟩:=F.low
 obtain⟨u,g1,g2⟩:=F.high
 exact⟨dx,fs,e _ _ h1,F.pb,F.sb,⟨tp,t1,e _ _ t2⟩,⟨wl,w1,e _ _ w2⟩,⟨tl,tv,r1,e _ _ r2,r3.keeps (.of e)⟩,⟨v,l1,l2.keeps (.of e)⟩,⟨u,g1,g2.keeps (.of e)⟩,F.len⟩
theorem b2i:Bd 1000000 (2:Int):=Bd.mono (m:=2) (show (2:Int).natAbs<2^2 by decide) (by decide)
end
end KK
end
section
set_option maxHeartbeats 8000000
set_option Elab.async false
set_option linter.all false
set_option maxRecDepth 100000
namespace KK
open PySem L2 KM
def Xo (lo hi:Option (Int×Int)):Option Int:=match lo,hi with
 | some l,some h=>some (2*(h.1 - l.1))
 | _,_=>none
section
variable {P:Program}{w:World}{K:PySem.W.Frag}{mg:Str->Option Value}{base:Heap}{C CE:Addr}{aN:Addr}
def Xn (C:Addr):Sp:=λvs H Q _=>∃c pb sb tk ws trs lo hi,vs=[.ref c]/\XW H C c pb sb tk ws trs lo hi/\Wb lo/\Wb hi/\Q (lv (Xo lo hi)) H
theorem zb5:zx ["course"] ["course"] (zh vx):=⟨rfl,rfl,rfl,by decide +kernel,rfl,by decide +kernel,by decide +kernel⟩
theorem zbQ (D:Df K mg "trip_of" vx ["course"] []) (TC:TCo K C):Cal P w K mg base "trip_of" 1 ["course"] [] (Xn C):=by
 refine D.cal (k:=0) zb5 (λvs H Q E h=>by obtain⟨_,_,_,_,_,_,_,_,rfl,_⟩:=h;rfl) (λf cdv A outer s H vs Q E hr h=>?_)
 obtain⟨c,pb,sb,tk,ws,trs,lo,hi,rfl,hco,wl,wh,k⟩:=h
 obtain⟨dx,fs,hc,F⟩:=id hco
 obtain⟨vl,el,tl⟩:=F.low
 obtain⟨vh,eh,th⟩:=F.high
 refine⟨_,(zf (zV ((vU (zu jp (qL (pv 0) rfl) qh (zy _)) (vO (zu jp (qL (pv 0) rfl) qh (zy _))))).pt (zj (zD qh)) zF)
  (zj (zD (zl zG zd (zl xr (zE zH (qL (pv 0) rfl) zd (λ_ _=>rfl)) (zE zH (qL (pv 0) rfl) zd (λ_ _=>rfl))))))),?_⟩
 rcases zcl tl with⟨rfl,rfl⟩ | ⟨l,al,rfl,rfl,hal⟩
 ·exact⟨_,rfl,c,C,dx,fs,_,rfl,hc,TC.cls,TC.low,el,rfl,_,rfl,xY (xY k)⟩
 ·refine⟨_,rfl,c,C,dx,fs,_,rfl,hc,TC.cls,TC.low,el,rfl,_,rfl,xZ ?_⟩
  rcases zcl th with⟨rfl,rfl⟩ | ⟨h,ah,rfl,rfl,hah⟩
  ·exact⟨_,rfl,c,C,dx,fs,_,rfl,hc,TC.cls,TC.high,eh,rfl,_,rfl,xY k⟩
  ·refine⟨_,rfl,c,C,dx,fs,_,rfl,hc,TC.cls,TC.high,eh,rfl,_,rfl,xZ ?_⟩
   exact⟨_,rfl,c,C,dx,fs,_,rfl,hc,TC.cls,TC.high,eh,ah,_,_,_,rfl,rfl,.of hah,at0 ..,_,rfl,c,C,dx,fs,_,rfl,hc,TC.cls,TC.low,el,al,_,_,_,rfl,rfl,.of hal,at0 ..,_,_,rfl,rfl,_,_,rfl,rfl,⟨b2i,((wh _ rfl).sub (wl _ rfl)).mono (by decide)⟩,k⟩
end
end KK
end
section
set_option maxHeartbeats 8000000
set_option Elab.async false
set_option linter.all false
set_option maxRecDepth 100000
namespace L2
open PySem
theorem Je {X:Cx}{K:PySem.W.Frag}{e:Expr}{ta:TE}{f:Str}{pos:Pos}(hK:X.K=K) (he:PE X e ta) (hb:attributeBase e f X.env (eval e X.env)=eval e X.env):PE X (.Attribute e f pos) (ze8 K ta f):=by
 subst hK;exact qL he hb
theorem jE {a b:Str}{m n:Addr}{cs:List (Str×Addr)} (h1:cs.lookup a=some m) (h2:cs.lookup b=some n) (x:Str) (c:Addr) (e:List.lookup x [(a,m),(b,n)]=some c):cs.lookup x=some c:=by
 simp only[List.lookup]at e
 cases q1:(x == a)with
 | true=>rw[q1]at e;cases e;rw[eq_of_beq q1];exact h1
 | false =>
  rw[q1]at e
  cases q2:(x == b)with
  | true=>rw[q2]at e;cases e;rw[eq_of_beq q2];exact h2
  | false=>rw[q2]at e;cases e
theorem jP {a b d:Str}{m n k:Addr}{cs:List (Str×Addr)} (h1:cs.lookup a=some m) (h2:cs.lookup b=some n) (h3:cs.lookup d=some k) (x:Str) (c:Addr) (e:List.lookup x [(a,m),(b,n),(d,k)]=some c):cs.lookup x=some c:=by
 simp only[List.lookup]at e
 cases q1:(x == a)with
 | true=>rw[q1]at e;cases e;rw[eq_of_beq q1];exact h1
 | false =>
  rw[q1]at e
  cases q2:(x == b)with
  | true=>rw[q2]at e;cases e;rw[eq_of_beq q2];exact h2
  | false =>
   rw[q2]at e
   cases q3:(x == d)with
   | true=>rw[q3]at e;cases e;rw[eq_of_beq q3];exact h3
   | false=>rw[q3]at e;cases e
end L2
namespace KK
open PySem L2 KM
section
variable {P:Program}{w:World}{K:PySem.W.Frag}{mg:Str->Option Value}{base:Heap}{C CE:Addr}{aN:Addr}
theorem Ju {lo hi:Option (Int×Int)} (wl:Wb lo) (wh:Wb hi) (h:∀l r,lo=some l->hi=some r->l.1<r.1):∀x,Xo lo hi=some x->0<x/\Bd 3000 x:=λx e=>by
 cases lo with
 | none=>cases e
 | some l =>
  cases hi with
  | none=>cases e
  | some r =>
   cases e
   have:=h _ _ rfl rfl
   exact⟨by omega,((show Bd 2 (2:Int) by show (2:Int).natAbs<2^2;decide).mul ((wh _ rfl).sub (wl _ rfl))).mono (by decide)⟩
structure Pl (H:Hp) (r a:Addr) (bs:List vX) (b0:vX) (l1 l2:Wl):Prop where
 row:∃us,H r=some (.tup us)/\xb H us bs
 b0:bs[0]? = some b0
 len:bs.length<=8
 walls:∃v1 v2,H a=some (.tup [v1,v2])/\xc H v1 l1/\xc H v2 l2
def plB (b0:vX) (bs:List vX) (l1 l2:Wl):Bool:=evB b0 bs&&(xa l1&&xa l2)
def zeX:Sp:=λvs H Q _=>∃r a bs b0 l1 l2,vs=[.ref r,.ref a]/\Pl H r a bs b0 l1 l2/\∀H',zi H H'->Q (.bl (plB b0 bs l1 l2)) H'
theorem za2:zx ["row","walls"] ["row","walls"] (zh qO):=⟨rfl,rfl,rfl,by decide +kernel,rfl,by decide +kernel,by decide +kernel⟩
theorem zev (D:Df K mg "is_plain" qO ["row","walls"] []) (cEv:Cal P w K mg base "is_even" 5 ["row"] [] zeS) (cSt:Cal P w K mg base "is_still" 5 ["walls"] [] ze1):Cal P w K mg base "is_plain" 6 ["row","walls"] [] zeX:=by
 refine D.cal (k:=5) za2 (λvs H Q E h=>by obtain⟨_,_,_,_,_,_,rfl,_⟩:=h;rfl) (λf cdv A outer s H vs Q E hr h=>?_)
 obtain⟨r,a,bs,b0,l1,l2,rfl,pl,k⟩:=h
 obtain⟨us,hrr,hB⟩:=pl.row
 obtain⟨v1,v2,ha,h1,h2⟩:=pl.walls
 refine⟨_,(zj (zD (qE (zv cEv hr (za (pv 0) ze)) (vK (zv cSt hr (za (pv 1) ze)))))),?_⟩
 refine⟨_,rfl,r,us,bs,b0,rfl,hrr,hB,pl.b0,pl.len,λH1 e1=>⟨_,rfl,?_⟩⟩
 cases e:evB b0 bs with
 | false =>
  refine xZ ?_
  have:=k H1 e1
  unfold plB at this;rw[e]at this;exact this
 | true =>
  refine xY ⟨_,rfl,a,v1,v2,l1,l2,rfl,e1 _ _ ha,h1.same e1,h2.same e1,λH2 e2=>?_⟩
  have:=k H2 (e1.trans e2)
  unfold plB at this;rw[e]at this;exact this
def zeZ:Sp:=λvs H Q _=>∃r a bs b0 l1 l2,vs=[.ref r,.ref a]/\Pl H r a bs b0 l1 l2/\plB b0 bs l1 l2=true/\∀H',zi H H'->Q .non H'
theorem zeO:zx ["row","walls"] ["row","walls"] (zh xG):=⟨rfl,rfl,rfl,by decide +kernel,rfl,by decide +kernel,by decide +kernel⟩
theorem zew (D:Df K mg "refuse_uneven" xG ["row","walls"] []) (cPl:Cal P w K mg base "is_plain" 6 ["row","walls"] [] zeX):Cal P w K mg base "refuse_uneven" 7 ["row","walls"] [] zeZ:=by
 refine D.cal (k:=6) zeO (λvs H Q E h=>by obtain⟨_,_,_,_,_,_,rfl,_⟩:=h;rfl) (λf cdv A outer s H vs Q E hr h=>?_)
 obtain⟨r,a,bs,b0,l1,l2,rfl,pl,hp,k⟩:=h
 refine⟨_,(zj (zV (vN (xL (zv cPl hr (za (pv 0) (za (pv 1) ze))) λ_=>rfl)) Zv zF)),?_⟩
 refine⟨_,rfl,_,rfl,r,a,bs,b0,l1,l2,rfl,pl,λH1 e1=>⟨_,rfl,?_⟩⟩
 rw[hp]
 exact xZ (k H1 e1)
end
end KK
end
section
set_option maxHeartbeats 8000000
set_option Elab.async false
set_option linter.all false
set_option maxRecDepth 100000
namespace KK
open PySem L2 KM
def tb (b:Bl):vX:=⟨b.pl,b.sp,b.wt⟩
def Sm (x:Rat):Prop:=Bd 200 x.num/\Bd 20 (x.den:Int)
theorem Sm.sz {x:Rat}(h:Sm x):Sz 400 x:=⟨h.1.mono (by decide),h.2.mono (by decide)⟩
structure Ln (H:Hp) (r a:Addr) (bs:List Bl) (lo hi:Wl):Prop where
 row:∃us,H r=some (.tup us)/\ZY H us bs
 walls:∃v1 v2,H a=some (.tup [v1,v2])/\xc H v1 lo/\xc H v2 hi
 l1:1<=bs.length
 l8:bs.length<=8
theorem Ln.same {H H':Hp}{r a:Addr}{bs:List Bl}{lo hi:Wl}(h:Ln H r a bs lo hi) (e:zi H H'):Ln H' r a bs lo hi:=by
 obtain⟨us,h1,h2⟩:=h.row
 obtain⟨v1,v2,g1,g2,g3⟩:=h.walls
 exact⟨⟨us,e _ _ h1,h2.keeps (.of e)⟩,⟨v1,v2,e _ _ g1,g2.same e,g3.same e⟩,h.l1,h.l8⟩
structure LnZ (bs:List Bl) (lo hi:Wl):Prop where
 sz:∀t∈ths bs lo hi,Sm t.1/\Sm t.2
 lh:∀l h,lo=some l->hi=some h->l.1<h.1
theorem ZY.balls {H:Hp}:∀{us:List V}{bs:List Bl},ZY H us bs->xb H us (bs.map tb)
 | [],[],_=>.nil
 | [],_::_,h=>by have:=h.1;simp at this
 | _::_,[],h=>by have:=h.1;simp at this
 | u::us,b::bs,h=>by
  obtain⟨c,e,a,p,q,rfl,h1,h2,h3⟩:=h.2 0 u rfl
  simp at e;subst e
  exact .cons (b:=tb b) h1 h2 h3 (ZY.balls ⟨by have:=h.1;simpa using this,λi v e=>by simpa using h.2 (i+1) v (by simpa using e)⟩)
theorem xc.wl {H:Hp}{v:V}{l:Wl}(h:xc H v l):Xt H v l:=by
 cases l with
 | none=>exact h
 | some z=>obtain⟨x,y⟩:=z;obtain⟨a,p,q,e1,e2,e3,e4⟩:=h;exact⟨a,e1,p,q,[],e2,e3,e4⟩
theorem Ln.pl {H:Hp}{r a:Addr}{bs:List Bl}{lo hi:Wl}(h:Ln H r a bs lo hi):∃b0,bs[0]? = some b0/\Pl H r a (bs.map tb) (tb b0) lo hi:=by
 obtain⟨us,h1,h2⟩:=h.row
 have l1:=h.l1
 refine⟨bs[0],List.getElem?_eq_getElem l1,⟨us,h1,h2.balls⟩,by rw[List.getElem?_map,List.getElem?_eq_getElem l1];rfl,by rw[List.length_map];exact h.l8,h.walls⟩
theorem zbC {qs:List Rat}(h:∀q∈qs,Bd 20 (q.den:Int)) (hl:qs.length<=20):0<Qf qs/\Bd 401 (Qf qs)/\∀q∈qs,(q.den:Int) ∣ Qf qs:=by
 obtain⟨a1,a2,_,a4⟩:=jT (n:=20) (ks:=qs.map λq=>(q.den:Int)) (c:=1) (m:=1) (by decide) (show (1:Int).natAbs<2^1 by decide) (λk hk=>by
  obtain⟨q,hq,rfl⟩:=List.mem_map.mp hk
  exact⟨by have:=q.den_pos;omega,h q hq⟩)
 exact⟨a1,a2.mono (by rw[List.length_map];omega),λq hq=>a4 _ (List.mem_map.mpr ⟨q,hq,rfl⟩)⟩
theorem zab {x:Rat}{b:Int}(hx:Bd 200 x.num) (hb:0<b) (h:Bd 401 b):Bd 2000 (byB x b):=by
 have d1:0<(x.den:Int):=by have:=x.den_pos;omega
 unfold byB
 have z:Bd 401 (b.fdiv (x.den:Int)):=by
  rw[Int.fdiv_eq_ediv_of_nonneg _ (by omega)]
  exact h.of_le (by have:=Int.ediv_le_self (x.den:Int) (a:=b) (by omega);have:=Int.ediv_nonneg (a:=b) (b:=(x.den:Int)) (by omega) (by omega);omega)
 exact(hx.mul z).mono (by decide)
theorem zcK {x y:Rat}{b:Int}(hb:0<b) (hx:(x.den:Int) ∣ b) (hy:(y.den:Int) ∣ b) (h:x<y):byB x b<byB y b:=by
 have d1:=den_pos x
 have d2:=den_pos y
 obtain⟨k,ek⟩:=hx
 obtain⟨m,em⟩:=hy
 have f1:b.fdiv (x.den:Int)=k:=by rw[Int.fdiv_eq_ediv_of_nonneg _ (by omega),ek];exact Int.mul_ediv_cancel_left _ (by omega)
 have f2:b.fdiv (y.den:Int)=m:=by rw[Int.fdiv_eq_ediv_of_nonneg _ (by omega),em];exact Int.mul_ediv_cancel_left _ (by omega)
 have k0:0<k:=by
  rcases Int.lt_or_le 0 k with h | h
  ·exact h
  ·have:=Int.mul_nonpos_of_nonneg_of_nonpos (a:=(x.den:Int)) (b:=k) (by omega) h;omega
 have m0:0<m:=by
  rcases Int.lt_or_le 0 m with h | h
  ·exact h
  ·have:=Int.mul_nonpos_of_nonneg_of_nonpos (a:=(y.den:Int)) (b:=m) (by omega) h;omega
 unfold byB
 rw[f1,f2]
 have h':=(zaw x y).mpr h
 have h2:=Int.mul_lt_mul_of_pos_right h' (Int.mul_pos k0 m0)
 refine Int.lt_of_mul_lt_mul_right (a:=b) ?_ (by omega)
 have e1:x.num*k*b=x.num*(y.den:Int)*(k*m):=by rw[em];simp only[Int.mul_assoc,Int.mul_comm,Int.mul_left_comm]
 have e2:y.num*m*b=y.num*(x.den:Int)*(k*m):=by rw[ek];simp only[Int.mul_assoc,Int.mul_comm,Int.mul_left_comm]
 rw[e1,e2];exact h2
structure LnB (bs:List Bl) (lo hi:Wl) (p s:Int):Prop where
 pb:0<p/\Bd 401 p
 sb:0<s/\Bd 401 s
 tr:∀b∈bs,Bd 2000 (trB p s (b.pl,b.sp)).1/\Bd 2000 (trB p s (b.pl,b.sp)).2
 bl:Wb (lo.map (trB p s))
 bh:Wb (hi.map (trB p s))
 lh:∀l h,lo.map (trB p s)=some l->hi.map (trB p s)=some h->l.1<h.1
 t0:Rat.divInt s p≠0
 tz:Sz 401 (Rat.divInt s p)
theorem VM {bs:List Bl}{lo hi:Wl}{t:Rat×Rat}(e:lo=some t):t∈ths bs lo hi:=by unfold ths;rw[e];simp[jG]
theorem VL {bs:List Bl}{lo hi:Wl}{t:Rat×Rat}(e:hi=some t):t∈ths bs lo hi:=by unfold ths;rw[e];simp[jG]
theorem zcC {bs:List Bl}{lo hi:Wl}{b:Bl}(m:b∈bs):(b.pl,b.sp)∈ths bs lo hi:=by
 unfold ths;exact List.mem_append_left _ (List.mem_map.mpr ⟨b,m,rfl⟩)
theorem LnZ.bd {bs:List Bl}{lo hi:Wl}(h:LnZ bs lo hi) (l8:bs.length<=8):LnB bs lo hi (pbO bs lo hi) (sbO bs lo hi):=by
 have hl:=vH (lo:=lo) (hi:=hi) l8
 obtain⟨p1,p2,p3⟩:=zbC (qs:=(ths bs lo hi).map (·.1)) (λq m=>by obtain⟨t,mt,rfl⟩:=List.mem_map.mp m;exact(h.sz t mt).1.2) (by rw[List.length_map];exact hl)
 obtain⟨s1,s2,s3⟩:=zbC (qs:=(ths bs lo hi).map (·.2)) (λq m=>by obtain⟨t,mt,rfl⟩:=List.mem_map.mp m;exact(h.sz t mt).2.2) (by rw[List.length_map];exact hl)
 have tr:∀t∈ths bs lo hi,Bd 2000 (trB (pbO bs lo hi) (sbO bs lo hi) t).1/\Bd 2000 (trB (pbO bs lo hi) (sbO bs lo hi) t).2:=λt m=>⟨zab (h.sz t m).1.1 p1 p2,zab (h.sz t m).2.1 s1 s2⟩
 refine⟨⟨p1,p2⟩,⟨s1,s2⟩,λb m=>tr _ (zcC m),λt e=>?_,λt e=>?_,λl r e1 e2=>?_,?_,.divInt (by show pbO bs lo hi≠0;unfold pbO;omega) s2 p2⟩
 ·cases lo with
  | none=>cases e
  | some z=>cases e;exact(tr z (VM rfl)).1
 ·cases hi with
  | none=>cases e
  | some z=>cases e;exact(tr z (VL rfl)).1
 ·cases lo with
  | none=>cases e1
  | some z =>
   cases hi with
   | none=>cases e2
   | some y =>
    cases e1;cases e2
    exact zcK p1 (p3 _ (List.mem_map.mpr ⟨z,VM rfl,rfl⟩)) (p3 _ (List.mem_map.mpr ⟨y,VL rfl,rfl⟩)) (h.lh _ _ rfl rfl)
 ·intro z
  have h1:0<sbO bs lo hi:=s1
  have h2:0<pbO bs lo hi:=p1
  rw[show (0:Rat)=Rat.divInt 0 1 by rfl,Rat.divInt_eq_divInt_iff (by omega) (by decide)]at z
  omega
end KK
end
section
set_option maxHeartbeats 8000000
set_option Elab.async false
set_option linter.all false
set_option maxRecDepth 100000
namespace KK
open PySem L2 KM
def prL (z:Int×Int):List Int:=[z.1,z.2]
theorem zbh {H:Hp}{ys:List V}{ks:List (List Int)} (t:vm H ys ks):∀{i:Nat}{v:V},ys[i]? = some v->∃q k,v = .ref q/\ks[i]? = some k/\H q=some (.tup (k.map V.int)):=by
 induction t with
 | nil=>intro i v e;simp at e
 | @cons a k xs ks e ne t ih =>
  intro i v h
  cases i with
  | zero=>simp at h;subst h;exact⟨a,k,rfl,rfl,e⟩
  | succ i=>simpa using ih (by simpa using h)
theorem unpr {l:List (Int×Int)}{js:List (List Int)} (h:js.Perm (l.map prL)):∃ks:List (Int×Int),js=ks.map prL/\ks.Perm l:=by
 refine⟨js.map λy=>(y.getD 0 0,y.getD 1 0),?_,?_⟩
 ·rw[List.map_map]
  conv=>lhs;rw[<-List.map_id js]
  refine List.map_congr_left λy m=>?_
  obtain⟨u,_,rfl⟩:=List.mem_map.mp (h.mem_iff.mp m)
  rfl
 ·have e:=h.map λy:List Int=>(y.getD 0 0,y.getD 1 0)
  rw[List.map_map]at e
  have:(l.map ((λy:List Int=>(y.getD 0 0,y.getD 1 0)) ∘ prL))=l:=by
   conv=>rhs;rw[<-List.map_id l]
   exact List.map_congr_left λu _=>rfl
  rw[this]at e
  exact e
end KK
end
section
set_option maxHeartbeats 8000000
set_option Elab.async false
set_option linter.all false
set_option maxRecDepth 100000
namespace KK
open PySem L2 KM
theorem bdn {n:Nat}{i:Int}(h0:0<=i) (h1:i<2^n):Bd n i:=by
 unfold Bd
 have:((2^n:Nat):Int)=(2:Int)^n:=by push_cast;rfl
 omega
theorem Zm {J:It}{D:Addr}{N n:Nat}{js:List Nat}{σ:St}{g:TG}{tt:TT}{te:TE}{Z:Hp->Prop}{H:Hp}(Pv:Nat->Hp->List V->Prop) (h0:Pv 0 (upd H D (.lst [])) []) (hgo:∀i H ys,i<N->Pv i H ys->J.go i H) (hst:∀H ys,Pv N H ys->J.stop N H)
  (hs:∀i x zs H2 H3 ys (Nx:Hp->List V->Prop),(∀H ys,Pv (i+1) H ys->Nx H ys)->i<N->zs.length=n->J.yld i H2 x H3->Pv i H2 ys->H2 D=some (.lst ys)->g x (zs++qz σ js) H3 λσ4 H4=>σ4.drop n=qz σ js/\tt σ4 H4 λb H5 =>
   if b=true then te σ4 H5 (λv H6=>H6 D=some (.lst ys)/\ys.length<sizeLine/\Nx (upd H6 D (.lst (ys++[v]))) (ys++[v]))else H5 D=some (.lst ys)/\Nx H5 ys)
  (hd:∀H ys,Pv N H ys->H D=some (.lst ys)->Z H) :
  ∃W:Nat->Nat->Hp->List V->Prop,(∃m,W 0 m (upd H D (.lst [])) [])/\∀i m H2 ys,W i m H2 ys->H2 D=some (.lst ys)->(J.stop i H2/\Z H2) ∨
   (J.go i H2/\∀zs x H3,zs.length=n->J.yld i H2 x H3->g x (zs++qz σ js) H3 λσ4 H4=>σ4.drop n=qz σ js/\tt σ4 H4 λb H5=>if b=true then te σ4 H5 (λv H6=>H6 D=some (.lst ys)/\ys.length<sizeLine/\∃m',m'<m/\W (i+1) m' (upd H6 D (.lst (ys++[v]))) (ys++[v]))
    else H5 D=some (.lst ys)/\∃m',m'<m/\W (i+1) m' H5 ys):=jQ (Q:=λ_ H=>Z H) Pv h0 hgo hst hs hd
theorem xn {p:Addr}{H H':Hp}(hp:vn H p) (s:zS p H H'):xo H H':=λb xs e=>s.tup hp e
theorem zS.free {p l:Addr}{H G:Hp}(s:zS p H G) (h:G l=none):H l=none:=by
 cases hh:H l with
 | none=>rfl
 | some o =>
  by_cases e:l=p
  ·subst e;obtain⟨_,_,_,z⟩:=s.pool;rw[z]at h;cases h
  ·rw[s.keep _ _ hh e]at h;cases h
theorem zS.put {p l:Addr}{H G:Hp}(s:zS p H G) (h:H l=none) (n:l≠p) (o:HO):zS p H (upd G l o) :=
 ⟨by obtain⟨q1,q2,q3,e⟩:=s.pool;exact⟨q1,q2,q3,by rw[zB (Ne.symm n)];exact e⟩,λb u e m=>by rw[zB (λz=>by rw[z,h]at e;cases e)];exact s.keep b u e m⟩
section
variable {P:Program}{w:World}{K:PySem.W.Frag}{mg:Str->Option Value}{base:Heap}{aN:Addr}
def VH:Sp:=λvs H Q _=>∃(p:Addr) (n:Int),vs=[.ref p,.int n]/\0<n/\vn H p/\∀(d:Int) H',0<=d->d<n->zS p H H'->Q (.int d) H'
theorem j6:zx ["pool","base","found","k"] ["pool","base"] (zh qX):=⟨rfl,rfl,rfl,by decide +kernel,rfl,by decide +kernel,by decide +kernel⟩
theorem zeC (D:Df K mg "_law_wide" qX ["pool","base"] []) (T:TxB K mg) (cN:Cal P w K mg base "_law_next" 1 ["pool","base"] [] jb):Cal P w K mg base "_law_wide" 2 ["pool","base"] [] VH:=by
 refine D.cal (k:=1) j6 (λvs H Q E h=>by obtain⟨_,_,rfl,_⟩:=h;rfl) (λf cdv A outer s H vs Q E hr h=>?_)
 obtain⟨p,n,rfl,hn,hP,k⟩:=h
 refine⟨_,(zf (zA (i:=2) j6.nd rfl (Or.inl rfl) zd)
  (zf (qj PassesOwn.never rfl (qM rfl T.nRange (za zd ze)) (zk (i:=3) j6.nd rfl (Or.inl rfl)) (zj (zA (i:=2) j6.nd rfl (Or.inl rfl) (zl zR (zl zG (pv 2) (zl v8 zd zd)) (zv cN hr (za (pv 0) (za (zl v8 zd zd) ze)))))))
  (zj (zD (zl qC (pv 2) (pv 1)))))),?_⟩
 refine⟨_,rfl,by decide,by decide,?_⟩
 refine vS (n:=(6:Int).toNat) (lo:=0) (λi σ G=>∃(z:Option V) (g:Int),σ=[some (.ref p),some (.int n),some (.int g),z]/\Bd (30+40*i) g/\zS p H G) ⟨none,0,rfl,Bd.mono (m:=1) (show (0:Int).natAbs<2^1 by decide) (by decide),zS.refl hP⟩ ?_ ?_
 ·rintro i σ G hi ⟨z,g,rfl,hg,tG⟩
  have hi4:i<6:=hi
  refine⟨_,rfl,_,_,rfl,rfl,⟨by decide,by decide,by decide⟩,_,_,rfl,rfl,⟨hg.mono (by omega),Bd.mono (m:=30) (bdn (by decide) (by decide)) (by decide)⟩,?_⟩
  refine⟨_,rfl,_,_,rfl,rfl,⟨by decide,by decide,by decide⟩,p,_,rfl,by decide,by decide,tG.pool,λd G2 d0 d1 t2=>⟨_,_,rfl,rfl,_,_,rfl,?_,tG.trans t2⟩⟩
  have e:((2:Int)^(26:Int).toNat)=67108864:=by decide
  have d1':d<67108864:=by rw[<-e];exact d1
  have b1:Bd 30 ((2:Int)^(26:Int).toNat):=bdn (by decide) (by decide)
  have b2:Bd 30 d:=bdn d0 (by omega)
  exact((hg.mul b1).add b2).mono (by omega)
 ·rintro σ G ⟨z,g,rfl,hg,tG⟩
  exact⟨_,rfl,_,rfl,_,_,rfl,rfl,by omega,k _ _ (Int.emod_nonneg _ (by omega)) (Int.emod_lt_of_pos _ (by omega)) tG⟩
def jJ:Sp:=λvs H Q _=>∃t b,vs=[.int t,.int b]/\0<b/\Bd 8900 b/\∀p H',zi H H'->zI H' p (Rat.divInt t b)->Q (.ref p) H'
theorem Qm:zx ["top","bottom","big","rest"] ["top","bottom"] (zh x9):=⟨rfl,rfl,rfl,by decide +kernel,rfl,by decide +kernel,by decide +kernel⟩
theorem zbN (D:Df K mg "_law_lowest" x9 ["top","bottom"] []) (T:TxB K mg):Cal P w K mg base "_law_lowest" 1 ["top","bottom"] [] jJ:=by
 refine D.cal (k:=0) Qm (λvs H Q E h=>by obtain⟨a,b,rfl,_⟩:=h;rfl) (λf cdv A outer s H vs Q E hr h=>?_)
 obtain⟨t,b,rfl,hb,hz,k⟩:=h
 have hb':b≠0:=by omega
 refine⟨_,(zf (vM (i:=2) (j:=3) rfl Qm.nd rfl rfl (by decide) rfl rfl (za (zw jj (by rfl) T.nAbs PyProof.Rows.boot_abs (za (pv 0) ze)) (za (pv 1) ze)) (by rfl))
  (zf (jY PassesOwn.never (zu jA (pv 3) zd (zy _)) (zj (vM (i:=2) (j:=3) rfl Qm.nd rfl rfl (by decide) rfl rfl (za (pv 3) (za (zl qC (pv 2) (pv 3)) ze)) (by rfl))))
  (zj (zD (zN (za (zl qm (pv 0) (pv 2)) (za (zl qm (pv 1) (pv 2)) ze))))))),?_⟩
 have hd:=KM.zck (t:=t) hb'
 have hdz:Bd 8900 (KM.dv t b):=hz.of_le (KM.zcj hb')
 have ge:(Int.gcd (if t<0 then -t else t) b:Nat)=Int.gcd t b:=by
  rw[jf];simp[Int.gcd]
 refine⟨_,rfl,t,rfl,⟨_,rfl,_,_,rfl,?_⟩⟩
 refine Zd (λσ H1=>H1=H/\∃x y:Int,σ=[some (.int t),some (.int b),some (.int x),some (.int y)]/\0<=x/\0<=y/\Int.gcd x y=Int.gcd t b)
  (λσ _=>match σ with | [_,_,_,some (.int y)]=>y.toNat | _=>0) ⟨rfl,_,_,rfl,(by rw[jf];omega),(by omega),ge⟩ ?_ ?_
 ·rintro σ H1 ⟨rfl,x,y,rfl,hx,hy,e⟩
  refine⟨_,rfl,_,_,rfl,rfl,_,rfl,xO (λh=>?_) (λh=>?_)⟩
  ·have h':0<y:=of_decide_eq_true h
   refine⟨_,rfl,_,rfl,_,rfl,_,_,rfl,rfl,h',_,_,rfl,⟨rfl,_,_,rfl,hy,Int.emod_nonneg _ (by omega),?_⟩,?_⟩
   ·rw[KM.Xa hx h'];exact e
   ·show (x % y).toNat<y.toNat
    have:=Int.emod_lt_of_pos x h'
    omega
  ·have h':¬ 0<y:=λz=>h (decide_eq_true z)
   have:y=0:=by omega
   subst this
   have e2:x=KM.dv t b:=by
    have:x=(Int.gcd t b:Nat):=by rw[<-e,Int.gcd_zero_right];omega
    rw[this];unfold KM.dv;rw[if_neg (by omega)]
   subst e2
   refine⟨_,rfl,_,rfl,_,_,rfl,rfl,⟨hd,hdz⟩,_,rfl,_,rfl,_,_,rfl,rfl,⟨hd,hdz⟩,?_⟩
   refine⟨by show 2<=sizeLine;decide,λp hp=>k p _ (zi.upd hp) ?_⟩
   show upd H1 p _ p=_
   rw[zg]
   dsimp only
   rw[KM.Vi hb',KM.zal hb'];rfl
 ·rintro σ H1 Q1 Q2 hq ⟨v,e,i,j,e1,e2,k1,e3,q⟩
  exact⟨v,e,i,j,e1,e2,k1,e3,hq _ _ q⟩
end
end KK
end
section
set_option maxHeartbeats 8000000
set_option Elab.async false
set_option linter.all false
set_option maxRecDepth 100000
namespace L2
open PySem
theorem jk {a:Str}{m:Addr}{cs:List (Str×Addr)} (h1:cs.lookup a=some m) (x:Str) (c:Addr) (e:List.lookup x [(a,m)]=some c):cs.lookup x=some c:=by
 simp only[List.lookup]at e
 cases q1:(x == a)with
 | true=>rw[q1]at e;cases e;rw[eq_of_beq q1];exact h1
 | false=>rw[q1]at e;cases e
end L2
namespace KK
open PySem L2 KM
def vz (H:Hp) (us:List V) (ps:List (Int×Int)):Prop:=us.length=ps.length/\∀(i:Nat) (v:V),us[i]? = some v->∃u a,ps[i]? = some u/\v = .ref a/\H a=some (.tup [.int u.1,.int u.2])
theorem vz.tups {H H':Hp}{us:List V}{ps:List (Int×Int)} (h:vz H us ps) (t:xo H H'):vz H' us ps :=
 ⟨h.1,λi v e=>by obtain⟨u,a,e1,e2,e3⟩:=h.2 i v e;exact⟨u,a,e1,e2,t _ _ e3⟩⟩
section
variable {P:Program}{w:World}{K:PySem.W.Frag}{mg:Str->Option Value}{base:Heap}{aN:Addr}
theorem XJ {p D:Addr}{G1:Hp}{σ:St}{j:Nat}{lo b:Int}{N:Nat}{Z:Hp->Prop}(hP:vn G1 p) (hD:G1 D=none) (hσ:σ[j]? = some (some (.ref p))) (hN:N<=100) (hb0:0<b) (hb:b<1000)
  (k:∀(ws:List Int) (G:Hp),zS p G1 G->G D=some (.lst (ws.map V.int))->ws.length=N->(∀x∈ws,-lo<=x/\x<b - lo)->Z G) :
  ∃W:Nat->Nat->Hp->List V->Prop,(∃m,W 0 m (upd G1 D (.lst [])) [])/\∀i m H2 ys,W i m H2 ys->H2 D=some (.lst ys)->((Itr 0 N).stop i H2/\Z H2) ∨
   ((Itr 0 N).go i H2/\∀zs x H3,zs.length=1->(Itr 0 N).yld i H2 x H3->zn 0 x (zs++qz σ [j]) H3 λσ4 H4=>σ4.drop 1=qz σ [j]/\(λ_ H Q=>Q true H:TT) σ4 H4 λbb H5=>if bb=true then(tOp (rI0 λi j=>V.int (i - j)) (jC jb [] E0 (x6 (xN 1) (x6 (tC (.int b)) ju))) (tC (.int lo))) σ4 H5 (λv H6=>H6 D=some (.lst ys)/\ys.length<sizeLine/\∃m',m'<m/\W (i+1) m' (upd H6 D (.lst (ys++[v]))) (ys++[v]))
    else H5 D=some (.lst ys)/\∃m',m'<m/\W (i+1) m' H5 ys):=by
 have hDp:D≠p:=hP.ne hD
 have hcap:qz σ [j]=[some (.ref p)]:=by simp[qz,hσ]
 refine Zm (js:=[j]) (J:=Itr 0 N) (g:=zn 0) (tt:=λ_ H Q=>Q true H) (te:=_) (N:=N) (n:=1) (λi G ys=>zS p G1 G/\∃ws:List Int,ys=ws.map V.int/\ws.length=i/\∀x∈ws,-lo<=x/\x<b - lo)
  ⟨⟨hP.new hD,λb o e _=>zi.upd hD _ _ e⟩,[],rfl,rfl,λv hv=>by cases hv⟩ (λi G ys hi z=>hi) (λG ys z=>Nat.le_refl _) ?_ ?_
 ·rintro i x zs G_ G ys Nx hN' hi hz1 ⟨rfl,rfl⟩ ⟨tG,ws,rfl,hwl,hwv⟩ hGD
  obtain⟨y1,rfl⟩:=v7 hz1
  rw[hcap]
  refine⟨rfl,xY ?_⟩
  refine⟨_,rfl,p,b,rfl,hb0,by omega,tG.pool,λd2 G3 a2 b2 t3=>⟨_,_,rfl,rfl,?_⟩⟩
  have h3:=t3.keep _ _ hGD hDp
  refine⟨h3,xy (by simp;omega),hN' _ _ ⟨(tG.trans t3).put hD hDp _,ws++[d2 - lo],by simp,by simp[hwl],λv hv=>?_⟩⟩
  rcases List.mem_append.mp hv with z | z
  ·exact hwv v z
  ·have:v=d2 - lo:=by simpa using z
   omega
 ·rintro G ys ⟨tG,ws,rfl,hwl,hwv⟩ hGD
  exact k ws G tG hGD hwl hwv
def zcA:Sp:=λvs H Q _=>∃p,∃n:Nat,vs=[.ref p,.int n]/\1<=n/\n<=8/\vn H p/\∀(t l:Addr) (us:List V) (at':Int) (ps:List (Int×Int)) H',zS p H H'->H' t=some (.tup [.int at',.ref l])->H l=none->H' l=some (.lst us)->vz H' us ps->ps.length=n → -10<=at'->at'<=10->(∀u∈ps,-40<=u.1/\u.1<=40 ∧ -6<=u.2/\u.2<=6)->Q (.ref t) H'
theorem Qn:zx ["pool","many","at","moment","speeds"] ["pool","many"] (zh xW):=⟨rfl,rfl,rfl,by decide +kernel,rfl,by decide +kernel,by decide +kernel⟩
theorem zdw (D:Df K mg "_law_through" xW ["pool","many"] []) (T:TxB K mg) (cN:Cal P w K mg base "_law_next" 1 ["pool","base"] [] jb):Cal P w K mg base "_law_through" 2 ["pool","many"] [] zcA:=by
 refine D.cal (k:=1) Qn (λvs H Q E h=>by obtain⟨_,_,rfl,_⟩:=h;rfl) (λf cdv A outer s H vs Q E hr h=>?_)
 obtain⟨p,n,rfl,n1,n8,hP,k⟩:=h
 refine⟨_,(zf (qi (zN (za (zl xr (zv cN hr (za (pv 0) (za zd ze))) zd) (za (zl zR zd (zv cN hr (za (pv 0) (za zd ze)))) ze))) (xP rfl (zm (zk (i:=2) Qn.nd rfl (Or.inr rfl)) (zm (zk (i:=3) Qn.nd rfl (Or.inr rfl)) zO))))
  (zf (vG (i:=4) (NB:=["k"]) (FR:=["pool"]) (js:=[0]) rfl rfl (λx c h=>jk rfl x c h) (.cons rfl rfl rfl ⟨_,rfl⟩ .nil) rfl (by decide +kernel) rfl (by decide +kernel) Qn.nd rfl rfl (by rfl) (qM rfl T.nRange (za (pv 1) ze)) (by intro _ _ _;refine⟨?_,?_,?_⟩;(exact(zk (i:=0) (show List.Nodup (["k","pool"]:List Str) by decide +kernel) rfl (Or.inl rfl)));(exact zL);(exact(zl xr (zv cN hr (za (pv 1) (za zd ze))) zd))))
  (zj (zD (zN (za (pv 2) (za (xK (NB:=["speed"]) (FR:=["at","moment"]) (js:=[2,3]) rfl rfl (λx c h=>jE rfl rfl x c h) (.cons rfl rfl rfl ⟨_,rfl⟩ (.cons rfl rfl rfl ⟨_,rfl⟩ .nil)) rfl (by decide +kernel) rfl (by decide +kernel) (zP (pv 4)) (by intro _ _ _;refine⟨?_,?_,?_⟩;(exact(zk (i:=0) (show List.Nodup (["speed","at","moment"]:List Str) by decide +kernel) rfl (Or.inl rfl)));(exact zL);(exact(zN (za (zl xr (pv 1) (zl zG (pv 0) (pv 2))) (za (pv 0) ze)))))) ze))))))),?_⟩
 refine⟨_,rfl,p,_,rfl,by decide,by decide,hP,λd1 G1 a1 b1 t1=>⟨_,_,rfl,rfl,_,rfl,p,_,rfl,by decide,by decide,t1.pool,λd2 G2 a2 b2 t2=>⟨_,_,rfl,rfl,by show 2<=sizeLine;decide,λtt htt=>?_⟩⟩⟩
 refine⟨tt,_,rfl,.of zg,rfl,_,_,rfl,_,_,rfl,rfl,?_⟩
 dsimp only[zn]
 have T2:=(t1.trans t2).same (zi.upd (o:=.tup [.int (d1 - 10),.int (1+d2)]) htt)
 generalize upd G2 tt (.tup [.int (d1 - 10),.int (1+d2)])=G2' at *
 refine⟨_,rfl,(n:Int),rfl,by omega,by omega,λDc hDc=>?_⟩
 refine XJ (j:=0) (lo:=6) (b:=13) (N:=((n:Int)).toNat) T2.pool hDc rfl (by omega) (by decide) (by decide) λws G t3 hGD hwl hwv=>?_
 dsimp only[zn]
 have T3:=T2.trans t3
 refine⟨_,rfl,_,rfl,Dc,rfl,⟨_,SqL.of hGD⟩,λD2 hD2=>?_⟩
 refine zW (js:=[2,3]) (J:=Itl K Dc) (g:=zn 0) (te:=_) (n:=1) (xs:=ws.map V.int) (λi v G=>∃x a,ws[i]? = some x/\v = .ref a/\G a=some (.tup [.int (d1 - 10 - x*(1+d2)),.int x])) (λi v G G' e ⟨x,a,q1,q2,q3⟩=>⟨x,a,q1,q2,e _ _ q3⟩) hD2 (zT hGD) (xy (by rw[List.length_map];omega)) ?_ ?_
 ·intro i y zs G4 Q' hy hz S hQ
  obtain⟨z1,rfl⟩:=v7 hz
  rw[List.getElem?_map]at hy
  cases hx:ws[i]? with
  | none=>rw[hx]at hy;cases hy
  | some x =>
   rw[hx]at hy;cases hy
   have bx:=hwv x (List.mem_of_getElem? hx)
   dsimp only[zn]
   refine⟨rfl,_,rfl,_,rfl,_,rfl,_,_,rfl,rfl,⟨Bd.mono (m:=10) (show x.natAbs<2^10 by omega) (by decide),Bd.mono (m:=10) (show (1+d2).natAbs<2^10 by omega) (by decide)⟩,_,_,rfl,rfl,_,rfl,by show 2<=sizeLine;decide,λq hq=>hQ _ _ (zi.upd hq) ⟨x,q,hx,rfl,zg⟩⟩
 intro us G4 S4 hG4 hul hR
 refine⟨by show 2<=sizeLine;decide,λt ht=>?_⟩
 have S5:=S4.trans (zi.upd (o:=.tup [.int (d1 - 10),.ref D2]) ht)
 refine k t D2 us (d1 - 10) (ws.map λx=>(d1 - 10 - x*(1+d2),x)) _ (T3.same S5) zg (T3.free hD2) (zi.upd ht _ _ hG4) ⟨by rw[List.length_map,hul,List.length_map],λi v e=>?_⟩ (by rw[List.length_map,hwl];omega) (by omega) (by omega) (λu m=>?_)
 ·obtain⟨x,a,q1,q2,q3⟩:=hR i v e
  exact⟨_,a,by rw[List.getElem?_map,q1];rfl,q2,zi.upd ht _ _ q3⟩
 ·obtain⟨x,mx,rfl⟩:=List.mem_map.mp m
  have bx:=hwv x mx
  have h1 : -6<=x:=bx.1
  have h2:x<=6:=by omega
  have:(1+d2)=1\/(1+d2)=2\/(1+d2)=3\/(1+d2)=4:=by omega
  dsimp only
  rcases this with z | z | z | z <;> rw[z] <;> omega
def ze0:Sp:=λvs H Q _=>∃p,∃n:Nat,∃g:Bool,vs=[.ref p,.int n,.bl g]/\n<=8/\vn H p/\∀(l:Addr) (ws:List Int) H',zS p H H'->H l=none->H' l=some (.lst (ws.map V.int))->ws.length=n->(∀x∈ws,Bd 68 x)->Q (.ref l) H'
theorem jI:zx ["pool","many","great","own","found","k","speed"] ["pool","many","great"] (zh xh):=⟨rfl,rfl,rfl,by decide +kernel,rfl,by decide +kernel,by decide +kernel⟩
theorem zex (D:Df K mg "_law_speeds_drawn" xh ["pool","many","great"] []) (T:TxB K mg) (cN:Cal P w K mg base "_law_next" 1 ["pool","base"] [] jb) (cWi:Cal P w K mg base "_law_wide" 2 ["pool","base"] [] VH):Cal P w K mg base "_law_speeds_drawn" 3 ["pool","many","great"] [] ze0:=by
 refine D.cal (k:=2) jI (λvs H Q E h=>by obtain⟨_,_,_,rfl,_⟩:=h;rfl) (λf cdv A outer s H vs Q E hr h=>?_)
 obtain⟨p,n,g,rfl,n8,hP,k⟩:=h
 have hr1:xj 1 _:=hr.mono (by decide)
 refine⟨_,(zf (vG (i:=3) (NB:=["k"]) (FR:=["pool"]) (js:=[0]) rfl rfl (λ_ _ h=>h) (.cons rfl rfl rfl ⟨_,rfl⟩ .nil) rfl (by decide +kernel) rfl (by decide +kernel) jI.nd rfl rfl (by rfl) (qM rfl T.nRange (za (zl zR zd (zv cN hr1 (za (pv 0) (za zd ze)))) ze)) (by intro _ _ _;refine⟨?_,?_,?_⟩;(exact(zk (i:=0) (show List.Nodup (["k","pool"]:List Str) by decide +kernel) rfl (Or.inl rfl)));(exact zL);(exact(zl xr (zv cN hr1 (za (pv 1) (za zd ze))) zd))))
  (zf (zA (i:=4) jI.nd rfl (Or.inl rfl) (qp ze))
  (zf (qj PassesOwn.never rfl (qM rfl T.nRange (za (pv 1) ze)) (zk (i:=5) jI.nd rfl (Or.inl rfl)) (zf (zA (i:=6) jI.nd rfl (Or.inl rfl) (zl zG (zE xk (pv 3) (zv cN hr1 (za (pv 0) (za (zw xq (by rfl) T.nLen PySem.boot_len (za (pv 3) ze)) ze))) (λ_ _=>rfl)) (zl xr zd (zl zG zd (zv cN hr1 (za (pv 0) (za zd ze)))))))
  (zf (zV (zu x5 (zv cN hr1 (za (pv 0) (za zd ze))) zd (zy _)) (zj (zA (i:=6) jI.nd rfl (Or.inl rfl) (zl xr (zv cN hr1 (za (pv 0) (za zd ze))) zd))) zF)
  (zf (zV (Xi (xL (pv 2) λ_=>rfl) (jZ (zu x5 (zv cN hr1 (za (pv 0) (za zd ze))) zd (zy _)))).pt (zj (zA (i:=6) jI.nd rfl (Or.inl rfl) (zl xr (zv cWi hr (za (pv 0) (za (zl zR (zl zG zd (zl v8 zd zd)) zd) ze))) (zl v8 zd zd)))) zF)
  (zj (xt (qI PySem.F.plainAttrs_list PySem.F.slot_list_append PySem.F.type_list_append xl (pv 4) (za (pv 6) ze))))))))
  (zj (zD (pv 4)))))),?_⟩
 refine⟨_,rfl,p,_,rfl,by decide,by decide,hP,λd1 G1 a1 b1 t1=>⟨_,_,rfl,rfl,_,rfl,by omega,by omega,λDc hDc=>?_⟩⟩
 refine XJ (j:=0) (lo:=12) (b:=25) (N:=(1+d1).toNat) t1.pool hDc rfl (by omega) (by decide) (by decide) λow G2 t2 hGD howl howv=>?_
 dsimp only[zn]
 have T2:=t1.trans t2
 have hcD:H Dc=none:=t1.free hDc
 have hDp:Dc≠p:=t1.pool.ne hDc
 refine⟨by show 0<=sizeLine;decide,λDf hDf=>?_⟩
 dsimp only[zn]
 have hfp:Df≠p:=T2.pool.ne hDf
 have hfH:H Df=none:=T2.free hDf
 have hcf:Dc≠Df:=λz=>by rw[<-z,hGD]at hDf;cases hDf
 refine zU (λσ' G=>∃(ws:List Int) (z5 z6:Option V),σ'=[some (.ref p),some (.int n),some (.bl g),some (.ref Dc),some (.ref Df),z5,z6]/\zS p H G/\G Dc=some (.lst (ow.map V.int))/\G Df=some (.lst (ws.map V.int))/\ws.length=n/\∀x∈ws,Bd 68 x) ?_ ?_
 ·rintro σ' G ⟨ws,z5,z6,rfl,tG,_,hG,hwl,hwv⟩
  exact⟨_,rfl,k Df ws G tG hfH hG hwl hwv⟩
 intro nx hnx
 refine⟨_,rfl,(n:Int),rfl,by omega,by omega,?_⟩
 refine vS (n:=((n:Int)).toNat) (lo:=0) (λi σ G=>∃(ws:List Int) (z5 z6:Option V),σ=[some (.ref p),some (.int n),some (.bl g),some (.ref Dc),some (.ref Df),z5,z6]/\zS p H G/\G Dc=some (.lst (ow.map V.int))/\G Df=some (.lst (ws.map V.int))/\ws.length=i/\∀x∈ws,Bd 68 x)
  ⟨[],none,none,rfl,T2.put hfH hfp _,by rw[zB hcf];exact hGD,zg,rfl,λx m=>by simp at m⟩ ?_ ?_
 ·rintro i σ G hi ⟨ws,z5,z6,rfl,tG,hGc,hGf,hwl,hwv⟩
  dsimp only[zn]
  have mv:∀{G G':Hp},zS p G G'->(zS p H G/\G Dc=some (.lst (ow.map V.int))/\G Df=some (.lst (ws.map V.int)))->(zS p H G'/\G' Dc=some (.lst (ow.map V.int))/\G' Df=some (.lst (ws.map V.int))):=λt ⟨h1,h2,h3⟩=>⟨h1.trans t,t.keep _ _ h2 hDp,t.keep _ _ h3 hfp⟩
  have ol:1<=ow.length/\ow.length<=3:=by omega
  refine zU (λσ' G=>∃x,σ'=[some (.ref p),some (.int n),some (.bl g),some (.ref Dc),some (.ref Df),some (.int (0+(i:Int))),some (.int x)]/\(zS p H G/\G Dc=some (.lst (ow.map V.int))/\G Df=some (.lst (ws.map V.int)))/\Bd 68 x) ?_ ?_
  rotate_left
  ·intro nx' hnx'
   refine⟨_,rfl,_,rfl,_,rfl,Dc,_,rfl,.inl (SqL.of hGc),p,_,rfl,by rw[List.length_map];omega,by rw[List.length_map];omega,tG.pool,λd3 G3 a3 b3 t3=>?_⟩
   rw[List.length_map]at b3
   have M3:=mv t3 ⟨tG,hGc,hGf⟩
   have hd:d3.toNat<ow.length:=by omega
   have e1:(ow.map V.int)[d3.toNat]? = some (.int ow[d3.toNat]):=by rw[List.getElem?_map,List.getElem?_eq_getElem hd];rfl
   have e2:=jN e1
   rw[show ((d3.toNat:Nat):Int)=d3 by omega]at e2
   have bo:=howv _ (List.getElem_mem hd)
   refine⟨Dc,_,_,_,rfl,rfl,SqL.of M3.2.1,e2,?_⟩
   refine⟨_,rfl,p,_,rfl,by decide,by decide,M3.1.pool,λd4 G4 a4 b4 t4=>⟨_,_,rfl,rfl,⟨b2i,Bd.mono (m:=10) (show d4.natAbs<2^10 by omega) (by decide)⟩,_,_,rfl,rfl,_,_,rfl,rfl,⟨Bd.mono (m:=10) (show (ow[d3.toNat]).natAbs<2^10 by omega) (by decide),Bd.mono (m:=10) (show (1 - 2*d4).natAbs<2^10 by omega) (by decide)⟩,hnx' _ _ ⟨_,rfl,mv t4 M3,?_⟩⟩⟩
   exact Bd.mono (m:=20) (Bd.mul (m:=10) (n:=10) (show (ow[d3.toNat]).natAbs<2^10 by omega) (show (1 - 2*d4).natAbs<2^10 by omega)) (by decide)
  rintro σ1 G1' ⟨x1,rfl,M1,bx1⟩
  refine zU (λσ' G=>∃x,σ'=[some (.ref p),some (.int n),some (.bl g),some (.ref Dc),some (.ref Df),some (.int (0+(i:Int))),some (.int x)]/\(zS p H G/\G Dc=some (.lst (ow.map V.int))/\G Df=some (.lst (ws.map V.int)))/\Bd 68 x) ?_ ?_
  rotate_left
  ·intro nx' hnx'
   refine⟨_,rfl,p,_,rfl,by decide,by decide,M1.1.pool,λd3 G3 a3 b3 t3=>⟨rfl,_,rfl,xO (λ_=>?_) (λ_=>hnx' _ _ ⟨x1,rfl,mv t3 M1,bx1⟩)⟩⟩
   have M3:=mv t3 M1
   refine⟨_,rfl,p,_,rfl,by decide,by decide,M3.1.pool,λd4 G4 a4 b4 t4=>⟨_,_,rfl,rfl,hnx' _ _ ⟨_,rfl,mv t4 M3,Bd.mono (m:=10) (show (d4 - 12).natAbs<2^10 by omega) (by decide)⟩⟩⟩
  rintro σ2 G2' ⟨x2,rfl,M2,bx2⟩
  refine zU (λσ' G=>∃x,σ'=[some (.ref p),some (.int n),some (.bl g),some (.ref Dc),some (.ref Df),some (.int (0+(i:Int))),some (.int x)]/\(zS p H G/\G Dc=some (.lst (ow.map V.int))/\G Df=some (.lst (ws.map V.int)))/\Bd 68 x) ?_ ?_
  rotate_left
  ·intro nx' hnx'
   refine⟨_,rfl,g,rfl,?_⟩
   cases g with
   | false=>exact xZ (xZ (hnx' _ _ ⟨x2,rfl,M2,bx2⟩))
   | true =>
    refine xY ⟨_,rfl,p,_,rfl,by decide,by decide,M2.1.pool,λd3 G3 a3 b3 t3=>⟨rfl,_,rfl,xO (λ_=>?_) (λ_=>hnx' _ _ ⟨x2,rfl,mv t3 M2,bx2⟩)⟩⟩
    have M3:=mv t3 M2
    have e20:((10:Int)^(20:Int).toNat)=100000000000000000000:=by decide
    refine⟨_,rfl,_,_,rfl,rfl,⟨by decide,by decide,by decide⟩,_,_,rfl,rfl,⟨b2i,Bd.mono (m:=70) (show ((10:Int)^(20:Int).toNat).natAbs<2^70 by decide) (by decide)⟩,_,_,rfl,rfl,p,_,rfl,by rw[e20];decide,M3.1.pool,λd4 G4 a4 b4 t4=>⟨_,_,rfl,rfl,⟨by decide,by decide,by decide⟩,_,_,rfl,rfl,hnx' _ _ ⟨_,rfl,mv t4 M3,?_⟩⟩⟩
    rw[e20]at b4 ⊢
    show (d4 - 100000000000000000000).natAbs<2^68
    omega
  rintro σ3 G3' ⟨x3,rfl,M3,bx3⟩
  obtain⟨tG3,hGc3,hGf3⟩:=M3
  refine⟨_,rfl,.inl ⟨rfl,_,SqL.of hGf3⟩,_,rfl,Df,_,_,rfl,rfl,hGf3,xy (by rw[List.length_map];omega),?_⟩
  refine⟨ws++[x3],_,_,rfl,tG3.put hfH hfp _,by rw[zB hcf];exact hGc3,by rw[zg];simp,by simp[hwl],λy m=>?_⟩
  rcases List.mem_append.mp m with m | m
  ·exact hwv y m
  ·have:y=x3:=by simpa using m
   rw[this];exact bx3
 ·rintro σ G ⟨ws,z5,z6,rfl,tG,hGc,hG,hwl,hwv⟩
  exact hnx _ _ ⟨ws,z5,z6,rfl,tG,hGc,hG,by omega,hwv⟩
end
end KK
end
section
set_option maxHeartbeats 8000000
set_option Elab.async false
set_option linter.all false
set_option maxRecDepth 100000
namespace KK
open PySem L2 KM
def stl (lo hi:Option Int) (u:Int×Int):Int×Int:=if(V.int u.1=lv lo/\u.2<0)\/(V.int u.1=lv hi/\0<u.2)then(u.1,0 - u.2)else u
theorem qH (lo hi:Option Int) (u:Int×Int):(stl lo hi u).1=u.1:=by unfold stl;split <;> rfl
def kk (u:Int×Int):List Key:=[Sum.inl u.1,Sum.inl u.2]
theorem zc1 {u v:Int×Int}(h:kk u=kk v):u=v:=by
 unfold kk at h
 obtain⟨a,b⟩:=u
 obtain⟨c,d⟩:=v
 simp at h
 rw[h.1,h.2]
theorem zar {kvs:List (List Key×V)}{ks:List (Int×Int)}{u:Int×Int}{v:V}(e:kvs.map Prod.fst=ks.map kk):(jq kvs (kk u) v).map Prod.fst=(if u∈ks then ks else ks++[u]).map kk:=by
 have hm:(kvs.any λkv=>decide (kv.1=kk u))=decide (u∈ks):=by
  rw[Bool.eq_iff_iff,List.any_eq_true,decide_eq_true_eq]
  constructor
  ·rintro ⟨p,mp,h⟩
   have h:=of_decide_eq_true h
   have:kk u∈ks.map kk:=by rw[<-e,<-h];exact List.mem_map.mpr ⟨p,mp,rfl⟩
   obtain⟨w,mw,ew⟩:=List.mem_map.mp this
   rw[<-zc1 ew];exact mw
  ·intro m
   have:kk u∈kvs.map Prod.fst:=by rw[e];exact List.mem_map.mpr ⟨u,m,rfl⟩
   obtain⟨p,mp,ep⟩:=List.mem_map.mp this
   exact⟨p,mp,decide_eq_true ep⟩
 unfold jq
 rw[hm]
 by_cases m:u∈ks
 ·rw[decide_eq_true m,if_pos rfl,if_pos m,<-e,List.map_map]
  refine List.map_congr_left λp _=>?_
  show (if p.1=kk u then(p.1,v)else p).1=p.1
  split <;> rfl
 ·rw[decide_eq_false m,if_neg (by decide),if_neg m,List.map_append,e,List.map_append];rfl
section
variable {P:Program}{w:World}{K:PySem.W.Frag}{mg:Str->Option Value}{base:Heap}{aN:Addr}
def zbb:Sp:=λvs H Q _=>∃l us ps lo hi,vs=[.ref l,lv lo,lv hi]/\H l=some (.lst us)/\vz H us ps/\1<=ps.length/\ps.length<=8 ∧
 ∀(D:Addr) (ys:List V) (js:List (Int×Int)) (H':Hp),zi H H'->H D=none->H' D=some (.lst ys)->vz H' ys js->1<=js.length->js.length<=8->(∀u,u∈js↔u∈ps.map (stl lo hi))->js.Nodup->(js.Pairwise λu v=>xM (prL v) (prL u)=false)->Q (.ref D) H'
theorem j5:zx ["balls","low","high","found","place","speed"] ["balls","low","high"] (zh xV):=⟨rfl,rfl,rfl,by decide +kernel,rfl,by decide +kernel,by decide +kernel⟩
theorem Qp (x:Int) (l:Option Int):zdN (.int x) (lv l)=true:=by cases l <;> rfl
theorem zdv (D:Df K mg "_law_settled" xV ["balls","low","high"] []) (T3:Tx3 K mg aN):Cal P w K mg base "_law_settled" 1 ["balls","low","high"] [] zbb:=by
 refine D.cal (k:=0) j5 (λvs H Q E h=>by obtain⟨_,_,_,_,_,rfl,_⟩:=h;rfl) (λf cdv A outer s H vs Q E hr h=>?_)
 obtain⟨l,us,ps,lo,hi,rfl,hl,hP,p1,p8,k⟩:=h
 have hu:=zef hr
 refine⟨_,(zf (zA (i:=3) j5.nd rfl (Or.inl rfl) zaE)
  (zf (qj PassesOwn.never rfl (zP (pv 0)) (xP rfl (zm (zk (i:=4) j5.nd rfl (Or.inl rfl)) (zm (zk (i:=5) j5.nd rfl (Or.inl rfl)) zO))) (zf (zV (vU (Xi (zu x5 (pv 4) (pv 1) (zy _)) (jZ (zu jW (pv 5) zd (zy _)))).pt (vO (Xi (zu x5 (pv 4) (pv 2) (zy _)) (jZ (zu jA (pv 5) zd (zy _)))).pt)).pt (zj (zA (i:=5) j5.nd rfl (Or.inl rfl) (zl xr zd (pv 5)))) zF)
  (zj (zbW hu (pv 3) (zN (za (pv 4) (za (pv 5) ze))) vF rfl))))
  (zj (zD (zw (Vf rfl) (by rfl) T3.nSorted PyProof.Rows.boot_sorted (za (zaF (pv 3)) ze)))))),?_⟩
 refine λd hd=>?_
 dsimp only[zn]
 have S0:zi H (upd H d (.dT [])):=zi.upd hd
 refine zU (λσ' G=>∃kvs ks z4 z5,σ'=[some (.ref l),some (lv lo),some (lv hi),some (.ref d),z4,z5]/\zi H G/\G d=some (.dT kvs)/\kvs.map Prod.fst=List.map kk ks/\ks.Nodup/\(∀u,u∈ks↔u∈ps.map (stl lo hi))/\ks.length<=8) ?_ ?_
 rotate_left
 ·intro nx hnx
  refine⟨_,rfl,l,rfl,⟨_,SqL.of (S0 _ _ hl)⟩,?_⟩
  refine vd (xs:=us) (λi σ' G=>∃kvs ks z4 z5,σ'=[some (.ref l),some (lv lo),some (lv hi),some (.ref d),z4,z5]/\zi H G/\G d=some (.dT kvs)/\kvs.map Prod.fst=List.map kk ks/\ks.Nodup/\(∀u,u∈ks↔u∈(ps.take i).map (stl lo hi))/\ks.length<=i)
   ⟨[],[],none,none,rfl,S0,zg,rfl,List.nodup_nil,λu=>by simp,Nat.le_refl _⟩ (λi σ G _ ⟨_,_,_,_,_,q,_⟩=>SqL.of (q _ _ hl)) ?_ ?_
  ·rintro i y σ G hy ⟨kvs,ks,z4,z5,rfl,S,hGd,ek,nd,mem,len⟩
   obtain⟨u,a,eu,rfl,ha⟩:=hP.2 i y hy
   have hi8:i<8:=by have:=(List.getElem?_eq_some_iff.mp eu).1;omega
   refine⟨a,_,rfl,.of (S _ _ ha),rfl,_,_,rfl,_,_,rfl,rfl,?_⟩
   dsimp only[zn]
   refine zU (λσ' G'=>G=G'/\σ'=[some (.ref l),some (lv lo),some (lv hi),some (.ref d),some (.int u.1),some (.int (stl lo hi u).2)]) ?_ ?_
   rotate_left
   ·intro nx' hnx'
    have yes:(V.int u.1=lv lo/\u.2<0)\/(V.int u.1=lv hi/\0<u.2)->nx' [some (.ref l),some (lv lo),some (lv hi),some (.ref d),some (.int u.1),some (.int (0 - u.2))] G:=λh=>hnx' _ _ ⟨rfl,by unfold stl;rw[if_pos h]⟩
    have no:¬((V.int u.1=lv lo/\u.2<0)\/(V.int u.1=lv hi/\0<u.2))->nx' [some (.ref l),some (lv lo),some (lv hi),some (.ref d),some (.int u.1),some (.int u.2)] G:=λh=>hnx' _ _ ⟨rfl,by unfold stl;rw[if_neg h]⟩
    refine⟨_,rfl,_,rfl,Qp _ _,_,rfl,xO (λh1=>⟨_,rfl,_,_,rfl,rfl,_,rfl,xO (λh2=>xY ?_) (λh2=>?_)⟩) (λh1=>xZ ?_)⟩
    ·exact⟨_,rfl,_,_,rfl,rfl,yes (.inl ⟨of_decide_eq_true h1,of_decide_eq_true h2⟩)⟩
    ·have n1:¬(V.int u.1=lv lo/\u.2<0):=λz=>h2 (decide_eq_true z.2)
     refine⟨_,rfl,_,rfl,Qp _ _,_,rfl,xO (λh3=>⟨_,rfl,_,_,rfl,rfl,_,rfl,xO (λh4=>?_) (λh4=>?_)⟩) (λh3=>xZ ?_)⟩
     ·exact⟨_,rfl,_,_,rfl,rfl,yes (.inr ⟨of_decide_eq_true h3,of_decide_eq_true h4⟩)⟩
     ·exact no (λz=>z.elim n1 λz=>h4 (decide_eq_true z.2))
     ·exact no (λz=>z.elim n1 λz=>h3 (decide_eq_true z.1))
    ·have n1:¬(V.int u.1=lv lo/\u.2<0):=λz=>h1 (decide_eq_true z.1)
     refine⟨_,rfl,_,rfl,Qp _ _,_,rfl,xO (λh3=>⟨_,rfl,_,_,rfl,rfl,_,rfl,xO (λh4=>?_) (λh4=>?_)⟩) (λh3=>xZ ?_)⟩
     ·exact⟨_,rfl,_,_,rfl,rfl,yes (.inr ⟨of_decide_eq_true h3,of_decide_eq_true h4⟩)⟩
     ·exact no (λz=>z.elim n1 λz=>h4 (decide_eq_true z.2))
     ·exact no (λz=>z.elim n1 λz=>h3 (decide_eq_true z.1))
   rintro σ1 G' ⟨rfl,rfl⟩
   refine⟨_,rfl,_,rfl,_,rfl,by show 2<=sizeLine;decide,λb hb=>?_⟩
   have hne:d≠b:=λz=>by rw[<-z,hGd]at hb;cases hb
   have eS:stl lo hi u=(u.1,(stl lo hi u).2):=by rw[<-qH lo hi u]
   refine⟨d,_,rfl,J4.t (k:=kk (stl lo hi u)) (by rw[zB hne];exact hGd) (by rw[zg,eS];rfl) ?_,?_⟩
   ·have e1:kvs.length=ks.length:=by have:=congrArg List.length ek;simpa using this
    exact xy (by omega)
   ·refine⟨_,if stl lo hi u∈ks then ks else ks++[stl lo hi u],_,_,rfl,?_,zg,zar ek,?_,λv=>?_,?_⟩
    ·intro c o e
     rw[zB (λz=>by rw[z,hd]at e;cases e)]
     exact zi.upd hb _ _ (S c o e)
    ·split
     ·exact nd
     ·rename_i hnm
      exact List.nodup_append.mpr ⟨nd,by simp,λa ma b' mb=>by simp at mb;subst mb;intro z;exact hnm (z ▸ ma)⟩
    ·rw[Qu eu,List.map_append,List.mem_append,<-mem v]
     split
     ·rename_i hm
      constructor
      ·exact .inl
      ·rintro (z | z)
       ·exact z
       ·simp at z;rw[z];exact hm
     ·rw[List.mem_append];rfl
    ·split
     ·omega
     ·rw[List.length_append];simp;omega
  ·rintro σ G ⟨kvs,ks,z4,z5,rfl,S,hGd,ek,nd,mem,len⟩
   have e:ps.take us.length=ps:=List.take_of_length_le (by rw[hP.1];exact Nat.le_refl _)
   rw[e]at mem
   exact hnx _ _ ⟨kvs,ks,z4,z5,rfl,S,hGd,ek,nd,mem,by have:=hP.1;omega⟩
 rintro σ1 G ⟨kvs,ks,z4,z5,rfl,S,hGd,ek,nd,mem,len⟩
 refine⟨_,rfl,d,kvs,rfl,hGd,λv hv=>?_⟩
 have hdv:d≠v:=λz=>by rw[<-z,hGd]at hv;cases hv
 have SV:zi G (upd G v (KV2 v d)):=zi.upd hv
 refine⟨v,d,kvs,ks.map prL,rfl,zg,SV _ _ hGd,?_,?_,by rw[List.length_map];omega,λD xs ys hD ht hs=>?_⟩
 ·rw[ek,List.map_map];rfl
 ·intro j mj
  obtain⟨u,_,rfl⟩:=List.mem_map.mp mj
  simp[prL]
 ·obtain⟨js',ht',hp',hw'⟩:=hs.tups ht
  obtain⟨js,rfl,hjp⟩:=unpr hp'
  have S2:zi H (upd (upd G v (KV2 v d)) D (.lst ys)):=S.trans (SV.trans (zi.upd hD))
  refine k D ys js _ S2 ((S.trans SV).free hD) zg ⟨by have:=ht'.len;simpa using this,λi v' e=>?_⟩ ?_ (by rw[hjp.length_eq];omega) (λu=>by rw[hjp.mem_iff];exact mem u) (hjp.nodup_iff.mpr nd) (List.pairwise_map.mp hw')
  ·obtain⟨q,kq,rfl,ekq,hq⟩:=zbh ht' e
   rw[List.getElem?_map]at ekq
   cases hu':js[i]? with
   | none=>rw[hu']at ekq;cases ekq
   | some u=>rw[hu']at ekq;cases ekq;exact⟨u,q,rfl,rfl,zi.upd hD _ _ hq⟩
  ·rw[hjp.length_eq]
   cases ks with
   | nil =>
    obtain⟨u,pu⟩:∃u,u∈ps:=by
     cases ps with
     | nil=>simp at p1
     | cons a _=>exact⟨a,.head _⟩
    have:=(mem (stl lo hi u)).mpr (List.mem_map.mpr ⟨u,pu,rfl⟩)
    simp at this
   | cons _ _=>simp
end
end KK
end
section
set_option maxHeartbeats 8000000
set_option Elab.async false
set_option linter.all false
set_option maxRecDepth 100000
namespace L2
open PySem
section
variable {X:Cx}
theorem ZF {r:R2}{a b:Expr}{ta tb:TE}{pos:Pos}(hr:IxR X r) (ha:Bx (PE X a ta)) (hb:Bx (PE X b tb)) (hs:VQ b):Bx (PE X (.Subscript a b pos) (tOp r ta tb)):=by
 obtain⟨ha⟩:=ha;obtain⟨hb⟩:=hb;exact⟨zE hr ha hb hs⟩
theorem ji {p:Prop}(h:Bx p):p:=by obtain⟨h⟩:=h;exact h
end
end L2
namespace KK
open PySem L2 KM
structure WoZ (un be:Int) (lo hi:Option Int) (js:List (Int×Int)) (wt:Int):Prop where
 un:1<=un/\un<=12
 be:1<=be/\be<=12
 l1:1<=js.length
 l8:js.length<=8
 wt:1<=wt/\wt<=1000
 bd:∀u∈js,Bd 72 u.1/\Bd 70 u.2
 bl:∀l,lo=some l->Bd 72 l
 bh:∀l,hi=some l->Bd 72 l
 lh:∀l h,lo=some l->hi=some h->l<h
 il:∀u∈js,∀l,lo=some l->l<=u.1/\(u.1=l->0<=u.2)
 ih:∀u∈js,∀h,hi=some h->u.1<=h/\(u.1=h->u.2<=0)
 nd:js.Nodup
 so:js.Pairwise λu v=>xM (prL v) (prL u)=false
theorem zc6 {d:Int}(h0:0<=d) (h1:d<6):∃v:Int,atI [V.int 1,.int 1,.int 2,.int 3,.int 4,.int 6] d=some (.int v)/\1<=v/\v<=12:=by
 have:d=0\/d=1\/d=2\/d=3\/d=4\/d=5:=by omega
 rcases this with rfl | rfl | rfl | rfl | rfl | rfl
 all_goals exact⟨_,rfl,by decide,by decide⟩
theorem zc7 {d:Int}(h0:0<=d) (h1:d<6):∃v:Int,atI [V.int 1,.int 1,.int 2,.int 3,.int 5,.int 12] d=some (.int v)/\1<=v/\v<=12:=by
 have:d=0\/d=1\/d=2\/d=3\/d=4\/d=5:=by omega
 rcases this with rfl | rfl | rfl | rfl | rfl | rfl
 all_goals exact⟨_,rfl,by decide,by decide⟩
theorem zc8 {d:Int}(h0:0<=d) (h1:d<8):∃v:Nat,atI [V.int 1,.int 2,.int 2,.int 3,.int 3,.int 4,.int 5,.int 8] d=some (.int (v:Int))/\1<=v/\v<=8:=by
 have:d=0\/d=1\/d=2\/d=3\/d=4\/d=5\/d=6\/d=7:=by omega
 rcases this with rfl | rfl | rfl | rfl | rfl | rfl | rfl | rfl
 ·exact⟨1,rfl,by decide,by decide⟩
 ·exact⟨2,rfl,by decide,by decide⟩
 ·exact⟨2,rfl,by decide,by decide⟩
 ·exact⟨3,rfl,by decide,by decide⟩
 ·exact⟨3,rfl,by decide,by decide⟩
 ·exact⟨4,rfl,by decide,by decide⟩
 ·exact⟨5,rfl,by decide,by decide⟩
 ·exact⟨8,rfl,by decide,by decide⟩
theorem zc9 {d:Int}(h0:0<=d) (h1:d<8):∃v:Int,atI [V.int 1,.int 2,.int 3,.int 6,.int 12,.int 24,.int 30,.int 60] d=some (.int v)/\1<=v/\v<=60:=by
 have:d=0\/d=1\/d=2\/d=3\/d=4\/d=5\/d=6\/d=7:=by omega
 rcases this with rfl | rfl | rfl | rfl | rfl | rfl | rfl | rfl
 all_goals exact⟨_,rfl,by decide,by decide⟩
theorem Qs {lo hi:Option Int}(hlh:∀l h,lo=some l->hi=some h->l<h) (u:Int×Int):(∀l,lo=some l->u.1=l->0<=(stl lo hi u).2)/\(∀h,hi=some h->u.1=h->(stl lo hi u).2<=0):=by
 constructor
 ·intro l el e
  subst el
  unfold stl
  split
  ·rename_i h
   rcases h with h | h
   ·show 0<=0 - u.2;omega
   ·cases hi with
    | none=>cases h.1
    | some q =>
     have e2:u.1=q:=by have:=h.1;injection this
     have:=hlh _ _ rfl rfl;omega
  ·rename_i h
   have:¬u.2<0:=λz=>h (.inl ⟨by rw[e];rfl,z⟩)
   omega
 ·intro q eq e
  subst eq
  unfold stl
  split
  ·rename_i h
   rcases h with h | h
   ·cases lo with
    | none=>cases h.1
    | some l =>
     have e2:u.1=l:=by have:=h.1;injection this
     have:=hlh _ _ rfl rfl;omega
   ·show 0 - u.2<=0;omega
  ·rename_i h
   have:¬ 0<u.2:=λz=>h (.inr ⟨by rw[e];rfl,z⟩)
   omega
theorem zbe {lo hi:Option Int}{u:Int×Int}{n:Nat}(h:Bd n u.2):Bd n (stl lo hi u).2:=by
 unfold stl
 split
 ·show Bd n (0 - u.2);rw[Int.zero_sub];exact h.neg
 ·exact h
end KK
end
section
set_option maxHeartbeats 8000000
set_option Elab.async false
set_option linter.all false
set_option maxRecDepth 100000
namespace KK
open PySem L2 KM
section
variable {P:Program}{w:World}{K:PySem.W.Frag}{mg:Str->Option Value}{base:Heap}{aN:Addr}
def ze3:Sp:=λvs H Q _=>∃(p:Addr) (kd:Int),vs=[.ref p,.int kd]/\vn H p/\∀(t D:Addr) (un be:Int) (lo hi:Option Int) (ys:List V) (js:List (Int×Int)) (wt:Int) (H':Hp),zS p H H'->H' t=some (.tup [.int un,.int be,lv lo,lv hi,.ref D,.int wt])->H D=none->D≠p->H' D=some (.lst ys)->vz H' ys js->WoZ un be lo hi js wt->(kd % 2≠0->lo≠none)->(2<=kd->hi≠none)->Q (.ref t) H'
theorem qg:zx ["pool","kind","under","below","many","great","low","far","speeds","balls","high","at","spots"] ["pool","kind"] (zh qw):=⟨rfl,rfl,rfl,by decide +kernel,rfl,by decide +kernel,by decide +kernel⟩
theorem zeD (D:Df K mg "_law_world" qw ["pool","kind"] []) (T:TxB K mg) (cN:Cal P w K mg base "_law_next" 1 ["pool","base"] [] jb) (cWi:Cal P w K mg base "_law_wide" 2 ["pool","base"] [] VH) (cSd:Cal P w K mg base "_law_speeds_drawn" 3 ["pool","many","great"] [] ze0) (cTh:Cal P w K mg base "_law_through" 2 ["pool","many"] [] zcA) (cSe:Cal P w K mg base "_law_settled" 1 ["balls","low","high"] [] zbb) :
  Cal P w K mg base "_law_world" 4 ["pool","kind"] [] ze3:=by
 refine D.calB (k:=3) qg (λvs H Q E h=>by obtain⟨_,_,rfl,_⟩:=h;rfl) (λf cdv A outer s H vs Q E hr3 h=>?_)
 obtain⟨p,kd,rfl,hP,k⟩:=h
 have hr1:xj 1 _:=hr3.mono (by decide)
 have hr2:xj 2 _:=hr3.mono (by decide)
 refine⟨_,(z9 (Bx.mk (vM (i:=2) (j:=3) rfl qg.nd rfl rfl (by decide) rfl rfl (za (ji (ZF xk (jg (zC (Bx.mk zd) (zC (Bx.mk zd) (zC (Bx.mk zd) (zC (Bx.mk zd) (zC (Bx.mk zd) (zC (Bx.mk zd) jh))))))) (Bx.mk (zv cN hr1 (za (pv 0) (za zd ze)))) (λ_ _=>rfl))) (za (ji (ZF xk (jg (zC (Bx.mk zd) (zC (Bx.mk zd) (zC (Bx.mk zd) (zC (Bx.mk zd) (zC (Bx.mk zd) (zC (Bx.mk zd) jh))))))) (Bx.mk (zv cN hr1 (za (pv 0) (za zd ze)))) (λ_ _=>rfl))) ze)) (by rfl)))
  (z9 (Bx.mk (ji (Ve (i:=4) qg.nd rfl (Or.inl rfl) (ZF xk (jg (zC (Bx.mk zd) (zC (Bx.mk zd) (zC (Bx.mk zd) (zC (Bx.mk zd) (zC (Bx.mk zd) (zC (Bx.mk zd) (zC (Bx.mk zd) (zC (Bx.mk zd) jh))))))))) (Bx.mk (zv cN hr1 (za (pv 0) (za zd ze)))) (λ_ _=>rfl)))))
  (z9 (Bx.mk (zA (i:=5) qg.nd rfl (Or.inl rfl) (qF x5 (zv cN hr1 (za (pv 0) (za zd ze))) zd (zy _))))
  (z9 (Bx.mk (zA (i:=6) qg.nd rfl (Or.inr rfl) (zl xr (zv cN hr1 (za (pv 0) (za zd ze))) zd)))
  (z9 (Bx.mk (ji (Ve (i:=7) qg.nd rfl (Or.inr rfl) (ZF xk (jg (zC (Bx.mk zd) (zC (Bx.mk zd) (zC (Bx.mk zd) (zC (Bx.mk zd) (zC (Bx.mk zd) (zC (Bx.mk zd) (zC (Bx.mk zd) (zC (Bx.mk zd) jh))))))))) (Bx.mk (zv cN hr1 (za (pv 0) (za zd ze)))) (λ_ _=>rfl)))))
  (z9 (Bx.mk (zV (xL (pv 5) λ_=>rfl) (zj (qi (zN (za (zv cWi hr2 (za (pv 0) (za (zl v8 zd zd) ze))) (za (zl zR zd (zv cWi hr2 (za (pv 0) (za (zl v8 zd zd) ze)))) ze))) (xP rfl (zm (zk (i:=6) qg.nd rfl (Or.inr rfl)) (zm (zk (i:=7) qg.nd rfl (Or.inr rfl)) zO))))) zF))
  (z9 (Bx.mk (zA (i:=8) qg.nd rfl (Or.inl rfl) (zv cSd hr3 (za (pv 0) (za (pv 4) (za (pv 5) ze))))))
  (z9 (Bx.mk (vG (i:=9) (NB:=["speed"]) (FR:=["low","pool","far"]) (js:=[6,0,7]) rfl rfl (λx c h=>jP rfl rfl rfl x c h) (.cons rfl rfl rfl ⟨_,rfl⟩ (.cons rfl rfl rfl ⟨_,rfl⟩ (.cons rfl rfl rfl ⟨_,rfl⟩ .nil))) rfl (by decide +kernel) rfl (by decide +kernel) qg.nd rfl rfl (by rfl) (zP (pv 8)) (by intro _ _ _;refine⟨?_,?_,?_⟩;(exact(zk (i:=0) (show List.Nodup (["speed","low","pool","far"]:List Str) by decide +kernel) rfl (Or.inl rfl)));(exact zL);(exact(zN (za (zl zR (pv 1) (zv cWi hr2 (za (pv 2) (za (zl zR (pv 3) zd) ze)))) (za (pv 0) ze)))))))
  (z9 (Bx.mk (zA (i:=10) qg.nd rfl (Or.inl rfl) (zl zR (pv 6) (pv 7))))
  (z9 (Bx.mk (zV (zu x5 (zv cN hr1 (za (pv 0) (za zd ze))) zd (zy _)) (zf (qi (zN (za zd (za zd ze))) (xP rfl (zm (zk (i:=2) qg.nd rfl (Or.inl rfl)) (zm (zk (i:=3) qg.nd rfl (Or.inl rfl)) zO))))
  (zf (qi (zv cTh hr2 (za (pv 0) (za (pv 4) ze))) (xP rfl (zm (zk (i:=11) qg.nd rfl (Or.inl rfl)) (zm (zk (i:=9) qg.nd rfl (Or.inl rfl)) zO))))
  (zf (zA (i:=12) qg.nd rfl (Or.inl rfl) (zl Jc (qo (NB:=["place","speed"]) rfl (by decide +kernel) (by decide +kernel) rfl (by decide +kernel) (zP (pv 9)) (by intro _ _ _;refine⟨?_,?_,?_⟩;(exact(q8 (K:=K) (n:=2) rfl rfl (zm (zk (i:=0) (show List.Nodup (["place","speed"]:List Str) by decide +kernel) rfl (Or.inl rfl)) (zm (zk (i:=1) (show List.Nodup (["place","speed"]:List Str) by decide +kernel) rfl (Or.inl rfl)) zO))));(exact zL);(exact(pv 0)))) (qp (za (pv 11) ze))))
  (zf (qi (zN (za (zl xr (zw (Jx rfl) (by rfl) T.nMin PyProof.Rows.boot_min (za (pv 12) ze)) (zv cN hr1 (za (pv 0) (za zd ze)))) (za (zl zR (zw (Zk rfl) (by rfl) T.nMax PyProof.Rows.boot_max (za (pv 12) ze)) (zv cN hr1 (za (pv 0) (za zd ze)))) ze))) (xP rfl (zm (zk (i:=6) qg.nd rfl (Or.inr rfl)) (zm (zk (i:=10) qg.nd rfl (Or.inl rfl)) zO))))
  (zf (zV ((Xi (zu x5 (zv cN hr1 (za (pv 0) (za zd ze))) zd (zy _)) (jZ (zu x5 (pv 11) (zw (Zk rfl) (by rfl) T.nMax PyProof.Rows.boot_max (za (pv 12) ze)) (zy _))))).pt (zj (zA (i:=10) qg.nd rfl (Or.inl rfl) (pv 11))) zF)
  (zj (zA (i:=10) qg.nd rfl (Or.inl rfl) (zw (jv rfl) (by rfl) T.nMax PyProof.Rows.boot_max (za (pv 10) (za (zl zR (pv 6) zd) ze)))))))))) zF))
  (z9 (Bx.mk (zV (zu x5 (zl qC (pv 1) zd) zd (zy _)) (zj (zA (i:=6) qg.nd rfl (Or.inr rfl) qh)) zF))
  (z9 (Bx.mk (zV (zu jW (pv 1) zd (zy _)) (zj (zA (i:=10) qg.nd rfl (Or.inl rfl) qh)) zF))
  (Bx.mk (zj (zD (zN (za (pv 2) (za (pv 3) (za (pv 6) (za (pv 10) (za (zv cSe hr1 (za (pv 9) (za (pv 6) (za (pv 10) ze)))) (za (zl zR zd (zv cN hr1 (za (pv 0) (za (ji (ZF xk (jg (zC (Bx.mk zd) (zC (Bx.mk zd) jh))) (Bx.mk (zv cN hr1 (za (pv 0) (za zd ze)))) (λ_ _=>rfl))) ze)))) ze)))))))))))))))))))))),?_⟩
 refine⟨by show 6<=sizeLine;decide,λl1 hl1=>⟨_,rfl,p,_,rfl,by decide,by decide,hP.new hl1,λd1 G1 a1 b1 t1=>?_⟩⟩
 obtain⟨un,eun,un1,un2⟩:=zc6 a1 b1
 refine⟨l1,_,_,_,rfl,rfl,.of (t1.keep l1 _ zg (hP.ne hl1)),eun,?_⟩
 have T1:zS p H G1:=t1.pre (zi.upd hl1)
 refine⟨by show 6<=sizeLine;decide,λl2 hl2=>⟨_,rfl,p,_,rfl,by decide,by decide,T1.pool.new hl2,λd2 G2 a2 b2 t2=>?_⟩⟩
 obtain⟨be,ebe,be1,be2⟩:=zc7 a2 b2
 refine⟨l2,_,_,_,rfl,rfl,.of (t2.keep l2 _ zg (T1.pool.ne hl2)),ebe,_,_,rfl,?_⟩
 have T2:zS p H G2:=T1.trans (t2.pre (zi.upd hl2))
 dsimp only
 refine⟨by show 8<=sizeLine;decide,λl3 hl3=>⟨_,rfl,p,_,rfl,by decide,by decide,T2.pool.new hl3,λd3 G3 a3 b3 t3=>?_⟩⟩
 obtain⟨n,en,n1,n8⟩:=zc8 a3 b3
 refine⟨l3,_,_,_,rfl,rfl,.of (t3.keep l3 _ zg (T2.pool.ne hl3)),en,?_⟩
 have T3:zS p H G3:=T2.trans (t3.pre (zi.upd hl3))
 dsimp only[zn]
 refine⟨_,rfl,p,_,rfl,by decide,by decide,T3.pool,λd4 G4 a4 b4 t4=>⟨rfl,?_⟩⟩
 have T4:=T3.trans t4
 dsimp only[zn]
 generalize decide (V.int d4=V.int 0)=g
 refine⟨_,rfl,p,_,rfl,by decide,by decide,T4.pool,λd5 G5 a5 b5 t5=>⟨_,_,rfl,rfl,?_⟩⟩
 have T5:=T4.trans t5
 dsimp only[zn]
 refine⟨by show 8<=sizeLine;decide,λl6 hl6=>⟨_,rfl,p,_,rfl,by decide,by decide,T5.pool.new hl6,λd6 G6 a6 b6 t6=>?_⟩⟩
 obtain⟨fr0,efr,fr1,fr2⟩:=zc9 a6 b6
 refine⟨l6,_,_,_,rfl,rfl,.of (t6.keep l6 _ zg (T5.pool.ne hl6)),efr,?_⟩
 have T6:zS p H G6:=T5.trans (t6.pre (zi.upd hl6))
 dsimp only[zn]
 clear t1 t2 t3 t4 t5 t6 hl1 hl2 hl3 hl6 eun ebe en efr
 refine zU (λσ' G=>∃lw fr:Int,σ'=[some (.ref p),some (.int kd),some (.int un),some (.int be),some (.int n),some (.bl g),some (.int lw),some (.int fr),none,none,none,none,none]/\zS p H G ∧ -20<=lw/\lw<=100000000000000000000/\1<=fr/\fr<=100000000000000000000) ?_ ?_
 rotate_left
 ·intro nx hnx
  refine⟨_,rfl,g,rfl,?_⟩
  cases g with
  | false=>exact xZ (hnx _ _ ⟨_,_,rfl,T6,by omega,by omega,by omega,by omega⟩)
  | true =>
   have e20:((10:Int)^(20:Int).toNat)=100000000000000000000:=by decide
   refine xY ⟨_,rfl,_,_,rfl,rfl,⟨by decide,by decide,by decide⟩,p,_,rfl,by rw[e20];decide,T6.pool,λe1 F1 c1 c2 s1=>?_⟩
   refine⟨_,rfl,_,_,rfl,rfl,⟨by decide,by decide,by decide⟩,p,_,rfl,by rw[e20];decide,s1.pool,λe2 F2 c3 c4 s2=>⟨_,_,rfl,rfl,by show 2<=sizeLine;decide,λtt htt=>?_⟩⟩
   refine⟨tt,_,rfl,.of zg,rfl,_,_,rfl,_,_,rfl,rfl,hnx _ _ ⟨_,_,rfl,((T6.trans s1).trans s2).same (zi.upd htt),by omega,?_,by omega,?_⟩⟩
   ·rw[e20]at c2;omega
   ·rw[e20]at c4;omega
 rintro σ1 G7 ⟨lw,fr,rfl,T7,lw1,lw2,fr1',fr2'⟩
 clear T6 T5 T4 T3 T2 T1 fr1 fr2
 refine⟨_,rfl,_,rfl,_,rfl,p,n,g,rfl,n8,T7.pool,λLs ws G8 t8 hLs hGs hwl hwv=>?_⟩
 dsimp only[zn]
 have T8:=T7.trans t8
 have hLp:Ls≠p:=λz=>by rw[z]at hLs;obtain⟨_,_,_,e⟩:=T7.pool;rw[e]at hLs;cases hLs
 refine⟨_,rfl,Ls,rfl,⟨_,SqL.of hGs⟩,λDc hDc=>?_⟩
 have hDp:Dc≠p:=T8.pool.ne hDc
 have hDL:Ls≠Dc:=λz=>by rw[<-z,hGs]at hDc;cases hDc
 refine Zm (js:=[6,0,7]) (J:=Itl K Ls) (g:=zn 0) (tt:=λ_ H Q=>Q true H) (te:=_) (N:=ws.length) (n:=1) (λi G ys=>zS p G8 G/\∃ps:List (Int×Int),vz G ys ps/\ps.length=i/\∀u∈ps,lw<=u.1/\u.1<=lw+fr/\Bd 68 u.2)
  ⟨⟨T8.pool.new hDc,λb o e _=>zi.upd hDc _ _ e⟩,[],⟨rfl,λi v e=>by simp at e⟩,rfl,λv hv=>by cases hv⟩ (λi G ys hi z=>⟨_,(ws.map V.int)[i]'(by rw[List.length_map];exact hi),SqL.of (z.1.keep _ _ hGs hLp),List.getElem?_eq_getElem _⟩) (λG ys z=>⟨_,SqL.of (z.1.keep _ _ hGs hLp),by rw[List.length_map];exact Nat.le_refl _⟩) ?_ ?_
 ·rintro i x zs G_ G ys Nx hN hi hz1 ⟨rfl,fx⟩ ⟨tG,ps,hPs,hpl,hpv⟩ hGD
  obtain⟨y1,rfl⟩:=v7 hz1
  have ex:=fx _ (SqL.of (tG.keep _ _ hGs hLp))
  rw[List.getElem?_map,List.getElem?_eq_getElem hi]at ex
  cases ex
  refine⟨rfl,xY ?_⟩
  refine⟨_,rfl,_,rfl,_,rfl,_,_,rfl,rfl,p,_,rfl,by omega,tG.pool,λe1 F1 c1 c2 s1=>⟨_,_,rfl,rfl,_,rfl,by show 2<=sizeLine;decide,λq hq=>?_⟩⟩
  have s1':=s1.same (zi.upd (o:=.tup [.int (lw+e1),.int ws[i]]) hq)
  have h3:=s1'.keep _ _ hGD hDp
  refine⟨h3,xy (by have:=hPs.1;omega),hN _ _ ⟨(tG.trans s1').put hDc hDp _,ps++[(lw+e1,ws[i])],?_,by simp[hpl],λu mu=>?_⟩⟩
  ·have tu:xo G (upd (upd F1 q (.tup [.int (lw+e1),.int ws[i]])) Dc (.lst (ys++[.ref q]))):=λb xs e=>by
    rw[zB (λz=>by rw[z,hGD]at e;cases e)]
    exact xn tG.pool s1' b xs e
   refine⟨by rw[List.length_append,List.length_append,hPs.1];rfl,λm v e=>?_⟩
   rw[List.getElem?_append]at e
   split at e
   ·rename_i hm
    obtain⟨u,a,e1',e2',e3'⟩:=(hPs.tups tu).2 m v e
    exact⟨u,a,by rw[List.getElem?_append,if_pos (by rw[<-hPs.1];exact hm)];exact e1',e2',e3'⟩
   ·rename_i hm
    have hm0:m - ys.length=0:=by
     rcases Nat.eq_zero_or_pos (m - ys.length)with h | h
     ·exact h
     ·rw[List.getElem?_eq_none (by simp;omega)]at e;cases e
    rw[hm0]at e;cases e
    refine⟨(lw+e1,ws[i]),q,?_,rfl,?_⟩
    ·rw[List.getElem?_append,if_neg (by rw[<-hPs.1];omega),<-hPs.1,hm0];rfl
    ·rw[zB (λz=>by rw[<-z]at h3;rw[zg]at h3;cases h3),zg]
  ·rcases List.mem_append.mp mu with z | z
   ·exact hpv u z
   ·have:u=(lw+e1,ws[i]):=by simpa using z
    subst this
    exact⟨by show lw<=lw+e1;omega,by show lw+e1<=lw+fr;omega,hwv _ (List.getElem_mem hi)⟩
 rintro G9 us ⟨t9,ps,hPs,hpl,hpv⟩ hG9
 dsimp only[zn]
 have T9:=T8.trans t9
 have hDH:H Dc=none:=T8.free hDc
 refine⟨_,rfl,_,rfl,_,_,rfl,rfl,?_⟩
 dsimp only[zn]
 refine zU (λσ' G=>∃(un be:Int) (lw hg:Int) (Db:Addr) (us:List V) (ps:List (Int×Int)) (z7 z8 z11 z12:Option V),σ'=[some (.ref p),some (.int kd),some (.int un),some (.int be),some (.int n),some (.bl g),some (.int lw),z7,z8,some (.ref Db),some (.int hg),z11,z12]/\zS p H G/\(1<=un/\un<=12)/\(1<=be/\be<=12) ∧ -100<=lw/\lw<hg/\hg<=300000000000000000000/\H Db=none/\Db≠p/\G Db=some (.lst us)/\vz G us ps/\ps.length=n/\∀u∈ps,lw<=u.1/\u.1<=hg/\Bd 68 u.2) ?_ ?_
 rotate_left
 ·intro nx hnx
  refine⟨_,rfl,p,_,rfl,by decide,by decide,T9.pool,λd10 G10 a10 b10 t10=>⟨rfl,_,rfl,xO (λ_=>?_) (λ_=>hnx _ _ ⟨un,be,lw,lw+fr,Dc,us,ps,_,_,_,_,rfl,T9.trans t10,⟨un1,un2⟩,⟨be1,be2⟩,by omega,by omega,by omega,hDH,hDp,t10.keep _ _ hG9 hDp,hPs.tups (xn T9.pool t10),by omega,hpv⟩)⟩⟩
  have T10:=T9.trans t10
  refine⟨by show 2<=sizeLine;decide,λtt htt=>⟨tt,_,rfl,.of zg,rfl,_,_,rfl,_,_,rfl,rfl,?_⟩⟩
  dsimp only[zn]
  have T11:=T10.same (zi.upd (o:=.tup [.int 1,.int 1]) htt)
  generalize upd G10 tt (.tup [.int 1,.int 1])=G11 at T11
  refine⟨_,rfl,_,rfl,p,n,rfl,n1,n8,T11.pool,λt lb us2 at' ps2 G12 t12 hG12 hlb hGlb hPs2 hpl2 at1 at2 hpv2=>?_⟩
  refine⟨t,_,rfl,.of hG12,rfl,_,_,rfl,_,_,rfl,rfl,?_⟩
  dsimp only[zn]
  have T12:=T11.trans t12
  have hlbp:lb≠p:=λz=>by rw[z]at hlb;obtain⟨_,_,_,e⟩:=T11.pool;rw[e]at hlb;cases hlb
  refine⟨_,rfl,lb,rfl,⟨_,SqL.of hGlb⟩,λD3 hD3=>?_⟩
  refine qt (J:=Itl K lb) (g:=ZJ K 2 (qk (zn 0) (qk (zn 1) Z7))) (te:=xN 0) (n:=2) (xs:=us2) (λi v G=>∃u,ps2[i]? = some u/\v = .int u.1) (λi v G G' e h=>h) hD3 (zT hGlb) (xy (by have:=hPs2.1;omega)) ?_ ?_
  ·intro i y zs G5 Q' hy hz S5 hQ
   obtain⟨u,a,eu,rfl,ha⟩:=hPs2.2 i y hy
   obtain⟨w1,w2,rfl⟩:=jU hz
   refine⟨a,_,rfl,.of (S5 _ _ ha),rfl,_,_,rfl,_,_,rfl,rfl,?_⟩
   exact⟨_,rfl,hQ _ _ (zi.refl _) ⟨u,eu,rfl⟩⟩
  intro ys3 G13 S13 hG13 hyl3 hR3
  have ey:ys3=(ps2.map Prod.fst).map V.int:=by
   rw[List.map_map]
   exact Vj (f:=V.int ∘ Prod.fst) (by have:=hPs2.1;omega) λi v e=>by
    obtain⟨u,e1,e2⟩:=hR3 i v e;exact⟨u,e1,e2⟩
  refine⟨_,rfl,by show 1<=sizeLine;decide,λl4 hl4=>?_⟩
  have S14:zi G13 (upd G13 l4 (.lst [.int at'])):=zi.upd hl4
  have hl4':upd G13 l4 (.lst [.int at']) l4=some (.lst [.int at']):=zg
  generalize upd G13 l4 (.lst [.int at'])=G14 at S14 hl4'
  refine⟨D3,l4,_,_,rfl,rfl,SqL.of (S14 _ _ hG13),SqL.of hl4',szl (by rw[ey];simp;omega),λSp hSp=>?_⟩
  have S15:zi G14 (upd G14 Sp (.lst (ys3++[.int at']))):=zi.upd hSp
  have hS15:upd G14 Sp (.lst (ys3++[.int at'])) Sp=some (.lst ((ps2.map Prod.fst++[at']).map V.int)):=by rw[zg,ey];simp
  have hSpn:Sp≠p:=(T12.same (S13.trans S14)).pool.ne hSp
  generalize upd G14 Sp (.lst (ys3++[.int at']))=G15 at S15 hS15
  dsimp only[zn]
  have S1215:=S13.trans (S14.trans S15)
  have T15:=T12.same S1215
  have hns:0<(ps2.map Prod.fst++[at']).length:=by simp
  refine⟨_,rfl,Sp,_,rfl,SqL.of hS15,hns,λM mM leM=>?_⟩
  refine⟨_,rfl,p,_,rfl,by decide,by decide,T15.pool,λe1 F1 c1 c2 s1=>⟨_,_,rfl,rfl,?_⟩⟩
  have T16:=T15.trans s1
  have hSp1:=s1.keep _ _ hS15 hSpn
  refine⟨_,rfl,Sp,_,rfl,SqL.of hSp1,hns,λMx mMx leMx=>?_⟩
  refine⟨_,rfl,p,_,rfl,by decide,by decide,T16.pool,λe2 F2 c3 c4 s2=>⟨_,_,rfl,rfl,by show 2<=sizeLine;decide,λtt2 htt2=>⟨tt2,_,rfl,.of zg,rfl,_,_,rfl,_,_,rfl,rfl,?_⟩⟩⟩
  dsimp only[zn]
  have ss:=s1.trans (s2.same (zi.upd (o:=.tup [.int (M - e1),.int (Mx+e2)]) htt2))
  generalize upd F2 tt2 (.tup [.int (M - e1),.int (Mx+e2)])=G17 at ss
  have T17:=T15.trans ss
  have hSp17:=ss.keep _ _ hS15 hSpn
  have tu17:xo G12 G17:=λb xs e=>xn T15.pool ss b xs (S1215 _ _ e)
  have hG17:=ss.keep _ _ (S1215 _ _ hGlb) hlbp
  have hin:∀u∈ps2,M<=u.1/\u.1<=Mx:=λu m=>⟨leM _ (List.mem_append_left _ (List.mem_map.mpr ⟨u,m,rfl⟩)),leMx _ (List.mem_append_left _ (List.mem_map.mpr ⟨u,m,rfl⟩))⟩
  have hM : -40<=M/\M<=40:=by
   rcases List.mem_append.mp mM with m | m
   ·obtain⟨u,mu,rfl⟩:=List.mem_map.mp m;have:=hpv2 u mu;omega
   ·have:M=at':=by simpa using m
    omega
  have hMx : -40<=Mx/\Mx<=40:=by
   rcases List.mem_append.mp mMx with m | m
   ·obtain⟨u,mu,rfl⟩:=List.mem_map.mp m;have:=hpv2 u mu;omega
   ·have:Mx=at':=by simpa using m
    omega
  have hMM:M<=Mx:=leM _ mMx
  refine zU (λσ' G=>∃hg:Int,σ'=[some (.ref p),some (.int kd),some (.int 1),some (.int 1),some (.int n),some (.bl g),some (.int (M - e1)),some (.int fr),some (.ref Ls),some (.ref lb),some (.int hg),some (.int at'),some (.ref Sp)]/\zS p G17 G/\Mx<=hg/\hg<=50) ?_ ?_
  rotate_left
  ·intro nx' hnx'
   refine⟨_,rfl,p,_,rfl,by decide,by decide,T17.pool,λe3 F3 c5 c6 s3=>⟨rfl,_,rfl,xO (λ_=>?_) (λ_=>xZ (hnx' _ _ ⟨_,rfl,s3,by omega,by omega⟩))⟩⟩
   refine⟨_,rfl,_,rfl,Sp,_,rfl,SqL.of (s3.keep _ _ hSp17 hSpn),hns,λMx2 mMx2 leMx2=>⟨rfl,_,rfl,xO (λh=>?_) (λ_=>hnx' _ _ ⟨_,rfl,s3,by omega,by omega⟩)⟩⟩
   have e:at'=Mx2:=by have:=of_decide_eq_true h;injection this
   have h1:=leMx2 _ mMx
   have h2:=leMx _ mMx2
   exact⟨_,rfl,hnx' _ _ ⟨_,rfl,s3,by omega,by omega⟩⟩
  rintro σ2 G18 ⟨hg,rfl,s18,hg1,hg2⟩
  refine⟨_,rfl,_,rfl,_,_,rfl,rfl,_,_,rfl,hnx _ _ ⟨1,1,M - e1,_,lb,us2,ps2,_,_,_,_,rfl,T17.trans s18,⟨by decide,by decide⟩,⟨by decide,by decide⟩,by omega,?_,?_,T11.free hlb,hlbp,s18.keep _ _ hG17 hlbp,hPs2.tups (λb xs e=>xn T17.pool s18 b xs (tu17 _ _ e)),hpl2,λu m=>?_⟩⟩
  ·split <;> omega
  ·split <;> omega
  ·have:=hin u m
   have h3:=hpv2 u m
   refine⟨by omega,by split <;> omega,Bd.mono (m:=10) (show u.2.natAbs<2^10 by omega) (by decide)⟩
 rintro σ1 G10 ⟨un,be,lw,hg,Db,us,ps,z7,z8,z11,z12,rfl,T10,hun,hbe,lw1,lwh,hg2,hDb,hDbp,hGb,hPs,hpl,hpv⟩
 refine zU (λσ' G=>G10=G/\∃lo:Option Int,(lo=none\/lo=some lw)/\(kd % 2≠0->lo≠none)/\σ'=[some (.ref p),some (.int kd),some (.int un),some (.int be),some (.int n),some (.bl g),some (lv lo),z7,z8,some (.ref Db),some (.int hg),z11,z12]) ?_ ?_
 rotate_left
 ·intro nx hnx
  exact⟨_,rfl,_,_,rfl,rfl,by show (0:Int)<2;decide,rfl,_,rfl,xO (λh=>hnx _ _ ⟨rfl,none,.inl rfl,λz=>absurd (by have:=of_decide_eq_true h;injection this) z,rfl⟩) (λ_=>hnx _ _ ⟨rfl,some lw,.inr rfl,λ_ z=>(by cases z),rfl⟩)⟩
 rintro σ1 G ⟨rfl,lo,hlo,klo,rfl⟩
 refine zU (λσ' G=>G10=G/\∃hi:Option Int,(hi=none\/hi=some hg)/\(2<=kd->hi≠none)/\σ'=[some (.ref p),some (.int kd),some (.int un),some (.int be),some (.int n),some (.bl g),some (lv lo),z7,z8,some (.ref Db),some (lv hi),z11,z12]) ?_ ?_
 rotate_left
 ·intro nx hnx
  exact⟨_,rfl,_,_,rfl,rfl,_,rfl,xO (λh=>hnx _ _ ⟨rfl,none,.inl rfl,λz=>absurd (of_decide_eq_true h:kd<2) (by omega),rfl⟩) (λ_=>hnx _ _ ⟨rfl,some hg,.inr rfl,λ_ z=>(by cases z),rfl⟩)⟩
 rintro σ1 G ⟨rfl,hi,hhi,khi,rfl⟩
 have elo:∀l,lo=some l->l=lw:=λl e=>by rcases hlo with h | h <;> rw[h]at e <;> cases e;rfl
 have ehi:∀l,hi=some l->l=hg:=λl e=>by rcases hhi with h | h <;> rw[h]at e <;> cases e;rfl
 have hlh:∀l h,lo=some l->hi=some h->l<h:=λl h e1 e2=>by rw[elo l e1,ehi h e2];exact lwh
 refine⟨_,rfl,_,rfl,_,rfl,_,rfl,_,rfl,_,rfl,_,rfl,Db,us,ps,lo,hi,rfl,hGb,hPs,by omega,by omega,λDn ys js G11 S11 hDn hGn hPj j1 j8 mem nd so=>?_⟩
 have hDnp:Dn≠p:=T10.pool.ne hDn
 have T11:=T10.same S11
 refine⟨_,rfl,by show 2<=sizeLine;decide,λl5 hl5=>⟨_,rfl,p,_,rfl,by decide,by decide,T11.pool.new hl5,λd12 G12 a12 b12 t12=>?_⟩⟩
 obtain⟨mx,emx,m0,m1⟩:∃mx:Int,atI [V.int 1,.int 1000] d12=some (.int mx)/\1<=mx/\mx<=1000:=by
  have:d12=0\/d12=1:=by omega
  rcases this with rfl | rfl
  ·exact⟨1,rfl,by decide,by decide⟩
  ·exact⟨1000,rfl,by decide,by decide⟩
 refine⟨l5,_,_,_,rfl,rfl,.of (t12.keep l5 _ zg (T11.pool.ne hl5)),emx,?_⟩
 have t12':zS p G11 G12:=t12.pre (zi.upd hl5)
 refine⟨p,mx,rfl,by omega,by omega,t12.pool,λwt G13 a13 b13 t13=>⟨_,_,rfl,rfl,by show 6<=sizeLine;decide,λt ht=>?_⟩⟩
 have ss:=(t12'.trans t13).same (zi.upd (o:=.tup [.int un,.int be,lv lo,lv hi,.ref Dn,.int (1+wt)]) ht)
 have fs:∀u∈js,∃u0∈ps,u=stl lo hi u0:=λu m=>by
  obtain⟨u0,m0,e⟩:=List.mem_map.mp ((mem u).mp m);exact⟨u0,m0,e.symm⟩
 have b72:∀i:Int,-100<=i->i<=300000000000000000000->Bd 72 i:=λi h1 h2=>show i.natAbs<2^72 by omega
 refine k t Dn un be lo hi ys js (1+wt) _ (T11.trans ss) zg (T10.free hDn) hDnp (ss.keep _ _ hGn hDnp) (hPj.tups (xn T11.pool ss)) ⟨hun,hbe,j1,j8,⟨by omega,by omega⟩,λu m=>?_,λl e=>?_,λl e=>?_,hlh,λu m l e=>?_,λu m l e=>?_,nd,so⟩ klo khi
 ·obtain⟨u0,m0',rfl⟩:=fs u m
  have:=hpv u0 m0'
  exact⟨by rw[qH];exact b72 _ (by omega) (by omega),(zbe this.2.2).mono (by decide)⟩
 ·rw[elo l e];exact b72 _ (by omega) (by omega)
 ·rw[ehi l e];exact b72 _ (by omega) (by omega)
 ·obtain⟨u0,m0',rfl⟩:=fs u m
  have:=hpv u0 m0'
  refine⟨by rw[qH,elo l e];omega,λz=>(Qs hlh u0).1 l e (by rw[qH]at z;exact z)⟩
 ·obtain⟨u0,m0',rfl⟩:=fs u m
  have:=hpv u0 m0'
  refine⟨by rw[qH,ehi l e];omega,λz=>(Qs hlh u0).2 l e (by rw[qH]at z;exact z)⟩
end
end KK
end
section
set_option maxHeartbeats 8000000
set_option Elab.async false
set_option linter.all false
set_option maxRecDepth 100000
namespace KK
open PySem L2 KM
theorem xc.tupsW {H H':Hp}{v:V}{l:Wl}(h:xc H v l) (e:xo H H'):xc H' v l:=by
 cases l with
 | none=>exact h
 | some z=>obtain⟨x,y⟩:=z;obtain⟨a,p,q,e1,e2,e3,e4⟩:=h;exact⟨a,p,q,e1,e _ _ e2,e _ _ e3,e _ _ e4⟩
def wlO (un:Int) (l:Option Int):Wl:=l.map λx=>(Rat.divInt x un,0)
def blO (un be wt:Int) (u:Int×Int):Bl:=⟨Rat.divInt u.1 un,Rat.divInt u.2 be,wt⟩
structure Zj (H:Hp) (t D:Addr) (un be:Int) (lo hi:Option Int) (js:List (Int×Int)) (wt:Int):Prop where
 tup:H t=some (.tup [.int un,.int be,lv lo,lv hi,.ref D,.int wt])
 lst:∃ys,H D=some (.lst ys)/\vz H ys js
section
variable {P:Program}{w:World}{K:PySem.W.Frag}{mg:Str->Option Value}{base:Heap}{aN:Addr}
def zcy:Sp:=λvs H Q _=>∃t D un be lo hi js wt,vs=[.ref t]/\Zj H t D un be lo hi js wt/\WoZ un be lo hi js wt/\∀r us H',zi H H'->H' r=some (.tup us)->ZY H' us (js.map (blO un be wt))->Q (.ref r) H'
theorem Xj:zx ["world","under","below","low","high","balls","weight"] ["world"] (zh vw):=⟨rfl,rfl,rfl,by decide +kernel,rfl,by decide +kernel,by decide +kernel⟩
theorem zdu (D:Df K mg "_law_row" vw ["world"] []) (T:TxB K mg) (cLo:Cal P w K mg base "_law_lowest" 1 ["top","bottom"] [] jJ):Cal P w K mg base "_law_row" 2 ["world"] [] zcy:=by
 refine D.cal (k:=1) Xj (λvs H Q E h=>by obtain⟨_,_,_,_,_,_,_,_,rfl,_⟩:=h;rfl) (λf cdv A outer s H vs Q E hr h=>?_)
 obtain⟨t,Dn,un,be,lo,hi,js,wt,rfl,wo,z,k⟩:=h
 obtain⟨ys,hys,hPj⟩:=wo.lst
 refine⟨_,(zf (qi (pv 0) (xP rfl (zm (zk (i:=1) Xj.nd rfl (Or.inr rfl)) (zm (zk (i:=2) Xj.nd rfl (Or.inr rfl)) (zm (zk (i:=3) Xj.nd rfl (Or.inl rfl)) (zm (zk (i:=4) Xj.nd rfl (Or.inl rfl)) (zm (zk (i:=5) Xj.nd rfl (Or.inl rfl)) (zm (zk (i:=6) Xj.nd rfl (Or.inr rfl)) zO))))))))
  (zj (zD (vp vI (by rfl) T.nTuple PyProof.Rows.boot_tuple (za (xK (NB:=["place","speed"]) (FR:=["under","below","weight"]) (js:=[1,2,6]) rfl rfl (λx c h=>jP rfl rfl rfl x c h) (.cons rfl rfl rfl ⟨_,rfl⟩ (.cons rfl rfl rfl ⟨_,rfl⟩ (.cons rfl rfl rfl ⟨_,rfl⟩ .nil))) rfl (by decide +kernel) rfl (by decide +kernel) (zP (pv 5)) (by intro _ _ _;refine⟨?_,?_,?_⟩;(exact(q8 (K:=K) (n:=2) rfl rfl (zm (zk (i:=0) (show List.Nodup (["place","speed","under","below","weight"]:List Str) by decide +kernel) rfl (Or.inl rfl)) (zm (zk (i:=1) (show List.Nodup (["place","speed","under","below","weight"]:List Str) by decide +kernel) rfl (Or.inl rfl)) zO))));(exact zL);(exact(zN (za (zv cLo hr (za (pv 0) (za (pv 2) ze))) (za (zv cLo hr (za (pv 1) (za (pv 3) ze))) (za (pv 4) ze))))))) ze))))),?_⟩
 refine⟨_,rfl,t,_,rfl,.of wo.tup,rfl,_,_,rfl,_,_,rfl,_,_,rfl,_,_,rfl,_,_,rfl,_,_,rfl,rfl,?_⟩
 dsimp only[zn]
 refine⟨_,rfl,Dn,rfl,⟨_,SqL.of hys⟩,λDc hDc=>?_⟩
 have l8:=z.l8
 have hyl:=hPj.1
 refine zW (js:=[1,2,6]) (J:=Itl K Dn) (g:=ZJ K 2 (qk (zn 0) (qk (zn 1) Z7))) (te:=_) (n:=2) (xs:=ys) (λi v G=>∃b,(js.map (blO un be wt))[i]? = some b/\J2 G v b) (λi v G G' e ⟨b,q1,q2⟩=>⟨b,q1,q2.keeps e⟩) hDc (zT hys) (zZ (by omega)) ?_ ?_
 ·intro i y zs G Q' hy hz S hQ
  obtain⟨u,a,eu,rfl,ha⟩:=hPj.2 i y hy
  obtain⟨w1,w2,rfl⟩:=jU hz
  have b12:∀x:Int,1<=x/\x<=12->Bd 8900 x:=λx h=>Bd.mono (m:=10) (show x.natAbs<2^10 by omega) (by decide)
  refine⟨a,_,rfl,.of (S _ _ ha),rfl,_,_,rfl,_,_,rfl,rfl,⟨rfl,?_⟩⟩
  refine⟨_,rfl,_,rfl,u.1,un,rfl,by have:=z.un;omega,b12 _ z.un,λp1 G1 s1 h1=>?_⟩
  refine⟨_,rfl,_,rfl,u.2,be,rfl,by have:=z.be;omega,b12 _ z.be,λp2 G2 s2 h2=>?_⟩
  refine⟨_,rfl,by show 3<=sizeLine;decide,λq hq=>hQ _ _ (s1.trans (s2.trans (zi.upd hq))) ⟨blO un be wt u,by rw[List.getElem?_map,eu];rfl,q,p1,p2,rfl,zg,zi.upd hq _ _ (s2 _ _ h1),zi.upd hq _ _ h2⟩⟩
 intro us G S hG hul hR
 refine⟨Dc,us,rfl,.inl ⟨.of hG,λr hr'=>?_⟩⟩
 refine k r us _ (S.trans (zi.upd hr')) zg ⟨by rw[List.length_map];omega,λi v e=>?_⟩
 obtain⟨b,q1,q2⟩:=hR i v e
 exact⟨b,q1,q2.keeps (.of (zi.upd hr'))⟩
def zeP:Sp:=λvs H Q _=>∃t D un be lo hi js wt,vs=[.ref t]/\Zj H t D un be lo hi js wt/\WoZ un be lo hi js wt/\∀a v1 v2 H',zi H H'->H' a=some (.tup [v1,v2])->xc H' v1 (wlO un lo)->xc H' v2 (wlO un hi)->Q (.ref a) H'
theorem za1:zx ["world","found","wall"] ["world"] (zh x8):=⟨rfl,rfl,rfl,by decide +kernel,rfl,by decide +kernel,by decide +kernel⟩
theorem rat0 {H:Hp}{p:Addr}(h:H p=some (.tup [.int 0,.int 1])):zI H p 0:=h
theorem zek (D:Df K mg "_law_bounds" x8 ["world"] []) (T:TxB K mg) (cLo:Cal P w K mg base "_law_lowest" 1 ["top","bottom"] [] jJ):Cal P w K mg base "_law_bounds" 2 ["world"] [] zeP:=by
 refine D.cal (k:=1) za1 (λvs H Q E h=>by obtain⟨_,_,_,_,_,_,_,_,rfl,_⟩:=h;rfl) (λf cdv A outer s H vs Q E hr h=>?_)
 obtain⟨t,Dn,un,be,lo,hi,js,wt,rfl,wo,z,k⟩:=h
 have ht:=wo.tup
 refine⟨_,(zf (zA (i:=1) za1.nd rfl (Or.inl rfl) (qp ze))
  (zf (qj PassesOwn.never rfl (vL (zaH zdO (pv 0) (Ji zd) (Ji zd))) (zk (i:=2) za1.nd rfl (Or.inl rfl)) (zj (zV (zu jp (pv 2) qh (zy _)) (zj (xt (qI PySem.F.plainAttrs_list PySem.F.slot_list_append PySem.F.type_list_append xl (pv 1) (za qh ze)))) (zj (xt (qI PySem.F.plainAttrs_list PySem.F.slot_list_append PySem.F.type_list_append xl (pv 1) (za (zN (za (zv cLo hr (za (pv 2) (za (zE zH (pv 0) zd (λ_ _=>rfl)) ze))) (za (zN (za zd (za zd ze))) ze))) ze)))))))
  (zj (zD (vp vI (by rfl) T.nTuple PyProof.Rows.boot_tuple (za (pv 1) ze)))))),?_⟩
 refine⟨by show 0<=sizeLine;decide,λFd hFd=>?_⟩
 dsimp only[zn]
 have S1:zi H (upd H Fd (.lst [])):=zi.upd hFd
 have hF1:upd H Fd (.lst []) Fd=some (.lst []):=zg
 generalize upd H Fd (.lst [])=H1 at S1 hF1
 refine zU (λσ' G=>∃(us:List V) (v1 v2:V) (z2:Option V),σ'=[some (.ref t),some (.ref Fd),z2]/\zi H G/\G Fd=some (.lst [v1,v2])/\xc G v1 (wlO un lo)/\xc G v2 (wlO un hi)) ?_ ?_
 ·rintro σ' G ⟨us,v1,v2,z2,rfl,S,hG,h1,h2⟩
  exact⟨_,rfl,Fd,_,rfl,.inl ⟨.of hG,λa ha=>k a v1 v2 _ (S.trans (zi.upd ha)) zg (h1.same (zi.upd ha)) (h2.same (zi.upd ha))⟩⟩
 intro nx hnx
 refine⟨_,rfl,_,rfl,_,rfl,t,_,rfl,.of (S1 _ _ ht),(λ⟨z1,_⟩=>absurd (show HT.sIx 6 0 (some 2)=0 from z1) (by decide)),λsl hsl=>?_⟩
 have ecut:zae [V.int un,.int be,lv lo,lv hi,.ref Dn,.int wt] (some 2) (some 4)=[lv lo,lv hi]:=rfl
 rw[ecut]
 have S2:zi H1 (upd H1 sl (.tup [lv lo,lv hi])):=zi.upd hsl
 have hsl2:upd H1 sl (.tup [lv lo,lv hi]) sl=some (.tup [lv lo,lv hi]):=zg
 have hFs:Fd≠sl:=λz=>by rw[<-z,hF1]at hsl;cases hsl
 have hF2:=S2 _ _ hF1
 generalize upd H1 sl (.tup [lv lo,lv hi])=H2 at S2 hsl2 hF2
 refine⟨sl,rfl,⟨_,SqT.of hsl2⟩,?_⟩
 have S12:=S1.trans S2
 refine V0 (xs:=[lv lo,lv hi]) (λi σ' G=>∃(vs:List V) (z2:Option V),σ'=[some (.ref t),some (.ref Fd),z2]/\(∀b o,H2 b=some o->b≠Fd->G b=some o)/\G Fd=some (.lst vs)/\vs.length=i/\∀(m:Nat) (v:V),vs[m]? = some v->∃l,[lo,hi][m]? = some l/\xc G v (wlO un l))
  ⟨[],none,rfl,λb o e _=>e,hF2,rfl,λm v e=>by simp at e⟩ (λi σ G _ ⟨_,_,_,q,_⟩=>SqT.of (q _ _ hsl2 (Ne.symm hFs))) ?_ ?_
 ·rintro i y σ G hy ⟨vs,z2,rfl,kp,hG,hvl,hv⟩
  dsimp only[zn]
  obtain⟨l,el,rfl⟩:∃l,[lo,hi][i]? = some l/\y=lv l:=by
   match i,hy with
   | 0,hy=>simp at hy;exact⟨lo,rfl,hy.symm⟩
   | 1,hy=>simp at hy;exact⟨hi,rfl,hy.symm⟩
   | n+2,hy=>simp at hy
  have i2:i<2:=by have:=(List.getElem?_eq_some_iff.mp el).1;simpa using this
  have step:∀(G':Hp) (v:V),zi G G'->xc G' v (wlO un l)->∃(vs':List V) (z2:Option V),[some (V.ref t),some (.ref Fd),some (lv l)]=[some (.ref t),some (.ref Fd),z2]/\(∀b o,H2 b=some o->b≠Fd->upd G' Fd (.lst (vs++[v])) b=some o)/\upd G' Fd (.lst (vs++[v])) Fd=some (.lst vs')/\vs'.length=i+1/\∀(m:Nat) (u:V),vs'[m]? = some u->∃l,[lo,hi][m]? = some l/\xc (upd G' Fd (.lst (vs++[v]))) u (wlO un l):=λG' v sG hw=>by
   have tu:xo G' (upd G' Fd (.lst (vs++[v]))):=λb xs e=>by rw[zB (λz=>by rw[z,sG _ _ hG]at e;cases e)];exact e
   refine⟨vs++[v],_,rfl,λb o e n=>by rw[zB n];exact sG _ _ (kp b o e n),zg,by simp[hvl],λm u e=>?_⟩
   rw[List.getElem?_append]at e
   split at e
   ·obtain⟨l',e1,e2⟩:=hv m u e
    exact⟨l',e1,(e2.same sG).tupsW tu⟩
   ·rename_i hm
    have hm0:m - vs.length=0:=by
     rcases Nat.eq_zero_or_pos (m - vs.length)with h | h
     ·exact h
     ·rw[List.getElem?_eq_none (by simp;omega)]at e;cases e
    rw[hm0]at e;cases e
    have:m=i:=by omega
    subst this
    exact⟨l,el,hw.tupsW tu⟩
  cases l with
  | none =>
   refine⟨_,rfl,rfl,_,rfl,xY ?_⟩
   exact⟨_,rfl,.inl ⟨rfl,_,SqL.of hG⟩,Fd,_,_,rfl,rfl,hG,xy (by omega),step G .non (zi.refl _) rfl⟩
  | some x =>
   refine⟨_,rfl,rfl,_,rfl,xZ ?_⟩
   have htG:G t=some (.tup [.int un,.int be,lv lo,lv hi,.ref Dn,.int wt]):=kp _ _ (S12 _ _ ht) (λz=>by rw[z]at ht;rw[hFd]at ht;cases ht)
   refine⟨_,rfl,.inl ⟨rfl,_,SqL.of hG⟩,_,rfl,_,rfl,t,_,_,_,rfl,rfl,.of htG,rfl,x,un,rfl,by have:=z.un;omega,Bd.mono (m:=10) (show un.natAbs<2^10 by have:=z.un;omega) (by decide),λp1 G1 s1 h1=>?_⟩
   refine⟨by show 2<=sizeLine;decide,λp2 hp2=>⟨by show 2<=sizeLine;decide,λp3 hp3=>?_⟩⟩
   have s2:=zi.upd (o:=.tup [.int 0,.int 1]) hp2
   have s3:=zi.upd (o:=.tup [.ref p1,.ref p2]) hp3
   have ss:=s1.trans (s2.trans s3)
   refine⟨Fd,_,_,rfl,rfl,ss _ _ hG,xy (by omega),step _ (.ref p3) ss ⟨p3,p1,p2,rfl,zg,s3 _ _ (s2 _ _ h1),rat0 (s3 _ _ zg)⟩⟩
 ·rintro σ G ⟨vs,z2,rfl,kp,hG,hvl,hv⟩
  obtain⟨v1,v2,rfl⟩:∃a b,vs=[a,b]:=by
   match vs,hvl with
   | [a,b],_=>exact⟨a,b,rfl⟩
  obtain⟨_,e1,w1⟩:=hv 0 v1 rfl
  obtain⟨_,e2,w2⟩:=hv 1 v2 rfl
  cases e1;cases e2
  exact hnx _ _ ⟨[],v1,v2,z2,rfl,λb o e=>kp b o (S12 _ _ e) (λz=>by rw[z,hFd]at e;cases e),hG,w1,w2⟩
end
end KK
end
section
set_option maxHeartbeats 8000000
set_option Elab.async false
set_option linter.all false
set_option maxRecDepth 100000
namespace L2
open PySem
theorem JU {X:Cx}{K:PySem.W.Frag}{a:Expr}{ta:TE}(hK:X.K=K) (ha:PE X a ta) (he:∀whole,isTrue a X.env whole=(do let v <-whole;standAt a.pos;holding [v] (truthy v))):PT X a (λσ H Q=>ta σ H λx H'=>∃k,zbp K x H' k/\Q k H'):=by
 subst hK;exact xL ha he
end L2
namespace KK
open PySem L2 KM
end KK
end
section
set_option maxHeartbeats 8000000
set_option Elab.async false
set_option linter.all false
set_option maxRecDepth 100000
namespace L2
open PySem
theorem zbu {a b d g:Str}{m n k j:Addr}{cs:List (Str×Addr)} (h1:cs.lookup a=some m) (h2:cs.lookup b=some n) (h3:cs.lookup d=some k) (h4:cs.lookup g=some j) (x:Str) (c:Addr) (e:List.lookup x [(a,m),(b,n),(d,k),(g,j)]=some c):cs.lookup x=some c:=by
 rw[show [(a,m),(b,n),(d,k),(g,j)]=(a,m)::[(b,n),(d,k),(g,j)]from rfl,List.lookup_cons]at e
 cases q1:(x == a)with
 | true=>rw[q1]at e;cases e;rw[eq_of_beq q1];exact h1
 | false=>rw[q1]at e;exact jP h2 h3 h4 x c e
end L2
namespace KK
open PySem L2 KM
theorem Ln.tups {H H':Hp}{r a:Addr}{bs:List Bl}{lo hi:Wl}(h:Ln H r a bs lo hi) (e:xo H H'):Ln H' r a bs lo hi:=by
 obtain⟨us,h1,h2⟩:=h.row
 obtain⟨v1,v2,g1,g2,g3⟩:=h.walls
 exact⟨⟨us,e _ _ h1,h2.keeps e⟩,⟨v1,v2,e _ _ g1,g2.tupsW e,g3.tupsW e⟩,h.l1,h.l8⟩
theorem Qq {t b:Int}(hb:0<b) (h12:b<=12) (ht:Bd 72 t):Sm (Rat.divInt t b):=by
 have hb':b≠0:=by omega
 have z:Sz 72 (Rat.divInt t b):=.divInt hb' ht (Bd.mono (m:=10) (show b.natAbs<2^10 by omega) (by decide))
 refine⟨z.1.mono (by decide),?_⟩
 have:=zag (t:=t) hb'
 show (((Rat.divInt t b).den:Nat):Int).natAbs<2^20
 omega
theorem Jn:Sm 0:=⟨show (0:Int).natAbs<2^200 by decide,show ((1:Nat):Int).natAbs<2^20 by decide⟩
theorem zcM {a c b:Int}(hb:0<b) (h:a<c):Rat.divInt a b<Rat.divInt c b:=(JD hb).mpr h
theorem WoZ.lnz {un be:Int}{lo hi:Option Int}{js:List (Int×Int)}{wt:Int}(z:WoZ un be lo hi js wt):LnZ (js.map (blO un be wt)) (wlO un lo) (wlO un hi):=by
 have hun:=z.un
 have hbe:=z.be
 refine⟨λt m=>?_,λl h e1 e2=>?_⟩
 ·unfold ths at m
  rcases List.mem_append.mp m with m | m
  ·obtain⟨b,mb,rfl⟩:=List.mem_map.mp m
   obtain⟨u,mu,rfl⟩:=List.mem_map.mp mb
   have:=z.bd u mu
   exact⟨Qq (by omega) (by omega) this.1,Qq (by omega) (by omega) (this.2.mono (by decide))⟩
  ·rcases List.mem_append.mp m with m | m
   ·cases lo with
    | none=>simp[wlO,jG]at m
    | some l=>simp[wlO,jG]at m;subst m;exact⟨Qq (by omega) (by omega) (z.bl l rfl),Jn⟩
   ·cases hi with
    | none=>simp[wlO,jG]at m
    | some l=>simp[wlO,jG]at m;subst m;exact⟨Qq (by omega) (by omega) (z.bh l rfl),Jn⟩
 ·cases lo with
  | none=>cases e1
  | some a =>
   cases hi with
   | none=>cases e2
   | some b=>cases e1;cases e2;exact zcM (by omega) (z.lh _ _ rfl rfl)
theorem QY (un:Int) (l:Option Int):xa (wlO un l)=true:=by
 cases l with
 | none=>rfl
 | some x=>show xa (some (_,0))=true;simp[xa]
theorem QP {un be wt:Int}{lo hi:Option Int}{js:List (Int×Int)}{b0:Bl}(h0:(js.map (blO un be wt))[0]? = some b0):plB (tb b0) ((js.map (blO un be wt)).map tb) (wlO un lo) (wlO un hi)=true:=by
 unfold plB evB
 rw[QY,QY,Bool.and_true,Bool.and_true,List.all_eq_true]
 have hw:∀b∈js.map (blO un be wt),b.wt=wt:=λb m=>by obtain⟨u,_,rfl⟩:=List.mem_map.mp m;rfl
 intro b m
 obtain⟨c,mc,rfl⟩:=List.mem_map.mp m
 exact decide_eq_true (by show c.wt=b0.wt;rw[hw c mc,hw b0 (List.mem_of_getElem? h0)])
end KK
end
section
set_option maxHeartbeats 8000000
set_option Elab.async false
set_option linter.all false
set_option maxRecDepth 100000
namespace KK
open PySem L2 KM
abbrev Ent:Type:=Int×Addr×List Int
def vR (ps:List (Int×List Int)) (k w:Int):List (Int×List Int):=if(ps.any λp=>decide (p.1=k))=true then ps.map (λp=>if p.1=k then(p.1,p.2++[w])else p)else ps++[(k,[w])]
def qr (l0 T:Int) (ps:List (Int×List Int)) (t:Int×Int):List (Int×List Int):=if 0<t.2 then vR ps t.2 (t.1 - l0)else if t.2<0 then vR ps (-t.2) (T - (t.1 - l0))else ps
def phO (l0 T:Int) (trs:List (Int×Int)):List (Int×List Int):=trs.foldl (qr l0 T) []
def vf (es:List Ent):List (Int×List Int):=es.map λe=>(e.1,e.2.2)
def vJ (es:List Ent):List (Key×V):=es.map λe=>(Sum.inl e.1,V.ref e.2.1)
structure PhA (H G:Hp) (a:Addr) (es:List Ent):Prop where
 d:G a=some (.dK (vJ es))
 l:∀e∈es,G e.2.1=some (.lst (e.2.2.map V.int))
 n:(es.map (·.2.1)).Nodup
 f:∀e∈es,H e.2.1=none
 fa:H a=none
 k:(es.map (·.1)).Nodup
theorem PhA.same {H G G':Hp}{a:Addr}{es:List Ent}(h:PhA H G a es) (e:zi G G'):PhA H G' a es:=⟨e _ _ h.d,λx m=>e _ _ (h.l x m),h.n,h.f,h.fa,h.k⟩
theorem jK (k:Int):∀es:List Ent,vV (vJ es) (Sum.inl k)=(es.find? λe=>decide (e.1=k)).map λe=>V.ref e.2.1
 | []=>rfl
 | e::es=>by
  show vV ((Sum.inl e.1,V.ref e.2.1)::vJ es) (Sum.inl k)=_
  rw[List.find?_cons]
  by_cases c:e.1=k
  ·rw[Zc (by rw[c]),decide_eq_true c];rfl
  ·rw[Zb (λz=>c (Sum.inl.inj z)),decide_eq_false c];exact jK k es
theorem zaa (k:Int) (es:List Ent):(vf es).any (λp=>decide (p.1=k))=(es.find? λe=>decide (e.1=k)).isSome:=by
 unfold vf
 induction es with
 | nil=>rfl
 | cons e es ih =>
  rw[List.map_cons,List.any_cons,List.find?_cons]
  by_cases c:e.1=k
  ·simp[c]
  ·simp only[decide_eq_false c,Bool.false_or];exact ih
def Xw (es:List Ent) (k w:Int):List Ent:=es.map λe=>if e.1=k then(e.1,e.2.1,e.2.2++[w])else e
theorem zaO {es:List Ent}{k w:Int}{e:Ent}(h:(es.find? λe=>decide (e.1=k))=some e):vf (Xw es k w)=vR (vf es) k w:=by
 unfold vR
 rw[zaa,h,if_pos (show (some e).isSome=true from rfl)]
 unfold vf Xw
 rw[List.map_map,List.map_map]
 refine List.map_congr_left λx _=>?_
 show _=if x.1=k then(x.1,x.2.2++[w])else(x.1,x.2.2)
 show ((if x.1=k then(x.1,x.2.1,x.2.2++[w])else x).1,(if x.1=k then(x.1,x.2.1,x.2.2++[w])else x).2.2)=_
 split <;> rfl
theorem zaN {es:List Ent}{k w:Int}{l:Addr}(h:(es.find? λe=>decide (e.1=k))=none):vf (es++[(k,l,[w])])=vR (vf es) k w:=by
 unfold vR
 rw[zaa,h,if_neg (by decide)]
 unfold vf
 rw[List.map_append];rfl
theorem Qa {es:List Ent}{k:Int}{l:Addr}(w:Int) (h:(es.find? λe=>decide (e.1=k))=none):jq (vJ es) (Sum.inl k) (V.ref l)=vJ (es++[(k,l,[w])]):=by
 unfold jq
 rw[Xq,jK,h]
 rw[if_neg (by decide)]
 unfold vJ
 rw[List.map_append];rfl
theorem PhA.put {H G:Hp}{a:Addr}{es:List Ent}{k w:Int}{e:Ent}(h:PhA H G a es) (hf:(es.find? λe=>decide (e.1=k))=some e):PhA H (upd G e.2.1 (.lst (e.2.2.map V.int++[.int w]))) a (Xw es k w):=by
 have me:e∈es:=List.mem_of_find?_eq_some hf
 have ke:e.1=k:=of_decide_eq_true (List.find?_some (p:=λe:Ent=>decide (e.1=k)) hf)
 have hle:=h.l e me
 have na:a≠e.2.1:=λz=>by rw[<-z,h.d]at hle;cases hle
 have e1:(Xw es k w).map (·.1)=es.map (·.1):=by unfold Xw;rw[List.map_map];refine List.map_congr_left λx _=>?_;show (if x.1=k then _ else x).1=x.1;split <;> rfl
 have e2:(Xw es k w).map (·.2.1)=es.map (·.2.1):=by unfold Xw;rw[List.map_map];refine List.map_congr_left λx _=>?_;show (if x.1=k then _ else x).2.1=x.2.1;split <;> rfl
 have e3:vJ (Xw es k w)=vJ es:=by unfold vJ Xw;rw[List.map_map];refine List.map_congr_left λx _=>?_;show (Sum.inl (if x.1=k then _ else x).1,V.ref (if x.1=k then _ else x).2.1)=_;split <;> rfl
 refine⟨by rw[e3,zB na];exact h.d,λx m=>?_,by rw[e2];exact h.n,λx m=>?_,h.fa,by rw[e1];exact h.k⟩
 ·obtain⟨y,my,rfl⟩:=List.mem_map.mp m
  by_cases c:y.1=k
  ·have ey:y=e:=by
    have hk:=h.k
    by_cases q:y=e
    ·exact q
    ·exfalso
     have:=(List.pairwise_map.mp hk)
     exact nodup_ne hk my me q (c.trans ke.symm)
   subst ey
   rw[if_pos c]
   show upd G y.2.1 _ y.2.1=_
   rw[zg,List.map_append];rfl
  ·rw[if_neg c]
   have hn:y.2.1≠e.2.1:=λz=>by
    have:y≠e:=λq=>c (by rw[q];exact ke)
    exact nodup_ne (f:=λe:Ent=>e.2.1) h.n my me this z
   rw[zB hn];exact h.l y my
 ·obtain⟨y,my,rfl⟩:=List.mem_map.mp m
  have:=h.f y my
  split
  ·exact this
  ·exact this
where
 nodup_ne {α β:Type}{f:α->β}:∀{l:List α}{x y:α},(l.map f).Nodup->x∈l->y∈l->x≠y->f x≠f y
 | [],_,_,_,h,_,_=>by cases h
 | a::l,x,y,hn,mx,my,ne=>by
  rw[List.map_cons,List.nodup_cons]at hn
  rcases List.mem_cons.mp mx with ex | mx'
  ·rcases List.mem_cons.mp my with ey | my'
   ·exact absurd (ex.trans ey.symm) ne
   ·exact λe=>hn.1 (by rw[<-ex,e];exact List.mem_map.mpr ⟨y,my',rfl⟩)
  ·rcases List.mem_cons.mp my with ey | my'
   ·exact λe=>hn.1 (by rw[<-ey,<-e];exact List.mem_map.mpr ⟨x,mx',rfl⟩)
   ·exact nodup_ne hn.2 mx' my' ne
theorem PhA.new {H G:Hp}{a l:Addr}{es:List Ent}{k w:Int}(h:PhA H G a es) (hS:∀b o,H b=some o->G b=some o) (hl:G l=none) (hf:(es.find? λe=>decide (e.1=k))=none) :
  PhA H (upd (upd (upd G l (.lst [])) a (.dK (vJ (es++[(k,l,[w])])))) l (.lst [.int w])) a (es++[(k,l,[w])]):=by
 have na:a≠l:=λz=>by rw[<-z,h.d]at hl;cases hl
 have Hl:H l=none:=by
  cases q:H l with
  | none=>rfl
  | some o=>rw[hS _ _ q]at hl;cases hl
 have ne:∀e∈es,e.2.1≠l:=λe m z=>by have:=h.l e m;rw[z,hl]at this;cases this
 have nea:∀e∈es,e.2.1≠a:=λe m z=>by have:=h.l e m;rw[z,h.d]at this;cases this
 refine⟨by rw[zB na];exact zg,λx m=>?_,?_,λx m=>?_,h.fa,?_⟩
 ·rcases List.mem_append.mp m with m | m
  ·rw[zB (ne x m),zB (nea x m),zB (ne x m)];exact h.l x m
  ·cases List.mem_singleton.mp m;exact zg
 ·rw[List.map_append]
  refine List.nodup_append.mpr ⟨h.n,by simp,λb hb c hc=>?_⟩
  obtain⟨e,m,rfl⟩:=List.mem_map.mp hb
  simp at hc;subst hc
  exact ne e m
 ·rcases List.mem_append.mp m with m | m
  ·exact h.f x m
  ·cases List.mem_singleton.mp m;exact Hl
 ·rw[List.map_append]
  refine List.nodup_append.mpr ⟨h.k,by simp,λb hb c hc=>?_⟩
  obtain⟨e,m,rfl⟩:=List.mem_map.mp hb
  simp at hc;subst hc
  intro z
  have:=List.find?_eq_none.mp hf e m
  exact this (decide_eq_true z)
section
variable {P:Program}{w:World}{K:PySem.W.Frag}{mg:Str->Option Value}{base:Heap}{C CE:Addr}{aN:Addr}
def zdV (C:Addr):Sp:=λvs H Q _=>∃c pb sb tk ws trs lo hi,vs=[.ref c]/\XW H C c pb sb tk ws trs (some lo) (some hi)/\Wb (some lo)/\Wb (some hi)/\trs.length<=8 ∧
 ∀a es H',zi H H'->PhA H H' a es->vf es=phO lo.1 (2*(hi.1 - lo.1)) trs->Q (.ref a) H'
theorem Zy:zx ["course","trip","phases","start","speed","way"] ["course"] (zh qy):=⟨rfl,rfl,rfl,by decide +kernel,rfl,by decide +kernel,by decide +kernel⟩
theorem Vk (es:List Ent):(vJ es).length=es.length:=List.length_map ..
theorem VA {H G:Hp}{a l0:Addr}{es:List Ent}{k w:Int}{i:Nat}{R:VK}(h:PhA H G a es) (hS:zi H G) (hi:i<=1000) (hl:es.length<=i) (hl8:∀e∈es,e.2.2.length<=i) (hl0:G l0=none)
  (q:∀l xs G1 es',G1 l=some (.lst xs)->xs.length<sizeLine->PhA H (upd G1 l (.lst (xs++[.int w]))) a es'->zi H (upd G1 l (.lst (xs++[.int w])))->vf es'=vR (vf es) k w->es'.length<=i+1->(∀e∈es',e.2.2.length<=i+1)->R (.ref l) G1) :
  Jk (.ref a) [.int k,.ref l0] (upd G l0 (.lst [])) R:=by
 have na:a≠l0:=λz=>by have:=h.d;rw[z,hl0]at this;cases this
 have S1:zi G (upd G l0 (.lst [])):=zi.upd hl0
 have sz:(1000:Nat)<sizeLine:=by decide
 refine⟨a,vJ es,Sum.inl k,.ref l0,rfl,rfl,S1 _ _ h.d,by rw[Vk];omega,λv hv=>?_,λhv=>?_⟩
 ·rw[jK]at hv
  cases hf:es.find? λe=>decide (e.1=k)with
  | none=>rw[hf]at hv;cases hv
  | some e =>
   rw[hf]at hv;cases hv
   have me:e∈es:=List.mem_of_find?_eq_some hf
   have h1:=h.same S1
   have hle:=h1.l e me
   have hll:=hl8 e me
   refine q _ _ _ _ hle (by rw[List.length_map];omega) (h1.put hf) (λb o eb=>?_) (zaO hf) (by unfold Xw;rw[List.length_map];omega) λx m=>?_
   ·have:b≠e.2.1:=λz=>by rw[z,h.f e me]at eb;cases eb
    rw[zB this];exact S1 _ _ (hS _ _ eb)
   ·obtain⟨y,my,rfl⟩:=List.mem_map.mp m
    have:=hl8 y my
    split
    ·show (y.2.2++[w]).length<=_;simp;omega
    ·omega
 ·rw[jK]at hv
  have hf:(es.find? λe=>decide (e.1=k))=none:=by
   cases hf:es.find? λe=>decide (e.1=k)with
   | none=>rfl
   | some e=>rw[hf]at hv;cases hv
  rw[Qa w hf]
  have hl0':upd (upd G l0 (.lst [])) a (.dK (vJ (es++[(k,l0,[w])]))) l0=some (.lst []):=by rw[zB na.symm];exact zg
  refine q _ _ _ _ hl0' (by show 0<sizeLine;omega) (h.new hS hl0 hf) (λb o eb=>?_) (zaN hf) (by simp;omega) λx m=>?_
  ·have n1:b≠l0:=λz=>by rw[<-z,hS _ _ eb]at hl0;cases hl0
   have n2:b≠a:=λz=>by rw[z,h.fa]at eb;cases eb
   show upd (upd (upd G l0 (.lst [])) a _) l0 _ b=some o
   rw[zB n1,zB n2,zB n1];exact hS _ _ eb
  ·rcases List.mem_append.mp m with m | m
   ·have:=hl8 x m;omega
   ·cases List.mem_singleton.mp m;simp
theorem zeu (D:Df K mg "phases_of" qy ["course"] []) (TC:TCo K C) (cTr:Cal P w K mg base "trip_of" 1 ["course"] [] (Xn C)):Cal P w K mg base "phases_of" 2 ["course"] [] (zdV C):=by
 refine D.cal (k:=1) Zy (λvs H Q E h=>by obtain⟨_,_,_,_,_,_,_,_,rfl,_⟩:=h;rfl) (λf cdv A outer s H vs Q E hr h=>?_)
 obtain⟨c,pb,sb,tk,ws,trs,lo,hi,rfl,hco,wl,wh,l8,k⟩:=h
 obtain⟨dx,fs,hc,F⟩:=id hco
 obtain⟨vl,el,tl⟩:=F.low
 obtain⟨al,rfl,hal⟩:∃a,vl=V.ref a/\H a=some (.tup [.int lo.1,.int lo.2]):=tl
 obtain⟨L,tv,et,hL,hT⟩:=F.tracks
 have htl:=hT.1
 refine⟨_,(zf (zA (i:=1) Zy.nd rfl (Or.inl rfl) (zv cTr hr (za (pv 0) ze)))
  (zf (zA (i:=2) Zy.nd rfl (Or.inl rfl) QN)
  (zf (qj PassesOwn.never rfl (zP (qL (pv 0) rfl)) (xP rfl (zm (zk (i:=3) Zy.nd rfl (Or.inl rfl)) (zm (zk (i:=4) Zy.nd rfl (Or.inl rfl)) zO))) (zf (zA (i:=5) Zy.nd rfl (Or.inl rfl) (zl xr (pv 3) (zE zH (qL (pv 0) rfl) zd (λ_ _=>rfl))))
  (zj (zV (zu jA (pv 4) zd (zy _)) (zj (xt (qI PySem.F.plainAttrs_list PySem.F.slot_list_append PySem.F.type_list_append xl (qI PySem.F.plainAttrs_dict PySem.F.slot_dict_setdefault PySem.F.type_dict_setdefault Zt (pv 2) (za (pv 4) (za (qp ze) ze))) (za (pv 5) ze)))) (zj (zV (zu jW (pv 4) zd (zy _)) (zj (xt (qI PySem.F.plainAttrs_list PySem.F.slot_list_append PySem.F.type_list_append xl (qI PySem.F.plainAttrs_dict PySem.F.slot_dict_setdefault PySem.F.type_dict_setdefault Zt (pv 2) (za (zct zbj (pv 4)) (za (qp ze) ze))) (za (zl xr (pv 1) (pv 5)) ze)))) zF))))))
  (zj (zD (pv 2)))))),?_⟩
 refine⟨_,rfl,c,pb,sb,tk,ws,trs,some lo,some hi,rfl,hco,wl,wh,?_⟩
 dsimp only[zn]
 refine λa ha=>?_
 dsimp only[zn]
 have S0:zi H (upd H a (.dK [])):=zi.upd ha
 have P0:PhA H (upd H a (.dK [])) a []:=⟨zg,(λe m=>by cases m),List.nodup_nil,(λe m=>by cases m),ha,List.nodup_nil⟩
 generalize upd H a (.dK [])=H0 at S0 P0
 refine zU (λσ' G=>∃es y3 y4 y5,σ'=[some (.ref c),some (lv (Xo (some lo) (some hi))),some (.ref a),y3,y4,y5]/\zi H G/\PhA H G a es/\vf es=phO lo.1 (2*(hi.1 - lo.1)) trs) ?_ ?_
 ·rintro σ' G ⟨es,y3,y4,y5,rfl,S,ph,e⟩
  exact⟨_,rfl,k a es G S ph e⟩
 intro nx hnx
 refine⟨_,rfl,c,C,dx,fs,_,rfl,S0 _ _ hc,TC.cls,TC.tracks,et,L,rfl,⟨_,SqL.of (S0 _ _ hL)⟩,?_⟩
 refine vd (xs:=tv) (λi σ' G=>∃es y3 y4 y5,σ'=[some (.ref c),some (lv (Xo (some lo) (some hi))),some (.ref a),y3,y4,y5]/\zi H G/\PhA H G a es/\vf es=phO lo.1 (2*(hi.1 - lo.1)) (trs.take i)/\es.length<=i/\∀e∈es,e.2.2.length<=i)
  ⟨[],none,none,none,rfl,S0,P0,rfl,Nat.le_refl _,λe m=>by cases m⟩ (λi σ' G _ ⟨_,_,_,_,_,S,_⟩=>SqL.of (S _ _ hL)) ?_ ?_
 ·rintro i y σ' G hy ⟨es,y3,y4,y5,rfl,S,ph,e,hl1,hl2⟩
  obtain⟨tr,etr,p,rfl,hp⟩:=hT.2 i y hy
  have hi8:i<trs.length:=(List.getElem?_eq_some_iff.mp etr).1
  have etk:phO lo.1 (2*(hi.1 - lo.1)) (trs.take (i+1))=qr lo.1 (2*(hi.1 - lo.1)) (vf es) tr:=by
   rw[List.take_add_one,etr,e];unfold phO;rw[List.foldl_append];rfl
  refine⟨p,_,rfl,.of (S _ _ hp),rfl,_,_,rfl,_,_,rfl,rfl,?_⟩
  dsimp only[zn]
  have hal':=S _ _ hal
  refine⟨_,rfl,_,rfl,c,C,dx,fs,_,rfl,S _ _ hc,TC.cls,TC.low,el,al,_,_,_,rfl,rfl,.of hal',at0 ..,_,_,rfl,rfl,?_⟩
  dsimp only[zn]
  unfold qr at etk
  refine⟨_,rfl,_,_,rfl,rfl,_,rfl,xO (λz=>?_) (λz=>?_)⟩
  ·have h1:0<tr.2:=of_decide_eq_true z
   rw[if_pos h1]at etk
   refine⟨_,rfl,.inr (.inr (.inl ⟨rfl,.inl ⟨_,ph.d⟩⟩)),_,rfl,by show 0<=sizeLine;decide,λl0 hl0=>?_⟩
   dsimp only[ju]
   exact VA (w:=tr.1 - lo.1) ph S (by omega) hl1 hl2 hl0 λl xs G1 es' hl hx ph' S' e' q1 q2=>⟨.inl ⟨rfl,_,SqL.of hl⟩,_,rfl,l,_,_,rfl,rfl,hl,hx,⟨es',_,_,_,rfl,S',ph',by rw[etk];exact e',q1,q2⟩⟩
  ·have h1:¬ 0<tr.2:=λq=>z (decide_eq_true q)
   rw[if_neg h1]at etk
   refine⟨_,rfl,_,_,rfl,rfl,_,rfl,xO (λz=>?_) (λz=>?_)⟩
   ·have h2:tr.2<0:=of_decide_eq_true z
    rw[if_pos h2]at etk
    refine⟨_,rfl,.inr (.inr (.inl ⟨rfl,.inl ⟨_,ph.d⟩⟩)),_,rfl,_,rfl,by show 0<=sizeLine;decide,λl0 hl0=>?_⟩
    dsimp only[ju]
    exact VA (k := -tr.2) (w:=2*(hi.1 - lo.1) - (tr.1 - lo.1)) ph S (by omega) hl1 hl2 hl0 λl xs G1 es' hl hx ph' S' e' q1 q2=>⟨.inl ⟨rfl,_,SqL.of hl⟩,_,rfl,_,rfl,_,_,rfl,rfl,l,_,_,rfl,rfl,hl,hx,⟨es',_,_,_,rfl,S',ph',by rw[etk];exact e',q1,q2⟩⟩
   ·have h2:¬tr.2<0:=λq=>z (decide_eq_true q)
    rw[if_neg h2]at etk
    exact⟨es,_,_,_,rfl,S,ph,etk.symm ▸ rfl,by omega,λx m=>by have:=hl2 x m;omega⟩
 ·rintro σ' G ⟨es,y3,y4,y5,rfl,S,ph,e,_,_⟩
  exact hnx _ _ ⟨es,y3,y4,y5,rfl,S,ph,by rw[e,htl,List.take_length]⟩
end
end KK
end
section
set_option maxHeartbeats 8000000
set_option Elab.async false
set_option linter.all false
set_option maxRecDepth 100000
namespace L2
open PySem PySem.Spec PyProof.Rows
end L2
namespace KK
open PySem L2 KM
def vE (l:List Int):List Int:=l.mergeSort λa b=>decide (a<=b)
theorem vy (l:List Int):(vE l).Perm l:=List.mergeSort_perm ..
theorem Qr (l:List Int):(vE l).Pairwise (·<=·):=by
 have h:=List.pairwise_mergeSort (le:=λa b:Int=>decide (a<=b)) (λa b c h1 h2=>by simp only[decide_eq_true_eq]at *;omega) (λa b=>by simp only[Bool.or_eq_true,decide_eq_true_eq];omega) l
 exact h.imp λz=>of_decide_eq_true z
theorem za6 {a b:List Int}(p:a.Perm b) (ha:a.Pairwise (·<=·)) (hb:b.Pairwise (·<=·)):a=b :=
 List.Perm.eq_of_pairwise (le:=(·<=·)) (λa b _ _ h1 h2=>by omega) ha hb p
theorem vo {a l:List Int}(p:a.Perm l) (ha:a.Pairwise (·<=·)):a=vE l:=za6 (p.trans (vy l).symm) ha (Qr l)
theorem zbd {a b:List Int}:vE a=vE b↔a.Perm b:=⟨λh=>(vy a).symm.trans (by rw[h];exact vy b),λh=>vo ((vy a).trans h) (Qr a)⟩
def zM (ps:List Int) (T m:Int):Bool:=decide (vE (ps.map (· * m))=vE (ps.map λp=>(p*m+T) % (T*m)))
theorem XF {ps:List Int}{T m:Int}:zM ps T m=true↔(ps.map (· * m)).Perm (ps.map λp=>(p*m+T) % (T*m)):=by
 unfold zM;rw[decide_eq_true_eq];exact zbd
theorem Jy {ps:List Int}{T:Int}(h:∀p∈ps,0<=p/\p<T):zM ps T 1=true:=by
 rw[XF]
 refine .of_eq (List.map_congr_left λp m=>?_)
 obtain⟨h0,h1⟩:=h p m
 rw[Int.mul_one,Int.mul_one,show p+T=p+T*1 by omega,Int.add_mul_emod_self_left,Int.emod_eq_of_lt h0 h1]
theorem jS:∀(a b:List Int),PyData.eqvAll (a.map .int) (b.map .int)=decide (a=b)
 | [],[]=>rfl
 | [],_::_=>by simp[PyData.eqvAll]
 | _::_,[]=>by simp[PyData.eqvAll]
 | x::a,y::b=>by
  show (PyData.eqv (.int x) (.int y)&&PyData.eqvAll (a.map .int) (b.map .int))=_
  rw[jS a b]
  by_cases c:x=y
  ·subst c
   have e:PyData.eqv (.int x) (.int x)=true:=SeqAt.eqv_refl _ rfl
   rw[e,Bool.true_and]
   by_cases d:a=b
   ·rw[decide_eq_true d,decide_eq_true (by rw[d])]
   ·rw[decide_eq_false d,decide_eq_false (λz=>d (by injection z))]
  ·have e:PyData.eqv (.int x) (.int y)=false:=by simp[PyData.eqv];exact c
   rw[e,Bool.false_and,decide_eq_false (λz=>c (by injection z))]
theorem zb7 (ds:List Int):SeqAt.shaped (.list (ds.map .int))=true:=by
 have k:PyData.canLayAll0 (ds.map .int)=true/\PyData.depthAll (ds.map .int)=0:=by
  induction ds with
  | nil=>exact⟨rfl,rfl⟩
  | cons d ds ih =>
   refine⟨?_,?_⟩
   ·show (PyData.canLay0 (.int d)&&_)=true
    rw[ih.1];rfl
   ·show max (PyData.depth (.int d)) _=0
    rw[ih.2];rfl
 have c1:PyData.canLay0 (.list (ds.map .int))=true:=k.1
 have d1:PyData.depth (.list (ds.map .int))=1:=by show _+1=1;rw[k.2]
 show (_&&decide (_<=64))=true
 rw[c1,d1];rfl
theorem jr {H:Hp}:∀ds:List Int,jz H (ds.map V.int) (ds.map .int)
 | []=>.nil
 | d::ds=>.cons (.int d) (jr ds)
theorem v6 {vs:List V}{ns:List Int}(hl:vs.length=ns.length) (h:∀(i:Nat) (v:V),vs[i]? = some v->∃n,ns[i]? = some n/\v = .int n):vs=ns.map V.int:=by
 refine List.ext_getElem? λi=>?_
 rw[List.getElem?_map]
 cases e:vs[i]? with
 | none =>
  have:ns.length<=i:=by rw[<-hl];exact List.getElem?_eq_none_iff.mp e
  rw[List.getElem?_eq_none this];rfl
 | some v=>obtain⟨n,e1,rfl⟩:=h i v e;rw[e1];rfl
section
variable {P:Program}{w:World}{K:PySem.W.Frag}{mg:Str->Option Value}{base:Heap}{C CE:Addr}{aN:Addr}
structure Phs (ps:List Int) (T:Int):Prop where
 T0:0<T
 bT:Bd 3000 T
 l8:ps.length<=8
 ps:∀p∈ps,0<=p/\p<T
theorem Phs.bp {ps:List Int}{T:Int}(h:Phs ps T){p:Int}(m:p∈ps):Bd 3000 p:=h.bT.of_le (by have:=h.ps p m;omega)
def JZ:Sp:=λvs H Q _=>∃L ps T m,vs=[.ref L,.int T,.int m]/\H L=some (.lst (ps.map V.int))/\Phs ps T/\0<m/\Bd 3000 m/\∀H',zi H H'->Q (.bl (zM ps T m)) H'
theorem zaY:zx ["phases","trip","many","wide"] ["phases","trip","many"] (zh xS):=⟨rfl,rfl,rfl,by decide +kernel,rfl,by decide +kernel,by decide +kernel⟩
theorem zen (D:Df K mg "comes_again" xS ["phases","trip","many"] []) (T3:Tx3 K mg aN):Cal P w K mg base "comes_again" 1 ["phases","trip","many"] [] JZ:=by
 refine D.cal (k:=0) zaY (λvs H Q E h=>by obtain⟨_,_,_,_,rfl,_⟩:=h;rfl) (λf cdv A outer s H vs Q E hr h=>?_)
 obtain⟨L,ps,T,m,rfl,hL,z,m0,bm,k⟩:=h
 have hu:=hr.units
 have bM:∀{n:Nat}{i:Int},Bd n i->n<=1000000->Bd 1000000 i:=λh l=>h.mono l
 have l8:=z.l8
 refine⟨_,(zf (vG (i:=3) (NB:=["phase"]) (FR:=["many"]) (js:=[2]) rfl rfl (λx c h=>jk rfl x c h) (.cons rfl rfl rfl ⟨_,rfl⟩ .nil) rfl (by decide +kernel) rfl (by decide +kernel) zaY.nd rfl rfl (by rfl) (zP (pv 0)) (by intro _ _ _;refine⟨?_,?_,?_⟩;(exact(zk (i:=0) (show List.Nodup (["phase","many"]:List Str) by decide +kernel) rfl (Or.inl rfl)));(exact zL);(exact(zl zG (pv 0) (pv 1)))))
  (zj (zD (qF (Xh hu) (zw vZ (by rfl) T3.nSorted PyProof.Rows.boot_sorted (za (pv 3) ze)) (zw vZ (by rfl) T3.nSorted PyProof.Rows.boot_sorted (za (xK (NB:=["phase"]) (FR:=["trip","many"]) (js:=[1,2]) rfl rfl (λx c h=>jE rfl rfl x c h) (.cons rfl rfl rfl ⟨_,rfl⟩ (.cons rfl rfl rfl ⟨_,rfl⟩ .nil)) rfl (by decide +kernel) rfl (by decide +kernel) (zP (pv 3)) (by intro _ _ _;refine⟨?_,?_,?_⟩;(exact(zk (i:=0) (show List.Nodup (["phase","trip","many"]:List Str) by decide +kernel) rfl (Or.inl rfl)));(exact zL);(exact(zl qC (zl zR (pv 0) (pv 1)) (zl zG (pv 1) (pv 2)))))) ze)) (zy _))))),?_⟩
 unfold VJ VI
 refine⟨_,rfl,L,rfl,⟨_,SqL.of hL⟩,λDc hDc=>?_⟩
 refine zW (js:=[2]) (J:=Itl K L) (g:=zn 0) (te:=_) (n:=1) (xs:=ps.map V.int) (λi v G=>∃n,(ps.map (· * m))[i]? = some n/\v = .int n) (λ_ _ _ _ _ h=>h) hDc (zT hL) (zZ (by rw[List.length_map];omega)) ?_ ?_
 ·intro i y zs G Q' hy hz S hQ
  rw[List.getElem?_map]at hy
  cases hp:ps[i]? with
  | none=>rw[hp]at hy;cases hy
  | some p =>
   rw[hp]at hy;cases hy
   obtain⟨w1,rfl⟩:=v7 hz
   exact⟨rfl,_,rfl,_,rfl,_,_,rfl,rfl,⟨bM (z.bp (List.mem_of_getElem? hp)) (by decide),bM bm (by decide)⟩,hQ _ _ (zi.refl _) ⟨_,by rw[List.getElem?_map,hp];rfl,rfl⟩⟩
 intro us G S hDG hul hR
 dsimp only[zn]
 have e1:us=(ps.map (· * m)).map V.int:=v6 (by rw[List.length_map];rw[List.length_map]at hul;exact hul) λi v e=>hR i v e
 rw[e1]at hDG
 refine⟨_,rfl,Dc,_,rfl,.of hDG,by rw[List.length_map];omega,λD1 m1 hD1 p1 s1=>?_⟩
 have S1:=zi.upd (o:=.lst (m1.map V.int)) hD1
 have hD1':upd G D1 (.lst (m1.map V.int)) D1=some (.lst (m1.map V.int)):=zg
 generalize upd G D1 (.lst (m1.map V.int))=G1 at S1 hD1'
 refine⟨_,rfl,Dc,rfl,⟨_,SqL.of (S1 _ _ hDG)⟩,λDe hDe=>?_⟩
 refine zW (js:=[1,2]) (J:=Itl K Dc) (g:=zn 0) (te:=_) (n:=1) (xs:=(ps.map (· * m)).map V.int) (λi v G=>∃n,(ps.map λp=>(p*m+T) % (T*m))[i]? = some n/\v = .int n) (λ_ _ _ _ _ h=>h) hDe (zT (S1 _ _ hDG)) (zZ (by rw[List.length_map,List.length_map];omega)) ?_ ?_
 ·intro i y zs G2 Q' hy hz S2 hQ
  rw[List.map_map,List.getElem?_map]at hy
  cases hp:ps[i]? with
  | none=>rw[hp]at hy;cases hy
  | some p =>
   rw[hp]at hy;cases hy
   obtain⟨w1,rfl⟩:=v7 hz
   exact⟨rfl,_,rfl,_,rfl,_,_,rfl,rfl,_,rfl,_,rfl,_,_,rfl,rfl,⟨bM z.bT (by decide),bM bm (by decide)⟩,_,_,rfl,rfl,Int.mul_pos z.T0 m0,hQ _ _ (zi.refl _) ⟨_,by rw[List.getElem?_map,hp];rfl,rfl⟩⟩
 intro us2 G2 S2 hDG2 hul2 hR2
 have e2:us2=(ps.map λp=>(p*m+T) % (T*m)).map V.int:=v6 (by rw[List.length_map];rw[List.length_map,List.length_map]at hul2;exact hul2) λi v e=>hR2 i v e
 rw[e2]at hDG2
 refine⟨De,_,rfl,.of hDG2,by rw[List.length_map];omega,λD2 m2 hD2 p2 s2=>?_⟩
 have S3:=zi.upd (o:=.lst (m2.map V.int)) hD2
 refine⟨_,_,.lst (S3 _ _ (S2 _ _ hD1')) (jr m1),.lst zg (jr m2),zb7 m1,zb7 m2,?_⟩
 have ev:PyData.eqv (.list (m1.map .int)) (.list (m2.map .int))=zM ps T m:=by
  show PyData.eqvAll (m1.map .int) (m2.map .int)=_
  rw[jS,vo p1 s1,vo p2 s2];rfl
 rw[ev]
 exact k _ (S.trans (S1.trans (S2.trans S3)))
def zeT:Sp:=λvs H Q _=>∃L ps T,vs=[.ref L,.int T]/\H L=some (.lst (ps.map V.int))/\Phs ps T/\1<=ps.length/\∀(M:Nat) H',zi H H'->1<=M->M<=ps.length->zM ps T M=true->(∀m:Nat,1<=m->m<=ps.length->zM ps T m=true->m<=M)->Q (.int M) H'
theorem zdI:zx ["phases","trip"] ["phases","trip"] (zh xE):=⟨rfl,rfl,rfl,by decide +kernel,rfl,by decide +kernel,by decide +kernel⟩
theorem zeq (D:Df K mg "greatest_many" xE ["phases","trip"] []) (T1:TxB K mg) (cCg:Cal P w K mg base "comes_again" 1 ["phases","trip","many"] [] JZ):Cal P w K mg base "greatest_many" 2 ["phases","trip"] [] zeT:=by
 have T:=T1
 refine D.cal (k:=1) zdI (λvs H Q E h=>by obtain⟨_,_,_,rfl,_⟩:=h;rfl) (λf cdv A outer s H vs Q E hr h=>?_)
 obtain⟨L,ps,Tt,rfl,hL,z,l1,k⟩:=h
 have l8:=z.l8
 refine⟨_,(zj (zD (zw (Zk rfl) (by rfl) T.nMax PyProof.Rows.boot_max (za (xK (NB:=["many"]) (FR:=["phases","trip"]) (js:=[0,1]) rfl rfl (λx c h=>jE rfl rfl x c h) (.cons rfl rfl rfl ⟨_,rfl⟩ (.cons rfl rfl rfl ⟨_,rfl⟩ .nil)) rfl (by decide +kernel) rfl (by decide +kernel) (JR rfl T.nRange (za zd (za (zl zR (zw xq (by rfl) T.nLen PySem.boot_len (za (pv 0) ze)) zd) ze))) (by intro _ _ _;refine⟨?_,?_,?_⟩;(exact(zk (i:=0) (show List.Nodup (["many","phases","trip"]:List Str) by decide +kernel) rfl (Or.inl rfl)));(exact(Jj (JU (K:=K) rfl (zv cCg hr (za (pv 1) (za (pv 2) (za (pv 0) ze)))) λ_=>rfl)));(exact(pv 0)))) ze)))),?_⟩
 refine⟨_,rfl,L,_,rfl,.inl (.of hL),_,_,rfl,rfl,1,_,rfl,⟨by decide,by decide,by rw[List.length_map];omega,by rw[List.length_map];omega⟩,λDc hDc=>?_⟩
 rw[show (((ps.map V.int).length:Int)+1 - 1).toNat=ps.length by rw[List.length_map];omega]
 refine Zm (js:=[0,1]) (J:=Itr 1 ps.length) (g:=zn 0) (tt:=λσ H Q=>(jC JZ [] E0 (x6 (xN 1) (x6 (xN 2) (x6 (xN 0) ju)))) σ H λx H'=>∃k,zbp K x H' k/\Q k H') (te:=xN 0) (n:=1) (N:=ps.length) (λi G ys=>zi H G/\ys=((List.range i).filter λj:Nat=>zM ps Tt (1+(j:Int))).map λj:Nat=>V.int (1+(j:Int))) ⟨zi.upd hDc,rfl⟩ (λi G ys hi p=>hi) (λG ys p=>Nat.le_refl _) ?_ ?_
 ·rintro i x zs G2 G3 ys Nx hN hi hz hy ⟨S,rfl⟩ hD2
  obtain⟨rfl,rfl⟩:=hy
  obtain⟨w1,rfl⟩:=v7 hz
  refine⟨rfl,_,rfl,_,rfl,_,rfl,L,ps,Tt,1+(i:Int),rfl,S _ _ hL,z,by omega,?_,λG4 S4=>⟨zM ps Tt (1+(i:Int)),rfl,?_⟩⟩
  ·exact Bd.mono (m:=10) (show (1+(i:Int)).natAbs<2^10 by omega) (by decide)
  have hlen:(((List.range i).filter λj:Nat=>zM ps Tt (1+(j:Int))).map λj:Nat=>V.int (1+(j:Int))).length<sizeLine:=by
   have:=List.length_filter_le (λj:Nat=>zM ps Tt (1+(j:Int))) (List.range i)
   rw[List.length_range]at this
   have:(1000:Nat)<sizeLine:=by decide
   rw[List.length_map];omega
  cases hb:zM ps Tt (1+(i:Int))with
  | true =>
   refine xY ⟨_,rfl,S4 _ _ hD2,hlen,hN _ _ ⟨λb o e=>?_,?_⟩⟩
   ·rw[zB (zJ e hDc)];exact S4 _ _ (S _ _ e)
   ·rw[List.range_succ,List.filter_append,List.map_append];simp[hb]
  | false =>
   refine xZ ⟨S4 _ _ hD2,hN _ _ ⟨S.trans S4,?_⟩⟩
   rw[List.range_succ,List.filter_append,List.map_append];simp[hb]
 rintro G ys ⟨S,rfl⟩ hD2
 have mem:∀M:Int,M∈(((List.range ps.length).filter λj:Nat=>zM ps Tt (1+(j:Int))).map λj:Nat=>(1+(j:Int)))↔∃j:Nat,j<ps.length/\zM ps Tt (1+(j:Int))=true/\M=1+(j:Int):=λM=>by
  rw[List.mem_map]
  constructor
  ·rintro ⟨j,hj,rfl⟩
   obtain⟨h1,h2⟩:=List.mem_filter.mp hj
   exact⟨j,List.mem_range.mp h1,h2,rfl⟩
  ·rintro ⟨j,h1,h2,rfl⟩
   exact⟨j,List.mem_filter.mpr ⟨List.mem_range.mpr h1,h2⟩,rfl⟩
 have hone:(1:Int)∈(((List.range ps.length).filter λj:Nat=>zM ps Tt (1+(j:Int))).map λj:Nat=>(1+(j:Int))):=(mem 1).mpr ⟨0,by omega,by simpa using Jy z.ps,by simp⟩
 refine⟨Dc,_,rfl,by rw[show (((List.range ps.length).filter λj:Nat=>zM ps Tt (1+(j:Int))).map λj:Nat=>V.int (1+(j:Int)))=((((List.range ps.length).filter λj:Nat=>zM ps Tt (1+(j:Int))).map λj:Nat=>(1+(j:Int)))).map V.int by rw[List.map_map];rfl]at hD2;exact .of hD2,List.length_pos_of_mem hone,λM hM hmax=>?_⟩
 obtain⟨j,h1,h2,rfl⟩:=(mem M).mp hM
 have ej:(1+(j:Int))=((1+j:Nat):Int):=by omega
 rw[ej]at h2 ⊢
 refine k (1+j) G S (by omega) (by omega) h2 λm m1 m2 hm=>?_
 have:=hmax (m:Int) ((mem _).mpr ⟨m - 1,by omega,by rw[show (1+((m - 1:Nat):Int))=(m:Int) by omega];exact hm,by omega⟩)
 omega
end
end KK
end
section
set_option maxHeartbeats 8000000
set_option Elab.async false
set_option linter.all false
set_option maxRecDepth 100000
namespace KK
open PySem L2 KM
section
variable {P:Program}{w:World}{K:PySem.W.Frag}{mg:Str->Option Value}{base:Heap}{C CE:Addr}{aN:Addr}
def zeW (C:Addr):Sp:=λvs H Q _=>∃c t dx fs tp tk a b,vs=[V.ref c,.ref t]/\H c=some (.ins C dx fs)/\fs.lookup ("tick":Str)=some (V.ref tp)/\zI H tp tk/\H t=some (.tup [.int a,.int b])/\b≠0/\Bd 4400 a/\Bd 4400 b/\Sz 4400 tk ∧
 ∀r H',zi H H'->zI H' r (Rat.divInt (a*tk.num) (b*(tk.den:Int)))->Q (.ref r) H'
theorem zeN:zx ["course","ticks"] ["course","ticks"] (zh qx):=⟨rfl,rfl,rfl,by decide +kernel,rfl,by decide +kernel,by decide +kernel⟩
theorem zet {C:Addr}(D:Df K mg "moment_of" qx ["course","ticks"] []) (TC:TCo K C) (cR:Cal P w K mg base "ratio" 2 ["top","bottom"] [] XS):Cal P w K mg base "moment_of" 3 ["course","ticks"] [] (zeW C):=by
 refine D.cal (k:=2) zeN (λvs H Q E h=>by obtain⟨_,_,_,_,_,_,_,_,rfl,_⟩:=h;rfl) (λf cdv A outer s H vs Q E hr h=>?_)
 obtain⟨c,t,dx,fs,tp,tk,a,b,rfl,hc,e,htp,ht,hb,ba,bb,hz,k⟩:=h
 refine⟨_,(zj (zD (zv cR hr (za (zl zG (zE zH (pv 1) zd (λ_ _=>rfl)) (zE zH (qL (pv 0) rfl) zd (λ_ _=>rfl))) (za (zl zG (zE zH (pv 1) zd (λ_ _=>rfl)) (zE zH (qL (pv 0) rfl) zd (λ_ _=>rfl))) ze))))),?_⟩
 refine zac (Q:=Q) ?_
 refine⟨_,rfl,t,_,_,_,rfl,rfl,.of ht,at0 ..,_,rfl,c,C,dx,fs,_,rfl,hc,TC.cls,TC.tick,e,tp,_,_,_,rfl,rfl,.of htp,at0 ..,_,_,rfl,rfl,⟨ba.mono (by decide),hz.1.mono (by decide)⟩,?_⟩
 refine⟨_,rfl,t,_,_,_,rfl,rfl,.of ht,at1 ..,_,rfl,c,C,dx,fs,_,rfl,hc,TC.cls,TC.tick,e,tp,_,_,_,rfl,rfl,.of htp,at1 ..,_,_,rfl,rfl,⟨bb.mono (by decide),hz.2.mono (by decide)⟩,?_⟩
 exact⟨_,_,rfl,Int.mul_ne_zero hb (KM.zcL tk),(bb.mul hz.2).mono (by decide),k⟩
def qD (T k g:Int) (tk:Rat):Rat:=Rat.divInt (T*tk.num) (g*k*(tk.den:Int))
def vA (qs:List Rat):Int:=qs.foldl (λd q=>((Int.gcd (q.den:Int) d:Nat):Int)) 0
theorem Zp (qs:List Rat) (q:Rat):vA (qs++[q])=((Int.gcd (q.den:Int) (vA qs):Nat):Int):=by unfold vA;rw[List.foldl_append];rfl
theorem V3 (qs:List Rat):0<=vA qs:=by
 rcases List.eq_nil_or_concat qs with rfl | ⟨l,q,rfl⟩
 ·exact Int.le_refl _
 ·rw[List.concat_eq_append,Zp];omega
theorem Z8 (qs:List Rat):(∀q∈qs,vA qs ∣ (q.den:Int))/\∀d:Int,(∀q∈qs,d ∣ (q.den:Int))->d ∣ vA qs:=by
 suffices h:∀n,∀qs:List Rat,qs.length=n->(∀q∈qs,vA qs ∣ (q.den:Int))/\∀d:Int,(∀q∈qs,d ∣ (q.den:Int))->d ∣ vA qs from h _ qs rfl
 intro n
 induction n with
 | zero =>
  intro qs hq
  cases List.length_eq_zero_iff.mp hq
  exact⟨λq m=>(by cases m),λd _=>Int.dvd_zero d⟩
 | succ n ih =>
  intro qs hq
  rcases List.eq_nil_or_concat qs with rfl | ⟨l,q,rfl⟩
  ·simp at hq
  rw[List.concat_eq_append]at hq ⊢
  rw[Zp]
  obtain⟨i1,i2⟩:=ih l (by simpa using hq)
  refine⟨λu m=>?_,λd hd=>?_⟩
  ·rcases List.mem_append.mp m with m | m
   ·exact Int.dvd_trans (Int.gcd_dvd_right ..) (i1 u m)
   ·cases List.mem_singleton.mp m;exact Int.gcd_dvd_left ..
  ·exact Int.dvd_coe_gcd (hd q (by simp)) (i2 d λu m=>hd u (by simp[m]))
theorem Z9 {qs:List Rat}(h:1<=qs.length):0<vA qs/\∃q∈qs,vA qs<=(q.den:Int):=by
 match qs,h with
 | q::l,_ =>
  have d:=(Z8 (q::l)).1 q (by simp)
  have p:=den_pos q
  have nn:=V3 (q::l)
  refine⟨?_,q,by simp,Int.le_of_dvd p d⟩
  rcases Int.lt_or_eq_of_le nn with z | z
  ·exact z
  ·rw[<-z]at d;have:=Int.zero_dvd.mp d;omega
def ptL (T:Int) (tk:Rat) (kgs:List (Int×Int)):List Rat:=kgs.map λu=>qD T u.1 u.2 tk
def qB (qs:List Rat):Rat:=Rat.divInt (xJ (qs.map Rat.num)) (vA qs)
structure LrZ (T:Int) (tk:Rat) (kgs:List (Int×Int)):Prop where
 l1:1<=kgs.length
 l8:kgs.length<=8
 pos:∀u∈kgs,0<u.1/\0<u.2
 bk:∀u∈kgs,Bd 3000 u.1
 bg:∀u∈kgs,Bd 400 u.2
 num:∀q∈ptL T tk kgs,0<q.num
 bn:∀q∈ptL T tk kgs,Bd 400 q.num
 bd:∀q∈ptL T tk kgs,Bd 400 (q.den:Int)
 zt:Sz 4400 tk
def zba (C:Addr):Sp:=λvs H Q _=>∃c A ys kgs pb sb tk ws trs lo hi,vs=[.ref c,.ref A]/\XW H C c pb sb tk ws trs (some lo) (some hi)/\Wb (some lo)/\Wb (some hi)/\lo.1<hi.1/\H A=some (.lst ys)/\vz H ys kgs/\LrZ (2*(hi.1 - lo.1)) tk kgs ∧
 ∀r H',zi H H'->zI H' r (qB (ptL (2*(hi.1 - lo.1)) tk kgs))->Q (.ref r) H'
theorem ja:zx ["course","manies","trip","parts","divisor","top","bottom"] ["course","manies"] (zh xX):=⟨rfl,rfl,rfl,by decide +kernel,rfl,by decide +kernel,by decide +kernel⟩
def Xx (G:Hp) (us:List V) (qs:List Rat):Prop:=us.length=qs.length/\∀(i:Nat) (v:V),us[i]? = some v->∃q r,qs[i]? = some q/\v = .ref r/\zI G r q
theorem zdo (D:Df K mg "least_round" xX ["course","manies"] []) (TC:TCo K C) (cTr:Cal P w K mg base "trip_of" 1 ["course"] [] (Xn C)) (cG:Cal P w K mg base "greatest_divisor" 1 ["one","other"] [] QV) (cL:Cal P w K mg base "least_multiple" 2 ["numbers"] [] za8) (cR:Cal P w K mg base "ratio" 2 ["top","bottom"] [] XS) (cMo:Cal P w K mg base "moment_of" 3 ["course","ticks"] [] (zeW C)):Cal P w K mg base "least_round" 4 ["course","manies"] [] (zba C):=by
 refine D.cal (k:=3) ja (λvs H Q E h=>by obtain⟨_,_,_,_,_,_,_,_,_,_,_,rfl,_⟩:=h;rfl) (λf cdv A outer s H vs Q E hr3 h=>?_)
 obtain⟨c,Am,ys,kgs,pb,sb,tk,ws,trs,lo,hi,rfl,hco,wl,wh,hlh,hA,hP,Z,kk⟩:=h
 have hr1:xj 1 _:=hr3.mono (by decide)
 have hr2:xj 2 _:=hr3.mono (by decide)
 obtain⟨dx,fs,hc,F⟩:=id hco
 obtain⟨tp,et,htp⟩:=F.tick
 refine⟨_,(zf (zA (i:=2) ja.nd rfl (Or.inr rfl) (zv cTr hr1 (za (pv 0) ze)))
  (zf (vG (i:=3) (NB:=["pace","many"]) (FR:=["course","trip"]) (js:=[0,2]) rfl rfl (λx c h=>jE rfl rfl x c h) (.cons rfl rfl rfl ⟨_,rfl⟩ (.cons rfl rfl rfl ⟨_,rfl⟩ .nil)) rfl (by decide +kernel) rfl (by decide +kernel) ja.nd rfl rfl (by rfl) (zP (pv 1)) (by intro _ _ _;refine⟨?_,?_,?_⟩;(exact(q8 (K:=K) (n:=2) rfl rfl (zm (zk (i:=0) (show List.Nodup (["pace","many","course","trip"]:List Str) by decide +kernel) rfl (Or.inl rfl)) (zm (zk (i:=1) (show List.Nodup (["pace","many","course","trip"]:List Str) by decide +kernel) rfl (Or.inl rfl)) zO))));(exact zL);(exact(zv cMo hr3 (za (pv 2) (za (zN (za (pv 3) (za (zl zG (pv 1) (pv 0)) ze))) ze))))))
  (zf (zA (i:=4) ja.nd rfl (Or.inl rfl) zd)
  (zf (qj PassesOwn.never rfl (zP (pv 3)) (xP rfl (zm (zk (i:=5) ja.nd rfl (Or.inl rfl)) (zm (zk (i:=6) ja.nd rfl (Or.inl rfl)) zO))) (zj (zA (i:=4) ja.nd rfl (Or.inl rfl) (zv cG hr1 (za (pv 6) (za (pv 4) ze))))))
  (zj (zD (zv cR hr2 (za (zv cL hr2 (za (qo (NB:=["top","bottom"]) rfl (by decide +kernel) (by decide +kernel) rfl (by decide +kernel) (zP (pv 3)) (by intro _ _ _;refine⟨?_,?_,?_⟩;(exact(q8 (K:=K) (n:=2) rfl rfl (zm (zk (i:=0) (show List.Nodup (["top","bottom"]:List Str) by decide +kernel) rfl (Or.inl rfl)) (zm (zk (i:=1) (show List.Nodup (["top","bottom"]:List Str) by decide +kernel) rfl (Or.inl rfl)) zO))));(exact zL);(exact(pv 0)))) ze)) (za (pv 4) ze))))))))),?_⟩
 refine⟨_,rfl,c,pb,sb,tk,ws,trs,some lo,some hi,rfl,hco,wl,wh,?_⟩
 dsimp only[zn]
 have bT:Bd 3000 (2*(hi.1 - lo.1)):=(Ju wl wh (λl r e1 e2=>by cases e1;cases e2;exact hlh) _ rfl).2
 have hT:lv (Xo (some lo) (some hi))=V.int (2*(hi.1 - lo.1)):=rfl
 rw[hT]
 generalize 2*(hi.1 - lo.1)=T at *
 have bM:∀{n:Nat}{i:Int},Bd n i->n<=1000000->Bd 1000000 i:=λh l=>h.mono l
 obtain⟨l1,l8,pos,bk,bg,qn,bqn,bqd,zt⟩:=Z
 have yl:=hP.1
 have ql:(ptL T tk kgs).length=kgs.length:=List.length_map ..
 refine zU (λσ' G=>∃Dc us,σ'=[some (.ref c),some (.ref Am),some (.int T),some (.ref Dc),none,none,none]/\zi H G/\G Dc=some (.lst us)/\Xx G us (ptL T tk kgs)) ?_ ?_
 rotate_left
 ·intro nx hnx
  refine⟨_,rfl,Am,rfl,⟨_,SqL.of hA⟩,λDc hDc=>?_⟩
  refine zW (js:=[0,2]) (J:=Itl K Am) (g:=ZJ K 2 (qk (zn 0) (qk (zn 1) Z7))) (te:=_) (n:=2) (xs:=ys) (λi v G=>∃q r,(ptL T tk kgs)[i]? = some q/\v = .ref r/\zI G r q) (λi v G G' e ⟨q,r,q0,q1,q2⟩=>⟨q,r,q0,q1,e _ _ q2⟩) hDc (zT hA) (zZ (by omega)) ?_ ?_
  ·intro i y zs G Q' hy hz S hQ
   obtain⟨⟨k,g⟩,e,hu,rfl,he⟩:=hP.2 i y hy
   have mu:=List.mem_of_getElem? hu
   obtain⟨k0,g0⟩:=pos _ mu
   have bk':=bk _ mu
   have bg':=bg _ mu
   dsimp only at k0 g0 bk' bg' he
   obtain⟨w1,w2,rfl⟩:=jU hz
   refine⟨e,_,rfl,.of (S _ _ he),rfl,_,_,rfl,_,_,rfl,rfl,⟨rfl,?_⟩⟩
   refine⟨_,rfl,_,rfl,_,rfl,_,rfl,_,_,rfl,rfl,⟨bM bg' (by decide),bM bk' (by decide)⟩,by show 2<=sizeLine;decide,λtq htq=>?_⟩
   have s1:=zi.upd (o:=.tup [.int T,.int (g*k)]) htq
   refine⟨c,tq,dx,fs,tp,tk,T,g*k,rfl,s1 _ _ (S _ _ hc),et,s1 _ _ (S _ _ htp),zg,Int.ne_of_gt (Int.mul_pos g0 k0),bT.mono (by decide),(bg'.mul bk').mono (by decide),zt,λr H' s2 hr=>hQ _ _ (s1.trans s2) ⟨_,r,by unfold ptL;rw[List.getElem?_map,hu];rfl,rfl,hr⟩⟩
  intro us G S hDG hul hR
  exact hnx _ _ ⟨Dc,us,rfl,S,hDG,by rw[ql];omega,hR⟩
 rintro σ0 G ⟨Dc,us,rfl,S,hDG,hul,hRs⟩
 generalize hqs:ptL T tk kgs=qs at *
 refine zU (λσ' G'=>G=G'/\σ'=[some (.ref c),some (.ref Am),some (.int T),some (.ref Dc),some (.int 0),none,none]) ?_ ?_
 rotate_left
 ·intro nx hnx
  exact hnx _ _ ⟨rfl,rfl⟩
 rintro σ1 G1 ⟨rfl,rfl⟩
 refine zU (λσ' G'=>G=G'/\∃y5 y6,σ'=[some (.ref c),some (.ref Am),some (.int T),some (.ref Dc),some (.int (vA qs)),y5,y6]) ?_ ?_
 rotate_left
 ·intro nx hnx
  refine⟨_,rfl,Dc,rfl,⟨_,SqL.of hDG⟩,?_⟩
  refine vd (K:=K) (xs:=us) (λi σ' G'=>G=G'/\∃y5 y6,σ'=[some (.ref c),some (.ref Am),some (.int T),some (.ref Dc),some (.int (vA (qs.take i))),y5,y6]) ⟨rfl,none,none,rfl⟩ (λi σ' G' _ h=>by rw[<-h.1];exact SqL.of hDG) ?_ ?_
  ·rintro i x σ' G' hx ⟨rfl,y5,y6,rfl⟩
   obtain⟨q,r0,hq,rfl,hr0⟩:=hRs i x hx
   have dq:0<(q.den:Int):=den_pos q
   refine⟨r0,_,rfl,.of hr0,rfl,_,_,rfl,_,_,rfl,rfl,?_⟩
   dsimp only[zn]
   refine⟨_,rfl,_,rfl,(q.den:Int),vA (qs.take i),rfl,by omega,V3 _,?_⟩
   have eg:vA (qs.take (i+1))=((Int.gcd (q.den:Int) (vA (qs.take i)):Nat):Int):=by
    rw[List.take_add_one,hq];exact Zp ..
   dsimp only[zn]
   rw[<-eg]
   exact⟨rfl,_,_,rfl⟩
  ·rintro σ' G' ⟨rfl,y5,y6,rfl⟩
   exact hnx _ _ ⟨rfl,y5,y6,by rw[hul,List.take_length]⟩
 rintro σ' G' ⟨rfl,y5,y6,rfl⟩
 refine⟨_,rfl,Dc,rfl,⟨_,SqL.of hDG⟩,λDe hDe=>?_⟩
 refine qt (J:=Itl K Dc) (g:=ZJ K 2 (qk (zn 0) (qk (zn 1) Z7))) (te:=_) (n:=2) (xs:=us) (λi v G=>∃n,(qs.map Rat.num)[i]? = some n/\v = .int n) (λ_ _ _ _ _ h=>h) hDe (zT hDG) (zZ (by omega)) ?_ ?_
 ·intro i y zs G2 Q' hy hz S2 hQ
  obtain⟨q,r0,hq,rfl,hr0⟩:=hRs i y hy
  obtain⟨w1,w2,rfl⟩:=jU hz
  exact⟨r0,_,rfl,.of (S2 _ _ hr0),rfl,_,_,rfl,_,_,rfl,rfl,_,rfl,hQ _ _ (zi.refl _) ⟨_,by rw[List.getElem?_map,hq];rfl,rfl⟩⟩
 intro us2 G2 S2 hDG2 hul2 hR2
 have e2:us2=(qs.map Rat.num).map V.int:=v6 (by rw[List.length_map];omega) λi v e=>hR2 i v e
 rw[e2]at hDG2
 refine⟨De,qs.map Rat.num,rfl,hDG2,?_,by rw[List.length_map];omega,_,rfl,?_⟩
 ·intro x m
  obtain⟨q,mq,rfl⟩:=List.mem_map.mp m
  exact⟨qn q mq,bqn q mq⟩
 obtain⟨g0,q,mq,gl⟩:=Z9 (qs:=qs) (by omega)
 refine⟨xJ (qs.map Rat.num),vA qs,rfl,by omega,(Bd.of_le (j:=(q.den:Int)) (by omega) (bqd q mq)).mono (by decide),λr H' s3 hr=>kk r H' (S.trans (S2.trans s3)) hr⟩
end
end KK
end
section
set_option maxHeartbeats 8000000
set_option Elab.async false
set_option linter.all false
set_option maxRecDepth 100000
namespace KK
open PySem L2 KM
section
variable {P:Program}{w:World}{K:PySem.W.Frag}{mg:Str->Option Value}{base:Heap}{C CE:Addr}{aN:Addr}
def zdT:Sp:=λvs H Q _=>∃r a bs b0 l1 l2,vs=[.ref r,.ref a]/\Pl H r a bs b0 (some l1) (some l2)/\plB b0 bs (some l1) (some l2)=true/\∀H',zi H H'->Q .non H'
theorem zdM:zx ["row","walls"] ["row","walls"] (zh xF):=⟨rfl,rfl,rfl,by decide +kernel,rfl,by decide +kernel,by decide +kernel⟩
theorem zds (D:Df K mg "refuse_no_box" xF ["row","walls"] []) (cRu:Cal P w K mg base "refuse_uneven" 7 ["row","walls"] [] zeZ):Cal P w K mg base "refuse_no_box" 8 ["row","walls"] [] zdT:=by
 refine D.cal (k:=7) zdM (λvs H Q E h=>by obtain⟨_,_,_,_,_,_,rfl,_⟩:=h;rfl) (λf cdv A outer s H vs Q E hr7 h=>?_)
 obtain⟨r,a,bs,b0,l1,l2,rfl,pl,hp,k⟩:=h
 refine⟨_,(zf (xt (zv cRu hr7 (za (pv 0) (za (pv 1) ze)))) (zj (zV ((vU (zu jp (zE zH (pv 1) zd (λ_ _=>rfl)) qh (zy _)) (vO (zu jp (zE zH (pv 1) zd (λ_ _=>rfl)) qh (zy _))))).pt Zv zF))),?_⟩
 refine⟨_,rfl,_,rfl,r,a,bs,b0,_,_,rfl,pl,hp,λH1 e1=>?_⟩
 dsimp only
 obtain⟨v1,v2,ha,h1,h2⟩:=pl.walls
 have ha1:=e1 _ _ ha
 obtain⟨a1,_,_,rfl,_⟩:=h1
 obtain⟨a2,_,_,rfl,_⟩:=h2
 refine⟨_,rfl,a,_,_,_,rfl,rfl,.of ha1,at0 ..,rfl,_,rfl,xZ ⟨_,rfl,a,_,_,_,rfl,rfl,.of ha1,at1 ..,rfl,_,rfl,xZ (k H1 e1)⟩⟩
structure GmZ (T:Int) (ps:List Int) (M:Nat):Prop where
 m1:1<=M
 m2:M<=ps.length
 m3:zM ps T M=true
 m4:∀m:Nat,1<=m->m<=ps.length->zM ps T m=true->m<=M
structure KgZ (T:Int) (pss:List (Int×List Int)) (kgs:List (Int×Int)):Prop where
 pm:(kgs.map Prod.fst).Perm (pss.map Prod.fst)
 so:(kgs.map Prod.fst).Pairwise (·<=·)
 gm:∀u∈kgs,∃ps M,(u.1,ps)∈pss/\u.2=((M:Nat):Int)/\GmZ T ps M
structure RoG (bs:List Bl) (lo hi:Rat×Rat) (T s:Int) (tk:Rat) (pss:List (Int×List Int)):Prop where
 esb:s=sbO bs (some lo) (some hi)
 etk:tk=Rat.divInt (sbO bs (some lo) (some hi)) (pbO bs (some lo) (some hi))
 eT:T=2*((trB (pbO bs (some lo) (some hi)) (sbO bs (some lo) (some hi)) hi).1 - (trB (pbO bs (some lo) (some hi)) (sbO bs (some lo) (some hi)) lo).1)
 eph:phO (trB (pbO bs (some lo) (some hi)) (sbO bs (some lo) (some hi)) lo).1 T (bs.map λb=>trB (pbO bs (some lo) (some hi)) (sbO bs (some lo) (some hi)) (b.pl,b.sp))=pss
 l8:pss.length<=8
 zps:∀e∈pss,Phs e.2 T
 l1p:∀e∈pss,1<=e.2.length
 k0:∀e∈pss,0<e.1
 bk:∀e∈pss,Bd 3000 e.1
 pt:∀e∈pss,∀g:Nat,1<=g->g<=e.2.length->0<(qD T e.1 g tk).num/\Bd 400 (qD T e.1 g tk).num/\Bd 400 ((qD T e.1 g tk).den:Int)
def PcA (G:Hp) (us:List V) (s:Int) (kgs:List (Int×Int)):Prop:=us.length=kgs.length/\∀(i:Nat) (v:V),us[i]? = some v->∃u x y,kgs[i]? = some u/\v = .ref x/\G x=some (.tup [.ref y,.int u.2])/\zI G y (Rat.divInt u.1 s)
theorem PcA.same {G G':Hp}{us:List V}{s:Int}{kgs:List (Int×Int)} (h:PcA G us s kgs) (e:zi G G'):PcA G' us s kgs:=⟨h.1,λi v q=>let ⟨u,x,y,q1,q2,q3,q4⟩:=h.2 i v q;⟨u,x,y,q1,q2,e _ _ q3,e _ _ q4⟩⟩
def Jp:Sp:=λvs H Q _=>∃r a bs b0 lo hi T s tk pss,vs=[.ref r,.ref a]/\Ln H r a bs (some lo) (some hi)/\LnZ bs (some lo) (some hi)/\bs[0]? = some b0/\plB (tb b0) (bs.map tb) (some lo) (some hi)=true/\RoG bs lo hi T s tk pss ∧
 (pss=[]->∀H',zi H H'->Q .non H') ∧
 (pss≠[]->∀z H' kgs q l us,zi H H'->KgZ T pss kgs->H' z=some (.tup [.ref q,.ref l])->zI H' q (qB (ptL T tk kgs))->H l=none->H' l=some (.lst us)->PcA H' us s kgs->Q (.ref z) H')
theorem Qo:zx ["row","walls","course","phases","manies"] ["row","walls"] (zh qY):=⟨rfl,rfl,rfl,by decide +kernel,rfl,by decide +kernel,by decide +kernel⟩
theorem Qb {es:List Ent}(hk:(es.map (·.1)).Nodup){e:Ent}(m:e∈es):(es.find? λx=>decide (x.1=e.1))=some e:=by
 cases hf:es.find? λx=>decide (x.1=e.1)with
 | none=>exact absurd (decide_eq_true rfl) (List.find?_eq_none.mp hf e m)
 | some x =>
  have mx:=List.mem_of_find?_eq_some hf
  have kx:x.1=e.1:=of_decide_eq_true (List.find?_some (p:=λy:Ent=>decide (y.1=e.1)) hf)
  by_cases c:x=e
  ·rw[c]
  ·exact absurd kx (PhA.put.nodup_ne (f:=λy:Ent=>y.1) hk mx m c)
theorem zbV {H:Hp}{us:List V}{ms:List Int}{F:Int->Nat->Prop}(hl:us.length=ms.length) (h:∀(i:Nat) (v:V),us[i]? = some v->∃(k:Int) (x:Addr) (M:Nat),ms[i]? = some k/\v = .ref x/\H x=some (.tup [.int k,.int M])/\F k M) :
  ∃kgs:List (Int×Int),kgs.map Prod.fst=ms/\vz H us kgs/\∀u∈kgs,∃M:Nat,u.2=(M:Int)/\F u.1 M:=by
 induction us generalizing ms with
 | nil =>
  cases ms with
  | nil=>exact⟨[],rfl,⟨rfl,λi v e=>by simp at e⟩,λu m=>by cases m⟩
  | cons=>simp at hl
 | cons v us ih =>
  cases ms with
  | nil=>simp at hl
  | cons k ms =>
   obtain⟨kgs,e1,e2,e3⟩:=ih (ms:=ms) (by simpa using hl) (λi v e=>by have:=h (i+1) v (by simpa using e);simpa using this)
   obtain⟨k',x,M,q1,rfl,q3,q4⟩:=h 0 v rfl
   cases q1
   refine⟨(k,(M:Int))::kgs,by rw[List.map_cons,e1],⟨by simp[e2.1],λi w e=>?_⟩,λu m=>?_⟩
   ·match i,e with
    | 0,e=>cases e;exact⟨_,x,rfl,rfl,q3⟩
    | i+1,e=>exact e2.2 i w (by simpa using e)
   ·rcases List.mem_cons.mp m with rfl | m
    ·exact⟨M,rfl,q4⟩
    ·exact e3 u m
theorem zdt {fi:Addr}{fdi:FuncData}(D:Df K mg "round_of" qY ["row","walls"] []) (T:TxB K mg) (T3:Tx3 K mg aN) (TC:TCo K C) (M:Mk K C fi) (Fi:jD P w K mg base CX0 4 fi fdi ["self","row","walls"] (zdP C)) (hmC:mg "Course" = some (.ref C)) (Bi:jd K fdi ["self","row","walls"] [])
  (cNx:Cal P w K mg base "refuse_no_box" 8 ["row","walls"] [] zdT) (cPh:Cal P w K mg base "phases_of" 2 ["course"] [] (zdV C)) (cGm:Cal P w K mg base "greatest_many" 2 ["phases","trip"] [] zeT) (cTr:Cal P w K mg base "trip_of" 1 ["course"] [] (Xn C)) (cLr:Cal P w K mg base "least_round" 4 ["course","manies"] [] (zba C)) (cR:Cal P w K mg base "ratio" 2 ["top","bottom"] [] XS) :
  Cal P w K mg base "round_of" 9 ["row","walls"] [] Jp:=by
 refine D.cal (k:=8) Qo (λvs H Q E h=>by obtain⟨_,_,_,_,_,_,_,_,_,_,rfl,_⟩:=h;rfl) (λf cdv A outer s H vs Q E hr8 h=>?_)
 obtain⟨r,a,bs,b0,lo,hi,Tt,ss,tk,pss,rfl,ln,lz,h0,hp,Z0,kN,k⟩:=h
 have hr5:xj 5 _:=hr8.mono (by decide)
 have hr4:xj 4 _:=hr8.mono (by decide)
 have hr2:xj 2 _:=hr8.mono (by decide)
 have hr1:xj 1 _:=hr8.mono (by decide)
 have hu:=Nat.lt_of_le_of_lt (Nat.add_le_add_left (show 1<=64 by decide) _) hr8.units
 obtain⟨b0',e0',pl⟩:=ln.pl
 rw[h0]at e0';cases e0'
 refine⟨_,(zf (xt (zv cNx hr8 (za (pv 0) (za (pv 1) ze))))
  (zf (zA (i:=2) Qo.nd rfl (Or.inr rfl) (Jg M Fi hr5 (by rfl) hmC Bi .nil zaD (za (pv 0) (za (pv 1) ze))))
  (zf (zA (i:=3) Qo.nd rfl (Or.inr rfl) (zv cPh hr2 (za (pv 2) ze)))
  (zf (zV (zu x5 (zw Jw (by rfl) T.nLen PySem.boot_len (za (pv 3) ze)) zd (zy _)) (zj (zD qh)) zF)
  (zf (vG (i:=4) (NB:=["pace"]) (FR:=["phases","course"]) (js:=[3,2]) rfl rfl (λx c h=>jE rfl rfl x c h) (.cons rfl rfl rfl ⟨_,rfl⟩ (.cons rfl rfl rfl ⟨_,rfl⟩ .nil)) rfl (by decide +kernel) rfl (by decide +kernel) Qo.nd rfl rfl (by rfl) (zP (zw (Z4 rfl) (by rfl) T3.nSorted PyProof.Rows.boot_sorted (za (pv 3) ze))) (by intro _ _ _;refine⟨?_,?_,?_⟩;(exact(zk (i:=0) (show List.Nodup (["pace","phases","course"]:List Str) by decide +kernel) rfl (Or.inl rfl)));(exact zL);(exact(zN (za (pv 0) (za (zv cGm hr2 (za (ZP hu (pv 1) (pv 0) (λ_ _=>rfl)) (za (zv cTr hr1 (za (pv 2) ze)) ze))) ze))))))
  (zj (zD (zN (za (zv cLr hr4 (za (pv 2) (za (pv 4) ze))) (za (xK (NB:=["pace","many"]) (FR:=["course"]) (js:=[2]) rfl rfl (λx c h=>jk rfl x c h) (.cons rfl rfl rfl ⟨_,rfl⟩ .nil) rfl (by decide +kernel) rfl (by decide +kernel) (zP (pv 4)) (by intro _ _ _;refine⟨?_,?_,?_⟩;(exact(q8 (K:=K) (n:=2) rfl rfl (zm (zk (i:=0) (show List.Nodup (["pace","many","course"]:List Str) by decide +kernel) rfl (Or.inl rfl)) (zm (zk (i:=1) (show List.Nodup (["pace","many","course"]:List Str) by decide +kernel) rfl (Or.inl rfl)) zO))));(exact zL);(exact(zN (za (zv cR hr2 (za (pv 0) (za (Je (K:=K) rfl (pv 2) rfl) ze))) (za (pv 1) ze)))))) ze)))))))))),?_⟩
 refine⟨_,rfl,_,rfl,r,a,_,_,lo,hi,rfl,pl,hp,λH1 e1=>?_⟩
 dsimp only
 have ln1:=ln.same e1
 obtain⟨us,hrr,hB⟩:=ln1.row
 obtain⟨v1,v2,ha,h1,h2⟩:=ln1.walls
 refine⟨_,rfl,_,rfl,λc dx hc hdx ne=>?_⟩
 have S0:zi H1 (upd (upd H1 dx (.own c)) c (.ins C dx [])):=(zi.upd hdx).trans (zi.upd (by rw[zB ne.symm];exact hc))
 refine⟨c,dx,r,a,us,bs,v1,v2,some lo,some hi,rfl,zg,S0 _ _ hrr,hB.keeps (.of S0),S0 _ _ ha,h1.wl.keeps (.of S0),h2.wl.keeps (.of S0),ln.l8,λt mt=>⟨(lz.sz t mt).1.sz,(lz.sz t mt).2.sz⟩,λH2 X1 hcn=>⟨rfl,?_⟩⟩
 have hco:=hcn.co
 have S2:zi H H2:=e1.trans λb o e=>X1 b o (zJ e hc) (S0 b o e)
 dsimp only[zn]
 have Z:=lz.bd ln.l8
 obtain⟨esb,etk,eT,eph,l8p,zps,l1p,k0,bk,pt⟩:=Z0
 have hco':=hco
 rw[<-etk]at hco'
 generalize hpb:pbO bs (some lo) (some hi)=pb at *
 generalize hsb:sbO bs (some lo) (some hi)=sb at *
 have hlh:(trB pb sb lo).1<(trB pb sb hi).1:=Z.lh _ _ rfl rfl
 have wl:Wb (some (trB pb sb lo)):=Z.bl
 have wh:Wb (some (trB pb sb hi)):=Z.bh
 have hco2:XW H2 C c pb sb tk (bs.map Bl.wt) (bs.map λb=>trB pb sb (b.pl,b.sp)) (some (trB pb sb lo)) (some (trB pb sb hi)):=hco'
 refine⟨_,rfl,c,pb,sb,_,_,_,_,_,rfl,hco2,wl,wh,by rw[List.length_map];exact ln.l8,λad es H3 S3 ph eph2=>?_⟩
 dsimp only[zn]
 rw[<-eT,eph]at eph2
 have hd:=ph.d
 have esl:es.length=pss.length:=by rw[<-eph2];unfold vf;rw[List.length_map]
 have hkm:es.map (·.1)=pss.map Prod.fst:=by rw[<-eph2];unfold vf;rw[List.map_map];rfl
 have mps:∀e∈es,(e.1,e.2.2)∈pss:=λe m=>by rw[<-eph2];exact List.mem_map.mpr ⟨e,m,rfl⟩
 have SH3:zi H H3:=S2.trans S3
 refine⟨_,rfl,ad,_,rfl,hd,rfl,_,rfl,xO (λzc=>?_) (λzc=>?_)⟩
 ·have z0:((vJ es).length:Int)=0:=V.int.inj (of_decide_eq_true zc)
  rw[Vk,esl]at z0
  exact kN (List.length_eq_zero_iff.mp (by omega)) H3 SH3
 refine jx ?_
 have ne0:pss≠[]:=λe=>zc (decide_eq_true (by rw[Vk,esl,e];rfl))
 dsimp only
 have hco3:=hco2.same S3
 refine zU (λσ' G=>∃(Dm:Addr) (us:List V) (kgs:List (Int×Int)),σ'=[some (.ref r),some (.ref a),some (.ref c),some (.ref ad),some (.ref Dm)]/\zi H3 G/\G Dm=some (.lst us)/\vz G us kgs/\KgZ Tt pss kgs) ?_ ?_
 rotate_left
 ·intro nx hnx
  refine⟨_,rfl,ad,_,pss.map Prod.fst,rfl,hd,by rw[<-hkm];unfold vJ;rw[List.map_map,List.map_map];rfl,by rw[List.length_map];omega,λDs ms hDs pm sm=>?_⟩
  have S4:=zi.upd (o:=.lst (ms.map V.int)) hDs
  have hDs':upd H3 Ds (.lst (ms.map V.int)) Ds=some (.lst (ms.map V.int)):=zg
  generalize upd H3 Ds (.lst (ms.map V.int))=H4 at S4 hDs'
  have msl:ms.length=pss.length:=by rw[pm.length_eq,List.length_map]
  refine⟨Ds,rfl,⟨_,SqL.of hDs'⟩,λDm hDm=>?_⟩
  refine zW (js:=[3,2]) (J:=Itl K Ds) (g:=zn 0) (te:=_) (n:=1) (xs:=ms.map V.int) (λi v G=>∃(kp:Int) (x:Addr) (M:Nat),ms[i]? = some kp/\v = .ref x/\G x=some (.tup [.int kp,.int M])/\∃ps,(kp,ps)∈pss/\GmZ Tt ps M) (λi v G G' e ⟨kp,x,M,q0,q1,q2,q3⟩=>⟨kp,x,M,q0,q1,e _ _ q2,q3⟩) hDm (zT hDs') (zZ (by rw[List.length_map];omega)) ?_ ?_
  ·intro i y zs G Q' hy hz S hQ
   rw[List.getElem?_map]at hy
   cases hm:ms[i]? with
   | none=>rw[hm]at hy;cases hy
   | some kp =>
   rw[hm]at hy;cases hy
   obtain⟨w1,rfl⟩:=v7 hz
   have mk:kp∈es.map (·.1):=by rw[hkm];exact pm.subset (List.mem_of_getElem? hm)
   obtain⟨⟨kp',l,ps⟩,me,rfl⟩:=List.mem_map.mp mk
   have mp:=mps _ me
   have hl3:=ph.l _ me
   dsimp only at mp hl3 hm
   have SG:=S4.trans S
   have vk:vV (vJ es) (Sum.inl kp')=some (.ref l):=by rw[jK,Qb ph.k me];rfl
   have gd:ZV G ad (.int kp') (some (.ref l)):=by have:=ZV.k (k:=Sum.inl kp') (SG _ _ hd);rw[vk]at this;exact this
   refine⟨rfl,_,rfl,_,rfl,_,rfl,ad,.ref l,rfl,gd,_,rfl,c,pb,sb,tk,_,_,some (trB pb sb lo),some (trB pb sb hi),rfl,hco3.same SG,wl,wh,?_⟩
   have eT':lv (Xo (some (trB pb sb lo)) (some (trB pb sb hi)))=V.int Tt:=by rw[eT];rfl
   rw[eT']
   refine⟨l,ps,Tt,rfl,SG _ _ hl3,zps _ mp,l1p _ mp,λM G1 S1 m1 m2 m3 m4=>⟨by show 2<=sizeLine;decide,λe he=>hQ _ _ (S1.trans (zi.upd he)) ⟨kp',e,M,hm,rfl,zg,ps,mp,m1,m2,m3,m4⟩⟩⟩
  intro us G S hDG hul hR
  obtain⟨kgs,e1,e2,e3⟩:=zbV (H:=G) (us:=us) (ms:=ms) (F:=λkp M=>∃ps,(kp,ps)∈pss/\GmZ Tt ps M) (by rw[List.length_map]at hul;exact hul) hR
  exact hnx _ _ ⟨Dm,us,kgs,rfl,S4.trans S,hDG,e2,by rw[e1];exact pm,by rw[e1];exact sm,λu m=>let ⟨M,q1,ps,q2,q3⟩:=e3 u m;⟨ps,M,q2,q1,q3⟩⟩
 rintro σ' G ⟨Dm,us,kgs,rfl,SG,hDm,hPm,kz⟩
 have hcoG:=hco3.same SG
 have ztk:Sz 4400 tk:=by rw[etk];exact Z.tz.mono (by decide)
 have eT2:2*((trB pb sb hi).1 - (trB pb sb lo).1)=Tt:=eT.symm
 have kl:kgs.length=pss.length:=by have:=kz.pm.length_eq;rw[List.length_map,List.length_map]at this;exact this
 have pl0:1<=pss.length:=by rcases pss with _ | ⟨x,l⟩;exact absurd rfl ne0;simp
 have each:∀u∈kgs,(0<u.1/\0<u.2)/\Bd 3000 u.1/\Bd 400 u.2/\0<(qD Tt u.1 u.2 tk).num/\Bd 400 (qD Tt u.1 u.2 tk).num/\Bd 400 ((qD Tt u.1 u.2 tk).den:Int):=λu m=>by
  obtain⟨ps,M,q1,q2,q3⟩:=kz.gm u m
  have l8:=(zps _ q1).l8
  have m1:=q3.m1
  have m2:=q3.m2
  dsimp only at l8
  rw[q2]
  exact⟨⟨k0 _ q1,by omega⟩,bk _ q1,Bd.mono (m:=10) (show (M:Int).natAbs<2^10 by omega) (by decide),pt _ q1 M m1 m2⟩
 have each':∀q∈ptL Tt tk kgs,0<q.num/\Bd 400 q.num/\Bd 400 (q.den:Int):=λq m=>by
  obtain⟨u,mu,rfl⟩:=List.mem_map.mp m
  exact(each u mu).2.2.2
 have lrz:LrZ Tt tk kgs:=⟨by omega,by omega,λu m=>(each u m).1,λu m=>(each u m).2.1,λu m=>(each u m).2.2.1,λq m=>(each' q m).1,λq m=>(each' q m).2.1,λq m=>(each' q m).2.2,ztk⟩
 refine⟨_,rfl,_,rfl,c,Dm,us,kgs,pb,sb,tk,_,_,trB pb sb lo,trB pb sb hi,rfl,hcoG,wl,wh,hlh,hDm,hPm,by rw[eT2];exact lrz,λq G1 S1 hq=>?_⟩
 rw[eT2]at hq
 have hDm1:=S1 _ _ hDm
 have uln:=hPm.1
 refine⟨_,rfl,Dm,rfl,⟨_,SqL.of hDm1⟩,λDn hDn=>?_⟩
 obtain⟨dx4,fs4,hc4,F4⟩:=hcoG.same S1
 refine zW (js:=[2]) (J:=Itl K Dm) (g:=ZJ K 2 (qk (zn 0) (qk (zn 1) Z7))) (te:=_) (n:=2) (xs:=us) (λi v G=>∃u x y,kgs[i]? = some u/\v = .ref x/\G x=some (.tup [.ref y,.int u.2])/\zI G y (Rat.divInt u.1 sb)) (λi v G G' e ⟨u,x,y,q0,q1,q2,q3⟩=>⟨u,x,y,q0,q1,e _ _ q2,e _ _ q3⟩) hDn (zT hDm1) (zZ (by omega)) ?_ ?_
 ·intro i y zs G2 Q' hy hz S2' hQ
  obtain⟨u,e,hu',rfl,he⟩:=hPm.2 i y hy
  obtain⟨w1,w2,rfl⟩:=jU hz
  refine⟨e,_,rfl,.of (S2' _ _ (S1 _ _ he)),rfl,_,_,rfl,_,_,rfl,rfl,⟨rfl,?_⟩⟩
  refine⟨_,rfl,_,rfl,c,C,dx4,fs4,_,rfl,S2' _ _ hc4,TC.cls,TC.sb,F4.sb,u.1,sb,rfl,Int.ne_of_gt Z.sb.1,Z.sb.2.mono (by decide),λy G3 S3' hy3=>?_⟩
  exact⟨_,rfl,by show 2<=sizeLine;decide,λx hx=>hQ _ _ (S3'.trans (zi.upd hx)) ⟨u,x,y,hu',rfl,zg,zi.upd hx _ _ hy3⟩⟩
 intro us2 G2 S2' hDG2 hul2 hR2
 refine⟨by show 2<=sizeLine;decide,λz hz=>?_⟩
 have SZ:=zi.upd (o:=.tup [.ref q,.ref Dn]) hz
 have fr:H Dn=none:=by
  cases e:H Dn with
  | none=>rfl
  | some o=>rw[S1 _ _ (SG _ _ (SH3 _ _ e))]at hDn;cases hDn
 exact k ne0 z _ kgs q Dn us2 (SH3.trans (SG.trans (S1.trans (S2'.trans SZ)))) kz zg (SZ _ _ (S2' _ _ hq)) fr (SZ _ _ hDG2) (PcA.same ⟨by omega,λi v e=>by rw[esb];exact hR2 i v e⟩ SZ)
end
end KK
end
section
set_option maxHeartbeats 8000000
set_option Elab.async false
set_option linter.all false
set_option maxRecDepth 100000
namespace KK
open PySem L2 KM
theorem Xf {a b c:Int}(hc:0<c):a*c<b*c↔a<b:=⟨λh=>Int.lt_of_mul_lt_mul_right h (by omega),λh=>Int.mul_lt_mul_of_pos_right h hc⟩
theorem zdb {a b c:Int}(hc:0<c):a*c=b*c↔a=b:=⟨λh=>Int.eq_of_mul_eq_mul_right (by omega) h,λh=>by rw[h]⟩
end KK
end
section
set_option maxHeartbeats 8000000
set_option Elab.async false
set_option linter.all false
set_option maxRecDepth 100000
namespace KK
open PySem L2 KM
theorem zbt {x:Rat}{b:Int}(h:(x.den:Int) ∣ b):byB x b*(x.den:Int)=x.num*b:=by
 obtain⟨k,ek⟩:=h
 have d1:0<(x.den:Int):=by have:=x.den_pos;omega
 have f1:b.fdiv (x.den:Int)=k:=by rw[Int.fdiv_eq_ediv_of_nonneg _ (by omega),ek];exact Int.mul_ediv_cancel_left _ (by omega)
 unfold byB
 rw[f1,ek,Int.mul_assoc,Int.mul_comm k]
theorem Zn {t b:Int}(hb:b≠0):(Rat.divInt t b).num*b=t*((Rat.divInt t b).den:Int):=by
 have h:=Rat.num_divInt_den (Rat.divInt t b)
 rw[Rat.divInt_eq_divInt_iff (by have:=(Rat.divInt t b).den_pos;omega) hb]at h
 exact h
theorem ZM {t b p:Int}(hb:b≠0) (h:((Rat.divInt t b).den:Int) ∣ p):byB (Rat.divInt t b) p*b=t*p:=by
 have h1:=zbt h
 have h2:=Zn (t:=t) hb
 have d1:((Rat.divInt t b).den:Int)≠0:=by have:=(Rat.divInt t b).den_pos;omega
 refine Int.eq_of_mul_eq_mul_right d1 ?_
 rw[Int.mul_right_comm,h1,Int.mul_right_comm,h2,Int.mul_right_comm]
theorem Vx {bs:List Bl}{lo hi:Wl}(h:LnZ bs lo hi) (l8:bs.length<=8){t:Rat×Rat}(m:t∈ths bs lo hi):(t.1.den:Int) ∣ pbO bs lo hi/\(t.2.den:Int) ∣ sbO bs lo hi:=by
 have hl:=vH (lo:=lo) (hi:=hi) l8
 obtain⟨p1,p2,p3⟩:=zbC (qs:=(ths bs lo hi).map (·.1)) (λq m=>by obtain⟨t,mt,rfl⟩:=List.mem_map.mp m;exact(h.sz t mt).1.2) (by rw[List.length_map];exact hl)
 obtain⟨s1,s2,s3⟩:=zbC (qs:=(ths bs lo hi).map (·.2)) (λq m=>by obtain⟨t,mt,rfl⟩:=List.mem_map.mp m;exact(h.sz t mt).2.2) (by rw[List.length_map];exact hl)
 exact⟨p3 _ (List.mem_map.mpr ⟨t,m,rfl⟩),s3 _ (List.mem_map.mpr ⟨t,m,rfl⟩)⟩
section
variable {un be wt top bot:Int}{lo hi:Option Int}{js:List (Int×Int)}
def pW (un be wt:Int) (lo hi:Option Int) (js:List (Int×Int)):Int:=pbO (js.map (blO un be wt)) (wlO un lo) (wlO un hi)
def sW (un be wt:Int) (lo hi:Option Int) (js:List (Int×Int)):Int:=sbO (js.map (blO un be wt)) (wlO un lo) (wlO un hi)
theorem WoZ.pos (z:WoZ un be lo hi js wt):0<pW un be wt lo hi js/\0<sW un be wt lo hi js:=by
 have h:=z.lnz.bd (by rw[List.length_map];exact z.l8)
 exact⟨h.pb.1,h.sb.1⟩
end
end KK
end
section
set_option maxHeartbeats 8000000
set_option Elab.async false
set_option linter.all false
set_option maxRecDepth 100000
namespace KK
open PySem L2 KM
theorem ZU {c:Int}(hc:0<c) (l:List Int):vE (l.map (· * c))=(vE l).map (· * c):=by
 refine(vo ((vy l).map _) ?_).symm
 exact List.pairwise_map.mpr ((Qr l).imp λh=>Int.mul_le_mul_of_nonneg_right h (by omega))
theorem QA {c T m:Int}(hc:0<c) (ps:List Int):zM (ps.map (· * c)) (T*c) m=zM ps T m:=by
 unfold zM
 have e1:(ps.map (· * c)).map (· * m)=(ps.map (· * m)).map (· * c):=by
  rw[List.map_map,List.map_map];exact List.map_congr_left λp _=>by show p*c*m=p*m*c;grind
 have e2:(ps.map (· * c)).map (λp=>(p*m+T*c) % (T*c*m))=(ps.map λp=>(p*m+T) % (T*m)).map (· * c):=by
  rw[List.map_map,List.map_map]
  refine List.map_congr_left λp _=>?_
  show (p*c*m+T*c) % (T*c*m)=(p*m+T) % (T*m)*c
  rw[show p*c*m+T*c=c*(p*m+T) by grind,show T*c*m=c*(T*m) by grind,Int.mul_emod_mul_of_pos _ _ hc,Int.mul_comm]
 rw[e1,e2,ZU hc,ZU hc]
 have inj:∀{a b:List Int},a.map (· * c)=b.map (· * c)↔a=b:=λ{a b}=>⟨λh=>map_inj hc h,λh=>by rw[h]⟩
 rw[decide_eq_decide]
 exact inj
where
 map_inj {c:Int}(hc:0<c):∀{a b:List Int},a.map (· * c)=b.map (· * c)->a=b
  | [],[],_=>rfl
  | [],_::_,h=>by cases h
  | _::_,[],h=>by cases h
  | x::a,y::b,h=>by
   rw[List.map_cons,List.map_cons]at h
   injection h with h1 h2
   rw[(zdb hc).mp h1,map_inj hc h2]
theorem Zl {c c' T T' m:Int}(hc:0<c) (hc':0<c'){ps qs:List Int}(e:ps.map (· * c)=qs.map (· * c')) (eT:T*c=T'*c'):zM ps T m=zM qs T' m:=by
 refine(QA (m:=m) (T:=T) hc ps).symm.trans ?_
 rw[e,eT]
 exact QA hc' qs
def scP (c d:Int) (e:Int×List Int):Int×List Int:=(e.1*c,e.2.map (· * d))
theorem VR {c d:Int}(hc:0<c) (ps:List (Int×List Int)) (k w:Int):(vR ps k w).map (scP c d)=vR (ps.map (scP c d)) (k*c) (w*d):=by
 have ke:∀x:Int,x*c=k*c↔x=k:=λx=>⟨λh=>Int.eq_of_mul_eq_mul_right (by omega) h,λh=>by rw[h]⟩
 have ea:((ps.map (scP c d)).any λp=>decide (p.1=k*c))=ps.any λp=>decide (p.1=k):=by
  rw[List.any_map]
  congr 1
  funext p
  show decide (p.1*c=k*c)=decide (p.1=k)
  rw[decide_eq_decide];exact ke p.1
 unfold vR
 rw[ea]
 split
 ·rw[List.map_map,List.map_map]
  refine List.map_congr_left λp _=>?_
  show scP c d (if p.1=k then(p.1,p.2++[w])else p)=if p.1*c=k*c then((scP c d p).1,(scP c d p).2++[w*d])else scP c d p
  by_cases q:p.1=k
  ·rw[if_pos q,if_pos ((ke _).mpr q)]
   show (p.1*c,(p.2++[w]).map (· * d))=(p.1*c,p.2.map (· * d)++[w*d])
   rw[List.map_append];rfl
  ·rw[if_neg q,if_neg (λz=>q ((ke _).mp z))]
 ·rw[List.map_append];rfl
theorem JQ {c d l T:Int}(hc:0<c) (ps:List (Int×List Int)) (t:Int×Int):(qr l T ps t).map (scP c d)=qr (l*d) (T*d) (ps.map (scP c d)) (t.1*d,t.2*c):=by
 have p0:0<t.2*c↔0<t.2:=by have:=Xf (a:=0) (b:=t.2) hc;rw[Int.zero_mul]at this;exact this
 have n0:t.2*c<0↔t.2<0:=by have:=Xf (a:=t.2) (b:=0) hc;rw[Int.zero_mul]at this;exact this
 unfold qr
 dsimp only
 by_cases a:0<t.2
 ·rw[if_pos a,if_pos (p0.mpr a),VR hc,Int.sub_mul]
 ·rw[if_neg a,if_neg (λz=>a (p0.mp z))]
  by_cases b:t.2<0
  ·rw[if_pos b,if_pos (n0.mpr b),VR hc,Int.sub_mul,Int.sub_mul,Int.neg_mul]
  ·rw[if_neg b,if_neg (λz=>b (n0.mp z))]
theorem zaI {c d l T:Int}(hc:0<c) (ts:List (Int×Int)):(phO l T ts).map (scP c d)=phO (l*d) (T*d) (ts.map λt=>(t.1*d,t.2*c)):=by
 unfold phO
 suffices h:∀(ts:List (Int×Int)) ps,(ts.foldl (qr l T) ps).map (scP c d)=(ts.map λt=>(t.1*d,t.2*c)).foldl (qr (l*d) (T*d)) (ps.map (scP c d))from h ts []
 intro ts
 induction ts with
 | nil=>intro ps;rfl
 | cons t ts ih=>intro ps;rw[List.foldl_cons,ih,JQ hc];rfl
theorem jo {ps:List (Int×List Int)}{k w:Int}{e:Int×List Int}(m:e∈vR ps k w):e=(k,[w])\/e∈ps\/∃o∈ps,o.1=k/\e=(k,o.2++[w]):=by
 unfold vR at m
 split at m
 ·obtain⟨o,mo,rfl⟩:=List.mem_map.mp m
  by_cases q:o.1=k
  ·rw[if_pos q];exact .inr (.inr ⟨o,mo,q,by rw[q]⟩)
  ·rw[if_neg q];exact .inr (.inl mo)
 ·rcases List.mem_append.mp m with m | m
  ·exact .inr (.inl m)
  ·exact .inl (List.mem_singleton.mp m)
theorem J8 (ps:List (Int×List Int)) (k w:Int):(vR ps k w).length<=ps.length+1:=by
 unfold vR
 split
 ·rw[List.length_map];omega
 ·rw[List.length_append];simp
theorem zbr (ps:List (Int×List Int)) (k w:Int):vR ps k w≠[]:=by
 unfold vR
 split
 ·rename_i h
  intro z
  rw[List.map_eq_nil_iff.mp z]at h;cases h
 ·simp
theorem zbq {ps:List (Int×List Int)}{k w:Int}(h:(ps.map Prod.fst).Nodup):((vR ps k w).map Prod.fst).Nodup:=by
 unfold vR
 split
 ·rw[List.map_map]
  have:(ps.map (Prod.fst ∘ λp:Int×List Int=>if p.1=k then(p.1,p.2++[w])else p))=ps.map Prod.fst:=List.map_congr_left λp _=>by
   show (if p.1=k then(p.1,p.2++[w])else p).1=p.1
   split <;> rfl
  rw[this];exact h
 ·rename_i hn
  rw[List.map_append]
  refine List.nodup_append.mpr ⟨h,by simp,λb hb c hc=>?_⟩
  obtain⟨e,m,rfl⟩:=List.mem_map.mp hb
  simp at hc;subst hc
  exact λz=>hn (List.any_eq_true.mpr ⟨e,m,decide_eq_true z⟩)
structure PhJ (l T:Int) (js:List (Int×Int)) (ps:List (Int×List Int)):Prop where
 nd:(ps.map Prod.fst).Nodup
 k0:∀e∈ps,0<e.1
 l1:∀e∈ps,1<=e.2.length
 ll:∀e∈ps,e.2.length<=js.length
 pl:ps.length<=js.length
 of:∀e∈ps,∃u∈js,u.2=e.1\/u.2 = -e.1
 inn:∀e∈ps,∀q∈e.2,0<=q/\q<T
 mv:ps=[]↔∀u∈js,u.2=0
theorem PhJ.add {l T:Int}{js:List (Int×Int)}{ps:List (Int×List Int)} (h:PhJ l T js ps){u:Int×Int}{k w:Int}(hk:0<k) (hu:u.2=k\/u.2 = -k) (hw:0<=w/\w<T):PhJ l T (js++[u]) (vR ps k w):=by
 have hl:(js++[u]).length=js.length+1:=by simp
 refine⟨zbq h.nd,λe m=>?_,λe m=>?_,λe m=>?_,by have:=J8 ps k w;have:=h.pl;omega,λe m=>?_,λe m=>?_,?_⟩
 ·rcases jo m with rfl | m | ⟨o,mo,q,rfl⟩
  ·exact hk
  ·exact h.k0 e m
  ·exact hk
 ·rcases jo m with rfl | m | ⟨o,mo,q,rfl⟩
  ·simp
  ·exact h.l1 e m
  ·simp
 ·rcases jo m with rfl | m | ⟨o,mo,q,rfl⟩
  ·simp
  ·have:=h.ll e m;omega
  ·have:=h.ll o mo;simp;omega
 ·rcases jo m with rfl | m | ⟨o,mo,q,rfl⟩
  ·exact⟨u,by simp,hu⟩
  ·obtain⟨v,mv,q⟩:=h.of e m;exact⟨v,by simp[mv],q⟩
  ·exact⟨u,by simp,hu⟩
 ·rcases jo m with rfl | m | ⟨o,mo,q,rfl⟩
  ·intro q mq;cases List.mem_singleton.mp mq;exact hw
  ·exact h.inn e m
  ·intro x mx
   rcases List.mem_append.mp mx with mx | mx
   ·exact h.inn o mo x mx
   ·cases List.mem_singleton.mp mx;exact hw
 ·constructor
  ·intro z;exact absurd z (zbr ps k w)
  ·intro z
   have:=z u (by simp)
   omega
theorem zdB {l T:Int}{js:List (Int×Int)} (hj:∀u∈js,(0<u.2->0<=u.1 - l/\u.1 - l<T)/\(u.2<0->0<=T - (u.1 - l)/\T - (u.1 - l)<T)):PhJ l T js (phO l T js):=by
 unfold phO
 suffices h:∀(ts ds:List (Int×Int)) ps,(∀u∈ts,u∈js)->PhJ l T ds ps->PhJ l T (ds++ts) (ts.foldl (qr l T) ps)from
  h js [] [] (λu m=>m) ⟨by simp,λe m=>(by cases m),λe m=>(by cases m),λe m=>(by cases m),by simp,λe m=>(by cases m),λe m=>(by cases m),by simp⟩
 intro ts
 induction ts with
 | nil=>intro ds ps _ h;rw[List.append_nil];exact h
 | cons t ts ih =>
  intro ds ps hm h
  rw[List.foldl_cons,show ds++t::ts=(ds++[t])++ts by simp]
  refine ih _ _ (λu m=>hm u (by simp[m])) ?_
  obtain⟨h1,h2⟩:=hj t (hm t (by simp))
  unfold qr
  by_cases a:0<t.2
  ·rw[if_pos a];exact h.add a (.inl rfl) (h1 a)
  ·rw[if_neg a]
   by_cases b:t.2<0
   ·rw[if_pos b];exact h.add (by omega) (.inr (by omega)) (h2 b)
   ·rw[if_neg b]
    have hl:(ds++[t]).length=ds.length+1:=by simp
    refine⟨h.nd,h.k0,h.l1,λe m=>by have:=h.ll e m;omega,by have:=h.pl;omega,λe m=>let ⟨v,mv,q⟩:=h.of e m;⟨v,by simp[mv],q⟩,h.inn,?_⟩
    rw[h.mv]
    constructor
    ·intro z u m
     rcases List.mem_append.mp m with m | m
     ·exact z u m
     ·cases List.mem_singleton.mp m;omega
    ·intro z u m;exact z u (by simp[m])
end KK
end
section
set_option maxHeartbeats 8000000
set_option Elab.async false
set_option linter.all false
set_option maxRecDepth 100000
namespace KK
open PySem L2 KM
structure zec (un be wt l far:Int) (js:List (Int×Int)) (T s:Int) (tk:Rat) (pss:List (Int×List Int)):Prop where
 d:RoG (js.map (blO un be wt)) (Rat.divInt l un,0) (Rat.divInt (l+far) un,0) T s tk pss
 nil:pss=[]↔phO l (2*far) js=[]
 kg:∀kgs,KgZ T pss kgs->∃kgw,KgZ (2*far) (phO l (2*far) js) kgw/\kgw.length=kgs.length ∧
  ∀(i:Nat) (u:Int×Int),kgs[i]? = some u->∃v,kgw[i]? = some v/\v.2=u.2/\Rat.divInt u.1 s=Rat.divInt v.1 be/\qD T u.1 u.2 tk=Rat.divInt (2*far*be) (un*v.1*v.2)
 sp:0<s
 lk:∃p,0<p/\pss.map (scP be un)=(phO l (2*far) js).map (scP s p)/\T*un=2*far*p
 pe:∀pc pace g:Int,pc*be=pace*s->0<pace->0<g->qD T pc g tk=Rat.divInt (2*far*be) (un*pace*g)
theorem Xg {a b:Int}(ha:0<a) (hb:0<b):0<(Rat.divInt a b).num:=by
 have h:=Zn (t:=a) (b:=b) (by omega)
 have d:=(Rat.divInt a b).den_pos
 have:0<a*((Rat.divInt a b).den:Int):=Int.mul_pos ha (by omega)
 rw[<-h]at this
 rcases Int.lt_or_le 0 (Rat.divInt a b).num with c | c
 ·exact c
 ·have:=Int.mul_nonpos_of_nonpos_of_nonneg c (show 0<=b by omega);omega
theorem GmZ.two {c c' T T':Int}(hc:0<c) (hc':0<c'){ps qs:List Int}{M:Nat}(h:GmZ T ps M) (e:ps.map (· * c)=qs.map (· * c')) (eT:T*c=T'*c'):GmZ T' qs M:=by
 have l:ps.length=qs.length:=by have:=congrArg List.length e;rw[List.length_map,List.length_map]at this;exact this
 have cm:∀m,zM ps T m=zM qs T' m:=λm=>Zl hc hc' e eT
 exact⟨h.m1,by rw[<-l];exact h.m2,by rw[<-cm];exact h.m3,λm a b q=>h.m4 m a (by rw[l];exact b) (by rw[cm];exact q)⟩
theorem WoZ.phj {un be wt l far:Int}{js:List (Int×Int)} (z:WoZ un be (some l) (some (l+far)) js wt):PhJ l (2*far) js (phO l (2*far) js) :=
 zdB λu m=>by
  have a1:=z.il u m l rfl
  have a2:=z.ih u m (l+far) rfl
  have hf:=z.lh _ _ rfl rfl
  exact⟨λh=>⟨by omega,by omega⟩,λh=>⟨by omega,by omega⟩⟩
section
variable {un be wt l far:Int}{js:List (Int×Int)}
theorem XR (z:WoZ un be (some l) (some (l+far)) js wt):∃T s tk pss,zec un be wt l far js T s tk pss:=by
 have hu:0<un:=z.un.1
 have he:0<be:=z.be.1
 have hf:0<far:=by have:=z.lh _ _ rfl rfl;omega
 obtain⟨hp,hs⟩:=z.pos
 have l8:(js.map (blO un be wt)).length<=8:=by rw[List.length_map];exact z.l8
 have Z:=z.lnz.bd l8
 have pj:=z.phj
 have tr:∀u∈js,(trB (pW un be wt (some l) (some (l+far)) js) (sW un be wt (some l) (some (l+far)) js) ((blO un be wt u).pl,(blO un be wt u).sp)).1*un=u.1*pW un be wt (some l) (some (l+far)) js/\(trB (pW un be wt (some l) (some (l+far)) js) (sW un be wt (some l) (some (l+far)) js) ((blO un be wt u).pl,(blO un be wt u).sp)).2*be=u.2*sW un be wt (some l) (some (l+far)) js:=λu m=>by
  have mb:=Vx z.lnz l8 (zcC (lo:=wlO un (some l)) (hi:=wlO un (some (l+far))) (List.mem_map.mpr ⟨u,m,rfl⟩))
  exact⟨ZM (by omega) mb.1,ZM (by omega) mb.2⟩
 have elo:(trB (pW un be wt (some l) (some (l+far)) js) (sW un be wt (some l) (some (l+far)) js) (Rat.divInt l un,0)).1*un=l*pW un be wt (some l) (some (l+far)) js:=ZM (by omega) (Vx z.lnz l8 (t:=(Rat.divInt l un,0)) (VM rfl)).1
 have ehi:(trB (pW un be wt (some l) (some (l+far)) js) (sW un be wt (some l) (some (l+far)) js) (Rat.divInt (l+far) un,0)).1*un=(l+far)*pW un be wt (some l) (some (l+far)) js:=ZM (by omega) (Vx z.lnz l8 (t:=(Rat.divInt (l+far) un,0)) (VL rfl)).1
 have wl:Wb (some (trB (pW un be wt (some l) (some (l+far)) js) (sW un be wt (some l) (some (l+far)) js) (Rat.divInt l un,0))):=Z.bl
 have wh:Wb (some (trB (pW un be wt (some l) (some (l+far)) js) (sW un be wt (some l) (some (l+far)) js) (Rat.divInt (l+far) un,0))):=Z.bh
 have hlh:(trB (pW un be wt (some l) (some (l+far)) js) (sW un be wt (some l) (some (l+far)) js) (Rat.divInt l un,0)).1<(trB (pW un be wt (some l) (some (l+far)) js) (sW un be wt (some l) (some (l+far)) js) (Rat.divInt (l+far) un,0)).1:=Z.lh _ _ rfl rfl
 have bT:=Ju wl wh (λa b e1 e2=>by cases e1;cases e2;exact hlh) _ rfl
 have btr:∀u∈js,Bd 2000 (trB (pW un be wt (some l) (some (l+far)) js) (sW un be wt (some l) (some (l+far)) js) ((blO un be wt u).pl,(blO un be wt u).sp)).2:=λu m=>(Z.tr _ (List.mem_map.mpr ⟨u,m,rfl⟩)).2
 have ep:pbO (js.map (blO un be wt)) (some (Rat.divInt l un,0)) (some (Rat.divInt (l+far) un,0))=pW un be wt (some l) (some (l+far)) js:=rfl
 have es:sbO (js.map (blO un be wt)) (some (Rat.divInt l un,0)) (some (Rat.divInt (l+far) un,0))=sW un be wt (some l) (some (l+far)) js:=rfl
 generalize hpp:pW un be wt (some l) (some (l+far)) js=p at *
 generalize hss:sW un be wt (some l) (some (l+far)) js=s at *
 obtain⟨L0,hL0⟩:∃L0,L0=(trB p s (Rat.divInt l un,0)).1:=⟨_,rfl⟩
 obtain⟨H0,hH0⟩:∃H0,H0=(trB p s (Rat.divInt (l+far) un,0)).1:=⟨_,rfl⟩
 rw[<-hL0]at elo hlh
 rw[<-hH0]at ehi hlh
 have eT:2*(H0 - L0)*un=2*far*p:=by grind
 have bT':Bd 3000 (2*(H0 - L0)):=by rw[hH0,hL0];exact bT.2
 have T0:0<2*(H0 - L0):=by omega
 obtain⟨tk,htk⟩:∃tk,tk=Rat.divInt s p:=⟨_,rfl⟩
 obtain⟨pss,hpss⟩:∃pss,pss=phO L0 (2*(H0 - L0)) (js.map λu=>trB p s ((blO un be wt u).pl,(blO un be wt u).sp)):=⟨_,rfl⟩
 have link:pss.map (scP be un)=(phO l (2*far) js).map (scP s p):=by
  rw[hpss,zaI he,zaI hs,elo,eT,List.map_map]
  congr 1
  exact List.map_congr_left λu m=>by
   obtain⟨a,b⟩:=tr u m
   show ((trB p s _).1*un,(trB p s _).2*be)=_
   rw[a,b]
 generalize hpw:phO l (2*far) js=pws at *
 have lkm:∀e∈pss,∃e'∈pws,e.1*be=e'.1*s/\e.2.map (· * un)=e'.2.map (· * p):=λe m=>by
  have:scP be un e∈pws.map (scP s p):=by rw[<-link];exact List.mem_map.mpr ⟨e,m,rfl⟩
  obtain⟨e',m',q⟩:=List.mem_map.mp this
  unfold scP at q
  injection q with q1 q2
  exact⟨e',m',q1.symm,q2.symm⟩
 have lll:pss.length=pws.length:=by have:=congrArg List.length link;rw[List.length_map,List.length_map]at this;exact this
 have jU:∀{a b:List Int},a.map (· * un)=b.map (· * p)->a.length=b.length:=λ{a b} h=>by have:=congrArg List.length h;rw[List.length_map,List.length_map]at this;exact this
 have pos2:∀{a b:Int},a*be=b*s->0<b->0<a:=λ{a b} h hb=>by
  have:=Int.mul_pos hb hs
  rw[<-h]at this
  rcases Int.lt_or_le 0 a with c | c
  ·exact c
  ·have:=Int.mul_nonpos_of_nonpos_of_nonneg c (show 0<=be by omega);omega
 have ptE:∀(pc pace g:Int),pc*be=pace*s->0<pace->0<g->qD (2*(H0 - L0)) pc g tk=Rat.divInt (2*far*be) (un*pace*g):=λpc pace g hpc hp0 g0=>by
  have pc0:=pos2 hpc hp0
  unfold qD
  have dt:0<(tk.den:Int):=den_pos tk
  have cr:tk.num*p=s*(tk.den:Int):=by rw[htk];exact Zn (by omega)
  have n1:g*pc*(tk.den:Int)≠0:=Int.ne_of_gt (Int.mul_pos (Int.mul_pos g0 pc0) dt)
  have n2:un*pace*g≠0:=Int.ne_of_gt (Int.mul_pos (Int.mul_pos hu hp0) g0)
  rw[Rat.divInt_eq_divInt_iff n1 n2]
  have e1:2*(H0 - L0)*tk.num*(un*pace*g)=(2*(H0 - L0)*un)*(tk.num*pace*g):=by grind
  have e2:2*far*be*(g*pc*tk.den)=2*far*g*(tk.den:Int)*(pc*be):=by grind
  rw[e1,eT,e2,hpc,show 2*far*p*(tk.num*pace*g)=2*far*pace*g*(tk.num*p) by grind,cr]
  grind
 have b70:∀e∈pws,Bd 70 e.1:=λe m=>by
  obtain⟨u,mu,q⟩:=pj.of e m
  have:=(z.bd u mu).2
  rcases q with q | q
  ·rw[<-q];exact this
  ·rw[show e.1 = -u.2 by omega];exact this.neg
 refine⟨2*(H0 - L0),s,tk,pss,⟨?_,?_,?_,?_,?_,?_,?_,?_,?_,?_⟩,?_,?_,hs,⟨p,hp,by rw[hpw];exact link,eT⟩,ptE⟩
 ·rw[es]
 ·rw[es,ep];exact htk
 ·rw[es,ep,hH0,hL0]
 ·rw[es,ep,List.map_map,<-hL0,hpss];rfl
 ·have:=pj.pl;have:=z.l8;omega
 ·intro e m
  obtain⟨e',m',q1,q2⟩:=lkm e m
  refine⟨T0,bT',by have:=pj.ll e' m';have:=z.l8;have:=jU q2;omega,λq mq=>?_⟩
  have:q*un∈e'.2.map (· * p):=by rw[<-q2];exact List.mem_map.mpr ⟨q,mq,rfl⟩
  obtain⟨q',mq',e1⟩:=List.mem_map.mp this
  have e1:q*un=q'*p:=e1.symm
  obtain⟨a1,a2⟩:=pj.inn e' m' q' mq'
  refine⟨?_,?_⟩
  ·have k0:=Xf (a:=q) (b:=0) hu
   have k1:=Int.mul_nonneg a1 (show 0<=p by omega)
   rw[e1,Int.zero_mul]at k0
   omega
  ·rw[<-Xf hu,e1,eT,Xf hp];exact a2
 ·intro e m
  obtain⟨e',m',q1,q2⟩:=lkm e m
  rw[jU q2];exact pj.l1 e' m'
 ·intro e m
  obtain⟨e',m',q1,q2⟩:=lkm e m
  exact pos2 q1 (pj.k0 e' m')
 ·intro e m
  obtain⟨e',m',q1,q2⟩:=lkm e m
  obtain⟨u,mu,q⟩:=pj.of e' m'
  have h:=(tr u mu).2
  have b:=(btr u mu).mono (m:=2000) (n:=3000) (by decide)
  rcases q with q | q
  ·have:(trB p s ((blO un be wt u).pl,(blO un be wt u).sp)).2=e.1:=Int.eq_of_mul_eq_mul_right (show be≠0 by omega) (by rw[h,q,q1])
   rw[<-this];exact b
  ·have:(trB p s ((blO un be wt u).pl,(blO un be wt u).sp)).2 = -e.1:=Int.eq_of_mul_eq_mul_right (show be≠0 by omega) (by rw[h,q,Int.neg_mul,Int.neg_mul,q1])
   rw[show e.1 = - -e.1 by omega,<-this];exact b.neg
 ·intro e m g g1 g2
  obtain⟨e',m',q1,q2⟩:=lkm e m
  have g0:0<(g:Int):=by omega
  have p0:=pj.k0 e' m'
  rw[ptE e.1 e'.1 g q1 p0 g0]
  have b12:∀x:Int,1<=x/\x<=12->Bd 4 x:=λx h=>(show x.natAbs<2^4 by omega)
  have bfar:Bd 74 far:=by
   have h1:=z.bl l rfl
   have h2:=z.bh (l+far) rfl
   have:=h2.sub h1
   rw[show l+far - l=far by omega]at this
   exact this.mono (by decide)
  have gl:g<=8:=by have:=pj.ll e' m';have:=z.l8;have:=jU q2;omega
  have bA:Bd 400 (2*far*be):=(((show Bd 3 (2:Int)from(show (2:Int).natAbs<2^3 by decide)).mul bfar).mul (b12 _ z.be)).mono (by decide)
  have bB:Bd 400 (un*e'.1*(g:Int)):=(((b12 _ z.un).mul (b70 e' m')).mul (show Bd 5 (g:Int)from(show (g:Int).natAbs<2^5 by omega))).mono (by decide)
  have pB:0<un*e'.1*(g:Int):=Int.mul_pos (Int.mul_pos hu p0) g0
  have sz:Sz 400 (Rat.divInt (2*far*be) (un*e'.1*(g:Int))):=.divInt (by omega) bA bB
  exact⟨Xg (Int.mul_pos (by omega) he) pB,sz.1,sz.2⟩
 ·rw[hpw]
  constructor
  ·intro h;rw[h]at lll;exact List.length_eq_zero_iff.mp lll.symm
  ·intro h;rw[h]at lll;exact List.length_eq_zero_iff.mp lll
 ·intro kgs kz
  rw[hpw]
  have back:∀u∈kgs,∃e'∈pws,∃M:Nat,u.1*be/s=e'.1/\u.1*be=e'.1*s/\u.2=(M:Int)/\1<=M/\GmZ (2*far) e'.2 M:=λu m=>by
   obtain⟨ps,M,q1,q2,q3⟩:=kz.gm u m
   obtain⟨e',m',r1,r2⟩:=lkm _ q1
   dsimp only at r1 r2
   exact⟨e',m',M,by rw[r1];exact Int.mul_ediv_cancel _ (by omega),r1,q2,q3.m1,q3.two hu hp r2 eT⟩
  refine⟨kgs.map λu=>(u.1*be/s,u.2),⟨?_,?_,?_⟩,List.length_map ..,λi u hi=>?_⟩
  ·have h1:(kgs.map λu=>(u.1*be/s,u.2)).map Prod.fst=(kgs.map Prod.fst).map λk=>k*be/s:=by rw[List.map_map,List.map_map];rfl
   have h2:pws.map Prod.fst=(pss.map Prod.fst).map λk=>k*be/s:=by
    have:=congrArg (List.map λe:Int×List Int=>e.1/s) link
    rw[List.map_map,List.map_map]at this
    rw[List.map_map]
    refine Eq.trans ?_ this.symm
    exact List.map_congr_left λe _=>(Int.mul_ediv_cancel e.1 (show s≠0 by omega)).symm
   rw[h1,h2]
   exact kz.pm.map _
  ·rw[List.map_map]
   refine List.pairwise_map.mpr ((List.pairwise_map.mp kz.so).imp λ{a b} h=>?_)
   show a.1*be/s<=b.1*be/s
   exact Int.ediv_le_ediv hs (Int.mul_le_mul_of_nonneg_right h (by omega))
  ·intro v m
   obtain⟨u,mu,rfl⟩:=List.mem_map.mp m
   obtain⟨e',m',M,r1,r2,r3,_,r4⟩:=back u mu
   exact⟨e'.2,M,by show (u.1*be/s,e'.2)∈pws;rw[r1];exact m',r3,r4⟩
  ·refine⟨(u.1*be/s,u.2),by rw[List.getElem?_map,hi];rfl,rfl,?_,?_⟩
   all_goals obtain⟨e',m',M,r1,r2,r3,r5,r4⟩:=back u (List.mem_of_getElem? hi)
   all_goals dsimp only
   all_goals rw[r1]
   ·rw[Rat.divInt_eq_divInt_iff (by omega) (by omega),r2]
   ·exact ptE u.1 e'.1 u.2 r2 (pj.k0 e' m') (by omega)
end
end KK
end
section
set_option maxHeartbeats 8000000
set_option Elab.async false
set_option linter.all false
set_option maxRecDepth 100000
namespace KK
open PySem L2 KM
theorem X8 {a b c:Int}(h:a ∣ b*c) (g:Int.gcd a b=1):a ∣ c:=by
 rw[<-Int.natAbs_dvd_natAbs]at h ⊢
 rw[Int.natAbs_mul]at h
 exact Nat.Coprime.dvd_of_dvd_mul_left g h
theorem V4 {c n:Int}(hc:0<c):∃g c' n':Int,g=(Int.gcd c n:Int)/\0<g/\c=g*c'/\n=g*n'/\Int.gcd c' n'=1:=by
 have g0:0<Int.gcd c n:=Int.gcd_pos_of_ne_zero_left _ (by omega)
 refine⟨(Int.gcd c n:Int),c/(Int.gcd c n:Int),n/(Int.gcd c n:Int),rfl,by omega,?_,?_,Int.gcd_ediv_gcd_ediv_gcd g0⟩
 ·exact(Int.mul_ediv_cancel' (Int.gcd_dvd_left ..)).symm
 ·exact(Int.mul_ediv_cancel' (Int.gcd_dvd_right ..)).symm
theorem JK {c n X:Int}(hc:0<c) (h1:c ∣ X) (h2:n ∣ X):c/(Int.gcd c n:Int)*n ∣ X:=by
 obtain⟨g,c',n',eg,g0,e1,e2,co⟩:=V4 (c:=c) (n:=n) hc
 rw[<-eg]
 have ec:c/g=c':=by rw[e1];exact Int.mul_ediv_cancel_left _ (by omega)
 rw[ec]
 obtain⟨x,hx⟩:=h2
 have h3:g*c' ∣ g*(n'*x):=by rw[<-e1,<-Int.mul_assoc,<-e2,<-hx];exact h1
 have h4:c' ∣ x:=X8 (Int.dvd_of_mul_dvd_mul_left (by omega) h3) co
 rw[hx,Int.mul_comm c' n]
 exact Int.mul_dvd_mul (Int.dvd_refl n) h4
theorem Xc:∀{ks:List Int}{c:Int},0<c->(∀k∈ks,0<k)->0<ks.foldl (λc n=>c/(Int.gcd c n:Int)*n) c/\c ∣ ks.foldl (λc n=>c/(Int.gcd c n:Int)*n) c/\(∀k∈ks,k ∣ ks.foldl (λc n=>c/(Int.gcd c n:Int)*n) c)/\∀X,c ∣ X->(∀k∈ks,k ∣ X)->ks.foldl (λc n=>c/(Int.gcd c n:Int)*n) c ∣ X
 | [],c,hc,_=>⟨hc,Int.dvd_refl c,λk m=>(by cases m),λX h _=>h⟩
 | n::ks,c,hc,hk=>by
  have hn:=hk n (by simp)
  obtain⟨i1,i2,i3,i4⟩:=Xc (ks:=ks) (jl hc hn) λk m=>hk k (by simp[m])
  obtain⟨d1,d2⟩:=V9 hc hn
  rw[List.foldl_cons]
  refine⟨i1,Int.dvd_trans d1 i2,λk m=>?_,λX h1 h2=>i4 X (JK hc h1 (h2 n (by simp))) λk m=>h2 k (by simp[m])⟩
  rcases List.mem_cons.mp m with rfl | m
  ·exact Int.dvd_trans d2 i2
  ·exact i3 k m
def ve (qs:List Rat):Int:=qs.foldl (λb q=>b*(q.den:Int)) 1
theorem zaL:∀(qs:List Rat) (b:Int),0<b->0<qs.foldl (λb q=>b*(q.den:Int)) b/\b ∣ qs.foldl (λb q=>b*(q.den:Int)) b/\∀q∈qs,(q.den:Int) ∣ qs.foldl (λb q=>b*(q.den:Int)) b
 | [],b,hb=>⟨hb,Int.dvd_refl b,λq m=>by cases m⟩
 | q::qs,b,hb=>by
  obtain⟨i1,i2,i3⟩:=zaL qs (b*(q.den:Int)) (Int.mul_pos hb (den_pos q))
  rw[List.foldl_cons]
  refine⟨i1,Int.dvd_trans (Int.dvd_mul_right ..) i2,λr m=>?_⟩
  rcases List.mem_cons.mp m with rfl | m
  ·exact Int.dvd_trans (Int.dvd_mul_left ..) i2
  ·exact i3 r m
theorem zau {qs:List Rat}(l1:1<=qs.length) (hn:∀q∈qs,0<q.num):qB qs=Rat.divInt (xJ (qs.map λq=>q.num*(ve qs/(q.den:Int)))) (ve qs):=by
 obtain⟨B0,_,Bd'⟩:=zaL qs 1 (by decide)
 have B0:0<ve qs:=B0
 have Bd':∀q∈qs,(q.den:Int) ∣ ve qs:=Bd'
 generalize ve qs=B at *
 obtain⟨G0,_⟩:=Z9 l1
 obtain⟨Gd,_⟩:=Z8 qs
 have bq:∀q∈qs,∃r:Int,0<r/\B=(q.den:Int)*r/\B/(q.den:Int)=r:=λq m=>by
  obtain⟨r,e⟩:=Bd' q m
  have d0:=den_pos q
  refine⟨r,?_,e,by rw[e];exact Int.mul_ediv_cancel_left _ (by omega)⟩
  rcases Int.lt_or_le 0 r with c | c
  ·exact c
  ·have:=Int.mul_nonpos_of_nonneg_of_nonpos (show 0<=(q.den:Int) by omega) c;omega
 have t0:∀t∈qs.map (λq=>q.num*(B/(q.den:Int))),0<t:=λt m=>by
  obtain⟨q,mq,rfl⟩:=List.mem_map.mp m
  obtain⟨r,r0,_,er⟩:=bq q mq
  rw[er];exact Int.mul_pos (hn q mq) r0
 have n0:∀t∈qs.map Rat.num,0<t:=λt m=>by
  obtain⟨q,mq,rfl⟩:=List.mem_map.mp m
  exact hn q mq
 obtain⟨L0,_,Ld,Lu⟩:=Xc (c:=1) (by decide) t0
 obtain⟨N0,_,Nd,Nu⟩:=Xc (c:=1) (by decide) n0
 unfold qB
 change 0<xJ (qs.map λq=>q.num*(B/(q.den:Int)))at L0
 change ∀k∈_,k ∣ xJ (qs.map λq=>q.num*(B/(q.den:Int)))at Ld
 change ∀X,1 ∣ X->_->xJ (qs.map λq=>q.num*(B/(q.den:Int))) ∣ X at Lu
 change 0<xJ (qs.map Rat.num)at N0
 change ∀k∈_,k ∣ xJ (qs.map Rat.num)at Nd
 change ∀X,1 ∣ X->_->xJ (qs.map Rat.num) ∣ X at Nu
 generalize xJ (qs.map λq=>q.num*(B/(q.den:Int)))=L at *
 generalize xJ (qs.map Rat.num)=N at *
 rw[Rat.divInt_eq_divInt_iff (by omega) (by omega)]
 have Ld':∀q∈qs,q.num*B ∣ L*(q.den:Int):=λq m=>by
  obtain⟨r,r0,e,er⟩:=bq q m
  have h:=Ld _ (List.mem_map.mpr ⟨q,m,rfl⟩)
  rw[er]at h
  rw[e,show q.num*((q.den:Int)*r)=q.num*r*(q.den:Int) by grind]
  exact Int.mul_dvd_mul h (Int.dvd_refl _)
 refine Int.dvd_antisymm (Int.le_of_lt (Int.mul_pos N0 B0)) (Int.le_of_lt (Int.mul_pos L0 G0)) ?_ ?_
 ·
  obtain⟨e,c,d,ee,e0,eL,eB,co⟩:=V4 (c:=L) (n:=B) L0
  have step:∀q∈qs,q.num*d ∣ c*(q.den:Int):=λq m=>by
   have h:=Ld' q m
   rw[eL,eB,show q.num*(e*d)=e*(q.num*d) by grind,Int.mul_assoc]at h
   exact Int.dvd_of_mul_dvd_mul_left (by omega) h
  have d1:∀q∈qs,d ∣ (q.den:Int):=λq m=>X8 (Int.dvd_trans (Int.dvd_mul_left ..) (step q m)) (by rw[Int.gcd_comm];exact co)
  have n1:∀q∈qs,q.num ∣ c:=λq m=>by
   have h:=Int.dvd_trans (Int.dvd_mul_right ..) (step q m)
   rw[Int.mul_comm]at h
   exact X8 h (by show Nat.gcd q.num.natAbs (q.den:Int).natAbs=1;exact q.reduced)
  have nN:N ∣ c:=Nu c (Int.one_dvd c) λk m=>by obtain⟨q,mq,rfl⟩:=List.mem_map.mp m;exact n1 q mq
  have dG:d ∣ vA qs:=(Z8 qs).2 d d1
  rw[eL,eB,show N*(e*d)=e*(N*d) by grind,Int.mul_assoc]
  exact Int.mul_dvd_mul (Int.dvd_refl e) (Int.mul_dvd_mul nN dG)
 ·
  obtain⟨q0,m0⟩:∃q0,q0∈qs:=List.exists_mem_of_length_pos (by omega)
  have each:∀q∈qs,q.num*(B/(q.den:Int))*vA qs ∣ N*B:=λq m=>by
   obtain⟨r,r0,e,er⟩:=bq q m
   rw[er,e,show N*((q.den:Int)*r)=N*r*(q.den:Int) by grind]
   exact Int.mul_dvd_mul (Int.mul_dvd_mul (Nd _ (List.mem_map.mpr ⟨q,m,rfl⟩)) (Int.dvd_refl r)) (Gd q m)
  obtain⟨x,hx⟩:vA qs ∣ N*B:=Int.dvd_trans (Int.dvd_mul_left ..) (each q0 m0)
  rw[hx,Int.mul_comm L (vA qs)]
  refine Int.mul_dvd_mul (Int.dvd_refl (vA qs)) (Lu x (Int.one_dvd x) λk m=>?_)
  obtain⟨q,mq,rfl⟩:=List.mem_map.mp m
  have h:=each q mq
  rw[hx,Int.mul_comm _ (vA qs)]at h
  exact Int.dvd_of_mul_dvd_mul_left (by omega) h
end KK
end
section
set_option maxHeartbeats 8000000
set_option Elab.async false
set_option linter.all false
set_option maxRecDepth 100000
namespace KK
open PySem L2 KM
end KK
end
section
set_option maxHeartbeats 8000000
set_option Elab.async false
set_option linter.all false
set_option maxRecDepth 100000
namespace KK
open PySem L2 KM
section
variable {P:Program}{w:World}{K:PySem.W.Frag}{mg:Str->Option Value}{base:Heap}{C CE:Addr}{aN:Addr}
theorem Jm:zx ["spots","around","many","wide"] ["spots","around","many"] (zh qv):=⟨rfl,rfl,rfl,by decide +kernel,rfl,by decide +kernel,by decide +kernel⟩
theorem zbO (D:Df K mg "_law_stays" qv ["spots","around","many"] []) (T3:Tx3 K mg aN):Cal P w K mg base "_law_stays" 1 ["spots","around","many"] [] JZ:=by
 refine D.cal (k:=0) Jm (λvs H Q E h=>by obtain⟨_,_,_,_,rfl,_⟩:=h;rfl) (λf cdv A outer s H vs Q E hr h=>?_)
 obtain⟨L,ps,T,m,rfl,hL,z,m0,bm,k⟩:=h
 have hu:=hr.units
 have bM:∀{n:Nat}{i:Int},Bd n i->n<=1000000->Bd 1000000 i:=λh l=>h.mono l
 have l8:=z.l8
 refine⟨_,(zf (vG (i:=3) (NB:=["spot"]) (FR:=["many"]) (js:=[2]) rfl rfl (λx c h=>jk rfl x c h) (.cons rfl rfl rfl ⟨_,rfl⟩ .nil) rfl (by decide +kernel) rfl (by decide +kernel) Jm.nd rfl rfl (by rfl) (zP (pv 0)) (by intro _ _ _;refine⟨?_,?_,?_⟩;(exact(zk (i:=0) (show List.Nodup (["spot","many"]:List Str) by decide +kernel) rfl (Or.inl rfl)));(exact zL);(exact(zl zG (pv 0) (pv 1)))))
  (zj (zD (qF (Xh hu) (zw vZ (by rfl) T3.nSorted PyProof.Rows.boot_sorted (za (xK (NB:=["spot"]) (FR:=["around","many"]) (js:=[1,2]) rfl rfl (λx c h=>jE rfl rfl x c h) (.cons rfl rfl rfl ⟨_,rfl⟩ (.cons rfl rfl rfl ⟨_,rfl⟩ .nil)) rfl (by decide +kernel) rfl (by decide +kernel) (zP (pv 3)) (by intro _ _ _;refine⟨?_,?_,?_⟩;(exact(zk (i:=0) (show List.Nodup (["spot","around","many"]:List Str) by decide +kernel) rfl (Or.inl rfl)));(exact zL);(exact(zl qC (zl zR (pv 0) (pv 1)) (zl zG (pv 1) (pv 2)))))) ze)) (zw vZ (by rfl) T3.nSorted PyProof.Rows.boot_sorted (za (pv 3) ze)) (zy _))))),?_⟩
 unfold VJ VI
 refine⟨_,rfl,L,rfl,⟨_,SqL.of hL⟩,λDc hDc=>?_⟩
 refine zW (js:=[2]) (J:=Itl K L) (g:=zn 0) (te:=_) (n:=1) (xs:=ps.map V.int) (λi v G=>∃n,(ps.map (· * m))[i]? = some n/\v = .int n) (λ_ _ _ _ _ h=>h) hDc (zT hL) (zZ (by rw[List.length_map];omega)) ?_ ?_
 ·intro i y zs G Q' hy hz S hQ
  rw[List.getElem?_map]at hy
  cases hp:ps[i]? with
  | none=>rw[hp]at hy;cases hy
  | some p =>
   rw[hp]at hy;cases hy
   obtain⟨w1,rfl⟩:=v7 hz
   exact⟨rfl,_,rfl,_,rfl,_,_,rfl,rfl,⟨bM (z.bp (List.mem_of_getElem? hp)) (by decide),bM bm (by decide)⟩,hQ _ _ (zi.refl _) ⟨_,by rw[List.getElem?_map,hp];rfl,rfl⟩⟩
 intro us G S hDG hul hR
 dsimp only[zn]
 have e1:us=(ps.map (· * m)).map V.int:=v6 (by rw[List.length_map];rw[List.length_map]at hul;exact hul) λi v e=>hR i v e
 rw[e1]at hDG
 refine⟨_,rfl,Dc,rfl,⟨_,SqL.of hDG⟩,λDe hDe=>?_⟩
 refine zW (js:=[1,2]) (J:=Itl K Dc) (g:=zn 0) (te:=_) (n:=1) (xs:=(ps.map (· * m)).map V.int) (λi v G=>∃n,(ps.map λp=>(p*m+T) % (T*m))[i]? = some n/\v = .int n) (λ_ _ _ _ _ h=>h) hDe (zT hDG) (zZ (by rw[List.length_map,List.length_map];omega)) ?_ ?_
 ·intro i y zs G2 Q' hy hz S2 hQ
  rw[List.map_map,List.getElem?_map]at hy
  cases hp:ps[i]? with
  | none=>rw[hp]at hy;cases hy
  | some p =>
   rw[hp]at hy;cases hy
   obtain⟨w1,rfl⟩:=v7 hz
   exact⟨rfl,_,rfl,_,rfl,_,_,rfl,rfl,_,rfl,_,rfl,_,_,rfl,rfl,⟨bM z.bT (by decide),bM bm (by decide)⟩,_,_,rfl,rfl,Int.mul_pos z.T0 m0,hQ _ _ (zi.refl _) ⟨_,by rw[List.getElem?_map,hp];rfl,rfl⟩⟩
 intro us2 G2 S2 hDG2 hul2 hR2
 have e2:us2=(ps.map λp=>(p*m+T) % (T*m)).map V.int:=v6 (by rw[List.length_map];rw[List.length_map,List.length_map]at hul2;exact hul2) λi v e=>hR2 i v e
 rw[e2]at hDG2
 refine⟨De,_,rfl,.of hDG2,by rw[List.length_map];omega,λD2 m2 hD2 p2 s2=>?_⟩
 have S3:=zi.upd (o:=.lst (m2.map V.int)) hD2
 have hD2':upd G2 D2 (.lst (m2.map V.int)) D2=some (.lst (m2.map V.int)):=zg
 generalize upd G2 D2 (.lst (m2.map V.int))=G3 at S3 hD2'
 refine⟨_,rfl,Dc,_,rfl,.of (S3 _ _ (S2 _ _ hDG)),by rw[List.length_map];omega,λD1 m1 hD1 p1 s1=>?_⟩
 have S1:=zi.upd (o:=.lst (m1.map V.int)) hD1
 refine⟨_,_,.lst (S1 _ _ hD2') (jr m2),.lst zg (jr m1),zb7 m2,zb7 m1,?_⟩
 have ev:PyData.eqv (.list (m2.map .int)) (.list (m1.map .int))=zM ps T m:=by
  show PyData.eqvAll (m2.map .int) (m1.map .int)=_
  rw[jS,vo p1 s1,vo p2 s2]
  unfold zM
  rw[decide_eq_decide]
  exact eq_comm
 rw[ev]
 exact k _ (S.trans (S2.trans (S3.trans S1)))
end
end KK
end
section
set_option maxHeartbeats 8000000
set_option Elab.async false
set_option linter.all false
set_option maxRecDepth 100000
namespace KK
open PySem L2 KM
section
variable {P:Program}{w:World}{K:PySem.W.Frag}{mg:Str->Option Value}{base:Heap}{C CE:Addr}{aN:Addr}
def QW (low T:Int) (u:Int×Int):Int:=if u.2<0 then T - (u.1 - low)else u.1 - low
theorem zdX {low T:Int}{ps:List (Int×List Int)}{u:Int×Int}(h:u.2≠0):qr low T ps u=vR ps (if u.2<0 then -u.2 else u.2) (QW low T u):=by
 unfold qr QW
 by_cases a:0<u.2
 ·rw[if_pos a,if_neg (by omega),if_neg (by omega)]
 ·have b:u.2<0:=by omega
  rw[if_neg a,if_pos b,if_pos b,if_pos b]
def za9:Sp:=λvs H Q _=>∃t Db un be low high js wt,vs=[.ref t]/\Zj H t Db un be (some low) (some high) js wt/\js.length<=8/\Bd 80 (high - low) ∧
 ∀a es H',zi H H'->PhA H H' a es->vf es=phO low (2*(high - low)) js->Q (.ref a) H'
theorem vi:zx ["world","under","below","low","high","balls","weight","found","place","speed","spot"] ["world"] (zh qa):=⟨rfl,rfl,rfl,by decide +kernel,rfl,by decide +kernel,by decide +kernel⟩
theorem zdn (D:Df K mg "_law_phases" qa ["world"] []) (T:TxB K mg):Cal P w K mg base "_law_phases" 1 ["world"] [] za9:=by
 refine D.cal (k:=0) vi (λvs H Q E h=>by obtain⟨_,_,_,_,_,_,_,_,rfl,_⟩:=h;rfl) (λf cdv A outer s H vs Q E hr h=>?_)
 obtain⟨t,Db,un,be,low,high,js,wt,rfl,wo,l8,bhl,k⟩:=h
 obtain⟨ys,hys,hPj⟩:=wo.lst
 have hyl:=hPj.1
 have bM:∀{n:Nat}{i:Int},Bd n i->n<=1000000->Bd 1000000 i:=λh l=>h.mono l
 refine⟨_,(zf (qi (pv 0) (xP rfl (zm (zk (i:=1) vi.nd rfl (Or.inl rfl)) (zm (zk (i:=2) vi.nd rfl (Or.inl rfl)) (zm (zk (i:=3) vi.nd rfl (Or.inl rfl)) (zm (zk (i:=4) vi.nd rfl (Or.inl rfl)) (zm (zk (i:=5) vi.nd rfl (Or.inl rfl)) (zm (zk (i:=6) vi.nd rfl (Or.inl rfl)) zO))))))))
  (zf (zA (i:=7) vi.nd rfl (Or.inl rfl) QN)
  (zf (qj PassesOwn.never rfl (zP (pv 5)) (xP rfl (zm (zk (i:=8) vi.nd rfl (Or.inl rfl)) (zm (zk (i:=9) vi.nd rfl (Or.inl rfl)) zO))) (zf (zA (i:=10) vi.nd rfl (Or.inl rfl) (zl xr (pv 8) (pv 3)))
  (zf (zV (zu jW (pv 9) zd (zy _)) (zj (zA (i:=10) vi.nd rfl (Or.inl rfl) (zl xr (zl zG zd (zl xr (pv 4) (pv 3))) (pv 10)))) zF)
  (zj (zV (zu zcs (pv 9) zd (zy _)) (zj (xt (qI PySem.F.plainAttrs_list PySem.F.slot_list_append PySem.F.type_list_append xl (qI PySem.F.plainAttrs_dict PySem.F.slot_dict_setdefault PySem.F.type_dict_setdefault Zt (pv 7) (za (zw jj (by rfl) T.nAbs PyProof.Rows.boot_abs (za (pv 9) ze)) (za (qp ze) ze))) (za (pv 10) ze)))) zF)))))
  (zj (zD (pv 7)))))),?_⟩
 refine⟨_,rfl,t,_,rfl,.of wo.tup,rfl,_,_,rfl,_,_,rfl,_,_,rfl,_,_,rfl,_,_,rfl,_,_,rfl,rfl,?_⟩
 dsimp only[zn]
 refine λa ha=>?_
 dsimp only[zn]
 have S0:zi H (upd H a (.dK [])):=zi.upd ha
 have P0:PhA H (upd H a (.dK [])) a []:=⟨zg,(λe m=>by cases m),List.nodup_nil,(λe m=>by cases m),ha,List.nodup_nil⟩
 generalize upd H a (.dK [])=H0 at S0 P0
 refine zU (λσ' G=>∃es y8 y9 y10,σ'=[some (.ref t),some (.int un),some (.int be),some (.int low),some (.int high),some (.ref Db),some (.int wt),some (.ref a),y8,y9,y10]/\zi H G/\PhA H G a es/\vf es=phO low (2*(high - low)) js) ?_ ?_
 ·rintro σ' G ⟨es,y8,y9,y10,rfl,S,ph,e⟩
  exact⟨_,rfl,k a es G S ph e⟩
 intro nx hnx
 refine⟨_,rfl,Db,rfl,⟨_,SqL.of (S0 _ _ hys)⟩,?_⟩
 refine vd (xs:=ys) (λi σ' G=>∃es y8 y9 y10,σ'=[some (.ref t),some (.int un),some (.int be),some (.int low),some (.int high),some (.ref Db),some (.int wt),some (.ref a),y8,y9,y10]/\zi H G/\PhA H G a es/\vf es=phO low (2*(high - low)) (js.take i)/\es.length<=i/\∀e∈es,e.2.2.length<=i)
  ⟨[],none,none,none,rfl,S0,P0,rfl,Nat.le_refl _,λe m=>by cases m⟩ (λi σ' G _ ⟨_,_,_,_,_,S,_⟩=>SqL.of (S _ _ hys)) ?_ ?_
 ·rintro i y σ' G hy ⟨es,y8,y9,y10,rfl,S,ph,e,hl1,hl2⟩
  obtain⟨u,p,eu,rfl,hp⟩:=hPj.2 i y hy
  have hi8:i<js.length:=(List.getElem?_eq_some_iff.mp eu).1
  have etk:phO low (2*(high - low)) (js.take (i+1))=qr low (2*(high - low)) (vf es) u:=by
   rw[List.take_add_one,eu,e];unfold phO;rw[List.foldl_append];rfl
  refine⟨p,_,rfl,.of (S _ _ hp),rfl,_,_,rfl,_,_,rfl,rfl,?_⟩
  dsimp only[zn]
  refine⟨_,rfl,_,rfl,_,_,rfl,rfl,?_⟩
  dsimp only[zn]
  refine zU (λσ' G'=>G=G'/\σ'=[some (.ref t),some (.int un),some (.int be),some (.int low),some (.int high),some (.ref Db),some (.int wt),some (.ref a),some (.int u.1),some (.int u.2),some (.int (QW low (2*(high - low)) u))]) ?_ ?_
  rotate_left
  ·intro nx hnx
   unfold QW at hnx
   refine⟨_,rfl,_,_,rfl,rfl,_,rfl,xO (λz=>?_) (λz=>?_)⟩
   ·have h1:u.2<0:=of_decide_eq_true z
    rw[if_pos h1]at hnx
    refine⟨_,rfl,_,rfl,_,_,rfl,rfl,_,_,rfl,rfl,⟨b2i,bM bhl (by decide)⟩,_,rfl,_,_,rfl,rfl,?_⟩
    exact hnx _ _ ⟨rfl,rfl⟩
   ·have h1:¬u.2<0:=λq=>z (decide_eq_true q)
    rw[if_neg h1]at hnx
    exact hnx _ _ ⟨rfl,rfl⟩
  rintro σ' G' ⟨rfl,rfl⟩
  refine⟨_,rfl,rfl,_,rfl,xO (λz=>?_) (λz=>?_)⟩
  ·have h1:u.2≠0:=λq=>by rw[q]at z;revert z;decide
   rw[zdX h1]at etk
   refine⟨_,rfl,.inr (.inr (.inl ⟨rfl,.inl ⟨_,ph.d⟩⟩)),_,rfl,_,rfl,by show 0<=sizeLine;decide,λl0 hl0=>?_⟩
   dsimp only[ju]
   exact VA (k:=if u.2<0 then -u.2 else u.2) (w:=QW low (2*(high - low)) u) ph S (by omega) hl1 hl2 hl0 λl xs G1 es' hl hx ph' S' e' q1 q2=>⟨.inl ⟨rfl,_,SqL.of hl⟩,_,rfl,l,_,_,rfl,rfl,hl,hx,⟨es',_,_,_,rfl,S',ph',by rw[etk];exact e',q1,q2⟩⟩
  ·have h1:u.2=0:=by
    by_cases q:u.2=0
    ·exact q
    ·exact absurd (by show (!decide (V.int u.2=V.int 0))=true;rw[decide_eq_false (λe=>q (V.int.inj e))];rfl) z
   have e0:qr low (2*(high - low)) (vf es) u=vf es:=by unfold qr;rw[if_neg (by omega),if_neg (by omega)]
   exact⟨es,_,_,_,rfl,S,ph,by rw[etk,e0],by omega,λx m=>by have:=hl2 x m;omega⟩
 ·rintro σ' G ⟨es,y8,y9,y10,rfl,S,ph,e,_,_⟩
  exact hnx _ _ ⟨es,y8,y9,y10,rfl,S,ph,by rw[e,hyl,List.take_length]⟩
end
end KK
end
section
set_option maxHeartbeats 8000000
set_option Elab.async false
set_option linter.all false
set_option maxRecDepth 100000
namespace KK
open PySem L2 KM
section
variable {P:Program}{w:World}{K:PySem.W.Frag}{mg:Str->Option Value}{base:Heap}{C CE:Addr}{aN:Addr}
def zdU:Sp:=λvs H Q _=>∃t un be l h v4 v5 k g,vs=[.ref t,.int k,.int g]/\H t=some (.tup [.int un,.int be,.int l,.int h,v4,v5])/\0<un/\0<k/\0<g/\Bd 100 un/\Bd 100 be/\Bd 100 l/\Bd 100 h/\Bd 100 k/\Bd 100 g/\∀r H',zi H H'->zI H' r (Rat.divInt (2*(h - l)*be) (un*k*g))->Q (.ref r) H'
theorem zdK:zx ["world","pace","many"] ["world","pace","many"] (zh qV):=⟨rfl,rfl,rfl,by decide +kernel,rfl,by decide +kernel,by decide +kernel⟩
theorem zdm (D:Df K mg "_law_part" qV ["world","pace","many"] []) (cLo:Cal P w K mg base "_law_lowest" 1 ["top","bottom"] [] jJ):Cal P w K mg base "_law_part" 2 ["world","pace","many"] [] zdU:=by
 refine D.cal (k:=1) zdK (λvs H Q E h=>by obtain⟨_,_,_,_,_,_,_,_,_,rfl,_⟩:=h;rfl) (λf cdv A outer s H vs Q E hr h=>?_)
 obtain⟨t,un,be,l,h,v4,v5,k,g,rfl,ht,u0,k0,g0,bu,bb,bl,bh,bk,bg,kk⟩:=h
 have bM:∀{n:Nat}{i:Int},Bd n i->n<=1000000->Bd 1000000 i:=λh l=>h.mono l
 have b2:Bd 3 (2:Int):=(show (2:Int).natAbs<2^3 by decide)
 refine⟨_,(zj (zD (zv cLo hr (za (zl zG (zl zG zd (zl xr (zE zH (pv 0) zd (λ_ _=>rfl)) (zE zH (pv 0) zd (λ_ _=>rfl)))) (zE zH (pv 0) zd (λ_ _=>rfl))) (za (zl zG (zl zG (zE zH (pv 0) zd (λ_ _=>rfl)) (pv 1)) (pv 2)) ze))))),?_⟩
 refine⟨_,rfl,t,_,_,_,rfl,rfl,.of ht,rfl,_,rfl,t,_,_,_,rfl,rfl,.of ht,rfl,_,_,rfl,rfl,_,_,rfl,rfl,⟨b2i,bM (bh.sub bl) (by decide)⟩,_,rfl,t,_,_,_,rfl,rfl,.of ht,rfl,_,_,rfl,rfl,⟨bM (b2.mul (bh.sub bl)) (by decide),bM bb (by decide)⟩,?_⟩
 refine⟨_,rfl,t,_,_,_,rfl,rfl,.of ht,rfl,_,rfl,_,_,rfl,rfl,⟨bM bu (by decide),bM bk (by decide)⟩,_,rfl,_,_,rfl,rfl,⟨bM (bu.mul bk) (by decide),bM bg (by decide)⟩,?_⟩
 exact⟨_,_,rfl,Int.mul_pos (Int.mul_pos u0 k0) g0,((bu.mul bk).mul bg).mono (by decide),kk⟩
end
end KK
end
section
set_option maxHeartbeats 8000000
set_option Elab.async false
set_option linter.all false
set_option maxRecDepth 100000
namespace KK
open PySem L2 KM
theorem zbD {c n:Int}(hc:0<c):(c*n).fdiv (Int.gcd c n:Int)=c/(Int.gcd c n:Int)*n:=by
 have g0:0<Int.gcd c n:=Int.gcd_pos_of_ne_zero_left _ (by omega)
 rw[Int.fdiv_eq_ediv_of_nonneg _ (by omega),Int.mul_comm c n,Int.mul_ediv_assoc _ (Int.gcd_dvd_left ..),Int.mul_comm]
theorem JT (qs:List Rat) (q:Rat):ve (qs++[q])=ve qs*(q.den:Int):=by unfold ve;rw[List.foldl_append];rfl
theorem zat (ks:List Int) (k:Int):xJ (ks++[k])=xJ ks/(Int.gcd (xJ ks) k:Int)*k:=by unfold xJ;rw[List.foldl_append];rfl
section
variable {P:Program}{w:World}{K:PySem.W.Frag}{mg:Str->Option Value}{base:Heap}{C CE:Addr}{aN:Addr}
def zdR:Sp:=λvs H Q _=>∃(p:Addr) (us:List V) (qs:List Rat),vs=[.ref p]/\H p=some (.lst us)/\Xx H us qs/\1<=qs.length/\qs.length<=8/\(∀q∈qs,0<q.num)/\(∀q∈qs,Bd 400 q.num)/\(∀q∈qs,Bd 400 (q.den:Int))/\∀r H',zi H H'->zI H' r (qB qs)->Q (.ref r) H'
theorem vP:zx ["parts","top","bottom","part","tops","one","big","rest"] ["parts"] (zh qu):=⟨rfl,rfl,rfl,by decide +kernel,rfl,by decide +kernel,by decide +kernel⟩
theorem zdk (D:Df K mg "_law_least" qu ["parts"] []) (cLo:Cal P w K mg base "_law_lowest" 1 ["top","bottom"] [] jJ):Cal P w K mg base "_law_least" 2 ["parts"] [] zdR:=by
 refine D.cal (k:=1) vP (λvs H Q E h=>by obtain⟨_,_,_,rfl,_⟩:=h;rfl) (λf cdv A outer s H vs Q E hr h=>?_)
 obtain⟨p,us,qs,rfl,hp,hR,l1,l8,q0,qn,qd,k⟩:=h
 have bM:∀{n:Nat}{i:Int},Bd n i->n<=1000000->Bd 1000000 i:=λh l=>h.mono l
 have ul:=hR.1
 refine⟨_,(zf (qi (zN (za zd (za zd ze))) (xP rfl (zm (zk (i:=1) vP.nd rfl (Or.inl rfl)) (zm (zk (i:=2) vP.nd rfl (Or.inr rfl)) zO))))
  (zf (qj PassesOwn.never rfl (zP (pv 0)) (zk (i:=3) vP.nd rfl (Or.inl rfl)) (zj (zA (i:=2) vP.nd rfl (Or.inr rfl) (zl zG (pv 2) (zE zH (pv 3) zd (λ_ _=>rfl))))))
  (zf (vG (i:=4) (NB:=["part"]) (FR:=["bottom"]) (js:=[2]) rfl rfl (λx c h=>jk rfl x c h) (.cons rfl rfl rfl ⟨_,rfl⟩ .nil) rfl (by decide +kernel) rfl (by decide +kernel) vP.nd rfl rfl (by rfl) (zP (pv 0)) (by intro _ _ _;refine⟨?_,?_,?_⟩;(exact(zk (i:=0) (show List.Nodup (["part","bottom"]:List Str) by decide +kernel) rfl (Or.inl rfl)));(exact zL);(exact(zl zG (zE (qA (K:=K) rfl) (pv 0) zd (λ_ _=>rfl)) (zl qm (pv 1) (zE (qA (K:=K) rfl) (pv 0) zd (λ_ _=>rfl)))))))
  (zf (qj PassesOwn.never rfl (zP (pv 4)) (zk (i:=5) vP.nd rfl (Or.inl rfl)) (zf (vM (i:=6) (j:=7) rfl vP.nd rfl rfl (by decide) rfl rfl (za (pv 1) (za (pv 5) ze)) (by rfl))
  (zf (jY PassesOwn.never (zu jA (pv 7) zd (zy _)) (zj (vM (i:=6) (j:=7) rfl vP.nd rfl rfl (by decide) rfl rfl (za (pv 7) (za (zl qC (pv 6) (pv 7)) ze)) (by rfl))))
  (zj (zA (i:=1) vP.nd rfl (Or.inl rfl) (zl qm (zl zG (pv 1) (pv 5)) (pv 6)))))))
  (zj (zD (zv cLo hr (za (pv 1) (za (pv 2) ze))))))))),?_⟩
 refine⟨by show 2<=sizeLine;decide,λp0 hp0=>⟨p0,_,rfl,.of zg,rfl,_,_,rfl,_,_,rfl,rfl,?_⟩⟩
 dsimp only[zn]
 have SH:=zi.upd (o:=.tup [.int 1,.int 1]) hp0
 replace hp:=SH _ _ hp
 replace hR:Xx (upd H p0 (.tup [.int 1,.int 1])) us qs:=⟨hR.1,λi v e=>let ⟨q,r,a,b,c⟩:=hR.2 i v e;⟨q,r,a,b,SH _ _ c⟩⟩
 replace k:∀r H',zi (upd H p0 (.tup [.int 1,.int 1])) H'->zI H' r (qB qs)->Q (.ref r) H':=λr H' s=>k r H' (SH.trans s)
 generalize upd H p0 (.tup [.int 1,.int 1])=H at *
 refine zU (λσ' G=>H=G/\∃y3,σ'=[some (.ref p),some (.int 1),some (.int (ve qs)),y3,none,none,none,none]/\Bd 3300 (ve qs)) ?_ ?_
 rotate_left
 ·intro nx hnx
  refine⟨_,rfl,p,rfl,⟨_,SqL.of hp⟩,?_⟩
  refine vd (K:=K) (xs:=us) (λi σ' G=>H=G/\∃y3,σ'=[some (.ref p),some (.int 1),some (.int (ve (qs.take i))),y3,none,none,none,none]/\Bd (400*i+4) (ve (qs.take i))) ⟨rfl,none,rfl,(show (1:Int).natAbs<2^4 by decide)⟩ (λi σ' G _ h=>by rw[<-h.1];exact SqL.of hp) ?_ ?_
  ·rintro i x σ' G hx ⟨rfl,y3,rfl,bp⟩
   obtain⟨q,r0,hq,rfl,hr0⟩:=hR.2 i x hx
   have mq:=List.mem_of_getElem? hq
   have hi:i<us.length:=(List.getElem?_eq_some_iff.mp hx).1
   have ep:ve (qs.take (i+1))=ve (qs.take i)*(q.den:Int):=by rw[List.take_add_one,hq];exact JT ..
   dsimp only[zn]
   refine⟨_,rfl,_,rfl,r0,_,_,_,rfl,rfl,.of hr0,at1 ..,_,_,rfl,rfl,⟨bM bp (by omega),bM (qd q mq) (by decide)⟩,?_⟩
   exact⟨rfl,_,by rw[ep];rfl,by rw[ep];exact(bp.mul (qd q mq)).mono (by omega)⟩
  ·rintro σ' G ⟨rfl,y3,rfl,bp⟩
   rw[ul,List.take_length]at bp ⊢
   exact hnx _ _ ⟨rfl,y3,rfl,bp.mono (by omega)⟩
 rintro σ0 G ⟨rfl,y3,rfl,bB⟩
 obtain⟨B0,_,Bdv⟩:=zaL qs 1 (by decide)
 have B0:0<ve qs:=B0
 have Bdv:∀q∈qs,(q.den:Int) ∣ ve qs:=Bdv
 have lq:=zau l1 q0
 generalize ve qs=B at *
 have tp:∀q∈qs,0<q.num*(B/(q.den:Int))/\Bd 3800 (q.num*(B/(q.den:Int))):=λq m=>by
  obtain⟨r,e⟩:=Bdv q m
  have d0:=den_pos q
  have er:B/(q.den:Int)=r:=by rw[e];exact Int.mul_ediv_cancel_left _ (by omega)
  have r0:0<r:=by
   rcases Int.lt_or_le 0 r with c | c
   ·exact c
   ·have:=Int.mul_nonpos_of_nonneg_of_nonpos (show 0<=(q.den:Int) by omega) c;omega
  rw[er]
  refine⟨Int.mul_pos (q0 q m) r0,((qn q m).mul (Bd.of_le (j:=B) ?_ bB)).mono (by decide)⟩
  have:r<=B:=by rw[e];have:=Int.mul_le_mul_of_nonneg_right (show 1<=(q.den:Int) by omega) (show 0<=r by omega);omega
  omega
 refine zU (λσ' G=>∃Dc,σ'=[some (.ref p),some (.int 1),some (.int B),y3,some (.ref Dc),none,none,none]/\zi H G/\G Dc=some (.lst ((qs.map λq=>q.num*(B/(q.den:Int))).map V.int))) ?_ ?_
 rotate_left
 ·intro nx hnx
  refine⟨_,rfl,p,rfl,⟨_,SqL.of hp⟩,λDc hDc=>?_⟩
  refine zW (js:=[2]) (J:=Itl K p) (g:=zn 0) (te:=_) (n:=1) (xs:=us) (λi v G=>∃n,(qs.map λq=>q.num*(B/(q.den:Int)))[i]? = some n/\v = .int n) (λ_ _ _ _ _ h=>h) hDc (zT hp) (zZ (by omega)) ?_ ?_
  ·intro i y zs G Q' hy hz S hQ
   obtain⟨q,r0,hq,rfl,hr0⟩:=hR.2 i y hy
   have mq:=List.mem_of_getElem? hq
   have d0:=den_pos q
   obtain⟨w1,rfl⟩:=v7 hz
   have hr0':=S _ _ hr0
   have ef:B.fdiv (q.den:Int)=B/(q.den:Int):=Int.fdiv_eq_ediv_of_nonneg _ (by omega)
   have bf:Bd 3300 (B.fdiv (q.den:Int)):=by
    rw[ef]
    refine Bd.of_le (j:=B) ?_ bB
    have h1:=Int.ediv_nonneg (show 0<=B by omega) (show 0<=(q.den:Int) by omega)
    have h2:=Int.ediv_le_self (q.den:Int) (show 0<=B by omega)
    omega
   refine⟨rfl,_,rfl,r0,_,_,_,rfl,rfl,.of hr0',at0 ..,_,rfl,_,rfl,r0,_,_,_,rfl,rfl,.of hr0',at1 ..,_,_,rfl,rfl,⟨by omega,(qd q mq).mono (by decide)⟩,_,_,rfl,rfl,⟨bM (qn q mq) (by decide),bM bf (by decide)⟩,hQ _ _ (zi.refl _) ⟨_,by rw[List.getElem?_map,hq];rfl,by rw[ef]⟩⟩
  intro us2 G S hDG hul hR2
  have e2:us2=(qs.map λq=>q.num*(B/(q.den:Int))).map V.int:=v6 (by rw[List.length_map];omega) λi v e=>hR2 i v e
  rw[e2]at hDG
  exact hnx _ _ ⟨Dc,rfl,S,hDG⟩
 rintro σ1 G ⟨Dc,rfl,S,hDG⟩
 have tk:∀t∈qs.map (λq=>q.num*(B/(q.den:Int))),0<t/\Bd 3800 t:=λt m=>by obtain⟨q,mq,rfl⟩:=List.mem_map.mp m;exact tp q mq
 have tl:(qs.map λq=>q.num*(B/(q.den:Int))).length=qs.length:=List.length_map ..
 generalize (qs.map λq=>q.num*(B/(q.den:Int)))=ts at *
 refine zU (λσ' G'=>G=G'/\∃y5 y6 y7,σ'=[some (.ref p),some (.int (xJ ts)),some (.int B),y3,some (.ref Dc),y5,y6,y7]) ?_ ?_
 rotate_left
 ·intro nx hnx
  refine⟨_,rfl,Dc,rfl,⟨_,SqL.of hDG⟩,?_⟩
  refine vd (K:=K) (xs:=ts.map V.int) (λi σ' G'=>G=G'/\∃y5 y6 y7,σ'=[some (.ref p),some (.int (xJ (ts.take i))),some (.int B),y3,some (.ref Dc),y5,y6,y7]/\0<xJ (ts.take i)/\Bd (3800*i+4) (xJ (ts.take i))) ⟨rfl,none,none,none,rfl,(show (0:Int)<1 by decide),(show (1:Int).natAbs<2^4 by decide)⟩ (λi σ' G' _ h=>by rw[<-h.1];exact SqL.of hDG) ?_ ?_
  ·rintro i x σ' G' hx ⟨rfl,y5,y6,y7,rfl,c0,bc⟩
   rw[List.getElem?_map]at hx
   cases hn:ts[i]? with
   | none=>rw[hn]at hx;cases hx
   | some n =>
   rw[hn]at hx;cases hx
   obtain⟨n0,bn⟩:=tk n (List.mem_of_getElem? hn)
   have hi:i<ts.length:=(List.getElem?_eq_some_iff.mp hn).1
   have el:xJ (ts.take (i+1))=xJ (ts.take i)/(Int.gcd (xJ (ts.take i)) n:Int)*n:=by rw[List.take_add_one,hn];exact zat ..
   generalize xJ (ts.take i)=c at *
   dsimp only[zn]
   refine⟨_,rfl,_,rfl,_,_,rfl,?_⟩
   refine Zd (λσ H1=>H1=G/\∃x y:Int,σ=[some (.ref p),some (.int c),some (.int B),y3,some (.ref Dc),some (.int n),some (.int x),some (.int y)]/\0<=x/\0<=y/\Int.gcd x y=Int.gcd c n)
    (λσ _=>match σ with | [_,_,_,_,_,_,_,some (.int y)]=>y.toNat | _=>0) ⟨rfl,_,_,rfl,(by omega),(by omega),rfl⟩ ?_ ?_
   ·rintro σ H1 ⟨rfl,x,y,rfl,hx,hy,e⟩
    refine⟨_,rfl,_,_,rfl,rfl,_,rfl,xO (λh=>?_) (λh=>?_)⟩
    ·have h':0<y:=of_decide_eq_true h
     refine⟨_,rfl,_,rfl,_,rfl,_,_,rfl,rfl,h',_,_,rfl,⟨rfl,_,_,rfl,hy,Int.emod_nonneg _ (by omega),?_⟩,?_⟩
     ·rw[KM.Xa hx h'];exact e
     ·show (x % y).toNat<y.toNat
      have:=Int.emod_lt_of_pos x h'
      omega
    ·have h':¬ 0<y:=λz=>h (decide_eq_true z)
     have:y=0:=by omega
     subst this
     have e2:x=(Int.gcd c n:Int):=by rw[<-e,Int.gcd_zero_right];omega
     subst e2
     have g0:0<Int.gcd c n:=Int.gcd_pos_of_ne_zero_left _ (by omega)
     have gl:(Int.gcd c n:Int)<=n:=Int.le_of_dvd n0 (Int.gcd_dvd_right ..)
     refine⟨_,rfl,_,rfl,_,_,rfl,rfl,⟨bM bc (by omega),bM bn (by decide)⟩,_,rfl,_,_,rfl,rfl,⟨by omega,(Bd.of_le (j:=n) (by omega) bn).mono (by decide)⟩,?_⟩
     refine⟨rfl,_,_,_,by rw[el,<-zbD c0];rfl,by rw[el];exact jl c0 n0,by rw[el];exact(Vd c0 n0 bc bn).mono (by omega)⟩
   ·rintro σ H1 Q1 Q2 hq ⟨v,e,i,j,e1,e2,k1,e3,q⟩
    exact⟨v,e,i,j,e1,e2,k1,e3,hq _ _ q⟩
  ·rintro σ' G' ⟨rfl,y5,y6,y7,rfl,_,_⟩
   exact hnx _ _ ⟨rfl,y5,y6,y7,by rw[List.length_map,List.take_length]⟩
 rintro σ2 G' ⟨rfl,y5,y6,y7,rfl⟩
 refine⟨_,rfl,_,rfl,xJ ts,B,rfl,B0,bB.mono (by decide),λr H' s2 hr=>k r H' (S.trans s2) (by rw[lq];exact hr)⟩
end
end KK
end
section
set_option maxHeartbeats 8000000
set_option Elab.async false
set_option linter.all false
set_option maxRecDepth 100000
namespace KK
open PySem L2 KM
structure Som (p Fd:Addr) (H G:Hp) (low far:Int) (vs:List V) (ps:List (Int×Int)):Prop where
 st:zS p H G
 at_:G Fd=some (.lst vs)
 pr:vz G vs ps
 inn:∀u∈ps,low<=u.1/\u.1<=low+far ∧ -12<=u.2/\u.2<=12
theorem vz.snoc {H:Hp}{us:List V}{ps:List (Int×Int)} (h:vz H us ps){q:Addr}{u:Int×Int}(hq:H q=some (.tup [.int u.1,.int u.2])):vz H (us++[.ref q]) (ps++[u]):=by
 refine⟨by rw[List.length_append,List.length_append,h.1];rfl,λm v e=>?_⟩
 rw[List.getElem?_append]at e
 split at e
 ·rename_i hm
  obtain⟨u',a,e1,e2,e3⟩:=h.2 m v e
  exact⟨u',a,by rw[List.getElem?_append,if_pos (by rw[<-h.1];exact hm)];exact e1,e2,e3⟩
 ·rename_i hm
  have hm0:m - us.length=0:=by
   rcases Nat.eq_zero_or_pos (m - us.length)with z | z
   ·exact z
   ·rw[List.getElem?_eq_none (by simp;omega)]at e;cases e
  rw[hm0]at e;cases e
  exact⟨u,q,by rw[List.getElem?_append,if_neg (by rw[<-h.1];omega),<-h.1,hm0];rfl,rfl,hq⟩
theorem vz.erase {H:Hp}{us:List V}{ps:List (Int×Int)} (h:vz H us ps) (k:Nat):vz H (us.eraseIdx k) (ps.eraseIdx k):=by
 refine⟨by rw[List.length_eraseIdx,List.length_eraseIdx,h.1],λm v e=>?_⟩
 rw[List.getElem?_eraseIdx]at e ⊢
 split at e
 ·rename_i hm;obtain⟨u',a,e1,e2,e3⟩:=h.2 m v e;rw[if_pos hm];exact⟨u',a,e1,e2,e3⟩
 ·rename_i hm;obtain⟨u',a,e1,e2,e3⟩:=h.2 (m+1) v e;rw[if_neg hm];exact⟨u',a,e1,e2,e3⟩
section
variable {p Fd:Addr}{H G:Hp}{low far:Int}{vs:List V}{ps:List (Int×Int)}
theorem Som.step (s:Som p Fd H G low far vs ps) (hFp:Fd≠p){G1:Hp}(t:zS p G G1):Som p Fd H G1 low far vs ps :=
 ⟨s.st.trans t,t.keep _ _ s.at_ hFp,s.pr.tups (xn s.st.pool t),s.inn⟩
theorem Som.put (s:Som p Fd H G low far vs ps) (hF:H Fd=none) (hFp:Fd≠p){q:Addr}{u:Int×Int}(hq:G q=some (.tup [.int u.1,.int u.2])) (hu:low<=u.1/\u.1<=low+far ∧ -12<=u.2/\u.2<=12) :
  Som p Fd H (upd G Fd (.lst (vs++[.ref q]))) low far (vs++[.ref q]) (ps++[u]):=by
 have tu:xo G (upd G Fd (.lst (vs++[.ref q]))):=.upd s.at_
 refine⟨s.st.put hF hFp _,zg,(s.pr.tups tu).snoc (tu _ _ hq),λw m=>?_⟩
 rcases List.mem_append.mp m with m | m
 ·exact s.inn w m
 ·have:w=u:=by simpa using m
  rw[this];exact hu
theorem Som.pop (s:Som p Fd H G low far vs ps) (hF:H Fd=none) (hFp:Fd≠p) (k:Nat):Som p Fd H (upd G Fd (.lst (vs.eraseIdx k))) low far (vs.eraseIdx k) (ps.eraseIdx k) :=
 ⟨s.st.put hF hFp _,zg,(s.pr.tups (.upd s.at_)).erase k,λw m=>s.inn w (List.mem_of_mem_eraseIdx m)⟩
end
def prD (u:Int×Int):PyData:=.tuple [.int u.1,.int u.2]
theorem zaM {H:Hp}:∀{us:List V}{ps:List (Int×Int)},vz H us ps->jz H us (ps.map prD)
 | [],[],_=>.nil
 | [],_::_,h=>by have:=h.1;simp at this
 | _::_,[],h=>by have:=h.1;simp at this
 | v::us,u::ps,h=>by
  obtain⟨u',a,e1,rfl,e3⟩:=h.2 0 v rfl
  cases e1
  exact .cons (.tup e3 (.cons (.int _) (.cons (.int _) .nil))) (zaM ⟨by have:=h.1;simpa using this,λi v e=>h.2 (i+1) v e⟩)
theorem VE (ps:List (Int×Int)):SeqAt.shaped (.list (ps.map prD))=true:=by
 have k:PyData.canLayAll0 (ps.map prD)=true/\PyData.depthAll (ps.map prD)<=1:=by
  induction ps with
  | nil=>exact⟨rfl,Nat.zero_le _⟩
  | cons d ds ih =>
   refine⟨?_,?_⟩
   ·show (PyData.canLay0 (prD d)&&_)=true
    rw[ih.1];rfl
   ·show max (PyData.depth (prD d)) _<=1
    have:PyData.depth (prD d)=1:=rfl
    rw[this];have:=ih.2;omega
 have c1:PyData.canLay0 (.list (ps.map prD))=true:=k.1
 have d1:PyData.depth (.list (ps.map prD))<=2:=by show _+1<=2;have:=k.2;omega
 show (_&&decide (_<=64))=true
 rw[c1,decide_eq_true (by omega)];rfl
theorem zc5 {d:Int}(h0:0<=d) (h1:d<4):∃v:Int,atI [V.int 1,.int 1,.int 2,.int 3] d=some (.int v)/\1<=v/\v<=12:=by
 have:d=0\/d=1\/d=2\/d=3:=by omega
 rcases this with rfl | rfl | rfl | rfl
 all_goals exact⟨_,rfl,by decide,by decide⟩
theorem zc4 {d:Int}(h0:0<=d) (h1:d<3):∃v:Int,atI [V.int 1,.int 2,.int 5] d=some (.int v)/\1<=v/\v<=12:=by
 have:d=0\/d=1\/d=2:=by omega
 rcases this with rfl | rfl | rfl
 all_goals exact⟨_,rfl,by decide,by decide⟩
theorem zbI {d:Int}(h0:0<=d) (h1:d<12):∃v:Int,atI [V.int 1,.int 2,.int 3,.int 4,.int 5,.int 6,.int 7,.int 8,.int 4,.int 6,.int 8,.int 2] d=some (.int v)/\1<=v/\v<=8:=by
 have:d=0\/d=1\/d=2\/d=3\/d=4\/d=5\/d=6\/d=7\/d=8\/d=9\/d=10\/d=11:=by omega
 rcases this with rfl | rfl | rfl | rfl | rfl | rfl | rfl | rfl | rfl | rfl | rfl | rfl
 all_goals exact⟨_,rfl,by decide,by decide⟩
section
variable {P:Program}{w:World}{K:PySem.W.Frag}{mg:Str->Option Value}{base:Heap}{C CE:Addr}{aN:Addr}
def zb8:Sp:=λvs H Q _=>∃(p:Addr),vs=[.ref p]/\vn H p/\∀(t D:Addr) (un be l far:Int) (ys:List V) (js:List (Int×Int)) (wt:Int) (H':Hp),zS p H H'->H' t=some (.tup [.int un,.int be,.int l,.int (l+far),.ref D,.int wt])->H D=none->D≠p->H' D=some (.lst ys)->vz H' ys js->WoZ un be (some l) (some (l+far)) js wt->Q (.ref t) H'
theorem vQ:zx ["pool","under","below","parts","far","low","some","turn","pace","first","k","spot"] ["pool"] (zh xu):=⟨rfl,rfl,rfl,by decide +kernel,rfl,by decide +kernel,by decide +kernel⟩
theorem zdq (D:Df K mg "_law_ring_world" xu ["pool"] []) (T:TxB K mg) (cN:Cal P w K mg base "_law_next" 1 ["pool","base"] [] jb) (cSe:Cal P w K mg base "_law_settled" 1 ["balls","low","high"] [] zbb) :
  Cal P w K mg base "_law_ring_world" 2 ["pool"] [] zb8:=by
 refine D.calB (k:=1) vQ (λvs H Q E h=>by obtain⟨_,rfl,_⟩:=h;rfl) (λf cdv A outer s H vs Q E hr1 h=>?_)
 obtain⟨p,rfl,hP,k⟩:=h
 have hu:=hr1.units
 have bS:∀{i:Int},i.natAbs<2^20->Bd 1000000 i:=λh=>Bd.mono (m:=20) h (by decide)
 refine⟨_,(z9 (Bx.mk (vM (i:=1) (j:=2) rfl vQ.nd rfl rfl (by decide) rfl rfl (za (ji (ZF xk (jg (zC (Bx.mk zd) (zC (Bx.mk zd) (zC (Bx.mk zd) (zC (Bx.mk zd) jh))))) (Bx.mk (zv cN hr1 (za (pv 0) (za zd ze)))) (λ_ _=>rfl))) (za (ji (ZF xk (jg (zC (Bx.mk zd) (zC (Bx.mk zd) (zC (Bx.mk zd) jh)))) (Bx.mk (zv cN hr1 (za (pv 0) (za zd ze)))) (λ_ _=>rfl))) ze)) (by rfl)))
  (z9 (Bx.mk (ji (Ve (i:=3) vQ.nd rfl (Or.inl rfl) (ZF xk (jg (zC (Bx.mk zd) (zC (Bx.mk zd) (zC (Bx.mk zd) (zC (Bx.mk zd) (zC (Bx.mk zd) (zC (Bx.mk zd) (zC (Bx.mk zd) (zC (Bx.mk zd) (zC (Bx.mk zd) (zC (Bx.mk zd) (zC (Bx.mk zd) (zC (Bx.mk zd) jh))))))))))))) (Bx.mk (zv cN hr1 (za (pv 0) (za zd ze)))) (λ_ _=>rfl)))))
  (z9 (Bx.mk (zA (i:=4) vQ.nd rfl (Or.inl rfl) (zl zG (zl zG (pv 3) (zl zR zd (zv cN hr1 (za (pv 0) (za zd ze))))) zd)))
  (z9 (Bx.mk (zA (i:=5) vQ.nd rfl (Or.inl rfl) (zl xr (zv cN hr1 (za (pv 0) (za zd ze))) zd)))
  (z9 (Bx.mk (zA (i:=6) vQ.nd rfl (Or.inl rfl) (qp ze)))
  (z9 (Bx.mk (qj PassesOwn.never rfl (qM rfl T.nRange (za (zl zR zd (zv cN hr1 (za (pv 0) (za zd ze)))) ze)) (zk (i:=7) vQ.nd rfl (Or.inl rfl)) (zf (vM (i:=8) (j:=9) rfl vQ.nd rfl rfl (by decide) rfl rfl (za (zl zR zd (zv cN hr1 (za (pv 0) (za zd ze)))) (za (zv cN hr1 (za (pv 0) (za (zl zG zd (pv 4)) ze))) ze)) (by rfl))
  (zj (qj PassesOwn.never rfl (qM rfl T.nRange (za (pv 3) ze)) (zk (i:=10) vQ.nd rfl (Or.inl rfl)) (zf (zA (i:=11) vQ.nd rfl (Or.inl rfl) (zl qC (zl zR (pv 9) (zl zG (pv 10) (zl qm (zl zG zd (pv 4)) (pv 3)))) (zl zG zd (pv 4))))
  (zj (zV (zu jA (zv cN hr1 (za (pv 0) (za zd ze))) zd (zy _)) (zj (zV (zu jW (pv 11) (pv 4) (zy _)) (zj (xt (qI PySem.F.plainAttrs_list PySem.F.slot_list_append PySem.F.type_list_append xl (pv 6) (za (zN (za (zl zR (pv 5) (pv 11)) (za (pv 8) ze))) ze)))) (zj (xt (qI PySem.F.plainAttrs_list PySem.F.slot_list_append PySem.F.type_list_append xl (pv 6) (za (zN (za (zl xr (zl zR (pv 5) (zl zG zd (pv 4))) (pv 11)) (za (zl xr zd (pv 8)) ze))) ze)))))) zF))))))))
  (z9 (Bx.mk (zV ((vU (zu x5 (zv cN hr1 (za (pv 0) (za zd ze))) zd (zy _)) (vO (zu (Xh hu) (pv 6) (qp ze) (zy _))))).pt (zj (xt (qI PySem.F.plainAttrs_list PySem.F.slot_list_append PySem.F.type_list_append xl (pv 6) (za (zN (za (zl zR (pv 5) (zv cN hr1 (za (pv 0) (za (zl zR (pv 4) zd) ze)))) (za zd ze))) ze)))) zF))
  (z9 (Bx.mk (jY PassesOwn.never (zu jA (zw xq (by rfl) T.nLen PySem.boot_len (za (pv 6) ze)) zd (zy _)) (zj (xt (qI PySem.F.plainAttrs_list PySem.F.slot_list_pop PySem.F.type_list_pop QK (pv 6) (za (zv cN hr1 (za (pv 0) (za (zw xq (by rfl) T.nLen PySem.boot_len (za (pv 6) ze)) ze))) ze))))))
  (Bx.mk (zj (zD (zN (za (pv 1) (za (pv 2) (za (pv 5) (za (zl zR (pv 5) (pv 4)) (za (zv cSe hr1 (za (pv 6) (za (pv 5) (za (zl zR (pv 5) (pv 4)) ze)))) (za (zl zR zd (zv cN hr1 (za (pv 0) (za zd ze)))) ze)))))))))))))))))),?_⟩
 refine⟨by show 4<=sizeLine;decide,λl1 hl1=>⟨_,rfl,p,_,rfl,by decide,by decide,hP.new hl1,λd1 G1 a1 b1 t1=>?_⟩⟩
 obtain⟨un,eun,un1,un2⟩:=zc5 a1 b1
 refine⟨l1,_,_,_,rfl,rfl,.of (t1.keep l1 _ zg (hP.ne hl1)),eun,?_⟩
 have T1:zS p H G1:=t1.pre (zi.upd hl1)
 refine⟨by show 3<=sizeLine;decide,λl2 hl2=>⟨_,rfl,p,_,rfl,by decide,by decide,T1.pool.new hl2,λd2 G2 a2 b2 t2=>?_⟩⟩
 obtain⟨be,ebe,be1,be2⟩:=zc4 a2 b2
 refine⟨l2,_,_,_,rfl,rfl,.of (t2.keep l2 _ zg (T1.pool.ne hl2)),ebe,_,_,rfl,?_⟩
 have T2:zS p H G2:=T1.trans (t2.pre (zi.upd hl2))
 dsimp only
 refine⟨by show 12<=sizeLine;decide,λl3 hl3=>⟨_,rfl,p,_,rfl,by decide,by decide,T2.pool.new hl3,λd3 G3 a3 b3 t3=>?_⟩⟩
 obtain⟨n,en,n1,n8⟩:=zbI a3 b3
 refine⟨l3,_,_,_,rfl,rfl,.of (t3.keep l3 _ zg (T2.pool.ne hl3)),en,?_⟩
 have T3:zS p H G3:=T2.trans (t3.pre (zi.upd hl3))
 dsimp only[zn]
 refine⟨_,rfl,_,rfl,p,_,rfl,by decide,by decide,T3.pool,λd4 G4 a4 b4 t4=>⟨_,_,rfl,rfl,_,_,rfl,rfl,⟨bS (by omega),bS (by omega)⟩,?_⟩⟩
 have hnd:1<=n*(1+d4)/\n*(1+d4)<=48:=by
  have h1:=Int.mul_le_mul n8 (show 1+d4<=6 by omega) (by omega) (by decide)
  have h2:=Int.mul_le_mul n1 (show (1:Int)<=1+d4 by omega) (by decide) (by omega)
  omega
 refine⟨_,_,rfl,rfl,⟨bS (by omega),bS (by decide)⟩,?_⟩
 dsimp only[zn]
 have T4:=T3.trans t4
 obtain⟨far,ef⟩:∃far,n*(1+d4)*12=far:=⟨_,rfl⟩
 rw[ef]
 have far1:1<=far/\far<=576:=by omega
 refine⟨_,rfl,p,_,rfl,by decide,by decide,T4.pool,λd5 G5 a5 b5 t5=>⟨_,_,rfl,rfl,?_⟩⟩
 have T5:=T4.trans t5
 dsimp only[zn]
 obtain⟨low,el⟩:∃low,d5 - 20=low:=⟨_,rfl⟩
 rw[el]
 have low1 : -20<=low/\low<=20:=by omega
 clear t1 t2 t3 t4 t5 hl1 hl2 hl3 eun ebe en
 refine⟨by show 0<=sizeLine;decide,λFd hFd=>?_⟩
 dsimp only[zn]
 have hFp:Fd≠p:=T5.pool.ne hFd
 have hF:H Fd=none:=T5.free hFd
 have S0:Som p Fd H (upd G5 Fd (.lst [])) low far [] []:=⟨T5.put hF hFp _,zg,⟨rfl,λi v e=>by simp at e⟩,λu m=>by simp at m⟩
 generalize upd G5 Fd (.lst [])=G6 at S0
 refine zU (λσ' G=>∃vs ps y7 y8 y9 y10 y11,σ'=[some (.ref p),some (.int un),some (.int be),some (.int n),some (.int far),some (.int low),some (.ref Fd),y7,y8,y9,y10,y11]/\Som p Fd H G low far vs ps/\ps.length<=16) ?_ ?_
 rotate_left
 ·intro nx hnx
  refine⟨_,rfl,p,_,rfl,by decide,by decide,S0.st.pool,λd7 G7 a7 b7 t7=>⟨_,_,rfl,rfl,_,rfl,by omega,by omega,?_⟩⟩
  have S7:=S0.step hFp t7
  obtain⟨m,em,m2⟩:∃m,(1+d7).toNat=m/\m<=2:=⟨_,rfl,by omega⟩
  rw[em]
  refine vS (n:=m) (lo:=0) (λi σ' G=>∃vs ps y7 y8 y9 y10 y11,σ'=[some (.ref p),some (.int un),some (.int be),some (.int n),some (.int far),some (.int low),some (.ref Fd),y7,y8,y9,y10,y11]/\Som p Fd H G low far vs ps/\ps.length<=8*i) ⟨[],[],none,none,none,none,none,rfl,S7,by decide⟩ ?_ ?_
  ·rintro i σ' G hi ⟨vs,ps,y7,y8,y9,y10,y11,rfl,S,pl⟩
   dsimp only[zn]
   refine⟨_,rfl,p,_,rfl,by decide,by decide,S.st.pool,λd8 G8 a8 b8 t8=>⟨_,_,rfl,rfl,_,rfl,_,rfl,_,_,rfl,rfl,⟨b2i,bS (by omega)⟩,p,_,rfl,by omega,by omega,t8.pool,λd9 G9 a9 b9 t9=>⟨_,_,rfl,?_⟩⟩⟩
   have S9:=(S.step hFp t8).step hFp t9
   dsimp only[zn]
   refine⟨_,rfl,_,rfl,by omega,by omega,?_⟩
   obtain⟨nn,enn,nn8,enI⟩:∃nn:Nat,n.toNat=nn/\nn<=8/\n=(nn:Int):=⟨n.toNat,rfl,by omega,by omega⟩
   rw[enn]
   refine vS (n:=nn) (lo:=0) (λj σ' G=>∃vs ps y10 y11,σ'=[some (.ref p),some (.int un),some (.int be),some (.int n),some (.int far),some (.int low),some (.ref Fd),some (.int (0+(i:Int))),some (.int (1+d8)),some (.int d9),y10,y11]/\Som p Fd H G low far vs ps/\ps.length<=8*i+j) ⟨vs,ps,y10,y11,rfl,S9,by omega⟩ ?_ ?_
   ·rintro j σ' G' hj ⟨vs,ps,y10,y11,rfl,S,pl⟩
    dsimp only[zn]
    have bq:0<=(2*far).fdiv n/\(2*far).fdiv n<=2*far:=by
     rw[Int.fdiv_eq_ediv_of_nonneg _ (by omega)]
     exact⟨Int.ediv_nonneg (by omega) (by omega),Int.ediv_le_self _ (by omega)⟩
    refine⟨_,rfl,_,rfl,_,rfl,_,_,rfl,rfl,⟨b2i,bS (by omega)⟩,_,rfl,_,_,rfl,rfl,⟨by omega,Bd.mono (m:=5) (show n.natAbs<2^5 by omega) (by decide)⟩,_,_,rfl,rfl,⟨bS (by omega),bS (by omega)⟩,_,_,rfl,rfl,_,rfl,_,_,rfl,rfl,⟨b2i,bS (by omega)⟩,_,_,rfl,rfl,by show (0:Int)<2*far;omega,?_⟩
    dsimp only[zn]
    have s0:=Int.emod_nonneg (d9+(0+(j:Int))*(2*far).fdiv n) (show 2*far≠0 by omega)
    have s1:=Int.emod_lt_of_pos (d9+(0+(j:Int))*(2*far).fdiv n) (show 0<2*far by omega)
    generalize (d9+(0+(j:Int))*(2*far).fdiv n) % (2*far)=sp at s0 s1
    refine⟨_,rfl,p,_,rfl,by decide,by decide,S.st.pool,λd10 G10 a10 b10 t10=>⟨_,_,rfl,rfl,_,rfl,xO (λ_=>?_) (λ_=>?_)⟩⟩
    ·have S10:=S.step hFp t10
     have hsz:(1000:Nat)<sizeLine:=by decide
     have pvl:=S.pr.1
     refine⟨_,rfl,_,rfl,_,_,rfl,rfl,_,rfl,xO (λz=>?_) (λz=>?_)⟩
     ·have h1:sp<far:=of_decide_eq_true z
      refine⟨_,rfl,.inl ⟨rfl,_,SqL.of S10.at_⟩,_,rfl,_,rfl,_,_,rfl,rfl,_,rfl,by show 2<=sizeLine;decide,λq hq=>⟨Fd,_,_,rfl,rfl,zi.upd hq _ _ S10.at_,by omega,?_⟩⟩
      have S11:=(S10.step hFp (zS.same (.refl S10.st.pool) (zi.upd (o:=.tup [.int (low+sp),.int (1+d8)]) hq))).put hF hFp (q:=q) (u:=(low+sp,1+d8)) zg ⟨by dsimp only;omega,by dsimp only;omega,by dsimp only;omega,by dsimp only;omega⟩
      exact⟨_,_,_,_,rfl,S11,by rw[List.length_append];simp;omega⟩
     ·have h1:¬sp<far:=λq=>z (decide_eq_true q)
      refine⟨_,rfl,.inl ⟨rfl,_,SqL.of S10.at_⟩,_,rfl,_,rfl,_,_,rfl,rfl,⟨b2i,bS (by omega)⟩,_,_,rfl,rfl,_,rfl,_,_,rfl,rfl,_,rfl,_,_,rfl,rfl,by show 2<=sizeLine;decide,λq hq=>⟨Fd,_,_,rfl,rfl,zi.upd hq _ _ S10.at_,by omega,?_⟩⟩
      have S11:=(S10.step hFp (zS.same (.refl S10.st.pool) (zi.upd (o:=.tup [.int (low+2*far - sp),.int (0 - (1+d8))]) hq))).put hF hFp (q:=q) (u:=(low+2*far - sp,0 - (1+d8))) zg ⟨by dsimp only;omega,by dsimp only;omega,by dsimp only;omega,by dsimp only;omega⟩
      exact⟨_,_,_,_,rfl,S11,by rw[List.length_append];simp;omega⟩
    ·exact⟨_,_,_,_,rfl,S.step hFp t10,by omega⟩
   ·rintro σ' G' ⟨vs,ps,y10,y11,rfl,S,pl⟩
    exact⟨_,_,_,_,_,_,_,rfl,S,by omega⟩
  ·rintro σ' G ⟨vs,ps,y7,y8,y9,y10,y11,rfl,S,pl⟩
   exact hnx _ _ ⟨_,_,_,_,_,_,_,rfl,S,by omega⟩
 rintro σ1 G8 ⟨vs,ps,y7,y8,y9,y10,y11,rfl,S8,pl⟩
 refine zU (λσ' G=>∃vs ps,σ'=[some (.ref p),some (.int un),some (.int be),some (.int n),some (.int far),some (.int low),some (.ref Fd),y7,y8,y9,y10,y11]/\Som p Fd H G low far vs ps/\1<=ps.length/\ps.length<=17) ?_ ?_
 rotate_left
 ·intro nx hnx
  have hsz:(1000:Nat)<sizeLine:=by decide
  have pvl:=S8.pr.1
  refine⟨_,rfl,p,_,rfl,by decide,by decide,S8.st.pool,λd9 G9 a9 b9 t9=>⟨rfl,_,rfl,xO (λ_=>?_) (λ_=>?_)⟩⟩
  ·have S9:=S8.step hFp t9
   refine⟨_,rfl,.inl ⟨rfl,_,SqL.of S9.at_⟩,_,rfl,_,rfl,_,rfl,_,_,rfl,rfl,p,_,rfl,by omega,by omega,S9.st.pool,λd10 G10 a10 b10 t10=>⟨_,_,rfl,rfl,by show 2<=sizeLine;decide,λq hq=>?_⟩⟩
   have S10:=S9.step hFp t10
   refine⟨Fd,_,_,rfl,rfl,zi.upd hq _ _ S10.at_,by omega,?_⟩
   have S11:=(S10.step hFp (zS.same (.refl S10.st.pool) (zi.upd (o:=.tup [.int (low+d10),.int 0]) hq))).put hF hFp (q:=q) (u:=(low+d10,0)) zg ⟨by dsimp only;omega,by dsimp only;omega,by show (-12:Int)<=0;decide,by show (0:Int)<=12;decide⟩
   exact hnx _ _ ⟨_,_,rfl,S11,by rw[List.length_append];simp,by rw[List.length_append];simp;omega⟩
  ·have S9:=S8.step hFp t9
   refine⟨_,rfl,by show 0<=sizeLine;decide,λe he=>?_⟩
   have S10:=S9.step hFp (zS.same (.refl S9.st.pool) (zi.upd (o:=.lst []) he))
   have he':upd G9 e (.lst []) e=some (.lst []):=zg
   generalize upd G9 e (.lst [])=G10 at S10 he'
   refine⟨_,_,.lst S10.at_ (zaM S10.pr),.lst he' .nil,VE _,rfl,_,rfl,xO (λ_=>?_) (λz=>hnx _ _ ⟨_,_,rfl,S10,?_,by omega⟩)⟩
   ·refine⟨_,rfl,.inl ⟨rfl,_,SqL.of S10.at_⟩,_,rfl,_,rfl,_,rfl,_,_,rfl,rfl,p,_,rfl,by omega,by omega,S10.st.pool,λd10 G11 a10 b10 t10=>⟨_,_,rfl,rfl,by show 2<=sizeLine;decide,λq hq=>?_⟩⟩
    have S11:=S10.step hFp t10
    refine⟨Fd,_,_,rfl,rfl,zi.upd hq _ _ S11.at_,by omega,?_⟩
    have S12:=(S11.step hFp (zS.same (.refl S11.st.pool) (zi.upd (o:=.tup [.int (low+d10),.int 0]) hq))).put hF hFp (q:=q) (u:=(low+d10,0)) zg ⟨by dsimp only;omega,by dsimp only;omega,by show (-12:Int)<=0;decide,by show (0:Int)<=12;decide⟩
    exact hnx _ _ ⟨_,_,rfl,S12,by rw[List.length_append];simp,by rw[List.length_append];simp;omega⟩
   ·cases ps with
    | nil=>exact absurd rfl z
    | cons _ _=>simp
 clear S8 S0 T5 T4 T3 T2 T1
 rintro σ1 G9 ⟨vs,ps,rfl,S9,p1,p17⟩
 refine zU (λσ' G=>∃vs ps,σ'=[some (.ref p),some (.int un),some (.int be),some (.int n),some (.int far),some (.int low),some (.ref Fd),y7,y8,y9,y10,y11]/\Som p Fd H G low far vs ps/\1<=ps.length/\ps.length<=8) ?_ ?_
 rotate_left
 ·intro nx hnx
  refine Zd (λσ' G=>∃vs ps,σ'=[some (.ref p),some (.int un),some (.int be),some (.int n),some (.int far),some (.int low),some (.ref Fd),y7,y8,y9,y10,y11]/\Som p Fd H G low far vs ps/\1<=ps.length/\ps.length<=17)
   (λ_ G=>match G Fd with | some (.lst us)=>us.length | _=>0) ⟨vs,ps,rfl,S9,p1,p17⟩ ?_ ?_
  ·rintro σ' G ⟨vs,ps,rfl,S,q1,q2⟩
   have pvl:=S.pr.1
   refine⟨_,rfl,Fd,_,rfl,.inl (.of S.at_),_,_,rfl,rfl,_,rfl,xO (λz=>?_) (λz=>?_)⟩
   ·have h8:(8:Int)<vs.length:=of_decide_eq_true z
    refine⟨_,rfl,.inl ⟨rfl,_,SqL.of S.at_⟩,_,rfl,_,rfl,Fd,_,rfl,.inl (.of S.at_),p,_,rfl,by omega,by omega,S.st.pool,λd G1 a b t=>?_⟩
    have S1:=S.step hFp t
    obtain⟨kk,rfl⟩:∃kk:Nat,d=(kk:Int):=⟨d.toNat,by omega⟩
    have hk:kk<vs.length:=by omega
    refine⟨Fd,_,_,kk,_,rfl,rfl,S1.at_,by omega,by omega,(by rw[PySem.StrLaws.seqIndex_nonneg (by omega) (by omega)];rfl),List.getElem?_eq_getElem hk,?_⟩
    have S2:=S1.pop hF hFp kk
    have hl:(ps.eraseIdx kk).length=ps.length - 1:=by rw[List.length_eraseIdx,if_pos (by omega)]
    refine⟨⟨_,_,rfl,S2,by omega,by omega⟩,?_⟩
    rw[S.at_,S2.at_]
    show (vs.eraseIdx kk).length<vs.length
    rw[List.length_eraseIdx,if_pos hk];omega
   ·have h8:¬(8:Int)<vs.length:=λq=>z (decide_eq_true q)
    exact hnx _ _ ⟨_,_,rfl,S,q1,by omega⟩
  ·rintro σ H1 Q1 Q2 hq ⟨v,e,p',xs,e0,sq,i,j,e1,e2,k1,e3,q⟩
   exact⟨v,e,p',xs,e0,sq,i,j,e1,e2,k1,e3,hq _ _ q⟩
 rintro σ1 G10 ⟨vs,ps,rfl,S10,p1,p8⟩
 refine⟨_,rfl,_,rfl,_,rfl,_,rfl,_,rfl,_,_,rfl,rfl,_,rfl,_,rfl,_,rfl,_,rfl,_,_,rfl,rfl,Fd,vs,ps,some low,some (low+far),rfl,S10.at_,S10.pr,p1,p8,λDn ys js G11 S11 hDn hGn hPj j1 j8 mem nd so=>?_⟩
 have hDnp:Dn≠p:=S10.st.pool.ne hDn
 have T11:=S10.st.same S11
 refine⟨_,rfl,p,_,rfl,by decide,by decide,T11.pool,λwt G12 a12 b12 t12=>⟨_,_,rfl,rfl,by show 6<=sizeLine;decide,λt ht=>?_⟩⟩
 have ss:=t12.same (zi.upd (o:=.tup [.int un,.int be,.int low,.int (low+far),.ref Dn,.int (1+wt)]) ht)
 have fs:∀u∈js,∃u0∈ps,u=stl (some low) (some (low+far)) u0:=λu m=>by
  obtain⟨u0,m0,e⟩:=List.mem_map.mp ((mem u).mp m);exact⟨u0,m0,e.symm⟩
 have b72:∀i:Int,-10000<=i->i<=10000->Bd 72 i:=λi h1 h2=>show i.natAbs<2^72 by omega
 have hlh:∀l h,some low=some l->some (low+far)=some h->l<h:=λl h e1 e2=>by cases e1;cases e2;omega
 refine k t Dn un be low far ys js (1+wt) _ (T11.trans ss) zg (S10.st.free hDn) hDnp (ss.keep _ _ hGn hDnp) (hPj.tups (xn T11.pool ss)) ⟨⟨un1,un2⟩,⟨be1,be2⟩,j1,j8,⟨by omega,by omega⟩,λu m=>?_,λl e=>?_,λl e=>?_,hlh,λu m l e=>?_,λu m l e=>?_,nd,so⟩
 ·obtain⟨u0,m0',rfl⟩:=fs u m
  have:=S10.inn u0 m0'
  exact⟨by rw[qH];exact b72 _ (by omega) (by omega),zbe (show u0.2.natAbs<2^70 by omega)⟩
 ·cases e;exact b72 _ (by omega) (by omega)
 ·cases e;exact b72 _ (by omega) (by omega)
 ·obtain⟨u0,m0',rfl⟩:=fs u m
  have:=S10.inn u0 m0'
  cases e
  exact⟨by rw[qH];omega,λz=>(Qs hlh u0).1 _ rfl (by rw[qH]at z;exact z)⟩
 ·obtain⟨u0,m0',rfl⟩:=fs u m
  have:=S10.inn u0 m0'
  cases e
  exact⟨by rw[qH];omega,λz=>(Qs hlh u0).2 _ rfl (by rw[qH]at z;exact z)⟩
theorem zdL:zx ["pool"] ["pool"] (zh xm):=⟨rfl,rfl,rfl,by decide +kernel,rfl,by decide +kernel,by decide +kernel⟩
theorem zdp (D:Df K mg "_law_round_world" xm ["pool"] []) (cN:Cal P w K mg base "_law_next" 1 ["pool","base"] [] jb) (cWo:Cal P w K mg base "_law_world" 4 ["pool","kind"] [] ze3) (cRw:Cal P w K mg base "_law_ring_world" 2 ["pool"] [] zb8) :
  Cal P w K mg base "_law_round_world" 5 ["pool"] [] zb8:=by
 refine D.cal (k:=4) zdL (λvs H Q E h=>by obtain⟨_,rfl,_⟩:=h;rfl) (λf cdv A outer s H vs Q E hr4 h=>?_)
 obtain⟨p,rfl,hP,k⟩:=h
 have hr1:xj 1 _:=hr4.mono (by decide)
 have hr2:xj 2 _:=hr4.mono (by decide)
 refine⟨_,(zf (zV (zu x5 (zv cN hr1 (za (pv 0) (za zd ze))) zd (zy _)) (zj (zD (zv cWo hr4 (za (pv 0) (za zd ze))))) zF)
  (zj (zD (zv cRw hr2 (za (pv 0) ze))))),?_⟩
 refine⟨_,rfl,p,_,rfl,by decide,by decide,hP,λd1 G1 a1 b1 t1=>⟨rfl,_,rfl,xO (λ_=>?_) (λ_=>?_)⟩⟩
 ·refine⟨_,rfl,p,3,rfl,t1.pool,λt D un be lo hi ys js wt H' s1 ht hD hDp hH' hPj z klo khi=>?_⟩
  cases lo with
  | none=>exact absurd rfl (klo (by decide))
  | some l =>
  cases hi with
  | none=>exact absurd rfl (khi (by decide))
  | some h =>
  have e:h=l+(h - l):=by omega
  refine k t D un be l (h - l) ys js wt H' (t1.trans s1) (by rw[<-e];exact ht) (t1.free hD) hDp hH' hPj (by rw[<-e];exact z)
 ·exact⟨_,rfl,p,rfl,t1.pool,λt D un be l far ys js wt H' s1 ht hD hDp hH' hPj z=>k t D un be l far ys js wt H' (t1.trans s1) ht (t1.free hD) hDp hH' hPj z⟩
end
end KK
end
section
set_option maxHeartbeats 8000000
set_option Elab.async false
set_option linter.all false
set_option maxRecDepth 100000
namespace KK
open PySem L2 KM
def ptW (un be far:Int) (kgs:List (Int×Int)):List Rat:=kgs.map λv=>Rat.divInt (2*far*be) (un*v.1*v.2)
theorem PcA.tups {G G':Hp}{us:List V}{s:Int}{kgs:List (Int×Int)} (h:PcA G us s kgs) (e:xo G G'):PcA G' us s kgs:=⟨h.1,λi v q=>let ⟨u,x,y,q1,q2,q3,q4⟩:=h.2 i v q;⟨u,x,y,q1,q2,e _ _ q3,e _ _ q4⟩⟩
structure RoT (G:Hp) (z q l:Addr) (us:List V) (un be far:Int) (kgs:List (Int×Int)):Prop where
 z:G z=some (.tup [.ref q,.ref l])
 q:zI G q (qB (ptW un be far kgs))
 l:G l=some (.lst us)
 pc:PcA G us be kgs
theorem RoT.same {G G':Hp}{z q l:Addr}{us:List V}{un be far:Int}{kgs:List (Int×Int)} (h:RoT G z q l us un be far kgs) (s:zi G G'):RoT G' z q l us un be far kgs:=⟨s _ _ h.z,s _ _ h.q,s _ _ h.l,h.pc.same s⟩
theorem zbJ {H:Hp}{x y:V}{d:PyData}{Q:VK}(h1:RdD H x d) (h2:RdD H y d) (s:SeqAt.shaped d=true) (q:Q (.bl false) H):zdC x y H Q :=
 ⟨_,_,h1,h2,s,s,by rw[SeqAt.eqv_refl _ (by have:(_&&decide (_<=64))=true:=s;exact(Bool.and_eq_true_iff.mp this).1)];exact q⟩
theorem zeK {G:Hp}{r ab:Addr}{un be l far wt:Int}{js:List (Int×Int)}{Q:VK}{E:XK}(ln:Ln G r ab (js.map (blO un be wt)) (some (Rat.divInt l un,0)) (some (Rat.divInt (l+far) un,0))) (z:WoZ un be (some l) (some (l+far)) js wt)
  (k0:phO l (2*far) js=[]->∀G',zi G G'->Q .non G')
  (k1:phO l (2*far) js≠[]->∀zz q l' us kgs G',zi G G'->KgZ (2*far) (phO l (2*far) js) kgs->RoT G' zz q l' us un be far kgs->G l'=none->Q (.ref zz) G') :
  Jp [.ref r,.ref ab] G Q E:=by
 obtain⟨T,s,tk,pss,R⟩:=XR z
 have l1:=z.l1
 obtain⟨b0,hb0⟩:∃b0,(js.map (blO un be wt))[0]? = some b0:=⟨_,List.getElem?_eq_getElem (by rw[List.length_map];omega)⟩
 refine⟨r,ab,_,b0,_,_,T,s,tk,pss,rfl,ln,z.lnz,hb0,QP (lo:=some l) (hi:=some (l+far)) hb0,R.d,λe=>k0 (R.nil.mp e),λne zz G' kgs q l' us S hk hz hq hl hl' hp=>?_⟩
 obtain⟨kgw,w1,w2,w3⟩:=R.kg kgs hk
 refine k1 (λe=>ne (R.nil.mpr e)) zz q l' us kgw G' S w1 ⟨hz,?_,hl',by rw[hp.1,w2],λi v e=>?_⟩ hl
 ·have:ptL T tk kgs=ptW un be far kgw:=by
   refine List.ext_getElem? λi=>?_
   unfold ptL ptW
   rw[List.getElem?_map,List.getElem?_map]
   cases e:kgs[i]? with
   | none=>rw[List.getElem?_eq_none (by rw[w2];exact List.getElem?_eq_none_iff.mp e)];rfl
   | some u=>obtain⟨v,e1,_,_,e4⟩:=w3 i u e;rw[e1];exact congrArg some e4
  rw[<-this];exact hq
 ·obtain⟨u,x,y,e1,e2,e3,e4⟩:=hp.2 i v e
  obtain⟨v',f1,f2,f3,_⟩:=w3 i u e1
  exact⟨v',x,y,f1,e2,by rw[f2];exact e3,by rw[<-f3];exact e4⟩
theorem zaU {G:Hp}{σ:St}{i j:Nat}{r ab:Addr}{un be l far wt:Int}{js:List (Int×Int)}{Q:VK}(h1:σ[i]? = some (some (.ref r))) (h2:σ[j]? = some (some (.ref ab))) (ln:Ln G r ab (js.map (blO un be wt)) (some (Rat.divInt l un,0)) (some (Rat.divInt (l+far) un,0))) (z:WoZ un be (some l) (some (l+far)) js wt)
  (k0:phO l (2*far) js=[]->∀G',zi G G'->Q .non G')
  (k1:phO l (2*far) js≠[]->∀zz q l' us kgs G',zi G G'->KgZ (2*far) (phO l (2*far) js) kgs->RoT G' zz q l' us un be far kgs->G l'=none->Q (.ref zz) G') :
  jC Jp [] E0 (x6 (xN i) (x6 (xN j) ju)) σ G Q:=⟨_,h1,_,h2,zeK (E:=E0) ln z k0 k1⟩
end KK
end
section
set_option maxHeartbeats 8000000
set_option Elab.async false
set_option linter.all false
set_option maxRecDepth 100000
namespace KK
open PySem L2 KM
theorem QM:∀{l1 l2:List Int},l1.Nodup->(∀x∈l1,x∈l2)->l1.length<=l2.length
 | [],_,_,_=>Nat.zero_le _
 | a::l1,l2,nd,sub=>by
  have ha:=sub a (.head _)
  obtain⟨na,nd'⟩:=List.nodup_cons.mp nd
  have:=QM (l2:=l2.erase a) nd' λx m=>(List.mem_erase_of_ne (λe:x=a=>na (by rw[<-e];exact m))).mpr (sub x (.tail _ m))
  rw[List.length_erase_of_mem ha]at this
  have:0<l2.length:=List.length_pos_of_mem ha
  simp;omega
theorem Qz {ps:List Int}{T m:Int}(h:zM ps T m=true) (h0:0<T) (hp:∀p∈ps,0<=p/\p<T) (ne:ps≠[]) (m0:0<m):m<=ps.length:=by
 rcases Int.lt_or_le (ps.length:Int) m with lt | le
 ·exfalso
  have pm:=XF.mp h
  obtain⟨p0,rest,rfl⟩:∃a b,ps=a::b:=by cases ps with | nil=>exact absurd rfl ne | cons a b=>exact⟨a,b,rfl⟩
  have tm:0<T*m:=Int.mul_pos h0 m0
  have cl:∀w∈(p0::rest).map (· * m),(w+T) % (T*m)∈(p0::rest).map (· * m):=λw mw=>by
   obtain⟨p,mp,rfl⟩:=List.mem_map.mp mw
   exact pm.symm.subset (List.mem_map.mpr ⟨p,mp,rfl⟩)
  have b0:=hp p0 (.head _)
  have w0:0<=p0*m/\p0*m<T*m:=⟨Int.mul_nonneg b0.1 (by omega),Int.mul_lt_mul_of_pos_right b0.2 m0⟩
  have orb:∀j:Nat,(p0*m+j*T) % (T*m)∈(p0::rest).map (· * m):=by
   intro j
   induction j with
   | zero=>rw[show p0*m+((0:Nat):Int)*T=p0*m by simp,Int.emod_eq_of_lt w0.1 w0.2];exact List.mem_map.mpr ⟨p0,.head _,rfl⟩
   | succ j ih =>
    have:=cl _ ih
    rw[Int.emod_add_emod]at this
    rw[show p0*m+((j+1:Nat):Int)*T=p0*m+j*T+T by rw[Int.natCast_add,Int.add_mul];simp;omega]
    exact this
  have nd:((List.range ((p0::rest).length+1)).map λj:Nat=>(p0*m+j*T) % (T*m)).Nodup:=by
   refine List.pairwise_map.mpr (List.Pairwise.imp_of_mem (R:=(· < ·)) (λ{a b} ma mb lt' e=>?_) List.pairwise_lt_range)
   have hb:=List.mem_range.mp mb
   have e2:(T*m) ∣ ((p0*m+b*T) - (p0*m+a*T)):=Int.dvd_of_emod_eq_zero (Int.emod_eq_emod_iff_emod_sub_eq_zero.mp e.symm)
   rw[show (p0*m+(b:Int)*T) - (p0*m+a*T)=T*((b:Int) - a) by rw[Int.mul_sub,Int.mul_comm T b,Int.mul_comm T a];omega]at e2
   have e3:=Int.dvd_of_mul_dvd_mul_left (by omega:T≠0) e2
   have:=Int.le_of_dvd (by omega) e3
   omega
  have:=QM nd λx mx=>by obtain⟨j,_,rfl⟩:=List.mem_map.mp mx;exact orb j
  rw[List.length_map,List.length_map,List.length_range]at this
  omega
 ·exact le
def xC:List Int:=[2,3,5,7]
def igB (ps:List Int) (T m:Int):Bool:=decide (1<=m)&&(zM ps T m&&!(xC.any λp=>zM ps T (m*p)))
theorem zbz {c c' T T' m:Int}(hc:0<c) (hc':0<c'){ps qs:List Int}(e:ps.map (· * c)=qs.map (· * c')) (eT:T*c=T'*c'):igB ps T m=igB qs T' m:=by
 unfold igB
 rw[Zl hc hc' e eT]
 congr 3
 refine congrArg (λf=>List.any xC f) (funext λp=>Zl hc hc' e eT)
theorem zcR {ps:List Int}{T:Int}{M:Nat}(g:GmZ T ps M) (h0:0<T) (hp:∀p∈ps,0<=p/\p<T):igB ps T M=true:=by
 have g1:=g.m1
 have g2:=g.m2
 unfold igB
 rw[decide_eq_true (show (1:Int)<=(M:Int) by omega),g.m3,Bool.true_and,Bool.true_and,Bool.not_eq_true']
 refine List.any_eq_false.mpr λp mp hc=>?_
 have p2:2<=p:=by
  unfold xC at mp
  simp at mp
  omega
 have ne:ps≠[]:=λe=>by rw[e]at g2;simp at g2;omega
 have mm:(M:Int)*2<=M*p:=Int.mul_le_mul_of_nonneg_left p2 (by omega)
 have le:=Qz hc h0 hp ne (by omega)
 obtain⟨q,hq⟩:∃q:Nat,(M:Int)*p=(q:Int):=⟨((M:Int)*p).toNat,by omega⟩
 rw[hq]at hc le mm
 have:=g.m4 q (by omega) (by omega) hc
 omega
def xp (pss:List (Int×List Int)) (k:Int):List Int:=((pss.find? λe=>decide (e.1=k)).map Prod.snd).getD []
theorem vB {pss:List (Int×List Int)} (nd:(pss.map Prod.fst).Nodup){e:Int×List Int}(m:e∈pss):xp pss e.1=e.2:=by
 unfold xp
 cases hf:pss.find? λx=>decide (x.1=e.1)with
 | none=>exact absurd (decide_eq_true rfl) (List.find?_eq_none.mp hf e m)
 | some x =>
  have mx:=List.mem_of_find?_eq_some hf
  have kx:x.1=e.1:=by have:=List.find?_some hf;exact of_decide_eq_true this
  have:x=e:=by
   by_cases c:x=e
   ·exact c
   ·exact absurd kx (PhA.put.nodup_ne (f:=λy:Int×List Int=>y.1) nd mx m c)
  rw[this];rfl
def jc (ks:List Int) (ps:Int->List Int) (T s:Int) (pt:Int->Int->Rat) (X:Rat) (qs:List (Rat×Int)):Bool :=
 decide (qs.map Prod.fst=ks.map λk=>Rat.divInt k s)&&(((ks.zip (qs.map Prod.snd)).all λu=>igB (ps u.1) T u.2)&&decide (X=qB ((ks.zip (qs.map Prod.snd)).map λu=>pt u.1 u.2)))
theorem Z6:∀(a b:List Rat),PyData.eqvAll (a.map rD) (b.map rD)=decide (a=b)
 | [],[]=>rfl
 | [],_::_=>rfl
 | _::_,[]=>rfl
 | x::a,y::b=>by
  show (PyData.eqv (rD x) (rD y)&&PyData.eqvAll (a.map rD) (b.map rD))=_
  rw[Z6 a b]
  have e1:PyData.eqv (rD x) (rD y)=decide (x=y):=by
   show PyData.eqvAll ([x.num,(x.den:Int)].map .int) ([y.num,(y.den:Int)].map .int)=_
   rw[jS,decide_eq_decide]
   constructor
   ·intro h
    injection h with h1 h2
    injection h2 with h2 _
    exact Rat.ext h1 (by omega)
   ·rintro rfl;rfl
  rw[e1]
  by_cases h:x=y
  ·subst h;simp
  ·simp[h]
theorem VZ (x y:Rat):PyData.eqv (rD x) (rD y)=decide (x=y):=by
 have:=Z6 [x] [y]
 simp only[List.map_cons,List.map_nil]at this
 have e:PyData.eqvAll [rD x] [rD y]=(PyData.eqv (rD x) (rD y)&&true):=rfl
 rw[e,Bool.and_true]at this
 rw[this];simp
inductive RL (P:Int->Int->Prop):List Int->List Int->Prop
 | nil:RL P [] []
 | cons {a b:Int}{as bs:List Int}:P a b->RL P as bs->RL P (a::as) (b::bs)
theorem RL.of {P:Int->Int->Prop}{c d:Int}:∀{as bs:List Int},as.map (· * c)=bs.map (· * d)->(∀a∈as,∀b∈bs,a*c=b*d->P a b)->RL P as bs
 | [],[],_,_=>.nil
 | [],_::_,h,_=>by simp at h
 | _::_,[],h,_=>by simp at h
 | a::as,b::bs,h,f=>by
  have h1:a*c=b*d:=by injection h
  have h2:as.map (· * c)=bs.map (· * d):=by injection h
  exact .cons (f a (.head _) b (.head _) h1) (RL.of h2 λx mx y my=>f x (.tail _ mx) y (.tail _ my))
theorem RL.mapE {P:Int->Int->Prop}{α:Type}{f g:Int->α}(h:∀a b,P a b->f a=g b):∀{as bs:List Int},RL P as bs->as.map f=bs.map g
 | _,_,.nil=>rfl
 | _,_,.cons p r=>by rw[List.map_cons,List.map_cons,h _ _ p,RL.mapE h r]
theorem RL.all {P:Int->Int->Prop}{f g:Int×Int->Bool}(h:∀a b m,P a b->f (a,m)=g (b,m)):∀{as bs:List Int}(ms:List Int),RL P as bs->(as.zip ms).all f=(bs.zip ms).all g
 | _,_,_,.nil=>rfl
 | _,_,[],.cons p r=>rfl
 | _,_,m::ms,.cons p r=>by
  rw[List.zip_cons_cons,List.zip_cons_cons,List.all_cons,List.all_cons,h _ _ _ p,RL.all h ms r]
theorem RL.mapZ {P:Int->Int->Prop}{α:Type}{f g:Int×Int->α}{q:Int×Int->Bool}(h:∀a b m,P a b->q (a,m)=true->f (a,m)=g (b,m)):∀{as bs:List Int}(ms:List Int),RL P as bs->(as.zip ms).all q=true->(as.zip ms).map f=(bs.zip ms).map g
 | _,_,_,.nil,_=>rfl
 | _,_,[],.cons p r,_=>rfl
 | _,_,m::ms,.cons p r,hq=>by
  rw[List.zip_cons_cons,List.all_cons,Bool.and_eq_true]at hq
  rw[List.zip_cons_cons,List.zip_cons_cons,List.map_cons,List.map_cons,h _ _ _ p hq.1,RL.mapZ h ms r hq.2]
theorem ZO {ps:List Int}{T m:Int}(h:igB ps T m=true):0<m:=by
 unfold igB at h
 rw[Bool.and_eq_true]at h
 have:=of_decide_eq_true h.1
 omega
theorem Vm {ps:List Int}{T m:Int}(h:igB ps T m=true) (h0:0<T) (hp:∀p∈ps,0<=p/\p<T) (ne:ps≠[]):m<=ps.length:=by
 have m0:=ZO h
 unfold igB at h
 rw[Bool.and_eq_true,Bool.and_eq_true]at h
 exact Qz h.2.1 h0 hp ne m0
theorem zbE {un be wt l far:Int}{js:List (Int×Int)}{T s:Int}{tk:Rat}{pss:List (Int×List Int)} (z:WoZ un be (some l) (some (l+far)) js wt) (R:zec un be wt l far js T s tk pss) (X:Rat) (qs:List (Rat×Int)) :
  jc (vE (pss.map Prod.fst)) (xp pss) T s (λk m=>qD T k m tk) X qs=jc (vE ((phO l (2*far) js).map Prod.fst)) (xp (phO l (2*far) js)) (2*far) be (λk m=>Rat.divInt (2*far*be) (un*k*m)) X qs:=by
 obtain⟨p,hp,link,eT⟩:=R.lk
 have hs:=R.sp
 have hu:0<un:=z.un.1
 have he:0<be:=z.be.1
 have pj:=z.phj
 generalize phO l (2*far) js=pws at *
 have keys:(pss.map Prod.fst).map (· * be)=(pws.map Prod.fst).map (· * s):=by
  have:=congrArg (List.map Prod.fst) link
  rw[List.map_map,List.map_map]at this
  rw[List.map_map,List.map_map];exact this
 have nds:(pss.map Prod.fst).Nodup:=by
  have h1:((pws.map Prod.fst).map (· * s)).Nodup:=by
   refine List.pairwise_map.mpr (pj.nd.imp λ{a b} h e=>h ?_)
   exact Int.eq_of_mul_eq_mul_right (show s≠0 by omega) e
  rw[<-keys]at h1
  exact(List.pairwise_map.mp h1).imp λ{a b} h e=>h (by rw[e])
 have srt:(vE (pss.map Prod.fst)).map (· * be)=(vE (pws.map Prod.fst)).map (· * s):=by rw[<-ZU he,<-ZU hs,keys]
 let Pr:Int->Int->Prop:=λa b=>a*be=b*s/\0<b/\∀m,igB (xp pss a) T m=igB (xp pws b) (2*far) m
 have rl:RL Pr (vE (pss.map Prod.fst)) (vE (pws.map Prod.fst)):=RL.of srt λa ma b mb e=>by
  have ma':=(vy _).subset ma
  obtain⟨e1,m1,rfl⟩:=List.mem_map.mp ma'
  have:scP be un e1∈pws.map (scP s p):=by rw[<-link];exact List.mem_map.mpr ⟨e1,m1,rfl⟩
  obtain⟨e2,m2,q⟩:=List.mem_map.mp this
  unfold scP at q
  injection q with q1 q2
  have eb:e2.1=b:=Int.eq_of_mul_eq_mul_right (show s≠0 by omega) (by rw[q1,e])
  refine⟨e,by rw[<-eb];exact pj.k0 e2 m2,λm=>?_⟩
  rw[vB nds m1,<-eb,vB pj.nd m2]
  exact zbz hu hp q2.symm eT
 generalize vE (pss.map Prod.fst)=ks at *
 generalize vE (pws.map Prod.fst)=kw at *
 unfold jc
 rw[rl.mapE (f:=λk=>Rat.divInt k s) (g:=λk=>Rat.divInt k be) λa b h=>(Rat.divInt_eq_divInt_iff (by omega) (by omega)).mpr h.1]
 rw[rl.all (f:=λu=>igB (xp pss u.1) T u.2) (g:=λu=>igB (xp pws u.1) (2*far) u.2) (λa b m h=>h.2.2 m) (qs.map Prod.snd)]
 cases hq:(kw.zip (qs.map Prod.snd)).all λu=>igB (xp pws u.1) (2*far) u.2 with
 | false=>rfl
 | true =>
  have hq2:(ks.zip (qs.map Prod.snd)).all (λu=>igB (xp pss u.1) T u.2)=true:=by
   rw[rl.all (f:=λu=>igB (xp pss u.1) T u.2) (g:=λu=>igB (xp pws u.1) (2*far) u.2) (λa b m h=>h.2.2 m) (qs.map Prod.snd)];exact hq
  rw[rl.mapZ (f:=λu=>qD T u.1 u.2 tk) (g:=λu=>Rat.divInt (2*far*be) (un*u.1*u.2)) (q:=λu=>igB (xp pss u.1) T u.2) (λa b m h h2=>R.pe a b m h.1 h.2.1 (ZO h2)) (qs.map Prod.snd) hq2]
end KK
end
section
set_option maxHeartbeats 8000000
set_option Elab.async false
set_option linter.all false
set_option maxRecDepth 100000
namespace KK
open PySem L2 KM
structure TxP (K:PySem.W.Frag) (mg:Str->Option Value) (aP:Addr):Prop where
 nAny:mg "any" = none
 mp:mg "PRIMES" = some (.ref aP)
 sq:∀H,SqT K H aP (xC.map V.int)
section
variable {P:Program}{w:World}{K:PySem.W.Frag}{mg:Str->Option Value}{base:Heap}{C CE:Addr}{aN aP:Addr}
def zeU:Sp:=λvs H Q _=>∃L ps T m,vs=[.ref L,.int T,.int m]/\H L=some (.lst (ps.map V.int))/\Phs ps T/\Bd 200 m/\∀H',zi H H'->Q (.bl (igB ps T m)) H'
theorem zdJ:zx ["phases","trip","many"] ["phases","trip","many"] (zh xg):=⟨rfl,rfl,rfl,by decide +kernel,rfl,by decide +kernel,by decide +kernel⟩
theorem zaW {H:Hp}{a:Addr}{xs:List V}(h:∀G,SqT K G a xs):Vb (Itt K a) H xs:=⟨λi G hi _=>⟨_,xs[i],h G,List.getElem?_eq_getElem hi⟩,λG _=>⟨_,h G,Nat.le_refl _⟩,λi x G G' s e=>by obtain⟨e1,e2⟩:=e;exact⟨e1,e2 _ (h G)⟩⟩
theorem zdh (D:Df K mg "is_greatest_many" xg ["phases","trip","many"] []) (TP:TxP K mg aP) (cCg:Cal P w K mg base "comes_again" 1 ["phases","trip","many"] [] JZ):Cal P w K mg base "is_greatest_many" 2 ["phases","trip","many"] [] zeU:=by
 refine D.cal (k:=1) zdJ (λvs H Q E h=>by obtain⟨_,_,_,_,rfl,_⟩:=h;rfl) (λf cdv A outer s H vs Q E hr1 h=>?_)
 obtain⟨L,ps,T,m,rfl,hL,z,bm,k⟩:=h
 have bM:∀{n:Nat}{i:Int},Bd n i->n<=1000000->Bd 1000000 i:=λh l=>h.mono l
 refine⟨_,(zf (zV ((vU (zu jW (pv 2) zd (zy _)) (vO (vN (xL (zv cCg hr1 (za (pv 0) (za (pv 1) (za (pv 2) ze)))) λ_=>rfl))))).pt (zj (zD vF)) zF)
  (zj (zD (zaG (zw (Qx rfl) (by rfl) TP.nAny (by decide +kernel) (za (xK (NB:=["prime"]) (FR:=["phases","trip","many"]) (js:=[0,1,2]) rfl rfl (λx c h=>jP rfl rfl rfl x c h) (.cons rfl rfl rfl ⟨_,rfl⟩ (.cons rfl rfl rfl ⟨_,rfl⟩ (.cons rfl rfl rfl ⟨_,rfl⟩ .nil))) rfl (by decide +kernel) rfl (by decide +kernel) (vL (Jf (v:=.ref aP) (by rfl) TP.mp rfl)) (by intro _ _ _;refine⟨?_,?_,?_⟩;(exact(zk (i:=0) (show List.Nodup (["prime","phases","trip","many"]:List Str) by decide +kernel) rfl (Or.inl rfl)));(exact zL);(exact(zv cCg hr1 (za (pv 1) (za (pv 2) (za (zl zG (pv 3) (pv 0)) ze))))))) ze)))))),?_⟩
 refine⟨_,rfl,_,_,rfl,rfl,_,rfl,xO (λh=>?_) (λh=>?_)⟩
 ·have hm:m<1:=of_decide_eq_true h
  refine xY ?_
  have:igB ps T m=false:=by unfold igB;rw[decide_eq_false (show ¬(1:Int)<=m by omega)];rfl
  rw[this]at k
  exact k H (zi.refl _)
 have hm:¬m<1:=λq=>h (decide_eq_true q)
 refine⟨_,rfl,_,rfl,_,rfl,L,ps,T,m,rfl,hL,z,by omega,bm.mono (by decide),λH1 S1=>⟨_,rfl,?_⟩⟩
 cases hc:zM ps T m with
 | false =>
  refine xY ?_
  have:igB ps T m=false:=by unfold igB;rw[hc];simp
  rw[this]at k
  exact k H1 S1
 | true =>
  refine xZ ?_
  have hL1:=S1 _ _ hL
  refine⟨aP,rfl,⟨_,TP.sq _⟩,λDc hDc=>?_⟩
  refine zW (js:=[0,1,2]) (J:=Itt K aP) (g:=zn 0) (te:=_) (n:=1) (xs:=xC.map V.int) (λi v G=>∃p,xC[i]? = some p/\v = .bl (zM ps T (m*p))) (λ_ _ _ _ _ h=>h) hDc (zaW TP.sq) (zZ (by decide)) ?_ ?_
  ·intro i y zs G Q' hy hz S hQ
   rw[List.getElem?_map]at hy
   cases hp:xC[i]? with
   | none=>rw[hp]at hy;cases hy
   | some p =>
   rw[hp]at hy;cases hy
   obtain⟨w1,rfl⟩:=v7 hz
   have mp:=List.mem_of_getElem? hp
   have p7:2<=p/\p<=7:=by unfold xC at mp;simp at mp;omega
   have bp:Bd 4 p:=(show p.natAbs<2^4 by omega)
   exact⟨rfl,_,rfl,_,rfl,_,rfl,_,rfl,_,_,rfl,rfl,⟨bM bm (by decide),bM bp (by decide)⟩,L,ps,T,m*p,rfl,S _ _ hL1,z,Int.mul_pos (by omega) (by omega),(bm.mul bp).mono (by decide),λG1 S1'=>hQ _ _ S1' ⟨p,hp,rfl⟩⟩
  intro us G S hDG hul hR
  have eu:us=(xC.map λp=>zM ps T (m*p)).map V.bl:=by
   refine List.ext_getElem? λi=>?_
   rw[List.getElem?_map,List.getElem?_map]
   cases e:us[i]? with
   | none =>
    have:=List.getElem?_eq_none_iff.mp e
    rw[hul,List.length_map]at this
    rw[List.getElem?_eq_none this];rfl
   | some v=>obtain⟨p,e1,e2⟩:=hR i v e;rw[e1,e2];rfl
  rw[eu]at hDG
  refine⟨Dc,_,rfl,SqL.of hDG,_,rfl,?_⟩
  have:igB ps T m = !((xC.map λp=>zM ps T (m*p)).any id):=by
   unfold igB;rw[hc,decide_eq_true (show (1:Int)<=m by omega),Bool.true_and,Bool.true_and,List.any_map];rfl
  rw[this]at k
  exact k G (S1.trans S)
end
end KK
end
section
set_option maxHeartbeats 8000000
set_option Elab.async false
set_option linter.all false
set_option maxRecDepth 100000
namespace KK
open PySem L2 KM
def xH (H:Hp) (us:List V) (qs:List (Rat×Int)):Prop:=us.length=qs.length/\∀(i:Nat) (v:V),us[i]? = some v->∃u x y,qs[i]? = some u/\v = .ref x/\H x=some (.tup [.ref y,.int u.2])/\zI H y u.1
theorem xH.tups {H H':Hp}{us:List V}{qs:List (Rat×Int)} (h:xH H us qs) (e:xo H H'):xH H' us qs:=⟨h.1,λi v q=>let ⟨u,x,y,a,b,c,d⟩:=h.2 i v q;⟨u,x,y,a,b,e _ _ c,e _ _ d⟩⟩
theorem xH.same {H H':Hp}{us:List V}{qs:List (Rat×Int)} (h:xH H us qs) (e:zi H H'):xH H' us qs:=h.tups (.of e)
def LoT (H:Hp) (a:Addr) (us:List V):Prop:=H a=some (.lst us)\/H a=some (.tup us)
theorem LoT.same {H H':Hp}{a:Addr}{us:List V}(h:LoT H a us) (e:zi H H'):LoT H' a us:=h.elim (λq=>.inl (e _ _ q)) λq=>.inr (e _ _ q)
theorem j3 {H:Hp}:∀{us:List V}{xs:List Rat},us.length=xs.length->(∀(i:Nat) (v:V),us[i]? = some v->∃x a,xs[i]? = some x/\v = .ref a/\zI H a x)->jz H us (xs.map rD)
 | [],[],_,_=>.nil
 | [],_::_,h,_=>by simp at h
 | _::_,[],h,_=>by simp at h
 | v::us,x::xs,h,f=>by
  obtain⟨x',a,e1,rfl,e3⟩:=f 0 v rfl
  cases e1
  exact .cons (Zw e3) (j3 (by simpa using h) λi v e=>f (i+1) v e)
theorem Jl (xs:List Rat):SeqAt.shaped (.list (xs.map rD))=true:=by
 have k:PyData.canLayAll0 (xs.map rD)=true/\PyData.depthAll (xs.map rD)<=1:=by
  induction xs with
  | nil=>exact⟨rfl,Nat.zero_le _⟩
  | cons d ds ih =>
   refine⟨?_,?_⟩
   ·show (PyData.canLay0 (rD d)&&_)=true
    rw[ih.1];rfl
   ·show max (PyData.depth (rD d)) _<=1
    have:PyData.depth (rD d)=1:=rfl
    rw[this];have:=ih.2;omega
 have c1:PyData.canLay0 (.list (xs.map rD))=true:=k.1
 have d1:PyData.depth (.list (xs.map rD))<=2:=by show _+1<=2;have:=k.2;omega
 show (_&&decide (_<=64))=true
 rw[c1,decide_eq_true (by omega)];rfl
theorem Jb {H:Hp}{a b:Addr}{us vs:List V}{xs ys:List Rat}{Q:VK}(h1:H a=some (.lst us)) (r1:jz H us (xs.map rD)) (h2:H b=some (.lst vs)) (r2:jz H vs (ys.map rD)) (q:Q (.bl (!decide (xs=ys))) H):zdC (.ref a) (.ref b) H Q :=
 ⟨_,_,.lst h1 r1,.lst h2 r2,Jl _,Jl _,by rw[show PyData.eqv (.list (xs.map rD)) (.list (ys.map rD))=decide (xs=ys)from Z6 xs ys];exact q⟩
section
variable {P:Program}{w:World}{K:PySem.W.Frag}{mg:Str->Option Value}{base:Heap}{C CE:Addr}{aN aP:Addr}
def zdS:Sp:=λvs H Q _=>∃r a mq pp us qs X bs b0 lo hi T s tk pss,vs=[.ref r,.ref a,.ref mq,.ref pp]/\Ln H r a bs (some lo) (some hi)/\LnZ bs (some lo) (some hi)/\bs[0]? = some b0/\plB (tb b0) (bs.map tb) (some lo) (some hi)=true/\RoG bs lo hi T s tk pss/\pss≠[] ∧
 LoT H pp us/\xH H us qs/\qs.length<=9/\(∀u∈qs,Bd 200 u.2)/\zI H mq X/\∀H',zi H H'->Q (.bl (jc (vE (pss.map Prod.fst)) (xp pss) T s (λk m=>qD T k m tk) X qs)) H'
theorem j4:zx ["row","walls","moment","paper","course","phases","paces","manies"] ["row","walls","moment","paper"] (zh qf):=⟨rfl,rfl,rfl,by decide +kernel,rfl,by decide +kernel,by decide +kernel⟩
theorem zes {fi:Addr}{fdi:FuncData}(D:Df K mg "lets_round" qf ["row","walls","moment","paper"] []) (T:TxB K mg) (TQ:TxQ K mg) (T3:Tx3 K mg aN) (TC:TCo K C) (M:Mk K C fi) (Fi:jD P w K mg base CX0 4 fi fdi ["self","row","walls"] (zdP C)) (hmC:mg "Course" = some (.ref C)) (Bi:jd K fdi ["self","row","walls"] [])
  (cNx:Cal P w K mg base "refuse_no_box" 8 ["row","walls"] [] zdT) (cPh:Cal P w K mg base "phases_of" 2 ["course"] [] (zdV C)) (cIg:Cal P w K mg base "is_greatest_many" 2 ["phases","trip","many"] [] zeU) (cTr:Cal P w K mg base "trip_of" 1 ["course"] [] (Xn C)) (cLr:Cal P w K mg base "least_round" 4 ["course","manies"] [] (zba C)) (cR:Cal P w K mg base "ratio" 2 ["top","bottom"] [] XS) :
  Cal P w K mg base "lets_round" 9 ["row","walls","moment","paper"] [] zdS:=by
 refine D.cal (k:=8) j4 (λvs H Q E h=>by obtain⟨_,_,_,_,_,_,_,_,_,_,_,_,_,_,_,rfl,_⟩:=h;rfl) (λf cdv A outer s H vs Q E hr8 h=>?_)
 obtain⟨r,a,mq,pp,pus,qs,X,bs,b0,lo,hi,Tt,ss,tk,pss,rfl,ln,lz,h0,hp,Z0,ne0,hpp,hpap,q9,qb,hX,k⟩:=h
 have hr5:xj 5 _:=hr8.mono (by decide)
 have hr4:xj 4 _:=hr8.mono (by decide)
 have hr2:xj 2 _:=hr8.mono (by decide)
 have hr1:xj 1 _:=hr8.mono (by decide)
 have hu:=hr8.units
 have hu1:=Nat.lt_of_le_of_lt (Nat.add_le_add_left (show 1<=64 by decide) _) hr8.units
 obtain⟨b0',e0',pl⟩:=ln.pl
 rw[h0]at e0';cases e0'
 refine⟨_,(zf (xt (zv cNx hr8 (za (pv 0) (za (pv 1) ze))))
  (zf (zA (i:=4) j4.nd rfl (Or.inr rfl) (Jg M Fi hr5 (by rfl) hmC Bi .nil zaD (za (pv 0) (za (pv 1) ze))))
  (zf (zA (i:=5) j4.nd rfl (Or.inr rfl) (zv cPh hr2 (za (pv 4) ze)))
  (zf (zA (i:=6) j4.nd rfl (Or.inl rfl) (zw (Z4 rfl) (by rfl) T3.nSorted PyProof.Rows.boot_sorted (za (pv 5) ze)))
  (zf (zV ((vU (zu x5 (zw xq (by rfl) T.nLen PySem.boot_len (za (pv 6) ze)) zd (zy _)) (vO (zu (Vv hu) (qo (NB:=["pace","many"]) rfl (by decide +kernel) (by decide +kernel) rfl (by decide +kernel) (zaJ (pv 3)) (by intro _ _ _;refine⟨?_,?_,?_⟩;(exact(q8 (K:=K) (n:=2) rfl rfl (zm (zk (i:=0) (show List.Nodup (["pace","many"]:List Str) by decide +kernel) rfl (Or.inl rfl)) (zm (zk (i:=1) (show List.Nodup (["pace","many"]:List Str) by decide +kernel) rfl (Or.inl rfl)) zO))));(exact zL);(exact(pv 0)))) (xK (NB:=["pace"]) (FR:=["course"]) (js:=[4]) rfl rfl (λx c h=>jk rfl x c h) (.cons rfl rfl rfl ⟨_,rfl⟩ .nil) rfl (by decide +kernel) rfl (by decide +kernel) (zP (pv 6)) (by intro _ _ _;refine⟨?_,?_,?_⟩;(exact(zk (i:=0) (show List.Nodup (["pace","course"]:List Str) by decide +kernel) rfl (Or.inl rfl)));(exact zL);(exact(zv cR hr2 (za (pv 0) (za (Je (K:=K) rfl (pv 1) rfl) ze)))))) (zy _))))).pt (zj (zD vF)) zF)
  (zf (zA (i:=7) j4.nd rfl (Or.inl rfl) (Vy rfl (by rfl) TQ.nList (by rfl) TQ.nZip (pv 6) (qo (NB:=["pace","many"]) rfl (by decide +kernel) (by decide +kernel) rfl (by decide +kernel) (zaJ (pv 3)) (by intro _ _ _;refine⟨?_,?_,?_⟩;(exact(q8 (K:=K) (n:=2) rfl rfl (zm (zk (i:=0) (show List.Nodup (["pace","many"]:List Str) by decide +kernel) rfl (Or.inl rfl)) (zm (zk (i:=1) (show List.Nodup (["pace","many"]:List Str) by decide +kernel) rfl (Or.inl rfl)) zO))));(exact zL);(exact(pv 1))))))
  (zf (zV (vN (xL (zw (jO rfl) (by rfl) T3.nAll (by decide +kernel) (za (xK (NB:=["pace","many"]) (FR:=["phases","course"]) (js:=[5,4]) rfl rfl (λx c h=>jE rfl rfl x c h) (.cons rfl rfl rfl ⟨_,rfl⟩ (.cons rfl rfl rfl ⟨_,rfl⟩ .nil)) rfl (by decide +kernel) rfl (by decide +kernel) (zP (pv 7)) (by intro _ _ _;refine⟨?_,?_,?_⟩;(exact(q8 (K:=K) (n:=2) rfl rfl (zm (zk (i:=0) (show List.Nodup (["pace","many","phases","course"]:List Str) by decide +kernel) rfl (Or.inl rfl)) (zm (zk (i:=1) (show List.Nodup (["pace","many","phases","course"]:List Str) by decide +kernel) rfl (Or.inl rfl)) zO))));(exact zL);(exact(zv cIg hr2 (za (ZP hu1 (pv 2) (pv 0) (λ_ _=>rfl)) (za (zv cTr hr1 (za (pv 3) ze)) (za (pv 1) ze))))))) ze)) λ_=>rfl)) (zj (zD vF)) zF)
  (zj (zD (qF (Xh hu) (pv 2) (zv cLr hr4 (za (pv 4) (za (pv 7) ze))) (zy _))))))))))),?_⟩
 refine⟨_,rfl,_,rfl,r,a,_,_,lo,hi,rfl,pl,hp,λH1 e1=>?_⟩
 dsimp only
 have ln1:=ln.same e1
 obtain⟨us,hrr,hB⟩:=ln1.row
 obtain⟨v1,v2,ha,h1,h2⟩:=ln1.walls
 refine⟨_,rfl,_,rfl,λc dx hc hdx ne=>?_⟩
 have S0:zi H1 (upd (upd H1 dx (.own c)) c (.ins C dx [])):=(zi.upd hdx).trans (zi.upd (by rw[zB ne.symm];exact hc))
 refine⟨c,dx,r,a,us,bs,v1,v2,some lo,some hi,rfl,zg,S0 _ _ hrr,hB.keeps (.of S0),S0 _ _ ha,h1.wl.keeps (.of S0),h2.wl.keeps (.of S0),ln.l8,λt mt=>⟨(lz.sz t mt).1.sz,(lz.sz t mt).2.sz⟩,λH2 X1 hcn=>⟨rfl,?_⟩⟩
 have hco:=hcn.co
 have S2:zi H H2:=e1.trans λb o e=>X1 b o (zJ e hc) (S0 b o e)
 dsimp only[zn]
 have Z:=lz.bd ln.l8
 obtain⟨esb,etk,eT,eph,l8p,zps,l1p,k0,bk,pt⟩:=Z0
 have hco':=hco
 rw[<-etk]at hco'
 generalize hpb:pbO bs (some lo) (some hi)=pb at *
 generalize hsb:sbO bs (some lo) (some hi)=sb at *
 have hlh:(trB pb sb lo).1<(trB pb sb hi).1:=Z.lh _ _ rfl rfl
 have wl:Wb (some (trB pb sb lo)):=Z.bl
 have wh:Wb (some (trB pb sb hi)):=Z.bh
 have hco2:XW H2 C c pb sb tk (bs.map Bl.wt) (bs.map λb=>trB pb sb (b.pl,b.sp)) (some (trB pb sb lo)) (some (trB pb sb hi)):=hco'
 refine⟨_,rfl,c,pb,sb,_,_,_,_,_,rfl,hco2,wl,wh,by rw[List.length_map];exact ln.l8,λad es H3 S3 ph eph2=>?_⟩
 dsimp only[zn]
 rw[<-eT,eph]at eph2
 have hd:=ph.d
 have esl:es.length=pss.length:=by rw[<-eph2];unfold vf;rw[List.length_map]
 have hkm:es.map (·.1)=pss.map Prod.fst:=by rw[<-eph2];unfold vf;rw[List.map_map];rfl
 have mps:∀e∈es,(e.1,e.2.2)∈pss:=λe m=>by rw[<-eph2];exact List.mem_map.mpr ⟨e,m,rfl⟩
 have nds:(pss.map Prod.fst).Nodup:=by rw[<-hkm];exact ph.k
 have SH3:zi H H3:=S2.trans S3
 have hco3:=hco2.same S3
 refine⟨_,rfl,ad,_,pss.map Prod.fst,rfl,hd,by rw[<-hkm];unfold vJ;rw[List.map_map,List.map_map];rfl,by rw[List.length_map];omega,λDs ms hDs pm sm=>?_⟩
 dsimp only[zn]
 have S4:=zi.upd (o:=.lst (ms.map V.int)) hDs
 have hDs':upd H3 Ds (.lst (ms.map V.int)) Ds=some (.lst (ms.map V.int)):=zg
 generalize upd H3 Ds (.lst (ms.map V.int))=H4 at S4 hDs'
 have msl:ms.length=pss.length:=by rw[pm.length_eq,List.length_map]
 have ems:ms=vE (pss.map Prod.fst):=vo pm sm
 rw[<-ems]at k
 have pl0:0<pss.length:=by
  cases pss with
  | nil=>exact absurd rfl ne0
  | cons _ _=>simp
 refine⟨_,rfl,Ds,_,rfl,.inl (.of hDs'),rfl,_,rfl,xO (λz=>?_) (λ_=>?_)⟩
 ·have:((ms.map V.int).length:Int)=0:=V.int.inj (of_decide_eq_true z)
  rw[List.length_map]at this;omega
 have SH4:=SH3.trans S4
 have pap4:=hpap.same SH4
 have pln:=hpap.1
 refine⟨_,rfl,pp,pus,rfl,hpp.same SH4,λJ hJ D1 hD1=>?_⟩
 refine qt (J:=J) (g:=ZJ K 2 (qk (zn 0) (qk (zn 1) Z7))) (te:=xN 0) (n:=2) (xs:=pus) (λi v G=>∃x y,(qs.map Prod.fst)[i]? = some x/\v = .ref y/\zI G y x) (λi v G G' e ⟨x,y,q0,q1,q2⟩=>⟨x,y,q0,q1,e _ _ q2⟩) hD1 hJ (zZ (by omega)) ?_ ?_
 ·intro i y zs G5 Q' hy hz S5 hQ
  obtain⟨u,x,yy,eu,rfl,hx,hyy⟩:=pap4.2 i y hy
  obtain⟨w1,w2,rfl⟩:=jU hz
  refine⟨x,_,rfl,.of (S5 _ _ hx),rfl,_,_,rfl,_,_,rfl,rfl,?_⟩
  exact⟨_,rfl,hQ _ _ (zi.refl _) ⟨u.1,yy,by rw[List.getElem?_map,eu];rfl,rfl,S5 _ _ hyy⟩⟩
 intro us5 H5 S5 hH5 hul5 hR5
 have hDs5:=S5 _ _ hDs'
 obtain⟨dx4,fs4,hc4,F4⟩:=hco3.same (S4.trans S5)
 refine⟨_,rfl,Ds,rfl,⟨_,SqL.of hDs5⟩,λD2 hD2=>?_⟩
 refine zW (js:=[4]) (J:=Itl K Ds) (g:=zn 0) (te:=_) (n:=1) (xs:=ms.map V.int) (λi v G=>∃x y,(ms.map λk=>Rat.divInt k ss)[i]? = some x/\v = .ref y/\zI G y x) (λi v G G' e ⟨x,y,q0,q1,q2⟩=>⟨x,y,q0,q1,e _ _ q2⟩) hD2 (zT hDs5) (zZ (by rw[List.length_map];omega)) ?_ ?_
 ·intro i y zs G2 Q' hy hz S2' hQ
  rw[List.getElem?_map]at hy
  cases hm:ms[i]? with
  | none=>rw[hm]at hy;cases hy
  | some kp =>
  rw[hm]at hy;cases hy
  obtain⟨w1,rfl⟩:=v7 hz
  exact⟨rfl,_,rfl,_,rfl,c,C,dx4,fs4,_,rfl,S2' _ _ hc4,TC.cls,TC.sb,F4.sb,kp,sb,rfl,Int.ne_of_gt Z.sb.1,Z.sb.2.mono (by decide),λy G3 S3' hy3=>hQ _ _ S3' ⟨_,y,by rw[List.getElem?_map,hm];rfl,rfl,by rw[esb];exact hy3⟩⟩
 intro us6 H6 S6 hH6 hul6 hR6
 refine Jb (S6 _ _ hH5) (j3 (by rw[List.length_map];omega) λi v e=>let ⟨x,y,q0,q1,q2⟩:=hR5 i v e;⟨x,y,q0,q1,S6 _ _ q2⟩) hH6 (j3 (by rw[List.length_map]at hul6 ⊢;exact hul6) hR6) ⟨_,rfl,?_⟩
 have SH6:=SH4.trans (S5.trans S6)
 by_cases heq:qs.map Prod.fst=ms.map λk=>Rat.divInt k ss
 case neg =>
  rw[decide_eq_false heq]
  refine xY ?_
  have:jc ms (xp pss) Tt ss (λk m=>qD Tt k m tk) X qs=false:=by unfold jc;rw[decide_eq_false heq];rfl
  rw[this]at k
  exact k H6 SH6
 rw[decide_eq_true heq]
 refine xZ ?_
 have qln:qs.length=ms.length:=by have:=congrArg List.length heq;rw[List.length_map,List.length_map]at this;exact this
 have pap6:=hpap.same SH6
 have hDs6:=S6 _ _ hDs5
 refine jx ?_
 dsimp only
 refine⟨_,rfl,_,rfl,pp,pus,rfl,hpp.same SH6,λJ hJ D3 hD3=>?_⟩
 refine qt (J:=J) (g:=ZJ K 2 (qk (zn 0) (qk (zn 1) Z7))) (te:=xN 1) (n:=2) (xs:=pus) (λi v G=>∃x,(qs.map Prod.snd)[i]? = some x/\v = .int x) (λi v G G' e h=>h) hD3 hJ (zZ (by omega)) ?_ ?_
 ·intro i y zs G5 Q' hy hz S5' hQ
  obtain⟨u,x,yy,eu,rfl,hx,hyy⟩:=pap6.2 i y hy
  obtain⟨w1,w2,rfl⟩:=jU hz
  refine⟨x,_,rfl,.of (S5' _ _ hx),rfl,_,_,rfl,_,_,rfl,rfl,?_⟩
  exact⟨_,rfl,hQ _ _ (zi.refl _) ⟨u.2,by rw[List.getElem?_map,eu];rfl,rfl⟩⟩
 intro us7 H7 S7 hH7 hul7 hR7
 have e7:us7=(qs.map Prod.snd).map V.int:=v6 (by rw[List.length_map];omega) hR7
 rw[e7]at hH7
 refine⟨Ds,D3,_,_,rfl,rfl,S7 _ _ hDs6,hH7,by simp;omega,λDm us8 H8 S8 hDm hH8 zo=>?_⟩
 dsimp only[zn]
 have SH8:=SH6.trans (S7.trans S8)
 have prs:vz H8 us8 (ms.zip (qs.map Prod.snd)):=by
  refine⟨by rw[zo.1];simp;omega,λi v e=>?_⟩
  obtain⟨x,xv,yv,rfl,ex,ey,hx⟩:=zo.2 i v e
  rw[List.getElem?_map]at ex ey
  cases em:ms[i]? with
  | none=>rw[em]at ex;cases ex
  | some m1 =>
   cases en:(qs.map Prod.snd)[i]? with
   | none=>rw[en]at ey;cases ey
   | some m2 =>
    rw[em]at ex;cases ex
    rw[en]at ey;cases ey
    exact⟨(m1,m2),x,by rw[List.getElem?_zip_eq_some];exact⟨em,en⟩,rfl,hx⟩
 have kgl:(ms.zip (qs.map Prod.snd)).length=ms.length:=by simp;omega
 have inz:∀u∈ms.zip (qs.map Prod.snd),(∃ps,(u.1,ps)∈pss)/\Bd 200 u.2:=λu m=>by
  obtain⟨a1,a2⟩:=List.of_mem_zip m
  have m1:=pm.subset a1
  obtain⟨e,me,q⟩:=List.mem_map.mp m1
  obtain⟨q',mq',e2⟩:=List.mem_map.mp a2
  exact⟨⟨e.2,by rw[<-q];exact me⟩,by rw[<-e2];exact qb q' mq'⟩
 generalize hkgs:ms.zip (qs.map Prod.snd)=kgs at *
 have hcoG:=hco3.same (S4.trans (S5.trans (S6.trans (S7.trans S8))))
 have hd8:=(S4.trans (S5.trans (S6.trans (S7.trans S8)))) _ _ hd
 have us8l:us8.length=kgs.length:=prs.1
 refine⟨_,rfl,Dm,rfl,⟨_,SqL.of hH8⟩,λD4 hD4=>?_⟩
 refine zW (js:=[5,4]) (J:=Itl K Dm) (g:=ZJ K 2 (qk (zn 0) (qk (zn 1) Z7))) (te:=_) (n:=2) (xs:=us8) (λi v G=>∃u,kgs[i]? = some u/\v = .bl (igB (xp pss u.1) Tt u.2)) (λi v G G' e h=>h) hD4 (zT hH8) (zZ (by omega)) ?_ ?_
 ·intro i y zs G Q' hy hz S hQ
  obtain⟨u,x,eu,rfl,hx⟩:=prs.2 i y hy
  obtain⟨w1,w2,rfl⟩:=jU hz
  obtain⟨⟨ps0,mp0⟩,bu⟩:=inz u (List.mem_of_getElem? eu)
  have mk:u.1∈es.map (·.1):=by rw[hkm];exact List.mem_map.mpr ⟨_,mp0,rfl⟩
  obtain⟨⟨kp',l,ps⟩,me,ekp⟩:=List.mem_map.mp mk
  dsimp only at ekp
  have mp:=mps _ me
  dsimp only at mp
  have SG:=S4.trans (S5.trans (S6.trans (S7.trans (S8.trans S))))
  have hl3:=SG _ _ (ph.l _ me)
  dsimp only at hl3
  have vk:vV (vJ es) (Sum.inl u.1)=some (.ref l):=by rw[jK,<-ekp];have:=Qb ph.k me;dsimp only at this;rw[this];rfl
  have gd:ZV G ad (.int u.1) (some (.ref l)):=by have:=ZV.k (k:=Sum.inl u.1) (SG _ _ hd);rw[vk]at this;exact this
  have elk:xp pss u.1=ps:=by rw[<-ekp];exact vB nds mp
  refine⟨x,_,rfl,.of (S _ _ hx),rfl,_,_,rfl,_,_,rfl,rfl,⟨rfl,?_⟩⟩
  refine⟨_,rfl,_,rfl,ad,.ref l,rfl,gd,_,rfl,c,pb,sb,tk,_,_,some (trB pb sb lo),some (trB pb sb hi),rfl,hco3.same SG,wl,wh,?_⟩
  have eT':lv (Xo (some (trB pb sb lo)) (some (trB pb sb hi)))=V.int Tt:=by rw[eT];rfl
  rw[eT']
  exact⟨_,rfl,l,ps,Tt,u.2,rfl,hl3,zps _ mp,bu,λG1 S1=>hQ _ _ S1 ⟨u,eu,by rw[elk]⟩⟩
 intro us9 H9 S9 hH9 hul9 hR9
 have e9:us9=(kgs.map λu=>igB (xp pss u.1) Tt u.2).map V.bl:=by
  refine List.ext_getElem? λi=>?_
  rw[List.getElem?_map,List.getElem?_map]
  cases e:us9[i]? with
  | none =>
   have:=List.getElem?_eq_none_iff.mp e
   rw[List.getElem?_eq_none (by omega)];rfl
  | some v=>obtain⟨p,e1,e2⟩:=hR9 i v e;rw[e1,e2];rfl
 rw[e9]at hH9
 refine⟨D4,_,rfl,SqL.of hH9,_,rfl,?_⟩
 have eall:(kgs.map λu=>igB (xp pss u.1) Tt u.2).all id=kgs.all λu=>igB (xp pss u.1) Tt u.2:=by rw[List.all_map];rfl
 rw[eall]
 have SH9:=SH8.trans S9
 have kF:∀H',zi H H'->Q (.bl ((kgs.all λu=>igB (xp pss u.1) Tt u.2)&&decide (X=qB (kgs.map λu=>qD Tt u.1 u.2 tk)))) H':=λH' sH'=>by
  have:=k H' sH'
  unfold jc at this
  rw[decide_eq_true heq,Bool.true_and,hkgs]at this
  exact this
 cases hal:kgs.all λu=>igB (xp pss u.1) Tt u.2 with
 | false =>
  refine xY ?_
  rw[hal]at kF
  exact kF H9 SH9
 | true =>
  refine xZ ?_
  refine jx ?_
  dsimp only
  have ztk:Sz 4400 tk:=by rw[etk];exact Z.tz.mono (by decide)
  have eT2:2*((trB pb sb hi).1 - (trB pb sb lo).1)=Tt:=eT.symm
  have each:∀u∈kgs,(0<u.1/\0<u.2)/\Bd 3000 u.1/\Bd 400 u.2/\0<(qD Tt u.1 u.2 tk).num/\Bd 400 (qD Tt u.1 u.2 tk).num/\Bd 400 ((qD Tt u.1 u.2 tk).den:Int):=λu m=>by
   obtain⟨⟨ps,mp⟩,bu⟩:=inz u m
   have ig:=List.all_eq_true.mp hal u m
   have elk:xp pss u.1=ps:=vB nds mp
   try dsimp only at ig
   rw[elk]at ig
   have zz:=zps _ mp
   have m0:=ZO ig
   have l1:=l1p _ mp
   try dsimp only at l1 zz
   have le:=Vm ig zz.T0 zz.ps (λe=>by rw[e]at l1;simp at l1)
   obtain⟨g,hg⟩:∃g:Nat,u.2=(g:Int):=⟨u.2.toNat,by omega⟩
   have pg:=pt _ mp g (by omega) (by dsimp only;omega)
   try dsimp only at pg
   rw[hg]
   exact⟨⟨k0 _ mp,by omega⟩,bk _ mp,by rw[<-hg];exact bu.mono (by decide),pg⟩
  have each':∀q∈ptL Tt tk kgs,0<q.num/\Bd 400 q.num/\Bd 400 (q.den:Int):=λq m=>by
   obtain⟨u,mu,rfl⟩:=List.mem_map.mp m
   exact(each u mu).2.2.2
  have lrz:LrZ Tt tk kgs:=⟨by omega,by omega,λu m=>(each u m).1,λu m=>(each u m).2.1,λu m=>(each u m).2.2.1,λq m=>(each' q m).1,λq m=>(each' q m).2.1,λq m=>(each' q m).2.2,ztk⟩
  refine⟨_,rfl,_,rfl,_,rfl,c,Dm,us8,kgs,pb,sb,tk,_,_,trB pb sb lo,trB pb sb hi,rfl,hcoG.same S9,wl,wh,hlh,S9 _ _ hH8,prs.tups (.of S9),by rw[eT2];exact lrz,λq G1 S1 hq=>?_⟩
  rw[eT2]at hq
  refine⟨_,_,Zw (S1 _ _ (SH9 _ _ hX)),Zw hq,rfl,rfl,?_⟩
  rw[VZ]
  have:=kF G1 (SH9.trans S1)
  rw[hal,Bool.true_and]at this
  exact this
end
end KK
end
section
set_option maxHeartbeats 8000000
set_option Elab.async false
set_option linter.all false
set_option maxRecDepth 100000
namespace KK
open PySem L2 KM
structure KgN (kgs:List (Int×Int)):Prop where
 l1:1<=kgs.length
 l8:kgs.length<=8
 pos:∀u∈kgs,0<u.1/\Bd 70 u.1/\0<u.2/\u.2<=8
section
variable {un be wt l far:Int}{js kgs:List (Int×Int)}
theorem WoZ.kgn (z:WoZ un be (some l) (some (l+far)) js wt) (ne:phO l (2*far) js≠[]) (hk:KgZ (2*far) (phO l (2*far) js) kgs):KgN kgs:=by
 have pj:=z.phj
 have ll:kgs.length=(phO l (2*far) js).length:=by have:=hk.pm.length_eq;simpa using this
 have l8:=z.l8
 have pl:=pj.pl
 refine⟨?_,by omega,λu m=>?_⟩
 ·rw[ll];cases h:phO l (2*far) js with
  | nil=>exact absurd h ne
  | cons _ _=>simp
 ·obtain⟨ps,M,m1,e2,g⟩:=hk.gm u m
  have k0:=pj.k0 _ m1
  have lp:=pj.ll _ m1
  obtain⟨v,mv,hv⟩:=pj.of _ m1
  have bv:=(z.bd v mv).2
  have g1:=g.m1
  have g2:=g.m2
  dsimp only at k0 lp hv
  refine⟨k0,?_,by omega,by omega⟩
  rcases hv with hv | hv
  ·rw[<-hv];exact bv
  ·rw[show u.1 = - v.2 by omega];exact bv.neg
theorem zaP (z:WoZ un be (some l) (some (l+far)) js wt) (n:KgN kgs):∀q∈ptW un be far kgs,0<q.num/\Bd 400 q.num/\Bd 400 (q.den:Int):=λq m=>by
 obtain⟨v,mv,rfl⟩:=List.mem_map.mp m
 obtain⟨v0,bv,w0,w8⟩:=n.pos v mv
 have f0:0<far:=by have:=z.lh _ _ rfl rfl;omega
 have bf:Bd 74 far:=by
  have:=(z.bh _ rfl).sub (z.bl _ rfl)
  rw[show l+far - l=far by omega]at this;exact this.mono (by decide)
 have b12:∀x:Int,1<=x/\x<=12->Bd 5 x:=λx h=>(show x.natAbs<2^5 by omega)
 have b2:Bd 3 (2:Int):=(show (2:Int).natAbs<2^3 by decide)
 have bw:Bd 5 v.2:=(show v.2.natAbs<2^5 by omega)
 have u0:=z.un.1
 have e0:=z.be.1
 have hb:0<un*v.1*v.2:=Int.mul_pos (Int.mul_pos (by omega) v0) w0
 have s:=Sz.divInt (n:=400) (t:=2*far*be) (b:=un*v.1*v.2) (by omega) (((b2.mul bf).mul (b12 _ z.be)).mono (by decide)) ((((b12 _ z.un).mul bv).mul bw).mono (by decide))
 exact⟨Xg (Int.mul_pos (by omega) (by omega)) hb,s.1,s.2⟩
theorem zav (z:WoZ un be (some l) (some (l+far)) js wt) (n:KgN kgs):Sz 4000 (qB (ptW un be far kgs)):=by
 have h:=zaP z n
 have hl:(ptW un be far kgs).length=kgs.length:=List.length_map ..
 have l8:=n.l8
 have l1:=n.l1
 obtain⟨g0,q,mq,gq⟩:=Z9 (qs:=ptW un be far kgs) (by omega)
 refine Sz.divInt (by omega) ?_ ((Bd.of_le (j:=(q.den:Int)) (by have:=den_pos q;omega) (h q mq).2.2).mono (by decide))
 have f:=jT (n:=400) (ks:=(ptW un be far kgs).map Rat.num) (c:=1) (m:=4) (by decide) (show (1:Int).natAbs<2^4 by decide) (λk m=>by obtain⟨q,mq,rfl⟩:=List.mem_map.mp m;exact⟨(h q mq).1,(h q mq).2.1⟩)
 exact f.2.1.mono (by rw[List.length_map];omega)
end
section
variable {P:Program}{w:World}{K:PySem.W.Frag}{mg:Str->Option Value}{base:Heap}{C CE:Addr}{aN aP:Addr}
def QF (un be l far:Int) (js:List (Int×Int)) (X:Rat) (qs:List (Rat×Int)):Bool:=jc (vE ((phO l (2*far) js).map Prod.fst)) (xp (phO l (2*far) js)) (2*far) be (λk m=>Rat.divInt (2*far*be) (un*k*m)) X qs
def zeV:Sp:=λvs H Q _=>∃t Db un be l far js wt mq pp us qs X,vs=[.ref t,.ref mq,.ref pp]/\Zj H t Db un be (some l) (some (l+far)) js wt/\WoZ un be (some l) (some (l+far)) js wt/\phO l (2*far) js≠[]/\H pp=some (.lst us)/\xH H us qs/\qs.length<=9/\(∀u∈qs,Bd 200 u.2)/\zI H mq X ∧
 ∀H',zi H H'->Q (.bl (QF un be l far js X qs)) H'
theorem qG:zx ["world","moment","paper","under","below","low","high","balls","weight","some","around","paces","parts","pace","told","many"] ["world","moment","paper"] (zh qT):=⟨rfl,rfl,rfl,by decide +kernel,rfl,by decide +kernel,by decide +kernel⟩
theorem zdl (D:Df K mg "_law_lets" qT ["world","moment","paper"] []) (T:TxB K mg) (TQ:TxQ K mg) (T3:Tx3 K mg aN) (TP:TxP K mg aP) (cPh:Cal P w K mg base "_law_phases" 1 ["world"] [] za9) (cLo:Cal P w K mg base "_law_lowest" 1 ["top","bottom"] [] jJ) (cSy:Cal P w K mg base "_law_stays" 1 ["spots","around","many"] [] JZ) (cPa:Cal P w K mg base "_law_part" 2 ["world","pace","many"] [] zdU) (cLl:Cal P w K mg base "_law_least" 2 ["parts"] [] zdR) :
  Cal P w K mg base "_law_lets" 3 ["world","moment","paper"] [] zeV:=by
 refine D.cal (k:=2) qG (λvs H Q E h=>by obtain⟨_,_,_,_,_,_,_,_,_,_,_,_,_,rfl,_⟩:=h;rfl) (λf cdv A outer s H vs Q E hr2 h=>?_)
 obtain⟨t,Db,un,be,l,far,js,wt,mq,pp,pus,qs,X,rfl,wo,z,ne0,hpp,hpap,q9,qb,hX,k⟩:=h
 have hr1:xj 1 _:=hr2.mono (by decide)
 have hu:=hr2.units
 have hu1:=Nat.lt_of_le_of_lt (Nat.add_le_add_left (show 1<=64 by decide) _) hr2.units
 have bM:∀{n:Nat}{i:Int},Bd n i->n<=1000000->Bd 1000000 i:=λh l=>h.mono l
 have ef:l+far - l=far:=by omega
 have f0:0<far:=by have:=z.lh _ _ rfl rfl;omega
 have bf:Bd 80 far:=by
  have:=(z.bh _ rfl).sub (z.bl _ rfl)
  rw[ef]at this;exact this.mono (by decide)
 have pj:=z.phj
 have l8:=z.l8
 have b12:∀x:Int,1<=x/\x<=12->Bd 5 x:=λx h=>(show x.natAbs<2^5 by omega)
 unfold QF at k
 refine⟨_,(zf (qi (pv 0) (xP rfl (zm (zk (i:=3) qG.nd rfl (Or.inl rfl)) (zm (zk (i:=4) qG.nd rfl (Or.inr rfl)) (zm (zk (i:=5) qG.nd rfl (Or.inl rfl)) (zm (zk (i:=6) qG.nd rfl (Or.inl rfl)) (zm (zk (i:=7) qG.nd rfl (Or.inl rfl)) (zm (zk (i:=8) qG.nd rfl (Or.inl rfl)) zO))))))))
  (zf (qi (zN (za (zv cPh hr1 (za (pv 0) ze)) (za (zl zG zd (zl xr (pv 6) (pv 5))) ze))) (xP rfl (zm (zk (i:=9) qG.nd rfl (Or.inr rfl)) (zm (zk (i:=10) qG.nd rfl (Or.inr rfl)) zO))))
  (zf (zA (i:=11) qG.nd rfl (Or.inl rfl) (zw (Z5 rfl) (by rfl) T3.nSorted PyProof.Rows.boot_sorted (za (QO (pv 9)) ze)))
  (zf (zV (zu (Vv hu) (qo (NB:=["pair"]) rfl (by decide +kernel) (by decide +kernel) rfl (by decide +kernel) (zP (pv 2)) (by intro _ _ _;refine⟨?_,?_,?_⟩;(exact(zk (i:=0) (show List.Nodup (["pair"]:List Str) by decide +kernel) rfl (Or.inl rfl)));(exact zL);(exact(zE (qA (K:=K) rfl) (pv 0) zd (λ_ _=>rfl))))) (xK (NB:=["pace"]) (FR:=["below"]) (js:=[4]) rfl rfl (λx c h=>jk rfl x c h) (.cons rfl rfl rfl ⟨_,rfl⟩ .nil) rfl (by decide +kernel) rfl (by decide +kernel) (zP (pv 11)) (by intro _ _ _;refine⟨?_,?_,?_⟩;(exact(zk (i:=0) (show List.Nodup (["pace","below"]:List Str) by decide +kernel) rfl (Or.inl rfl)));(exact zL);(exact(zv cLo hr1 (za (pv 0) (za (pv 1) ze)))))) (zy _)) (zj (zD vF)) zF)
  (zf (zA (i:=12) qG.nd rfl (Or.inl rfl) (qp ze))
  (zf (qj PassesOwn.never rfl (Jh (by rfl) TQ.nZip (za (pv 11) (za (pv 2) ze))) (xP rfl (zm (zk (i:=13) qG.nd rfl (Or.inr rfl)) (zm (xP rfl (zm (zk (i:=14) qG.nd rfl (Or.inl rfl)) (zm (zk (i:=15) qG.nd rfl (Or.inr rfl)) zO))) zO))) (zf (zV (vU (zu jW (pv 15) zd (zy _)) (vO (vN (xL (zv cSy hr1 (za (ZP hu1 (pv 9) (pv 13) (λ_ _=>rfl)) (za (pv 10) (za (pv 15) ze)))) λ_=>rfl)))).pt (zj (zD vF)) zF)
  (zf (zV (xL (zw (Qx rfl) (by rfl) TP.nAny (by decide +kernel) (za (xK (NB:=["prime"]) (FR:=["some","pace","around","many"]) (js:=[9,13,10,15]) rfl rfl (λx c h=>zbu rfl rfl rfl rfl x c h) (.cons rfl rfl rfl ⟨_,rfl⟩ (.cons rfl rfl rfl ⟨_,rfl⟩ (.cons rfl rfl rfl ⟨_,rfl⟩ (.cons rfl rfl rfl ⟨_,rfl⟩ .nil)))) rfl (by decide +kernel) rfl (by decide +kernel) (vL (zN (za zd (za zd (za zd (za zd ze)))))) (by intro _ _ _;refine⟨?_,?_,?_⟩;(exact(zk (i:=0) (show List.Nodup (["prime","some","pace","around","many"]:List Str) by decide +kernel) rfl (Or.inl rfl)));(exact zL);(exact(zv cSy hr1 (za (ZP hu1 (pv 1) (pv 2) (λ_ _=>rfl)) (za (pv 3) (za (zl zG (pv 4) (pv 0)) ze))))))) ze)) λ_=>rfl) (zj (zD vF)) zF)
  (zj (xt (qI PySem.F.plainAttrs_list PySem.F.slot_list_append PySem.F.type_list_append xl (pv 12) (za (zv cPa hr2 (za (pv 0) (za (pv 13) (za (pv 15) ze)))) ze)))))))
  (zj (zD (qF (Xh hu) (pv 1) (zv cLl hr2 (za (pv 12) ze)) (zy _)))))))))),?_⟩
 refine⟨_,rfl,t,_,rfl,.of wo.tup,rfl,_,_,rfl,_,_,rfl,_,_,rfl,_,_,rfl,_,_,rfl,_,_,rfl,rfl,?_⟩
 dsimp only[zn]
 refine⟨_,rfl,t,Db,un,be,l,l+far,js,wt,rfl,wo,l8,by rw[ef];exact bf,λad es H1 S1 ph eph=>?_⟩
 rw[ef]at eph
 refine⟨_,rfl,_,rfl,_,_,rfl,rfl,_,_,rfl,rfl,⟨b2i,by rw[ef];exact bM bf (by decide)⟩,by show 2<=sizeLine;decide,λt2 ht2=>⟨t2,_,rfl,.of zg,rfl,_,_,rfl,_,_,rfl,rfl,?_⟩⟩
 dsimp only[zn]
 have S2:=zi.upd (o:=.tup [.ref ad,.int (2*(l+far - l))]) ht2
 rw[ef]at S2
 rw[ef]
 generalize upd H1 t2 (.tup [.ref ad,.int (2*far)])=H2 at S2
 have ph2:=ph.same S2
 have hd:=ph2.d
 generalize hpws:phO l (2*far) js=pws at *
 have hkm:es.map (·.1)=pws.map Prod.fst:=by rw[<-eph];unfold vf;rw[List.map_map];rfl
 have mps:∀e∈es,(e.1,e.2.2)∈pws:=λe m=>by rw[<-eph];exact List.mem_map.mpr ⟨e,m,rfl⟩
 have nds:(pws.map Prod.fst).Nodup:=pj.nd
 have pl8:=pj.pl
 have SH2:=S1.trans S2
 have b2:Bd 3 (2:Int):=(show (2:Int).natAbs<2^3 by decide)
 have bT:Bd 3000 (2*far):=(b2.mul bf).mono (by decide)
 refine⟨_,rfl,ad,_,rfl,hd,λv hv=>?_⟩
 have SV:=zi.upd (o:=KV2 v ad) hv
 have hv':upd H2 v (KV2 v ad) v=some (KV2 v ad):=zg
 generalize upd H2 v (KV2 v ad)=H3 at SV hv'
 refine⟨v,ad,_,pws.map Prod.fst,rfl,hv',SV _ _ hd,by rw[<-hkm];unfold vJ;rw[List.map_map,List.map_map];rfl,by rw[List.length_map];omega,λDs ms hDs pm sm=>?_⟩
 dsimp only[zn]
 have S4:=zi.upd (o:=.lst (ms.map V.int)) hDs
 have hDs':upd H3 Ds (.lst (ms.map V.int)) Ds=some (.lst (ms.map V.int)):=zg
 generalize upd H3 Ds (.lst (ms.map V.int))=H4 at S4 hDs'
 have msl:ms.length=pws.length:=by rw[pm.length_eq,List.length_map]
 have ems:ms=vE (pws.map Prod.fst):=vo pm sm
 rw[<-ems]at k
 have pl0:0<pws.length:=by
  cases pws with
  | nil=>exact absurd rfl ne0
  | cons _ _=>simp
 have SH4:=SH2.trans (SV.trans S4)
 have pln:=hpap.1
 have hp4:=SH4 _ _ hpp
 have pap4:=hpap.same SH4
 refine⟨_,rfl,pp,rfl,⟨_,SqL.of hp4⟩,λD1 hD1=>?_⟩
 refine qt (J:=Itl K pp) (g:=zn 0) (te:=tOp (j0 K) (xN 0) (tC (.int 0))) (n:=1) (xs:=pus) (λi v G=>∃x y,(qs.map Prod.fst)[i]? = some x/\v = .ref y/\zI G y x) (λi v G G' e ⟨x,y,q0,q1,q2⟩=>⟨x,y,q0,q1,e _ _ q2⟩) hD1 (zT hp4) (zZ (by omega)) ?_ ?_
 ·intro i y zs G5 Q' hy hz S5 hQ
  obtain⟨u,x,yy,eu,rfl,hx,hyy⟩:=pap4.2 i y hy
  obtain⟨w1,rfl⟩:=v7 hz
  exact⟨_,rfl,x,_,_,_,rfl,rfl,.of (S5 _ _ hx),at0 ..,hQ _ _ (zi.refl _) ⟨u.1,yy,by rw[List.getElem?_map,eu];rfl,rfl,S5 _ _ hyy⟩⟩
 intro us5 H5 S5 hH5 hul5 hR5
 have hDs5:=S5 _ _ hDs'
 refine⟨_,rfl,Ds,rfl,⟨_,SqL.of hDs5⟩,λD2 hD2=>?_⟩
 refine zW (js:=[4]) (J:=Itl K Ds) (g:=zn 0) (te:=_) (n:=1) (xs:=ms.map V.int) (λi v G=>∃x y,(ms.map λk=>Rat.divInt k be)[i]? = some x/\v = .ref y/\zI G y x) (λi v G G' e ⟨x,y,q0,q1,q2⟩=>⟨x,y,q0,q1,e _ _ q2⟩) hD2 (zT hDs5) (zZ (by rw[List.length_map];omega)) ?_ ?_
 ·intro i y zs G2 Q' hy hz S2' hQ
  rw[List.getElem?_map]at hy
  cases hm:ms[i]? with
  | none=>rw[hm]at hy;cases hy
  | some kp =>
  rw[hm]at hy;cases hy
  obtain⟨w1,rfl⟩:=v7 hz
  exact⟨rfl,_,rfl,_,rfl,kp,be,rfl,by have:=z.be;omega,(b12 _ z.be).mono (by decide),λy G3 S3' hy3=>hQ _ _ S3' ⟨_,y,by rw[List.getElem?_map,hm];rfl,rfl,hy3⟩⟩
 intro us6 H6 S6 hH6 hul6 hR6
 refine Jb (S6 _ _ hH5) (j3 (by rw[List.length_map];omega) λi v e=>let ⟨x,y,q0,q1,q2⟩:=hR5 i v e;⟨x,y,q0,q1,S6 _ _ q2⟩) hH6 (j3 (by rw[List.length_map]at hul6 ⊢;exact hul6) hR6) ⟨_,rfl,?_⟩
 have SH6:=SH4.trans (S5.trans S6)
 by_cases heq:qs.map Prod.fst=ms.map λk=>Rat.divInt k be
 case neg =>
  rw[decide_eq_false heq]
  refine xY ?_
  have:jc ms (xp pws) (2*far) be (λk m=>Rat.divInt (2*far*be) (un*k*m)) X qs=false:=by unfold jc;rw[decide_eq_false heq];rfl
  rw[this]at k
  exact k H6 SH6
 rw[decide_eq_true heq]
 refine xZ ?_
 have qln:qs.length=ms.length:=by have:=congrArg List.length heq;rw[List.length_map,List.length_map]at this;exact this
 have hDs6:=S6 _ _ hDs5
 have kF:∀H',zi H H'->Q (.bl (((ms.zip (qs.map Prod.snd)).all λu=>igB (xp pws u.1) (2*far) u.2)&&decide (X=qB (ptW un be far (ms.zip (qs.map Prod.snd)))))) H':=λH' sH'=>by
  have:=k H' sH'
  unfold jc at this
  rw[decide_eq_true heq,Bool.true_and]at this
  exact this
 have inz:∀u∈ms.zip (qs.map Prod.snd),(∃ps,(u.1,ps)∈pws)/\Bd 200 u.2:=λu m=>by
  obtain⟨a1,a2⟩:=List.of_mem_zip m
  obtain⟨e,me,q⟩:=List.mem_map.mp (pm.subset a1)
  obtain⟨q',mq',e2⟩:=List.mem_map.mp a2
  exact⟨⟨e.2,by rw[<-q];exact me⟩,by rw[<-e2];exact qb q' mq'⟩
 have kgl:(ms.zip (qs.map Prod.snd)).length=ms.length:=by simp;omega
 generalize hkgs:ms.zip (qs.map Prod.snd)=kgs at *
 refine jx ?_
 dsimp only
 refine⟨by show 0<=sizeLine;decide,λDp hDp=>?_⟩
 dsimp only[zn]
 have S7:=zi.upd (o:=.lst []) hDp
 have hDp7:upd H6 Dp (.lst []) Dp=some (.lst []):=zg
 generalize upd H6 Dp (.lst [])=H7 at S7 hDp7
 have no:∀{u:Int×Int}{G:Hp},u∈kgs->igB (xp pws u.1) (2*far) u.2=false->zi H G->Q (.bl false) G:=λ{u G} m e sG=>by
  have:=kF G sG
  rw[show (kgs.all λu=>igB (xp pws u.1) (2*far) u.2)=false from List.all_eq_false.mpr ⟨u,m,by rw[e];decide⟩,Bool.false_and]at this
  exact this
 have ptl:∀i,(ptW un be far (kgs.take i)).length=min i kgs.length:=λi=>by unfold ptW;rw[List.length_map,List.length_take]
 refine zU (λσ' G=>∃y13 y14 y15 vs,σ'=[some (.ref t),some (.ref mq),some (.ref pp),some (.int un),some (.int be),some (.int l),some (.int (l+far)),some (.ref Db),some (.int wt),some (.ref ad),some (.int (2*far)),some (.ref Ds),some (.ref Dp),y13,y14,y15]/\zi H6 G/\G Dp=some (.lst vs)/\Xx G vs (ptW un be far kgs)/\∀u∈kgs,igB (xp pws u.1) (2*far) u.2=true) ?_ ?_
 rotate_left
 ·intro nx hnx
  have hDs7:=S7 _ _ hDs6
  have hp7:=S7 _ _ (SH6 _ _ hpp)
  refine⟨_,rfl,_,rfl,false,false,Ds,pp,rfl,⟨_,SqL.of hDs7⟩,⟨_,SqL.of hp7⟩,?_⟩
  refine zcQ (k1:=false) (k2:=false) (xs:=ms.map V.int) (ys:=pus) (by rw[List.length_map];omega) (λi σ' G=>∃y13 y14 y15 vs,σ'=[some (.ref t),some (.ref mq),some (.ref pp),some (.int un),some (.int be),some (.int l),some (.int (l+far)),some (.ref Db),some (.int wt),some (.ref ad),some (.int (2*far)),some (.ref Ds),some (.ref Dp),y13,y14,y15]/\zi H6 G/\G Dp=some (.lst vs)/\Xx G vs (ptW un be far (kgs.take i))/\∀u∈kgs.take i,igB (xp pws u.1) (2*far) u.2=true)
   ⟨none,none,none,[],rfl,S7,hDp7,⟨rfl,λi v e=>by simp at e⟩,λu m=>by simp at m⟩ (λi σ' G hh=>let ⟨_,_,_,_,_,q,_⟩:=hh;⟨SqL.of (q _ _ hDs6),SqL.of (q _ _ (SH6 _ _ hpp))⟩) ?_ ?_
  ·rintro i xv yv σ' G T1 hxv hyv ⟨y13,y14,y15,vs,rfl,sG,hG,rG,gG⟩ hT1
   rw[List.getElem?_map]at hxv
   cases hm:ms[i]? with
   | none=>rw[hm]at hxv;cases hxv
   | some kp =>
   rw[hm]at hxv;cases hxv
   have SHG:=SH6.trans sG
   obtain⟨u,xx,yy,eu,rfl,hxx,hyy⟩:=(hpap.same SHG).2 i yv hyv
   have ekg:kgs[i]? = some (kp,u.2):=by rw[<-hkgs,List.getElem?_zip_eq_some];exact⟨hm,by rw[List.getElem?_map,eu];rfl⟩
   have mkg:=List.mem_of_getElem? ekg
   obtain⟨⟨ps0,mp0⟩,bu⟩:=inz _ mkg
   dsimp only at mp0 bu
   have mk:kp∈es.map (·.1):=by rw[hkm];exact List.mem_map.mpr ⟨_,mp0,rfl⟩
   obtain⟨⟨kp',lp,ps⟩,me,ekp⟩:=List.mem_map.mp mk
   dsimp only at ekp
   have mp:=mps _ me
   dsimp only at mp
   have elk:xp pws kp=ps:=by rw[<-ekp];exact vB nds mp
   rw[ekp]at mp
   have vk:vV (vJ es) (Sum.inl kp)=some (.ref lp):=by rw[jK,<-ekp];have:=Qb ph.k me;dsimp only at this;rw[this];rfl
   have S26:zi H2 H6:=SV.trans (S4.trans (S5.trans S6))
   have gd:∀{G':Hp},zi H6 G'->ZV G' ad (.int kp) (some (.ref lp)):=λ{G'} q=>by have:=ZV.k (k:=Sum.inl kp) (q _ _ (S26 _ _ hd));rw[vk]at this;exact this
   have hlp:∀{G':Hp},zi H6 G'->G' lp=some (.lst (ps.map V.int)):=λ{G'} q=>by have:=q _ _ (S26 _ _ (ph2.l _ me));dsimp only at this;exact this
   have zp:Phs ps (2*far):=⟨by omega,bT,by have:=pj.ll _ mp;dsimp only at this;omega,pj.inn _ mp⟩
   have l1:=pj.l1 _ mp
   dsimp only at l1
   have sT:=zi.upd (o:=.tup [.int kp,.ref xx]) hT1
   have hT1':upd G T1 (.tup [.int kp,.ref xx]) T1=some (.tup [.int kp,.ref xx]):=zg
   generalize upd G T1 (.tup [.int kp,.ref xx])=G1 at sT hT1'
   have s61:=sG.trans sT
   refine⟨T1,_,rfl,.of hT1',rfl,_,_,rfl,_,_,rfl,xx,_,rfl,.of (sT _ _ hxx),rfl,_,_,rfl,_,_,rfl,rfl,rfl,?_⟩
   dsimp only[zn]
   refine⟨_,rfl,_,_,rfl,rfl,_,rfl,xO (λh=>?_) (λh=>?_)⟩
   ·have hm1:u.2<1:=of_decide_eq_true h
    refine xY ?_
    exact no mkg (by dsimp only;unfold igB;rw[decide_eq_false (show ¬(1:Int)<=u.2 by omega)];rfl) (SH6.trans s61)
   have hm1:¬u.2<1:=λq=>h (decide_eq_true q)
   refine⟨_,rfl,_,rfl,ad,.ref lp,rfl,gd s61,_,rfl,_,rfl,lp,ps,2*far,u.2,rfl,hlp s61,zp,by omega,bu.mono (by decide),λG2 S2'=>⟨_,rfl,?_⟩⟩
   have s62:=s61.trans S2'
   cases hc:zM ps (2*far) u.2 with
   | false =>
    refine xY ?_
    exact no mkg (by dsimp only;rw[elk];unfold igB;rw[hc];simp) (SH6.trans s62)
   | true =>
    refine xZ ?_
    refine jx ?_
    dsimp only
    refine⟨by show 4<=sizeLine;decide,λtp htp=>⟨tp,rfl,⟨_,SqT.of zg⟩,λDc hDc=>?_⟩⟩
    have sP:=zi.upd (o:=.tup [V.int 2,V.int 3,V.int 5,V.int 7]) htp
    have hP:upd G2 tp (.tup [V.int 2,V.int 3,V.int 5,V.int 7]) tp=some (.tup (xC.map V.int)):=zg
    generalize upd G2 tp (.tup [V.int 2,V.int 3,V.int 5,V.int 7])=G3 at sP hP hDc ⊢
    have hDc':G3 Dc=none:=hDc
    have s63:=s62.trans sP
    refine zW (H:=G3) (js:=[9,13,10,15]) (J:=Itt K tp) (g:=zn 0) (te:=_) (n:=1) (xs:=xC.map V.int) (λi v G=>∃p,xC[i]? = some p/\v = .bl (zM ps (2*far) (u.2*p))) (λ_ _ _ _ _ h=>h) hDc' (jt hP) (zZ (by decide)) ?_ ?_
    ·intro j y zs G4 Q' hy hz S4' hQ
     rw[List.getElem?_map]at hy
     cases hp:xC[j]? with
     | none=>rw[hp]at hy;cases hy
     | some p =>
     rw[hp]at hy;cases hy
     obtain⟨w1,rfl⟩:=v7 hz
     have mpp:=List.mem_of_getElem? hp
     have p7:2<=p/\p<=7:=by unfold xC at mpp;simp at mpp;omega
     have bp:Bd 4 p:=(show p.natAbs<2^4 by omega)
     have s64:=s63.trans S4'
     exact⟨rfl,_,rfl,_,rfl,ad,.ref lp,rfl,gd s64,_,rfl,_,rfl,_,rfl,_,_,rfl,rfl,⟨bM bu (by decide),bM bp (by decide)⟩,lp,ps,2*far,u.2*p,rfl,hlp s64,zp,Int.mul_pos (by omega) (by omega),(bu.mul bp).mono (by decide),λG5 S5'=>hQ _ _ S5' ⟨p,hp,rfl⟩⟩
    intro us8 G4 S4' hG4 hul8 hR8
    have e8:us8=(xC.map λp=>zM ps (2*far) (u.2*p)).map V.bl:=by
     refine List.ext_getElem? λj=>?_
     rw[List.getElem?_map,List.getElem?_map]
     cases e:us8[j]? with
     | none =>
      have:=List.getElem?_eq_none_iff.mp e
      rw[hul8,List.length_map]at this
      rw[List.getElem?_eq_none this];rfl
     | some v=>obtain⟨p,e1,e2⟩:=hR8 j v e;rw[e1,e2];rfl
    rw[e8]at hG4
    have s64:=s63.trans S4'
    have eig:igB ps (2*far) u.2 = !((xC.map λp=>zM ps (2*far) (u.2*p)).any id):=by
     unfold igB;rw[hc,decide_eq_true (show (1:Int)<=u.2 by omega),Bool.true_and,Bool.true_and,List.any_map];rfl
    refine⟨Dc,_,rfl,SqL.of hG4,_,rfl,?_⟩
    cases ha:(xC.map λp=>zM ps (2*far) (u.2*p)).any id with
    | true =>
     refine xY ?_
     exact no mkg (by dsimp only;rw[elk,eig,ha];rfl) (SH6.trans s64)
    | false =>
     refine xZ ?_
     refine jx ?_
     dsimp only
     have ig:igB ps (2*far) u.2=true:=by rw[eig,ha];rfl
     have le:=Vm ig zp.T0 zp.ps (λe=>by rw[e]at l1;simp at l1)
     have lps:=pj.ll _ mp
     dsimp only at lps
     have u8:u.2<=8:=by omega
     have kp0:=pj.k0 _ mp
     dsimp only at kp0
     have bkp:Bd 70 kp:=by
      obtain⟨u',mu',q⟩:=pj.of _ mp
      have:=(z.bd u' mu').2
      dsimp only at q
      rcases q with q | q
      ·rw[<-q];exact this
      ·rw[show kp = -u'.2 by omega];exact this.neg
     have hG4p:G4 Dp=some (.lst vs):=S4' _ _ (sP _ _ (S2' _ _ (sT _ _ hG)))
     have wo4:=(SH6.trans s64) _ _ wo.tup
     have il:i<ms.length:=(List.getElem?_eq_some_iff.mp hm).1
     have vl:vs.length=i:=by rw[rG.1,ptl];omega
     refine⟨_,rfl,.inl ⟨rfl,_,SqL.of hG4p⟩,_,rfl,_,rfl,_,rfl,t,un,be,l,l+far,_,_,kp,u.2,rfl,wo4,by have:=z.un;omega,kp0,by omega,(b12 _ z.un).mono (by decide),(b12 _ z.be).mono (by decide),(z.bl _ rfl).mono (by decide),(z.bh _ rfl).mono (by decide),bkp.mono (by decide),(b12 _ ⟨by omega,by omega⟩).mono (by decide),λr G5 S5' hr=>⟨Dp,_,_,rfl,rfl,S5' _ _ hG4p,zZ (by omega),?_⟩⟩
     rw[ef]at hr
     have tu:xo G (upd G5 Dp (.lst (vs++[.ref r]))):=λb o e=>by
      have q:G5 b=some (.tup o):=S5' _ _ (S4' _ _ (sP _ _ (S2' _ _ (sT _ _ e))))
      rw[zB (λzz=>by rw[zz,S5' _ _ hG4p]at q;cases q)];exact q
     have tr:xo G5 (upd G5 Dp (.lst (vs++[.ref r]))):=.upd (S5' _ _ hG4p)
     have etk:kgs.take (i+1)=kgs.take i++[(kp,u.2)]:=by rw[List.take_add_one,ekg];rfl
     have ept:ptW un be far (kgs.take (i+1))=ptW un be far (kgs.take i)++[Rat.divInt (2*far*be) (un*kp*u.2)]:=by rw[etk];unfold ptW;rw[List.map_append];rfl
     refine⟨_,_,_,vs++[.ref r],rfl,λb o e=>?_,zg,⟨by rw[ept,List.length_append,List.length_append,rG.1];rfl,λj v e=>?_⟩,λw mw=>?_⟩
     ·rw[zB (zJ e hDp)];exact S5' _ _ (s64 _ _ e)
     ·rw[ept]
      rw[List.getElem?_append]at e
      split at e
      ·rename_i hj
       obtain⟨q,rr,q0,q1,q2⟩:=rG.2 j v e
       exact⟨q,rr,by rw[List.getElem?_append,if_pos (by rw[<-rG.1];exact hj)];exact q0,q1,tu _ _ q2⟩
      ·rename_i hj
       have hj0:j - vs.length=0:=by
        rcases Nat.eq_zero_or_pos (j - vs.length)with h | h
        ·exact h
        ·rw[List.getElem?_eq_none (by simp;omega)]at e;cases e
       rw[hj0]at e;cases e
       exact⟨_,r,by rw[List.getElem?_append,if_neg (by rw[<-rG.1];exact hj),<-rG.1,hj0];rfl,rfl,tr _ _ hr⟩
     ·rw[etk]at mw
      rcases List.mem_append.mp mw with mw | mw
      ·exact gG w mw
      ·rw[List.mem_singleton.mp mw];dsimp only;rw[elk];exact ig
  ·rintro σ' G ⟨y13,y14,y15,vs,rfl,sG,hG,rG,gG⟩
   rw[List.length_map,List.take_of_length_le (by omega)]at rG gG
   exact hnx _ _ ⟨y13,y14,y15,vs,rfl,sG,hG,rG,gG⟩
 rintro σ1 G ⟨y13,y14,y15,vs,rfl,sG,hG,rG,gG⟩
 have kn:KgN kgs:=by
  refine⟨by omega,by omega,λu m=>?_⟩
  obtain⟨⟨ps,mp⟩,bu⟩:=inz u m
  have ig:=gG u m
  have elk:xp pws u.1=ps:=vB nds mp
  rw[elk]at ig
  have l1:=pj.l1 _ mp
  have lps:=pj.ll _ mp
  have kp0:=pj.k0 _ mp
  obtain⟨u',mu',q⟩:=pj.of _ mp
  have bu':=(z.bd u' mu').2
  try dsimp only at l1 lps kp0 q
  have le:=Vm ig (show 0<2*far by omega) (pj.inn _ mp) (λe=>by rw[e]at l1;exact absurd l1 (by decide))
  try dsimp only at le
  refine⟨kp0,?_,ZO ig,by omega⟩
  rcases q with q | q
  ·rw[<-q];exact bu'
  ·rw[show u.1 = -u'.2 by omega];exact bu'.neg
 have pok:=zaP z kn
 have wl:(ptW un be far kgs).length=kgs.length:=List.length_map ..
 refine⟨_,rfl,_,rfl,Dp,vs,_,rfl,hG,rG,by rw[wl];exact kn.l1,by rw[wl];exact kn.l8,λq m=>(pok q m).1,λq m=>(pok q m).2.1,λq m=>(pok q m).2.2,λr2 G12 s12 hr2=>⟨_,_,Zw (s12 _ _ (sG _ _ (SH6 _ _ hX))),Zw hr2,rfl,rfl,?_⟩⟩
 rw[VZ]
 have:=kF G12 (SH6.trans (sG.trans s12))
 rw[List.all_eq_true.mpr gG,Bool.true_and]at this
 exact this
end
end KK
end
section
set_option maxHeartbeats 8000000
set_option Elab.async false
set_option linter.all false
set_option maxRecDepth 100000
namespace L2
open PySem PySem.Spec PyProof.Rows
section
variable {X:Cx}
def zbZ:V->List V->Hp->VK->Prop:=λx vs H Q=>∃(l:Addr) (xs:List V) (i:Int) (y:V),x = .ref l/\vs=[.int i,y]/\H l=some (.lst xs)/\0<=i/\i<=xs.length/\xs.length<=1000/\Q .non (upd H l (.lst (xs.take i.toNat++y::xs.drop i.toNat)))
theorem zcS (its:List Value) (i:Int) (u:Value) (h0:0<=i) (h1:i<=its.length) :
  ((its.toArray.extract 0 (if i<0 then(i+((its.toArray.size:Nat):Int)).toNat else min i.toNat its.toArray.size)).push u++its.toArray.extract (if i<0 then(i+((its.toArray.size:Nat):Int)).toNat else min i.toNat its.toArray.size))=(its.take i.toNat++u::its.drop i.toNat).toArray:=by
 rw[if_neg (by omega),List.size_toArray,show min i.toNat its.length=i.toNat by omega]
 apply Array.toList_inj.mp
 simp
 exact List.take_of_length_le (by simp)
theorem JN:MtM X "list.insert" zbZ:=by
 intro pins s σ H x vs v us Q I rx rv h
 obtain⟨l,xs,i,y,rfl,rfl,hH,h0,h1,hz,q⟩:=h
 cases rx
 obtain⟨u1,u2,rfl,⟨t,rfl⟩,ru⟩:=rv.two
 obtain⟨z,its,n,r,hl,e⟩:=I.lstM hH
 have hf:Builtin.List.listFitsIndex i=true:=fitsIndex_both (by omega) (by omega)
 have hz2:its.toArray.size<=sizeLine:=by rw[List.size_toArray,<-hl];exact z
 refine call_meets F.slot_list_insert ⟨_,e,rfl⟩ F.entry_list_insert (F.args_list_insert_3 _ _ _) (AutoSeq1.list_insert_list_int_val_1 l its.toArray n i t u2 (by simp[hf]) hz2) ⟨e,?_⟩
 refine⟨.non,_,I.lset (its':=its.take i.toNat++u2::its.drop i.toNat) hH e (zcS its i u2 h0 (by omega)) ((r.take i.toNat).append (.cons ru (r.drop i.toNat))) ?_,rfl,q⟩
 have:xs.length<sizeLine:=xy hz
 rw[List.length_append,List.length_cons,List.length_take,List.length_drop]
 omega
end
end L2
namespace KK
open PySem L2 KM
theorem Zx {H:Hp}{p a x:Addr}{us:List V}(hp:vn H p) (h:H a=some (.lst us)) (e:us[0]? = some (.ref x)):a≠p:=λz=>by
 obtain⟨i,j,k,q⟩:=hp
 rw[z,q]at h
 cases h;cases e
section
variable {H:Hp}{us vs:List V}{qs rs:List (Rat×Int)}
theorem xH.get (h:xH H us qs){i:Nat}{u:Rat×Int}(e:qs[i]? = some u):∃x y,us[i]? = some (.ref x)/\H x=some (.tup [.ref y,.int u.2])/\zI H y u.1:=by
 have hi:=(List.getElem?_eq_some_iff.mp e).1
 have e2:us[i]? = some (us[i]'(by rw[h.1];exact hi)):=List.getElem?_eq_getElem _
 obtain⟨u',x,y,a,b,c,d⟩:=h.2 i _ e2
 rw[a]at e;cases e
 exact⟨x,y,by rw[e2,b],c,d⟩
theorem xH.set (h:xH H us qs) (j:Nat){x y:Addr}{u:Rat×Int}(hx:H x=some (.tup [.ref y,.int u.2])) (hy:zI H y u.1):xH H (us.set j (.ref x)) (qs.set j u):=by
 refine⟨by rw[List.length_set,List.length_set,h.1],λi v e=>?_⟩
 rw[List.getElem?_set]at e ⊢
 by_cases hj:j=i
 ·rw[if_pos hj]at e ⊢
  rw[h.1]at e
  by_cases hl:j<qs.length
  ·rw[if_pos hl]at e ⊢;cases e;exact⟨u,x,y,rfl,rfl,hx,hy⟩
  ·rw[if_neg hl]at e;cases e
 ·rw[if_neg hj]at e ⊢;exact h.2 i v e
theorem xH.erase (h:xH H us qs) (k:Nat):xH H (us.eraseIdx k) (qs.eraseIdx k):=by
 refine⟨by rw[List.length_eraseIdx,List.length_eraseIdx,h.1],λm v e=>?_⟩
 rw[List.getElem?_eraseIdx]at e ⊢
 split at e
 ·rename_i hm;rw[if_pos hm];exact h.2 m v e
 ·rename_i hm;rw[if_neg hm];exact h.2 (m+1) v e
theorem xH.rev (h:xH H us qs):xH H us.reverse qs.reverse:=by
 refine⟨by rw[List.length_reverse,List.length_reverse,h.1],λm v e=>?_⟩
 have hm:m<us.length:=by have:=(List.getElem?_eq_some_iff.mp e).1;rwa [List.length_reverse]at this
 rw[List.getElem?_reverse hm]at e
 rw[List.getElem?_reverse (by rw[<-h.1];exact hm),<-h.1]
 exact h.2 _ v e
theorem xH.app (h:xH H us qs) (g:xH H vs rs):xH H (us++vs) (qs++rs):=by
 refine⟨by rw[List.length_append,List.length_append,h.1,g.1],λm v e=>?_⟩
 rw[List.getElem?_append]at e ⊢
 split at e
 ·rename_i hm;rw[if_pos (by rw[<-h.1];exact hm)];exact h.2 m v e
 ·rename_i hm;rw[if_neg (by rw[<-h.1];exact hm),<-h.1];exact g.2 _ v e
theorem xH.one {x y:Addr}{u:Rat×Int}(hx:H x=some (.tup [.ref y,.int u.2])) (hy:zI H y u.1):xH H [.ref x] [u]:=by
 refine⟨rfl,λm v e=>?_⟩
 match m,e with
 | 0,e=>cases e;exact⟨u,x,y,rfl,rfl,hx,hy⟩
theorem xH.take (h:xH H us qs) (n:Nat):xH H (us.take n) (qs.take n):=by
 refine⟨by rw[List.length_take,List.length_take,h.1],λm v e=>?_⟩
 rw[List.getElem?_take]at e ⊢
 split at e
 ·rename_i hm;rw[if_pos hm];exact h.2 m v e
 ·cases e
theorem xH.drop (h:xH H us qs) (n:Nat):xH H (us.drop n) (qs.drop n):=by
 refine⟨by rw[List.length_drop,List.length_drop,h.1],λm v e=>?_⟩
 rw[List.getElem?_drop]at e ⊢
 exact h.2 _ v e
end
structure Spo (p D:Addr) (H G:Hp) (mq y:Addr) (us:List V) (qs:List (Rat×Int)) (X q:Rat):Prop where
 st:zS p H G
 at_:G D=some (.lst us)
 pap:xH G us qs
 x:zI G mq X
 y:zI G y q
section
variable {p D mq y:Addr}{H G:Hp}{us:List V}{qs:List (Rat×Int)}{X q:Rat}
theorem Spo.step (s:Spo p D H G mq y us qs X q) (hD:D≠p){G1:Hp}(t:zS p G G1):Spo p D H G1 mq y us qs X q :=
 ⟨s.st.trans t,t.keep _ _ s.at_ hD,s.pap.tups (xn s.st.pool t),t.rat s.st.pool s.x,t.rat s.st.pool s.y⟩
theorem Spo.same (s:Spo p D H G mq y us qs X q){G1:Hp}(t:zi G G1):Spo p D H G1 mq y us qs X q :=
 ⟨s.st.same t,t _ _ s.at_,s.pap.same t,t _ _ s.x,t _ _ s.y⟩
theorem Spo.mom (s:Spo p D H G mq y us qs X q){mr:Addr}{Y:Rat}(h:zI G mr Y):Spo p D H G mr y us qs Y q:=⟨s.st,s.at_,s.pap,h,s.y⟩
theorem Spo.put (s:Spo p D H G mq y us qs X q) (hF:H D=none) (hD:D≠p){us':List V}{qs':List (Rat×Int)} (h:xH G us' qs'):Spo p D H (upd G D (.lst us')) mq y us' qs' X q:=by
 have tu:xo G (upd G D (.lst us')):=.upd s.at_
 exact⟨s.st.put hF hD _,zg,h.tups tu,tu _ _ s.x,tu _ _ s.y⟩
end
theorem Spo.oth {p D mq y:Addr}{H G:Hp}{us:List V}{qs:List (Rat×Int)}{X q:Rat}(s:Spo p D H G mq y us qs X q){l:Addr}{xs:List V}(hn:H l=none) (hp:l≠p) (hD:l≠D) (hl:G l=some (.lst xs)) (ys:List V):Spo p D H (upd G l (.lst ys)) mq y us qs X q:=by
 have tu:xo G (upd G l (.lst ys)):=.upd hl
 exact⟨s.st.put hn hp _,by rw[zB hD.symm];exact s.at_,s.pap.tups tu,tu _ _ s.x,tu _ _ s.y⟩
theorem zbB {us:List V}{a:Int}(h0:0<=a) (h1:a<us.length):seqIndex? a us.length=some a.toNat:=by
 have h2:¬a<0:=by omega
 simp[seqIndex?,h2,h0,h1]
theorem zaq {n:Nat}{j:Nat}(h:j<n):ixN n (j:Int)=some j:=by
 unfold ixN
 rw[if_pos (by omega),if_pos (by omega)];rfl
theorem Xu {n:Int}(h : -16<=n/\n<=16\/n=10^30):Bd 100 n:=by
 rcases h with h | h
 ·exact Bd.mono (m:=5) (show n.natAbs<2^5 by omega) (by decide)
 ·rw[h];show (10^30:Int).natAbs<2^100;decide
theorem zda {a b e d m:Int}(h0:0<=d) (h8:d<8) (hm:1<=m/\m<=8) (ha:1<=a/\a<=8) (hb:1<=b/\b<=8) (he : -8<=e/\e<=0):∃v:Int,atI ([V.int 1,.int 1,.int a,.int b,.int (m*2),.int (m+1),.int (10^(30:Int).toNat)]++[.int e]) d=some (.int v)/\Bd 100 v:=by
 have:d=0\/d=1\/d=2\/d=3\/d=4\/d=5\/d=6\/d=7:=by omega
 rcases this with rfl | rfl | rfl | rfl | rfl | rfl | rfl | rfl
 ·exact⟨_,rfl,Xu (.inl (by decide))⟩
 ·exact⟨_,rfl,Xu (.inl (by decide))⟩
 ·exact⟨_,rfl,Xu (.inl (by omega))⟩
 ·exact⟨_,rfl,Xu (.inl (by omega))⟩
 ·exact⟨_,rfl,Xu (.inl (by omega))⟩
 ·exact⟨_,rfl,Xu (.inl (by omega))⟩
 ·exact⟨_,rfl,Xu (.inr rfl)⟩
 ·exact⟨_,rfl,Xu (.inl (by omega))⟩
theorem zc3 {w:Int}(h:w=3\/w=4\/w=8):∃n:Int,atI [V.int 8,.int 8,.int 4] (w/4)=some (.int n)/\0<n/\n<=8:=by
 rcases h with rfl | rfl | rfl
 all_goals exact⟨_,rfl,by decide,by decide⟩
theorem zej {w:Int}(h:inV (.int w) [.int 3,.int 4,.int 8]=true):w=3\/w=4\/w=8:=by
 unfold inV at h
 simp[eqV]at h
 omega
section
variable {P:Program}{w:World}{K:PySem.W.Frag}{mg:Str->Option Value}{base:Heap}{C CE:Addr}{aN aP:Addr}
def zcz:Sp:=λvs H Q _=>∃p t Db un be l far js wt mq lp us kgs X,vs=[.ref p,.ref t,.ref mq,.ref lp]/\vn H p/\Zj H t Db un be (some l) (some (l+far)) js wt/\WoZ un be (some l) (some (l+far)) js wt/\KgN kgs/\kgs.length=(phO l (2*far) js).length/\H lp=some (.lst us)/\PcA H us be kgs/\zI H mq X/\Sz 4000 X ∧
 ∀r mr D us' qs' Y H',zS p H H'->H D=none->D≠p->H' r=some (.tup [.ref mr,.ref D])->H' D=some (.lst us')->xH H' us' qs'->qs'.length<=9->(∀u∈qs',Bd 200 u.2)->zI H' mr Y->Q (.ref r) H'
theorem vj:zx ["pool","world","moment","paper","way","at","pace","many","parts","paces","other"] ["pool","world","moment","paper"] (zh qe):=⟨rfl,rfl,rfl,by decide +kernel,rfl,by decide +kernel,by decide +kernel⟩
theorem zdr (D:Df K mg "_law_spoilt" qe ["pool","world","moment","paper"] []) (T:TxB K mg) (TQ:TxQ K mg) (T3:Tx3 K mg aN) (cN:Cal P w K mg base "_law_next" 1 ["pool","base"] [] jb) (cPh:Cal P w K mg base "_law_phases" 1 ["world"] [] za9) (cLo:Cal P w K mg base "_law_lowest" 1 ["top","bottom"] [] jJ) (cPa:Cal P w K mg base "_law_part" 2 ["world","pace","many"] [] zdU) (cLl:Cal P w K mg base "_law_least" 2 ["parts"] [] zdR) :
  Cal P w K mg base "_law_spoilt" 3 ["pool","world","moment","paper"] [] zcz:=by
 refine D.cal (k:=2) vj (λvs H Q E h=>by obtain⟨_,_,_,_,_,_,_,_,_,_,_,_,_,_,rfl,_⟩:=h;rfl) (λf cdv A outer s H vs Q E hr2 h=>?_)
 obtain⟨p,t,Db,un,be,l,far,js,wt,mq,lp,us,kgs,X,rfl,hP,wo,z,kn,kl,hlp,hpc,hX,sX,k⟩:=h
 have hr1:xj 1 _:=hr2.mono (by decide)
 have hu:=hr2.units
 have hu1:=Nat.lt_of_le_of_lt (Nat.add_le_add_left (show 1<=64 by decide) _) hr2.units
 have bM:∀{n:Nat}{i:Int},Bd n i->n<=1000000->Bd 1000000 i:=λh l=>h.mono l
 have b12:∀x:Int,1<=x/\x<=12->Bd 5 x:=λx h=>(show x.natAbs<2^5 by omega)
 have bS:∀{i:Int},i.natAbs<2^20->Bd 1000000 i:=λh=>Bd.mono (m:=20) h (by decide)
 refine⟨_,(zf (vM (i:=4) (j:=3) rfl vj.nd rfl rfl (by decide) rfl rfl (za (zv cN hr1 (za (pv 0) (za zd ze))) (za (vp vY (by rfl) TQ.nList PyProof.Rows.boot_list (za (pv 3) ze)) ze)) (by rfl))
  (zf (zA (i:=5) vj.nd rfl (Or.inl rfl) (zv cN hr1 (za (pv 0) (za (zw xq (by rfl) T.nLen PySem.boot_len (za (pv 3) ze)) ze))))
  (zf (qi (zE xk (pv 3) (pv 5) (λ_ _=>rfl)) (xP rfl (zm (zk (i:=6) vj.nd rfl (Or.inl rfl)) (zm (zk (i:=7) vj.nd rfl (Or.inl rfl)) zO))))
  (zf (zV (zu x5 (pv 4) zd (zy _)) (zj (zA (i:=2) vj.nd rfl (Or.inl rfl) (zv cLo hr1 (za (zl zG (zE zH (pv 2) zd (λ_ _=>rfl)) (zl zR zd (zv cN hr1 (za (pv 0) (za zd ze))))) (za (zE zH (pv 2) zd (λ_ _=>rfl)) ze))))) zF)
  (zf (zV (zu x5 (pv 4) zd (zy _)) (zj (zA (i:=2) vj.nd rfl (Or.inl rfl) (zv cLo hr1 (za (zE zH (pv 2) zd (λ_ _=>rfl)) (za (zl zG (zE zH (pv 2) zd (λ_ _=>rfl)) (zl zR zd (zv cN hr1 (za (pv 0) (za zd ze))))) ze))))) zF)
  (zf (zV (zu x5 (pv 4) zd (zy _)) (zj (zA (i:=2) vj.nd rfl (Or.inl rfl) (zv cLo hr1 (za (zl zR (zl zG (zE zH (pv 2) zd (λ_ _=>rfl)) zd) (zE zH (pv 2) zd (λ_ _=>rfl))) (za (zl zG (zE zH (pv 2) zd (λ_ _=>rfl)) zd) ze))))) zF)
  (zf (zV (zu XQ (pv 4) (zN (za zd (za zd (za zd ze)))) rfl) (zf (zA (i:=8) vj.nd rfl (Or.inl rfl) (qp (za zd (za zd (za (zw (jv rfl) (by rfl) T.nMax PyProof.Rows.boot_max (za zd (za (zl jV (pv 7) zd) ze))) (za (zw (jv rfl) (by rfl) T.nMax PyProof.Rows.boot_max (za zd (za (zl jV (pv 7) zd) ze))) (za (zl zG (pv 7) zd) (za (zl zR (pv 7) zd) (za (zl v8 zd zd) ze)))))))))
  (zf (xt (qI PySem.F.plainAttrs_list PySem.F.slot_list_append PySem.F.type_list_append xl (pv 8) (za (zl xr zd (zl zG (pv 7) (zv cN hr1 (za (pv 0) (za zd ze))))) ze)))
  (zj (qi (zN (za (pv 6) (za (zE xk (pv 8) (zv cN hr1 (za (pv 0) (za (zE xk (qp (za zd (za zd (za zd ze)))) (zl jV (pv 4) zd) (λ_ _=>rfl)) ze))) (λ_ _=>rfl)) ze))) (Vz (pv 3) (pv 5) Xl))))) zF)
  (zf (zV ((Xi (zu XQ (pv 4) (zN (za zd (za zd ze))) rfl) (jZ (zu jA (zE zH (zE xk (pv 3) (pv 5) (λ_ _=>rfl)) zd (λ_ _=>rfl)) zd (zy _))))).pt (zf (zA (i:=9) vj.nd rfl (Or.inl rfl) (zw (Z5 rfl) (by rfl) T3.nSorted PyProof.Rows.boot_sorted (za (QO (zv cPh hr1 (za (pv 1) ze))) ze)))
  (zj (zA (i:=2) vj.nd rfl (Or.inl rfl) (zv cLl hr2 (za (xK (NB:=["own","pair"]) (FR:=["world"]) (js:=[1]) rfl rfl (λx c h=>jk rfl x c h) (.cons rfl rfl rfl ⟨_,rfl⟩ .nil) rfl (by decide +kernel) rfl (by decide +kernel) (Jh (by rfl) TQ.nZip (za (pv 9) (za (pv 3) ze))) (by intro _ _ _;refine⟨?_,?_,?_⟩;(exact(q8 (K:=K) (n:=2) rfl rfl (zm (zk (i:=0) (show List.Nodup (["own","pair","world"]:List Str) by decide +kernel) rfl (Or.inl rfl)) (zm (zk (i:=1) (show List.Nodup (["own","pair","world"]:List Str) by decide +kernel) rfl (Or.inl rfl)) zO))));(exact zL);(exact(zv cPa hr2 (za (pv 2) (za (pv 0) (za (zE (qA (K:=K) rfl) (pv 1) zd (λ_ _=>rfl)) ze))))))) ze))))) zF)
  (zf (zV (zu x5 (pv 4) zd (zy _)) (zj (xt (qI PySem.F.plainAttrs_list PySem.F.slot_list_pop PySem.F.type_list_pop QK (pv 3) (za (pv 5) ze)))) zF)
  (zf (zV (zu x5 (pv 4) zd (zy _)) (zf (zA (i:=10) vj.nd rfl (Or.inl rfl) (qp (za (zN (za (pv 6) (za (pv 7) ze))) (za (zN (za (zv cLo hr1 (za (zl zR (zE zH (pv 6) zd (λ_ _=>rfl)) (zE zH (pv 6) zd (λ_ _=>rfl))) (za (zE zH (pv 6) zd (λ_ _=>rfl)) ze))) (za zd ze))) (za (zN (za (zN (za zd (za zd ze))) (za zd ze))) ze)))))
  (zf (xt (qI PySem.F.plainAttrs_list PySem.F.slot_list_append PySem.F.type_list_append xl (pv 10) (za (zN (za (zN (za (zl xr zd (zE zH (pv 6) zd (λ_ _=>rfl))) (za (zE zH (pv 6) zd (λ_ _=>rfl)) ze))) (za (pv 7) ze))) ze)))
  (zj (xt (qI PySem.F.plainAttrs_list PySem.F.slot_list_insert PySem.F.type_list_insert JN (pv 3) (za (zl zG (zv cN hr1 (za (pv 0) (za (zl zR (zw xq (by rfl) T.nLen PySem.boot_len (za (pv 3) ze)) zd) ze))) (zv cN hr1 (za (pv 0) (za zd ze)))) (za (zE xk (pv 10) (zv cN hr1 (za (pv 0) (za zd ze))) (λ_ _=>rfl)) ze))))))) zF)
  (zf (zV (zu x5 (pv 4) zd (zy _)) (zj (xt (zdz PySem.F.plainAttrs_list PySem.F.slot_list_reverse PySem.F.type_list_reverse Vt (pv 3)))) zF)
  (zj (zD (zN (za (pv 2) (za (pv 3) ze)))))))))))))))),?_⟩
 have l1:=kn.l1
 have l8:=kn.l8
 have ul:=hpc.1
 generalize hqs0:(kgs.map λu=>(Rat.divInt u.1 be,u.2))=qs0
 have ql0:qs0.length=kgs.length:=by rw[<-hqs0,List.length_map]
 have pap0:xH H us qs0:=⟨by rw[ql0];exact ul,λi v e=>let ⟨u,x,y,a,b,c,d⟩:=hpc.2 i v e;⟨_,x,y,by rw[<-hqs0,List.getElem?_map,a];rfl,b,c,d⟩⟩
 have q0p:∀u∈qs0,1<=u.2/\u.2<=8:=λu m=>by
  rw[<-hqs0]at m
  obtain⟨v,mv,rfl⟩:=List.mem_map.mp m
  have:=kn.pos v mv
  exact⟨by dsimp only;omega,by dsimp only;omega⟩
 have q0s:∀u∈qs0,Sz 100 u.1:=λu m=>by
  rw[<-hqs0]at m
  obtain⟨v,mv,rfl⟩:=List.mem_map.mp m
  have:=kn.pos v mv
  exact Sz.divInt (by have:=z.be;omega) (this.2.1.mono (by decide)) ((b12 _ z.be).mono (by decide))
 refine⟨_,rfl,p,_,rfl,by decide,by decide,hP,λway G1 w0 w9 t1=>?_⟩
 obtain⟨u0,x0,y0,-,ev0,-,-⟩:=pap0.2 0 _ (List.getElem?_eq_getElem (by omega))
 have lpn:lp≠p:=Zx hP hlp (by rw[List.getElem?_eq_getElem (by omega),ev0])
 clear ev0
 refine⟨_,rfl,lp,us,rfl,.inl (SqL.of (t1.keep _ _ hlp lpn)),λDp hDp=>⟨_,_,rfl,?_⟩⟩
 have hD:H Dp=none:=t1.free hDp
 have hDn:Dp≠p:=t1.pool.ne hDp
 have T1:=t1.put hD hDn (.lst us)
 have hD1:upd G1 Dp (.lst us) Dp=some (.lst us):=zg
 generalize upd G1 Dp (.lst us)=G1' at T1 hD1
 dsimp only
 refine⟨_,rfl,_,rfl,Dp,us,rfl,.inl (SqL.of hD1),p,_,rfl,by omega,by omega,T1.pool,λav G2 a0 a1 t2=>?_⟩
 dsimp only[zn]
 have T2:=T1.trans t2
 have hD2:=t2.keep _ _ hD1 hDn
 obtain⟨j,rfl⟩:∃j:Nat,av=(j:Int):=⟨av.toNat,by omega⟩
 have hj:j<us.length:=by omega
 have hj0:j<qs0.length:=by omega
 obtain⟨x,y,exv,hx,hy⟩:=pap0.get (List.getElem?_eq_getElem hj0)
 obtain⟨m1,m8⟩:=q0p _ (List.getElem_mem hj0)
 have sq:=q0s _ (List.getElem_mem hj0)
 generalize hu0:qs0[j]=u1 at hx hy m1 m8 sq
 obtain⟨q,m⟩:=u1
 dsimp only at hx hy m1 m8 sq
 have tu2:=xn hP T2
 refine⟨_,rfl,_,rfl,Dp,us,_,_,rfl,rfl,.of hD2,jN exv,x,_,rfl,.of (tu2 _ _ hx),rfl,_,_,rfl,_,_,rfl,rfl,?_⟩
 dsimp only[zn]
 have sp2:Spo p Dp H G2 mq y us qs0 X q:=⟨T2,hD2,pap0.tups tu2,tu2 _ _ hX,tu2 _ _ hy⟩
 clear hD1 hD2 hDp T1 t1 t2 tu2 T2
 have bd5:∀d:Int,0<=d->d<5->Bd 4 (2+d):=λd h0 h1=>(show (2+d).natAbs<2^4 by omega)
 have dp:∀Y:Rat,0<(Y.den:Int):=λY=>by have:=Y.den_pos;omega
 refine zU (λσ G=>∃mr Y,σ=[some (.ref p),some (.ref t),some (.ref mr),some (.ref Dp),some (.int way),some (.int j),some (.ref y),some (.int m),none,none,none]/\Spo p Dp H G mr y us qs0 Y q/\Sz 4010 Y) ?_ ?_
 rotate_left
 ·intro nx hnx
  refine⟨_,rfl,rfl,_,rfl,xO (λ_=>?_) (λ_=>hnx _ _ ⟨mq,X,rfl,sp2,sX.mono (by decide)⟩)⟩
  refine⟨_,rfl,mq,_,_,_,rfl,rfl,.of sp2.x,rfl,_,rfl,p,_,rfl,by decide,by decide,sp2.st.pool,λd G3 d0 d1 td=>?_⟩
  have sp3:=sp2.step hDn td
  refine⟨_,_,rfl,rfl,_,_,rfl,rfl,⟨bM sX.1 (by decide),bM (bd5 d d0 d1) (by decide)⟩,_,rfl,mq,_,_,_,rfl,rfl,.of sp3.x,rfl,_,_,rfl,dp _,sX.2.mono (by decide),λr G4 s4 hr=>hnx _ _ ⟨r,_,rfl,(sp3.same s4).mom hr,Sz.divInt (by have:=dp X;omega) ((sX.1.mul (bd5 d d0 d1)).mono (by decide)) (sX.2.mono (by decide))⟩⟩
 clear sp2 hX sX
 rintro σ0 G3 ⟨mr,Y,rfl,sp2,sX⟩
 clear G2
 refine zU (λσ G=>∃mr Y,σ=[some (.ref p),some (.ref t),some (.ref mr),some (.ref Dp),some (.int way),some (.int j),some (.ref y),some (.int m),none,none,none]/\Spo p Dp H G mr y us qs0 Y q/\Sz 4020 Y) ?_ ?_
 rotate_left
 ·intro nx hnx
  refine⟨_,rfl,rfl,_,rfl,xO (λ_=>?_) (λ_=>hnx _ _ ⟨mr,Y,rfl,sp2,sX.mono (by decide)⟩)⟩
  refine⟨_,rfl,mr,_,_,_,rfl,rfl,.of sp2.x,rfl,_,rfl,mr,_,_,_,rfl,rfl,.of sp2.x,rfl,_,rfl,p,_,rfl,by decide,by decide,sp2.st.pool,λd G3 d0 d1 td=>?_⟩
  have sp3:=sp2.step hDn td
  have b0:0<(Y.den:Int)*(2+d):=Int.mul_pos (dp _) (by omega)
  exact⟨_,_,rfl,rfl,_,_,rfl,rfl,⟨bM sX.2 (by decide),bM (bd5 d d0 d1) (by decide)⟩,_,_,rfl,b0,(sX.2.mul (bd5 d d0 d1)).mono (by decide),λr G4 s4 hr=>hnx _ _ ⟨r,_,rfl,(sp3.same s4).mom hr,Sz.divInt (by omega) (sX.1.mono (by decide)) ((sX.2.mul (bd5 d d0 d1)).mono (by decide))⟩⟩
 clear sp2 sX
 rintro σ0 G4 ⟨mr,Y,rfl,sp2,sX⟩
 clear G3
 have bmil:Bd 24 (1000003:Int):=(show (1000003:Int).natAbs<2^24 by decide)
 refine zU (λσ G=>∃mr Y,σ=[some (.ref p),some (.ref t),some (.ref mr),some (.ref Dp),some (.int way),some (.int j),some (.ref y),some (.int m),none,none,none]/\Spo p Dp H G mr y us qs0 Y q) ?_ ?_
 rotate_left
 ·intro nx hnx
  refine⟨_,rfl,rfl,_,rfl,xO (λ_=>?_) (λ_=>hnx _ _ ⟨mr,Y,rfl,sp2⟩)⟩
  have b0:0<(Y.den:Int)*1000003:=Int.mul_pos (dp _) (by decide)
  exact⟨_,rfl,mr,_,_,_,rfl,rfl,.of sp2.x,rfl,_,_,rfl,rfl,⟨bM sX.1 (by decide),bM bmil (by decide)⟩,_,rfl,mr,_,_,_,rfl,rfl,.of sp2.x,rfl,_,_,rfl,rfl,_,rfl,mr,_,_,_,rfl,rfl,.of sp2.x,rfl,_,_,rfl,rfl,⟨bM sX.2 (by decide),bM bmil (by decide)⟩,_,_,rfl,b0,(sX.2.mul bmil).mono (by decide),λr G4 s4 hr=>hnx _ _ ⟨r,_,rfl,(sp2.same s4).mom hr⟩⟩
 clear sp2 sX
 rintro σ0 G5 ⟨mr,Y,rfl,sp2⟩
 clear G4
 refine zU (λσ G=>∃mr Y us' qs' y8,σ=[some (.ref p),some (.ref t),some (.ref mr),some (.ref Dp),some (.int way),some (.int j),some (.ref y),some (.int m),y8,none,none]/\Spo p Dp H G mr y us' qs' Y q/\qs'.length=kgs.length/\(∀u∈qs',Bd 100 u.2)/\∀(i:Nat) (u:Rat×Int),qs'[i]? = some u->i≠j->0<u.2) ?_ ?_
 rotate_left
 ·intro nx hnx
  have bq0:∀u∈qs0,Bd 100 u.2:=λu mu=>by have:=q0p u mu;exact Xu (.inl (by omega))
  have pq0:∀(i:Nat) (u:Rat×Int),qs0[i]? = some u->i≠j->0<u.2:=λi u e _=>by have:=q0p u (List.mem_of_getElem? e);omega
  refine⟨_,rfl,by show 3<=sizeLine;decide,λtt htt=>⟨tt,_,rfl,.inr (SqT.of zg),rfl,rfl,_,rfl,xO (λh=>?_) (λh=>hnx _ _ ⟨mr,Y,us,qs0,none,rfl,sp2.same (zi.upd htt),ql0,bq0,pq0⟩)⟩⟩
  have hw:=zej h
  have sp3:=sp2.same (zi.upd (o:=.tup [.int 3,.int 4,.int 8]) htt)
  clear sp2 h
  generalize upd G5 tt (.tup [.int 3,.int 4,.int 8])=G6 at sp3
  have bm:Bd 5 m:=(show m.natAbs<2^5 by omega)
  refine⟨_,rfl,_,_,rfl,rfl,⟨by decide,by decide⟩,_,_,rfl,_,rfl,_,_,rfl,rfl,⟨by decide,by decide⟩,_,_,rfl,_,rfl,_,_,rfl,rfl,⟨bM bm (by decide),bS (by decide)⟩,_,rfl,_,_,rfl,rfl,_,_,rfl,rfl,⟨by decide,by decide,by decide⟩,by show 7<=sizeLine;decide,λlq hlq=>?_⟩
  have hlH:H lq=none:=sp3.st.free hlq
  have hlp':lq≠p:=sp3.st.pool.ne hlq
  have hlD:lq≠Dp:=(zJ sp3.at_ hlq).symm
  have ea:1<=(if m/2>1 then m/2 else 1)/\(if m/2>1 then m/2 else 1)<=8:=by split <;> omega
  have eb:1<=(if m/3>1 then m/3 else 1)/\(if m/3>1 then m/3 else 1)<=8:=by split <;> omega
  refine⟨_,rfl,.inl ⟨rfl,_,SqL.of zg⟩,_,rfl,_,rfl,p,_,rfl,by decide,by decide,(sp3.same (zi.upd hlq)).st.pool,λd G7 d0 d1 td=>?_⟩
  have hl7:=td.keep lq _ zg hlp'
  have sp7:=(sp3.same (zi.upd hlq)).step hDn td
  clear sp3 td
  have hmd:0<=m*d/\m*d<=8:=⟨Int.mul_nonneg (by omega) d0,by have:=Int.mul_le_mul m8 (show d<=1 by omega) d0 (by decide);omega⟩
  have bd':Bd 5 d:=(show d.natAbs<2^5 by omega)
  refine⟨_,_,rfl,rfl,⟨bM bm (by decide),bM bd' (by decide)⟩,_,_,rfl,rfl,lq,_,_,rfl,rfl,hl7,by show 7<sizeLine;decide,?_⟩
  have sp8:=sp7.oth hlH hlp' hlD hl7 ([V.int 1,.int 1,.int (if m/2>1 then m/2 else 1),.int (if m/3>1 then m/3 else 1),.int (m*2),.int (m+1),.int (10^(30:Int).toNat)]++[.int (0 - m*d)])
  clear sp7
  obtain⟨n,en,n0,n8⟩:=zc3 hw
  refine⟨_,rfl,_,rfl,_,rfl,by show 3<=sizeLine;decide,λl3 hl3=>⟨_,rfl,_,_,rfl,rfl,⟨by decide,by decide⟩,l3,_,_,_,rfl,rfl,.of zg,en,p,n,rfl,n0,by omega,(sp8.same (zi.upd hl3)).st.pool,λd2 G9 e0 e1 te=>?_⟩⟩
  have hl9:=te.keep lq _ (zi.upd hl3 _ _ zg) hlp'
  have sp9:=(sp8.same (zi.upd hl3)).step hDn te
  clear sp8 te
  obtain⟨v,ev,bv⟩:=zda (d:=d2) (m:=m) (e:=0 - m*d) e0 (by omega) ⟨m1,m8⟩ ea eb (by omega)
  refine⟨lq,_,_,_,rfl,rfl,.of hl9,ev,by show 2<=sizeLine;decide,λtx htx=>⟨_,rfl,_,rfl,Dp,us,_,j,rfl,rfl,(zi.upd htx) _ _ sp9.at_,zaq hj,?_⟩⟩
  have sp10:=sp9.same (zi.upd (o:=.tup [.ref y,.int v]) htx)
  exact hnx _ _ ⟨mr,Y,_,_,_,rfl,sp10.put hD hDn (sp10.pap.set j (u:=(q,v)) (zg) sp10.y),by rw[List.length_set,ql0],λu mu=>(List.mem_or_eq_of_mem_set mu).elim (bq0 u) λe=>by rw[e];exact bv,λi u e ne=>by rw[List.getElem?_set_ne (Ne.symm ne)]at e;exact pq0 i u e ne⟩
 clear sp2
 rintro σ0 G6 ⟨mr,Y,us',qs',y8,rfl,sp2,ql,bq,pq⟩
 clear G5
 have ef:l+far - l=far:=by omega
 have f0:0<far:=by have:=z.lh _ _ rfl rfl;omega
 have bf:Bd 80 far:=by
  have:=(z.bh _ rfl).sub (z.bl _ rfl)
  rw[ef]at this;exact this.mono (by decide)
 have pj:=z.phj
 obtain⟨ys,hys,hPj⟩:=wo.lst
 have hDb:Db≠p:=by
  have h1:=z.l1
  obtain⟨_,_,_,e2,_⟩:=hPj.2 0 _ (List.getElem?_eq_getElem (by have:=hPj.1;omega))
  exact Zx hP hys (by rw[List.getElem?_eq_getElem (by have:=hPj.1;omega),e2])
 have wos:∀{G:Hp},zS p H G->Zj G t Db un be (some l) (some (l+far)) js wt:=λ{G} s=>⟨s.tup hP wo.tup,ys,s.keep _ _ hys hDb,hPj.tups (xn hP s)⟩
 refine zU (λσ G=>∃mr Y us' qs' y8 y9,σ=[some (.ref p),some (.ref t),some (.ref mr),some (.ref Dp),some (.int way),some (.int j),some (.ref y),some (.int m),y8,y9,none]/\Spo p Dp H G mr y us' qs' Y q/\qs'.length=kgs.length/\(∀u∈qs',Bd 100 u.2)) ?_ ?_
 rotate_left
 ·intro nx hnx
  refine⟨_,rfl,by show 2<=sizeLine;decide,λtt htt=>⟨tt,_,rfl,.inr (SqT.of zg),rfl,rfl,_,rfl,xO (λh=>?_) (λh=>xZ (hnx _ _ ⟨mr,Y,us',qs',y8,none,rfl,sp2.same (zi.upd htt),ql,bq⟩))⟩⟩
  have sp3:=sp2.same (zi.upd (o:=.tup [.int 4,.int 8]) htt)
  clear sp2 h
  generalize upd G6 tt (.tup [.int 4,.int 8])=G7 at sp3
  have hj':j<qs'.length:=by omega
  obtain⟨x',y',ex',hx',hy'⟩:=sp3.pap.get (List.getElem?_eq_getElem hj')
  refine⟨_,rfl,_,rfl,Dp,us',_,_,rfl,rfl,.of sp3.at_,jN ex',x',_,_,_,rfl,rfl,.of hx',rfl,_,_,rfl,rfl,_,rfl,xO (λh2=>?_) (λ_=>hnx _ _ ⟨mr,Y,us',qs',y8,none,rfl,sp3,ql,bq⟩)⟩
  have h2':0<qs'[j].2:=of_decide_eq_true h2
  have pall:∀u∈qs',0<u.2:=λu mu=>by
   obtain⟨i,hi⟩:=List.mem_iff_getElem?.mp mu
   by_cases e:i=j
   ·rw[e,List.getElem?_eq_getElem hj']at hi;cases hi;exact h2'
   ·exact pq i u hi e
  refine⟨_,rfl,t,Db,un,be,l,l+far,js,wt,rfl,wos sp3.st,z.l8,by rw[ef];exact bf,λad es H1 S1 ph eph=>?_⟩
  rw[ef]at eph
  have hd:=ph.d
  generalize hpws:phO l (2*far) js=pws at *
  have hkm:es.map (·.1)=pws.map Prod.fst:=by rw[<-eph];unfold vf;rw[List.map_map];rfl
  have pl8:=pj.pl
  refine⟨ad,_,rfl,hd,λv hv=>?_⟩
  have SV:=zi.upd (o:=KV2 v ad) hv
  have hv':upd H1 v (KV2 v ad) v=some (KV2 v ad):=zg
  generalize upd H1 v (KV2 v ad)=H3 at SV hv'
  refine⟨v,ad,_,pws.map Prod.fst,rfl,hv',SV _ _ hd,by rw[<-hkm];unfold vJ;rw[List.map_map,List.map_map];rfl,by rw[List.length_map];omega,λDs ms hDs pm sm=>?_⟩
  dsimp only[zn]
  have S4:=zi.upd (o:=.lst (ms.map V.int)) hDs
  have hDs':upd H3 Ds (.lst (ms.map V.int)) Ds=some (.lst (ms.map V.int)):=zg
  generalize upd H3 Ds (.lst (ms.map V.int))=H4 at S4 hDs'
  have msl:ms.length=pws.length:=by rw[pm.length_eq,List.length_map]
  have sp4:=sp3.same (S1.trans (SV.trans S4))
  clear sp3 hx' hy' S1 SV S4
  have upl:=sp4.pap.1
  refine⟨_,rfl,_,rfl,false,false,Ds,Dp,rfl,⟨_,HSq.sq (k:=false) hDs'⟩,⟨_,HSq.sq (k:=false) sp4.at_⟩,λDe hDe=>?_⟩
  refine Jz (js:=[1]) (J:=Va false false K Ds Dp) (g:=ZJ K 2 (qk (zn 0) (qk (zn 1) Z7))) (tt:=λ_ H Q=>Q true H) (te:=_) (n:=2) (N:=(ms.map V.int).length) (xs:=ms.map V.int) (ys:=us') (λ_=>true) (λi v G=>∃x r,((ms.zip qs').map λu=>Rat.divInt (2*far*be) (un*u.1*u.2.2))[i]? = some x/\v = .ref r/\zI G r x) (λi v G G' e ⟨x,r,q0,q1,q2⟩=>⟨x,r,q0,q1,e _ _ q2⟩) hDe (zb2 (k1:=false) (k2:=false) hDs' sp4.at_ (by rw[List.length_map];omega)) (zZ (by rw[List.length_map];omega)) ?_ ?_
  ·intro i Tz xx yy zs G' A' B' hxx hyy hz S' hT hA hB
   obtain⟨w1,w2,rfl⟩:=jU hz
   rw[List.getElem?_map]at hxx
   cases hm:ms[i]? with
   | none=>rw[hm]at hxx;cases hxx
   | some kp =>
   rw[hm]at hxx;cases hxx
   obtain⟨u,x2,y2,eu,rfl,hx2,hy2⟩:=sp4.pap.2 i yy hyy
   have mu:=List.mem_of_getElem? eu
   have bu:=bq u mu
   have pu:=pall u mu
   obtain⟨e,me,ek⟩:=List.mem_map.mp (pm.subset (List.mem_of_getElem? hm))
   have kp0:=pj.k0 _ me
   have bkp:Bd 70 kp:=by
    obtain⟨u',mu',qq⟩:=pj.of _ me
    have:=(z.bd u' mu').2
    rcases qq with qq | qq
    ·rw[<-ek,<-qq];exact this
    ·rw[show kp = -u'.2 by omega];exact this.neg
   rw[ek]at kp0
   exact⟨Tz,_,rfl,.of hT,rfl,_,_,rfl,_,_,rfl,rfl,⟨rfl,xY ⟨_,rfl,_,rfl,_,rfl,x2,_,_,_,rfl,rfl,.of (S' _ _ hx2),rfl,t,un,be,l,l+far,_,_,kp,u.2,rfl,S' _ _ (wos sp4.st).tup,by have:=z.un;omega,kp0,pu,(b12 _ z.un).mono (by decide),(b12 _ z.be).mono (by decide),(z.bl _ rfl).mono (by decide),(z.bh _ rfl).mono (by decide),bkp.mono (by decide),bu,λr G'' s hr=>hA rfl _ _ s ⟨_,r,by rw[List.getElem?_map,(List.getElem?_zip_eq_some (z:=(kp,u))).mpr ⟨hm,eu⟩];rfl,rfl,by rw[ef]at hr;exact hr⟩⟩⟩⟩
  intro us8 G8 s8 hG8 hul8 hR8
  have esel:sel (λ_=>true) (ms.map V.int).length=List.range (ms.map V.int).length:=List.filter_eq_self.mpr λ_ _=>rfl
  rw[esel,List.length_range,List.length_map]at hul8
  rw[esel]at hR8
  have Ll:((ms.zip qs').map λu=>Rat.divInt (2*far*be) (un*u.1*u.2.2)).length=ms.length:=by rw[List.length_map,List.length_zip];omega
  have Lok:∀x∈((ms.zip qs').map λu=>Rat.divInt (2*far*be) (un*u.1*u.2.2)),0<x.num/\Bd 400 x.num/\Bd 400 (x.den:Int):=λx mx=>by
   obtain⟨u,mu,rfl⟩:=List.mem_map.mp mx
   obtain⟨a1,a2⟩:=List.of_mem_zip mu
   obtain⟨e,me,ek⟩:=List.mem_map.mp (pm.subset a1)
   have kp0:=pj.k0 _ me
   have bkp:Bd 70 u.1:=by
    obtain⟨u',mu',qq⟩:=pj.of _ me
    have:=(z.bd u' mu').2
    rcases qq with qq | qq
    ·rw[<-ek,<-qq];exact this
    ·rw[show u.1 = -u'.2 by omega];exact this.neg
   rw[ek]at kp0
   have pu:=pall _ a2
   have bu:=bq _ a2
   have b2:Bd 3 (2:Int):=(show (2:Int).natAbs<2^3 by decide)
   have u0:=z.un.1
   have e0:=z.be.1
   have hb:0<un*u.1*u.2.2:=Int.mul_pos (Int.mul_pos (by omega) kp0) pu
   have s:=Sz.divInt (n:=400) (t:=2*far*be) (b:=un*u.1*u.2.2) (by omega) (((b2.mul bf).mul (b12 _ z.be)).mono (by decide)) ((((b12 _ z.un).mul bkp).mul bu).mono (by decide))
   exact⟨Xg (Int.mul_pos (by omega) (by omega)) hb,s.1,s.2⟩
  have rats:Xx G8 us8 ((ms.zip qs').map λu=>Rat.divInt (2*far*be) (un*u.1*u.2.2)):=⟨by rw[Ll];exact hul8,λi v e=>hR8 i i v (by
   have hi:=(List.getElem?_eq_some_iff.mp e).1
   rw[List.getElem?_range (by rw[List.length_map];omega)]) e⟩
  exact⟨De,us8,_,rfl,hG8,rats,by omega,by omega,λx m=>(Lok x m).1,λx m=>(Lok x m).2.1,λx m=>(Lok x m).2.2,λr G9 s9 hr=>hnx _ _ ⟨r,_,us',qs',y8,_,rfl,(sp4.same (s8.trans s9)).mom hr,ql,bq⟩⟩
 clear sp2 bq pq ql
 rintro σ0 G7 ⟨mr,Y,us',qs',y8,y9,rfl,sp2,ql,bq⟩
 clear G6
 refine zU (λσ G=>∃mr Y us' qs' y8 y9,σ=[some (.ref p),some (.ref t),some (.ref mr),some (.ref Dp),some (.int way),some (.int j),some (.ref y),some (.int m),y8,y9,none]/\Spo p Dp H G mr y us' qs' Y q/\qs'.length<=8/\(∀u∈qs',Bd 100 u.2)) ?_ ?_
 rotate_left
 ·intro nx hnx
  refine⟨_,rfl,rfl,_,rfl,xO (λ_=>?_) (λ_=>hnx _ _ ⟨mr,Y,us',qs',y8,y9,rfl,sp2,by omega,bq⟩)⟩
  have upl:=sp2.pap.1
  exact⟨_,rfl,.inl ⟨rfl,_,SqL.of sp2.at_⟩,_,rfl,Dp,us',_,_,_,rfl,rfl,sp2.at_,by omega,by omega,zbB (by omega) (by omega),List.getElem?_eq_getElem (by omega),hnx _ _ ⟨mr,Y,_,_,y8,y9,rfl,sp2.put hD hDn (sp2.pap.erase _),by rw[List.length_eraseIdx];split <;> omega,λu mu=>bq u (List.mem_of_mem_eraseIdx mu)⟩⟩
 clear sp2 bq ql
 rintro σ0 G8 ⟨mr,Y,us',qs',y8,y9,rfl,sp2,ql,bq⟩
 clear G7
 refine zU (λσ G=>∃mr Y us' qs' y8 y9 y10,σ=[some (.ref p),some (.ref t),some (.ref mr),some (.ref Dp),some (.int way),some (.int j),some (.ref y),some (.int m),y8,y9,y10]/\Spo p Dp H G mr y us' qs' Y q/\qs'.length<=9/\(∀u∈qs',Bd 100 u.2)) ?_ ?_
 rotate_left
 ·intro nx hnx
  refine⟨_,rfl,rfl,_,rfl,xO (λ_=>?_) (λ_=>hnx _ _ ⟨mr,Y,us',qs',y8,y9,none,rfl,sp2,by omega,bq⟩)⟩
  refine⟨_,rfl,_,rfl,by show 2<=sizeLine;decide,λo1 ho1=>?_⟩
  have sp3:=sp2.same (zi.upd (o:=.tup [.ref y,.int m]) ho1)
  have h1:upd G8 o1 (.tup [.ref y,.int m]) o1=some (.tup [.ref y,.int m]):=zg
  generalize upd G8 o1 (.tup [.ref y,.int m])=G9 at sp3 h1
  clear sp2
  refine⟨_,rfl,y,_,_,_,rfl,rfl,.of sp3.y,rfl,_,rfl,y,_,_,_,rfl,rfl,.of sp3.y,rfl,_,_,rfl,rfl,_,rfl,y,_,_,_,rfl,rfl,.of sp3.y,rfl,_,_,rfl,dp _,sq.2.mono (by decide),λr G10 s10 hr=>⟨by show 2<=sizeLine;decide,λo2 ho2=>?_⟩⟩
  have sA:=zi.upd (o:=.tup [.ref r,.int 1]) ho2
  have sp4:=sp3.same (s10.trans sA)
  have h2:upd G10 o2 (.tup [.ref r,.int 1]) o2=some (.tup [.ref r,.int 1]):=zg
  have h1':=sA _ _ (s10 _ _ h1)
  have hr':=sA _ _ hr
  generalize upd G10 o2 (.tup [.ref r,.int 1])=G11 at sp4 h2 h1' hr'
  clear sp3 h1 hr sA s10
  refine⟨by show 2<=sizeLine;decide,λo3 ho3=>⟨by show 2<=sizeLine;decide,λo4 ho4=>⟨by show 3<=sizeLine;decide,λlo hlo=>?_⟩⟩⟩
  have sB:=(zi.upd (o:=.tup [.int 0,.int 1]) ho3).trans (zi.upd (o:=.tup [.ref o3,.int 1]) ho4)
  have h3:upd (upd G11 o3 (.tup [.int 0,.int 1])) o4 (.tup [.ref o3,.int 1]) o3=some (.tup [.int 0,.int 1]):=zi.upd ho4 _ _ zg
  have h4:upd (upd G11 o3 (.tup [.int 0,.int 1])) o4 (.tup [.ref o3,.int 1]) o4=some (.tup [.ref o3,.int 1]):=zg
  have sp5:=sp4.same sB
  have po:xH (upd (upd G11 o3 (.tup [.int 0,.int 1])) o4 (.tup [.ref o3,.int 1])) [.ref o1,.ref o2,.ref o4] [(q,m),(Rat.divInt (q.num+q.den) q.den,1),(0,1)]:=(xH.one (u:=(q,m)) (sB _ _ h1') sp5.y).app ((xH.one (u:=(_,1)) (sB _ _ h2) (sB _ _ hr')).app (xH.one (u:=(0,1)) h4 h3))
  generalize upd (upd G11 o3 (.tup [.int 0,.int 1])) o4 (.tup [.ref o3,.int 1])=G12 at sp5 po hlo ⊢
  clear sp4 h1' h2 hr' sB h3 h4
  dsimp only[zn]
  have hlH:H lo=none:=sp5.st.free hlo
  have hlp':lo≠p:=sp5.st.pool.ne hlo
  have hlD:lo≠Dp:=(zJ sp5.at_ hlo).symm
  have sC:=zi.upd (o:=.lst [.ref o1,.ref o2,.ref o4]) hlo
  have hl:upd G12 lo (.lst [.ref o1,.ref o2,.ref o4]) lo=some (.lst [.ref o1,.ref o2,.ref o4]):=zg
  have sp6:=sp5.same sC
  have po6:=po.same sC
  generalize upd G12 lo (.lst [.ref o1,.ref o2,.ref o4])=G13 at sp6 po6 hl
  clear sp5 po sC
  refine⟨_,rfl,.inl ⟨rfl,_,SqL.of hl⟩,_,rfl,y,_,_,_,rfl,rfl,.of sp6.y,rfl,_,_,rfl,rfl,_,rfl,y,_,_,_,rfl,rfl,.of sp6.y,rfl,by show 2<=sizeLine;decide,λo5 ho5=>⟨_,rfl,by show 2<=sizeLine;decide,λo6 ho6=>?_⟩⟩
  have sD:=(zi.upd (o:=.tup [.int (0 - q.num),.int q.den]) ho5).trans (zi.upd (o:=.tup [.ref o5,.int m]) ho6)
  have h5:upd (upd G13 o5 (.tup [.int (0 - q.num),.int q.den])) o6 (.tup [.ref o5,.int m]) o5=some (.tup [.int (0 - q.num),.int q.den]):=zi.upd ho6 _ _ zg
  have h6:upd (upd G13 o5 (.tup [.int (0 - q.num),.int q.den])) o6 (.tup [.ref o5,.int m]) o6=some (.tup [.ref o5,.int m]):=zg
  have sp7:=sp6.same sD
  have po7:=po6.same sD
  have hl7:=sD _ _ hl
  generalize upd (upd G13 o5 (.tup [.int (0 - q.num),.int q.den])) o6 (.tup [.ref o5,.int m])=G14 at sp7 po7 hl7 h5 h6
  clear sp6 po6 hl sD
  have rn:zI G14 o5 (-q):=by
   show G14 o5=some (.tup [.int (-q).num,.int ((-q).den:Int)])
   rw[h5,show (-q).num=0 - q.num by rw[Rat.neg_num];omega,Rat.neg_den]
  have po8:=po7.app (xH.one (u:=(-q,m)) h6 rn)
  refine⟨lo,_,_,rfl,rfl,hl7,by show 3<sizeLine;decide,?_⟩
  have tu:xo G14 (upd G14 lo (.lst ([.ref o1,.ref o2,.ref o4]++[.ref o6]))):=.upd hl7
  have po9:=po8.tups tu
  have sp8:=sp7.oth hlH hlp' hlD hl7 ([.ref o1,.ref o2,.ref o4]++[.ref o6])
  have hl8:upd G14 lo (.lst ([.ref o1,.ref o2,.ref o4]++[.ref o6])) lo=some (.lst ([.ref o1,.ref o2,.ref o4]++[.ref o6])):=zg
  generalize upd G14 lo (.lst ([.ref o1,.ref o2,.ref o4]++[.ref o6]))=G15 at sp8 po9 hl8
  clear sp7 po8 po7 hl7 h5 h6 rn tu
  have upl:=sp8.pap.1
  refine⟨_,rfl,.inl ⟨rfl,_,SqL.of sp8.at_⟩,_,rfl,_,rfl,Dp,us',rfl,.inl (SqL.of sp8.at_),_,_,rfl,rfl,p,_,rfl,by omega,by omega,sp8.st.pool,λd1 G16 a10 a11 t1=>?_⟩
  have sp9:=sp8.step hDn t1
  refine⟨_,rfl,p,_,rfl,by decide,by decide,sp9.st.pool,λd2 G17 a20 a21 t2=>?_⟩
  have sp10:=sp9.step hDn t2
  have hdd:0<=d1*d2/\d1*d2<=us'.length:=⟨Int.mul_nonneg a10 a20,by have:=Int.mul_le_mul (show d1<=us'.length by omega) (show d2<=1 by omega) a20 (by omega);omega⟩
  refine⟨_,_,rfl,rfl,⟨bS (by omega),bS (by omega)⟩,_,rfl,_,rfl,p,_,rfl,by decide,by decide,sp10.st.pool,λd3 G18 a30 a31 t3=>?_⟩
  have sp11:=sp10.step hDn t3
  have t13:=(t1.trans t2).trans t3
  have hl18:=t13.keep _ _ hl8 hlp'
  have po18:=po9.tups (xn sp8.st.pool t13)
  clear sp8 sp9 sp10 po9 hl8 t1 t2 t3 t13
  obtain⟨i3,rfl⟩:∃i:Nat,d3=(i:Int):=⟨d3.toNat,by omega⟩
  have b4:∀u∈([(q,m),(Rat.divInt (q.num+q.den) q.den,1),(0,1)]++[(-q,m)]:List (Rat×Int)),Bd 100 u.2:=λu mu=>by
   have:u.2=m\/u.2=1:=by
    simp at mu
    rcases mu with rfl | rfl | rfl | rfl
    all_goals simp
   exact Xu (.inl (by omega))
  have h4l:i3<([(q,m),(Rat.divInt (q.num+q.den) q.den,1),(0,1)]++[(-q,m)]:List (Rat×Int)).length:=by show i3<4;omega
  obtain⟨ox,oy,eo,hox,hoy⟩:=po18.get (List.getElem?_eq_getElem h4l)
  have bo:=b4 _ (List.getElem_mem h4l)
  generalize ([(q,m),(Rat.divInt (q.num+q.den) q.den,1),(0,1)]++[(-q,m)]:List (Rat×Int))[i3]=uo at hox hoy bo
  refine⟨lo,_,_,_,rfl,rfl,.of hl18,jN eo,Dp,us',_,_,rfl,rfl,sp11.at_,hdd.1,hdd.2,by omega,?_⟩
  refine hnx _ _ ⟨mr,Y,_,_,y8,y9,_,rfl,sp11.put hD hDn ((sp11.pap.take _).app ((xH.one hox hoy).app (sp11.pap.drop _))),?_,λu mu=>?_⟩
  ·rw[List.length_append,List.length_append,List.length_take,List.length_drop,List.length_singleton];omega
  ·rcases List.mem_append.mp mu with mu | mu
   ·exact bq u (List.mem_of_mem_take mu)
   ·rcases List.mem_append.mp mu with mu | mu
    ·rw[List.mem_singleton.mp mu];exact bo
    ·exact bq u (List.mem_of_mem_drop mu)
 clear sp2 bq ql
 rintro σ0 G9 ⟨mr,Y,us',qs',y8,y9,y10,rfl,sp2,ql,bq⟩
 clear G8
 refine zU (λσ G=>∃mr Y us' qs' y8 y9 y10,σ=[some (.ref p),some (.ref t),some (.ref mr),some (.ref Dp),some (.int way),some (.int j),some (.ref y),some (.int m),y8,y9,y10]/\Spo p Dp H G mr y us' qs' Y q/\qs'.length<=9/\(∀u∈qs',Bd 100 u.2)) ?_ ?_
 rotate_left
 ·intro nx hnx
  refine⟨_,rfl,rfl,_,rfl,xO (λ_=>?_) (λ_=>hnx _ _ ⟨mr,Y,us',qs',y8,y9,y10,rfl,sp2,ql,bq⟩)⟩
  exact⟨_,rfl,.inl ⟨rfl,_,SqL.of sp2.at_⟩,Dp,_,rfl,rfl,sp2.at_,hnx _ _ ⟨mr,Y,_,_,y8,y9,y10,rfl,sp2.put hD hDn sp2.pap.rev,by rw[List.length_reverse];exact ql,λu mu=>bq u (List.mem_reverse.mp mu)⟩⟩
 clear sp2 bq ql
 rintro σ0 G10 ⟨mr,Y,us',qs',y8,y9,y10,rfl,sp2,ql,bq⟩
 refine⟨_,rfl,_,rfl,by show 2<=sizeLine;decide,λr hr=>?_⟩
 have sp3:=sp2.same (zi.upd (o:=.tup [.ref mr,.ref Dp]) hr)
 exact k r mr Dp us' qs' Y _ sp3.st hD hDn zg sp3.at_ sp3.pap ql (λu mu=>(bq u mu).mono (by decide)) sp3.x
end
end KK
end
section
set_option maxHeartbeats 8000000
set_option Elab.async false
set_option linter.all false
set_option maxRecDepth 100000
namespace L2
open PySem PySem.Spec PyProof.Rows
theorem JP {X:Cx}:OpR X (compareOp .IsNot) (λx y H Q=>∃b c,x = .bl b/\y = .bl c/\Q (.bl (!decide (b=c))) H):=by
 intro pins s σ H x y v u Q I rx ry h
 obtain⟨b,c,rfl,rfl,q⟩:=h
 cases rx
 cases ry
 refine wpAny_isNot_plain (by cases b <;> cases c <;> rfl) (zX I q ?_)
 cases b <;> cases c <;> rfl
end L2
namespace KK
open PySem L2 KM
section
variable {un be wt l far:Int}{js kgs:List (Int×Int)}
def Qi (be:Int) (kgs:List (Int×Int)):List (Rat×Int):=kgs.map λu=>(Rat.divInt u.1 be,u.2)
theorem PcA.pap {G:Hp}{us:List V}(h:PcA G us be kgs):xH G us (Qi be kgs):=⟨by unfold Qi;rw[List.length_map];exact h.1,λi v e=>let ⟨u,x,y,a,b,c,d⟩:=h.2 i v e;⟨_,x,y,by unfold Qi;rw[List.getElem?_map,a];rfl,b,c,d⟩⟩
theorem zax (z:WoZ un be (some l) (some (l+far)) js wt) (hk:KgZ (2*far) (phO l (2*far) js) kgs):QF un be l far js (qB (ptW un be far kgs)) (Qi be kgs)=true:=by
 have pj:=z.phj
 have f0:0<far:=by have:=z.lh _ _ rfl rfl;omega
 have ek:kgs.map Prod.fst=vE ((phO l (2*far) js).map Prod.fst):=vo hk.pm hk.so
 unfold QF jc Qi
 rw[<-ek,List.map_map,List.map_map,List.map_map]
 have ez:(kgs.map Prod.fst).zip (kgs.map (Prod.snd ∘ λu:Int×Int=>((Rat.divInt u.1 be,u.2):Rat×Int)))=kgs:=(List.zip_of_prod rfl rfl).symm
 rw[ez]
 rw[show (kgs.all λu=>igB (xp (phO l (2*far) js) u.1) (2*far) u.2)=true from List.all_eq_true.mpr λu m=>by
  obtain⟨ps,M,m1,e2,g⟩:=hk.gm u m
  have:=vB pj.nd m1
  dsimp only at this
  rw[this,e2]
  exact zcR g (by omega) (pj.inn _ m1)]
 rw[decide_eq_true (show kgs.map (Prod.fst ∘ λu:Int×Int=>((Rat.divInt u.1 be,u.2):Rat×Int))=kgs.map ((λk=>Rat.divInt k be) ∘ Prod.fst)from rfl),decide_eq_true (show qB (ptW un be far kgs)=qB (kgs.map λu=>Rat.divInt (2*far*be) (un*u.1*u.2))from rfl)]
 rfl
theorem zcq {G:Hp}{r ab mq pp:Addr}{us:List V}{qs:List (Rat×Int)}{X:Rat}{Q:VK}{E:XK}(ln:Ln G r ab (js.map (blO un be wt)) (some (Rat.divInt l un,0)) (some (Rat.divInt (l+far) un,0))) (z:WoZ un be (some l) (some (l+far)) js wt) (ne:phO l (2*far) js≠[])
  (lo:LoT G pp us) (pap:xH G us qs) (q9:qs.length<=9) (qb:∀u∈qs,Bd 200 u.2) (hX:zI G mq X) (k:∀G',zi G G'->Q (.bl (QF un be l far js X qs)) G') :
  zdS [.ref r,.ref ab,.ref mq,.ref pp] G Q E:=by
 obtain⟨T,s,tk,pss,R⟩:=XR z
 have l1:=z.l1
 obtain⟨b0,hb0⟩:∃b0,(js.map (blO un be wt))[0]? = some b0:=⟨_,List.getElem?_eq_getElem (by rw[List.length_map];omega)⟩
 refine⟨r,ab,mq,pp,us,qs,X,_,b0,_,_,T,s,tk,pss,rfl,ln,z.lnz,hb0,QP (lo:=some l) (hi:=some (l+far)) hb0,R.d,λe=>ne (R.nil.mp e),lo,pap,q9,qb,hX,λG' s'=>?_⟩
 rw[zbE z R]
 exact k G' s'
end
def ppD (u:Rat×Int):PyData:=.tuple [rD u.1,.int u.2]
theorem Vw {H:Hp}:∀{us:List V}{qs:List (Rat×Int)},xH H us qs->jz H us (qs.map ppD)
 | [],[],_=>.nil
 | [],_::_,h=>by have:=h.1;simp at this
 | _::_,[],h=>by have:=h.1;simp at this
 | v::us,u::ps,h=>by
  obtain⟨u',x,y,e1,rfl,e3,e4⟩:=h.2 0 v rfl
  cases e1
  exact .cons (.tup e3 (.cons (Zw e4) (.cons (.int _) .nil))) (Vw ⟨by have:=h.1;simpa using this,λi v e=>h.2 (i+1) v e⟩)
theorem QU (qs:List (Rat×Int)):SeqAt.shaped (.list (qs.map ppD))=true:=by
 have k:PyData.canLayAll0 (qs.map ppD)=true/\PyData.depthAll (qs.map ppD)<=2:=by
  induction qs with
  | nil=>exact⟨rfl,Nat.zero_le _⟩
  | cons d ds ih =>
   refine⟨?_,?_⟩
   ·show (PyData.canLay0 (ppD d)&&_)=true
    rw[ih.1];rfl
   ·show max (PyData.depth (ppD d)) _<=2
    have:PyData.depth (ppD d)=2:=rfl
    have:=ih.2;omega
 have c1:PyData.canLay0 (.list (qs.map ppD))=true:=k.1
 have d1:PyData.depth (.list (qs.map ppD))<=3:=by show _+1<=3;have:=k.2;omega
 show (_&&decide (_<=64))=true
 rw[c1,decide_eq_true (by omega)];rfl
theorem zcX (K:PySem.W.Frag):PySem.W.kitOne K (.type "bool") (.type "bool")=some true:=by
 unfold PySem.W.kitOne;rw[if_pos (by decide +kernel)]
def Jo (K:PySem.W.Frag):Sp:=λvs H Q _=>∃(a:Addr) (ns:List Int),vs=[.ref a]/\SqL K H a (ns.map V.int)/\ns.length<=63/\∀H',Q (.bl true) H'
theorem vg:zx ["script","cell","pool","world","row","bounds","found","handed","turn","moment","paper","told"] ["script"] (zh s_law):=⟨rfl,rfl,rfl,by decide +kernel,rfl,by decide +kernel,by decide +kernel⟩
section
variable {P:Program}{w:World}{K:PySem.W.Frag}{mg:Str->Option Value}{base:Heap}{aN:Addr}
theorem zdi {fl:Addr}{fdl:FuncData}(F:Fun K "law" "law" s_law fl fdl) (T:TxB K mg) (TQ:TxQ K mg) (cD:Cal P w K mg base "_law_pool" 1 ["cell"] [] zcx) (cRr:Cal P w K mg base "_law_round_world" 5 ["pool"] [] zb8) (cRw:Cal P w K mg base "_law_row" 2 ["world"] [] zcy) (cBd:Cal P w K mg base "_law_bounds" 2 ["world"] [] zeP) (cRo:Cal P w K mg base "round_of" 9 ["row","walls"] [] Jp) (cLt:Cal P w K mg base "lets_round" 9 ["row","walls","moment","paper"] [] zdS)
  (cSp:Cal P w K mg base "_law_spoilt" 3 ["pool","world","moment","paper"] [] zcz) (cLL:Cal P w K mg base "_law_lets" 3 ["world","moment","paper"] [] zeV) :
  jD P w K mg base CX0 10 fl fdl ["script"] (Jo K):=by
 refine F.ok (k:=9) vg (λvs H Q E h=>by obtain⟨_,_,rfl,_⟩:=h;rfl) (λcdv A outer s H vs Q E hr9 h=>?_)
 obtain⟨a,ns,rfl,hS,hl,k⟩:=h
 have hr1:xj 1 _:=hr9.mono (by decide)
 have hr2:xj 2 _:=hr9.mono (by decide)
 have hr3:xj 3 _:=hr9.mono (by decide)
 have hr5:xj 5 _:=hr9.mono (by decide)
 have hu:=hr9.units
 refine⟨_,(zf (qj PassesOwn.never rfl (zP (zl Jc (qp (za zd ze)) (pv 0))) (zk (i:=1) vg.nd rfl (Or.inl rfl)) (zf (zA (i:=2) vg.nd rfl (Or.inl rfl) (zv cD hr1 (za (pv 1) ze)))
  (zf (zA (i:=3) vg.nd rfl (Or.inl rfl) (zv cRr hr5 (za (pv 2) ze)))
  (zf (vM (i:=4) (j:=5) rfl vg.nd rfl rfl (by decide) rfl rfl (za (zv cRw hr2 (za (pv 3) ze)) (za (zv cBd hr2 (za (pv 3) ze)) ze)) (by rfl))
  (zf (zA (i:=6) vg.nd rfl (Or.inl rfl) (zv cRo hr9 (za (pv 4) (za (pv 5) ze))))
  (zj (zV (zu Jd (pv 6) qh (zy _)) (zf (qj PassesOwn.never rfl (vL (zN (za (zE zH (pv 6) zd (λ_ _=>rfl)) (za (vp vI (by rfl) T.nTuple PyProof.Rows.boot_tuple (za (zE zH (pv 6) zd (λ_ _=>rfl)) ze)) ze)))) (zk (i:=7) vg.nd rfl (Or.inl rfl)) (zj (zV (zu JP (zv cLt hr9 (za (pv 4) (za (pv 5) (za (zE zH (pv 6) zd (λ_ _=>rfl)) (za (pv 7) ze))))) vF (zy _)) (zj (zD vF)) zF)))
  (zj (qj PassesOwn.never rfl (qM rfl T.nRange (za zd ze)) (zk (i:=8) vg.nd rfl (Or.inl rfl)) (zf (qi (zv cSp hr3 (za (pv 2) (za (pv 3) (za (zE zH (pv 6) zd (λ_ _=>rfl)) (za (zE zH (pv 6) zd (λ_ _=>rfl)) ze))))) (xP rfl (zm (zk (i:=9) vg.nd rfl (Or.inl rfl)) (zm (zk (i:=10) vg.nd rfl (Or.inl rfl)) zO))))
  (zf (zA (i:=7) vg.nd rfl (Or.inl rfl) (vp vY (by rfl) TQ.nList PyProof.Rows.boot_list (za (pv 10) ze)))
  (zf (zA (i:=11) vg.nd rfl (Or.inl rfl) (zv cLt hr9 (za (pv 4) (za (pv 5) (za (pv 9) (za (pv 7) ze))))))
  (zj (zV ((vU (vN (xL (zw vc (by rfl) T.nIs PyProof.Rows.boot_isinstance (za (pv 11) (za (jX (v:=.ty "bool") (u:=.type "bool") (by rfl) T.nBool (by decide +kernel) rfl) ze))) λ_=>rfl)) (vU (zu zcs (pv 11) (zv cLL hr3 (za (pv 3) (za (pv 9) (za (pv 10) ze)))) (zy _)) (vO (zu (Vv hu) (pv 7) (pv 10) (zy _)))))).pt (zj (zD vF)) zF)))))))) zF))))))) (zj (zD vF))),?_⟩
 refine⟨by show 1<=sizeLine;decide,λp0 hp0=>⟨_,rfl,p0,a,_,_,rfl,rfl,.of zg,(zi.upd hp0).seq hS,szl (by simp;omega),λp1 hp1=>?_⟩⟩
 have e1:upd (upd H p0 (.lst [.int 0])) p1 (.lst ([.int 0]++ns.map V.int)) p1=some (.lst ((0::ns).map V.int)):=zg
 generalize upd (upd H p0 (.lst [.int 0])) p1 (.lst ([.int 0]++ns.map V.int))=G1 at e1
 refine⟨p1,rfl,⟨_,SqL.of e1⟩,?_⟩
 refine vd (xs:=(0::ns).map V.int) (λi σ G=>zi G1 G/\∃y1 y2 y3 y4 y5 y6 y7 y8 y9 y10 y11,σ=[some (.ref a),y1,y2,y3,y4,y5,y6,y7,y8,y9,y10,y11]) ⟨zi.refl _,_,_,_,_,_,_,_,_,_,_,_,rfl⟩ (λi σ G _ ⟨s,_⟩=>SqL.of (s _ _ e1)) ?_ ?_
 ·rintro i y σ G hy ⟨SG,y1,y2,y3,y4,y5,y6,y7,y8,y9,y10,y11,rfl⟩
  obtain⟨c,rfl⟩:∃c:Int,y = .int c:=by
   rw[List.getElem?_map]at hy
   cases hc:(0::ns)[i]? with
   | none=>rw[hc]at hy;cases hy
   | some c=>rw[hc]at hy;cases hy;exact⟨c,rfl⟩
  dsimp only[zn]
  refine⟨_,rfl,c,rfl,λp G3 hp s3 hP=>?_⟩
  dsimp only[zn]
  refine⟨_,rfl,p,rfl,hP,λt Dw un be l far ys js wt G4 t4 ht hD hDp hG4 hPj z=>?_⟩
  dsimp only[zn]
  have nP:∀b o,G1 b=some o->b≠p:=λb o e q=>by
   have:=SG _ _ e;rw[q,hp]at this;cases this
  have S4:zi G1 G4:=λb o e=>t4.keep b o (s3 _ _ (SG _ _ e)) (nP b o e)
  have wo:Zj G4 t Dw un be (some l) (some (l+far)) js wt:=⟨ht,ys,hG4,hPj⟩
  have hP4:=t4.pool
  clear hG4 hPj ht t4 s3 hP hp hD hDp
  refine⟨_,rfl,t,Dw,un,be,_,_,js,wt,rfl,wo,z,λr us G5 s5 hr hrow=>?_⟩
  have wo5:Zj G5 t Dw un be (some l) (some (l+far)) js wt:=⟨s5 _ _ wo.tup,let ⟨ys,q1,q2⟩:=wo.lst;⟨ys,s5 _ _ q1,q2.tups (.of s5)⟩⟩
  refine⟨_,rfl,t,Dw,un,be,_,_,js,wt,rfl,wo5,z,λab v1 v2 G6 s6 ha w1 w2=>⟨_,_,rfl,?_⟩⟩
  dsimp only
  have wo6:Zj G6 t Dw un be (some l) (some (l+far)) js wt:=⟨s6 _ _ wo5.tup,let ⟨ys,q1,q2⟩:=wo5.lst;⟨ys,s6 _ _ q1,q2.tups (.of s6)⟩⟩
  have ln:Ln G6 r ab (js.map (blO un be wt)) (some (Rat.divInt l un,0)) (some (Rat.divInt (l+far) un,0)):=⟨⟨us,s6 _ _ hr,hrow.keeps (.of s6)⟩,⟨v1,v2,ha,w1,w2⟩,by rw[List.length_map];exact z.l1,by rw[List.length_map];exact z.l8⟩
  have S6:=S4.trans (s5.trans s6)
  have hP6:vn G6 p:=by obtain⟨i,j,k,e⟩:=hP4;exact⟨i,j,k,s6 _ _ (s5 _ _ e)⟩
  clear wo wo5 hr hrow ha w1 w2 s5 s6 S4 hP4
  have pj:=z.phj
  refine zdW (zaU rfl rfl ln z (λe G7 s7=>?_) (λne zz q l' us' kgs G7 s7 hk ro hl'=>?_))
  ·exact⟨_,rfl,rfl,_,rfl,xZ ⟨S6.trans s7,_,_,_,_,_,_,_,_,_,_,_,rfl⟩⟩
  refine⟨_,rfl,rfl,_,rfl,xY ?_⟩
  have kn:=z.kgn ne hk
  have l8:=kn.l8
  have lsz:=zav z kn
  have own:=zax z hk
  have kl:kgs.length=(phO l (2*far) js).length:=by have:=hk.pm.length_eq;simpa using this
  have ln7:=ln.same s7
  have wo7:Zj G7 t Dw un be (some l) (some (l+far)) js wt:=⟨s7 _ _ wo6.tup,let ⟨ys,q1,q2⟩:=wo6.lst;⟨ys,s7 _ _ q1,q2.tups (.of s7)⟩⟩
  have hlp:l'≠p:=hP6.ne hl'
  have hP7:vn G7 p:=by obtain⟨i,j,k,e⟩:=hP6;exact⟨i,j,k,s7 _ _ e⟩
  have S7:=S6.trans s7
  clear wo6 ln S6 hP6 s7 hl'
  have oql:(Qi be kgs).length<=9:=by unfold Qi;rw[List.length_map];omega
  have oqb:∀u∈Qi be kgs,Bd 200 u.2:=λu m=>by
   unfold Qi at m
   obtain⟨v,mv,rfl⟩:=List.mem_map.mp m
   have:=kn.pos v mv
   exact Bd.mono (m:=5) (show v.2.natAbs<2^5 by omega) (by decide)
  refine⟨_,rfl,zz,_,_,_,rfl,rfl,.of ro.z,at1 ..,_,rfl,zz,_,_,_,rfl,rfl,.of ro.z,at1 ..,l',us',rfl,.inl ⟨.of ro.l,λt1 ht1=>⟨by show 2<=sizeLine;decide,λt2 ht2=>⟨t2,rfl,⟨_,SqT.of zg⟩,?_⟩⟩⟩⟩
  have sA:=(zi.upd (o:=.tup us') ht1).trans (zi.upd (o:=.tup [.ref l',.ref t1]) ht2)
  have h1:upd (upd G7 t1 (.tup us')) t2 (.tup [.ref l',.ref t1]) t1=some (.tup us'):=zi.upd ht2 _ _ zg
  have h2:upd (upd G7 t1 (.tup us')) t2 (.tup [.ref l',.ref t1]) t2=some (.tup [.ref l',.ref t1]):=zg
  generalize upd (upd G7 t1 (.tup us')) t2 (.tup [.ref l',.ref t1])=G8 at sA h1 h2 ⊢
  have ro8:=ro.same sA
  have ln8:=ln7.same sA
  have wo8:Zj G8 t Dw un be (some l) (some (l+far)) js wt:=⟨sA _ _ wo7.tup,let ⟨ys,q1,q2⟩:=wo7.lst;⟨ys,sA _ _ q1,q2.tups (.of sA)⟩⟩
  have hP8:vn G8 p:=by obtain⟨i,j,k,e⟩:=hP7;exact⟨i,j,k,sA _ _ e⟩
  have S8:=S7.trans sA
  clear ro ln7 wo7 hP7 S7 sA ht1 ht2
  refine V0 (xs:=[.ref l',.ref t1]) (λi σ G=>zi G8 G/\∃y7 y8 y9 y10 y11,σ=[some (.ref a),some (.int c),some (.ref p),some (.ref t),some (.ref r),some (.ref ab),some (.ref zz),y7,y8,y9,y10,y11]) ⟨zi.refl _,_,_,_,_,_,rfl⟩ (λi σ G _ ⟨s,_⟩=>SqT.of (s _ _ h2)) ?_ ?_
  ·rintro i v σ G9 hv ⟨sG,y7,y8,y9,y10,y11,rfl⟩
   obtain⟨pp,rfl,lt⟩:∃pp,v = .ref pp/\LoT G8 pp us':=by
    match i,hv with
    | 0,hv=>cases hv;exact⟨_,rfl,.inl ro8.l⟩
    | 1,hv=>cases hv;exact⟨_,rfl,.inr h1⟩
   have ro9:=ro8.same sG
   dsimp only[zn]
   refine⟨_,rfl,_,rfl,_,rfl,zz,_,_,_,rfl,rfl,.of ro9.z,at0 ..,_,rfl,?_⟩
   dsimp only[ju]
   refine zcq (ln8.same sG) z ne (lt.same sG) ro9.pc.pap oql oqb ro9.q λG10 s10=>⟨_,_,rfl,rfl,_,rfl,?_⟩
   rw[own]
   exact xZ ⟨sG.trans s10,_,_,_,_,_,rfl⟩
  rintro σ G9 ⟨sG,y7,y8,y9,y10,y11,rfl⟩
  have ro9:=ro8.same sG
  have ln9:=ln8.same sG
  have wo9:Zj G9 t Dw un be (some l) (some (l+far)) js wt:=⟨sG _ _ wo8.tup,let ⟨ys,q1,q2⟩:=wo8.lst;⟨ys,sG _ _ q1,q2.tups (.of sG)⟩⟩
  have hP9:vn G9 p:=by obtain⟨i,j,k,e⟩:=hP8;exact⟨i,j,k,sG _ _ e⟩
  have S9:=S8.trans sG
  clear ro8 ln8 wo8 hP8 S8 sG h1 h2
  obtain⟨ys,hys,hPj⟩:=wo9.lst
  have hDb:Dw≠p:=by
   have h1:=z.l1
   have h2:=hPj.1
   obtain⟨_,_,_,e2,_⟩:=hPj.2 0 _ (List.getElem?_eq_getElem (by omega))
   exact Zx hP9 hys (by rw[List.getElem?_eq_getElem (by omega),e2])
  have wos:∀{G:Hp},zS p G9 G->Zj G t Dw un be (some l) (some (l+far)) js wt:=λ{G} s=>⟨s.tup hP9 wo9.tup,ys,s.keep _ _ hys hDb,hPj.tups (xn hP9 s)⟩
  have ros:∀{G:Hp},zS p G9 G->RoT G zz q l' us' un be far kgs:=λ{G} s=>⟨s.tup hP9 ro9.z,s.rat hP9 ro9.q,s.keep _ _ ro9.l hlp,ro9.pc.tups (xn hP9 s)⟩
  have lns:∀{G:Hp},zS p G9 G->Ln G r ab (js.map (blO un be wt)) (some (Rat.divInt l un,0)) (some (Rat.divInt (l+far) un,0)):=λ{G} s=>ln9.tups (xn hP9 s)
  refine⟨_,rfl,by decide,by decide,?_⟩
  refine vS (n:=(4:Int).toNat) (lo:=0) (λi σ G=>zS p G9 G/\∃y7 y8 y9 y10 y11,σ=[some (.ref a),some (.int c),some (.ref p),some (.ref t),some (.ref r),some (.ref ab),some (.ref zz),y7,y8,y9,y10,y11]) ⟨zS.refl hP9,_,_,_,_,_,rfl⟩ ?_ ?_
  ·rintro i σ G10 hi ⟨st,y7,y8,y9,y10,y11,rfl⟩
   have ro10:=ros st
   dsimp only[zn]
   refine⟨_,rfl,_,rfl,_,rfl,zz,_,_,_,rfl,rfl,.of ro10.z,at0 ..,_,rfl,zz,_,_,_,rfl,rfl,.of ro10.z,at1 ..,p,t,Dw,un,be,l,far,js,wt,q,l',us',kgs,_,rfl,st.pool,wos st,z,kn,kl,ro10.l,ro10.pc,ro10.q,lsz,λrr mr D us2 qs2 Y G11 st2 hD hDp hrr hD2 pap2 q9 qb hY=>?_⟩
   have st11:=st.trans st2
   refine⟨rr,_,rfl,.of hrr,rfl,_,_,rfl,_,_,rfl,rfl,?_⟩
   dsimp only[zn]
   refine⟨_,rfl,D,us2,rfl,.inl (SqL.of hD2),λDh hDh=>?_⟩
   dsimp only[zn]
   have sH:=zi.upd (o:=.lst us2) hDh
   have hH:upd G11 Dh (.lst us2) Dh=some (.lst us2):=zg
   generalize upd G11 Dh (.lst us2)=G12 at sH hH
   have st12:=st11.same sH
   refine⟨_,rfl,_,rfl,_,rfl,_,rfl,?_⟩
   dsimp only[ju]
   refine zcq (lns st12) z ne (.inl hH) (pap2.same sH) q9 qb (sH _ _ hY) λG13 s13=>?_
   dsimp only[zn]
   have st13:=st12.same s13
   have s113:=sH.trans s13
   refine⟨_,rfl,_,_,_,true,rfl,.bl _,zcX _,_,rfl,xZ ⟨_,rfl,_,rfl,_,rfl,_,rfl,t,Dw,un,be,l,far,js,wt,mr,D,us2,qs2,Y,rfl,wos st13,z,ne,s113 _ _ hD2,pap2.same s113,q9,qb,s113 _ _ hY,λG14 s14=>⟨rfl,_,rfl,?_⟩⟩⟩
   rw[decide_eq_true rfl]
   have s114:=s113.trans s14
   exact xZ ⟨_,rfl,_,rfl,zbJ (.lst (s14 _ _ (s13 _ _ hH)) (Vw (pap2.same s114))) (.lst (s114 _ _ hD2) (Vw (pap2.same s114))) (QU _) ⟨_,rfl,xZ ⟨st13.same s14,_,_,_,_,_,rfl⟩⟩⟩
  ·rintro σ G10 ⟨st,y7,y8,y9,y10,y11,rfl⟩
   exact⟨λb o e=>st.keep b o (S9 _ _ e) (nP b o e),_,_,_,_,_,_,_,_,_,_,_,rfl⟩
 ·rintro σ G _
  exact k _
end
end KK
end
set_option linter.all false
def PySem.W.Fast.tw5286571804136437053:Nat:=0
def PySem.W.Fast.tw2914149191799020851:Nat:=0
def PySem.W.Fast.tw14777681753845567020:Nat:=0
def PySem.W.Fast.tw15143962126113153870:Nat:=0
def PySem.W.Fast.tw5690326621950325008:Nat:=0
def PySem.W.Fast.tw6258099485245845705:Nat:=0
def PySem.W.Fast.tw10545013158029886172:Nat:=0
def PySem.W.Fast.tw10451241026820935675:Nat:=0
def PySem.W.Fast.tw14321241125762203734:Nat:=0
def PySem.W.Fast.tw16776606809734196708:Nat:=0
def PySem.W.Fast.tw17879116283974305454:Nat:=0
def PySem.W.Fast.tw8815565341462233455:Nat:=0
def PySem.W.Fast.tw16929498371462748428:Nat:=0
def PySem.W.Fast.tw15307048181704777664:Nat:=0
def PySem.W.Fast.tw13803195824916692793:Nat:=0
def PySem.W.Fast.tw4213598164968008618:Nat:=0
def PySem.W.Fast.tw13794103750248783731:Nat:=0
def PySem.W.Fast.tw16101090964237296539:Nat:=0
def PySem.W.Fast.tw10808150447262773684:Nat:=0
def PySem.W.Fast.tw5659107135429003263:Nat:=0
def PySem.W.Fast.tw12353046257139559306:Nat:=0
def PySem.W.Fast.tw15335867006741120913:Nat:=0
def PySem.W.Fast.tw11710811960597380211:Nat:=0
def PySem.W.Fast.tw9503986718495840368:Nat:=0
def PySem.W.Fast.tw12902858862110641207:Nat:=0
def PySem.W.Fast.tw182055789487153155:Nat:=0
section
set_option maxHeartbeats 8000000
set_option Elab.async false
set_option linter.all false
set_option maxRecDepth 100000
namespace KK
open PySem L2 KM
theorem zcZ (K:PySem.W.Frag):PySem.W.kitOne K (.type "int") (.type "int")=some true:=by
 unfold PySem.W.kitOne;rw[if_pos (by decide +kernel)]
theorem zcY (K:PySem.W.Frag):PySem.W.kitOne K (.type "int") (.type "bool")=some false:=by
 with_unfolding_all rfl
theorem zc0 (K:PySem.W.Frag):PySem.W.kitOne K (.type "tuple") (.type "tuple")=some true:=by
 unfold PySem.W.kitOne;rw[if_pos (by decide +kernel)]
theorem zcG {l:PySem.W.OpenLaw}{w:World}{K:PySem.W.Frag}{h:Heap}{mg:Str->Option Value}{fa:Addr}(X:K.In h) (G:h.Ns mainGlobals mg) (hfa:mg "law" = some (.ref fa))
  {f0:Addr}{od0 an0:Option Addr}{sl0:Array (Option Value)}{oc0 kV0 dc0 pm0 cd0 ct0:Value}
  (a0:PySem.W.nsIn K mainGlobals "is_whole" = some (some (.ref f0))) (l0:K.lookup f0=some ⟨oc0,od0,.func (PySem.W.fnOf "is_whole" "is_whole" (zr qS) (zq qS) (zh qS) .none kV0 dc0 pm0 an0 cd0 ct0),sl0⟩) (c0:PySem.W.codeIn K cd0 "is_whole" = true) (k0:PySem.W.keepIn K (.ref f0)=true)
  {f1:Addr}{od1 an1:Option Addr}{sl1:Array (Option Value)}{oc1 kV1 dc1 pm1 cd1 ct1:Value}
  (a1:PySem.W.nsIn K mainGlobals "is_tuple" = some (some (.ref f1))) (l1:K.lookup f1=some ⟨oc1,od1,.func (PySem.W.fnOf "is_tuple" "is_tuple" (zr qR) (zq qR) (zh qR) .none kV1 dc1 pm1 an1 cd1 ct1),sl1⟩) (c1:PySem.W.codeIn K cd1 "is_tuple" = true) (k1:PySem.W.keepIn K (.ref f1)=true)
  {f2:Addr}{od2 an2:Option Addr}{sl2:Array (Option Value)}{oc2 kV2 dc2 pm2 cd2 ct2:Value}
  (a2:PySem.W.nsIn K mainGlobals "greatest_divisor" = some (some (.ref f2))) (l2:K.lookup f2=some ⟨oc2,od2,.func (PySem.W.fnOf "greatest_divisor" "greatest_divisor" (zr xf) (zq xf) (zh xf) .none kV2 dc2 pm2 an2 cd2 ct2),sl2⟩) (c2:PySem.W.codeIn K cd2 "greatest_divisor" = true) (k2:PySem.W.keepIn K (.ref f2)=true)
  {f3:Addr}{od3 an3:Option Addr}{sl3:Array (Option Value)}{oc3 kV3 dc3 pm3 cd3 ct3:Value}
  (a3:PySem.W.nsIn K mainGlobals "is_ratio" = some (some (.ref f3))) (l3:K.lookup f3=some ⟨oc3,od3,.func (PySem.W.fnOf "is_ratio" "is_ratio" (zr qP) (zq qP) (zh qP) .none kV3 dc3 pm3 an3 cd3 ct3),sl3⟩) (c3:PySem.W.codeIn K cd3 "is_ratio" = true) (k3:PySem.W.keepIn K (.ref f3)=true)
  {f4:Addr}{od4 an4:Option Addr}{sl4:Array (Option Value)}{oc4 kV4 dc4 pm4 cd4 ct4:Value}{Td4:Addr}{ocd4:Value}{odd4:Option Addr}{tkd4:Tok}{nd4:Nat}{sld4:Array (Option Value)}
  (a4:PySem.W.nsIn K mainGlobals "ratio" = some (some (.ref f4))) (l4:K.lookup f4=some ⟨oc4,od4,.func (PySem.W.fnOf "ratio" "ratio" (zr v9) (zq v9) (zh v9) (.ref Td4) kV4 dc4 pm4 an4 cd4 ct4),sl4⟩) (c4:PySem.W.codeIn K cd4 "ratio" = true) (k4:PySem.W.keepIn K (.ref f4)=true)
  (ld4:K.lookup Td4=some ⟨ocd4,odd4,.seq #[.int 1 tkd4] nd4,sld4⟩)
  {f5:Addr}{od5 an5:Option Addr}{sl5:Array (Option Value)}{oc5 kV5 dc5 pm5 cd5 ct5:Value}
  (a5:PySem.W.nsIn K mainGlobals "least_multiple" = some (some (.ref f5))) (l5:K.lookup f5=some ⟨oc5,od5,.func (PySem.W.fnOf "least_multiple" "least_multiple" (zr xw) (zq xw) (zh xw) .none kV5 dc5 pm5 an5 cd5 ct5),sl5⟩) (c5:PySem.W.codeIn K cd5 "least_multiple" = true) (k5:PySem.W.keepIn K (.ref f5)=true)
  {f6:Addr}{od6 an6:Option Addr}{sl6:Array (Option Value)}{oc6 kV6 dc6 pm6 cd6 ct6:Value}
  (a6:PySem.W.nsIn K mainGlobals "common_bottom" = some (some (.ref f6))) (l6:K.lookup f6=some ⟨oc6,od6,.func (PySem.W.fnOf "common_bottom" "common_bottom" (zr xD) (zq xD) (zh xD) .none kV6 dc6 pm6 an6 cd6 ct6),sl6⟩) (c6:PySem.W.codeIn K cd6 "common_bottom" = true) (k6:PySem.W.keepIn K (.ref f6)=true)
  {f7:Addr}{od7 an7:Option Addr}{sl7:Array (Option Value)}{oc7 kV7 dc7 pm7 cd7 ct7:Value}
  (a7:PySem.W.nsIn K mainGlobals "track_of" = some (some (.ref f7))) (l7:K.lookup f7=some ⟨oc7,od7,.func (PySem.W.fnOf "track_of" "track_of" (zr qZ) (zq qZ) (zh qZ) .none kV7 dc7 pm7 an7 cd7 ct7),sl7⟩) (c7:PySem.W.codeIn K cd7 "track_of" = true) (k7:PySem.W.keepIn K (.ref f7)=true)
  {f8:Addr}{od8 an8:Option Addr}{sl8:Array (Option Value)}{oc8 kV8 dc8 pm8 cd8 ct8:Value}
  (a8:PySem.W.nsIn K mainGlobals "moment_of" = some (some (.ref f8))) (l8:K.lookup f8=some ⟨oc8,od8,.func (PySem.W.fnOf "moment_of" "moment_of" (zr qx) (zq qx) (zh qx) .none kV8 dc8 pm8 an8 cd8 ct8),sl8⟩) (c8:PySem.W.codeIn K cd8 "moment_of" = true) (k8:PySem.W.keepIn K (.ref f8)=true)
  {f9:Addr}{od9 an9:Option Addr}{sl9:Array (Option Value)}{oc9 kV9 dc9 pm9 cd9 ct9:Value}
  (a9:PySem.W.nsIn K mainGlobals "is_wall" = some (some (.ref f9))) (l9:K.lookup f9=some ⟨oc9,od9,.func (PySem.W.fnOf "is_wall" "is_wall" (zr vv) (zq vv) (zh vv) .none kV9 dc9 pm9 an9 cd9 ct9),sl9⟩) (c9:PySem.W.codeIn K cd9 "is_wall" = true) (k9:PySem.W.keepIn K (.ref f9)=true)
  {f10:Addr}{od10 an10:Option Addr}{sl10:Array (Option Value)}{oc10 kV10 dc10 pm10 cd10 ct10:Value}
  (a10:PySem.W.nsIn K mainGlobals "is_wall_pair" = some (some (.ref f10))) (l10:K.lookup f10=some ⟨oc10,od10,.func (PySem.W.fnOf "is_wall_pair" "is_wall_pair" (zr xR) (zq xR) (zh xR) .none kV10 dc10 pm10 an10 cd10 ct10),sl10⟩) (c10:PySem.W.codeIn K cd10 "is_wall_pair" = true) (k10:PySem.W.keepIn K (.ref f10)=true)
  {f11:Addr}{od11 an11:Option Addr}{sl11:Array (Option Value)}{oc11 kV11 dc11 pm11 cd11 ct11:Value}
  (a11:PySem.W.nsIn K mainGlobals "is_ball_form" = some (some (.ref f11))) (l11:K.lookup f11=some ⟨oc11,od11,.func (PySem.W.fnOf "is_ball_form" "is_ball_form" (zr xQ) (zq xQ) (zh xQ) .none kV11 dc11 pm11 an11 cd11 ct11),sl11⟩) (c11:PySem.W.codeIn K cd11 "is_ball_form" = true) (k11:PySem.W.keepIn K (.ref f11)=true)
  {f12:Addr}{od12 an12:Option Addr}{sl12:Array (Option Value)}{oc12 kV12 dc12 pm12 cd12 ct12:Value}
  (a12:PySem.W.nsIn K mainGlobals "is_row_form" = some (some (.ref f12))) (l12:K.lookup f12=some ⟨oc12,od12,.func (PySem.W.fnOf "is_row_form" "is_row_form" (zr xU) (zq xU) (zh xU) .none kV12 dc12 pm12 an12 cd12 ct12),sl12⟩) (c12:PySem.W.codeIn K cd12 "is_row_form" = true) (k12:PySem.W.keepIn K (.ref f12)=true)
  {f13:Addr}{od13 an13:Option Addr}{sl13:Array (Option Value)}{oc13 kV13 dc13 pm13 cd13 ct13:Value}
  (a13:PySem.W.nsIn K mainGlobals "is_even" = some (some (.ref f13))) (l13:K.lookup f13=some ⟨oc13,od13,.func (PySem.W.fnOf "is_even" "is_even" (zr vt) (zq vt) (zh vt) .none kV13 dc13 pm13 an13 cd13 ct13),sl13⟩) (c13:PySem.W.codeIn K cd13 "is_even" = true) (k13:PySem.W.keepIn K (.ref f13)=true)
  {f14:Addr}{od14 an14:Option Addr}{sl14:Array (Option Value)}{oc14 kV14 dc14 pm14 cd14 ct14:Value}
  (a14:PySem.W.nsIn K mainGlobals "is_still" = some (some (.ref f14))) (l14:K.lookup f14=some ⟨oc14,od14,.func (PySem.W.fnOf "is_still" "is_still" (zr qQ) (zq qQ) (zh qQ) .none kV14 dc14 pm14 an14 cd14 ct14),sl14⟩) (c14:PySem.W.codeIn K cd14 "is_still" = true) (k14:PySem.W.keepIn K (.ref f14)=true)
  {f15:Addr}{od15 an15:Option Addr}{sl15:Array (Option Value)}{oc15 kV15 dc15 pm15 cd15 ct15:Value}
  (a15:PySem.W.nsIn K mainGlobals "is_plain" = some (some (.ref f15))) (l15:K.lookup f15=some ⟨oc15,od15,.func (PySem.W.fnOf "is_plain" "is_plain" (zr qO) (zq qO) (zh qO) .none kV15 dc15 pm15 an15 cd15 ct15),sl15⟩) (c15:PySem.W.codeIn K cd15 "is_plain" = true) (k15:PySem.W.keepIn K (.ref f15)=true)
  {f16:Addr}{od16 an16:Option Addr}{sl16:Array (Option Value)}{oc16 kV16 dc16 pm16 cd16 ct16:Value}
  (a16:PySem.W.nsIn K mainGlobals "refuse_uneven" = some (some (.ref f16))) (l16:K.lookup f16=some ⟨oc16,od16,.func (PySem.W.fnOf "refuse_uneven" "refuse_uneven" (zr xG) (zq xG) (zh xG) .none kV16 dc16 pm16 an16 cd16 ct16),sl16⟩) (c16:PySem.W.codeIn K cd16 "refuse_uneven" = true) (k16:PySem.W.keepIn K (.ref f16)=true)
  {f17:Addr}{od17 an17:Option Addr}{sl17:Array (Option Value)}{oc17 kV17 dc17 pm17 cd17 ct17:Value}
  (a17:PySem.W.nsIn K mainGlobals "refuse_no_box" = some (some (.ref f17))) (l17:K.lookup f17=some ⟨oc17,od17,.func (PySem.W.fnOf "refuse_no_box" "refuse_no_box" (zr xF) (zq xF) (zh xF) .none kV17 dc17 pm17 an17 cd17 ct17),sl17⟩) (c17:PySem.W.codeIn K cd17 "refuse_no_box" = true) (k17:PySem.W.keepIn K (.ref f17)=true)
  {f18:Addr}{od18 an18:Option Addr}{sl18:Array (Option Value)}{oc18 kV18 dc18 pm18 cd18 ct18:Value}
  (a18:PySem.W.nsIn K mainGlobals "trip_of" = some (some (.ref f18))) (l18:K.lookup f18=some ⟨oc18,od18,.func (PySem.W.fnOf "trip_of" "trip_of" (zr vx) (zq vx) (zh vx) .none kV18 dc18 pm18 an18 cd18 ct18),sl18⟩) (c18:PySem.W.codeIn K cd18 "trip_of" = true) (k18:PySem.W.keepIn K (.ref f18)=true)
  {f19:Addr}{od19 an19:Option Addr}{sl19:Array (Option Value)}{oc19 kV19 dc19 pm19 cd19 ct19:Value}
  (a19:PySem.W.nsIn K mainGlobals "phases_of" = some (some (.ref f19))) (l19:K.lookup f19=some ⟨oc19,od19,.func (PySem.W.fnOf "phases_of" "phases_of" (zr qy) (zq qy) (zh qy) .none kV19 dc19 pm19 an19 cd19 ct19),sl19⟩) (c19:PySem.W.codeIn K cd19 "phases_of" = true) (k19:PySem.W.keepIn K (.ref f19)=true)
  {f20:Addr}{od20 an20:Option Addr}{sl20:Array (Option Value)}{oc20 kV20 dc20 pm20 cd20 ct20:Value}
  (a20:PySem.W.nsIn K mainGlobals "comes_again" = some (some (.ref f20))) (l20:K.lookup f20=some ⟨oc20,od20,.func (PySem.W.fnOf "comes_again" "comes_again" (zr xS) (zq xS) (zh xS) .none kV20 dc20 pm20 an20 cd20 ct20),sl20⟩) (c20:PySem.W.codeIn K cd20 "comes_again" = true) (k20:PySem.W.keepIn K (.ref f20)=true)
  {f21:Addr}{od21 an21:Option Addr}{sl21:Array (Option Value)}{oc21 kV21 dc21 pm21 cd21 ct21:Value}
  (a21:PySem.W.nsIn K mainGlobals "greatest_many" = some (some (.ref f21))) (l21:K.lookup f21=some ⟨oc21,od21,.func (PySem.W.fnOf "greatest_many" "greatest_many" (zr xE) (zq xE) (zh xE) .none kV21 dc21 pm21 an21 cd21 ct21),sl21⟩) (c21:PySem.W.codeIn K cd21 "greatest_many" = true) (k21:PySem.W.keepIn K (.ref f21)=true)
  {f22:Addr}{od22 an22:Option Addr}{sl22:Array (Option Value)}{oc22 kV22 dc22 pm22 cd22 ct22:Value}
  (a22:PySem.W.nsIn K mainGlobals "is_greatest_many" = some (some (.ref f22))) (l22:K.lookup f22=some ⟨oc22,od22,.func (PySem.W.fnOf "is_greatest_many" "is_greatest_many" (zr xg) (zq xg) (zh xg) .none kV22 dc22 pm22 an22 cd22 ct22),sl22⟩) (c22:PySem.W.codeIn K cd22 "is_greatest_many" = true) (k22:PySem.W.keepIn K (.ref f22)=true)
  {f23:Addr}{od23 an23:Option Addr}{sl23:Array (Option Value)}{oc23 kV23 dc23 pm23 cd23 ct23:Value}
  (a23:PySem.W.nsIn K mainGlobals "least_round" = some (some (.ref f23))) (l23:K.lookup f23=some ⟨oc23,od23,.func (PySem.W.fnOf "least_round" "least_round" (zr xX) (zq xX) (zh xX) .none kV23 dc23 pm23 an23 cd23 ct23),sl23⟩) (c23:PySem.W.codeIn K cd23 "least_round" = true) (k23:PySem.W.keepIn K (.ref f23)=true)
  {f24:Addr}{od24 an24:Option Addr}{sl24:Array (Option Value)}{oc24 kV24 dc24 pm24 cd24 ct24:Value}
  (a24:PySem.W.nsIn K mainGlobals "round_of" = some (some (.ref f24))) (l24:K.lookup f24=some ⟨oc24,od24,.func (PySem.W.fnOf "round_of" "round_of" (zr qY) (zq qY) (zh qY) .none kV24 dc24 pm24 an24 cd24 ct24),sl24⟩) (c24:PySem.W.codeIn K cd24 "round_of" = true) (k24:PySem.W.keepIn K (.ref f24)=true)
  {f25:Addr}{od25 an25:Option Addr}{sl25:Array (Option Value)}{oc25 kV25 dc25 pm25 cd25 ct25:Value}
  (a25:PySem.W.nsIn K mainGlobals "lets_round" = some (some (.ref f25))) (l25:K.lookup f25=some ⟨oc25,od25,.func (PySem.W.fnOf "lets_round" "lets_round" (zr qf) (zq qf) (zh qf) .none kV25 dc25 pm25 an25 cd25 ct25),sl25⟩) (c25:PySem.W.codeIn K cd25 "lets_round" = true) (k25:PySem.W.keepIn K (.ref f25)=true)
  {f26:Addr}{od26 an26:Option Addr}{sl26:Array (Option Value)}{oc26 kV26 dc26 pm26 cd26 ct26:Value}
  (a26:PySem.W.nsIn K mainGlobals "_law_pool" = some (some (.ref f26))) (l26:K.lookup f26=some ⟨oc26,od26,.func (PySem.W.fnOf "_law_pool" "_law_pool" (zr qW) (zq qW) (zh qW) .none kV26 dc26 pm26 an26 cd26 ct26),sl26⟩) (c26:PySem.W.codeIn K cd26 "_law_pool" = true) (k26:PySem.W.keepIn K (.ref f26)=true)
  {f27:Addr}{od27 an27:Option Addr}{sl27:Array (Option Value)}{oc27 kV27 dc27 pm27 cd27 ct27:Value}
  (a27:PySem.W.nsIn K mainGlobals "_law_next" = some (some (.ref f27))) (l27:K.lookup f27=some ⟨oc27,od27,.func (PySem.W.fnOf "_law_next" "_law_next" (zr qU) (zq qU) (zh qU) .none kV27 dc27 pm27 an27 cd27 ct27),sl27⟩) (c27:PySem.W.codeIn K cd27 "_law_next" = true) (k27:PySem.W.keepIn K (.ref f27)=true)
  {f28:Addr}{od28 an28:Option Addr}{sl28:Array (Option Value)}{oc28 kV28 dc28 pm28 cd28 ct28:Value}
  (a28:PySem.W.nsIn K mainGlobals "_law_wide" = some (some (.ref f28))) (l28:K.lookup f28=some ⟨oc28,od28,.func (PySem.W.fnOf "_law_wide" "_law_wide" (zr qX) (zq qX) (zh qX) .none kV28 dc28 pm28 an28 cd28 ct28),sl28⟩) (c28:PySem.W.codeIn K cd28 "_law_wide" = true) (k28:PySem.W.keepIn K (.ref f28)=true)
  {f29:Addr}{od29 an29:Option Addr}{sl29:Array (Option Value)}{oc29 kV29 dc29 pm29 cd29 ct29:Value}
  (a29:PySem.W.nsIn K mainGlobals "_law_lowest" = some (some (.ref f29))) (l29:K.lookup f29=some ⟨oc29,od29,.func (PySem.W.fnOf "_law_lowest" "_law_lowest" (zr x9) (zq x9) (zh x9) .none kV29 dc29 pm29 an29 cd29 ct29),sl29⟩) (c29:PySem.W.codeIn K cd29 "_law_lowest" = true) (k29:PySem.W.keepIn K (.ref f29)=true)
  {f30:Addr}{od30 an30:Option Addr}{sl30:Array (Option Value)}{oc30 kV30 dc30 pm30 cd30 ct30:Value}
  (a30:PySem.W.nsIn K mainGlobals "_law_settled" = some (some (.ref f30))) (l30:K.lookup f30=some ⟨oc30,od30,.func (PySem.W.fnOf "_law_settled" "_law_settled" (zr xV) (zq xV) (zh xV) .none kV30 dc30 pm30 an30 cd30 ct30),sl30⟩) (c30:PySem.W.codeIn K cd30 "_law_settled" = true) (k30:PySem.W.keepIn K (.ref f30)=true)
  {f31:Addr}{od31 an31:Option Addr}{sl31:Array (Option Value)}{oc31 kV31 dc31 pm31 cd31 ct31:Value}
  (a31:PySem.W.nsIn K mainGlobals "_law_speeds_drawn" = some (some (.ref f31))) (l31:K.lookup f31=some ⟨oc31,od31,.func (PySem.W.fnOf "_law_speeds_drawn" "_law_speeds_drawn" (zr xh) (zq xh) (zh xh) .none kV31 dc31 pm31 an31 cd31 ct31),sl31⟩) (c31:PySem.W.codeIn K cd31 "_law_speeds_drawn" = true) (k31:PySem.W.keepIn K (.ref f31)=true)
  {f32:Addr}{od32 an32:Option Addr}{sl32:Array (Option Value)}{oc32 kV32 dc32 pm32 cd32 ct32:Value}
  (a32:PySem.W.nsIn K mainGlobals "_law_through" = some (some (.ref f32))) (l32:K.lookup f32=some ⟨oc32,od32,.func (PySem.W.fnOf "_law_through" "_law_through" (zr xW) (zq xW) (zh xW) .none kV32 dc32 pm32 an32 cd32 ct32),sl32⟩) (c32:PySem.W.codeIn K cd32 "_law_through" = true) (k32:PySem.W.keepIn K (.ref f32)=true)
  {f33:Addr}{od33 an33:Option Addr}{sl33:Array (Option Value)}{oc33 kV33 dc33 pm33 cd33 ct33:Value}
  (a33:PySem.W.nsIn K mainGlobals "_law_world" = some (some (.ref f33))) (l33:K.lookup f33=some ⟨oc33,od33,.func (PySem.W.fnOf "_law_world" "_law_world" (zr qw) (zq qw) (zh qw) .none kV33 dc33 pm33 an33 cd33 ct33),sl33⟩) (c33:PySem.W.codeIn K cd33 "_law_world" = true) (k33:PySem.W.keepIn K (.ref f33)=true)
  {f34:Addr}{od34 an34:Option Addr}{sl34:Array (Option Value)}{oc34 kV34 dc34 pm34 cd34 ct34:Value}
  (a34:PySem.W.nsIn K mainGlobals "_law_row" = some (some (.ref f34))) (l34:K.lookup f34=some ⟨oc34,od34,.func (PySem.W.fnOf "_law_row" "_law_row" (zr vw) (zq vw) (zh vw) .none kV34 dc34 pm34 an34 cd34 ct34),sl34⟩) (c34:PySem.W.codeIn K cd34 "_law_row" = true) (k34:PySem.W.keepIn K (.ref f34)=true)
  {f35:Addr}{od35 an35:Option Addr}{sl35:Array (Option Value)}{oc35 kV35 dc35 pm35 cd35 ct35:Value}
  (a35:PySem.W.nsIn K mainGlobals "_law_phases" = some (some (.ref f35))) (l35:K.lookup f35=some ⟨oc35,od35,.func (PySem.W.fnOf "_law_phases" "_law_phases" (zr qa) (zq qa) (zh qa) .none kV35 dc35 pm35 an35 cd35 ct35),sl35⟩) (c35:PySem.W.codeIn K cd35 "_law_phases" = true) (k35:PySem.W.keepIn K (.ref f35)=true)
  {f36:Addr}{od36 an36:Option Addr}{sl36:Array (Option Value)}{oc36 kV36 dc36 pm36 cd36 ct36:Value}
  (a36:PySem.W.nsIn K mainGlobals "_law_stays" = some (some (.ref f36))) (l36:K.lookup f36=some ⟨oc36,od36,.func (PySem.W.fnOf "_law_stays" "_law_stays" (zr qv) (zq qv) (zh qv) .none kV36 dc36 pm36 an36 cd36 ct36),sl36⟩) (c36:PySem.W.codeIn K cd36 "_law_stays" = true) (k36:PySem.W.keepIn K (.ref f36)=true)
  {f37:Addr}{od37 an37:Option Addr}{sl37:Array (Option Value)}{oc37 kV37 dc37 pm37 cd37 ct37:Value}
  (a37:PySem.W.nsIn K mainGlobals "_law_part" = some (some (.ref f37))) (l37:K.lookup f37=some ⟨oc37,od37,.func (PySem.W.fnOf "_law_part" "_law_part" (zr qV) (zq qV) (zh qV) .none kV37 dc37 pm37 an37 cd37 ct37),sl37⟩) (c37:PySem.W.codeIn K cd37 "_law_part" = true) (k37:PySem.W.keepIn K (.ref f37)=true)
  {f38:Addr}{od38 an38:Option Addr}{sl38:Array (Option Value)}{oc38 kV38 dc38 pm38 cd38 ct38:Value}
  (a38:PySem.W.nsIn K mainGlobals "_law_ring_world" = some (some (.ref f38))) (l38:K.lookup f38=some ⟨oc38,od38,.func (PySem.W.fnOf "_law_ring_world" "_law_ring_world" (zr xu) (zq xu) (zh xu) .none kV38 dc38 pm38 an38 cd38 ct38),sl38⟩) (c38:PySem.W.codeIn K cd38 "_law_ring_world" = true) (k38:PySem.W.keepIn K (.ref f38)=true)
  {f39:Addr}{od39 an39:Option Addr}{sl39:Array (Option Value)}{oc39 kV39 dc39 pm39 cd39 ct39:Value}
  (a39:PySem.W.nsIn K mainGlobals "_law_round_world" = some (some (.ref f39))) (l39:K.lookup f39=some ⟨oc39,od39,.func (PySem.W.fnOf "_law_round_world" "_law_round_world" (zr xm) (zq xm) (zh xm) .none kV39 dc39 pm39 an39 cd39 ct39),sl39⟩) (c39:PySem.W.codeIn K cd39 "_law_round_world" = true) (k39:PySem.W.keepIn K (.ref f39)=true)
  {f40:Addr}{od40 an40:Option Addr}{sl40:Array (Option Value)}{oc40 kV40 dc40 pm40 cd40 ct40:Value}
  (a40:PySem.W.nsIn K mainGlobals "_law_spoilt" = some (some (.ref f40))) (l40:K.lookup f40=some ⟨oc40,od40,.func (PySem.W.fnOf "_law_spoilt" "_law_spoilt" (zr qe) (zq qe) (zh qe) .none kV40 dc40 pm40 an40 cd40 ct40),sl40⟩) (c40:PySem.W.codeIn K cd40 "_law_spoilt" = true) (k40:PySem.W.keepIn K (.ref f40)=true)
  {f41:Addr}{od41 an41:Option Addr}{sl41:Array (Option Value)}{oc41 kV41 dc41 pm41 cd41 ct41:Value}
  (a41:PySem.W.nsIn K mainGlobals "_law_lets" = some (some (.ref f41))) (l41:K.lookup f41=some ⟨oc41,od41,.func (PySem.W.fnOf "_law_lets" "_law_lets" (zr qT) (zq qT) (zh qT) .none kV41 dc41 pm41 an41 cd41 ct41),sl41⟩) (c41:PySem.W.codeIn K cd41 "_law_lets" = true) (k41:PySem.W.keepIn K (.ref f41)=true)
  {f42:Addr}{od42 an42:Option Addr}{sl42:Array (Option Value)}{oc42 kV42 dc42 pm42 cd42 ct42:Value}
  (a42:PySem.W.nsIn K mainGlobals "_law_least" = some (some (.ref f42))) (l42:K.lookup f42=some ⟨oc42,od42,.func (PySem.W.fnOf "_law_least" "_law_least" (zr qu) (zq qu) (zh qu) .none kV42 dc42 pm42 an42 cd42 ct42),sl42⟩) (c42:PySem.W.codeIn K cd42 "_law_least" = true) (k42:PySem.W.keepIn K (.ref f42)=true)
  {f43:Addr}{od43 an43:Option Addr}{sl43:Array (Option Value)}{oc43 kV43 dc43 pm43 cd43 ct43:Value}
  (a43:PySem.W.nsIn K mainGlobals "_law_bounds" = some (some (.ref f43))) (l43:K.lookup f43=some ⟨oc43,od43,.func (PySem.W.fnOf "_law_bounds" "_law_bounds" (zr x8) (zq x8) (zh x8) .none kV43 dc43 pm43 an43 cd43 ct43),sl43⟩) (c43:PySem.W.codeIn K cd43 "_law_bounds" = true) (k43:PySem.W.keepIn K (.ref f43)=true)
  {f44:Addr}{od44 an44:Option Addr}{sl44:Array (Option Value)}{oc44 kV44 dc44 pm44 cd44 ct44:Value}
  (a44:PySem.W.nsIn K mainGlobals "law" = some (some (.ref f44))) (l44:K.lookup f44=some ⟨oc44,od44,.func (PySem.W.fnOf "law" "law" (zr s_law) (zq s_law) (zh s_law) .none kV44 dc44 pm44 an44 cd44 ct44),sl44⟩) (c44:PySem.W.codeIn K cd44 "law" = true) (k44:PySem.W.keepIn K (.ref f44)=true)
  (z_isinstance:PySem.W.nsIn K mainGlobals "isinstance" = some none)
  (z_int:PySem.W.nsIn K mainGlobals "int" = some none)
  (z_bool:PySem.W.nsIn K mainGlobals "bool" = some none)
  (z_abs:PySem.W.nsIn K mainGlobals "abs" = some none)
  (z_len:PySem.W.nsIn K mainGlobals "len" = some none)
  (z_max:PySem.W.nsIn K mainGlobals "max" = some none)
  (z_min:PySem.W.nsIn K mainGlobals "min" = some none)
  (z_range:PySem.W.nsIn K mainGlobals "range" = some none)
  (z_tuple:PySem.W.nsIn K mainGlobals "tuple" = some none)
  (z_sum:PySem.W.nsIn K mainGlobals "sum" = some none)
  (z_zip:PySem.W.nsIn K mainGlobals "zip" = some none)
  (z_list:PySem.W.nsIn K mainGlobals "list" = some none)
  (z_enumerate:PySem.W.nsIn K mainGlobals "enumerate" = some none)
  (z_sorted:PySem.W.nsIn K mainGlobals "sorted" = some none)
  (z_all:PySem.W.nsIn K mainGlobals "all" = some none)
  (z_any:PySem.W.nsIn K mainGlobals "any" = some none)
  {C_Course:Addr}(a_Course:PySem.W.nsIn K mainGlobals "Course" = some (some (.ref C_Course)))
  (kp_Course:PySem.W.keepIn K (.ref C_Course)=true)
  {fI_Course:Addr}{odI_Course anI_Course:Option Addr}{slI_Course:Array (Option Value)}{kVI_Course dcI_Course pmI_Course cdI_Course ctI_Course:Value}(fi_Course:PySem.W.findIn K (.ref C_Course) "__init__" = some (some (.ref fI_Course)))
  (li_Course:K.lookup fI_Course=some ⟨.type "function",odI_Course,.func (PySem.W.fnOf "__init__" "Course.__init__" (zr xT) (zq xT) (zh xT) .none kVI_Course dcI_Course pmI_Course anI_Course cdI_Course ctI_Course),slI_Course⟩) (ci_Course:PySem.W.codeIn K cdI_Course "Course.__init__" = true) (ki_Course:PySem.W.keepIn K (.ref fI_Course)=true)
  (sa_Course:PySem.W.findIn K (.ref C_Course) "__setattr__" = some (some (.builtin "object.__setattr__")))
  (mkC:PySem.W.makesIn K C_Course=true)
  (ifC:PySem.W.isFn K (.ref fI_Course)=true)
  (pgC:PySem.W.plainGet K C_Course Str.empty=true)
  (hdC:PySem.W.hasDictIn K C_Course=true)
  (poC:PySem.W.plainOver K C_Course=true)
  (nc_place_bottom:PySem.W.findIn K (.ref C_Course) "place_bottom" = some none)
  (nc_speed_bottom:PySem.W.findIn K (.ref C_Course) "speed_bottom" = some none)
  (nc_tick:PySem.W.findIn K (.ref C_Course) "tick" = some none)
  (nc_weights:PySem.W.findIn K (.ref C_Course) "weights" = some none)
  (nc_tracks:PySem.W.findIn K (.ref C_Course) "tracks" = some none)
  (nc_low:PySem.W.findIn K (.ref C_Course) "low" = some none)
  (nc_high:PySem.W.findIn K (.ref C_Course) "high" = some none)
  {a_NOUGHT:Addr}{t1_NOUGHT t2_NOUGHT:Tok}{n_NOUGHT:Nat}{od_NOUGHT:Option Addr}{sl_NOUGHT:Array (Option Value)} (v_NOUGHT:PySem.W.nsIn K mainGlobals "NOUGHT" = some (some (.ref a_NOUGHT))) (l_NOUGHT:K.lookup a_NOUGHT=some ⟨.type "tuple",od_NOUGHT,.seq #[.int 0 t1_NOUGHT,.int 1 t2_NOUGHT] n_NOUGHT,sl_NOUGHT⟩)
  {a_PRIMES:Addr}{t1_PRIMES t2_PRIMES t3_PRIMES t4_PRIMES:Tok}{n_PRIMES:Nat}{od_PRIMES:Option Addr}{sl_PRIMES:Array (Option Value)} (v_PRIMES:PySem.W.nsIn K mainGlobals "PRIMES" = some (some (.ref a_PRIMES))) (l_PRIMES:K.lookup a_PRIMES=some ⟨.type "tuple",od_PRIMES,.seq #[.int 2 t1_PRIMES,.int 3 t2_PRIMES,.int 5 t3_PRIMES,.int 7 t4_PRIMES] n_PRIMES,sl_PRIMES⟩) :
  ∃fd:FuncData,(∀(s:Shared) (v:Value),BindsTo s fd ⟨[v],[]⟩ [("script",v)])/\∀base:Heap,K.In base->base.Ns mainGlobals mg->jD l.prog w K mg base CX0 10 fa fd ["script"] (Jo K):=by
 have e:=hfa.symm.trans (PySem.W.mg_of X G a44)
 cases e
 have d_is_whole:Df K mg "is_whole" qS ["thing"] []:=zY l0 c0 k0 (PySem.W.mg_of X G a0) λus hl=>match us,hl with | [_],_=>rfl
 have d_is_tuple:Df K mg "is_tuple" qR ["thing","many"] []:=zY l1 c1 k1 (PySem.W.mg_of X G a1) λus hl=>match us,hl with | [_,_],_=>rfl
 have d_greatest_divisor:Df K mg "greatest_divisor" xf ["one","other"] []:=zY l2 c2 k2 (PySem.W.mg_of X G a2) λus hl=>match us,hl with | [_,_],_=>rfl
 have d_is_ratio:Df K mg "is_ratio" qP ["thing"] []:=zY l3 c3 k3 (PySem.W.mg_of X G a3) λus hl=>match us,hl with | [_],_=>rfl
 have d_ratio:Df K mg "ratio" v9 ["top","bottom"] []:=⟨⟨f4,_,_,_,_,_,_,_,_,_,_,[],l4,c4,k4,PySem.W.mg_of X G a4,.nil,λs us KX hl=>match us,hl with | [_,_],_=>.of_defaults rfl (KX _ _ ld4) rfl rfl rfl⟩⟩
 have dd_ratio:Df K mg "ratio" v9 ["top","bottom"] [.int 1]:=⟨⟨f4,_,_,_,_,_,_,_,_,_,_,[.int 1 tkd4],l4,c4,k4,PySem.W.mg_of X G a4,.cons ⟨_,rfl⟩ .nil,λs us KX hl=>have hl2:us.length=1:=(by simpa using hl);match us,hl2 with | [_],_=>.of_defaults rfl (KX _ _ ld4) rfl rfl rfl⟩⟩
 have d_least_multiple:Df K mg "least_multiple" xw ["numbers"] []:=zY l5 c5 k5 (PySem.W.mg_of X G a5) λus hl=>match us,hl with | [_],_=>rfl
 have d_common_bottom:Df K mg "common_bottom" xD ["ratios"] []:=zY l6 c6 k6 (PySem.W.mg_of X G a6) λus hl=>match us,hl with | [_],_=>rfl
 have d_track_of:Df K mg "track_of" qZ ["course","thing"] []:=zY l7 c7 k7 (PySem.W.mg_of X G a7) λus hl=>match us,hl with | [_,_],_=>rfl
 have d_moment_of:Df K mg "moment_of" qx ["course","ticks"] []:=zY l8 c8 k8 (PySem.W.mg_of X G a8) λus hl=>match us,hl with | [_,_],_=>rfl
 have d_is_wall:Df K mg "is_wall" vv ["thing"] []:=zY l9 c9 k9 (PySem.W.mg_of X G a9) λus hl=>match us,hl with | [_],_=>rfl
 have d_is_wall_pair:Df K mg "is_wall_pair" xR ["thing"] []:=zY l10 c10 k10 (PySem.W.mg_of X G a10) λus hl=>match us,hl with | [_],_=>rfl
 have d_is_ball_form:Df K mg "is_ball_form" xQ ["thing"] []:=zY l11 c11 k11 (PySem.W.mg_of X G a11) λus hl=>match us,hl with | [_],_=>rfl
 have d_is_row_form:Df K mg "is_row_form" xU ["thing"] []:=zY l12 c12 k12 (PySem.W.mg_of X G a12) λus hl=>match us,hl with | [_],_=>rfl
 have d_is_even:Df K mg "is_even" vt ["row"] []:=zY l13 c13 k13 (PySem.W.mg_of X G a13) λus hl=>match us,hl with | [_],_=>rfl
 have d_is_still:Df K mg "is_still" qQ ["walls"] []:=zY l14 c14 k14 (PySem.W.mg_of X G a14) λus hl=>match us,hl with | [_],_=>rfl
 have d_is_plain:Df K mg "is_plain" qO ["row","walls"] []:=zY l15 c15 k15 (PySem.W.mg_of X G a15) λus hl=>match us,hl with | [_,_],_=>rfl
 have d_refuse_uneven:Df K mg "refuse_uneven" xG ["row","walls"] []:=zY l16 c16 k16 (PySem.W.mg_of X G a16) λus hl=>match us,hl with | [_,_],_=>rfl
 have d_refuse_no_box:Df K mg "refuse_no_box" xF ["row","walls"] []:=zY l17 c17 k17 (PySem.W.mg_of X G a17) λus hl=>match us,hl with | [_,_],_=>rfl
 have d_trip_of:Df K mg "trip_of" vx ["course"] []:=zY l18 c18 k18 (PySem.W.mg_of X G a18) λus hl=>match us,hl with | [_],_=>rfl
 have d_phases_of:Df K mg "phases_of" qy ["course"] []:=zY l19 c19 k19 (PySem.W.mg_of X G a19) λus hl=>match us,hl with | [_],_=>rfl
 have d_comes_again:Df K mg "comes_again" xS ["phases","trip","many"] []:=zY l20 c20 k20 (PySem.W.mg_of X G a20) λus hl=>match us,hl with | [_,_,_],_=>rfl
 have d_greatest_many:Df K mg "greatest_many" xE ["phases","trip"] []:=zY l21 c21 k21 (PySem.W.mg_of X G a21) λus hl=>match us,hl with | [_,_],_=>rfl
 have d_is_greatest_many:Df K mg "is_greatest_many" xg ["phases","trip","many"] []:=zY l22 c22 k22 (PySem.W.mg_of X G a22) λus hl=>match us,hl with | [_,_,_],_=>rfl
 have d_least_round:Df K mg "least_round" xX ["course","manies"] []:=zY l23 c23 k23 (PySem.W.mg_of X G a23) λus hl=>match us,hl with | [_,_],_=>rfl
 have d_round_of:Df K mg "round_of" qY ["row","walls"] []:=zY l24 c24 k24 (PySem.W.mg_of X G a24) λus hl=>match us,hl with | [_,_],_=>rfl
 have d_lets_round:Df K mg "lets_round" qf ["row","walls","moment","paper"] []:=zY l25 c25 k25 (PySem.W.mg_of X G a25) λus hl=>match us,hl with | [_,_,_,_],_=>rfl
 have d_law_pool:Df K mg "_law_pool" qW ["cell"] []:=zY l26 c26 k26 (PySem.W.mg_of X G a26) λus hl=>match us,hl with | [_],_=>rfl
 have d_law_next:Df K mg "_law_next" qU ["pool","base"] []:=zY l27 c27 k27 (PySem.W.mg_of X G a27) λus hl=>match us,hl with | [_,_],_=>rfl
 have d_law_wide:Df K mg "_law_wide" qX ["pool","base"] []:=zY l28 c28 k28 (PySem.W.mg_of X G a28) λus hl=>match us,hl with | [_,_],_=>rfl
 have d_law_lowest:Df K mg "_law_lowest" x9 ["top","bottom"] []:=zY l29 c29 k29 (PySem.W.mg_of X G a29) λus hl=>match us,hl with | [_,_],_=>rfl
 have d_law_settled:Df K mg "_law_settled" xV ["balls","low","high"] []:=zY l30 c30 k30 (PySem.W.mg_of X G a30) λus hl=>match us,hl with | [_,_,_],_=>rfl
 have d_law_speeds_drawn:Df K mg "_law_speeds_drawn" xh ["pool","many","great"] []:=zY l31 c31 k31 (PySem.W.mg_of X G a31) λus hl=>match us,hl with | [_,_,_],_=>rfl
 have d_law_through:Df K mg "_law_through" xW ["pool","many"] []:=zY l32 c32 k32 (PySem.W.mg_of X G a32) λus hl=>match us,hl with | [_,_],_=>rfl
 have d_law_world:Df K mg "_law_world" qw ["pool","kind"] []:=zY l33 c33 k33 (PySem.W.mg_of X G a33) λus hl=>match us,hl with | [_,_],_=>rfl
 have d_law_row:Df K mg "_law_row" vw ["world"] []:=zY l34 c34 k34 (PySem.W.mg_of X G a34) λus hl=>match us,hl with | [_],_=>rfl
 have d_law_phases:Df K mg "_law_phases" qa ["world"] []:=zY l35 c35 k35 (PySem.W.mg_of X G a35) λus hl=>match us,hl with | [_],_=>rfl
 have d_law_stays:Df K mg "_law_stays" qv ["spots","around","many"] []:=zY l36 c36 k36 (PySem.W.mg_of X G a36) λus hl=>match us,hl with | [_,_,_],_=>rfl
 have d_law_part:Df K mg "_law_part" qV ["world","pace","many"] []:=zY l37 c37 k37 (PySem.W.mg_of X G a37) λus hl=>match us,hl with | [_,_,_],_=>rfl
 have d_law_ring_world:Df K mg "_law_ring_world" xu ["pool"] []:=zY l38 c38 k38 (PySem.W.mg_of X G a38) λus hl=>match us,hl with | [_],_=>rfl
 have d_law_round_world:Df K mg "_law_round_world" xm ["pool"] []:=zY l39 c39 k39 (PySem.W.mg_of X G a39) λus hl=>match us,hl with | [_],_=>rfl
 have d_law_spoilt:Df K mg "_law_spoilt" qe ["pool","world","moment","paper"] []:=zY l40 c40 k40 (PySem.W.mg_of X G a40) λus hl=>match us,hl with | [_,_,_,_],_=>rfl
 have d_law_lets:Df K mg "_law_lets" qT ["world","moment","paper"] []:=zY l41 c41 k41 (PySem.W.mg_of X G a41) λus hl=>match us,hl with | [_,_,_],_=>rfl
 have d_law_least:Df K mg "_law_least" qu ["parts"] []:=zY l42 c42 k42 (PySem.W.mg_of X G a42) λus hl=>match us,hl with | [_],_=>rfl
 have d_law_bounds:Df K mg "_law_bounds" x8 ["world"] []:=zY l43 c43 k43 (PySem.W.mg_of X G a43) λus hl=>match us,hl with | [_],_=>rfl
 have T:TxB K mg:=⟨zcZ K,zcY K,PySem.W.mg_none_of X G z_isinstance,PySem.W.mg_none_of X G z_int,PySem.W.mg_none_of X G z_bool,PySem.W.mg_none_of X G z_abs,PySem.W.mg_none_of X G z_len,PySem.W.mg_none_of X G z_max,PySem.W.mg_none_of X G z_min,PySem.W.mg_none_of X G z_range,PySem.W.mg_none_of X G z_tuple,PySem.W.mg_none_of X G z_sum⟩
 have F:=zan (st:=s_law) l44 c44 k44
 refine⟨PySem.W.fnOf "law" "law" (zr s_law) (zq s_law) (zh s_law) .none kV44 dc44 pm44 an44 cd44 ct44,λs v=>.of_eq rfl,λbase hKb hGb=>?_⟩
 have T3:Tx3 K mg a_NOUGHT:=⟨PySem.W.mg_none_of X G z_all,PySem.W.mg_none_of X G z_sorted,PySem.W.mg_none_of X G z_enumerate,PySem.W.mg_of X G v_NOUGHT,⟨_,_,_,_,l_NOUGHT,rfl,rfl⟩,zc0 K⟩
 have TQ:TxQ K mg:=⟨T,PySem.W.mg_none_of X G z_list,PySem.W.mg_none_of X G z_zip⟩
 have mCo:=PySem.W.mg_of X G a_Course
 have FUC:=zan (st:=xT) li_Course ci_Course ki_Course
 have BIC:=FUC.binds (ps:=["self","row","walls"]) λ_ _ _ _ _ _ us hl=>match us,hl with | [_,_,_],_=>rfl
 have TC:TCo K C_Course:=⟨⟨pgC,hdC,poC,sa_Course⟩,nc_place_bottom,nc_speed_bottom,nc_tick,nc_weights,nc_tracks,nc_low,nc_high⟩
 have M:Mk K C_Course fI_Course:=⟨mkC,fi_Course,ifC,kp_Course⟩
 have cW:=zaC (P:=l.prog) (w:=w) (base:=base) d_is_whole T
 have cG:=zdg (P:=l.prog) (w:=w) (base:=base) d_greatest_divisor
 have cR:=zaA d_ratio T cW cG
 have cTu:=zeA (P:=l.prog) (w:=w) (base:=base) d_is_tuple T T3
 have cIr:=zer d_is_ratio T cTu cW cG
 have cWa:=zeB d_is_wall cTu cIr
 have cWp:=zeE d_is_wall_pair cTu cWa
 have cBf:=zel d_is_ball_form cTu cIr cW
 have cRf:=zaB d_is_row_form T T3 cBf
 have cEv:=zep d_is_even T T3 cRf
 have cSt:=zey d_is_still T3 cWp
 have cLcm:=zdj d_least_multiple cG
 have cB:=zem d_common_bottom cLcm
 have cTr:=zez (P:=l.prog) (w:=w) (base:=base) d_track_of TC
 have Fi:=zeo FUC TQ TC cB cR cTr
 have cPl:=zev d_is_plain cEv cSt
 have cRu:=zew d_refuse_uneven cPl
 have cTp:=zbQ (P:=l.prog) (w:=w) (base:=base) d_trip_of TC
 have cNx:=zds d_refuse_no_box cRu
 have cPh:=zeu d_phases_of TC cTp
 have cCg:=zen (P:=l.prog) (w:=w) (base:=base) d_comes_again T3
 have cGm:=zeq d_greatest_many T cCg
 have cMm:=zet d_moment_of TC cR
 have cLr:=zdo d_least_round TC cTp cG cLcm cR cMm
 have cRo:=zdt d_round_of T T3 TC M Fi mCo BIC cNx cPh cGm cTp cLr cR
 have TP:TxP K mg a_PRIMES:=⟨PySem.W.mg_none_of X G z_any,PySem.W.mg_of X G v_PRIMES,λ_=>.inr ⟨_,_,_,l_PRIMES,rfl,rfl,(by show 4<=sizeLine;decide),.cons ⟨_,rfl⟩ (.cons ⟨_,rfl⟩ (.cons ⟨_,rfl⟩ (.cons ⟨_,rfl⟩ .nil)))⟩⟩
 have cIg:=zdh d_is_greatest_many TP cCg
 have cLt:=zes d_lets_round T TQ T3 TC M Fi mCo BIC cNx cPh cIg cTp cLr cR
 have cD:=zdf (P:=l.prog) (w:=w) (base:=base) d_law_pool T
 have cN:=zbP (P:=l.prog) (w:=w) (base:=base) d_law_next
 have cWi:=zeC d_law_wide T cN
 have cLo:=zbN (P:=l.prog) (w:=w) (base:=base) d_law_lowest T
 have cSe:=zdv (P:=l.prog) (w:=w) (base:=base) d_law_settled T3
 have cRw:=zdu d_law_row T cLo
 have cBd:=zek d_law_bounds T cLo
 have cPa:=zdm d_law_part cLo
 have cSd:=zex d_law_speeds_drawn T cN cWi
 have cTh:=zdw d_law_through T cN
 have cWo:=zeD d_law_world T cN cWi cSd cTh cSe
 have cRg:=zdq d_law_ring_world T cN cSe
 have cRr:=zdp d_law_round_world cN cWo cRg
 have cLph:=zdn (P:=l.prog) (w:=w) (base:=base) d_law_phases T
 have cSta:=zbO (P:=l.prog) (w:=w) (base:=base) d_law_stays T3
 have cLl:=zdk d_law_least cLo
 have cSp:=zdr d_law_spoilt T TQ T3 cN cLph cLo cPa cLl
 have cLL:=zdl d_law_lets T TQ T3 TP cLph cLo cSta cPa cLl
 exact zdi F T TQ cD cRr cRw cBd cRo cLt cSp cLL
theorem walk {l:PySem.W.OpenLaw}{q:Program}{loose:List Str}{XP:(Str->Option Value)->Heap->Prop}{YP:World->Heap->Prop}{d:DefRec}{K:Params->PySem.W.Frag}(hn:l.most=some 63) (hdf:d.params.defaults=[])
  (hY:∀(w:World) (h:Heap),YP w h->(K w.params).In h)
  (F:∀(w:World) (mg:Str->Option Value) (fa:Addr) (h:Heap),(K w.params).In h->h.Ns mainGlobals mg->mg d.name=some (.ref fa) →
   ∃fd:FuncData,(∀(s:Shared) (u:Value),BindsTo s fd ⟨[u],[]⟩ [("script",u)])/\∀base:Heap,(K w.params).In base->base.Ns mainGlobals mg->jD l.prog w (K w.params) mg base CX0 10 fa fd ["script"] (Jo (K w.params))) :
  PySem.W.WalkO q loose XP YP l.row.toRowW d [] (λf vs=>PySem.call f vs) :=
 L2.zcc (n:=63) (k:=10) (x:="script") (CX:=λ_=>CX0) (sp:=λw=>Jo (K w.params)) hn (by decide) hdf ⟨rfl,by decide,by decide⟩ hY F (λ_ _ a ns hl _ hS=>⟨a,ns,rfl,hS,hl,λ_=>rfl⟩) λ_ _ _ _ _ z=>z
end KK
open PySem PySem.W PyProof.Rows
set_option maxRecDepth 100000 in
set_option maxHeartbeats 0 in
theorem PySem.Challenge.cw_clackrow_k32_papers_of_rounds_judged_holds : PySem.Challenge.rw_clackrow_k32_papers_of_rounds_judged.Holds := by
 w_on;o_law;k_head;(case hw=>w_witness2)
 k_fill
 refine KK.walk (l:=PySem.Challenge.rw_clackrow_k32_papers_of_rounds_judged) rfl rfl (λw h Y=>PySem.W.kIn_of Y) ?F
 case F =>
  intro w mg fa h KX G hmg
  refine' KK.zcG KX G hmg ?a0 ?l0 ?c0 ?k0 ?a1 ?l1 ?c1 ?k1 ?a2 ?l2 ?c2 ?k2 ?a3 ?l3 ?c3 ?k3 ?a4 ?l4 ?c4 ?k4 ?ld4 ?a5 ?l5 ?c5 ?k5 ?a6 ?l6 ?c6 ?k6 ?a7 ?l7 ?c7 ?k7 ?a8 ?l8 ?c8 ?k8 ?a9 ?l9 ?c9 ?k9 ?a10 ?l10 ?c10 ?k10 ?a11 ?l11 ?c11 ?k11 ?a12 ?l12 ?c12 ?k12 ?a13 ?l13 ?c13 ?k13 ?a14 ?l14 ?c14 ?k14 ?a15 ?l15 ?c15 ?k15 ?a16 ?l16 ?c16 ?k16 ?a17 ?l17 ?c17 ?k17 ?a18 ?l18 ?c18 ?k18 ?a19 ?l19 ?c19 ?k19 ?a20 ?l20 ?c20 ?k20 ?a21 ?l21 ?c21 ?k21 ?a22 ?l22 ?c22 ?k22 ?a23 ?l23 ?c23 ?k23 ?a24 ?l24 ?c24 ?k24 ?a25 ?l25 ?c25 ?k25 ?a26 ?l26 ?c26 ?k26 ?a27 ?l27 ?c27 ?k27 ?a28 ?l28 ?c28 ?k28 ?a29 ?l29 ?c29 ?k29 ?a30 ?l30 ?c30 ?k30 ?a31 ?l31 ?c31 ?k31 ?a32 ?l32 ?c32 ?k32 ?a33 ?l33 ?c33 ?k33 ?a34 ?l34 ?c34 ?k34 ?a35 ?l35 ?c35 ?k35 ?a36 ?l36 ?c36 ?k36 ?a37 ?l37 ?c37 ?k37 ?a38 ?l38 ?c38 ?k38 ?a39 ?l39 ?c39 ?k39 ?a40 ?l40 ?c40 ?k40 ?a41 ?l41 ?c41 ?k41 ?a42 ?l42 ?c42 ?k42 ?a43 ?l43 ?c43 ?k43 ?a44 ?l44 ?c44 ?k44 ?z_isinstance ?z_int ?z_bool ?z_abs ?z_len ?z_max ?z_min ?z_range ?z_tuple ?z_sum ?z_zip ?z_list ?z_enumerate ?z_sorted ?z_all ?z_any ?a_Course ?kp_Course ?fi_Course ?li_Course ?ci_Course ?ki_Course ?sa_Course ?mkC ?ifC ?pgC ?hdC ?poC ?nc_place_bottom ?nc_speed_bottom ?nc_tick ?nc_weights ?nc_tracks ?nc_low ?nc_high ?v_NOUGHT ?l_NOUGHT ?v_PRIMES ?l_PRIMES
  (case a0=>k_is)
  (case l0=>k_is)
  (case c0=>k_is)
  (case k0=>k_is)
  (case a1=>k_is)
  (case l1=>k_is)
  (case c1=>k_is)
  (case k1=>k_is)
  (case a2=>k_is)
  (case l2=>k_is)
  (case c2=>k_is)
  (case k2=>k_is)
  (case a3=>k_is)
  (case l3=>k_is)
  (case c3=>k_is)
  (case k3=>k_is)
  (case a4=>k_is)
  (case l4=>k_is)
  (case c4=>k_is)
  (case k4=>k_is)
  (case ld4=>k_is)
  (case a5=>k_is)
  (case l5=>k_is)
  (case c5=>k_is)
  (case k5=>k_is)
  (case a6=>k_is)
  (case l6=>k_is)
  (case c6=>k_is)
  (case k6=>k_is)
  (case a7=>k_is)
  (case l7=>k_is)
  (case c7=>k_is)
  (case k7=>k_is)
  (case a8=>k_is)
  (case l8=>k_is)
  (case c8=>k_is)
  (case k8=>k_is)
  (case a9=>k_is)
  (case l9=>k_is)
  (case c9=>k_is)
  (case k9=>k_is)
  (case a10=>k_is)
  (case l10=>k_is)
  (case c10=>k_is)
  (case k10=>k_is)
  (case a11=>k_is)
  (case l11=>k_is)
  (case c11=>k_is)
  (case k11=>k_is)
  (case a12=>k_is)
  (case l12=>k_is)
  (case c12=>k_is)
  (case k12=>k_is)
  (case a13=>k_is)
  (case l13=>k_is)
  (case c13=>k_is)
  (case k13=>k_is)
  (case a14=>k_is)
  (case l14=>k_is)
  (case c14=>k_is)
  (case k14=>k_is)
  (case a15=>k_is)
  (case l15=>k_is)
  (case c15=>k_is)
  (case k15=>k_is)
  (case a16=>k_is)
  (case l16=>k_is)
  (case c16=>k_is)
  (case k16=>k_is)
  (case a17=>k_is)
  (case l17=>k_is)
  (case c17=>k_is)
  (case k17=>k_is)
  (case a18=>k_is)
  (case l18=>k_is)
  (case c18=>k_is)
  (case k18=>k_is)
  (case a19=>k_is)
  (case l19=>k_is)
  (case c19=>k_is)
  (case k19=>k_is)
  (case a20=>k_is)
  (case l20=>k_is)
  (case c20=>k_is)
  (case k20=>k_is)
  (case a21=>k_is)
  (case l21=>k_is)
  (case c21=>k_is)
  (case k21=>k_is)
  (case a22=>k_is)
  (case l22=>k_is)
  (case c22=>k_is)
  (case k22=>k_is)
  (case a23=>k_is)
  (case l23=>k_is)
  (case c23=>k_is)
  (case k23=>k_is)
  (case a24=>k_is)
  (case l24=>k_is)
  (case c24=>k_is)
  (case k24=>k_is)
  (case a25=>k_is)
  (case l25=>k_is)
  (case c25=>k_is)
  (case k25=>k_is)
  (case a26=>k_is)
  (case l26=>k_is)
  (case c26=>k_is)
  (case k26=>k_is)
  (case a27=>k_is)
  (case l27=>k_is)
  (case c27=>k_is)
  (case k27=>k_is)
  (case a28=>k_is)
  (case l28=>k_is)
  (case c28=>k_is)
  (case k28=>k_is)
  (case a29=>k_is)
  (case l29=>k_is)
  (case c29=>k_is)
  (case k29=>k_is)
  (case a30=>k_is)
  (case l30=>k_is)
  (case c30=>k_is)
  (case k30=>k_is)
  (case a31=>k_is)
  (case l31=>k_is)
  (case c31=>k_is)
  (case k31=>k_is)
  (case a32=>k_is)
  (case l32=>k_is)
  (case c32=>k_is)
  (case k32=>k_is)
  (case a33=>k_is)
  (case l33=>k_is)
  (case c33=>k_is)
  (case k33=>k_is)
  (case a34=>k_is)
  (case l34=>k_is)
  (case c34=>k_is)
  (case k34=>k_is)
  (case a35=>k_is)
  (case l35=>k_is)
  (case c35=>k_is)
  (case k35=>k_is)
  (case a36=>k_is)
  (case l36=>k_is)
  (case c36=>k_is)
  (case k36=>k_is)
  (case a37=>k_is)
  (case l37=>k_is)
  (case c37=>k_is)
  (case k37=>k_is)
  (case a38=>k_is)
  (case l38=>k_is)
  (case c38=>k_is)
  (case k38=>k_is)
  (case a39=>k_is)
  (case l39=>k_is)
  (case c39=>k_is)
  (case k39=>k_is)
  (case a40=>k_is)
  (case l40=>k_is)
  (case c40=>k_is)
  (case k40=>k_is)
  (case a41=>k_is)
  (case l41=>k_is)
  (case c41=>k_is)
  (case k41=>k_is)
  (case a42=>k_is)
  (case l42=>k_is)
  (case c42=>k_is)
  (case k42=>k_is)
  (case a43=>k_is)
  (case l43=>k_is)
  (case c43=>k_is)
  (case k43=>k_is)
  (case a44=>k_is)
  (case l44=>k_is)
  (case c44=>k_is)
  (case k44=>k_is)
  (case z_isinstance=>k_is)
  (case z_int=>k_is)
  (case z_bool=>k_is)
  (case z_abs=>k_is)
  (case z_len=>k_is)
  (case z_max=>k_is)
  (case z_min=>k_is)
  (case z_range=>k_is)
  (case z_tuple=>k_is)
  (case z_sum=>k_is)
  (case z_zip=>k_is)
  (case z_list=>k_is)
  (case z_enumerate=>k_is)
  (case z_sorted=>k_is)
  (case z_all=>k_is)
  (case z_any=>k_is)
  (case a_Course=>k_is)
  (case kp_Course=>k_is)
  (case fi_Course=>k_is)
  (case li_Course=>k_is)
  (case ci_Course=>k_is)
  (case ki_Course=>k_is)
  (case sa_Course=>k_is)
  (case mkC=>kernel_rfl)
  (case ifC=>kernel_rfl)
  (case pgC=>kernel_rfl)
  (case hdC=>kernel_rfl)
  (case poC=>kernel_rfl)
  (case nc_place_bottom=>k_is)
  (case nc_speed_bottom=>k_is)
  (case nc_tick=>k_is)
  (case nc_weights=>k_is)
  (case nc_tracks=>k_is)
  (case nc_low=>k_is)
  (case nc_high=>k_is)
  (case v_NOUGHT=>k_is)
  (case l_NOUGHT=>k_is)
  (case v_PRIMES=>k_is)
  (case l_PRIMES=>k_is)
end
