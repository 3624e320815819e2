import PyProof.Rows.All
import Wide.All
import OpenK.AllK
import Wide.FinOn
import Lean
import PyProof.EqAt
import PyProof.EqKinds
import PyProof.TupleCall
import PyProof.CompFree
import PyProof.Rows.SumAny
import PyProof.ZipIter
import PyProof.ConsumeWalk
import PySem.Challenge.RW_clackrow_k70_whole_rows_written_and_read
import KE.KIntText
import PyProof.StrCalls2
import PyProof.StrBlockH
import PyProof.StrCalls6
import PyProof.StrWalks
import PyProof.Rows.FStr
import PyProof.Rows.RuleDivmod
import PyProof.Rows.RuleB_pow
import PyProof.StrOps2
import PyProof.StrCalls
import PyProof.StrLawsTight
import PyProof.StrBlock
import PyProof.StrLawsIn
set_option Elab.async false
set_option linter.all false
set_option maxRecDepth 100000
namespace L2
open PySem PySem.Spec PyProof.Rows
abbrev Key:=Sum Int Str
def zbA:Key->Value->Bool
 | .inl k,v=>Value.isInt k v
 | .inr x,v=>Value.isStrOf x v
def keyH (w:World):Key->Int
 | .inl k=>hashInt k
 | .inr x=>hashStr w x
theorem xk:∀{k:Key}{v:Value},zbA k v=true->(∃i t,k=Sum.inl i/\v=Value.int i t)\/(∃x t,k=Sum.inr x/\v=Value.str x t)
 | .inl i,v,h=>by
  obtain⟨t,e⟩:=Value.isInt_shape (k:=i) (v:=v) h
  exact .inl ⟨i,t,rfl,e⟩
 | .inr x,v,h=>by
  obtain⟨t,e⟩:=Value.isStrOf_shape (x:=x) (v:=v) h
  exact .inr ⟨x,t,rfl,e⟩
theorem zcd (a b:Int):decide ((Sum.inl a:Key)=Sum.inl b)=(a == b):=by
 by_cases e:a=b
 ·subst e;simp
 ·have h:¬(Sum.inl a:Key)=Sum.inl b:=λq=>e (Sum.inl.inj q)
  rw[decide_eq_false h]
  exact(beq_eq_false_iff_ne.mpr e).symm
theorem zcg (a b:Str):decide ((Sum.inr a:Key)=Sum.inr b)=decide (a=b):=by
 by_cases e:a=b
 ·subst e;simp
 ·have h:¬(Sum.inr a:Key)=Sum.inr b:=λq=>e (Sum.inr.inj q)
  rw[decide_eq_false h,decide_eq_false e]
theorem zce (a:Int) (b:Str):decide ((Sum.inl a:Key)=Sum.inr b)=false:=decide_eq_false (λq=>nomatch q)
theorem zcf (a:Str) (b:Int):decide ((Sum.inr a:Key)=Sum.inl b)=false:=decide_eq_false (λq=>nomatch q)
def Xd (prog:Program) (w:World):PySem.KeyKind prog w Key where
 is:=zbA
 hash:=keyH w
 inj:=λv a b ha hb=>by
  rcases xk ha with⟨i,t,rfl,rfl⟩ | ⟨x,t,rfl,rfl⟩
  ·rcases xk hb with⟨j,u,rfl,e⟩ | ⟨y,u,rfl,e⟩
   ·injection e with e1 _;rw[e1]
   ·exact nomatch e
  ·rcases xk hb with⟨j,u,rfl,e⟩ | ⟨y,u,rfl,e⟩
   ·exact nomatch e
   ·injection e with e1 _;rw[e1]
 byValue:=λk v h=>by
  rcases xk h with⟨i,t,rfl,rfl⟩ | ⟨x,t,rfl,rfl⟩ <;> rfl
 pyHash:=λhv h=>by
  rcases xk hv with⟨i,t,rfl,rfl⟩ | ⟨x,t,rfl,rfl⟩
  ·exact wpAny_pyHash_int h
  ·exact wpAny_pyHash_str h
 eqBool:=λhu hv h=>by
  rcases xk hu with⟨i,t,rfl,rfl⟩ | ⟨x,t,rfl,rfl⟩
  ·rcases xk hv with⟨j,u,rfl,rfl⟩ | ⟨y,u,rfl,rfl⟩
   ·rw[zcd]at h;exact wpAny_eqBool_int h
   ·rw[zce]at h;exact SeqAt.EqAt.int_str i t y u _ _ _ _ h
  ·rcases xk hv with⟨j,u,rfl,rfl⟩ | ⟨y,u,rfl,rfl⟩
   ·rw[zcf]at h;exact SeqAt.EqAt.str_int x t j u _ _ _ _ h
   ·rw[zcg]at h;exact wpAny_eqBool_str h
 «strs»:=λk x t v h=>by
  rcases xk h with⟨i,u,rfl,e⟩ | ⟨y,u,rfl,e⟩
  ·exact nomatch e
  ·injection e with e1 _
   subst e1
   cases v <;> rfl
end L2
namespace L2
open PySem PySem.Spec PyProof.Rows
inductive V where
 | non | bl (b:Bool) | int (i:Int) | str (x:Str) | byt (b:Array UInt8) | flt (b:UInt64) | ref (a:Addr) | ty (n:String)
 deriving DecidableEq
def xb:V->Value->Prop
 | .non,u=>u=Value.none
 | .bl b,u=>u=Value.bool b
 | .int i,u=>∃t,u=Value.int i t
 | .str x,u=>∃t,u=Value.str x t
 | .byt b,u=>∃t,u=Value.bytes b t
 | .flt b,u=>∃t,u=Value.float b t
 | .ref a,u=>u=Value.ref a
 | .ty n,u=>u=Value.type n
abbrev zP:List V->List Value->Prop:=Paired xb
theorem zP.length {xs:List V}{us:List Value}(r:zP xs us):xs.length=us.length:=Paired.length r
theorem zP.get:∀{xs:List V}{us:List Value}{i:Nat}{x:V},zP xs us->xs[i]? = some x->∃u,us[i]? = some u/\xb x u
 | _,_,_,_,.nil,e=>by simp at e
 | _,_,0,_,.cons r _,e=>by simp at e;subst e;exact⟨_,rfl,r⟩
 | _,_,i+1,x,.cons _ t,e=>by
  obtain⟨u,h1,h2⟩:=zP.get (i:=i) (x:=x) t (by simpa using e)
  exact⟨u,by simpa using h1,h2⟩
theorem zP.set {x:V}{u:Value}(r:xb x u):∀{xs:List V}{us:List Value}(i:Nat),zP xs us->zP (xs.set i x) (us.set i u)
 | _,_,_,.nil=>.nil
 | _,_,0,.cons _ t=>.cons r t
 | _,_,i+1,.cons q t=>.cons q (zP.set r i t)
theorem zP.append:∀{xs ys:List V}{us ws:List Value},zP xs us->zP ys ws->zP (xs++ys) (us++ws)
 | _,_,_,_,.nil,s=>s
 | _,_,_,_,.cons r t,s=>.cons r (zP.append t s)
theorem zP.take:∀{xs:List V}{us:List Value}(n:Nat),zP xs us->zP (xs.take n) (us.take n)
 | _,_,0,_=>.nil
 | _,_,_+1,.nil=>.nil
 | _,_,n+1,.cons r t=>.cons r (zP.take n t)
theorem zP.drop:∀{xs:List V}{us:List Value}(n:Nat),zP xs us->zP (xs.drop n) (us.drop n)
 | _,_,0,r=>r
 | _,_,_+1,.nil=>.nil
 | _,_,n+1,.cons _ t=>zP.drop n t
def zbR:Option V->Option Value->Prop
 | some v,some u=>xb v u
 | none,none=>True
 | _,_=>False
def KV {κ:Type}:List (κ×V)->List (κ×Value)->Prop:=Paired λ(p:κ×V) (q:κ×Value)=>p.1=q.1/\xb p.2 q.2
def kV:Key->V
 | .inl i=>.int i
 | .inr x=>.str x
inductive HO where
 | lst (xs:List V)
 | tup (xs:List V)
 | dK (kvs:List (Key×V)) | dT (kvs:List (List Key×V))
 | set (S:Int->Bool) (n:Nat)
 | ins (C dx:Addr) (fs:List (Str×V))
 | own (x:Addr)
 | xd (fs:List (Str×V))
 | met (f x:Addr)
 | rng (lo hi:Int)
 | frz (o:Obj) (u:HO)
 | tbl (ps:Array Value)
 | ext (φ:Heap->Prop)
abbrev Hp:=Addr->Option HO
def upd (H:Hp) (a:Addr) (o:HO):Hp:=λb=>if b=a then some o else H b
theorem zj {H:Hp}{a:Addr}{o:HO}:upd H a o a=some o:=by unfold upd;rw[if_pos rfl]
theorem zM {H:Hp}{a b:Addr}{o:HO}(h:b≠a):upd H a o b=H b:=by unfold upd;rw[if_neg h]
theorem zdq {H:Hp}{a b:Addr}{o u:HO}(h:H a=some o) (h':H b=some u) (d:o≠u):a≠b:=by
 intro e;subst e;rw[h]at h';exact d (Option.some.inj h')
theorem zK {H:Hp}{a b:Addr}{o:HO}(h:H a=some o) (h':H b=none):a≠b:=by
 intro e;subst e;rw[h]at h';cases h'
section
variable (P:Program) (w:World)
def xE (H:Hp) (h:Heap) (a:Addr):HO->Prop
 | .lst xs=>xs.length<=sizeLine/\∃(its:List Value) (n:Nat),zP xs its/\h.get? a=some { cls:=.type "list",data:=.seq its.toArray n }
 | .tup xs=>xs.length<=sizeLine/\∃its:List Value,zP xs its/\IsTup h a its.toArray
 | .dK kvs=>kvs.length<=sizeLine/\(a == sysModules)=false/\∃vs,KV kvs vs/\h.DictOf (Xd P w) a vs
 | .dT kvs=>kvs.length<=sizeLine/\(a == sysModules)=false/\∃xs:List (List Key×Addr×Value),
   Paired (λ(p:List Key×V) (q:List Key×Addr×Value)=>p.1=q.1/\H q.2.1=some (.tup (p.1.map kV))/\xb p.2 q.2.2) kvs xs ∧
   ∃o es ep,h.get? a=some o/\o.ExactDict/\o.data = .dict es ep/\es.toList=xs.map (entryOfKey (tupleKind (Xd P w)))/\(xs.map (·.1)).Nodup
 | .set S n=>h.SetOf (intKind P w) a S n
 | .ins C dx fs=>H dx=some (.own a)/\fs.length<=1000/\dx≠a/\h.get? a=some (PySem.W.instObj C dx) ∧
   ∃mA,h.Ns1 dx mA/\(∀f,zbR (fs.lookup f) (mA f))/\PySem.Within mA (fs.map (·.1))
 | .own _=>∃o,h.get? a=some o
 | .xd fs=>∃mA,h.Ns1 a mA/\∀f,zbR (fs.lookup f) (mA f)
 | .rng lo hi=>∃t u v,h.get? a=some { cls:=.type "range",data:=.fields #[.int lo t,.int hi u,.int 1 v] }
 | .frz o u=>h.get? a=some o/\xE H h a u
 | .tbl ps=>h.get? a=some { cls:=.none,data:=.fields ps }
 | .met f x=>h.get? a=some (PySem.W.methodObj (.ref f) (.ref x))
 | .ext φ=>φ h/\(∃o,h.get? a=some o)/\∀h1 h2:Heap,φ h1->(∀o,h1.get? a=some o->h2.get? a=some o)->φ h2
def HOk (H:Hp) (h:Heap):Prop:=∀a o,H a=some o->xE P w H h a o
end
section
variable {P:Program}{w:World}{H H':Hp}{h h':Heap}{a:Addr}{o:HO}
theorem xE.lt (x:xE P w H h a o):a<h.objs.size:=by
 cases o with
 | lst xs=>obtain⟨_,_,_,_,e⟩:=x;exact Heap.lt_size e
 | tup xs=>obtain⟨_,_,_,p⟩:=x;exact p.lt
 | dK kvs=>obtain⟨_,_,_,_,o,_,_,e,_⟩:=x;exact Heap.lt_size e
 | dT kvs=>obtain⟨_,_,_,_,o,_,_,e,_⟩:=x;exact Heap.lt_size e
 | set S n=>obtain⟨o,_,_,_,e,_⟩:=x;exact Heap.lt_size e
 | ins C dx fs=>obtain⟨_,_,_,e,_⟩:=x;exact Heap.lt_size e
 | own y=>obtain⟨_,e⟩:=x;exact Heap.lt_size e
 | xd fs=>obtain⟨_,⟨_,_,_,e,_⟩,_⟩:=x;exact Heap.lt_size e
 | rng lo hi=>obtain⟨_,_,_,e⟩:=x;exact Heap.lt_size e
 | frz ob u=>obtain⟨e,_⟩:=x;exact Heap.lt_size e
 | tbl ps=>exact Heap.lt_size (show h.get? a=some _ from x)
 | met f y=>exact Heap.lt_size (show h.get? a=some _ from x)
 | ext φ=>obtain⟨_,⟨_,e⟩,_⟩:=x;exact Heap.lt_size e
theorem Paired.mapP {α β:Type}{F G:α->β->Prop}:∀{l₁:List α}{l₂:List β},Paired F l₁ l₂->(∀a b,F a b->G a b)->Paired G l₁ l₂
 | _,_,.nil,_=>.nil
 | _,_,.cons r t,f=>.cons (f _ _ r) (Paired.mapP t f)
theorem xE.stay (x:xE P w H h a o) (k:∀b u,(b=a\/H b=some (.own a))->h.get? b=some u->h'.get? b=some u)
  (ho:∀b,H b=some (.own a)->H' b=some (.own a)) (ht:∀b xs,H b=some (.tup xs)->H' b=some (.tup xs)):xE P w H' h' a o:=by
 induction o with
 | lst xs=>obtain⟨z,its,n,r,e⟩:=x;exact⟨z,its,n,r,k _ _ (.inl rfl) e⟩
 | tup xs=>obtain⟨z,its,r,ob,e,c⟩:=x;exact⟨z,its,r,ob,k _ _ (.inl rfl) e,c⟩
 | dK kvs=>obtain⟨z,y,vs,r,ob,es,ep,e,c⟩:=x;exact⟨z,y,vs,r,ob,es,ep,k _ _ (.inl rfl) e,c⟩
 | dT kvs =>
  obtain⟨z,y,xs,r,ob,es,ep,e,c⟩:=x
  exact⟨z,y,xs,Paired.mapP r λp q z=>⟨z.1,ht _ _ z.2.1,z.2.2⟩,ob,es,ep,k _ _ (.inl rfl) e,c⟩
 | set S n=>obtain⟨ob,es,ep,t,e,c⟩:=x;exact⟨ob,es,ep,t,k _ _ (.inl rfl) e,c⟩
 | ins C dx fs =>
  obtain⟨d,z,ne,e,mA,⟨od,es,ep,e2,c⟩,r⟩:=x
  exact⟨ho _ d,z,ne,k _ _ (.inl rfl) e,mA,⟨od,es,ep,k _ _ (.inr d) e2,c⟩,r⟩
 | own y=>obtain⟨ob,e⟩:=x;exact⟨ob,k _ _ (.inl rfl) e⟩
 | xd fs=>obtain⟨mA,⟨od,es,ep,e,c⟩,r⟩:=x;exact⟨mA,⟨od,es,ep,k _ _ (.inl rfl) e,c⟩,r⟩
 | rng lo hi=>obtain⟨t,u,v,e⟩:=x;exact⟨t,u,v,k _ _ (.inl rfl) e⟩
 | frz ob u ih=>obtain⟨e,q⟩:=x;exact⟨k _ _ (.inl rfl) e,ih q⟩
 | tbl ps =>
  have e:h.get? a=some { cls:=.none,data:=.fields ps }:=x
  show h'.get? a=some { cls:=.none,data:=.fields ps }
  exact k a _ (.inl rfl) e
 | met f y =>
  have e:h.get? a=some (PySem.W.methodObj (.ref f) (.ref y)):=x
  show h'.get? a=some (PySem.W.methodObj (.ref f) (.ref y))
  exact k a _ (.inl rfl) e
 | ext φ=>obtain⟨p,⟨o,e⟩,st⟩:=x;exact⟨st _ _ p λo q=>k _ _ (.inl rfl) q,⟨o,k _ _ (.inl rfl) e⟩,st⟩
theorem HOk.lt (x:HOk P w H h) (e:H a=some o):a<h.objs.size:=(x a o e).lt
theorem HOk.fresh (x:HOk P w H h) (e:h.objs.size<=a):H a=none:=by
 cases q:H a with
 | none=>rfl
 | some u=>exact absurd (Nat.lt_of_lt_of_le (x.lt q) e) (Nat.lt_irrefl _)
theorem HOk.kept (x:HOk P w H h) (k:∀b u,h.get? b=some u->h'.get? b=some u):HOk P w H h':=λa o e =>
 (x a o e).stay (λb u _ q=>k b u q) (λ_ q=>q) λ_ _ q=>q
theorem HOk.laid (x:HOk P w H h) (k:∀b u,h.get? b=some u->h'.get? b=some u) (hp:h.objs.size<=a) (new:xE P w (upd H a o) h' a o):HOk P w (upd H a o) h':=λb u e=>by
 have hn:=x.fresh hp
 by_cases hb:b=a
 ·subst hb;rw[zj]at e;cases e;exact new
 ·rw[zM hb]at e
  exact(x b u e).stay (λc v _ q=>k c v q) (λc q=>by rw[zM (zK q hn)];exact q) λc xs q=>by rw[zM (zK q hn)];exact q
end
def Rd (H:Hp) (a:Addr) (u:HO):Prop:=H a=some u\/∃o,H a=some (.frz o u)
theorem Rd.ok {P:Program}{w:World}{H:Hp}{h:Heap}{a:Addr}{u:HO}(r:Rd H a u) (x:HOk P w H h):xE P w H h a u:=by
 rcases r with r | ⟨o,r⟩
 ·exact x a u r
 ·obtain⟨_,q⟩:=x a _ r
  exact q
def Mut:Option HO->Prop
 | some (.lst _)=>True
 | some (.dK _)=>True
 | some (.dT _)=>True
 | some (.set _ _)=>True
 | some (.ins _ _ _)=>True
 | some (.ext _)=>True
 | _=>False
section
variable {P:Program}{w:World}{H:Hp}{h h':Heap}{x e:Addr}{o':HO}
theorem HOk.write (ok:HOk P w H h) (mu:Mut (H x)) (he:e=x\/H e=some (.own x)) (k:∀b u,b≠e->h.get? b=some u->h'.get? b=some u) (heo:∃u,h'.get? e=some u)
  (new:xE P w (upd H x o') h' x o'):HOk P w (upd H x o') h':=λb u q=>by
 have nown:∀c y,H c=some (.own y)->c≠x:=λc y r z=>by subst z;rw[r]at mu;exact mu
 have ntup:∀c xs,H c=some (.tup xs)->c≠x:=λc xs r z=>by subst z;rw[r]at mu;exact mu
 by_cases hb:b=x
 ·subst hb;rw[zj]at q;cases q;exact new
 ·rw[zM hb]at q
  by_cases hbe:b=e
  ·have q':H b=some (.own x):=by
    rcases he with z | z
    ·exact absurd (hbe.trans z) hb
    ·rw[hbe];exact z
   rw[q]at q';cases q'
   obtain⟨v,hv⟩:=heo
   exact⟨v,by rw[hbe];exact hv⟩
  ·refine(ok b u q).stay (λc v hc r=>k c v ?_ r) (λc r=>by rw[zM (nown c b r)];exact r) λc xs r=>by rw[zM (ntup c xs r)];exact r
   rcases hc with rfl | hc
   ·exact hbe
   ·rintro rfl
    rcases he with z | z
    ·exact nown c b hc z
    ·rw[hc]at z;cases z;exact hb rfl
end
structure Un (fs ex:List Addr) (H H':Hp) (h h':Heap):Prop where
 keep:∀b o,h.get? b=some o->H b=none->b∉fs->b∉ex->h'.get? b=some o
 slot:∀b o,h.get? b=some o->H b=none->b∈fs->b∉ex->∃sl,h'.get? b=some { o with slots:=sl }
 free:∀b o,h.get? b=some o->H b=none->b∉ex->H' b=none
 there:∀b o,h.get? b=some o->b∉ex->∃o',h'.get? b=some o'
 tups:∀b xs,H b=some (.tup xs)->H' b=some (.tup xs)
 frzs:∀b o u,H b=some (.frz o u)->H' b=some (.frz o u)
 tbls:∀b ps,H b=some (.tbl ps)->∃more,H' b=some (.tbl (ps++more))
section
variable {fs fs' ex ex':List Addr}{H H1 H2:Hp}{h h1 h2 h':Heap}{a x e:Addr}{o:HO}
theorem Un.any (u:Un fs ex H H1 h h1){b:Addr}{ob:Obj}(q:h.get? b=some ob) (n:H b=none) (hx:b∉ex):∃sl,h1.get? b=some { ob with slots:=sl }:=by
 by_cases hb:b∈fs
 ·exact u.slot b ob q n hb hx
 ·exact⟨ob.slots,u.keep b ob q n hb hx⟩
theorem Un.kept (k:∀b u,h.get? b=some u->h'.get? b=some u):Un fs ex H H h h' :=
 ⟨λb ob q _ _ _=>k b ob q,λb ob q _ _ _=>⟨ob.slots,k b ob q⟩,λ_ _ _ n _=>n,λb ob q _=>⟨ob,k b ob q⟩,λ_ _ q=>q,λ_ _ _ q=>q,λ_ ps q=>⟨#[],by rw[q];simp⟩⟩
theorem Un.refl:Un fs ex H H h h:=Un.kept λ_ _ q=>q
theorem Un.laid (k:∀b u,h.get? b=some u->h'.get? b=some u) (hp:h.objs.size<=a) (hn:H a=none):Un fs ex H (upd H a o) h h' where
 keep:=λb u q _ _ _=>k b u q
 slot:=λb u q _ _ _=>⟨u.slots,k b u q⟩
 free:=λb u q n _=>by rw[zM (Nat.ne_of_lt (Nat.lt_of_lt_of_le (Heap.lt_size q) hp))];exact n
 there:=λb u q _=>⟨u,k b u q⟩
 tups:=λb xs q=>by rw[zM (zK q hn)];exact q
 frzs:=λb u xs q=>by rw[zM (zK q hn)];exact q
 tbls:=λb ps q=>⟨#[],by rw[zM (zK q hn),q];simp⟩
theorem Un.write (mu:Mut (H x)) (he:e=x\/H e=some (.own x)) (k:∀b u,b≠e->h.get? b=some u->h'.get? b=some u) (heo:∃u,h'.get? e=some u):Un fs ex H (upd H x o) h h':=by
 have hx:∀b,H b=none->b≠x:=λb n z=>by subst z;rw[n]at mu;exact mu
 have hb:∀b,H b=none->b≠e:=λb n z=>by
  subst z
  rcases he with r | r
  ·exact hx b n r
  ·rw[n]at r;cases r
 have hm:∀b u,H b=some u->¬Mut (some u)->b≠x:=λb u q nm z=>by subst z;rw[q]at mu;exact nm mu
 refine⟨λb u q n _ _=>k b u (hb b n) q,λb u q n _ _=>⟨u.slots,k b u (hb b n) q⟩,λb u q n _=>by rw[zM (hx b n)];exact n,λb u q _=>?_,
  λb xs q=>by rw[zM (hm b _ q λz=>z)];exact q,λb u xs q=>by rw[zM (hm b _ q λz=>z)];exact q,λb ps q=>⟨#[],by rw[zM (hm b _ q λz=>z),q];simp⟩⟩
 by_cases hbe:b=e
 ·subst hbe;exact heo
 ·exact⟨u,k b u hbe q⟩
end
def trk (h:Heap) (H:Hp):List Addr:=(List.range h.objs.size).filter λa=>(H a).isSome
def Z9 (h:Heap) (H:Hp):Heap:=PySem.W.hideAll h (trk h H)
theorem Vj (h:Heap) (H:Hp):(Z9 h H).objs.size=h.objs.size:=PySem.W.hideAll_size _ _
theorem V9 {h:Heap}{H:Hp}{b:Addr}{o:Obj}(e:h.get? b=some o) (n:H b=none):(Z9 h H).get? b=some o :=
 PySem.W.hideAll_get _ e λhm=>by
  have q:(H b).isSome=true:=(List.mem_filter.mp hm).2
  rw[n]at q;simp at q
theorem zaE {h:Heap}{H:Hp}{b:Addr}{o:Obj}(e:(Z9 h H).get? b=some o):h.get? b=some o/\H b=none:=by
 have e':h.get? b=some o:=PySem.W.of_hideAll (trk h H) e
 refine⟨e',?_⟩
 cases q:H b with
 | none=>rfl
 | some x =>
  have hm:b∈trk h H:=List.mem_filter.mpr ⟨List.mem_range.mpr (Heap.lt_size e'),by simp[q]⟩
  have z:(Z9 h H).get? b=none:=PySem.W.hideAll_none (trk h H) hm
  rw[z]at e;cases e
end L2
namespace L2
open PySem PySem.Spec PyProof.Rows
structure Mod (K:PySem.W.Frag) (mg:Str->Option Value) (base:Heap):Prop where
 kin:K.In base
 glob:base.Ns mainGlobals mg
 blt:∃mb,base.Ns builtinsNs mb/\∀x:Str,x≠"__name__"->mb x=bootBuiltins x
 nolimit:base.NoLimit
structure Cx where
 prog:Program
 w:World
 K:PySem.W.Frag
 mg:Str->Option Value
 base:Heap
 A:Around
 N:List Str
 s₀:Shared
 H₀:Hp
 env:Env
 outer:List Env
 stack:List Env
 ex:List Addr
 fn:Str->Bool
 calm:Bool
 pn:List (Addr×Obj)
 xe:Value->Shared->Prop
def frs (l:List Env):List Addr:=l.filterMap (·.frame)
abbrev Cx.fs (X:Cx):List Addr:=frs X.outer
def Vis (sc:Scope) (x:Str):Prop:=sc.names.lookup x=some .local ∨ sc.names.lookup x=some .cell\/sc.names.lookup x=some .free
def Loc (sc:Scope) (x:Str):Prop:=sc.names.lookup x=some .local ∨ sc.names.lookup x=some .cell
def Look (env:Env) (h:Heap) (m:Str->Option Value) (x:Str) (u:Value):Prop :=
 (env.kindOf x=some .local ∧ m x=some u)\/((env.kindOf x=some .cell\/env.kindOf x=some .free)/\∃c,env.cells.lookup x=some c/\h.IsCell c (some u))
structure Cx.Ok (X:Cx):Prop where
 mod:Mod X.K X.mg X.base
 kind:X.env.scope.kind = .function
 glob:X.env.globals=mainGlobals
 blt:X.env.builtins=builtinsNs
 above:X.s₀.heap.objs.size<=X.env.locals
 inj:∀x y c,X.env.cells.lookup x=some c->X.env.cells.lookup y=some c->x=y
 has:∀x,(X.env.kindOf x=some .cell\/X.env.kindOf x=some .free)->∃c,X.env.cells.lookup x=some c
 cab:∀x c,X.fn x=true->X.env.cells.lookup x=some c->X.s₀.heap.objs.size<=c
 hd:X.calm=true->X.A.handled=none
 frames:X.A.frames=some X.stack
 stk:X.stack=X.outer\/(X.stack=X.env::X.outer/\X.env.frame=some X.env.locals)
 exf:∀b∈X.ex,b≠X.env.locals/\∀x c,X.env.cells.lookup x=some c->c≠b
 bs:∀b o,X.base.get? b=some o->X.s₀.heap.get? b=some o/\X.H₀ b=none
 bsz:X.base.objs.size<=X.s₀.heap.objs.size
 noex:∀b o,X.base.get? b=some o->b∉X.ex
 exfs:∀b∈X.ex,b∉X.fs
 funs:X.s₀.heap.FunFrames X.base X.outer
 frf:∀b∈X.fs,X.H₀ b=none
structure Inv (X:Cx) (pins:List (Addr×Obj)) (σ:List (Option V)) (H:Hp) (s:Shared):Prop where
 ok:X.Ok
 os:s.os=X.s₀.os
 bare:AllBare s.gens
 base:Un X.fs X.ex X.H₀ H X.s₀.heap s.heap
 loc:∃m,s.heap.Ns X.env.locals m/\∀(i:Nat) (x:Str) (v:V),X.N[i]? = some x->σ[i]? = some (some v)->Vis X.env.scope x->∃u,xb v u/\Look X.env s.heap m x u
 cell:∀x c,X.env.cells.lookup x=some c->∃v,s.heap.IsCell c v
 free:H X.env.locals=none
 freeC:∀x c,X.env.cells.lookup x=some c->H c=none
 pin:∀p∈X.pn++pins,s.heap.get? p.1=some p.2/\H p.1=none/\p.1≠X.env.locals/\p.1∉X.fs/\∀v,p.2.data≠.cell v
 hok:HOk X.prog X.w H s.heap
 len:σ.length=X.N.length
section
variable {X:Cx}{pins:List (Addr×Obj)}{σ:List (Option V)}{H H':Hp}{s:Shared}{h':Heap}
theorem Cx.Ok.nofr (ok:X.Ok){b:Addr}{o:Obj}(e:X.base.get? b=some o):b∉X.fs:=λhb=>by
 have:=(ok.funs.mem hb).1
 rw[e]at this;cases this
theorem Inv.bs (I:Inv X pins σ H s):∀b o,X.base.get? b=some o->s.heap.get? b=some o/\H b=none:=λb o e =>
 ⟨I.base.keep b o (I.ok.bs b o e).1 (I.ok.bs b o e).2 (I.ok.nofr e) (I.ok.noex b o e),I.base.free b o (I.ok.bs b o e).1 (I.ok.bs b o e).2 (I.ok.noex b o e)⟩
theorem Inv.bk (I:Inv X pins σ H s):∀b o,X.base.get? b=some o->s.heap.get? b=some o:=λb o e=>(I.bs b o e).1
theorem Inv.mod (I:Inv X pins σ H s):Mod X.K X.mg X.base:=I.ok.mod
theorem Inv.kIn (I:Inv X pins σ H s):X.K.In s.heap:=I.ok.mod.kin.keeps I.bk
theorem Inv.lt (I:Inv X pins σ H s):X.env.locals<s.heap.objs.size:=let ⟨_,hn,_⟩:=I.loc;hn.lt
theorem Inv.sz (I:Inv X pins σ H s):X.s₀.heap.objs.size<=s.heap.objs.size:=Nat.le_trans I.ok.above (Nat.le_of_lt I.lt)
theorem Inv.nofs (I:Inv X pins σ H s){a:Addr}(h:s.heap.objs.size<=a):a∉X.fs:=λhb=>by
 obtain⟨_,o,ho,_⟩:=I.ok.funs.mem hb
 exact absurd (Nat.lt_of_lt_of_le (Heap.lt_size ho) (Nat.le_trans I.sz h)) (Nat.lt_irrefl _)
theorem Inv.cne (I:Inv X pins σ H s):∀x c,X.env.cells.lookup x=some c->c≠X.env.locals:=λx c e z=>by
 obtain⟨v,o,ho,hd⟩:=I.cell x c e
 obtain⟨m,⟨o',es,ep,ho',hd',_⟩,_⟩:=I.loc
 rw[z,ho']at ho;cases ho;rw[hd']at hd;cases hd
theorem Inv.funs (I:Inv X pins σ H s):s.heap.FunFrames X.base X.outer:=by
 have all:∀(l:List Env),(∀b∈frs l,b∈X.fs)->X.s₀.heap.FunFrames X.base l->s.heap.FunFrames X.base l:=by
  intro l
  induction l with
  | nil=>intro _ _;trivial
  | cons env r ih =>
   intro hs hl
   obtain⟨hk,⟨L,o,hf,hn,ho,hd⟩,hr⟩:=hl
   have hL:L∈X.fs:=hs L (by unfold frs;rw[List.filterMap_cons,hf];exact List.mem_cons_self)
   obtain⟨sl,e⟩:=I.base.slot L o ho (I.ok.frf L hL) hL λz=>I.ok.exfs L z hL
   exact⟨hk,⟨L,_,hf,hn,e,hd⟩,ih (λb hb=>hs b (by unfold frs;rw[List.filterMap_cons,hf];exact List.mem_cons_of_mem _ hb)) hr⟩
 exact all X.outer (λ_ hb=>hb) I.ok.funs
theorem Inv.stack (I:Inv X pins σ H s):s.heap.FunFrames X.base X.stack:=by
 rcases I.ok.stk with e | ⟨e,hf⟩
 ·rw[e];exact I.funs
 ·rw[e]
  obtain⟨m,hn,_⟩:=I.loc
  refine .cons (by rw[I.ok.kind];decide) hf hn ?_ I.funs
  exact Heap.get?_none_of_le (Nat.le_trans I.ok.bsz I.ok.above)
theorem Inv.stkSub (I:Inv X pins σ H s):∀b∈frs X.stack,b∈X.env.locals::X.fs:=λb hb=>by
 rcases I.ok.stk with e | ⟨e,hf⟩
 ·rw[e]at hb;exact List.mem_cons_of_mem _ hb
 ·rw[e]at hb
  unfold frs at hb
  rw[List.filterMap_cons,hf]at hb
  exact hb
theorem Inv.stkFree (I:Inv X pins σ H s):∀b∈frs X.stack,H b=none:=λb hb=>by
 rcases List.mem_cons.mp (I.stkSub b hb)with e | hb
 ·rw[e];exact I.free
 ·obtain⟨_,o,ho,_⟩:=I.ok.funs.mem hb
  exact I.base.free b o ho (I.ok.frf b hb) λz=>I.ok.exfs b z hb
theorem Inv.step {g':Array GenState}{t':Nat}{d':Drawn}{ch:List Addr}(I:Inv X pins σ H s)
  (hch:∀b∈ch,(b∈X.ex\/X.s₀.heap.objs.size<=b)/\b≠X.env.locals/\(∀x c,X.env.cells.lookup x=some c->c≠b)/\∀p∈X.pn++pins,p.1≠b)
  (keep:∀b o,b≠X.env.locals->b∉X.fs->b∉ch->s.heap.get? b=some o->H b=none->h'.get? b=some o)
  (slot:∀b o,b≠X.env.locals->b∈X.fs->b∉ch->s.heap.get? b=some o->H b=none->∃sl,h'.get? b=some { o with slots:=sl }) (free:∀b o,b∉ch->s.heap.get? b=some o->H b=none->H' b=none)
  (there:∀b o,b∉ch->s.heap.get? b=some o->∃o',h'.get? b=some o')
  (tups:∀b xs,H b=some (.tup xs)->H' b=some (.tup xs)) (frzs:∀b o u,H b=some (.frz o u)->H' b=some (.frz o u)) (tbls:∀b ps,H b=some (.tbl ps)->∃more,H' b=some (.tbl (ps++more)))
  (ns:∀m,s.heap.Ns X.env.locals m->h'.Ns X.env.locals m) (hok:HOk X.prog X.w H' h') (hg:AllBare g') :
  Inv X pins σ H' { s with heap:=h',gens:=g',drawn:=d',toks:=t' }:=by
 have neL:∀b o,X.s₀.heap.get? b=some o->b≠X.env.locals:=λb o e=>Nat.ne_of_lt (Nat.lt_of_lt_of_le (Heap.lt_size e) I.ok.above)
 have neC:∀b o,X.s₀.heap.get? b=some o->b∉X.ex->b∉ch:=λb o e hx hb=>by
  rcases(hch b hb).1 with z | z
  ·exact hx z
  ·exact absurd (Nat.lt_of_lt_of_le (Heap.lt_size e) z) (Nat.lt_irrefl _)
 have cellK:∀x c,X.env.cells.lookup x=some c->∀v,s.heap.IsCell c v->h'.IsCell c v:=λx c e v ⟨o,ho,hd⟩=>by
  have nch:c∉ch:=λz=>(hch c z).2.2.1 x c e rfl
  by_cases hc:c∈X.fs
  ·obtain⟨sl,q⟩:=slot c o (I.cne x c e) hc nch ho (I.freeC x c e)
   exact⟨_,q,hd⟩
  ·exact⟨o,keep c o (I.cne x c e) hc nch ho (I.freeC x c e),hd⟩
 refine⟨I.ok,I.os,hg,⟨λb o e n hb hx=>?_,λb o e n hb hx=>?_,λb o e n hx=>?_,λb o e hx=>?_,λb xs e=>tups b xs (I.base.tups b xs e),λb o xs e=>frzs b o xs (I.base.frzs b o xs e),λb ps e=>?_⟩,?_,λx c e=>?_,?_,λx c e=>?_,λp hp=>?_,hok,I.len⟩
 ·exact keep b o (neL b o e) hb (neC b o e hx) (I.base.keep b o e n hb hx) (I.base.free b o e n hx)
 ·obtain⟨sl,e1⟩:=I.base.slot b o e n hb hx
  obtain⟨sl',e2⟩:=slot b _ (neL b o e) hb (neC b o e hx) e1 (I.base.free b o e n hx)
  exact⟨sl',e2⟩
 ·obtain⟨o',e1⟩:=I.base.there b o e hx
  exact free b o' (neC b o e hx) e1 (I.base.free b o e n hx)
 ·obtain⟨o',e1⟩:=I.base.there b o e hx
  exact there b o' (neC b o e hx) e1
 ·obtain⟨m1,e1⟩:=I.base.tbls b ps e
  obtain⟨m2,e2⟩:=tbls b _ e1
  exact⟨m1++m2,by rw[e2,Array.append_assoc]⟩
 ·obtain⟨m,hn,hl⟩:=I.loc
  refine⟨m,ns m hn,λi x v e1 e2 e3=>?_⟩
  obtain⟨u,r,l⟩:=hl i x v e1 e2 e3
  refine⟨u,r,?_⟩
  rcases l with l | ⟨k,c,e,z⟩
  ·exact .inl l
  ·exact .inr ⟨k,c,e,cellK x c e _ z⟩
 ·obtain⟨v,z⟩:=I.cell x c e
  exact⟨v,cellK x c e v z⟩
 ·obtain⟨m,⟨o,_,_,ho,_⟩,_⟩:=I.loc
  exact free _ o (λz=>(hch _ z).2.1 rfl) ho I.free
 ·obtain⟨v,o,ho,hd⟩:=I.cell x c e
  exact free c o (λz=>(hch c z).2.2.1 x c e rfl) ho (I.freeC x c e)
 ·obtain⟨e,n,ne,nf,d⟩:=I.pin p hp
  have nch:p.1∉ch:=λz=>(hch p.1 z).2.2.2 p hp rfl
  exact⟨keep p.1 p.2 ne nf nch e n,free p.1 p.2 nch e n,ne,nf,d⟩
theorem Inv.un {t':Nat}(I:Inv X pins σ H s) (u:Un X.fs [] H H' s.heap h') (hok:HOk X.prog X.w H' h'):Inv X pins σ H' { s with heap:=h',toks:=t' }:=by
 obtain⟨m,⟨o,es,ep,ho,r⟩,_⟩:=id I.loc
 obtain⟨sl,hL⟩:=u.any ho I.free (by simp)
 exact I.step (g':=s.gens) (d':=s.drawn) (ch:=[]) (λ_ z=>nomatch z) (λb o _ hb _ e n=>u.keep b o e n hb (by simp)) (λb o _ hb _ e n=>u.slot b o e n hb (by simp)) (λb o _ e n=>u.free b o e n (by simp)) (λb o _ e=>u.there b o e (by simp)) u.tups u.frzs u.tbls (λm' hm=>by
  obtain⟨o',es',ep',ho',r'⟩:=hm
  rw[ho]at ho';cases ho'
  exact⟨_,es',ep',hL,r'⟩) hok I.bare
theorem Inv.call {g':Array GenState}{t':Nat}{d':Drawn}{ch:List Addr}(I:Inv X pins σ H s) (u:Un (frs X.stack) ch H H' s.heap h') (hok:HOk X.prog X.w H' h') (hg:AllBare g')
  (hch:∀b∈ch,(b∈X.ex\/X.s₀.heap.objs.size<=b)/\b≠X.env.locals/\(∀x c,X.env.cells.lookup x=some c->c≠b)/\∀p∈X.pn++pins,p.1≠b) :
  Inv X pins σ H' { s with heap:=h',gens:=g',drawn:=d',toks:=t' }:=by
 obtain⟨m,⟨o,es,ep,ho,r⟩,_⟩:=id I.loc
 obtain⟨sl,hL⟩:=u.any ho I.free λz=>(hch _ z).2.1 rfl
 exact I.step (ch:=ch) hch (λb o hL hb hc e n=>u.keep b o e n (λz=>(List.mem_cons.mp (I.stkSub b z)).elim hL hb) hc) (λb o _ _ hc e n=>u.any e n hc) (λb o hc e n=>u.free b o e n hc) (λb o hc e=>u.there b o e hc) u.tups u.frzs u.tbls (λm' hm=>by
  obtain⟨o',es',ep',ho',r'⟩:=hm
  rw[ho]at ho';cases ho'
  exact⟨_,es',ep',hL,r'⟩) hok hg
theorem Inv.turned {t':Nat}{it:Addr}(I:Inv X pins σ H s) (k:∀b o,b≠it->s.heap.get? b=some o->h'.get? b=some o) (hn:H it=none) (hL:it≠X.env.locals)
  (h1:it∈X.ex\/X.s₀.heap.objs.size<=it) (h2:∀x c,X.env.cells.lookup x=some c->c≠it) (h3:∀p∈X.pn++pins,p.1≠it):Inv X pins σ H { s with heap:=h',toks:=t' }:=by
 have nit:∀b u,H b=some u->b≠it:=λb u e z=>by rw[z,hn]at e;cases e
 refine I.step (g':=s.gens) (d':=s.drawn) (ch:=[it]) (λb hb=>?_) (λb o _ _ hc e _=>k b o (λz=>hc (by simp[z])) e) (λb o _ _ hc e _=>⟨o.slots,k b o (λz=>hc (by simp[z])) e⟩) (λ_ _ _ _ n=>n)
  (λb o hc e=>⟨o,k b o (λz=>hc (by simp[z])) e⟩) (λ_ _ e=>e) (λ_ _ _ e=>e) (λb ps e=>⟨#[],by rw[e];simp⟩) (λm hm=>?_) (λb u e=>?_) I.bare
 ·have e:b=it:=by simpa using hb
  subst e
  exact⟨h1,hL,h2,h3⟩
 ·obtain⟨o,es,ep,ho,r⟩:=hm
  exact⟨o,es,ep,k _ o (Ne.symm hL) ho,r⟩
 ·refine(I.hok b u e).stay (λc v hc q=>k c v ?_ q) (λ_ q=>q) λ_ _ q=>q
  rcases hc with z | z
  ·rw[z];exact nit b u e
  ·exact nit c _ z
theorem Inv.tok (I:Inv X pins σ H s) (t:Nat):Inv X pins σ H { s with toks:=t }:=I.un (h':=s.heap) (t':=t) Un.refl I.hok
theorem Inv.kept {t':Nat}(I:Inv X pins σ H s) (k:∀b u,s.heap.get? b=some u->h'.get? b=some u):Inv X pins σ H { s with heap:=h',toks:=t' }:=I.un (Un.kept k) (I.hok.kept k)
theorem Inv.laid {a:Addr}{o:HO}{t':Nat}(I:Inv X pins σ H s) (k:∀b u,s.heap.get? b=some u->h'.get? b=some u) (hp:s.heap.objs.size<=a) (new:xE X.prog X.w (upd H a o) h' a o) :
  Inv X pins σ (upd H a o) { s with heap:=h',toks:=t' }:=I.un (Un.laid k hp (I.hok.fresh hp)) (I.hok.laid k hp new)
theorem Inv.write {x e:Addr}{o:HO}{t':Nat}(I:Inv X pins σ H s) (mu:Mut (H x)) (he:e=x\/H e=some (.own x)) (k:∀b u,b≠e->s.heap.get? b=some u->h'.get? b=some u) (heo:∃u,h'.get? e=some u)
  (new:xE X.prog X.w (upd H x o) h' x o):Inv X pins σ (upd H x o) { s with heap:=h',toks:=t' }:=I.un (Un.write mu he k heo) (I.hok.write mu he k heo new)
theorem Inv.pins_of {pins':List (Addr×Obj)} (I:Inv X pins σ H s) (h:∀p∈pins',s.heap.get? p.1=some p.2/\H p.1=none/\p.1≠X.env.locals/\p.1∉X.fs/\∀v,p.2.data≠.cell v):Inv X pins' σ H s :=
 ⟨I.ok,I.os,I.bare,I.base,I.loc,I.cell,I.free,I.freeC,λp hp=>(List.mem_append.mp hp).elim (λz=>I.pin p (List.mem_append_left _ z)) (h p),I.hok,I.len⟩
theorem XE {N:List Str}(hN:N.Nodup){i j:Nat}{x:Str}(a:N[i]? = some x) (b:N[j]? = some x):i=j:=by
 obtain⟨h1,e1⟩:=List.getElem?_eq_some_iff.mp a
 obtain⟨h2,e2⟩:=List.getElem?_eq_some_iff.mp b
 exact(List.getElem_inj hN).mp (e1.trans e2.symm)
theorem VG {M:Model}{A:Around}{E:Value->Shared->Prop}{i:Nat}{x:Str}{v:V}{u:Value}{Q:Unit->Shared->Prop}(I:Inv X pins σ H s) (hN:X.N.Nodup) (hi:X.N[i]? = some x) (hx:Loc X.env.scope x) (r:xb v u)
  (h:∀s',Inv X pins (σ.set i (some v)) H s'->(∃a,Heap.SameBut a s.heap s'.heap/\(a=X.env.locals\/X.env.cells.lookup x=some a))->Q () s') (hf:X.fn x=true\/X.env.scope.names.lookup x=some .local := by first | exact .inl rfl | exact .inr rfl | assumption):wpAny M A (storeName X.env x u) Q E s:=by
 obtain⟨m,hn,hl⟩:=id I.loc
 have hcls:(X.env.scope.kind == .class || (X.env.scope.kind == .module&&X.env.locals != X.env.globals))=false:=by rw[I.ok.kind];rfl
 have hiσ:i<σ.length:=by rw[I.len];exact(List.getElem?_eq_some_iff.mp hi).1
 have cne:=I.cne
 have tracked:∀{a:Addr}{h':Heap},(∃o,s.heap.get? a=some o/\H a=none)->Heap.SameBut a s.heap h'->HOk X.prog X.w H h':=λ{a h'} ha hs b ob e=>by
  obtain⟨_,_,hfree⟩:=ha
  refine(I.hok b ob e).stay (λc w' hc q=>(hs.2 c ?_).trans q) (λ_ q=>q) λ_ _ q=>q
  rintro rfl
  rcases hc with rfl | hc
  ·rw[hfree]at e;cases e
  ·rw[hfree]at hc;cases hc
 rcases hx with hk | hk
 ·refine wpAny_storeName_local hk hn (λh' hn' hs=>?_) hcls
  obtain⟨oL,_,_,hoL,_⟩:=id hn
  refine h _ ⟨I.ok,I.os,I.bare,⟨λb o e n hb hx=>?_,λb o e n hb hx=>?_,I.base.free,λb o e hx=>?_,I.base.tups,I.base.frzs,I.base.tbls⟩,⟨_,hn',λj y v' e1 e2 e3=>?_⟩,λy c e=>?_,I.free,I.freeC,λp hp=>?_,tracked ⟨oL,hoL,I.free⟩ hs,by simpa using I.len⟩ ⟨_,hs,.inl rfl⟩
  ·exact(hs.2 b (Nat.ne_of_lt (Nat.lt_of_lt_of_le (Heap.lt_size e) I.ok.above))).trans (I.base.keep b o e n hb hx)
  ·obtain⟨sl,e1⟩:=I.base.slot b o e n hb hx
   exact⟨sl,(hs.2 b (Nat.ne_of_lt (Nat.lt_of_lt_of_le (Heap.lt_size e) I.ok.above))).trans e1⟩
  ·obtain⟨o',e1⟩:=I.base.there b o e hx
   exact⟨o',(hs.2 b (Nat.ne_of_lt (Nat.lt_of_lt_of_le (Heap.lt_size e) I.ok.above))).trans e1⟩
  ·by_cases hj:j=i
   ·subst hj
    rw[hi]at e1;cases e1
    rw[List.getElem?_set_self hiσ]at e2
    cases e2
    exact⟨u,r,.inl ⟨hk,by simp⟩⟩
   ·rw[List.getElem?_set_ne (Ne.symm hj)]at e2
    obtain⟨u',r',q⟩:=hl j y v' e1 e2 e3
    refine⟨u',r',?_⟩
    rcases q with⟨k,e⟩ | ⟨k,c,e,z⟩
    ·refine .inl ⟨k,?_⟩
     have:y≠x:=λe=>hj (XE hN e1 (e ▸ hi))
     simp[this,e]
    ·exact .inr ⟨k,c,e,z.sameBut hs (cne y c e)⟩
  ·obtain⟨w',z⟩:=I.cell y c e
   exact⟨w',z.sameBut hs (cne y c e)⟩
  ·obtain⟨e,n,ne,nf,d⟩:=I.pin p hp
   exact⟨(hs.2 p.1 ne).trans e,n,ne,nf,d⟩
 ·have hfn:X.fn x=true:=by
   rcases hf with z | z
   ·exact z
   ·rw[z]at hk;cases hk
  obtain⟨c,hc⟩:=I.ok.has x (.inl hk)
  obtain⟨w',z⟩:=I.cell x c hc
  refine wpAny_storeName_cell I.ok.kind hk hc z (λh' hc' hs=>?_)
  obtain⟨oc,hoc,hocd⟩:=id z
  refine h { s with heap:=h' } ⟨I.ok,I.os,I.bare,⟨λb o e n hb hx=>?_,λb o e n hb hx=>?_,I.base.free,λb o e hx=>?_,I.base.tups,I.base.frzs,I.base.tbls⟩,⟨m,hn.sameBut hs (Ne.symm (cne x c hc)),λj y v' e1 e2 e3=>?_⟩,λy c' e=>?_,I.free,I.freeC,λp hp=>?_,tracked ⟨oc,hoc,I.freeC x c hc⟩ hs,by simpa using I.len⟩ ⟨c,hs,.inr hc⟩
  ·exact(hs.2 b (Nat.ne_of_lt (Nat.lt_of_lt_of_le (Heap.lt_size e) (I.ok.cab x c hfn hc)))).trans (I.base.keep b o e n hb hx)
  ·obtain⟨sl,e1⟩:=I.base.slot b o e n hb hx
   exact⟨sl,(hs.2 b (Nat.ne_of_lt (Nat.lt_of_lt_of_le (Heap.lt_size e) (I.ok.cab x c hfn hc)))).trans e1⟩
  ·obtain⟨o',e1⟩:=I.base.there b o e hx
   exact⟨o',(hs.2 b (Nat.ne_of_lt (Nat.lt_of_lt_of_le (Heap.lt_size e) (I.ok.cab x c hfn hc)))).trans e1⟩
  ·by_cases hj:j=i
   ·subst hj
    rw[hi]at e1;cases e1
    rw[List.getElem?_set_self hiσ]at e2
    cases e2
    exact⟨u,r,.inr ⟨.inl hk,c,hc,hc'⟩⟩
   ·rw[List.getElem?_set_ne (Ne.symm hj)]at e2
    obtain⟨u',r',q⟩:=hl j y v' e1 e2 e3
    refine⟨u',r',?_⟩
    rcases q with q | ⟨k,c',e,z'⟩
    ·exact .inl q
    ·refine .inr ⟨k,c',e,z'.sameBut hs ?_⟩
     rintro rfl
     exact hj (XE hN e1 (I.ok.inj _ _ _ e hc ▸ hi))
  ·by_cases hcc:c'=c
   ·subst hcc;exact⟨_,hc'⟩
   ·obtain⟨w2,z2⟩:=I.cell y c' e
    exact⟨w2,z2.sameBut hs hcc⟩
  ·obtain⟨e,n,ne,nf,d⟩:=I.pin p hp
   refine⟨(hs.2 p.1 ?_).trans e,n,ne,nf,d⟩
   intro q
   rw[q,hoc]at e
   have q':oc=p.2:=Option.some.inj e
   exact d w' (by rw[<-q'];exact hocd)
theorem jm {M:Model}{A:Around}{E:Value->Shared->Prop}{i:Nat}{x:Str}{v:V}{u:Value}{Q:Unit->Shared->Prop}(I:Inv X pins σ H s) (hN:X.N.Nodup) (hi:X.N[i]? = some x) (hx:Loc X.env.scope x) (r:xb v u)
  (h:∀s',Inv X pins (σ.set i (some v)) H s'->Q () s') (hf:X.fn x=true\/X.env.scope.names.lookup x=some .local := by first | exact .inl rfl | exact .inr rfl | assumption):wpAny M A (storeName X.env x u) Q E s :=
 VG I hN hi hx r (λs' I' _=>h s' I') hf
theorem Inv.call' {s':Shared}{ch:List Addr}(I:Inv X pins σ H s) (ho:s'.os=s.os) (u:Un (frs X.stack) ch H H' s.heap s'.heap) (hok:HOk X.prog X.w H' s'.heap) (hg:AllBare s'.gens)
  (hch:∀b∈ch,(b∈X.ex\/X.s₀.heap.objs.size<=b)/\b≠X.env.locals/\(∀x c,X.env.cells.lookup x=some c->c≠b)/\∀p∈X.pn++pins,p.1≠b):Inv X pins σ H' s':=by
 obtain⟨h',g',d',t',o'⟩:=s'
 have e:o'=s.os:=ho
 subst e
 exact I.call (g':=g') (t':=t') (d':=d') u hok hg hch
end
abbrev XK:=Value->Option Addr->Hp->Prop
abbrev St:=List (Option V)
abbrev VK:=V->Hp->Prop
abbrev TE:=St->Hp->VK->Prop
abbrev TT:=St->Hp->(Bool->Hp->Prop)->Prop
abbrev TA:=St->Hp->(List V->Hp->Prop)->Prop
structure vC where
 nx:St->Hp->Prop
 rt:VK
 bk:St->Hp->Prop:=λ_ _=>False
 ct:St->Hp->Prop:=λ_ _=>False
abbrev TS:=vC->St->Hp->Prop
def EP (X:Cx) (pins:List (Addr×Obj)) (σ:St) (Q:VK) (u:Value) (s':Shared):Prop:=∃v H',Inv X pins σ H' s'/\xb v u/\Q v H'
def TP (X:Cx) (pins:List (Addr×Obj)) (σ:St) (Q:Bool->Hp->Prop) (b:Bool) (s':Shared):Prop:=∃H',Inv X pins σ H' s'/\Q b H'
def AP (X:Cx) (pins:List (Addr×Obj)) (σ:St) (Q:List V->Hp->Prop) (us:List Value) (s':Shared):Prop:=∃vs H',Inv X pins σ H' s'/\zP vs us/\Q vs H'
def SP (X:Cx) (pins:List (Addr×Obj)) (D:vC) (f:Flow) (s':Shared):Prop :=
 match f with
 | .next=>∃σ' H',Inv X pins σ' H' s'/\D.nx σ' H'
 | .brk=>∃σ' H',Inv X pins σ' H' s'/\D.bk σ' H'
 | .cont=>∃σ' H',Inv X pins σ' H' s'/\D.ct σ' H'
 | .ret u=>∃v σ' H',Inv X pins σ' H' s'/\xb v u/\D.rt v H'
def PE (X:Cx) (e:Expr) (t:TE):Prop :=
 ∀(pins:List (Addr×Obj)) (s:Shared) (σ:St) (H:Hp) (Q:VK),Inv X pins σ H s->t σ H Q->wpAny (model X.prog X.w) X.A (eval e X.env) (EP X pins σ Q) X.xe s
def PT (X:Cx) (e:Expr) (t:TT):Prop :=
 ∀(pins:List (Addr×Obj)) (s:Shared) (σ:St) (H:Hp) (Q:Bool->Hp->Prop),Inv X pins σ H s->t σ H Q->wpAny (model X.prog X.w) X.A (isTrue e X.env (eval e X.env)) (TP X pins σ Q) X.xe s
def PW (X:Cx) (e:Expr) (t:TT):Prop :=
 ∀(whole:Sem Value) (pins:List (Addr×Obj)) (s:Shared) (σ:St) (H:Hp) (Q:Bool->Hp->Prop),Inv X pins σ H s->t σ H Q->wpAny (model X.prog X.w) X.A (isTrue e X.env whole) (TP X pins σ Q) X.xe s
theorem PW.pt {X:Cx}{e:Expr}{t:TT}(h:PW X e t):PT X e t:=h _
def PA (X:Cx) (es:List Expr) (t:TA):Prop :=
 ∀(pos:Pos) (pins:List (Addr×Obj)) (s:Shared) (σ:St) (H:Hp) (Q:List V->Hp->Prop),Inv X pins σ H s->t σ H Q->wpAny (model X.prog X.w) X.A (spliced (backTo pos (starEach es X.env))) (AP X pins σ Q) X.xe s
def PS (X:Cx) (st:Stmt) (t:TS):Prop :=
 ∀(pins:List (Addr×Obj)) (s:Shared) (σ:St) (H:Hp) (D:vC),Inv X pins σ H s->t D σ H->wpAny (model X.prog X.w) X.A (exec st X.env) (SP X pins D) X.xe s
def PSs (X:Cx) (st:List Stmt) (t:TS):Prop :=
 ∀(pins:List (Addr×Obj)) (s:Shared) (σ:St) (H:Hp) (D:vC),Inv X pins σ H s->t D σ H->wpAny (model X.prog X.w) X.A (execs st X.env) (SP X pins D) X.xe s
theorem thn {α:Type}{t:Sem α}{Q Q':α->Shared->Prop}{M:Model}{A:Around}{E:Value->Shared->Prop}{s:Shared}(h:wpAny M A t Q E s) (hQ:∀a s,Q a s->Q' a s):wpAny M A t Q' E s:=wpAny_mono h hQ λ_ _ x=>x
end L2
namespace L2
open PySem PySem.Spec PyProof.Rows
section
variable {X:Cx}
def vn (i:Nat):TE:=λσ H Q=>∃v,σ[i]? = some (some v)/\Q v H
def tC (v:V):TE:=λ_ H Q=>Q v H
theorem zcK {i:Nat}{x:Str}{pos:Pos}(hN:X.N[i]? = some x) (hv:Vis X.env.scope x) (hd:(x == ("__debug__":Str))=false:=by decide) (hcd:(x == ("__classdict__":Str))=false:=by decide):PE X (.Name x pos) (vn i):=by
 intro pins s σ H Q I h
 obtain⟨v,e,h⟩:=h
 obtain⟨m,hn,hl⟩:=I.loc
 obtain⟨u,r,l⟩:=hl i x v hN e hv
 have fin:EP X pins σ Q u s:=⟨v,H,I,r,h⟩
 rcases l with⟨hk,hm⟩ | ⟨hk,c,hc,hcell⟩
 ·exact wpAny_Name (wpAny_loadName_local I.ok.kind hk hn hm fin) hd
 ·rcases hk with hk | hk
  ·exact wpAny_Name (wpAny_loadName_cell I.ok.kind hk hc hcell fin) hd
  ·exact wpAny_Name (wpAny_loadName_free I.ok.kind hk hc hcell fin hcd) hd
theorem zf {i j pos}:PE X (.Constant (.int i) j pos) (tC (.int i)):=λ_ _ _ H _ I h=>wpAny_Constant_int ⟨.int i,H,I.tok _,⟨_,rfl⟩,h⟩
theorem vh {b j pos}:PE X (.Constant (.bool b) j pos) (tC (.bl b)):=λ_ _ _ H _ I h=>Constant_bool ⟨.bl b,H,I,rfl,h⟩
theorem xm {j pos}:PE X (.Constant .none j pos) (tC .non):=λ_ _ _ H _ I h=>Constant_none ⟨.non,H,I,rfl,h⟩
theorem zw {x j pos}:PE X (.Constant (.str x) j pos) (tC (.str x)):=λ_ _ _ H _ I h=>Calls.Constant_str ⟨.str x,H,I.tok _,⟨_,rfl⟩,h⟩
def Gl (X:Cx) (x:Str):Prop:=X.env.kindOf x=some .globalImplicit
theorem jd {E:Value->Shared->Prop}{pins:List (Addr×Obj)}{s:Shared}{σ:St}{H:Hp}{x:Str}{u:Value}{pos:Pos}{Q:Value->Shared->Prop}(I:Inv X pins σ H s) (hg:Gl X x) (hm:X.mg x=some u) (h:Q u s)
  (hd:(x == ("__debug__":Str))=false:=by decide):wpAny (model X.prog X.w) X.A (eval (.Name x pos) X.env) Q E s :=
 Calls.Name_function_global I.ok.kind hg (Calls.loadGlobal_global (by rw[I.ok.glob];exact I.mod.glob.keeps I.bk) hm h) hd
theorem Za {E:Value->Shared->Prop}{pins:List (Addr×Obj)}{s:Shared}{σ:St}{H:Hp}{x:Str}{u:Value}{pos:Pos}{Q:Value->Shared->Prop}(I:Inv X pins σ H s) (hg:Gl X x) (hm:X.mg x=none) (hv:bootBuiltins x=some u) (h:Q u s)
  (hn:x≠"__name__":=by decide) (hd:(x == ("__debug__":Str))=false:=by decide):wpAny (model X.prog X.w) X.A (eval (.Name x pos) X.env) Q E s:=by
 obtain⟨mb,h1,h2⟩:=I.mod.blt
 exact Calls.Name_function_global I.ok.kind hg (Calls.loadGlobal_builtin (by rw[I.ok.glob];exact I.mod.glob.keeps I.bk) hm (by rw[I.ok.blt];exact h1.keeps I.bk) ((h2 x hn).trans hv) h) hd
theorem qW {x:Str}{v:V}{u:Value}{pos:Pos}(hg:Gl X x) (hm:X.mg x=some u) (r:xb v u) (hd:(x == ("__debug__":Str))=false:=by decide):PE X (.Name x pos) (tC v) :=
 λ_ _ _ H _ I h=>jd I hg hm ⟨v,H,I,r,h⟩ hd
theorem vN {x:Str}{v:V}{u:Value}{pos:Pos}(hg:Gl X x) (hm:X.mg x=none) (hv:bootBuiltins x=some u) (r:xb v u) (hn:x≠"__name__":=by decide) (hd:(x == ("__debug__":Str))=false:=by decide):PE X (.Name x pos) (tC v) :=
 λ_ _ _ H _ I h=>Za I hg hm hv ⟨v,H,I,r,h⟩ hn hd
variable {a b:Expr}{ta tb:TE}{pos:Pos}
variable {tA tB':TT}{rest:List Expr}
def tAnd (t u:TT):TT:=λσ H Q=>t σ H λc H1=>if c=true then u σ H1 Q else Q false H1
def tOr (t u:TT):TT:=λσ H Q=>t σ H λc H1=>if c=true then Q true H1 else u σ H1 Q
def tNot (t:TT):TT:=λσ H Q=>t σ H λc H1=>Q (!c) H1
theorem va (ha:PT X a tA):PW X (.BoolOp .And [a] pos) tA:=by
 intro wh pins s σ H Q I h
 refine isTrue_and (thn (ha pins s σ H Q I h) λc s1 e=>?_)
 cases c with
 | true=>exact isTrue_and_nil e
 | false=>exact e
theorem qD (ha:PT X a tA):PW X (.BoolOp .Or [a] pos) tA:=by
 intro wh pins s σ H Q I h
 refine isTrue_or (thn (ha pins s σ H Q I h) λc s1 e=>?_)
 cases c with
 | false=>exact isTrue_or_nil e
 | true=>exact e
theorem vx (ha:PT X a tA) (hb:PW X (.BoolOp .And (b::rest) pos) tB'):PW X (.BoolOp .And (a::b::rest) pos) (tAnd tA tB'):=by
 intro wh pins s σ H Q I h
 refine isTrue_and (thn (ha pins s σ H _ I h) λc s1 ⟨H1,I1,q1⟩=>?_)
 cases c with
 | true=>exact hb wh pins s1 σ H1 Q I1 q1
 | false=>exact⟨H1,I1,q1⟩
theorem qB (ha:PT X a tA) (hb:PW X (.BoolOp .Or (b::rest) pos) tB'):PW X (.BoolOp .Or (a::b::rest) pos) (tOr tA tB'):=by
 intro wh pins s σ H Q I h
 refine isTrue_or (thn (ha pins s σ H _ I h) λc s1 ⟨H1,I1,q1⟩=>?_)
 cases c with
 | true=>exact⟨H1,I1,q1⟩
 | false=>exact hb wh pins s1 σ H1 Q I1 q1
theorem xh (ha:PT X a tA):PT X (.UnaryOp .Not a pos) (tNot tA):=by
 intro pins s σ H Q I h
 exact isTrue_not (ha pins s σ H (λc H1=>Q (!c) H1) I h)
def zd5 (ta tb:TE):TE:=λσ H Q=>ta σ H λx H1=>∃c,x = .bl c/\if c=true then tb σ H1 Q else Q (.bl false) H1
def tOrV (ta tb:TE):TE:=λσ H Q=>ta σ H λx H1=>∃c,x = .bl c/\if c=true then Q (.bl true) H1 else tb σ H1 Q
def zd9 (ta:TE):TE:=λσ H Q=>ta σ H λx H1=>∃c,x = .bl c/\Q (.bl (!c)) H1
theorem qR {op}{t:TE}(h:PE X a t):PE X (.BoolOp op [a] pos) t:=λpins s σ H Q I hw=>BoolOp_one (h pins s σ H Q I hw)
theorem qi (ha:PE X a ta) (hb:PE X (.BoolOp .And (b::rest) pos) tb):PE X (.BoolOp .And (a::b::rest) pos) (zd5 ta tb):=by
 intro pins s σ H Q I h
 refine BoolOp_and (thn (ha pins s σ H _ I h) λv s1 ⟨x,H1,I1,r1,q1⟩=>?_)
 obtain⟨c,rfl,q1⟩:=q1
 cases r1
 refine wpAny_truthy_bool ?_
 cases c with
 | true=>exact hb pins s1 σ H1 Q I1 q1
 | false=>exact⟨.bl false,H1,I1,rfl,q1⟩
theorem Jy (ha:PE X a ta) (hb:PE X (.BoolOp .Or (b::rest) pos) tb):PE X (.BoolOp .Or (a::b::rest) pos) (tOrV ta tb):=by
 intro pins s σ H Q I h
 refine BoolOp_or (thn (ha pins s σ H _ I h) λv s1 ⟨x,H1,I1,r1,q1⟩=>?_)
 obtain⟨c,rfl,q1⟩:=q1
 cases r1
 refine wpAny_truthy_bool ?_
 cases c with
 | false=>exact hb pins s1 σ H1 Q I1 q1
 | true=>exact⟨.bl true,H1,I1,rfl,q1⟩
theorem zcJ (ha:PE X a ta):PE X (.UnaryOp .Not a pos) (zd9 ta):=by
 intro pins s σ H Q I h
 refine UnaryOp_ (thn (ha pins s σ H _ I h) λv s1 ⟨x,H1,I1,r1,q1⟩=>?_)
 obtain⟨c,rfl,q1⟩:=q1
 cases r1
 exact not_of (wpAny_truthy_bool ⟨.bl (!c),H1,I1,rfl,q1⟩)
end
end L2
namespace L2
open PySem PySem.Spec PyProof.Rows
def SqL (K:PySem.W.Frag) (H:Hp) (a:Addr) (xs:List V):Prop :=
 Rd H a (.lst xs) ∨
  ∃(o:Obj) (its:Array Value) (n:Nat),K.lookup a=some o/\o.cls = .type "list"/\o.dict=none/\o.data = .seq its n/\its.size<=sizeLine/\zP xs its.toList
def SqT (K:PySem.W.Frag) (H:Hp) (a:Addr) (xs:List V):Prop :=
 Rd H a (.tup xs) ∨
  ∃(o:Obj) (its:Array Value) (n:Nat),K.lookup a=some o/\o.cls = .type "tuple"/\o.data = .seq its n/\its.size<=sizeLine/\zP xs its.toList
def absV:Value->Option V
 | .none=>some .non
 | .bool b=>some (.bl b)
 | .int i _=>some (.int i)
 | .str x _=>some (.str x)
 | .bytes b _=>some (.byt b)
 | .float b _=>some (.flt b)
 | .ref a=>some (.ref a)
 | .type n=>some (.ty n)
 | _=>none
theorem xb.abs {x:V}{u:Value}(r:xb x u):absV u=some x:=by
 cases x with
 | non=>cases r;rfl
 | bl _=>cases r;rfl
 | int _=>obtain⟨t,rfl⟩:=r;rfl
 | str _=>obtain⟨t,rfl⟩:=r;rfl
 | byt _=>obtain⟨t,rfl⟩:=r;rfl
 | flt _=>obtain⟨t,rfl⟩:=r;rfl
 | ref _=>cases r;rfl
 | ty _=>cases r;rfl
theorem xb.inj {x y:V}{u:Value}(r:xb x u) (q:xb y u):x=y:=Option.some.inj (r.abs.symm.trans q.abs)
theorem zP.inj:∀{xs ys:List V}{us:List Value},zP xs us->zP ys us->xs=ys
 | _,_,_,.nil,.nil=>rfl
 | _,_,_,.cons r t,.cons r' t'=>by rw[r.inj r',zP.inj t t']
section
variable {X:Cx}{pins:List (Addr×Obj)}{σ:St}{H:Hp}{s:Shared}{a:Addr}{xs ys:List V}
theorem SqL.of {K:PySem.W.Frag}(h:H a=some (.lst xs)):SqL K H a xs:=.inl (.inl h)
theorem SqT.of {K:PySem.W.Frag}(h:H a=some (.tup xs)):SqT K H a xs:=.inl (.inl h)
theorem Inv.list (I:Inv X pins σ H s) (h:SqL X.K H a xs):∃its:List Value,zP xs its/\PlainL s.heap a its.toArray/\xs.length<=sizeLine:=by
 rcases h with h | ⟨o,its,n,hk,hc,hd,hs,hz,r⟩
 ·obtain⟨z,its,n,r,e⟩:=h.ok I.hok
  exact⟨its,r,⟨_,n,e,rfl,rfl,rfl⟩,z⟩
 ·refine⟨its.toList,r,⟨o,n,I.kIn a o hk,hc,hd,by simpa using hs⟩,?_⟩
  have e:=r.length
  simp only[Array.length_toList]at e
  omega
theorem Inv.tuple (I:Inv X pins σ H s) (h:SqT X.K H a xs):∃its:List Value,zP xs its/\IsTup s.heap a its.toArray/\xs.length<=sizeLine:=by
 rcases h with h | ⟨o,its,n,hk,hc,hs,hz,r⟩
 ·obtain⟨z,its,r,p⟩:=h.ok I.hok
  exact⟨its,r,p,z⟩
 ·refine⟨its.toList,r,⟨o,I.kIn a o hk,hc,n,by simpa using hs⟩,?_⟩
  have e:=r.length
  simp only[Array.length_toList]at e
  omega
theorem Inv.list_inj (I:Inv X pins σ H s) (h:SqL X.K H a xs) (h':SqL X.K H a ys):xs=ys:=by
 obtain⟨its,r,⟨o,n,e,_,_,d⟩,_⟩:=I.list h
 obtain⟨its',r',⟨o',n',e',_,_,d'⟩,_⟩:=I.list h'
 rw[e]at e';cases e'
 rw[d]at d'
 injection d' with d1 _
 have:its=its':=by simpa using congrArg Array.toList d1
 subst this
 exact r.inj r'
theorem Inv.tuple_inj (I:Inv X pins σ H s) (h:SqT X.K H a xs) (h':SqT X.K H a ys):xs=ys:=by
 obtain⟨its,r,⟨o,e,_,n,d⟩,_⟩:=I.tuple h
 obtain⟨its',r',⟨o',e',_,n',d'⟩,_⟩:=I.tuple h'
 rw[e]at e';cases e'
 rw[d]at d'
 injection d' with d1 _
 have:its=its':=by simpa using congrArg Array.toList d1
 subst this
 exact r.inj r'
end
abbrev Cx.wish (X:Cx) (E:Value->Shared->Prop):Cx:={ X with xe:=E }
abbrev Cx.nox (X:Cx):Cx:=X.wish λ_ _=>False
theorem Cx.Ok.wish {X:Cx}(ok:X.Ok) (E:Value->Shared->Prop):(X.wish E).Ok :=
 ⟨ok.mod,ok.kind,ok.glob,ok.blt,ok.above,ok.inj,ok.has,ok.cab,ok.hd,ok.frames,ok.stk,ok.exf,ok.bs,ok.bsz,ok.noex,ok.exfs,ok.funs,ok.frf⟩
theorem Cx.Ok.unwish {X:Cx}{E:Value->Shared->Prop}(ok:(X.wish E).Ok):X.Ok :=
 ⟨ok.mod,ok.kind,ok.glob,ok.blt,ok.above,ok.inj,ok.has,ok.cab,ok.hd,ok.frames,ok.stk,ok.exf,ok.bs,ok.bsz,ok.noex,ok.exfs,ok.funs,ok.frf⟩
section
variable {X:Cx}{pins:List (Addr×Obj)}{σ:St}{H:Hp}{s:Shared}{E:Value->Shared->Prop}
theorem Inv.wish (I:Inv X pins σ H s) (E:Value->Shared->Prop):Inv (X.wish E) pins σ H s:=⟨I.ok.wish E,I.os,I.bare,I.base,I.loc,I.cell,I.free,I.freeC,I.pin,I.hok,I.len⟩
theorem Inv.unwish (I:Inv (X.wish E) pins σ H s):Inv X pins σ H s:=⟨I.ok.unwish,I.os,I.bare,I.base,I.loc,I.cell,I.free,I.freeC,I.pin,I.hok,I.len⟩
theorem SP.unwish {D:vC}{f:Flow}{s':Shared}(h:SP (X.wish E) pins D f s'):SP X pins D f s':=by
 cases f with
 | next=>obtain⟨σ',H',I,q⟩:=h;exact⟨σ',H',I.unwish,q⟩
 | brk=>obtain⟨σ',H',I,q⟩:=h;exact⟨σ',H',I.unwish,q⟩
 | cont=>obtain⟨σ',H',I,q⟩:=h;exact⟨σ',H',I.unwish,q⟩
 | ret u=>obtain⟨v,σ',H',I,r,q⟩:=h;exact⟨v,σ',H',I.unwish,r,q⟩
theorem PSs.nox {st:List Stmt}{t:TS}(h:PSs X.nox st t):PSs X st t:=λpins s σ H D I hw =>
 wpAny_mono (h pins s σ H D (I.wish _) hw) (λ_ _ q=>q.unwish) λ_ _ z=>False.elim z
end
section
variable {X:Cx}{st:Stmt}{rest:List Stmt}{t u:TS}{e:Expr}{te:TE}{pos:Pos}
def zac:TS:=λD σ H=>D.nx σ H
def Xo (t u:TS):TS:=λD σ H=>t { D with nx:=u D } σ H
theorem zD:PSs X [] zac:=λ_ _ σ H _ I h=>wpAny_execs_nil ⟨σ,H,I,h⟩
theorem zh (h1:PS X st t) (h2:PSs X rest u):PSs X (st::rest) (Xo t u):=by
 intro pins s σ H D I h
 refine wpAny_execs_cons (thn (h1 pins s σ H { D with nx:=u D } I h) λf s1 q=>?_)
 cases f with
 | next =>
  obtain⟨σ',H',I',q⟩:=q
  exact h2 pins s1 σ' H' D I' q
 | ret v=>exact q
 | brk=>exact q
 | cont=>exact q
theorem zi (h1:PS X st t):PSs X [st] t:=by
 intro pins s σ H D I h
 refine wpAny_execs_cons (thn (h1 pins s σ H D I h) λf s1 q=>?_)
 cases f with
 | next=>exact wpAny_execs_nil q
 | ret v=>exact q
 | brk=>exact q
 | cont=>exact q
theorem Inv.quiet {pins:List (Addr×Obj)}{σ:St}{H:Hp}{s:Shared}(I:Inv X pins σ H s):interactive X.env=false:=by simp[interactive,I.ok.kind]
def zd6 (te:TE):TS:=λD σ H=>te σ H λ_ H1=>D.nx σ H1
theorem jQ (he:PE X e te) (hs:swapsWith e none pos.line X.env=pure false:=by rfl):PS X (.Expr e pos) (zd6 te):=by
 intro pins s σ H D I h
 exact wpAny_Expr_any (thn (he pins s σ H _ I h) λv s1 ⟨x,H1,I1,r1,q1⟩=>⟨σ,H1,I1,q1⟩) I.quiet hs
def zad (te:TE):TS:=λD σ H=>te σ H D.rt
theorem zo (he:PE X e te):PS X (.Return (some e) pos) (zad te):=by
 intro pins s σ H D I h
 exact wpAny_Return_some (thn (he pins s σ H _ I h) λv s1 ⟨x,H1,I1,r1,q1⟩=>⟨x,σ,H1,I1,r1,q1⟩)
def zd7 (c:TT) (t u:TS):TS:=λD σ H=>c σ H λb H1=>if b=true then t D σ H1 else u D σ H1
theorem zW {c:Expr}{a b:List Stmt}{tc:TT}(hc:PT X c tc) (ha:PSs X a t) (hb:PSs X b u):PS X (.If c a b pos) (zd7 tc t u):=by
 intro pins s σ H D I h
 refine wpAny_If (thn (hc pins s σ H _ I h) λd s1 ⟨H1,I1,q1⟩=>?_)
 cases d with
 | true=>exact ha pins s1 σ H1 D I1 q1
 | false=>exact hb pins s1 σ H1 D I1 q1
def zc5:TS:=λ_ _ _=>False
theorem jA {sts:List Stmt}:PSs X sts zc5:=λ_ _ _ _ _ _ h=>h.elim
end
abbrev TG:=V->St->Hp->(St->Hp->Prop)->Prop
abbrev TGs:=List V->St->Hp->(St->Hp->Prop)->Prop
def PG (X:Cx) (target:Expr) (t:TG):Prop :=
 ∀(pins:List (Addr×Obj)) (s:Shared) (σ:St) (H:Hp) (v:V) (u:Value) (Q:St->Hp->Prop),Inv X pins σ H s->xb v u->t v σ H Q →
  wpAny (model X.prog X.w) X.A (assign target X.env u) (λ_ s'=>∃σ' H',Inv X pins σ' H' s'/\Q σ' H') X.xe s
def PGs (X:Cx) (ts:List Expr) (t:TGs):Prop :=
 ∀(pins:List (Addr×Obj)) (s:Shared) (σ:St) (H:Hp) (vs:List V) (us:List Value) (Q:St->Hp->Prop),Inv X pins σ H s->zP vs us->t vs σ H Q →
  wpAny (model X.prog X.w) X.A (assignInOrder ((assignEach ts X.env).map (·.2)) us) (λ_ s'=>∃σ' H',Inv X pins σ' H' s'/\Q σ' H') X.xe s
abbrev zbS:=V->V->V->Hp->(Hp->Prop)->Prop
def zde (X:Cx) (t:zbS):Prop :=
 ∀(pins:List (Addr×Obj)) (s:Shared) (σ:St) (H:Hp) (o i v:V) (ov iv u:Value) (Q:Hp->Prop),Inv X pins σ H s->xb o ov->xb i iv->xb v u->t o i v H Q →
  wpAny (model X.prog X.w) X.A (setItem ov iv u) (λ_ s'=>∃H',Inv X pins σ H' s'/\Q H') X.xe s
section
variable {X:Cx}{pos:Pos}
def zH (i:Nat):TG:=λv σ H Q=>Q (σ.set i (some v)) H
theorem zT {i:Nat}{x:Str}(hN:X.N.Nodup) (hi:X.N[i]? = some x) (hx:Loc X.env.scope x) (hf:X.fn x=true\/X.env.scope.names.lookup x=some .local := by first | exact .inl rfl | exact .inr rfl | assumption):PG X (.Name x pos) (zH i):=by
 intro pins s σ H v u Q I r h
 exact wpAny_assign_Name (jm I hN hi hx r (λs' I'=>⟨_,H,I',h⟩) hf)
def zcb:TGs:=λvs σ H Q=>vs=[]/\Q σ H
def Xy (t:TG) (u:TGs):TGs:=λvs σ H Q=>∃v r,vs=v::r/\t v σ H λσ' H'=>u r σ' H' Q
theorem vv:PGs X [] zcb:=by
 intro pins s σ H vs us Q I r h
 obtain⟨e,h⟩:=h
 subst e
 cases r
 exact assignInOrder_nil ⟨σ,H,I,h⟩
theorem z9 {e:Expr}{es:List Expr}{t:TG}{u:TGs}(h1:PG X e t) (h2:PGs X es u)
  (hs:(assignEach (e::es) X.env).map (·.2)=assign e X.env::(assignEach es X.env).map (·.2):=by rfl):PGs X (e::es) (Xy t u):=by
 intro pins s σ H vs us Q I r h
 obtain⟨v,vr,e1,h⟩:=h
 subst e1
 cases r with
 | cons r rr =>
  rw[hs]
  refine assignInOrder_cons (thn (h1 pins s σ H _ _ _ I r h) λ_ s1 ⟨σ1,H1,I1,q1⟩=>?_)
  exact h2 pins s1 σ1 H1 _ _ Q I1 rr q1
def zau (K:PySem.W.Frag) (n:Nat) (t:TGs):TG:=λv σ H Q=>∃a xs,v = .ref a/\SqT K H a xs/\xs.length=n/\t xs σ H Q
theorem jz {es:List Expr}{k:Nat}{t:TGs}{n:Nat}(hc:X.calm=true) (h:PGs X es t)
  (hn:(assignEach es X.env).length=n:=by rfl) (hst:(assignEach es X.env).findIdx? (·.1)=none:=by rfl):PG X (.Tuple es k pos) (zau X.K n t):=by
 intro pins s σ H v u Q I r hw
 obtain⟨a,xs,e1,hq,hl,hw⟩:=hw
 subst e1
 cases r
 obtain⟨its,rv,ht,hz⟩:=I.tuple hq
 refine assign_Tuple_tuple (I.ok.hd hc) ht (by simp[hn,<-hl,rv.length]) hst λh' hx=>?_
 have I1:Inv X pins σ H { s with heap:=h' }:=I.kept (t':=s.toks) λb o e=>hx b o (Nat.ne_of_lt (Heap.lt_size e)) e
 exact h pins _ σ H xs _ Q I1 (by simpa using rv) hw
def gSub (to ti:TE) (t:zbS):TG:=λv σ H Q=>to σ H λo H1=>ti σ H1 λi H2=>t o i v H2 λH3=>Q σ H3
theorem Jz {o i:Expr}{to ti:TE}{t:zbS}(ho:PE X o to) (hi:PE X i ti) (hs:zde X t)
  (ha:∀v,assign (.Subscript o i pos) X.env v=(do
   let ov <-holding [v] (eval o X.env)
   let iv <-holding [v,ov] (eval i X.env)
   standAt pos
   holding [v,ov,iv] (setItem ov iv v)
   release [v,ov,iv] []):=by intro _;rfl):PG X (.Subscript o i pos) (gSub to ti t):=by
 intro pins s σ H v u Q I r h
 rw[ha]
 refine wpAny_bind (wpAny_holding (thn (ho pins s σ H _ I h) λov s1 ⟨x,H1,I1,r1,q1⟩=>?_))
 refine wpAny_bind (wpAny_holding (thn (hi pins s1 σ H1 _ I1 q1) λiv s2 ⟨y,H2,I2,r2,q2⟩=>?_))
 refine wpAny_bind (wpAny_standAt (wpAny_bind (wpAny_holding (thn (hs pins s2 σ H2 x y v ov iv u _ I2 r1 r2 r q2) λ_ s3 ⟨H3,I3,q3⟩=>?_))))
 exact wpAny_release ⟨σ,H3,I3,q3⟩
def Qo (te:TE) (g:TG):TS:=λD σ H=>te σ H λx H1=>g x σ H1 D.nx
theorem vH {tg e:Expr}{te:TE}{g:TG}(he:PE X e te) (hg:PG X tg g) (hs:swapsWithSole [tg] e pos.line X.env=pure false:=by rfl) (hw:swappedStores [tg] e X.env=pure none:=by rfl)
  (h1:(assignEach [tg] X.env).map (·.2)=[assign tg X.env]:=by rfl):PS X (.Assign [tg] e pos) (Qo te g):=by
 intro pins s σ H D I h
 refine wpAny_Assign_stores (thn (he pins s σ H _ I h) λv s1 ⟨x,H1,I1,r1,q1⟩=>?_) hs hw
 rw[h1]
 exact thn (hg pins s1 σ H1 x v _ I1 r1 q1) λ_ s2 q=>q
theorem zA {i:Nat}{x:Str}{e:Expr}{te:TE}{pos':Pos}(hN:X.N.Nodup) (hi:X.N[i]? = some x) (hx:Loc X.env.scope x) (he:PE X e te) (hs:swapsWith e (some (.Name x pos')) pos.line X.env=pure false:=by rfl) (hf:X.fn x=true\/X.env.scope.names.lookup x=some .local := by first | exact .inl rfl | exact .inr rfl | assumption) :
  PS X (.Assign [.Name x pos'] e pos) (Qo te (zH i)):=by
 intro pins s σ H D I h
 refine wpAny_Assign_Name (thn (he pins s σ H _ I h) λv s1 ⟨y,H1,I1,r1,q1⟩=>?_) hs
 exact jm I1 hN hi hx r1 (λs2 I2=>⟨_,H1,I2,q1⟩) hf
def tPar (i j:Nat) (ta:TA):TS:=λD σ H=>ta σ H λvs H1=>∃v w,vs=[v,w]/\D.nx ((σ.set i (some v)).set j (some w)) H1
theorem JE {i j:Nat}{x y:Str}{a b:Expr}{ta:TA}{px py pt:Pos} {kt k2 pt2} (hc:X.calm=true) (hN:X.N.Nodup) (hi:X.N[i]? = some x) (hj:X.N[j]? = some y) (hij:i≠j)
  (hx:X.env.scope.names.lookup x=some .local) (hy:X.env.scope.names.lookup y=some .local) (ha:PA X [a,b] ta)
  (hw:swappedStores [.Tuple [.Name x px,.Name y py] kt pt] (.Tuple [a,b] k2 pt2) X.env=pure (some [x,y]))
  (hs:swapsWithSole [.Tuple [.Name x px,.Name y py] kt pt] (.Tuple [a,b] k2 pt2) pos.line X.env=pure false:=by rfl) :
  PS X (.Assign [.Tuple [.Name x px,.Name y py] kt pt] (.Tuple [a,b] k2 pt2) pos) (tPar i j ta):=by
 intro pins s σ H D I h
 rw[exec_Assign_arm]
 refine wpAny_bind (wpAny_standAt ?_)
 rw[hs]
 refine wpAny_bind (wpAny_pure ?_)
 rw[if_neg (by decide)]
 refine wpAny_bind (Tuple_ (thn (ha _ pins s σ H _ I h) λus s1 ⟨vs,H1,I1,r1,q1⟩=>?_))
 obtain⟨v,w,e1,q1⟩:=q1
 subst e1
 obtain⟨u1,u2,rfl,rv,rw'⟩:∃u1 u2,us=[u1,u2]/\xb v u1/\xb w u2:=by
  cases r1 with
  | cons p q =>
   cases q with
   | cons p' q' =>
    cases q'
    exact⟨_,_,rfl,p,p'⟩
 refine wpAny_newObj_type ?_ (by show 2<=sizeLine;decide)
 have I2:Inv X pins σ H1 { s1 with heap:=s1.heap.push { cls:=.type "tuple",data:=.seq [u1,u2].toArray } }:=I1.kept (t':=s1.toks) λb o e=>Heap.get?_push_of_some _ e
 rw[hw]
 refine wpAny_bind (wpAny_pure ?_)
 show wpAny (model X.prog X.w) X.A (do rule "assign.swapped-stores";let items <-unpackItems (.ref s1.heap.objs.size) 2 none;assignInOrder [λv=>bindName X.env y v,λv=>bindName X.env x v] items.reverse;pure Flow.next) _ _ _
 refine wpAny_bind (wpAny_rule (wpAny_bind (unpackItems_tuple (items:=#[u1,u2]) (I.ok.hd hc) (IsTup.new s1.heap _) λh' hx'=>?_)))
 have I3:=I2.kept (h':=h') (t':=s1.toks) λb o e=>hx' b o (Nat.ne_of_lt (Heap.lt_size e)) e
 show wpAny _ _ (assignInOrder [λv=>bindName X.env y v,λv=>bindName X.env x v] [u2,u1] >>= λ_=>pure Flow.next) _ _ _
 refine wpAny_bind (assignInOrder_cons (wpAny_bindName (jm I3 hN hj (.inl hy) rw' (λs2 I4=>?_) (.inr hy))))
 refine assignInOrder_cons (wpAny_bindName (jm I4 hN hi (.inl hx) rv (λs3 I5=>assignInOrder_nil (wpAny_pure ?_)) (.inr hx)))
 rw[List.set_comm _ _ (Ne.symm hij)]at I5
 exact⟨_,H1,I5,q1⟩
end
section
variable {X:Cx}{pos:Pos}
def Xp (c:TT) (tb:TS):TS:=λD σ H=>∃W:Nat->St->Hp->Prop,(∃m,W m σ H)/\∀m σ H,W m σ H →
 c σ H λb H1=>if b=true then ∃N:St->Hp->Prop,(∀σ' H',N σ' H'->∃m',m'<m/\W m' σ' H')/\tb { D with nx:=N,ct:=N,bk:=D.nx } σ H1 else D.nx σ H1
theorem ji {c:Expr}{body:List Stmt}{tc:TT}{tb:TS}(hp:PassesOwn (model X.prog X.w) X.A X.env X.xe) (hc:PT X c tc) (hb:PSs X body tb):PS X (.While c body [] pos) (Xp tc tb):=by
 intro pins s σ H D I h
 obtain⟨W,⟨m0,w0⟩,turn⟩:=h
 refine wpAny_While (codeAny_whileLoop (λn s'=>∃σ' H',Inv X pins σ' H' s'/\W n σ' H') ?_ m0 ⟨σ,H,I,w0⟩)
 rintro n s1 ⟨σ1,H1,I1,w1⟩
 refine wpAny_passesOwn hp (thn (hc pins s1 σ1 H1 _ I1 (turn n σ1 H1 w1)) λb s2 ⟨H2,I2,q2⟩=>?_)
 cases b with
 | true =>
  obtain⟨N,hN,q2⟩:=q2
  rw[if_pos rfl]
  refine wpAny_passesOwn hp (thn (hb pins s2 σ1 H2 _ I2 q2) λf s3 q3=>?_)
  cases f with
  | next =>
   obtain⟨σ3,H3,I3,n3⟩:=q3
   obtain⟨m',hm,w3⟩:=hN σ3 H3 n3
   exact⟨m',hm,σ3,H3,I3,w3⟩
  | cont =>
   obtain⟨σ3,H3,I3,n3⟩:=q3
   obtain⟨m',hm,w3⟩:=hN σ3 H3 n3
   exact⟨m',hm,σ3,H3,I3,w3⟩
  | brk=>exact q3
  | ret v=>exact q3
 | false =>
  rw[if_neg Bool.false_ne_true]
  exact wpAny_execs_nil ⟨σ1,H2,I2,q2⟩
end
structure It where
 go:Nat->Hp->Prop
 yld:Nat->Hp->V->Hp->Prop
 stop:Nat->Hp->Prop
def jq (X:Cx) (pins:List (Addr×Obj)) (H:Hp) (b:Addr):Prop :=
 H b=none/\b≠X.env.locals/\b∉X.fs/\(b∈X.ex\/X.s₀.heap.objs.size<=b)/\(∀x c,X.env.cells.lookup x=some c->c≠b)/\∀p∈X.pn++pins,p.1≠b
theorem Inv.fpOk {X:Cx}{pins:List (Addr×Obj)}{σ:St}{H H':Hp}{s:Shared}{b:Addr}(I:Inv X pins σ H s) (hb:s.heap.objs.size<=b) (hn:H' b=none):jq X pins H' b:=by
 refine⟨hn,Nat.ne_of_gt (Nat.lt_of_lt_of_le I.lt hb),I.nofs hb,.inr (Nat.le_trans I.sz hb),λx c e z=>?_,λp hp z=>?_⟩
 ·obtain⟨v,q⟩:=I.cell x c e
  exact absurd (Nat.lt_of_lt_of_le q.lt (by rw[z];exact hb)) (Nat.lt_irrefl _)
 ·exact absurd (Nat.lt_of_lt_of_le (Heap.lt_size (I.pin p hp).1) (by rw[z];exact hb)) (Nat.lt_irrefl _)
structure Q6 (P:Program) (w:World) (K:PySem.W.Frag) (tg:Expr) (J:It) (fp:List Addr) (it:Addr) (tn:Nat->Heap->Prop):Prop where
 mem:it∈fp
 obj:∀i h,tn i h->∀b∈fp,∃o,h.get? b=some o/\∀v,o.data≠.cell v
 keep:∀i h h',tn i h->(∀b∈fp,∀o,h.get? b=some o->h'.get? b=some o)->tn i h'
 item:∀(X:Cx),X.prog=P->X.w=w->X.K=K->X.calm=true->∀(i:Nat) (pins:List (Addr×Obj)) (s:Shared) (σ:St) (H:Hp) (E:Value->Shared->Prop),Inv X pins σ H s->(∀b∈fp,jq X pins H b)->tn i s.heap->J.go i H →
  wpAny (model P w) X.A (pyNext (.ref it)) (λr s1=>∃u,r=some u ∧
   wpAny (model P w) X.A (letOwnedTupleGo tg (.ref it) u) (λ_ s2=>∃x H',Inv X pins σ H' s2/\xb x u/\J.yld i H x H'/\tn (i+1) s2.heap/\∀b∈fp,H' b=none) E s1) E s
 done:∀(X:Cx),X.prog=P->X.w=w->X.K=K->X.calm=true->∀(i:Nat) (pins:List (Addr×Obj)) (s:Shared) (σ:St) (H:Hp) (E:Value->Shared->Prop),Inv X pins σ H s->(∀b∈fp,jq X pins H b)->tn i s.heap->J.stop i H →
  wpAny (model P w) X.A (pyNext (.ref it)) (λr s1=>r=none/\Inv X pins σ H s1) E s
 self:∀(A:Around) (i:Nat) (s:Shared) (Q:Value->Shared->Prop) (E:Value->Shared->Prop),tn i s.heap->Q (.ref it) s->wpAny (model P w) A (pyIter (.ref it)) Q E s
abbrev TI:=St->Hp->(It->Hp->Prop)->Prop
def PIE (X:Cx) (pins:List (Addr×Obj)) (σ:St) (tg:Expr) (R:It->Hp->Prop) (itv:Value) (s2:Shared):Prop :=
 ∃(it:Addr) (fp:List Addr) (tn:Nat->Heap->Prop) (J:It) (H':Hp),itv = .ref it/\Inv X pins σ H' s2/\Q6 X.prog X.w X.K tg J fp it tn/\tn 0 s2.heap/\(∀b∈fp,jq X pins H' b)/\R J H'
def PI (X:Cx) (tg iter:Expr) (wi:TI):Prop :=
 ∀(pins:List (Addr×Obj)) (s:Shared) (σ:St) (H:Hp) (R:It->Hp->Prop),Inv X pins σ H s->wi σ H R →
  wpAny (model X.prog X.w) X.A (eval iter X.env) (λv s1=>wpAny (model X.prog X.w) X.A (pyIter v) (PIE X pins σ tg R) X.xe s1) X.xe s
theorem QA {M:Model}{A:Around}{E:Value->Shared->Prop}{s:Shared}{tg:Expr}{it:Addr}{u:Value}{o:Obj}{n:String}{vs:Array Value}{Q:Unit->Shared->Prop}(ho:s.heap.get? it=some o) (hc:o.cls = .type n) (hd:o.data = .fields vs)
  (hn:["enumerate","zip","dict_itemiterator","dict_reverseitemiterator","odict_iterator","itertools.zip_longest","itertools.pairwise"].contains n=false) (hQ:Q () s):wpAny M A (letOwnedTupleGo tg (.ref it) u) Q E s:=by
 unfold letOwnedTupleGo
 cases tg <;> first
  | exact wpAny_pure hQ
  | (cases u <;> first
    | exact wpAny_pure hQ
    | (refine wpAny_bind (wpAny_load ho ?_)
       rw[hc,hd]
       show wpAny M A (if(["enumerate","zip","dict_itemiterator","dict_reverseitemiterator","odict_iterator","itertools.zip_longest","itertools.pairwise"].contains n&&vs[0]? == some (rawInt _))=true then _ else _) Q E s
       rw[if_neg (by intro h;rw[hn,Bool.false_and]at h;cases h)]
       exact wpAny_pure hQ))
def Itl (K:PySem.W.Frag) (a:Addr):It :=
 ⟨λi H=>∃xs x,SqL K H a xs/\xs[i]? = some x,λi H x H'=>H'=H/\∀xs,SqL K H a xs->xs[i]? = some x,λi H=>∃xs,SqL K H a xs/\xs.length<=i⟩
def Itt (K:PySem.W.Frag) (a:Addr):It :=
 ⟨λi H=>∃xs x,SqT K H a xs/\xs[i]? = some x,λi H x H'=>H'=H/\∀xs,SqT K H a xs->xs[i]? = some x,λi H=>∃xs,SqT K H a xs/\xs.length<=i⟩
def Itr (lo:Int) (n:Nat):It:=⟨λi _=>i<n,λi H x H'=>H'=H/\x = .int (lo+i),λi _=>n<=i⟩
theorem VI {P:Program}{w:World}{K:PySem.W.Frag}{tg:Expr}(a it:Addr):Q6 P w K tg (Itl K a) [it] it (λi h=>h.IsListIter it a i) where
 mem:=by simp
 obj:=λi h st b hb=>by
  have e:b=it:=by simpa using hb
  subst e
  obtain⟨o,e,c,d⟩:=st
  exact⟨o,e,λv z=>by rw[d]at z;cases z⟩
 keep:=λi h h' st k=>st.at λo e=>k it (by simp) o e
 item:=by
  intro X hP hw hK hc i pins s σ H E I hf st hg
  subst hP hw hK
  obtain⟨xs,x,hq,hx⟩:=hg
  obtain⟨its,rv,p,hz⟩:=I.list hq
  obtain⟨u,hu,ru⟩:=rv.get hx
  obtain⟨f0,f1,f2,f3,f4,f5⟩:=hf it (by simp)
  refine wpAny_pyNext_list_item st p.isList (x:=u) (by simpa using hu) λh' st' sb=>?_
  have I1:Inv X pins σ H { s with heap:=h' }:=I.turned (t':=s.toks) (λb o hb e=>(sb.2 b hb).trans e) f0 f1 f3 f4 f5
  obtain⟨o,e,c,d⟩:=id st'
  exact⟨u,rfl,QA (s:={ s with heap:=h' }) e c d (by decide) ⟨x,H,I1,ru,⟨rfl,λys hy=>by rw[I.list_inj hy hq];exact hx⟩,st',λb hb=>(hf b hb).1⟩⟩
 done:=by
  intro X hP hw hK hc i pins s σ H E I hf st hg
  subst hP hw hK
  obtain⟨xs,hq,hx⟩:=hg
  obtain⟨its,rv,p,hz⟩:=I.list hq
  obtain⟨f0,f1,f2,f3,f4,f5⟩:=hf it (by simp)
  have hl:=rv.length
  exact wpAny_pyNext_list_end (I.ok.hd hc) st p.isList (by simp;omega) λh' eb=>⟨rfl,I.turned (t':=s.toks) (λb o hb e=>eb b o hb e) f0 f1 f3 f4 f5⟩
 self:=λ_ _ _ _ _ st h=>wpAny_pyIter_listiter st h
theorem Qr {P:Program}{w:World}{K:PySem.W.Frag}{tg:Expr}(a it:Addr):Q6 P w K tg (Itt K a) [it] it (λi h=>h.IsTupleIter it a i) where
 mem:=by simp
 obj:=λi h st b hb=>by
  have e:b=it:=by simpa using hb
  subst e
  obtain⟨o,e,c,d⟩:=st
  exact⟨o,e,λv z=>by rw[d]at z;cases z⟩
 keep:=λi h h' st k=>st.at λo e=>k it (by simp) o e
 item:=by
  intro X hP hw hK hc i pins s σ H E I hf st hg
  subst hP hw hK
  obtain⟨xs,x,hq,hx⟩:=hg
  obtain⟨its,rv,p,hz⟩:=I.tuple hq
  obtain⟨u,hu,ru⟩:=rv.get hx
  obtain⟨f0,f1,f2,f3,f4,f5⟩:=hf it (by simp)
  refine wpAny_pyNext_tuple_item st (show s.heap.IsTuple a its.toArray from p) (x:=u) (by simpa using hu) λh' st' sb=>?_
  have I1:Inv X pins σ H { s with heap:=h' }:=I.turned (t':=s.toks) (λb o hb e=>(sb.2 b hb).trans e) f0 f1 f3 f4 f5
  obtain⟨o,e,c,d⟩:=id st'
  exact⟨u,rfl,QA (s:={ s with heap:=h' }) e c d (by decide) ⟨x,H,I1,ru,⟨rfl,λys hy=>by rw[I.tuple_inj hy hq];exact hx⟩,st',λb hb=>(hf b hb).1⟩⟩
 done:=by
  intro X hP hw hK hc i pins s σ H E I hf st hg
  subst hP hw hK
  obtain⟨xs,hq,hx⟩:=hg
  obtain⟨its,rv,p,hz⟩:=I.tuple hq
  obtain⟨f0,f1,f2,f3,f4,f5⟩:=hf it (by simp)
  have hl:=rv.length
  exact wpAny_pyNext_tuple_end (I.ok.hd hc) st (show s.heap.IsTuple a its.toArray from p) (by simp;omega) λh' eb=>⟨rfl,I.turned (t':=s.toks) (λb o hb e=>eb b o hb e) f0 f1 f3 f4 f5⟩
 self:=λ_ _ _ _ _ st h=>wpAny_pyIter_tupleiter st h
theorem Qq {P:Program}{w:World}{K:PySem.W.Frag}{tg:Expr}(it:Addr) (lo:Int) (n:Nat):Q6 P w K tg (Itr lo n) [it] it (λi h=>IsRangeIter h it (lo+(i:Nat)*1) ((n:Int) - (i:Nat)) 1) where
 mem:=by simp
 obj:=λi h st b hb=>by
  have e:b=it:=by simpa using hb
  subst e
  exact⟨_,st,λv z=>by
   have z':Data.fields _=Data.cell v:=z
   cases z'⟩
 keep:=λi h h' st k=>k it (by simp) _ st
 item:=by
  intro X hP hw hK hc i pins s σ H E I hf st hg
  subst hP hw hK
  obtain⟨f0,f1,f2,f3,f4,f5⟩:=hf it (by simp)
  have W:=Walks.range (prog:=X.prog) (w:=X.w) (I.ok.hd hc) it lo 1 n
  refine W.item i s _ _ hg st λv h' tk hv st' kk=>?_
  obtain⟨t,rfl⟩:=hv
  have I1:Inv X pins σ H { s with heap:=h',toks:=tk }:=I.turned (λb o hb e=>kk b o (by simpa using hb) e) f0 f1 f3 f4 f5
  refine⟨_,rfl,QA (s:={ s with heap:=h',toks:=tk }) (n:="range_iterator") st' rfl rfl (by decide) ⟨.int (lo+i),H,I1,⟨t,?_⟩,⟨rfl,rfl⟩,st',λb hb=>(hf b hb).1⟩⟩
  rw[Int.mul_one]
 done:=by
  intro X hP hw hK hc i pins s σ H E I hf st hg
  subst hP hw hK
  obtain⟨f0,f1,f2,f3,f4,f5⟩:=hf it (by simp)
  exact wpAny_pyNext_range_end (I.ok.hd hc) st (by have:n<=i:=hg;omega) λh' eb=>⟨rfl,I.turned (t':=s.toks) (λb o hb e=>eb b o hb e) f0 f1 f3 f4 f5⟩
 self:=λ_ _ _ _ _ st h=>wpAny_pyIter_rangeiter st h
end L2
namespace L2
open PySem PySem.Spec PyProof.Rows
section
variable {X:Cx}{tg:Expr}
def zdk (K:PySem.W.Frag) (tl:TE):TI:=λσ H R=>tl σ H λx H1=>∃a,x = .ref a/\(∃xs,SqL K H1 a xs)/\R (Itl K a) H1
def iTup (K:PySem.W.Frag) (tl:TE):TI:=λσ H R=>tl σ H λx H1=>∃a,x = .ref a/\(∃xs,SqT K H1 a xs)/\R (Itt K a) H1
theorem jP {l:Expr}{tl:TE}(hl:PE X l tl):PI X tg l (zdk X.K tl):=by
 intro pins s σ H R I h
 refine thn (hl pins s σ H _ I h) λv s1 ⟨x,H1,I1,r1,q1⟩=>?_
 obtain⟨a,e,⟨xs,hq⟩,q⟩:=q1
 subst e
 cases r1
 obtain⟨its,rv,p,hz⟩:=I1.list hq
 refine wpAny_pyIter_list p.isList ?_
 refine⟨s1.heap.objs.size,[s1.heap.objs.size],_,_,H1,rfl,I1.kept (t':=s1.toks) λb o e=>Heap.get?_push_of_some _ e,VI a _,⟨_,Heap.get?_push_size _ rfl,rfl,rfl⟩,λb hb=>?_,q⟩
 have e:b=s1.heap.objs.size:=by simpa using hb
 subst e
 exact I1.fpOk (Nat.le_refl _) (I1.hok.fresh (Nat.le_refl _))
theorem Qh {l:Expr}{tl:TE}(hl:PE X l tl):PI X tg l (iTup X.K tl):=by
 intro pins s σ H R I h
 refine thn (hl pins s σ H _ I h) λv s1 ⟨x,H1,I1,r1,q1⟩=>?_
 obtain⟨a,e,⟨xs,hq⟩,q⟩:=q1
 subst e
 cases r1
 obtain⟨its,rv,p,hz⟩:=I1.tuple hq
 refine wpAny_pyIter_tuple (show s1.heap.IsTuple a its.toArray from p) ?_
 refine⟨s1.heap.objs.size,[s1.heap.objs.size],_,_,H1,rfl,I1.kept (t':=s1.toks) λb o e=>Heap.get?_push_of_some _ e,Qr a _,⟨_,Heap.get?_push_size _ rfl,rfl,rfl⟩,λb hb=>?_,q⟩
 have e:b=s1.heap.objs.size:=by simpa using hb
 subst e
 exact I1.fpOk (Nat.le_refl _) (I1.hok.fresh (Nat.le_refl _))
theorem JF {pins:List (Addr×Obj)}{σ:St}{H:Hp}{s:Shared}{R:It->Hp->Prop}{E:Value->Shared->Prop}{lo hi:Int}{t u v:Tok}{tk:Nat}(I:Inv X pins σ H s) (h1 : -(2^62)<=lo) (h2:lo<2^62) (h3 : -(2^62)<=hi) (h4:hi<2^62)
  (q:R (Itr lo (hi - lo).toNat) H):wpAny (model X.prog X.w) X.A (pyIter (.ref s.heap.objs.size)) (PIE X pins σ tg R) E { s with heap:=s.heap.push { cls:=.type "range",data:=.fields #[.int lo t,.int hi u,.int 1 v] },toks:=tk }:=by
 refine wpAny_pyIter_range (IsRange.new ..) (small_one h1 h2 h3 h4) ?_
 have I1:Inv X pins σ H { s with heap:=s.heap.push { cls:=.type "range",data:=.fields #[.int lo t,.int hi u,.int 1 v] },toks:=tk }:=I.kept λb o e=>Heap.get?_push_of_some _ e
 refine⟨(s.heap.push { cls:=.type "range",data:=.fields #[.int lo t,.int hi u,.int 1 v] }).objs.size,[(s.heap.push { cls:=.type "range",data:=.fields #[.int lo t,.int hi u,.int 1 v] }).objs.size],_,_,H,rfl,
  I1.kept (t':=tk) λb o e=>Heap.get?_push_of_some _ e,Qq _ lo (hi - lo).toNat,?_,λb hb=>?_,q⟩
 ·have e1:lo+((0:Nat):Int)*1=lo:=by simp
  have e2:(((hi - lo).toNat:Nat):Int) - ((0:Nat):Int)=Builtin.Range.rangeSize lo hi 1:=by rw[rangeSize_one];split <;> omega
  show IsRangeIter _ _ (lo+((0:Nat):Int)*1) ((((hi - lo).toNat:Nat):Int) - ((0:Nat):Int)) 1
  rw[e1,e2]
  exact Heap.get?_push_size _ rfl
 ·have e:b=(s.heap.push { cls:=.type "range",data:=.fields #[.int lo t,.int hi u,.int 1 v] }).objs.size:=by simpa using hb
  subst e
  exact I1.fpOk (Nat.le_refl _) (I1.hok.fresh (Nat.le_refl _))
def zdl (ta:TA):TI:=λσ H R=>ta σ H λvs H1=>∃j:Int,vs=[.int j] ∧ -(2^62)<=j/\j<2^62/\R (Itr 0 j.toNat) H1
theorem ZQ {a:Expr}{ta:TA}{p pos:Pos}(hg:Gl X "range") (hm:X.mg "range" = none) (ha:PA X [a] ta) (hs:starEach [a] X.env=[(false,eval a X.env)]:=by rfl):PI X tg (.Call (.Name "range" p) [a] [] pos) (zdl ta):=by
 intro pins s σ H R I h
 refine Call_ (Za I hg hm boot_range (PyProof.Rows.callWith_type1 (thn (ha pos pins s σ H _ I h) λus s1 ⟨vs,H1,I1,r1,q1⟩=>?_) hs rfl))
 obtain⟨j,e,q1,q2,q⟩:=q1
 subst e
 cases r1 with
 | cons r rr =>
  cases rr
  obtain⟨t,rfl⟩:=r
  exact call_range_1 (JF I1 (by omega) (by omega) q1 q2 (by simpa using q))
def zbt (wi:TI) (g:TG) (tb:TS):TS:=λD σ H=>wi σ H λJ H1=>∃W:Nat->Nat->St->Hp->Prop,(∃m,W 0 m σ H1)/\∀i m σ H,W i m σ H →
 (J.stop i H/\D.nx σ H)\/(J.go i H/\∃N:St->Hp->Prop,(∀σ' H',N σ' H'->∃m',m'<m/\W (i+1) m' σ' H')/\∀x H',J.yld i H x H'->g x σ H' λσ2 H2=>tb { D with nx:=N,ct:=N,bk:=D.nx } σ2 H2)
def v0 (fp:List Addr) (h:Heap):List (Addr×Obj):=fp.filterMap λb=>(h.get? b).map λo=>(b,o)
theorem xG {fp:List Addr}{h:Heap}{b:Addr}{o:Obj}(hb:b∈fp) (e:h.get? b=some o):(b,o)∈v0 fp h:=List.mem_filterMap.mpr ⟨b,hb,by rw[e];rfl⟩
theorem Vt {fp:List Addr}{h:Heap}{p:Addr×Obj}(hp:p∈v0 fp h):p.1∈fp/\h.get? p.1=some p.2:=by
 obtain⟨b,hb,e⟩:=List.mem_filterMap.mp hp
 cases q:h.get? b with
 | none=>rw[q]at e;cases e
 | some o =>
  rw[q]at e
  have e':(b,o)=p:=Option.some.inj e
  subst e'
  exact⟨hb,q⟩
theorem Inv.pinned {pins:List (Addr×Obj)}{σ:St}{H:Hp}{s:Shared}{fp:List Addr}(I:Inv X pins σ H s) (hf:∀b∈fp,jq X pins H b) (ho:∀b∈fp,∃o,s.heap.get? b=some o/\∀v,o.data≠.cell v):Inv X (pins++v0 fp s.heap) σ H s :=
 I.pins_of λp hp=>(List.mem_append.mp hp).elim (λz=>I.pin p (List.mem_append_right _ z)) λz=>by
  obtain⟨hb,e⟩:=Vt z
  obtain⟨f0,f1,f2,_⟩:=hf p.1 hb
  obtain⟨o,e',d⟩:=ho p.1 hb
  rw[e]at e';cases e'
  exact⟨e,f0,f1,f2,d⟩
theorem Inv.unpinned {pins pl:List (Addr×Obj)}{σ:St}{H:Hp}{s:Shared}(I:Inv X (pins++pl) σ H s):Inv X pins σ H s:=I.pins_of λp hp=>I.pin p (List.mem_append_right _ (List.mem_append_left _ hp))
theorem Zf {iter:Expr}{body:List Stmt}{wi:TI}{g:TG}{tb:TS}{pos:Pos}(hp:PassesOwn (model X.prog X.w) X.A X.env X.xe) (hc:X.calm=true) (hi:PI X tg iter wi) (hg:PG X tg g) (hb:PSs X body tb)
  (hs:∀x,foldedSetIterable iter X.env x=pure x:=by intro _;rfl):PS X (.For tg iter body [] pos) (zbt wi g tb):=by
 intro pins s σ H D I h
 refine wpAny_For (thn (hi pins s σ H _ I h) λv s1 h1=>thn h1 λitv s2 h2=>?_) hs
 obtain⟨it,fp,tn,J,H2,e,I2,T,st2,f2,W,⟨m0,w0⟩,turn⟩:=h2
 subst e
 have stat:∀{H':Hp},(∀b∈fp,H' b=none)->∀b∈fp,jq X pins H' b:=λhn b hb=>⟨hn b hb,(f2 b hb).2⟩
 refine codeAny_forLoop_any (λn s'=>∃i σ' H',Inv X pins σ' H' s'/\tn i s'.heap/\(∀b∈fp,H' b=none)/\W i n σ' H') ?_ m0 ⟨0,σ,H2,I2,st2,λb hb=>(f2 b hb).1,w0⟩
 rintro n s3 ⟨i,σ3,H3,I3,st3,fr3,w3⟩
 rcases turn i n σ3 H3 w3 with⟨stop,qn⟩ | ⟨go,N,hN,step⟩
 ·refine wpAny_passesOwn hp (thn (T.done X rfl rfl rfl hc i pins s3 σ3 H3 X.xe I3 (stat fr3) st3 stop) λr s4 ⟨hr,I4⟩=>?_)
  subst hr
  exact wpAny_execs_nil ⟨σ3,H3,I4,qn⟩
 ·refine wpAny_passesOwn hp (thn (T.item X rfl rfl rfl hc i pins s3 σ3 H3 X.xe I3 (stat fr3) st3 go) λr s4 ⟨u,hr,h4⟩=>?_)
  subst hr
  refine wpAny_passesOwn hp (thn h4 λ_ s5 ⟨x,H5,I5,r5,y5,st5,fr5⟩=>?_)
  have I5':=I5.pinned (stat fr5) (T.obj _ _ st5)
  refine wpAny_passesOwn hp (thn (hg _ s5 σ3 H5 x u _ I5' r5 (step x H5 y5)) λ_ s6 ⟨σ6,H6,I6,q6⟩=>?_)
  refine wpAny_passesOwn hp (thn (hb _ s6 σ6 H6 _ I6 q6) λf s7 q7=>?_)
  have again:∀{σ7:St}{H7:Hp},Inv X (pins++v0 fp s5.heap) σ7 H7 s7->N σ7 H7->∃m,m<n/\∃i σ' H',Inv X pins σ' H' s7/\tn i s7.heap/\(∀b∈fp,H' b=none)/\W i m σ' H':=λ{σ7 H7} I7 n7=>by
   obtain⟨m',hm,w7⟩:=hN σ7 H7 n7
   refine⟨m',hm,i+1,σ7,H7,I7.unpinned,T.keep _ _ _ st5 λb hb o e=>(I7.pin (b,o) (List.mem_append_right _ (List.mem_append_right _ (xG hb e)))).1,λb hb=>?_,w7⟩
   obtain⟨o,e,d⟩:=T.obj _ _ st5 b hb
   exact(I7.pin (b,o) (List.mem_append_right _ (List.mem_append_right _ (xG hb e)))).2.1
  cases f with
  | next=>obtain⟨σ7,H7,I7,n7⟩:=q7;exact again I7 n7
  | cont=>obtain⟨σ7,H7,I7,n7⟩:=q7;exact again I7 n7
  | brk=>obtain⟨σ7,H7,I7,q7⟩:=q7;exact⟨σ7,H7,I7.unpinned,q7⟩
  | ret v=>obtain⟨x7,σ7,H7,I7,r7,q7⟩:=q7;exact⟨x7,σ7,H7,I7.unpinned,r7,q7⟩
end
theorem Xx {K:PySem.W.Frag}{a:Addr}{xs:List V}{g:TG}{tb:TS}{D:vC}{σ:St}{H:Hp}(Pv:Nat->St->Hp->Prop) (h0:Pv 0 σ H) (hl:∀i σ H,i<=xs.length->Pv i σ H->SqL K H a xs)
  (hs:∀i x σ H,xs[i]? = some x->Pv i σ H->g x σ H λσ2 H2=>tb { D with nx:=Pv (i+1),ct:=Pv (i+1),bk:=D.nx } σ2 H2) (hd:∀σ H,Pv xs.length σ H->D.nx σ H) :
  ∃W:Nat->Nat->St->Hp->Prop,(∃m,W 0 m σ H)/\∀i m σ H,W i m σ H →
   ((Itl K a).stop i H/\D.nx σ H)\/((Itl K a).go i H/\∃N:St->Hp->Prop,(∀σ' H',N σ' H'->∃m',m'<m/\W (i+1) m' σ' H')/\∀x H',(Itl K a).yld i H x H'->g x σ H' λσ2 H2=>tb { D with nx:=N,ct:=N,bk:=D.nx } σ2 H2):=by
 refine⟨λi m σ H=>m=xs.length - i/\i<=xs.length/\Pv i σ H,⟨xs.length,by simp,Nat.zero_le _,h0⟩,?_⟩
 rintro i m σ H ⟨rfl,hi,p⟩
 have q:=hl i σ H hi p
 by_cases hlt:i<xs.length
 ·refine .inr ⟨⟨xs,xs[i],q,by simp[hlt]⟩,Pv (i+1),λσ' H' p'=>⟨xs.length - (i+1),by omega,rfl,hlt,p'⟩,λx H' y=>?_⟩
  obtain⟨e,y⟩:=y
  subst e
  exact hs i x σ _ (y xs q) p
 ·have e:i=xs.length:=by omega
  subst e
  exact .inl ⟨⟨xs,q,Nat.le_refl _⟩,hd σ H p⟩
theorem zat {K:PySem.W.Frag}{a:Addr}{xs:List V}{g:TG}{tb:TS}{D:vC}{σ:St}{H:Hp}(Pv:Nat->St->Hp->Prop) (h0:Pv 0 σ H) (hl:∀i σ H,i<=xs.length->Pv i σ H->SqT K H a xs)
  (hs:∀i x σ H,xs[i]? = some x->Pv i σ H->g x σ H λσ2 H2=>tb { D with nx:=Pv (i+1),ct:=Pv (i+1),bk:=D.nx } σ2 H2) (hd:∀σ H,Pv xs.length σ H->D.nx σ H) :
  ∃W:Nat->Nat->St->Hp->Prop,(∃m,W 0 m σ H)/\∀i m σ H,W i m σ H →
   ((Itt K a).stop i H/\D.nx σ H)\/((Itt K a).go i H/\∃N:St->Hp->Prop,(∀σ' H',N σ' H'->∃m',m'<m/\W (i+1) m' σ' H')/\∀x H',(Itt K a).yld i H x H'->g x σ H' λσ2 H2=>tb { D with nx:=N,ct:=N,bk:=D.nx } σ2 H2):=by
 refine⟨λi m σ H=>m=xs.length - i/\i<=xs.length/\Pv i σ H,⟨xs.length,by simp,Nat.zero_le _,h0⟩,?_⟩
 rintro i m σ H ⟨rfl,hi,p⟩
 have q:=hl i σ H hi p
 by_cases hlt:i<xs.length
 ·refine .inr ⟨⟨xs,xs[i],q,by simp[hlt]⟩,Pv (i+1),λσ' H' p'=>⟨xs.length - (i+1),by omega,rfl,hlt,p'⟩,λx H' y=>?_⟩
  obtain⟨e,y⟩:=y
  subst e
  exact hs i x σ _ (y xs q) p
 ·have e:i=xs.length:=by omega
  subst e
  exact .inl ⟨⟨xs,q,Nat.le_refl _⟩,hd σ H p⟩
theorem Vg {lo:Int}{n:Nat}{g:TG}{tb:TS}{D:vC}{σ:St}{H:Hp}(Pv:Nat->St->Hp->Prop) (h0:Pv 0 σ H)
  (hs:∀i σ H,i<n->Pv i σ H->g (.int (lo+i)) σ H λσ2 H2=>tb { D with nx:=Pv (i+1),ct:=Pv (i+1),bk:=D.nx } σ2 H2) (hd:∀σ H,Pv n σ H->D.nx σ H) :
  ∃W:Nat->Nat->St->Hp->Prop,(∃m,W 0 m σ H)/\∀i m σ H,W i m σ H →
   ((Itr lo n).stop i H/\D.nx σ H)\/((Itr lo n).go i H/\∃N:St->Hp->Prop,(∀σ' H',N σ' H'->∃m',m'<m/\W (i+1) m' σ' H')/\∀x H',(Itr lo n).yld i H x H'->g x σ H' λσ2 H2=>tb { D with nx:=N,ct:=N,bk:=D.nx } σ2 H2):=by
 refine⟨λi m σ H=>m=n - i/\i<=n/\Pv i σ H,⟨n,by simp,Nat.zero_le _,h0⟩,?_⟩
 rintro i m σ H ⟨rfl,hi,p⟩
 by_cases hlt:i<n
 ·refine .inr ⟨hlt,Pv (i+1),λσ' H' p'=>⟨n - (i+1),by omega,rfl,hlt,p'⟩,λx H' y=>?_⟩
  obtain⟨e,y⟩:=y
  subst e y
  exact hs i σ _ hlt p
 ·have e:i=n:=by omega
  subst e
  exact .inl ⟨Nat.le_refl _,hd σ H p⟩
theorem jo {c:TT}{tb:TS}{D:vC}{σ:St}{H:Hp}(Pv:St->Hp->Prop) (μ:St->Hp->Nat) (h0:Pv σ H)
  (hs:∀σ H,Pv σ H->c σ H λb H1=>if b=true then tb { D with nx:=λσ' H'=>Pv σ' H'/\μ σ' H'<μ σ H,ct:=λσ' H'=>Pv σ' H'/\μ σ' H'<μ σ H,bk:=D.nx } σ H1 else D.nx σ H1)
  (mono:∀σ H Q Q',(∀b H1,Q b H1->Q' b H1)->c σ H Q->c σ H Q'):Xp c tb D σ H:=by
 refine⟨λm σ H=>m=μ σ H/\Pv σ H,⟨_,rfl,h0⟩,?_⟩
 rintro m σ H ⟨rfl,p⟩
 refine mono σ H _ _ (λb H1 q=>?_) (hs σ H p)
 cases b with
 | true=>exact⟨_,λσ' H' ⟨p',l⟩=>⟨_,l,rfl,p'⟩,q⟩
 | false=>exact q
end L2
namespace L2
open PySem PySem.Spec PyProof.Rows
abbrev R2:=V->V->Hp->VK->Prop
def OpR (X:Cx) (f:Value->Value->Sem Value) (r:R2):Prop :=
 ∀(pins:List (Addr×Obj)) (s:Shared) (σ:St) (H:Hp) (x y:V) (v u:Value) (Q:VK),Inv X pins σ H s->xb x v->xb y u->r x y H Q →
  wpAny (model X.prog X.w) X.A (f v u) (EP X pins σ Q) X.xe s
def UnR (X:Cx) (f:Value->Sem Value) (r:V->Hp->VK->Prop):Prop :=
 ∀(pins:List (Addr×Obj)) (s:Shared) (σ:St) (H:Hp) (x:V) (v:Value) (Q:VK),Inv X pins σ H s->xb x v->r x H Q →
  wpAny (model X.prog X.w) X.A (f v) (EP X pins σ Q) X.xe s
def ve (X:Cx) (f:Value) (r:List V->Hp->VK->Prop):Prop :=
 ∀(pins:List (Addr×Obj)) (s:Shared) (σ:St) (H:Hp) (xs:List V) (us:List Value) (Q:VK),Inv X pins σ H s->zP xs us->r xs H Q →
  wpAny (model X.prog X.w) X.A (call f us) (EP X pins σ Q) X.xe s
def TruR (X:Cx) (r:V->Hp->(Bool->Hp->Prop)->Prop):Prop :=
 ∀(pins:List (Addr×Obj)) (s:Shared) (σ:St) (H:Hp) (x:V) (v:Value) (Q:Bool->Hp->Prop),Inv X pins σ H s->xb x v->r x H Q →
  wpAny (model X.prog X.w) X.A (truthy v) (TP X pins σ Q) X.xe s
def tOp (r:R2) (ta tb:TE):TE:=λσ H Q=>ta σ H λx H1=>tb σ H1 λy H2=>r x y H2 Q
def tUn (r:V->Hp->VK->Prop) (ta:TE):TE:=λσ H Q=>ta σ H λx H1=>r x H1 Q
def rI (C:Int->Int->Prop) (g:Int->Int->V):R2:=λx y H Q=>∃i j,x = .int i/\y = .int j/\C i j/\Q (g i j) H
def rI0 (g:Int->Int->V):R2:=λx y H Q=>∃i j,x = .int i/\y = .int j/\Q (g i j) H
def rU (g:Int->V):V->Hp->VK->Prop:=λx H Q=>∃i,x = .int i/\Q (g i) H
section
variable {X:Cx}{a b c:Expr}{ta tb tc:TE}{pos:Pos}
theorem zbZ (ha:PE X a ta) (hb:PE X b tb){pins:List (Addr×Obj)}{s:Shared}{σ:St}{H:Hp}{R:V->V->Hp->Prop}(I:Inv X pins σ H s)
  (h:ta σ H λx H1=>tb σ H1 λy H2=>R x y H2){Q:Value->Shared->Prop}{f:Value->Value->Sem Value}
  (hf:∀v u s2 x y H2,Inv X pins σ H2 s2->xb x v->xb y u->R x y H2->wpAny (model X.prog X.w) X.A (f v u) Q X.xe s2) :
  wpAny (model X.prog X.w) X.A (eval a X.env) (λv s₁=>wpAny (model X.prog X.w) X.A (eval b X.env) (λu s₂=>wpAny (model X.prog X.w) X.A (f v u) Q X.xe s₂) X.xe s₁) X.xe s:=by
 refine thn (ha pins s σ H _ I h) λv s1 ⟨x,H1,I1,r1,q1⟩=>?_
 refine thn (hb pins s1 σ H1 _ I1 q1) λu s2 ⟨y,H2,I2,r2,q2⟩=>?_
 exact hf v u s2 x y H2 I2 r1 r2 q2
theorem zu {op:Operator}{r:R2}(ho:OpR X (binaryOp op) r) (ha:PE X a ta) (hb:PE X b tb):PE X (.BinOp a op b pos) (tOp r ta tb):=by
 intro pins s σ H Q I h
 exact wpAny_BinOp (zbZ ha hb I h λv u s2 x y H2 I2 rx ry q=>ho pins s2 σ H2 x y v u Q I2 rx ry q)
theorem qX {op:UnaryOp}{r:V->Hp->VK->Prop}(ho:UnR X (unaryOp op) r) (ha:PE X a ta):PE X (.UnaryOp op a pos) (tUn r ta):=by
 intro pins s σ H Q I h
 exact UnaryOp_ (thn (ha pins s σ H _ I h) λv s1 ⟨x,H1,I1,r1,q1⟩=>ho pins s1 σ H1 x v Q I1 r1 q1)
theorem opI {f:Value->Value->Sem Value}{C:Int->Int->Prop}{g:Int->Int->Int}
  (rule:∀(i j:Int) (t u:Tok) (s:Shared) (Q:Value->Shared->Prop) (E:Value->Shared->Prop),C i j->Q (.int (g i j) s.toks) { s with toks:=s.toks+1 }->wpAny (model X.prog X.w) X.A (f (.int i t) (.int j u)) Q E s) :
  OpR X f (rI C λi j=>.int (g i j)):=by
 intro pins s σ H x y v u Q I rx ry h
 obtain⟨i,j,rfl,rfl,hc,q⟩:=h
 obtain⟨t,rfl⟩:=rx
 obtain⟨t',rfl⟩:=ry
 exact rule i j t t' s _ _ hc ⟨.int (g i j),H,I.tok _,⟨_,rfl⟩,q⟩
theorem zdB {f:Value->Value->Sem Value}{g:Int->Int->Int}
  (rule:∀(i j:Int) (t u:Tok) (s:Shared) (Q:Value->Shared->Prop) (E:Value->Shared->Prop),Q (.int (g i j) s.toks) { s with toks:=s.toks+1 }->wpAny (model X.prog X.w) X.A (f (.int i t) (.int j u)) Q E s) :
  OpR X f (rI0 λi j=>.int (g i j)):=by
 intro pins s σ H x y v u Q I rx ry h
 obtain⟨i,j,rfl,rfl,q⟩:=h
 obtain⟨t,rfl⟩:=rx
 obtain⟨t',rfl⟩:=ry
 exact rule i j t t' s _ _ ⟨.int (g i j),H,I.tok _,⟨_,rfl⟩,q⟩
theorem zaV {f:Value->Value->Sem Value}{g:Int->Int->Bool}
  (rule:∀(i j:Int) (t u:Tok) (s:Shared) (Q:Value->Shared->Prop) (E:Value->Shared->Prop),Q (.bool (g i j)) s->wpAny (model X.prog X.w) X.A (f (.int i t) (.int j u)) Q E s) :
  OpR X f (rI0 λi j=>.bl (g i j)):=by
 intro pins s σ H x y v u Q I rx ry h
 obtain⟨i,j,rfl,rfl,q⟩:=h
 obtain⟨t,rfl⟩:=rx
 obtain⟨t',rfl⟩:=ry
 exact rule i j t t' s _ _ ⟨.bl (g i j),H,I,rfl,q⟩
def CDiv (i j:Int):Prop:=0<j/\j<1073741824
def CPow (i j:Int):Prop:=0<=j/\j<=1000000/\i.natAbs<2^64
def zbO (i j:Int):Prop:=(-(2^64)<i/\i<2^64)\/(-(2^64)<j/\j<2^64)
theorem zbO.ok {i j:Int}(h:zbO i j):IntMulOk i j:=by
 rcases h with⟨h1,h2⟩ | ⟨h1,h2⟩
 ·exact .of_left (intBits_le_64 h1 h2)
 ·exact .of_right (intBits_le_64 h1 h2)
theorem qC:OpR X (binaryOp .Add) (rI0 λi j=>.int (i+j)):=zdB λ_ _ _ _ _ _ _ q=>add_int q
theorem Ze:OpR X (binaryOp .Sub) (rI0 λi j=>.int (i - j)):=zdB λ_ _ _ _ _ _ _ q=>sub_int q
theorem Qf:OpR X (binaryOp .Mult) (rI zbO λi j=>.int (i*j)):=opI λ_ _ _ _ _ _ _ hc q=>mul_int q hc.ok
theorem QG:OpR X (binaryOp .FloorDiv) (rI CDiv λi j=>.int (i/j)):=opI λi j _ _ _ _ _ hc q=>by
 have h1:(0:Int)<j:=hc.1
 have h2:j<1073741824:=hc.2
 exact floordiv_int (by omega) (by rw[Int.fdiv_eq_ediv_of_nonneg i (by omega)];exact q) (.inl (PyProof.noPylong_small (by omega)))
theorem vq:OpR X (binaryOp .Mod) (rI (λ_ j=>0<j) λi j=>.int (i % j)):=opI λi j _ _ _ _ _ hc q=>by
 have h1:(0:Int)<j:=hc
 exact mod_int' (by omega) (by rw[Int.fmod_eq_emod_of_nonneg i (by omega)];exact q)
theorem Qg:OpR X (binaryOp .Pow) (rI CPow λi j=>.int (i^j.toNat)):=opI λ_ _ _ _ _ _ _ hc q=>pow_int_small hc.1 hc.2.1 hc.2.2 q
theorem unI {f:Value->Sem Value}{g:Int->Int}
  (rule:∀(i:Int) (t:Tok) (s:Shared) (Q:Value->Shared->Prop) (E:Value->Shared->Prop),Q (.int (g i) s.toks) { s with toks:=s.toks+1 }->wpAny (model X.prog X.w) X.A (f (.int i t)) Q E s) :
  UnR X f (rU λi=>.int (g i)):=by
 intro pins s σ H x v Q I rx h
 obtain⟨i,rfl,q⟩:=h
 obtain⟨t,rfl⟩:=rx
 exact rule i t s _ _ ⟨.int (g i),H,I.tok _,⟨_,rfl⟩,q⟩
theorem qg:UnR X (unaryOp .USub) (rU λi=>.int (-i)):=unI λ_ _ _ _ _ q=>neg_int q
end
def zdM:V->V->Bool
 | .non,.non=>true | .non,.int _=>true | .int _,.non=>true | .non,.bl _=>true | .bl _,.non=>true | .non,.str _=>true | .str _,.non=>true
 | .int _,.int _=>true | .bl _,.bl _=>true | .str _,.str _=>true | .byt _,.byt _=>true
 | .int _,.str _=>true | .str _,.int _=>true | .bl _,.str _=>true | .str _,.bl _=>true
 | _,_=>false
def rEq:R2:=λx y H Q=>zdM x y=true/\Q (.bl (decide (x=y))) H
def rNe:R2:=λx y H Q=>zdM x y=true/\Q (.bl (!decide (x=y))) H
theorem xj {i j:Int}:decide (V.int i=V.int j)=(i == j):=by
 rw[Bool.eq_iff_iff]
 simp
theorem VX {i j:Bool}:decide (V.bl i=V.bl j)=(i == j):=by
 rw[Bool.eq_iff_iff]
 simp
theorem Qx {i j:Str}:decide (V.str i=V.str j)=(i == j):=by
 rw[Bool.eq_iff_iff]
 simp
theorem Qw {i j:Array UInt8}:decide (V.byt i=V.byt j)=(i.toList == j.toList):=by
 rw[Bool.eq_iff_iff]
 cases i
 cases j
 simp
section
variable {X:Cx}{a b c:Expr}{ta tb tc:TE}{pos:Pos}
theorem zQ {pins:List (Addr×Obj)}{σ:St}{H:Hp}{s:Shared}{Q:VK}{k k':Bool}(I:Inv X pins σ H s) (q:Q (.bl k) H) (e:k=k'):EP X pins σ Q (.bool k') s:=by
 subst e
 exact⟨.bl k,H,I,rfl,q⟩
theorem qh:OpR X (compareOp .Eq) rEq:=by
 intro pins s σ H x y v u Q I rx ry h
 obtain⟨hs,q⟩:=h
 cases x with
 | non =>
  cases rx
  cases y with
  | non=>cases ry;exact PySem.EqNone.eq_none_none (zQ I q (by simp))
  | bl j=>cases ry;exact PySem.EqNone.eq_none_bool (zQ I q (by simp))
  | int j=>obtain⟨t',rfl⟩:=ry;exact PySem.EqNone.eq_none_int (zQ I q (by simp))
  | str j=>obtain⟨t',rfl⟩:=ry;exact PySem.EqNone.eq_none_str (zQ I q (by simp))
  | _=>exact absurd (show false=true from hs) Bool.false_ne_true
 | bl i =>
  cases rx
  cases y with
  | non=>cases ry;exact PySem.EqNone.eq_bool_none (zQ I q (by simp))
  | bl j=>cases ry;exact eq_bool (zQ I q VX)
  | str j=>obtain⟨t',rfl⟩:=ry;exact PySem.EqMixed.eq_bool_str (zQ I q (by simp))
  | _=>exact absurd (show false=true from hs) Bool.false_ne_true
 | int i =>
  obtain⟨t,rfl⟩:=rx
  cases y with
  | non=>cases ry;exact PySem.EqNone.eq_int_none (zQ I q (by simp))
  | int j=>obtain⟨t',rfl⟩:=ry;exact eq_int (zQ I q xj)
  | str j=>obtain⟨t',rfl⟩:=ry;exact PySem.EqMixed.eq_int_str (zQ I q (by simp))
  | _=>exact absurd (show false=true from hs) Bool.false_ne_true
 | str i =>
  obtain⟨t,rfl⟩:=rx
  cases y with
  | non=>cases ry;exact PySem.EqNone.eq_str_none (zQ I q (by simp))
  | bl j=>cases ry;exact PySem.EqMixed.eq_str_bool (zQ I q (by simp))
  | int j=>obtain⟨t',rfl⟩:=ry;exact PySem.EqMixed.eq_str_int (zQ I q (by simp))
  | str j=>obtain⟨t',rfl⟩:=ry;exact eq_str (zQ I q Qx)
  | _=>exact absurd (show false=true from hs) Bool.false_ne_true
 | byt i =>
  obtain⟨t,rfl⟩:=rx
  cases y with
  | byt j=>obtain⟨t',rfl⟩:=ry;exact PySem.W.eq_bytes (zQ I q Qw)
  | _=>exact absurd (show false=true from hs) Bool.false_ne_true
 | _=>cases y <;> exact absurd (show false=true from hs) Bool.false_ne_true
theorem jG:OpR X (compareOp .NotEq) rNe:=by
 intro pins s σ H x y v u Q I rx ry h
 obtain⟨hs,q⟩:=h
 cases x with
 | non =>
  cases rx
  cases y with
  | non=>cases ry;exact PySem.EqNone.ne_none_none (zQ I q (by simp))
  | bl j=>cases ry;exact PySem.EqNone.ne_none_bool (zQ I q (by simp))
  | int j=>obtain⟨t',rfl⟩:=ry;exact PySem.EqNone.ne_none_int (zQ I q (by simp))
  | str j=>obtain⟨t',rfl⟩:=ry;exact PySem.EqNone.ne_none_str (zQ I q (by simp))
  | _=>exact absurd (show false=true from hs) Bool.false_ne_true
 | bl i =>
  cases rx
  cases y with
  | non=>cases ry;exact PySem.EqNone.ne_bool_none (zQ I q (by simp))
  | bl j=>cases ry;exact ne_bool (zQ I q (congrArg not VX))
  | str j=>obtain⟨t',rfl⟩:=ry;exact PySem.EqMixed.ne_bool_str (zQ I q (by simp))
  | _=>exact absurd (show false=true from hs) Bool.false_ne_true
 | int i =>
  obtain⟨t,rfl⟩:=rx
  cases y with
  | non=>cases ry;exact PySem.EqNone.ne_int_none (zQ I q (by simp))
  | int j=>obtain⟨t',rfl⟩:=ry;exact ne_int (zQ I q (congrArg not xj))
  | str j=>obtain⟨t',rfl⟩:=ry;exact PySem.EqMixed.ne_int_str (zQ I q (by simp))
  | _=>exact absurd (show false=true from hs) Bool.false_ne_true
 | str i =>
  obtain⟨t,rfl⟩:=rx
  cases y with
  | non=>cases ry;exact PySem.EqNone.ne_str_none (zQ I q (by simp))
  | bl j=>cases ry;exact PySem.EqMixed.ne_str_bool (zQ I q (by simp))
  | int j=>obtain⟨t',rfl⟩:=ry;exact PySem.EqMixed.ne_str_int (zQ I q (by simp))
  | str j=>obtain⟨t',rfl⟩:=ry;exact ne_str (zQ I q (congrArg not Qx))
  | _=>exact absurd (show false=true from hs) Bool.false_ne_true
 | byt i =>
  obtain⟨t,rfl⟩:=rx
  cases y with
  | byt j=>obtain⟨t',rfl⟩:=ry;exact PySem.W.ne_bytes (zQ I q (congrArg not Qw))
  | _=>exact absurd (show false=true from hs) Bool.false_ne_true
 | _=>cases y <;> exact absurd (show false=true from hs) Bool.false_ne_true
theorem vT:OpR X (compareOp .Lt) (rI0 λi j=>.bl (decide (i<j))):=zaV λ_ _ _ _ _ _ _ q=>lt_int q
theorem ZO:OpR X (compareOp .LtE) (rI0 λi j=>.bl (decide (i<=j))):=zaV λ_ _ _ _ _ _ _ q=>le_int q
theorem Zd:OpR X (compareOp .Gt) (rI0 λi j=>.bl (decide (j<i))):=zaV λ_ _ _ _ _ _ _ q=>gt_int q
theorem zdC:OpR X (compareOp .GtE) (rI0 λi j=>.bl (decide (j<=i))):=zaV λ_ _ _ _ _ _ _ q=>ge_int q
theorem Vx:OpR X (compareOp .In) (λx y H Q=>∃i j,x = .str i/\y = .str j/\Q (.bl (!(Builtin.Str.occurrences j i 0 j.length 1).isEmpty)) H):=by
 intro pins s σ H x y v u Q I rx ry h
 obtain⟨i,j,rfl,rfl,q⟩:=h
 obtain⟨t,rfl⟩:=rx
 obtain⟨t',rfl⟩:=ry
 exact in_str (zQ I q rfl)
theorem jy:OpR X (compareOp .Is) (λx y H Q=>y = .non/\Q (.bl (decide (x = .non))) H):=by
 intro pins s σ H x y v u Q I rx ry h
 obtain⟨rfl,q⟩:=h
 cases ry
 refine is_none_gen (zQ I q ?_)
 cases x <;> first
  | (cases rx;rfl)
  | (obtain⟨t,rfl⟩:=rx;rfl)
theorem QH:OpR X (compareOp .IsNot) (λx y H Q=>y = .non/\Q (.bl (!decide (x = .non))) H):=by
 intro pins s σ H x y v u Q I rx ry h
 obtain⟨rfl,q⟩:=h
 cases ry
 refine isnot_none_gen (zQ I q ?_)
 cases x <;> first
  | (cases rx;rfl)
  | (obtain⟨t,rfl⟩:=rx;rfl)
theorem Xh:OpR X (compareOp .NotIn) (λx y H Q=>∃i j,x = .str i/\y = .str j/\Q (.bl (!(!(Builtin.Str.occurrences j i 0 j.length 1).isEmpty))) H):=by
 intro pins s σ H x y v u Q I rx ry h
 obtain⟨i,j,rfl,rfl,q⟩:=h
 obtain⟨t,rfl⟩:=rx
 obtain⟨t',rfl⟩:=ry
 exact notIn_str (zQ I q rfl)
theorem zz (b:Expr){op:CmpOp}(h:op≠.In:=by decide) (h2:op≠.NotIn:=by decide):behindInMarks op b=false:=by
 have e1:(op == CmpOp.In)=false:=by cases op <;> first | rfl | exact absurd rfl h
 have e2:(op == CmpOp.NotIn)=false:=by cases op <;> first | rfl | exact absurd rfl h2
 cases b <;> simp[behindInMarks,e1,e2]
theorem xD {op:CmpOp}{r:R2}(ho:OpR X (compareOp op) r) (ha:PE X a ta) (hb:PE X b tb) (hm:behindInMarks op b=false):PE X (.Compare a [op] [b] pos) (tOp r ta tb):=by
 intro pins s σ H Q I h
 exact wpAny_Compare1 (zbZ ha hb I h λv u s2 x y H2 I2 rx ry q=>ho pins s2 σ H2 x y v u Q I2 rx ry q) hm
def zae (t:TE):TT:=λσ H Q=>t σ H λx H'=>∃k,x = .bl k/\Q k H'
theorem zy {op:CmpOp}{r:R2}(ho:OpR X (compareOp op) r) (ha:PE X a ta) (hb:PE X b tb) (hm:behindInMarks op b=false):PT X (.Compare a [op] [b] pos) (zae (tOp r ta tb)):=by
 intro pins s σ H Q I h
 refine wpAny_isTrue_Compare1 (thn (ha pins s σ H _ I h) λv s1 ⟨x,H1,I1,r1,q1⟩=>thn (hb pins s1 σ H1 _ I1 q1) λu s2 ⟨y,H2,I2,r2,q2⟩ =>
  thn (ho pins s2 σ H2 x y v u _ I2 r1 r2 q2) λc s3 ⟨z,H3,I3,r3,k,e,q3⟩=>?_) hm
 subst e
 cases r3
 exact wpAny_truthy_bool ⟨H3,I3,q3⟩
def zaa (r r':R2) (ta tb tc:TE):TE:=λσ H Q=>ta σ H λx H1=>tb σ H1 λy H2=>r x y H2 λz H3=>∃k,z = .bl k ∧
 (if k=true then tc σ H3 λw' H4=>r' y w' H4 Q else Q (.bl false) H3)
theorem Ju {op op':CmpOp}{r r':R2}(ho:OpR X (compareOp op) r) (ho':OpR X (compareOp op') r') (ha:PE X a ta) (hb:PE X b tb) (hc:PE X c tc)
  (hm:lastMarks [op,op'] [b,c]=false:=by with_unfolding_all rfl):PE X (.Compare a [op,op'] [b,c] pos) (zaa r r' ta tb tc):=by
 intro pins s σ H Q I h
 refine Compare_chain (thn (ha pins s σ H _ I h) λv s1 ⟨x,H1,I1,r1,q1⟩=>chain_link (thn (hb pins s1 σ H1 _ I1 q1) λu s2 ⟨y,H2,I2,r2,q2⟩ =>
  thn (ho pins s2 σ H2 x y v u _ I2 r1 r2 q2) λd s3 ⟨z,H3,I3,r3,k,e,q3⟩=>?_)) hm
 subst e
 cases r3
 refine wpAny_truthy_bool ?_
 cases k with
 | false=>exact ite_ff ⟨.bl false,H3,I3,rfl,q3⟩
 | true=>exact ite_tt (chain_last (thn (hc pins s3 σ H3 _ I3 q3) λw' s4 ⟨z',H4,I4,r4,q4⟩=>ho' pins s4 σ H4 y z' u w' Q I4 r2 r4 q4))
theorem Zg {op op':CmpOp}{r r':R2}(ho:OpR X (compareOp op) r) (ho':OpR X (compareOp op') r') (ha:PE X a ta) (hb:PE X b tb) (hc:PE X c tc)
  (hm:lastMarks [op,op'] [b,c]=false:=by with_unfolding_all rfl):PT X (.Compare a [op,op'] [b,c] pos) (zae (zaa r r' ta tb tc)):=by
 intro pins s σ H Q I h
 refine isTrue_chain (thn (ha pins s σ H _ I h) λv s1 ⟨x,H1,I1,r1,q1⟩=>test_link (thn (hb pins s1 σ H1 _ I1 q1) λu s2 ⟨y,H2,I2,r2,q2⟩ =>
  thn (ho pins s2 σ H2 x y v u _ I2 r1 r2 q2) λd s3 ⟨z,H3,I3,r3,k,e,q3⟩=>?_)) hm
 subst e
 cases r3
 refine wpAny_truthy_bool ?_
 cases k with
 | false =>
  obtain⟨k',e',q'⟩:=q3
  cases e'
  exact ite_ff ⟨H3,I3,q'⟩
 | true =>
  refine ite_tt (test_last (thn (hc pins s3 σ H3 _ I3 q3) λw' s4 ⟨z',H4,I4,r4,q4⟩=>thn (ho' pins s4 σ H4 y z' u w' _ I4 r2 r4 q4) λd' s5 ⟨z2,H5,I5,r5,k2,e2,q5⟩=>?_))
  subst e2
  cases r5
  exact wpAny_truthy_bool ⟨H5,I5,q5⟩
def zdf (K:PySem.W.Frag) (x:V) (H:Hp) (k:Bool):Prop :=
 match x with
 | .non=>k=false
 | .bl b=>k=b
 | .int i=>k=(i != 0)
 | .str y=>y.length<=sizeLine/\k=((y.length:Int) != 0)
 | .byt y=>y.size<=sizeLine/\k=((y.size:Int) != 0)
 | .ref p=>(∃xs,SqL K H p xs/\k = !xs.isEmpty)\/(∃xs,SqT K H p xs/\k = !xs.isEmpty)\/∃kvs,H p=some (.dK kvs)/\k = !kvs.isEmpty
 | _=>False
theorem X9 {κ:Type}{kvs:List (κ×V)}{vs:List (κ×Value)} (r:KV kvs vs):(!vs.isEmpty) = !kvs.isEmpty:=by
 cases r <;> rfl
theorem j9 {xs:List V}{its:List Value}(r:zP xs its):(!its.toArray.isEmpty) = !xs.isEmpty:=by
 cases r <;> simp
theorem vX:(sizeLine:Nat)<2^63:=by rw[sizeLine_eq];decide
theorem zc7:TruR X (λx H Q=>∃k,zdf X.K x H k/\Q k H):=by
 intro pins s σ H x v Q I rx h
 obtain⟨k,e,q⟩:=h
 have hl:=vX
 have hs:sizeLine=16777216:=sizeLine_eq
 cases x with
 | non =>
  cases rx
  have e':k=false:=e
  subst e'
  exact truthy_none ⟨H,I,q⟩
 | bl b =>
  cases rx
  have e':k=b:=e
  subst e'
  exact wpAny_truthy_bool ⟨H,I,q⟩
 | int i =>
  obtain⟨t,rfl⟩:=rx
  have e':k=(i != 0):=e
  subst e'
  exact PySem.P.truthy_int ⟨H,I,q⟩
 | str y =>
  obtain⟨t,rfl⟩:=rx
  obtain⟨hy,e'⟩:y.length<=sizeLine/\k=((y.length:Int) != 0):=e
  subst e'
  exact PySem.P.truthy_str (by omega) ⟨H,I.tok _,q⟩
 | byt y =>
  obtain⟨t,rfl⟩:=rx
  obtain⟨hy,e'⟩:y.size<=sizeLine/\k=((y.size:Int) != 0):=e
  subst e'
  exact PySem.W.truthy_bytes (by omega) ⟨H,I.tok _,q⟩
 | ref p =>
  cases rx
  have e':(∃xs,SqL X.K H p xs/\k = !xs.isEmpty)\/(∃xs,SqT X.K H p xs/\k = !xs.isEmpty)\/∃kvs,H p=some (.dK kvs)/\k = !kvs.isEmpty:=e
  rcases e' with⟨xs,hx,e'⟩ | ⟨xs,hx,e'⟩ | ⟨kvs,hx,e'⟩
  ·subst e'
   obtain⟨its,r,pl,hz⟩:=I.list hx
   have hlen:=r.length
   exact wpAny_truthy_list pl.isList (by simp only[List.size_toArray];omega) ⟨H,I.tok _,by rw[j9 r];exact q⟩
  ·subst e'
   obtain⟨its,r,pl,hz⟩:=I.tuple hx
   have hlen:=r.length
   exact truthy_tuple pl (by simp only[List.size_toArray];omega) ⟨H,I.tok _,by rw[j9 r];exact q⟩
  ·subst e'
   obtain⟨hz,hS,vs,r,m⟩:kvs.length<=sizeLine/\(p == sysModules)=false/\∃vs,KV kvs vs/\s.heap.DictOf (Xd X.prog X.w) p vs:=I.hok p _ hx
   have hlen:kvs.length=vs.length:=Paired.length r
   exact wpAny_truthy_dict hS m (by omega) ⟨H,I.tok _,by rw[X9 r];exact q⟩
 | _=>exact(show False from e).elim
theorem zV (ha:PE X a ta) (he:∀whole,isTrue a X.env whole=(do let v <-whole;standAt a.pos;holding [v] (truthy v))) :
  PT X a (λσ H Q=>ta σ H λx H'=>∃k,zdf X.K x H' k/\Q k H'):=by
 intro pins s σ H Q I h
 exact isTrue_plain (thn (ha pins s σ H _ I h) λv s1 ⟨x,H1,I1,r1,q1⟩=>zc7 pins s1 σ H1 x v Q I1 r1 q1) (he _)
theorem zn:OpR X (binaryOp .Add) (λx y H Q=>∃i j,x = .str i/\y = .str j/\i.length+j.length<=sizeLine/\Q (.str (i++j)) H):=by
 intro pins s σ H x y v u Q I rx ry h
 obtain⟨i,j,rfl,rfl,hz,q⟩:=h
 obtain⟨t,rfl⟩:=rx
 obtain⟨t',rfl⟩:=ry
 exact add_str (λt' tk=>⟨.str (i++j),H,I.tok _,⟨_,rfl⟩,q⟩) hz
theorem vo {x:V}{us:List Value}(r:zP [x] us):∃u,us=[u]/\xb x u:=by
 cases r with
 | cons r1 r2=>cases r2;exact⟨_,rfl,r1⟩
theorem Q5 {x y:V}{us:List Value}(r:zP [x,y] us):∃u w',us=[u,w']/\xb x u/\xb y w':=by
 cases r with
 | cons r1 r2 =>
  cases r2 with
  | cons r3 r4=>cases r4;exact⟨_,_,rfl,r1,r3⟩
theorem j4:ve X (.builtin "abs") (λxs H Q=>∃i,xs=[.int i]/\Q (.int (if i<0 then -i else i)) H):=by
 intro pins s σ H xs us Q I r h
 obtain⟨i,rfl,q⟩:=h
 obtain⟨u,rfl,t,rfl⟩:=vo r
 exact call_abs_int λu tk=>⟨.int (if i<0 then -i else i),H,I.tok _,⟨_,rfl⟩,q⟩
theorem Va (hc:X.calm=true):ve X (.builtin "max") (λxs H Q=>∃i j,xs=[.int i,.int j]/\Q (.int (if j>i then j else i)) H):=by
 intro pins s σ H xs us Q I r h
 obtain⟨i,j,rfl,q⟩:=h
 obtain⟨u,w',rfl,⟨t,rfl⟩,⟨t',rfl⟩⟩:=Q5 r
 refine max_two_ints (I.ok.hd hc) λh' tk k=>⟨_,H,I.kept k,?_,q⟩
 by_cases hj:j>i
 ·rw[if_pos hj,if_pos hj];exact⟨_,rfl⟩
 ·rw[if_neg hj,if_neg hj];exact⟨_,rfl⟩
theorem jv:ve X (.type "int") (λxs H Q=>(∃i,xs=[.int i]/\Q (.int i) H)\/∃k,xs=[.bl k]/\Q (.int (if k then 1 else 0)) H):=by
 intro pins s σ H xs us Q I r h
 rcases h with⟨i,rfl,q⟩ | ⟨k,rfl,q⟩
 ·obtain⟨u,rfl,t,rfl⟩:=vo r
  exact call_int_int ⟨.int i,H,I,⟨_,rfl⟩,q⟩
 ·obtain⟨u,rfl,r1⟩:=vo r
  cases r1
  exact call_int_bool ⟨.int (if k then 1 else 0),H,I.tok _,⟨_,rfl⟩,q⟩
theorem Z7:ve X (.type "str") (λxs H Q=>∃i,xs=[.int i]/\i.natAbs.log2<1920/\Q (.str (toString i)) H):=by
 intro pins s σ H xs us Q I r h
 obtain⟨i,rfl,hz,q⟩:=h
 obtain⟨u,rfl,t,rfl⟩:=vo r
 exact PySem.P.str_of_int hz ⟨.str _,H,I.tok _,⟨_,rfl⟩,q⟩
end
end L2
namespace L2
open PySem PySem.Spec PyProof.Rows
structure zbP (h:Heap) (x dx C:Addr) (mA:Str->Option Value):Prop where
 obj:h.get? x=some (PySem.W.instObj C dx)
 ns:h.Ns1 dx mA
 ne:dx≠x
theorem Vn {h:Heap}{dx:Addr}{mA:Str->Option Value}(n:h.Ns1 dx mA):∃od,h.get? dx=some od/\∀name,PySem.W.lookIn name od=some (mA name):=by
 obtain⟨o,es,ep,ho,hd,hk,_,hm⟩:=n
 refine⟨o,ho,λname=>?_⟩
 have e:=hm name
 unfold nsFind findBy at e
 rw[<-Array.find?_toList]at e
 unfold PySem.W.lookIn
 rw[hd]
 dsimp only
 split
 ·rename_i y q
  rw[q]at e
  exact congrArg some e
 ·rename_i q
  rw[q]at e
  have a:es.toList.any (·.refKey)=false:=by
   rw[List.any_eq_false]
   intro y hy
   obtain⟨z,t,hkey⟩:=hk y (Array.mem_toList_iff.mp hy)
   simp[DictEntry.refKey,hkey]
  have a':¬es.toList.any (·.refKey)=true:=by rw[a];exact Bool.false_ne_true
  rw[if_neg a']
  exact congrArg some e
theorem zbP.look {h:Heap}{x dx C:Addr}{mA:Str->Option Value}(I:zbP h x dx C mA):∃od,PySem.W.InstAt h x (PySem.W.instObj C dx) C (some od)/\∀name,PySem.W.lookIn name od=some (mA name) :=
 let ⟨od,ho,hl⟩:=Vn I.ns
 ⟨od,⟨I.obj,rfl,rfl,ho⟩,hl⟩
section
variable {P:Program}{w:World}{H H':Hp}{h h':Heap}{a C dx:Addr}{fs fs':List (Str×V)}
theorem zax (hok:HOk P w H h) (e:H a=some (.ins C dx fs)):∃mA,zbP h a dx C mA/\(∀f,zbR (fs.lookup f) (mA f))/\PySem.Within mA (fs.map (·.1))/\fs.length<=1000/\H dx=some (.own a):=by
 obtain⟨d,z,ne,ob,mA,n,r,q⟩:=(show xE P w H h a (.ins C dx fs)from hok a _ e)
 exact⟨mA,⟨ob,n,ne⟩,r,q,z,d⟩
end
structure Cls (K:PySem.W.Frag) (C:Addr):Prop where
 pg:PySem.W.plainGet K C Str.empty=true
 hd:PySem.W.hasDictIn K C=true
 po:PySem.W.plainOver K C=true
 sa:PySem.W.findIn K (.ref C) "__setattr__" = some (some (.builtin "object.__setattr__"))
theorem Cls.get {K:PySem.W.Frag}{C:Addr}(c:Cls K C) (f:Str):PySem.W.plainGet K C f=true:=c.pg
section
variable {X:Cx}{pins:List (Addr×Obj)}{σ:St}{H:Hp}{s:Shared}{A:Around}{E:Value->Shared->Prop}{Q:Value->Shared->Prop}{c:Value}{b:Bool}
inductive jt (K:PySem.W.Frag) (H:Hp):V->Value->Prop where
 | non:jt K H .non (.type "NoneType")
 | bl (x:Bool):jt K H (.bl x) (.type "bool")
 | int (i:Int):jt K H (.int i) (.type "int")
 | str (x:Str):jt K H (.str x) (.type "str")
 | flt (x:UInt64):jt K H (.flt x) (.type "float")
 | lst {a:Addr}{xs:List V}(e:H a=some (.lst xs)):jt K H (.ref a) (.type "list")
 | frz {a:Addr}{o:Obj}{xs:List V}(e:H a=some (.frz o (.lst xs))):jt K H (.ref a) (.type "list")
 | tup {a:Addr}{xs:List V}(e:H a=some (.tup xs)):jt K H (.ref a) (.type "tuple")
 | dK {a:Addr}{kvs:List (Key×V)} (e:H a=some (.dK kvs)):jt K H (.ref a) (.type "dict")
 | dT {a:Addr}{kvs:List (List Key×V)} (e:H a=some (.dT kvs)):jt K H (.ref a) (.type "dict")
 | ins {a C dx:Addr}{fs:List (Str×V)} (e:H a=some (.ins C dx fs)) (cl:Cls K C) (ha:PySem.W.findIn K (.ref C) "__class__" = some (some (.builtin "object.__class__")))
   (hn:PySem.W.specialIn K (.builtin "object.__class__") "__get__" = some (some (.builtin "getset_descriptor.__get__"))) (htk:PySem.W.takesIn K (.builtin "object.__class__")=some true)
   (hm:PySem.W.mroIn K C (.type "object")=some true):jt K H (.ref a) (.ref C)
theorem Vl {x:V}{u t:Value}(I:Inv X pins σ H s) (rx:xb x u) (ty:jt X.K H x t) (e:PySem.W.kitOne X.K t c=some b) (h:∀tk,Q (.bool b) { s with toks:=tk }) :
  wpAny (model X.prog X.w) A (call (.builtin "isinstance") [u,c]) Q E s:=by
 cases ty with
 | non=>cases(show u=Value.none from rx);exact PySem.W.kia_one PySem.W.kitx_none I.kIn True.intro e (λz=>nomatch z) h
 | bl y=>cases(show u=Value.bool y from rx);exact PySem.W.kia_one PySem.W.kitx_bool I.kIn True.intro e (λz=>nomatch z) h
 | int i=>obtain⟨t,q⟩:=(show ∃t,u=Value.int i t from rx);cases q;exact PySem.W.kia_one PySem.W.kitx_int I.kIn True.intro e (λz=>nomatch z) h
 | str y=>obtain⟨t,q⟩:=(show ∃t,u=Value.str y t from rx);cases q;exact PySem.W.kia_one PySem.W.kitx_str I.kIn True.intro e (λz=>nomatch z) h
 | flt y=>obtain⟨t,q⟩:=(show ∃t,u=Value.float y t from rx);cases q;exact PySem.W.kia_one PySem.W.kitx_float I.kIn True.intro e (λz=>nomatch z) h
 | @lst a xs ea =>
  cases(show u=Value.ref a from rx)
  obtain⟨_,_,n,_,h1⟩:=(show xE X.prog X.w H s.heap a (.lst xs)from I.hok a _ ea)
  exact PySem.W.kia_one PySem.W.kitx_list I.kIn ⟨_,h1,rfl⟩ e (λz=>nomatch z) h
 | @frz a ob xs ea =>
  cases(show u=Value.ref a from rx)
  obtain⟨_,_,_,n,_,h1⟩:=(show xE X.prog X.w H s.heap a (.frz ob (.lst xs))from I.hok a _ ea)
  exact PySem.W.kia_one PySem.W.kitx_list I.kIn ⟨_,h1,rfl⟩ e (λz=>nomatch z) h
 | @tup a xs ea =>
  cases(show u=Value.ref a from rx)
  obtain⟨_,_,_,p⟩:=(show xE X.prog X.w H s.heap a (.tup xs)from I.hok a _ ea)
  obtain⟨o,h1,h2,_⟩:=p
  exact PySem.W.kia_one PySem.W.kitx_tuple I.kIn ⟨o,h1,h2⟩ e (λz=>nomatch z) h
 | @dK a kvs ea =>
  cases(show u=Value.ref a from rx)
  obtain⟨_,_,vs,_,p⟩:=(show xE X.prog X.w H s.heap a (.dK kvs)from I.hok a _ ea)
  obtain⟨o,es,ep,h1,h2,_⟩:=p
  exact PySem.W.kia_one PySem.W.kitx_dict I.kIn ⟨o,h1,h2.1⟩ e (λz=>nomatch z) h
 | @dT a kvs ea =>
  cases(show u=Value.ref a from rx)
  obtain⟨_,_,xs,_,o,es,ep,h1,h2,_⟩:=(show xE X.prog X.w H s.heap a (.dT kvs)from I.hok a _ ea)
  exact PySem.W.kia_one PySem.W.kitx_dict I.kIn ⟨o,h1,h2.1⟩ e (λz=>nomatch z) h
 | @ins a C dx fs ea cl ha hn htk hm =>
  cases(show u=Value.ref a from rx)
  obtain⟨mA,O,_⟩:=zax I.hok ea
  obtain⟨od,J,_⟩:=O.look
  exact PySem.W.kia_one (PySem.W.kitx_own (cl.get _) cl.hd ha hn htk hm) I.kIn J e (λz=>nomatch z) h
end
end L2
namespace L2
open PySem PySem.Spec PyProof.Rows
structure xa (k:Nat) (A:Around):Prop where
 hd:A.handled=none
 dp:A.depth+3*k+5<recursionLimit
 un:A.units+16*k+200<cLine
theorem xa.mono {j k:Nat}{A:Around}(r:xa k A) (h:j<=k):xa j A:=⟨r.hd,by have:=r.dp;omega,by have:=r.un;omega⟩
theorem xa.deeper {k:Nat}{A:Around}(r:xa (k+1) A) (env:Env):xa k (A.deeper env) :=
 ⟨r.hd,by have:=r.dp;show A.depth+1+3*k+5<_;omega,by have:=r.un;show A.units+3+16*k+200<_;omega⟩
theorem xa.depth {k:Nat}{A:Around}(r:xa k A):A.depth<recursionLimit:=by have:=r.dp;omega
theorem xa.units {k:Nat}{A:Around}(r:xa k A):A.units+64<cLine:=by have:=r.un;omega
def Zy:TA:=λ_ H Q=>Q [] H
def qG (ta:TE) (tr:TA):TA:=λσ H Q=>ta σ H λx H1=>tr σ H1 λxs H2=>Q (x::xs) H2
section
variable {X:Cx}{e:Expr}{es:List Expr}{te:TE}{t:TA}{pos:Pos}
theorem ze:PA X [] Zy:=λ_ _ _ _ H Q I h=>Calls.spliced_nil ⟨[],H,I,.nil,h⟩
theorem zd (ha:PE X e te) (hr:PA X es t) (hs:starEach (e::es) X.env=(false,eval e X.env)::starEach es X.env:=by rfl):PA X (e::es) (qG te t):=by
 intro pos pins s σ H Q I h
 rw[hs]
 show wpAny _ _ (spliced ((false,eval e X.env)::backTo pos (starEach es X.env))) _ _ s
 refine Calls.spliced_cons (thn (ha pins s σ H _ I h) λu s1 ⟨x,H1,I1,r1,q1⟩=>?_)
 exact thn (hr pos pins s1 σ H1 _ I1 q1) λus s2 ⟨xs,H2,I2,r2,q2⟩=>⟨x::xs,H2,I2,.cons r1 r2,q2⟩
def zed (t:TA):TE:=λσ H Q=>t σ H λxs H1=>xs.length<=sizeLine/\∀p,H1 p=none->Q (.ref p) (upd H1 p (.tup xs))
def zd8 (t:TA):TE:=λσ H Q=>t σ H λxs H1=>xs.length<=sizeLine/\∀p,H1 p=none->Q (.ref p) (upd H1 p (.lst xs))
theorem vt {x1} (h:PA X es t):PE X (.Tuple es x1 pos) (zed t):=by
 intro pins s σ H Q I hq
 refine wpAny_Tuple_spliced (thn (h pos pins s σ H _ I hq) λus s1 ⟨xs,H1,I1,r,z,q⟩=>⟨by rw[<-r.length];exact z,?_⟩)
 have hf:H1 s1.heap.objs.size=none:=I1.hok.fresh (Nat.le_refl _)
 refine⟨.ref s1.heap.objs.size,upd H1 s1.heap.objs.size (.tup xs),I1.laid (t':=s1.toks) (λb u e=>Heap.get?_push_of_some _ e) (Nat.le_refl _) ?_,rfl,q _ hf⟩
 exact⟨z,us,r,⟨_,Heap.get?_push_size _ rfl,rfl,_,rfl⟩⟩
theorem xx (h:PA X es t):PE X (.List es pos) (zd8 t):=by
 intro pins s σ H Q I hq
 refine wpAny_List_spliced (thn (h pos pins s σ H _ I hq) λus s1 ⟨xs,H1,I1,r,z,q⟩=>⟨by rw[<-r.length];exact z,?_⟩)
 have hf:H1 s1.heap.objs.size=none:=I1.hok.fresh (Nat.le_refl _)
 refine⟨.ref s1.heap.objs.size,upd H1 s1.heap.objs.size (.lst xs),I1.laid (t':=s1.toks) (λb u e=>Heap.get?_push_of_some _ e) (Nat.le_refl _) ?_,rfl,q _ hf⟩
 exact⟨z,us,0,r,Heap.get?_push_size _ rfl⟩
end
abbrev Sp:=List V->Hp->VK->XK->Prop
abbrev CXT:=List Env->Hp->Shared->XK->Value->Shared->Prop
structure zap (P:Program) (w:World) (K:PySem.W.Frag) (mg:Str->Option Value) (base:Heap) (A:Around) (outer:List Env) (s:Shared) (H:Hp):Prop where
 frames:A.frames=some outer
 mod:Mod K mg base
 bs:∀b o,base.get? b=some o->s.heap.get? b=some o/\H b=none
 bsz:base.objs.size<=s.heap.objs.size
 funs:s.heap.FunFrames base outer
 frf:∀b∈frs outer,H b=none
 hok:HOk P w H s.heap
 bare:AllBare s.gens
def CE (outer:List Env) (P:Program) (w:World) (H:Hp) (s:Shared) (Q:VK) (u:Value) (s':Shared):Prop :=
 ∃v H',s'.os=s.os/\AllBare s'.gens/\Un (frs outer) [] H H' s.heap s'.heap/\HOk P w H' s'.heap/\xb v u/\Q v H'
def CR (CX:CXT) (outer:List Env) (P:Program) (w:World) (H:Hp) (s:Shared) (Q:VK) (E:XK) (r:Result) (s':Shared):Prop :=
 match r with
 | .ok (.ret u)=>CE outer P w H s Q u s'
 | .ok _=>False
 | .error e=>CX outer H s E e s'
structure jJ (P:Program) (w:World) (K:PySem.W.Frag) (mg:Str->Option Value) (base:Heap) (CX:CXT) (k:Nat) (f:Addr) (fd:FuncData) (ps:List Str) (sp:Sp):Prop where
 len:∀vs H Q E,sp vs H Q E->vs.length=ps.length
 run:∀(A:Around) (outer:List Env) (s:Shared) (H:Hp) (args:Args) (us:List Value) (vs:List V) (Q:VK) (E:XK),xa k A->zap P w K mg base A outer s H->BindsTo s fd args (ps.zip us)->zP vs us->sp vs H Q E →
  codeAny (model P w) A (.call (.ref f) args) (CR CX outer P w H s Q E) s
section
variable {X:Cx}{pins:List (Addr×Obj)}{σ:St}{H:Hp}{s s':Shared}
theorem Inv.env0 (I:Inv X pins σ H s):zap X.prog X.w X.K X.mg X.base X.A X.stack s H :=
 ⟨I.ok.frames,I.ok.mod,I.bs,Nat.le_trans I.ok.bsz I.sz,I.stack,I.stkFree,I.hok,I.bare⟩
theorem Inv.after {Q:VK}{u:Value}(I:Inv X pins σ H s) (h:CE X.stack X.prog X.w H s Q u s'):EP X pins σ Q u s':=by
 obtain⟨v,H',os,bare,un,hok,r,q⟩:=h
 obtain⟨hh,g,d,t,os'⟩:=s'
 obtain rfl:os'=s.os:=os
 exact⟨v,H',I.call (h':=hh) (g':=g) (d':=d) (t':=t) (ch:=[]) un hok bare (λb z=>absurd z (by simp)),r,q⟩
end
def ZY (sp:Sp) (dvs:List V) (E:XK) (t:TA):TE:=λσ H Q=>t σ H λvs H1=>sp (vs++dvs) H1 Q E
def jE (K:PySem.W.Frag) (fd:FuncData) (ps:List Str) (ds:List Value):Prop :=
 ∀(s:Shared) (us:List Value),K.In s.heap->(us++ds).length=ps.length->BindsTo s fd ⟨us,[]⟩ (ps.zip (us++ds))
theorem jE.all {K:PySem.W.Frag}{fd:FuncData}{ps:List Str}(h:∀us:List Value,us.length=ps.length->bindArgs fd ⟨us,[]⟩=pure (ps.zip us)):jE K fd ps []:=λs us _ hl=>by
 rw[List.append_nil]at hl ⊢
 exact .of_eq (h us hl)
def XZ (CX:CXT) (X:Cx) (E:XK):Prop:=∀(pins:List (Addr×Obj)) (σ:St) (H:Hp) (s:Shared) (e:Value) (s':Shared),Inv X pins σ H s->CX X.stack H s E e s'->X.xe e s'
section
variable {X:Cx}{CX:CXT}{k:Nat}{f C:Addr}{fd:FuncData}{ps:List Str}{sp:Sp}{dvs:List V}{ds:List Value}{E:XK}{x m:Str}{p pos apos:Pos}{e o:Expr}{es:List Expr}{ta:TE}{t:TA}
theorem zcO {pins:List (Addr×Obj)}{σ:St}{H:Hp}{s:Shared}{Q:VK}{us:List Value}{vs:List V}(F:jJ X.prog X.w X.K X.mg X.base CX k f fd ps sp) (hr:xa k X.A) (hb:jE X.K fd ps ds) (hd:zP dvs ds) (hx:XZ CX X E)
  (I:Inv X pins σ H s) (r:zP vs us) (h:sp (vs++dvs) H Q E):wpAny (model X.prog X.w) X.A (call (.ref f) us) (EP X pins σ Q) X.xe s:=by
 have r2:zP (vs++dvs) (us++ds):=r.append hd
 have hl:(us++ds).length=ps.length:=by rw[<-r2.length];exact F.len _ _ _ _ h
 refine wpAny_call (codeAny_mono (F.run X.A X.stack s H ⟨us,[]⟩ (us++ds) (vs++dvs) Q E hr I.env0 (hb s us I.kIn hl) r2 h) λr s' hq=>?_)
 cases r with
 | error e=>exact hx pins σ H s e s' I hq
 | ok fl =>
  cases fl with
  | ret u=>exact I.after hq
  | next=>exact False.elim hq
  | brk=>exact False.elim hq
  | cont=>exact False.elim hq
theorem za0 (F:jJ X.prog X.w X.K X.mg X.base CX k f fd ps sp) (hr:xa k X.A) (hg:Gl X x) (hm:X.mg x=some (.ref f)) (hk:PySem.W.keepIn X.K (.ref f)=true) (hb:jE X.K fd ps ds) (hd:zP dvs ds) (hx:XZ CX X E)
  (ha:PA X (e::es) t) (hdb:(x == ("__debug__":Str))=false:=by decide) (he:starEach (e::es) X.env=(false,eval e X.env)::starEach es X.env:=by rfl) (hpl:(backTo pos (starEach es X.env)).any (·.1)=false:=by rfl) :
  PE X (.Call (.Name x p) (e::es) [] pos) (ZY sp dvs E t):=by
 intro pins s σ H Q I h
 refine wpAny_Call_Name_kw (jd I hg hm ?_ hdb)
 refine PySem.W.callWith_K (h₀:=X.base) I.ok.mod.kin hk (thn (ha pos pins s σ H _ I h) λus s1 ⟨vs,H1,I1,r,q⟩=>⟨I1.kIn,?_⟩) he hpl
 exact zcO F hr hb hd hx I1 r q
end
structure zr (N P:List Str) (sc:Scope):Prop where
 kind:sc.kind = .function
 co:sc.isCoroutine=false
 gen:sc.isGenerator=false
 nd:N.Nodup
 pre:N.take P.length=P
 par:∀x∈P,sc.names.lookup x=some .local ∨ sc.names.lookup x=some .cell
 nofree:∀y∈sc.names,y.2≠.free
theorem ZF {kindOf:Str->Option NameKind}{x:Str}:∀{binds:List (Str×Value)}{m:Str->Option Value},(∀v,(x,v)∉binds)->bindL kindOf binds m x=m x
 | [],_,_=>rfl
 | (n,v)::r,m,h=>by
  unfold bindL
  rw[ZF λw hw=>h w (List.mem_cons_of_mem _ hw)]
  split
  ·have:x≠n:=by rintro rfl;exact h v List.mem_cons_self
   simp[this]
  ·rfl
theorem ZD {kindOf:Str->Option NameKind}{x:Str}:∀{binds:List (Str×Value)}{m:Str->Option Value},(∀v,(x,v)∉binds)->bindC kindOf binds m x=m x
 | [],_,_=>rfl
 | (n,v)::r,m,h=>by
  unfold bindC
  rw[ZD λw hw=>h w (List.mem_cons_of_mem _ hw)]
  split
  ·rfl
  ·have:x≠n:=by rintro rfl;exact h v List.mem_cons_self
   simp[this]
theorem ZE {kindOf:Str->Option NameKind}{x:Str}{v:Value}:∀{P:List Str}{vs:List Value}{i:Nat}{m:Str->Option Value},P.Nodup->P[i]? = some x->vs[i]? = some v->kindOf x=some .local →
  bindL kindOf (P.zip vs) m x=some v
 | [],_,_,_,_,h,_,_=>by simp at h
 | _::_,[],_,_,_,_,h,_=>by simp at h
 | p::P,w::vs,0,m,nd,h1,h2,hk=>by
  simp at h1 h2;subst h1;subst h2
  show bindL kindOf ((p,w)::P.zip vs) m p=_
  unfold bindL
  rw[ZF λv hv=>(List.nodup_cons.mp nd).1 (List.of_mem_zip hv).1,if_pos hk]
  simp
 | p::P,w::vs,i+1,m,nd,h1,h2,hk=>by
  show bindL kindOf ((p,w)::P.zip vs) m x=_
  unfold bindL
  exact ZE (i:=i) (List.nodup_cons.mp nd).2 (by simpa using h1) (by simpa using h2) hk
theorem ZC {kindOf:Str->Option NameKind}{x:Str}{v:Value}:∀{P:List Str}{vs:List Value}{i:Nat}{m:Str->Option Value},P.Nodup->P[i]? = some x->vs[i]? = some v->kindOf x≠some .local →
  bindC kindOf (P.zip vs) m x=some v
 | [],_,_,_,_,h,_,_=>by simp at h
 | _::_,[],_,_,_,_,h,_=>by simp at h
 | p::P,w::vs,0,m,nd,h1,h2,hk=>by
  simp at h1 h2;subst h1;subst h2
  show bindC kindOf ((p,w)::P.zip vs) m p=_
  unfold bindC
  rw[ZD λv hv=>(List.nodup_cons.mp nd).1 (List.of_mem_zip hv).1,if_neg hk]
  simp
 | p::P,w::vs,i+1,m,nd,h1,h2,hk=>by
  show bindC kindOf ((p,w)::P.zip vs) m x=_
  unfold bindC
  exact ZC (i:=i) (List.nodup_cons.mp nd).2 (by simpa using h1) (by simpa using h2) hk
def vz (N:List Str) (vs:List V):St:=vs.map some++List.replicate (N.length - vs.length) none
def xX (CX:CXT) (P:Program) (w:World) (K:PySem.W.Frag) (mg:Str->Option Value) (base:Heap) (N:List Str) (qual:Str) (scope:Scope) (f:Addr) (cd:Value) (A:Around) (outer:List Env) (s:Shared) (H:Hp) (E:XK):Cx where
 prog:=P
 w:=w
 K:=K
 mg:=mg
 base:=base
 A:=A.deeper (envOfC qual scope s.heap.objs.size f cd)
 N:=N
 s₀:=s
 H₀:=H
 env:=envOfC qual scope s.heap.objs.size f cd
 outer:=outer
 stack:=envOfC qual scope s.heap.objs.size f cd::outer
 ex:=[]
 calm:=true
 fn:=λ_=>true
 pn:=[]
 xe:=λe s'=>wpAny (model P w) (A.deeper (envOfC qual scope s.heap.objs.size f cd)) (leaving (envOfC qual scope s.heap.objs.size f cd) e) (λ_ s''=>CX outer H s E e s'') (λe' s''=>CX outer H s E e' s'') s'
theorem Xu {sc:Scope}{n:Nat}{x:Str}(h:sc.names.lookup x=some .cell):∃c,(cellsFrom n sc.names []).lookup x=some c:=by
 have q:=PySem.W.cellsFrom_some sc.names n [] (.inl h)
 exact Option.isSome_iff_exists.mp q
theorem Vk {CX:CXT}{P:Program}{w:World}{K:PySem.W.Frag}{mg:Str->Option Value}{base:Heap}{N ps:List Str}{qual:Str}{scope:Scope}{f:Addr}{cd:Value}{A:Around}{outer:List Env}{s s1:Shared}{H:Hp}{E:XK}{us:List Value}{vs:List V}
  (S:zr N ps scope) (hd:A.handled=none) (e0:zap P w K mg base A outer s H) (hl:vs.length=ps.length) (r:zP vs us)
  (x:InCallC s s.heap.objs.size (bindL (envOfC qual scope s.heap.objs.size f cd).kindOf (ps.zip us) λ_=>none) (cellsFrom (s.heap.objs.size+1) scope.names []) (bindC (envOfC qual scope s.heap.objs.size f cd).kindOf (ps.zip us) λ_=>none) s1) :
  Inv (xX CX P w K mg base N qual scope f cd A outer s H E) [] (vz N vs) H s1:=by
 have hpl:ps.length<=N.length:=by have:=congrArg List.length S.pre;rw[List.length_take]at this;omega
 obtain⟨h1,tk,rfl,hk⟩:=x.done
 have noA:∀b:Addr,b∉(xX CX P w K mg base N qual scope f cd A outer s H E).ex:=λb z=>absurd (show b∈([]:List Addr)from z) (by simp)
 refine⟨⟨e0.mod,S.kind,rfl,rfl,Nat.le_refl _,λy z c h1 h2=>?_,λy hy=>?_,λy c _ h=>?_,λ_=>hd,Around.frames_deeper e0.frames,.inr ⟨rfl,rfl⟩,λb z=>absurd z (noA b),e0.bs,e0.bsz,λb _ _=>noA b,λb z=>absurd z (noA b),e0.funs,e0.frf⟩,
  rfl,e0.bare,Un.kept hk,⟨_,x.toInCall.ns,λi y v h1 h2 h3=>?_⟩,λy c h=>⟨_,x.cell y c h⟩,e0.hok.fresh (Nat.le_refl _),λy c h=>?_,λp hp=>absurd (show p∈([]:List (Addr×Obj))from hp) (by simp),e0.hok.kept hk,?_⟩
 ·exact name_of_addr x.apart (PySem.mem_of_lookup h1) (PySem.mem_of_lookup h2)
 ·have hy:scope.names.lookup y=some .cell\/scope.names.lookup y=some .free:=hy
  rcases hy with hy | hy
  ·exact Xu hy
  ·exact absurd rfl (S.nofree _ (PySem.mem_of_lookup hy))
 ·exact Nat.le_of_lt (x.above y c (PySem.mem_of_lookup h))
 ·have hi:i<vs.length:=by
   unfold vz at h2
   by_cases hi:i<vs.length
   ·exact hi
   ·rw[List.getElem?_append_right (by simpa using hi)]at h2
    rw[List.getElem?_replicate]at h2
    split at h2 <;> cases h2
  have ha:vs[i]? = some v:=by
   unfold vz at h2
   rw[List.getElem?_append_left (by simpa using hi),List.getElem?_map]at h2
   cases e:vs[i]? with
   | none=>rw[e]at h2;cases h2
   | some a=>rw[e]at h2;cases h2;rfl
  obtain⟨u,hu,rv⟩:=r.get ha
  have hp:ps[i]? = some y:=by
   rw[<-S.pre,List.getElem?_take_of_lt (by omega)];exact h1
  have ndP:ps.Nodup:=by rw[<-S.pre];exact S.nd.sublist (List.take_sublist _ _)
  refine⟨u,rv,?_⟩
  rcases S.par y (List.mem_of_getElem? hp)with k | k
  ·exact .inl ⟨k,ZE ndP hp hu k⟩
  ·obtain⟨c,e⟩:=Xu (n:=s.heap.objs.size+1) k
   refine .inr ⟨.inl k,c,e,?_⟩
   have q:=x.cell y c e
   rw[ZC ndP hp hu (by show scope.names.lookup y≠_;rw[k];decide)]at q
   exact q
 ·exact e0.hok.fresh (Nat.le_of_lt (x.above y c (PySem.mem_of_lookup h)))
 ·unfold vz
  show _=N.length
  rw[List.length_append,List.length_map,List.length_replicate]
  omega
theorem V7 {CX:CXT}{P:Program}{w:World}{K:PySem.W.Frag}{mg:Str->Option Value}{base:Heap}{k:Nat}{f:Addr}{name qual:Str}{params:Arguments}{body:List Stmt}{scope:Scope}{dV kV doc pm cdv ct oc:Value}{an od:Option Addr}
  {osl:Array (Option Value)}{N ps:List Str}{sp:Sp}(lk:K.lookup f=some ⟨oc,od,.func (PySem.W.fnOf name qual params body scope dV kV doc pm an cdv ct),osl⟩) (hcd:PySem.W.codeIn K cdv qual=true) (S:zr N ps scope)
  (len:∀vs H Q E,sp vs H Q E->vs.length=ps.length)
  (hbody:∀(A:Around) (outer:List Env) (s:Shared) (H:Hp) (vs:List V) (Q:VK) (E:XK),xa k (A.deeper (envOfC qual scope s.heap.objs.size f cdv))->sp vs H Q E →
   ∃t,PSs (xX CX P w K mg base N qual scope f cdv A outer s H E) body t/\t { nx:=λ_ H'=>Q .non H',rt:=Q } (vz N vs) H) :
  jJ P w K mg base CX (k+1) f (PySem.W.fnOf name qual params body scope dV kV doc pm an cdv ct) ps sp:=by
 refine⟨len,λA outer s H args us vs Q E hr e0 hb r hsp=>?_⟩
 have hl:=len _ _ _ _ hsp
 have KX:K.In s.heap:=e0.mod.kin.keeps λb o e=>(e0.bs b o e).1
 have lim:s.heap.NoLimit:=e0.mod.nolimit.keeps λb o e=>(e0.bs b o e).1
 have hkind:∀y∈ps.zip us,scope.names.lookup y.1=some .local ∨ (scope.names.lookup y.1=some .cell/\((cellsFrom (s.heap.objs.size+1) scope.names []).lookup y.1).isSome=true):=λ⟨n,v⟩ hy=>by
  rcases S.par n (List.of_mem_zip hy).1 with q | q
  ·exact .inl q
  ·exact .inr ⟨q,PySem.W.cellsFrom_some _ _ _ (.inl q)⟩
 refine codeAny_call_function hr.depth (KX _ _ lk) rfl S.co S.gen rfl (PySem.W.codeRec_of KX hcd) (hb _ _ _ _ ?_)
 refine wpAny_newFunctionEnv_cells S.kind hkind λenv he s1 x=>?_
 subst he
 refine⟨lim.keeps x.toInCall.keep,codeAny_func ?_⟩
 obtain⟨t,ht,hq⟩:=hbody A outer s H vs Q E (hr.deeper _) hsp
 have I:Inv (xX CX P w K mg base N qual scope f cdv A outer s H E) [] (vz N vs) H s1:=Vk S hr.hd e0 hl r x
 refine wpAny_mono (ht [] s1 (vz N vs) H _ I hq) (λfl s' hs=>?_) λe s' hs=>hs
 have fin:∀{σ':St}{H':Hp}{v:V}{u:Value},Inv (xX CX P w K mg base N qual scope f cdv A outer s H E) [] σ' H' s'->xb v u->Q v H'->CE outer P w H s Q u s' :=
  λ{σ' H' v u} J rv q=>⟨v,H',J.os,J.bare,J.base,J.hok,rv,q⟩
 cases fl with
 | ret u =>
  obtain⟨v,σ',H',J,rv,q⟩:=hs
  exact fin J rv q
 | next =>
  obtain⟨σ',H',J,q⟩:=hs
  exact fin (v:=V.non) (u:=Value.none) J rfl q
 | brk =>
  obtain⟨_,_,_,q⟩:=hs
  exact False.elim q
 | cont =>
  obtain⟨_,_,_,q⟩:=hs
  exact False.elim q
end L2
namespace L2
open PySem PySem.Spec PyProof.Rows
section
variable {X:Cx}{x:Str}{p pos:Pos}{e:Expr}{es:List Expr}{t:TA}{id T:String}{r:List V->Hp->VK->Prop}
def tCB (r:List V->Hp->VK->Prop) (t:TA):TE:=λσ H Q=>t σ H λvs H1=>r vs H1 Q
theorem zG (hc:ve X (.builtin id) r) (hg:Gl X x) (hm:X.mg x=none) (hv:bootBuiltins x=some (.builtin id)) (ha:PA X (e::es) t) (hn:x≠"__name__":=by decide) (hdb:(x == ("__debug__":Str))=false:=by decide)
  (he:starEach (e::es) X.env=(false,eval e X.env)::starEach es X.env:=by rfl) (hpl:(backTo pos (starEach es X.env)).any (·.1)=false:=by rfl):PE X (.Call (.Name x p) (e::es) [] pos) (tCB r t):=by
 intro pins s σ H Q I h
 refine wpAny_Call_Name_kw (Za I hg hm hv ?_ hn hdb)
 exact PyProof.Rows.callWith_builtin1 (thn (ha pos pins s σ H _ I h) λus s1 ⟨vs,H1,I1,r1,q1⟩=>hc pins s1 σ H1 vs us Q I1 r1 q1) he hpl
theorem xZ (hc:ve X (.type T) r) (hg:Gl X x) (hm:X.mg x=none) (hv:bootBuiltins x=some (.type T)) (ha:PA X (e::es) t) (hn:x≠"__name__":=by decide) (hdb:(x == ("__debug__":Str))=false:=by decide)
  (he:starEach (e::es) X.env=(false,eval e X.env)::starEach es X.env:=by rfl) (hpl:(backTo pos (starEach es X.env)).any (·.1)=false:=by rfl):PE X (.Call (.Name x p) (e::es) [] pos) (tCB r t):=by
 intro pins s σ H Q I h
 refine wpAny_Call_Name_kw (Za I hg hm hv ?_ hn hdb)
 exact PyProof.Rows.callWith_type1 (thn (ha pos pins s σ H _ I h) λus s1 ⟨vs,H1,I1,r1,q1⟩=>hc pins s1 σ H1 vs us Q I1 r1 q1) he hpl
end
end L2
namespace HT
open PySem PyProof.Rows
section
variable {prog:Program}{w:World}{A:Around}{E:Value->Shared->Prop}{s:Shared}
def sIx (n d:Nat):Option Int->Nat
 | none=>d
 | some v=>if v<0 then(v+(n:Int)).toNat else min v.toNat n
theorem sIx_none (n d:Nat):sIx n d none=d:=rfl
theorem sIx_nat (n d k:Nat):sIx n d (some (k:Int))=min k n:=by
 show (if(k:Int)<0 then((k:Int)+(n:Int)).toNat else min (k:Int).toNat n)=min k n
 rw[if_neg (by omega),Int.toNat_natCast]
theorem zcP (n d:Nat) (hd:d<=n) (o:Option Int):sIx n d o<=n:=by
 cases o with
 | none=>exact hd
 | some v =>
  show (if v<0 then(v+(n:Int)).toNat else min v.toNat n)<=n
  by_cases hv:v<0
  ·rw[if_pos hv];omega
  ·rw[if_neg hv];exact Nat.min_le_right _ _
theorem Qu (v:Int) (n d:Nat):(if v<0 then max (v+(n:Int)) 0 else min v (n:Int))=((sIx n d (some v):Nat):Int):=by
 show (if v<0 then max (v+(n:Int)) 0 else min v (n:Int))=(((if v<0 then(v+(n:Int)).toNat else min v.toNat n):Nat):Int)
 by_cases hv:v<0
 ·simp only[if_pos hv];omega
 ·simp only[if_neg hv];omega
theorem X0 (lo hi:Option Int) (n:Nat):Builtin.Slice.sliceAdjust lo hi 1 (n:Int)=(((sIx n 0 lo:Nat):Int),((sIx n n hi:Nat):Int)):=by
 have h1:¬((1:Int)<0):=by omega
 unfold Builtin.Slice.sliceAdjust
 simp only[h1,if_false]
 refine Prod.ext ?_ ?_
 ·cases lo with
  | none=>rfl
  | some v=>exact Qu v n 0
 ·cases hi with
  | none=>rfl
  | some v=>exact Qu v n n
theorem Qi (i j:Nat):Builtin.Slice.slicePlaces (i:Int) (j:Int) 1=j - i:=by
 unfold Builtin.Slice.slicePlaces
 have h1:(1:Int)>0:=by omega
 simp only[h1,if_true,Int.ediv_one]
 split <;> omega
theorem Zr {v:Value}{o:Option Int}{Q:Option Int->Shared->Prop}(p:IsPart v o) (h:Q o s):wpAny (model prog w) A (Builtin.Slice.slicePartIndex v) Q E s:=by
 cases p with
 | none=>exact slicePart_none h
 | int i t=>exact slicePart_int h
theorem vm {sl:Addr}{vl vu:Value}{lo hi:Option Int}{n:Nat}{Q:Int×Int×Nat->Shared->Prop}(hs:s.heap.IsSliceOf sl vl vu .none) (pl:IsPart vl lo) (pu:IsPart vu hi)
  (h:Q (((sIx n 0 lo:Nat):Int),1,sIx n n hi - sIx n 0 lo) s):wpAny (model prog w) A (Builtin.Slice.sliceApplied (.ref sl) (pure (n:Int))) Q E s:=by
 obtain⟨os,hos,hcs,hds⟩:=id hs
 unfold Builtin.Slice.sliceApplied Builtin.Slice.sliceFields
 refine wpAny_bind (wpAny_bind (wpAny_field hos hds (x:=vl) rfl (wpAny_bind (wpAny_field hos hds (x:=vu) rfl (wpAny_bind (wpAny_field hos hds (x:=.none) rfl (wpAny_pure ?_)))))))
 refine wpAny_bind (slicePart_none ?_)
 show wpAny _ _ (if((1:Int) == 0)=true then _ else _) _ _ s
 rw[if_neg (by decide)]
 refine wpAny_bind (Zr pl (wpAny_bind (Zr pu (wpAny_bind (wpAny_pure ?_)))))
 show wpAny _ _ (match Builtin.Slice.sliceAdjust lo hi 1 (n:Int)with | (lo,hi)=>pure (lo,(1:Int),Builtin.Slice.slicePlaces lo hi 1)) _ _ s
 rw[X0 lo hi n]
 show wpAny _ _ (pure (((sIx n 0 lo:Nat):Int),(1:Int),Builtin.Slice.slicePlaces ((sIx n 0 lo:Nat):Int) ((sIx n n hi:Nat):Int) 1)) _ _ s
 rw[Qi]
 exact wpAny_pure h
theorem JC (xs:Array Value) (i k:Nat):((List.range k).filterMap λ(m:Nat)=>xs[((i:Int)+(m:Int)*1).toNat]?).toArray=((xs.toList.drop i).take k).toArray:=by
 have e:(λ(m:Nat)=>xs[((i:Int)+(m:Int)*1).toNat]?)=λm=>xs[i+m]?:=by
  funext m
  have:((i:Int)+(m:Int)*1).toNat=i+m:=by omega
  rw[this]
 rw[e]
 have:=pick_run xs i k
 rw[List.filterMap_map]at this
 have e2:((λx=>xs[x]?) ∘ λx=>i+x)=λm=>xs[i+m]?:=rfl
 rw[e2]at this
 rw[this]
theorem getItem_tuple_cut {t sl:Addr}{items:Array Value}{vl vu:Value}{lo hi:Option Int}{Q:Value->Shared->Prop}(ht:IsTup s.heap t items) (hs:s.heap.IsSliceOf sl vl vu .none) (pl:IsPart vl lo) (pu:IsPart vu hi)
  (hw:¬(sIx items.size 0 lo=0/\sIx items.size items.size hi=items.size))
  (h:Q (.ref s.heap.objs.size) { s with heap:=s.heap.push { cls:=.type "tuple",data:=.seq ((items.toList.drop (sIx items.size 0 lo)).take (sIx items.size items.size hi - sIx items.size 0 lo)).toArray } })
  (hsz:items.size<=sizeLine):wpAny (model prog w) A (getItem (.ref t) (.ref sl)) Q E s:=by
 have htake:sizeOk (.seq ((items.toList.drop (sIx items.size 0 lo)).take (sIx items.size items.size hi - sIx items.size 0 lo)).toArray):=by
  show ((items.toList.drop (sIx items.size 0 lo)).take (sIx items.size items.size hi - sIx items.size 0 lo)).toArray.size<=sizeLine
  rw[List.size_toArray,List.length_take,List.length_drop,Array.length_toList]
  omega
 have hj:sIx items.size items.size hi<=items.size:=zcP _ _ (Nat.le_refl _) hi
 obtain⟨os,hos,hcs,hds⟩:=id hs
 have hTs:s.TypeIs (.ref sl) "slice":=⟨os,hos,hcs⟩
 unfold getItem
 try with_reducible refine wpAny_holding ?_
 first | refine wpAny_bind (wpAny_pure ?_) | skip
 refine wpAny_bind (wpAny_sequenceKey ht.typeIs (by decide) ?_)
 refine wpAny_bind (wpAny_callSpecial?_slot (name:=Str.ofString "__getitem__") ht.typeIs PyProof.Rows.slot_tuple_getitem
  (wpAny_call_entry PyProof.Rows.slot_tuple_getitem ht.typeIs entry_tuple_getitem ?_ (args_tuple_getitem _ _)))
 show wpAny _ _ (Builtin.Tuple.tupleItemsOf (.ref t) >>= _) _ _ s
 refine wpAny_bind (tupleItemsOf_ ht ?_)
 refine wpAny_bind (wpAny_typeOf hTs ?_)
 rw[if_pos (by decide)]
 refine wpAny_bind (vm hs pl pu ?_)
 have hno:¬((((sIx items.size 0 lo:Nat):Int) == 0&&(1:Int) == 1&&(sIx items.size items.size hi - sIx items.size 0 lo) == items.size)=true):=by
  intro q
  rw[Bool.and_eq_true,Bool.and_eq_true]at q
  have q1:((sIx items.size 0 lo:Nat):Int)=0:=eq_of_beq q.1.1
  have q2:sIx items.size items.size hi - sIx items.size 0 lo=items.size:=eq_of_beq q.2
  exact hw ⟨by omega,by omega⟩
 show wpAny _ _ (if(((sIx items.size 0 lo:Nat):Int) == 0&&(1:Int) == 1&&(sIx items.size items.size hi - sIx items.size 0 lo) == items.size)=true then _ else _) _ _ s
 rw[if_neg hno,JC]
 first
  | exact wpAny_bind (m:=Builtin.Tuple.tupleExact _) (wpAny_newObj_type (wpAny_pure ⟨_,rfl,wpAny_pure h⟩) htake)
  | exact wpAny_bind (m:=Builtin.Tuple.tupleExact _) (wpAny_newObj_type (wpAny_bind (wpAny_pure (wpAny_pure ⟨_,rfl,wpAny_pure h⟩))) htake)
  | exact wpAny_bind (wpAny_bind (m:=Builtin.Tuple.tupleExact _) (wpAny_newObj_type (wpAny_pure (wpAny_pure ⟨_,rfl,wpAny_pure h⟩)) htake))
  | exact wpAny_bind (wpAny_bind (m:=Builtin.Tuple.tupleExact _) (wpAny_newObj_type (wpAny_pure ⟨_,rfl,wpAny_pure h⟩) htake))
end
end HT
namespace L2
open PySem PySem.Spec PyProof.Rows
abbrev TO:=St->Hp->(Option Int->Hp->Prop)->Prop
def PO (X:Cx) (e:Option Expr) (t:TO):Prop :=
 ∀(pins:List (Addr×Obj)) (s:Shared) (σ:St) (H:Hp) (Q:Option Int->Hp->Prop),Inv X pins σ H s->t σ H Q →
  wpAny (model X.prog X.w) X.A (evalPart e X.env) (λu s'=>∃o H',Inv X pins σ H' s'/\IsPart u o/\Q o H') X.xe s
def Q3:TO:=λ_ H Q=>Q none H
def zbN (t:TE):TO:=λσ H Q=>t σ H λx H1=>∃i,x = .int i/\Q (some i) H1
section
variable {X:Cx}{e:Expr}{te:TE}{lo hi:Option Expr}{tl th:TO}{pos p2:Pos}
theorem qY:PO X none Q3:=by
 intro pins s σ H Q I h
 rw[evalPart_none]
 exact wpAny_pure ⟨none,H,I,.none,h⟩
theorem qZ (h:PE X e te):PO X (some e) (zbN te):=by
 intro pins s σ H Q I hw
 rw[evalPart_some]
 refine thn (h pins s σ H _ I hw) λu s1 ⟨x,H1,I1,r1,q1⟩=>?_
 obtain⟨i,rfl,q⟩:=q1
 obtain⟨t,rfl⟩:=r1
 exact⟨some i,H1,I1,.int i t,q⟩
def SlR (X:Cx) (r:V->Option Int->Option Int->Hp->VK->Prop):Prop :=
 ∀(pins:List (Addr×Obj)) (s:Shared) (σ:St) (H:Hp) (x:V) (v vl vu:Value) (lo hi:Option Int) (sl:Addr) (Q:VK),Inv X pins σ H s->xb x v->s.heap.IsSliceOf sl vl vu .none->IsPart vl lo->IsPart vu hi->r x lo hi H Q →
  ∃T id,typeLookup (.type T) "__getitem__" = pure (some (.builtin id))/\s.TypeIs v T/\wpAny (model X.prog X.w) X.A (getItem v (.ref sl)) (EP X pins σ Q) X.xe s
def tSl (r:V->Option Int->Option Int->Hp->VK->Prop) (te:TE) (tl th:TO):TE:=λσ H Q=>te σ H λx H1=>tl σ H1 λl H2=>th σ H2 λu H3=>r x l u H3 Q
theorem qz {r:V->Option Int->Option Int->Hp->VK->Prop}(hr:SlR X r) (he:PE X e te) (hl:PO X lo tl) (hu:PO X hi th):PE X (.Subscript e (.Slice lo hi none p2) pos) (tSl r te tl th):=by
 intro pins s σ H Q I h
 refine Subscript_ (thn (he pins s σ H _ I h) λv s1 ⟨x,H1,I1,r1,q1⟩=>?_)
 refine wpAny_Slice (thn (hl pins s1 σ H1 _ I1 q1) λvl s2 ⟨l,H2,I2,pl,q2⟩=>thn (hu pins s2 σ H2 _ I2 q2) λvu s3 ⟨u,H3,I3,pu,q3⟩=>?_)
 rw[evalPart_none]
 refine wpAny_pure ?_
 have I4:Inv X pins σ H3 { s3 with heap:=s3.heap.push { cls:=.type "slice",data:=.fields #[vl,vu,.none] } }:=I3.kept (t':=s3.toks) λb ob q=>Heap.get?_push_of_some _ q
 obtain⟨T,id,hT,ht,hg⟩:=hr pins { s3 with heap:=s3.heap.push { cls:=.type "slice",data:=.fields #[vl,vu,.none] } } σ H3 x v vl vu l u s3.heap.objs.size Q I4 r1 (Heap.IsSliceOf.new ..) pl pu q3
 show wpAny (model X.prog X.w) X.A (subscriptTail e (.Slice lo hi none p2) v (.ref s3.heap.objs.size)) (EP X pins σ Q) X.xe { s3 with heap:=s3.heap.push { cls:=.type "slice",data:=.fields #[vl,vu,.none] } }
 exact tail_any (ops:=[.ref s3.heap.objs.size,v]) ht hT hg (by with_unfolding_all rfl)
def j7 (xs:List V) (lo hi:Option Int):List V:=(xs.drop (HT.sIx xs.length 0 lo)).take (HT.sIx xs.length xs.length hi - HT.sIx xs.length 0 lo)
theorem Xv (xs:List V) (lo hi:Option Int):(j7 xs lo hi).length<=xs.length:=by
 unfold j7
 rw[List.length_take,List.length_drop]
 omega
def zdJ (K:PySem.W.Frag):V->Option Int->Option Int->Hp->VK->Prop:=λx lo hi H Q=>∃a xs,x = .ref a/\SqT K H a xs ∧
 ¬(HT.sIx xs.length 0 lo=0/\HT.sIx xs.length xs.length hi=xs.length)/\∀p,H p=none->Q (.ref p) (upd H p (.tup (j7 xs lo hi)))
theorem J2:SlR X (zdJ X.K):=by
 intro pins s σ H x v vl vu lo hi sl Q I rx hs pl pu h
 obtain⟨a,xs,rfl,hx,hw,q⟩:=h
 cases rx
 obtain⟨its,r,ht,hz⟩:=I.tuple hx
 have hlen:its.toArray.size=xs.length:=by rw[List.size_toArray];exact r.length.symm
 refine⟨"tuple",_,PyProof.Rows.slot_tuple_getitem.lookup,ht.typeIs,?_⟩
 refine HT.getItem_tuple_cut ht hs pl pu (by rw[hlen];exact hw) ?_ (by rw[hlen];exact hz)
 rw[hlen]
 refine⟨.ref s.heap.objs.size,_,I.laid (t':=s.toks) (o:=.tup (j7 xs lo hi)) (λb ob q=>Heap.get?_push_of_some _ q) (Nat.le_refl _) ?_,rfl,q _ (I.hok.fresh (Nat.le_refl _))⟩
 exact⟨Nat.le_trans (Xv xs lo hi) hz,_,(r.drop (HT.sIx xs.length 0 lo)).take (HT.sIx xs.length xs.length hi - HT.sIx xs.length 0 lo),IsTup.new _ _⟩
end
end L2
namespace L2
open PySem PySem.Spec PyProof.Rows
def ixN (n:Nat) (i:Int):Option Nat:=if 0<=i then(if i<n then some i.toNat else none)else if -(n:Int)<=i then some (i+n).toNat else none
def atI {α:Type}(xs:List α) (i:Int):Option α:=(ixN xs.length i).bind λj=>xs[j]?
theorem QB {n:Nat}{i:Int}{j:Nat}(h:ixN n i=some j):seqIndex? i n=some j/\j<n ∧ -(n:Int)<=i/\i<n:=by
 unfold ixN at h
 by_cases h0:0<=i
 ·rw[if_pos h0]at h
  by_cases h1:i<n
  ·rw[if_pos h1]at h
   have e:i.toNat=j:=Option.some.inj h
   exact⟨by rw[seqIndex_of h0 h1,e],by omega,by omega,h1⟩
  ·rw[if_neg h1]at h;cases h
 ·rw[if_neg h0]at h
  by_cases h1 : -(n:Int)<=i
  ·rw[if_pos h1]at h
   have e:(i+n).toNat=j:=Option.some.inj h
   exact⟨by rw[seqIndex_neg (by omega) h1,e],by omega,h1,by omega⟩
  ·rw[if_neg h1]at h;cases h
theorem Z4 {α:Type}{xs:List α}{i:Int}{v:α}(h:atI xs i=some v):∃j,seqIndex? i xs.length=some j/\xs[j]? = some v/\j<xs.length ∧ -(xs.length:Int)<=i/\i<xs.length:=by
 unfold atI at h
 cases e:ixN xs.length i with
 | none=>rw[e]at h;cases h
 | some j =>
  rw[e]at h
  obtain⟨h1,h2,h3,h4⟩:=QB e
  exact⟨j,h1,h,h2,h3,h4⟩
theorem jN {α:Type}{xs:List α}{j:Nat}{v:α}(h:xs[j]? = some v):atI xs (j:Int)=some v:=by
 have hj:j<xs.length:=(List.getElem?_eq_some_iff.mp h).1
 have e:ixN xs.length (j:Int)=some j:=by
  unfold ixN
  rw[if_pos (by omega),if_pos (by omega)];simp
 unfold atI;rw[e];exact h
theorem jZ {α:Type}(xs:List α) (v:α):atI (xs++[v]) (-1)=some v:=by
 have hl:(xs++[v]).length=xs.length+1:=by simp
 have e:ixN (xs++[v]).length (-1)=some xs.length:=by
  unfold ixN
  rw[hl,if_neg (by decide),if_pos (by omega)]
  congr 1
  omega
 unfold atI
 rw[e]
 show (xs++[v])[xs.length]? = some v
 simp
def zaq (b:Expr):Prop:=∀o i,subscripted b false o i=operate [o,i] (getItem o i)
def IxR (X:Cx) (r:R2):Prop :=
 ∀(value slice:Expr) (pins:List (Addr×Obj)) (s:Shared) (σ:St) (H:Hp) (x y:V) (v u:Value) (Q:VK),Inv X pins σ H s->xb x v->xb y u->r x y H Q →
  subscripted slice false v u=operate [v,u] (getItem v u)->wpAny (model X.prog X.w) X.A (subscriptTail value slice v u) (EP X pins σ Q) X.xe s
def MtR (X:Cx) (id:String) (r:V->List V->Hp->VK->Prop):Prop :=
 ∀(pins:List (Addr×Obj)) (s:Shared) (σ:St) (H:Hp) (x:V) (xs:List V) (v:Value) (us:List Value) (Q:VK),Inv X pins σ H s->xb x v->zP xs us->r x xs H Q →
  wpAny (model X.prog X.w) X.A (call (.builtin id) (v::us)) (EP X pins σ Q) X.xe s
section
variable {X:Cx}{a b:Expr}{ta tb:TE}{pos:Pos}
theorem zq {r:R2}(hr:IxR X r) (ha:PE X a ta) (hb:PE X b tb) (hs:zaq b):PE X (.Subscript a b pos) (tOp r ta tb):=by
 intro pins s σ H Q I h
 exact Subscript_ (zbZ ha hb I h λv u s2 x y H2 I2 rx ry q=>hr a b pins s2 σ H2 x y v u Q I2 rx ry q (hs _ _))
def zdH (K:PySem.W.Frag):R2:=λx y H Q=>∃p xs i v,x = .ref p/\y = .int i/\SqL K H p xs/\atI xs i=some v/\Q v H
def rIxT (K:PySem.W.Frag):R2:=λx y H Q=>∃p xs i v,x = .ref p/\y = .int i/\SqT K H p xs/\atI xs i=some v/\Q v H
def rIxS:R2:=λx y H Q=>∃z i c,x = .str z/\y = .int i/\z.length<=sizeLine/\atI z.cps.toList i=some c/\Q (.str ⟨#[c]⟩) H
theorem zS:IxR X (zdH X.K):=by
 intro value slice pins s σ H x y v u Q I rx ry h hs
 obtain⟨p,xs,i,z,rfl,rfl,hq,he,q⟩:=h
 cases rx
 obtain⟨t,rfl⟩:=ry
 obtain⟨its,r,pl,hz⟩:=I.list hq
 obtain⟨j,h1,h2,h3,h4,h5⟩:=Z4 he
 obtain⟨w,ew,rw'⟩:=r.get h2
 have hl:=r.length
 have hn:=vX
 have fin:EP X pins σ Q w s:=⟨z,H,I,rw',q⟩
 by_cases h0:0<=i
 ·have hj:i.toNat=j:=by
   rw[seqIndex_of h0 h5]at h1
   exact Option.some.inj h1
  exact item_listR pl.isList h0 (by omega) (by rw[hj];simpa using ew) fin hs
 ·have hj:(i+(its.toArray.size:Int)).toNat=j:=by
   rw[seqIndex_neg (by omega) h4]at h1
   rw[List.size_toArray,<-hl]
   exact Option.some.inj h1
  exact subscriptTail_builtinR (x:=w) pl.isList.typeIs slot_list_getitem.lookup
   (wpAny_getItem_list_neg (Q:=λr s'=>r=w/\EP X pins σ Q r s') pl.isList (by omega) (by rw[List.size_toArray] <;> omega) (by omega) (by rw[hj];simpa using ew) ⟨rfl,fin⟩) hs
theorem zv:IxR X (rIxT X.K):=by
 intro value slice pins s σ H x y v u Q I rx ry h hs
 obtain⟨p,xs,i,z,rfl,rfl,hq,he,q⟩:=h
 cases rx
 obtain⟨t,rfl⟩:=ry
 obtain⟨its,r,pl,hz⟩:=I.tuple hq
 obtain⟨j,h1,h2,h3,h4,h5⟩:=Z4 he
 obtain⟨w,ew,rw'⟩:=r.get h2
 have hl:=r.length
 have hn:=vX
 have fin:EP X pins σ Q w s:=⟨z,H,I,rw',q⟩
 exact subscriptTail_builtinR (x:=w) pl.typeIs slot_tuple_getitem.lookup
  (getItem_tuple (j:=j) (Q:=λr s'=>r=w/\EP X pins σ Q r s') pl (by omega) (by omega) (by rw[List.size_toArray,<-hl];exact h1) (by simpa using ew) ⟨rfl,fin⟩) hs
theorem Qa:IxR X rIxS:=by
 intro value slice pins s σ H x y v u Q I rx ry h hs
 obtain⟨z,i,c,rfl,rfl,hz,he,q⟩:=h
 obtain⟨t,rfl⟩:=rx
 obtain⟨t',rfl⟩:=ry
 obtain⟨j,h1,h2,h3,h4,h5⟩:=Z4 he
 have hl:z.cps.toList.length=z.length:=by simp[Str.length]
 rw[hl]at h1 h4 h5
 have hn:=vX
 exact tail_any (typeIs_str s z t) slot_str_getitem.lookup (getItem_str (c:=c) (by
  have e1:decide (i < -(2^63:Int))=false:=decide_eq_false (by omega)
  have e2:decide (i>=2^63)=false:=decide_eq_false (by omega)
  rw[e1,e2,Bool.or_false]) (by rw[h1];simpa using h2) ⟨.str ⟨#[c]⟩,H,I.tok _,⟨_,rfl⟩,q⟩) hs
theorem Qc (its:List Value) (n j:Nat) (u:Value):Obj.mapSeq (·.setIfInBounds j u) { cls:=.type "list",data:=.seq its.toArray n } = { cls:=.type "list",data:=.seq (its.set j u).toArray n }:=by
 simp[Obj.mapSeq]
theorem Inv.lst {pins:List (Addr×Obj)}{σ:St}{H:Hp}{s:Shared}{p:Addr}{xs:List V}(I:Inv X pins σ H s) (h:H p=some (.lst xs)) :
  ∃(its:List Value) (n:Nat),zP xs its/\s.heap.get? p=some { cls:=.type "list",data:=.seq its.toArray n }/\xs.length<=sizeLine:=by
 obtain⟨z,its,n,r,e⟩:=I.hok p _ h
 exact⟨its,n,r,e,z⟩
theorem Inv.lstUpd {pins:List (Addr×Obj)}{σ:St}{H:Hp}{s:Shared}{p:Addr}{xs ys:List V}{its its':List Value}{n n':Nat}{f:Obj->Obj}(I:Inv X pins σ H s) (h:H p=some (.lst xs))
  (ho:s.heap.get? p=some { cls:=.type "list",data:=.seq its.toArray n }) (hf:f { cls:=.type "list",data:=.seq its.toArray n } = { cls:=.type "list",data:=.seq its'.toArray n' }) (r:zP ys its') (hz:ys.length<=sizeLine) (t:Nat) :
  Inv X pins σ (upd H p (.lst ys)) { s with heap:=s.heap.update p f,toks:=t }:=by
 have e:(s.heap.update p f).get? p=some { cls:=.type "list",data:=.seq its'.toArray n' }:=by
  rw[Heap.get?_update_self f ho (by rw[hf] <;> rfl),hf]
 refine I.write (x:=p) (e:=p) (by rw[h];trivial) (.inl rfl) (λb u hb q=>(Heap.get?_update_other _ _ (Ne.symm hb)).trans q) ⟨_,e⟩ ?_
 exact⟨hz,its',n',r,e⟩
def zdI:V->V->V->Hp->(Hp->Prop)->Prop:=λo i v H Q=>∃p xs k j,o = .ref p/\i = .int k/\H p=some (.lst xs)/\ixN xs.length k=some j/\Q (upd H p (.lst (xs.set j v)))
theorem XR:zde X zdI:=by
 intro pins s σ H o i v ov iv u Q I ro ri rv h
 obtain⟨p,xs,k,j,rfl,rfl,hp,hj,q⟩:=h
 cases ro
 obtain⟨t,rfl⟩:=ri
 obtain⟨its,n,r,ho,hz⟩:=I.lst hp
 obtain⟨h1,h2,h3,h4⟩:=QB hj
 have hl:=r.length
 have hn:=vX
 have I':Inv X pins σ (upd H p (.lst (xs.set j v))) { s with heap:=s.heap.update p (Obj.mapSeq (·.setIfInBounds j u)) } :=
  I.lstUpd hp ho (Qc its n j u) (r.set rv j) (by rw[List.length_set];exact hz) s.toks
 by_cases h0:0<=k
 ·have hk:k.toNat=j:=by
   rw[seqIndex_of h0 h4]at h1
   exact Option.some.inj h1
  exact PySem.W.ki_setAt ho h0 (by omega) (by rw[List.size_toArray,<-hl];exact h4) (by rw[hk];exact⟨_,I',q⟩)
 ·have hk:(k+(its.toArray.size:Int)).toNat=j:=by
   rw[seqIndex_neg (by omega) h3]at h1
   rw[List.size_toArray,<-hl]
   exact Option.some.inj h1
  exact PySem.W.ki_setBack ho (by omega) (by rw[List.size_toArray,<-hl];exact h3) (by omega) (by rw[hk];exact⟨_,I',q⟩)
theorem zU:ve X (.builtin "len") (λxs H Q=>∃p ys,xs=[.ref p]/\(SqL X.K H p ys\/SqT X.K H p ys)/\Q (.int ys.length) H):=by
 intro pins s σ H xs us Q I r h
 obtain⟨p,ys,rfl,hq,q⟩:=h
 obtain⟨u,rfl,rx⟩:=vo r
 cases rx
 have hn:=vX
 rcases hq with hq | hq
 ·obtain⟨its,r',pl,hz⟩:=I.list hq
  have hlen:=r'.length
  exact Calls.call_len_list pl.isList (by simp only[List.size_toArray] <;> omega) ⟨.int ys.length,H,I.tok _,⟨s.toks+1,by rw[List.size_toArray,hlen]⟩,q⟩
 ·obtain⟨its,r',pl,hz⟩:=I.tuple hq
  have hlen:=r'.length
  exact len_tuple pl (by simp only[List.size_toArray] <;> omega) ⟨.int ys.length,H,I.tok _,⟨s.toks+1,by rw[List.size_toArray,hlen]⟩,q⟩
theorem vp:ve X (.builtin "len") (λxs H Q=>∃z,xs=[.str z]/\z.length<=sizeLine/\Q (.int z.length) H):=by
 intro pins s σ H xs us Q I r h
 obtain⟨z,rfl,hz,q⟩:=h
 obtain⟨u,rfl,t,rfl⟩:=vo r
 have hn:=vX
 exact len_str (by omega) ⟨.int z.length,H,I.tok _,⟨_,rfl⟩,q⟩
theorem vc:ve X (.type "tuple") (λxs H Q=>∃p ys,xs=[.ref p]/\((SqL X.K H p ys/\∀l,H l=none->Q (.ref l) (upd H l (.tup ys)))\/(SqT X.K H p ys/\Q (.ref p) H))):=by
 intro pins s σ H xs us Q I r h
 obtain⟨p,ys,rfl,h⟩:=h
 obtain⟨u,rfl,rx⟩:=vo r
 cases rx
 rcases h with⟨hq,q⟩ | ⟨hq,q⟩
 ·obtain⟨its,r',pl,hz⟩:=I.list hq
  have hlen:=r'.length
  refine call_tuple_list pl.isList (λh' kp=>?_) (by simp only[List.size_toArray] <;> omega)
  have I1:Inv X pins σ H { s with heap:=h' }:=I.kept (t':=s.toks) kp
  have I2:Inv X pins σ (upd H h'.objs.size (.tup ys)) { s with heap:=h'.push { cls:=.type "tuple",data:=.seq its.toArray } } :=
   I1.laid (t':=s.toks) (λb o e=>Heap.get?_push_of_some _ e) (Nat.le_refl _) (show xE X.prog X.w _ _ _ (.tup ys)from⟨hz,its,r',IsTup.new _ _⟩)
  exact⟨.ref h'.objs.size,_,I2,rfl,q _ (I1.hok.fresh (Nat.le_refl _))⟩
 ·obtain⟨its,r',pl,hz⟩:=I.tuple hq
  exact call_tuple_same pl ⟨.ref p,H,I,rfl,q⟩
def tyV (K:PySem.W.Frag) (T:String) (x:V) (H:Hp):Prop:=match x with
 | .str _=>T = "str"
 | .int _=>T = "int"
 | .ref p=>(T = "list"/\∃xs,SqL K H p xs)\/(T = "tuple"/\∃o,K.lookup p=some o/\o.cls = .type "tuple"/\o.dict=none) ∨
   (T = "dict"/\((∃kvs,H p=some (.dK kvs))\/∃kvs,H p=some (.dT kvs)))\/(T = "set"/\∃S n,H p=some (.set S n))
 | _=>False
theorem zc8 {pins:List (Addr×Obj)}{σ:St}{H:Hp}{s:Shared}{T:String}{x:V}{v:Value}(I:Inv X pins σ H s) (r:xb x v) (ty:tyV X.K T x H) :
  s.TypeIs v T/\∀a,v = .ref a->∃ob,s.heap.get? a=some ob/\ob.dict=none:=by
 cases x with
 | str z =>
  obtain⟨t,rfl⟩:=r
  cases(show T = "str" from ty)
  exact⟨typeIs_str s z t,λ_ e=>nomatch e⟩
 | int i =>
  obtain⟨t,rfl⟩:=r
  cases(show T = "int" from ty)
  exact⟨typeIs_int s i t,λ_ e=>nomatch e⟩
 | ref p =>
  cases r
  rcases ty with⟨rfl,xs,hq⟩ | ⟨rfl,o,hk,hc,hd⟩ | ⟨rfl,hk⟩ | ⟨rfl,S,n,hk⟩
  ·obtain⟨its,_,pl,_⟩:=I.list hq
   refine⟨pl.isList.typeIs,λa e=>?_⟩
   cases e
   obtain⟨o,n,e,c,hd,_⟩:=pl
   exact⟨o,e,hd⟩
  ·refine⟨⟨o,I.kIn p o hk,hc⟩,λa e=>?_⟩
   cases e
   exact⟨o,I.kIn _ o hk,hd⟩
  ·have z:∃o,s.heap.get? p=some o/\o.ExactDict:=by
    rcases hk with⟨kvs,hk⟩ | ⟨kvs,hk⟩
    ·obtain⟨_,_,_,_,o,_,_,e,ex,_⟩:=I.hok p _ hk
     exact⟨o,e,ex⟩
    ·obtain⟨_,_,_,_,o,_,_,e,ex,_⟩:=I.hok p _ hk
     exact⟨o,e,ex⟩
   obtain⟨o,e,ex⟩:=z
   refine⟨⟨o,e,ex.1⟩,λa e2=>?_⟩
   cases e2
   exact⟨o,e,ex.2.1⟩
  ·obtain⟨o,_,_,_,e,ex,_⟩:=I.hok p _ hk
   refine⟨⟨o,e,ex.1⟩,λa e2=>?_⟩
   cases e2
   exact⟨o,e,ex.2.1⟩
 | _=>exact False.elim ty
def tBM (K:PySem.W.Frag) (T:String) (r:V->List V->Hp->VK->Prop) (to:TE) (t:TA):TE:=λσ H Q=>to σ H λx H1=>tyV K T x H1/\t σ H1 λxs H2=>r x xs H2 Q
variable {o e:Expr}{es:List Expr}{to:TE}{t:TA}{name:Str}{apos cpos:Pos}{T id:String}{r:V->List V->Hp->VK->Prop}
theorem vi (pa:PlainAttrs T) (slot:Slot T name id) (hty:typeOf (.builtin id)=pure (.type "method_descriptor")) (hm:MtR X id r) (ho:PE X o to) (ha:PA X (e::es) t)
  (hbase:attributeBase o name X.env (eval o X.env)=eval o X.env:=by rfl)
  (hfew:((backTo cpos (starEach (e::es) X.env)).all (λx=>!x.1)&&(backToKw cpos (keywordEach [] X.env)).all (λx=>x.1.isSome)
   && decide ((e::es).length+([]:List Keyword).length+(if([]:List Keyword).isEmpty then 0 else 1)<30))=true:=by rfl)
  (hline:(apos.endLine == cpos.line)=true:=by rfl) (hs:starEach (e::es) X.env=(false,eval e X.env)::starEach es X.env:=by rfl) (hplain:(backTo cpos (starEach es X.env)).any (·.1)=false:=by rfl) :
  PE X (.Call (.Attribute o name apos) (e::es) [] cpos) (tBM X.K T r to t):=by
 intro pins s σ H Q I h
 refine wpAny_Call_method_late hbase hfew hline rfl (thn (ho pins s σ H _ I h) λv s1 ⟨x,H1,I1,r1,ty,q1⟩=>?_)
 obtain⟨h1,h2⟩:=zc8 I1 r1 ty
 refine⟨T,id,pa,slot,hty,h1,h2,?_⟩
 have hA:=ha cpos pins s1 σ H1 _ I1 q1
 rw[hs]at hA ⊢
 refine Calls.callWith_builtin (by show (false || (backTo cpos (starEach es X.env)).any (·.1))=false;rw[hplain] <;> rfl) (Calls.evalArgs_plain ?_)
 exact thn hA λus s2 ⟨vs,H2,I2,r2,q2⟩=>hm pins s2 σ H2 x vs v us Q I2 r1 r2 q2
end
end L2
namespace L2
open PySem PySem.Spec PyProof.Rows
def MtM (X:Cx) (id:String) (r:V->List V->Hp->VK->Prop):Prop :=
 ∀(pins:List (Addr×Obj)) (s:Shared) (σ:St) (H:Hp) (x:V) (xs:List V) (v:Value) (us:List Value) (Q:VK),Inv X pins σ H s->xb x v->zP xs us->r x xs H Q →
  wpAny (model X.prog X.w) X.A (call (.builtin id) (v::us)) (EP X pins σ Q) X.xe s
theorem zP.one:∀{x:V}{us:List Value},zP [x] us->∃u,us=[u]/\xb x u
 | _,_,.cons r .nil=>⟨_,rfl,r⟩
section
variable {X:Cx}{pins:List (Addr×Obj)}{σ:St}{H:Hp}{s:Shared}{l b:Addr}{xs ys zs:List V}
theorem Inv.lset {its its':List Value}{n:Nat}{f:Array Value->Array Value}{t':Nat}(I:Inv X pins σ H s) (hH:H l=some (.lst xs))
  (e:s.heap.get? l=some { cls:=.type "list",data:=.seq its.toArray n }) (hf:f its.toArray=its'.toArray) (hv:zP ys its') (hz:ys.length<=sizeLine) :
  Inv X pins σ (upd H l (.lst ys)) { s with heap:=s.heap.update l (Obj.mapSeq f),toks:=t' }:=by
 have q:=PySem.IsL.update e f
 rw[hf]at q
 refine I.write (x:=l) (e:=l) (by rw[hH];exact trivial) (.inl rfl) (λb' u hb hu=>(Heap.get?_update_other s.heap (Obj.mapSeq f) (Ne.symm hb)).trans hu) ⟨_,q⟩ ?_
 exact⟨hz,its',_,hv,q⟩
theorem Inv.lnew {its:List Value}{t':Nat}(I:Inv X pins σ H s) (hv:zP ys its) (hz:ys.length<=sizeLine) :
  Inv X pins σ (upd H s.heap.objs.size (.lst ys)) { s with heap:=s.heap.push { cls:=.type "list",data:=.seq its.toArray },toks:=t' } :=
 I.laid (λ_ _ q=>Heap.get?_push_of_some _ q) (Nat.le_refl _) ⟨hz,its,0,hv,Heap.get?_push_size _ rfl⟩
theorem Inv.fresh (I:Inv X pins σ H s):H s.heap.objs.size=none:=I.hok.fresh (Nat.le_refl _)
theorem Inv.lstM (I:Inv X pins σ H s) (hH:H l=some (.lst xs)):xs.length<=sizeLine/\∃(its:List Value) (n:Nat),zP xs its/\xs.length=its.length/\s.heap.get? l=some { cls:=.type "list",data:=.seq its.toArray n }:=by
 obtain⟨z,its,n,r,e⟩:=I.hok l _ hH
 exact⟨z,its,n,r,r.length,e⟩
end
section
variable {X:Cx}
def QO:V->List V->Hp->VK->Prop:=λx vs H Q=>∃l xs y,x = .ref l/\vs=[y]/\H l=some (.lst xs)/\xs.length<sizeLine/\Q .non (upd H l (.lst (xs++[y])))
theorem qH:MtM X "list.append" QO:=by
 intro pins s σ H x vs v us Q I rx rv h
 obtain⟨l,xs,y,rfl,rfl,hH,hz,q⟩:=h
 cases rx
 obtain⟨u,rfl,ru⟩:=rv.one
 obtain⟨z,its,n,r,hl,e⟩:=I.lstM hH
 refine call_meets F.slot_list_append ⟨_,e,rfl⟩ F.entry_list_append (F.args_list_append_2 _ _) (PySem.list_append l its.toArray n u (by rw[List.size_toArray];omega)) ⟨e,?_⟩
 refine⟨.non,_,I.lset (its':=its++[u]) hH e (by simp) (r.append (.cons ru .nil)) ?_,rfl,q⟩
 rw[List.length_append,List.length_singleton]
 omega
end
end L2
namespace Att
open PySem PySem.W PySem.Calls PyProof.Rows
theorem jK {P:Params}{h:Heap}:∀(ns:List Int) (vs:List Value),WellAll P h vs (ns.map WData.int)->IntsAre vs ns:=by
 intro ns
 induction ns with
 | nil =>
  intro vs w
  rw[List.map_nil]at w
  cases w
  exact .nil
 | cons n ns ih =>
  intro vs w
  rw[List.map_cons]at w
  cases w with
  | cons a b =>
   cases a
   exact .cons _ _ (ih _ b)
theorem VD {l:OpenLaw}{n:Nat}(hn:l.most=some n){P:Params}{h:Heap}{args:List WData}{vals:List Value}
  (hpre:l.row.toRowW.claim.pre args=true) (hwl:WellAll P h vals args) :
  ∃a vs ns,vals=[Value.ref a]/\args=[WData.list (ns.map WData.int)]/\h.get? a=some { cls:=.type "list",data:=.seq vs.toArray }/\IntsAre vs ns/\ns.length<=n:=by
 have hsh:WShape.hasAll [] args [.list .int]=true:=(pre_splitW hpre).1
 have hc:l.pre.holds [] { args:=args } = true:=(pre_splitW hpre).2
 obtain⟨d,r,rfl,h1,h2⟩:=hasAllW_cons hsh
 obtain rfl:=hasAllW_nil h2
 obtain⟨xs,rfl,h3⟩:=hasW_list h1
 obtain⟨ns,rfl⟩:=items_int h3
 have hlen:ns.length<=n:=by
  unfold OpenLaw.pre at hc
  have h4:(WTm.not (.lt (.lit (.int (n:Int))) (.len (.arg 0)))).holds [] { args:=[.list (ns.map .int)] } = true:=by
   have h4:=(holds_andW hc).1
   rw[hn]at h4
   exact h4
  have h5:=condW_of h4 (w_not (w_lt w_lit (w_len_list (w_arg rfl))))
  rw[List.length_map]at h5
  refine Nat.le_of_not_lt λq=>?_
  have q':(n:Int)<((ns.length:Nat):Int):=by omega
  first
   | (rw[decide_eq_true q']at h5;exact absurd h5 (by decide))
   | (simp at h5;omega)
 cases hwl with
 | cons w1 w2 =>
  cases w2
  cases w1 with
  | list ho hall=>exact⟨_,_,ns,rfl,rfl,ho,jK ns _ hall,hlen⟩
theorem Vz (l:OpenLaw) (args:List WData):l.row.toRowW.claim.post args (.bool true) args=true :=
 postW_of (r:=l.row.toRowW) (X:=(true == true))
  (show WShape.has [] (.bool true) .bool=true by first | rfl | decide | simp[WShape.has,WShape.arms,WShape.armsAll])
  (show (WTm.eq .res (.lit (.bool true))).value [] { args:=args,res:=some (.bool true),after:=args } = some (.bool (true == true))from w_eq_bool (w_res rfl) w_lit) rfl
theorem attach_call {l:OpenLaw}{n:Nat}{q:Program}{loose:List Str}{XP:(Str->Option Value)->Heap->Prop}{YP:World->Heap->Prop}{d:DefRec}
  (hn:l.most=some n) (hdf:d.params.defaults=[])
  (call:∀(w:World) (s₀ s₁:Shared) (mg mb:Str->Option Value) (fa:Addr) (o:Obj) (pm cd doc:Value) (a:Addr) (vs:List Value) (ns:List Int),
   Ground q loose [] XP w s₀ mg mb s₁.heap->YP w s₁.heap →
   s₁.heap.get? fa=some o->o.data = .func (docDef d.name d.params d.body d.scope pm cd doc)->s₁.heap.CodeRec cd d.name->mg d.name=some (.ref fa) →
   s₁.heap.get? a=some { cls:=.type "list",data:=.seq vs.toArray }->IntsAre vs ns->ns.length<=n->s₁.gens = #[] →
   codeAny (model l.prog w) callerA (.call (.ref fa) ⟨[.ref a],[]⟩) (λr s'=>r = .ok (.ret (.bool true))/\OldK s₁.heap s'.heap/\s'.os=s₁.os/\AllBare s'.gens) s₁) :
  WalkO q loose XP YP l.row.toRowW d [] (λf vs=>PySem.call f vs):=by
 intro w s₀ s₁ mg mb G Y fa o pm cd doc dV kV ho hd hcd hD hmg hg args vals as hpre hlay hrd hwl hlo
 obtain rfl:dV = .none:=Dflts.none hD hdf
 obtain rfl:kV = .none:=Dflts.noKw hD
 obtain⟨a,vs,ns,rfl,rfl,hobj,hints,hlen⟩:=VD hn hpre hwl
 refine enter_call (codeAny_mono (call w s₀ s₁ mg mb fa o pm cd doc a vs ns G Y ho (fd_plain hd) hcd hmg hobj hints hlen hg) λr s' hq=>?_)
 obtain⟨rfl,h2,h3,h4⟩:=hq
 exact⟨.inl ⟨.bool true,.bool true,[],rfl,λ_=>rfl,.bool true,Vz l _,λ_=>⟨List.Pairwise.nil,λ_ hm=>(nomatch hm)⟩⟩,h2,h3,h4⟩
end Att
namespace L2
open PySem PySem.Spec PyProof.Rows
theorem ZZ:∀{vs:List Value}{ns:List Int},IntsAre vs ns->zP (ns.map V.int) vs
 | _,_,.nil=>.nil
 | _,_,.cons n t h=>.cons ⟨t,rfl⟩ (ZZ h)
def zbQ (H:Hp):Prop:=∀b,H b=none\/∃o xs,H b=some (.frz o (.lst xs))
theorem Ja {P:Program}{w:World}{K:PySem.W.Frag}{mg mb:Str->Option Value}{CX:CXT}{k:Nat}{fa a:Addr}{fd:FuncData}{x:Str}{sp:Sp}{s₁:Shared}{vs:List Value}{ns:List Int}
  (KX:K.In s₁.heap) (hns:s₁.heap.Ns mainGlobals mg) (hb:s₁.heap.Ns builtinsNs mb) (hbb:∀x:Str,x≠"__name__"->mb x=bootBuiltins x) (hlim:s₁.heap.NoLimit) (hg:s₁.gens = #[])
  (ha:s₁.heap.get? a=some { cls:=.type "list",data:=.seq vs.toArray }) (hi:IntsAre vs ns) (hl:ns.length<=sizeLine) (hr:xa k callerA)
  (F:∀base:Heap,K.In base->base.Ns mainGlobals mg->jJ P w K mg base CX k fa fd [x] sp) (hbind:∀(s:Shared) (u:Value),BindsTo s fd ⟨[u],[]⟩ [(x,u)])
  (hsp:∀H:Hp,zbQ H->SqL K H a (ns.map V.int)->sp [.ref a] H (λv _=>v = .bl true) λ_ _ _=>False)
  (hCX:∀H e s',CX [] H s₁ (λ_ _ _=>False) e s'->False) :
  codeAny (model P w) callerA (.call (.ref fa) ⟨[.ref a],[]⟩) (λr s'=>r = .ok (.ret (.bool true))/\OldK s₁.heap s'.heap/\s'.os=s₁.os/\AllBare s'.gens) s₁:=by
 have rv:=ZZ hi
 have lenV:=hi.length
 have core:∀H:Hp,zbQ H->SqL K H a (ns.map V.int)->HOk P w H s₁.heap->(∀b,H b≠none->b=a)->(H a≠none->K.lookup a=none) →
   codeAny (model P w) callerA (.call (.ref fa) ⟨[.ref a],[]⟩) (λr s'=>r = .ok (.ret (.bool true))/\OldK s₁.heap s'.heap/\s'.os=s₁.os/\AllBare s'.gens) s₁:=by
  intro H hO hS hok hA hK
  have base_of:∀{b:Addr}{o:Obj},s₁.heap.get? b=some o->H b=none->(Z9 s₁.heap H).get? b=some o:=λe n=>V9 e n
  have noA:∀{b:Addr}{o:Obj}{es:Array DictEntry}{ep:Nat},s₁.heap.get? b=some o->o.data = .dict es ep->H b=none:=λ{b o es ep} e d=>by
   cases q:H b with
   | none=>rfl
   | some u =>
    have e':b=a:=hA b (by rw[q];simp)
    subst e'
    rw[ha]at e;cases e
    have d':Data.seq vs.toArray _=Data.dict es ep:=d
    cases d'
  have nsK:∀{b:Addr}{m:Str->Option Value},s₁.heap.Ns b m->(Z9 s₁.heap H).Ns b m:=λ{b m} ⟨o,es,ep,e,d,r⟩=>⟨o,es,ep,base_of e (noA e d),d,r⟩
  have hKb:K.In (Z9 s₁.heap H):=λb o e=>base_of (KX b o e) (by
   cases q:H b with
   | none=>rfl
   | some u =>
    have e':b=a:=hA b (by rw[q];simp)
    subst e'
    rw[hK (by rw[q];simp)]at e;cases e)
  have hM:Mod K mg (Z9 s₁.heap H):=⟨hKb,nsK hns,⟨mb,nsK hb,hbb⟩,let ⟨mc,h1,h2⟩:=hlim;⟨mc,nsK h1,h2⟩⟩
  have e0:zap P w K mg (Z9 s₁.heap H) callerA [] s₁ H:=⟨rfl,hM,λb o e=>zaE e,Nat.le_of_eq (Vj _ _),trivial,λb hb=>absurd (show b∈([]:List Addr)from hb) (by simp),hok,.of_eq hg⟩
  refine codeAny_mono ((F _ hKb (nsK hns)).run callerA [] s₁ H ⟨[.ref a],[]⟩ [.ref a] [.ref a] _ _ hr e0 (hbind s₁ (.ref a)) (.cons rfl .nil) (hsp H hO hS)) λr s' h=>?_
  cases r with
  | error e=>exact(hCX H e s' h).elim
  | ok fl =>
   cases fl with
   | next=>exact False.elim h
   | brk=>exact False.elim h
   | cont=>exact False.elim h
   | ret u =>
    obtain⟨v,H',os,bare,un,hok',r',q⟩:=h
    have q':v = .bl true:=q
    subst q'
    obtain rfl:u=Value.bool true:=r'
    refine⟨rfl,OldK.of_keep λb o e=>?_,os,bare⟩
    cases q:H b with
    | none=>exact un.keep b o e q (by intro z;exact absurd (show b∈([]:List Addr)from z) (by simp)) (by simp)
    | some u =>
     rcases hO b with z | ⟨ob,xs,z⟩
     ·rw[q]at z;cases z
     ·have z2:=un.frzs b ob _ z
      obtain⟨e1,_⟩:=hok b _ z
      obtain⟨e2,_⟩:=hok' b _ z2
      rw[e]at e1;cases e1
      exact e2
 cases hk:K.lookup a with
 | some o =>
  have e:=KX a o hk
  rw[ha]at e
  cases e
  refine core (λ_=>none) (λ_=>.inl rfl) (.inr ⟨_,vs.toArray,_,hk,rfl,rfl,rfl,by rw[List.size_toArray,lenV];exact hl,by simpa using rv⟩) (λb u z=>by have z':(none:Option HO)=some u:=z;cases z') (λb z=>absurd rfl z) λz=>absurd rfl z
 | none =>
  refine core (λb=>if b=a then some (.frz { cls:=.type "list",data:=.seq vs.toArray } (.lst (ns.map V.int)))else none) (λb=>?_) (.inl (.inr ⟨{ cls:=.type "list",data:=.seq vs.toArray },if_pos rfl⟩)) (λb u z=>?_) (λb z=>?_) λ_=>hk
  ·by_cases hb:b=a
   ·exact .inr ⟨_,_,if_pos hb⟩
   ·exact .inl (if_neg hb)
  ·by_cases hb:b=a
   ·have z':=(if_pos hb).symm.trans z
    cases z'
    subst hb
    exact⟨ha,by rw[List.length_map];exact hl,vs,_,rv,ha⟩
   ·have z':=(if_neg hb).symm.trans z
    cases z'
  ·by_cases hb:b=a
   ·exact hb
   ·exact absurd (if_neg hb) z
end L2
namespace L2
open PySem PySem.Spec PyProof.Rows
theorem zbu {l:PySem.W.OpenLaw}{n k:Nat}{q:Program}{loose:List Str}{XP:(Str->Option Value)->Heap->Prop}{YP:World->Heap->Prop}{d:DefRec}{K:Params->PySem.W.Frag}{CX:World->CXT}{sp:World->Sp}{x:Str}
  (hn:l.most=some n) (hn2:n<=sizeLine) (hdf:d.params.defaults=[]) (hr:xa k callerA)
  (hY:∀(w:World) (h:Heap),YP w h->(K w.params).In h)
  (F:∀(w:World) (mg:Str->Option Value) (fa:Addr) (h:Heap),(K w.params).In h->h.Ns mainGlobals mg->mg d.name=some (.ref fa) →
   ∃fd:FuncData,(∀(s:Shared) (u:Value),BindsTo s fd ⟨[u],[]⟩ [(x,u)]) ∧
    ∀base:Heap,(K w.params).In base->base.Ns mainGlobals mg->jJ l.prog w (K w.params) mg base (CX w) k fa fd [x] (sp w))
  (hsp:∀(w:World) (H:Hp) (a:Addr) (ns:List Int),ns.length<=n->zbQ H->SqL (K w.params) H a (ns.map V.int)->sp w [.ref a] H (λv _=>v = .bl true) λ_ _ _=>False)
  (hCX:∀(w:World) (H:Hp) (s:Shared) (e:Value) (s':Shared),CX w [] H s (λ_ _ _=>False) e s'->False) :
  PySem.W.WalkO q loose XP YP l.row.toRowW d [] (λf vs=>PySem.call f vs):=by
 refine Att.attach_call hn hdf λw s₀ s₁ mg mb fa o pm cd doc a vs ns G Y ho hd hcd hmg hobj hints hlen hg=>?_
 have KX:=hY w _ Y
 obtain⟨fd,hb,hF⟩:=F w mg fa _ KX G.T.g hmg
 exact Ja KX G.T.g G.T.b G.T.builtins G.T.nolimit hg hobj hints (Nat.le_trans hlen hn2) hr hF hb (λH hO hS=>hsp w H a ns hlen hO hS) λH e s'=>hCX w H s₁ e s'
end L2
namespace L2
open PySem PySem.Spec PyProof.Rows
def zp (s:Stmt):Arguments:=match s with
 | .FunctionDef _ a _ _ _ _ _ _ _ _=>a
 | _=>{ posonlyargs:=[],args:=[],vararg:=none,kwonlyargs:=[],kw_defaults:=[],kwarg:=none,defaults:=[] }
def zm (s:Stmt):List Stmt:=match s with
 | .FunctionDef _ _ b _ _ _ _ _ _ _=>b
 | _=>[]
def zg (s:Stmt):Scope:=match s with
 | .FunctionDef _ _ _ _ _ _ sc _ _ _=>sc
 | _=>{ kind:=.function,names:=[],isGenerator:=false,isCoroutine:=false }
abbrev CX0:CXT:=λ_ _ _ _ _ _=>False
abbrev E0:XK:=λ_ _ _=>False
theorem zdD {X:Cx}:XZ CX0 X E0:=λ_ _ _ _ _ _ _ h=>h.elim
structure Fun (K:PySem.W.Frag) (x qual:Str) (st:Stmt) (f:Addr) (fd:FuncData):Prop where
 ex:∃(oc:Value) (od:Option Addr) (kV doc pm:Value) (an:Option Addr) (cdv ct:Value) (osl:Array (Option Value)),
  fd=PySem.W.fnOf x qual (zp st) (zm st) (zg st) .none kV doc pm an cdv ct/\K.lookup f=some ⟨oc,od,.func fd,osl⟩/\PySem.W.codeIn K cdv qual=true
 kp:PySem.W.keepIn K (.ref f)=true
section
variable {P:Program}{w:World}{K:PySem.W.Frag}{mg:Str->Option Value}{base:Heap}
theorem Fun.ok {x qual:Str}{st:Stmt}{f:Addr}{fd:FuncData}{N ps:List Str}{k:Nat}{sp:Sp}(F:Fun K x qual st f fd) (S:zr N ps (zg st)) (len:∀vs H Q E,sp vs H Q E->vs.length=ps.length)
  (hbody:∀(cdv:Value) (A:Around) (outer:List Env) (s:Shared) (H:Hp) (vs:List V) (Q:VK) (E:XK),xa k (A.deeper (envOfC qual (zg st) s.heap.objs.size f cdv))->sp vs H Q E →
   ∃t,PSs (xX CX0 P w K mg base N qual (zg st) f cdv A outer s H E).nox (zm st) t/\t { nx:=λ_ H'=>Q .non H',rt:=Q } (vz N vs) H):jJ P w K mg base CX0 (k+1) f fd ps sp:=by
 obtain⟨oc,od,kV,doc,pm,an,cdv,ct,osl,rfl,lk,hcd⟩:=F.ex
 refine V7 lk hcd S len λA outer s H vs Q E hr hsp=>?_
 obtain⟨t,h,q⟩:=hbody cdv A outer s H vs Q E hr hsp
 exact⟨t,h.nox,q⟩
theorem zca {x qual:Str}{st:Stmt}{f:Addr}{oc:Value}{od an:Option Addr}{osl:Array (Option Value)}{kV doc pm cdv ct:Value}(l:K.lookup f=some ⟨oc,od,.func (PySem.W.fnOf x qual (zp st) (zm st) (zg st) .none kV doc pm an cdv ct),osl⟩)
  (c:PySem.W.codeIn K cdv qual=true) (k:PySem.W.keepIn K (.ref f)=true):Fun K x qual st f (PySem.W.fnOf x qual (zp st) (zm st) (zg st) .none kV doc pm an cdv ct):=⟨⟨oc,od,kV,doc,pm,an,cdv,ct,osl,rfl,l,c⟩,k⟩
end
theorem xQ {n:Nat}(h:n<=1000):n<sizeLine:=Nat.lt_of_le_of_lt h (by decide)
section
variable {X:Cx}
theorem pv (i:Nat){x:Str}{pos:Pos}(hN:X.N[i]? = some x:=by rfl) (hv:Vis X.env.scope x:=by first | exact Or.inl rfl | exact Or.inr (Or.inl rfl) | exact Or.inr (Or.inr rfl)) (hd:(x == ("__debug__":Str))=false:=by decide)
  (hcd:(x == ("__classdict__":Str))=false:=by decide):PE X (.Name x pos) (vn i):=zcK hN hv hd hcd
end
theorem zR {A B:Prop}(h:B):if false=true then A else B:=by
 rw[if_neg Bool.false_ne_true]
 exact h
theorem zJ {A B:Prop}(h:A):if true=true then A else B:=by
 rw[if_pos rfl]
 exact h
theorem jb {c A B:Prop} [Decidable c] (h1:c->A) (h2:¬c->B):if c then A else B:=by
 by_cases h:c
 ·rw[if_pos h]
  exact h1 h
 ·rw[if_neg h]
  exact h2 h
def zl (H H':Hp):Prop:=∀b o,H b=some o->H' b=some o
theorem zl.refl (H:Hp):zl H H:=λ_ _ h=>h
theorem zl.trans {H H1 H2:Hp}(a:zl H H1) (b:zl H1 H2):zl H H2:=λc o h=>b c o (a c o h)
theorem zl.seq {K:PySem.W.Frag}{H H':Hp}{a:Addr}{xs:List V}(e:zl H H') (h:SqL K H a xs):SqL K H' a xs:=by
 rcases h with(h | ⟨o,h⟩) | h
 ·exact .inl (.inl (e _ _ h))
 ·exact .inl (.inr ⟨o,e _ _ h⟩)
 ·exact .inr h
end L2
set_option Elab.async false
set_option linter.all false
set_option maxRecDepth 100000
namespace L2
open PySem PySem.Spec PyProof.Rows
section
variable {prog:Program}{w:World}{A:Around}{R:Result->Shared->Prop}{s:Shared}
theorem v9 {elt target iter:Expr}{ifs:List Expr}{scope:Scope}{pos:Pos}{it acc:Value}{env:Env}(I:Nat->Shared->Prop)
  (turn:∀n s,I n s->wpAny (model prog w) A (pyNext it) (λr s₁=>match r with
   | none=>R (.ok .next) s₁
   | some v=>wpAny (model prog w) A (letOwnedTupleGo target it v) (λ_ s₀=>wpAny (model prog w) A (assign target env v) (λ_ s₂ =>
     wpAny (model prog w) A (forIn ifs true λc r=>if r=true then do let ok <-isTrue c env (eval c env);pure (ForInStep.yield ok)else pure (ForInStep.yield r)) (λok s₃ =>
      if ok=true then wpAny (model prog w) A (eval elt env) (λx s₄ =>
       wpAny (model prog w) A (call (.builtin "list.append") [acc,x]) (λ_ s₅=>∃m,m<n/\I m s₅) (λ_ _=>False) s₄) (λ_ _=>False) s₃
      else ∃m,m<n/\I m s₃) (λ_ _=>False) s₂) (λ_ _=>False) s₀) (λ_ _=>False) s₁) (λ_ _=>False) s)
  (n:Nat) (h:I n s) :
  codeAny (model prog w) A (.compLoop (.ListComp elt [⟨target,iter,ifs,0⟩] scope pos) 0 it acc env) R s:=by
 refine codeAny_loop rfl I (λn s hI=>?_) n h
 show wpAny _ A ((compTurn (.ListComp elt [⟨target,iter,ifs,0⟩] scope pos) 0 it acc env).onRaise (λx=>do noteFrame x env;theTreesLotGoes x)) _ _ s
 refine wpAny_noted ?_
 rw[compTurn_list]
 have no:∀{X:Prop},∀(e:Value) (s':Shared),(λ_ _=>False:Value->Shared->Prop) e s'->X:=λ_ _ z=>False.elim z
 refine wpAny_bind (wpAny_standAt (wpAny_bind (wpAny_mono (turn n s hI) (λr s₁ h₁=>?_) λe s'=>no e s')))
 cases r with
 | none=>exact wpAny_pure h₁
 | some v =>
  refine wpAny_bind (wpAny_mono h₁ (λ_ s₀ h₀=>?_) λe s'=>no e s')
  refine wpAny_bind (wpAny_mono h₀ (λ_ s₂ h₂=>wpAny_bind (wpAny_mono h₂ (λok s₃ h₃=>?_) λe s'=>no e s')) λe s'=>no e s')
  cases ok with
  | false=>exact wpAny_pure ⟨rfl,h₃⟩
  | true =>
   exact wpAny_bind (wpAny_bind (wpAny_mono h₃ (λx s₄ h₄=>wpAny_bind (wpAny_mono h₄ (λ_ s₅ h₅=>wpAny_pure (wpAny_pure ⟨rfl,h₅⟩)) λe s'=>no e s')) λe s'=>no e s'))
end
def xW (X:Cx) (NB:List Str) (scope:Scope) (s3:Shared) (H3:Hp) (fp:List Addr):Cx :=
 { X with N:=NB,s₀:=s3,H₀:=H3,env:=compEnv scope s3.heap.objs.size X.env,outer:=X.stack,stack:=X.stack,ex:=fp,fn:=λ_=>true,pn:=[],xe:=λ_ _=>False }
def PTs (X:Cx) (ifs:List Expr) (t:TT):Prop :=
 ∀(pins:List (Addr×Obj)) (s:Shared) (σ:St) (H:Hp) (Q:Bool->Hp->Prop),Inv X pins σ H s->t σ H Q →
  wpAny (model X.prog X.w) X.A (forIn ifs true λc r=>if r=true then do let ok <-isTrue c X.env (eval c X.env);pure (ForInStep.yield ok)else pure (ForInStep.yield r)) (TP X pins σ Q) X.xe s
theorem vw {X:Cx}:PTs X [] (λ_ H Q=>Q true H):=λ_ _ _ H _ I h=>wpAny_tests_nil ⟨H,I,h⟩
def zbM (n:Nat) (wi:TI) (g:TG) (tt:TT) (te:TE):TE:=λσ H Q=>wi σ H λJ H1=>∀D,H1 D=none->∃W:Nat->Nat->Hp->List V->Prop,(∃m,W 0 m (upd H1 D (.lst [])) []) ∧
 ∀i m H2 ys,W i m H2 ys->H2 D=some (.lst ys)->(J.stop i H2/\Q (.ref D) H2) ∨
  (J.go i H2/\∀σB x H3,σB.length=n->J.yld i H2 x H3->g x σB H3 λσ4 H4=>tt σ4 H4 λb H5=>if b=true then te σ4 H5 (λv H6=>H6 D=some (.lst ys)/\ys.length<sizeLine/\∃m',m'<m/\W (i+1) m' (upd H6 D (.lst (ys++[v]))) (ys++[v]))
   else H5 D=some (.lst ys)/\∃m',m'<m/\W (i+1) m' H5 ys)
theorem jf {X:Cx}{elt tg iter:Expr}{ifs:List Expr}{scope:Scope}{pos:Pos}{NB:List Str}{wi:TI}{g:TG}{tt:TT}{te:TE}
  (hc:X.calm=true) (hfree:∀x∈scope.names,x.2≠.free) (hcell:∀x∈scope.names,x.2≠.cell) (hkind:scope.kind = .function) (hnames:∀x∈scope.names,x.2 = .local → scope.names.lookup x.1=some .local)
  (hi:PI X tg iter wi) (hb:∀s3 H3 fp,PG (xW X NB scope s3 H3 fp) tg g/\PTs (xW X NB scope s3 H3 fp) ifs tt/\PE (xW X NB scope s3 H3 fp) elt te)
  (hs:∀x,foldedSetIterable iter X.env x=pure x:=by intro _;rfl) :
  PE X (.ListComp elt [⟨tg,iter,ifs,0⟩] scope pos) (zbM NB.length wi g tt te):=by
 intro pins s σ H Q I h
 refine wpAny_ListComp hfree hkind hnames (thn (hi pins s σ H _ I h) λv s1 h1=>thn h1 λitv s2 h2=>?_) hs
 obtain⟨it,fp,tn,J,H2,e,I2,T,st2,f2,q2⟩:=h2
 subst e
 have hf2:H2 s2.heap.objs.size=none:=I2.hok.fresh (Nat.le_refl _)
 obtain⟨W,⟨m0,w0⟩,turn⟩:=q2 _ hf2
 refine wpAny_newObj_type (hd:=by size_fits) ?_
 have I3:Inv X pins σ (upd H2 s2.heap.objs.size (.lst [])) { s2 with heap:=s2.heap.push { cls:=.type "list",dict:=none,data:=.seq ([]:List Value).toArray } } :=
  I2.laid (t':=s2.toks) (λb u e=>Heap.get?_push_of_some _ e) (Nat.le_refl _) ⟨by decide,[],0,.nil,Heap.get?_push_size _ rfl⟩
 generalize hD:s2.heap.objs.size=D at *
 generalize hs3:({ s2 with heap:=s2.heap.push { cls:=.type "list",dict:=none,data:=.seq ([]:List Value).toArray } }:Shared)=s3 at *
 generalize hH3:upd H2 D (.lst [])=H3 at *
 have h3D:H3 D=some (.lst []):=by rw[<-hH3];exact zj
 have fpD:∀b∈fp,b≠D:=λb hb=>by
  obtain⟨o,e,_⟩:=T.obj _ _ st2 b hb
  rw[<-hD];exact Nat.ne_of_lt (Heap.lt_size e)
 have k23:∀b u,s2.heap.get? b=some u->s3.heap.get? b=some u:=λb u e=>by rw[<-hs3];exact Heap.get?_push_of_some _ e
 have st3:tn 0 s3.heap:=T.keep _ _ _ st2 λb _ o e=>k23 b o e
 have f3:∀b∈fp,jq X pins H3 b:=λb hb=>⟨by rw[<-hH3,zM (fpD b hb)];exact(f2 b hb).1,(f2 b hb).2⟩
 refine wpAny_newFunctionEnv hcell (by intro y hy;simp at hy) (λh4 hns4 hsb4=>?_) hkind
 have k34:∀b u,s3.heap.get? b=some u->h4.get? b=some u:=λb u e=>hsb4.extBut b u (Nat.ne_of_lt (Heap.lt_size e)) (Heap.get?_push_of_some _ e)
 have okB:(xW X NB scope s3 H3 fp).Ok:=by
  refine⟨I3.ok.mod,hkind,I3.ok.glob,I3.ok.blt,Nat.le_refl _,λx y c e _=>?_,λx e=>?_,λx c _ e=>?_,I3.ok.hd,I3.ok.frames,.inl rfl,λb hb=>⟨?_,λx c e=>?_⟩,I3.bs,Nat.le_trans I3.ok.bsz I3.sz,λb o e hb=>?_,λb hb z=>?_,I3.stack,I3.stkFree⟩
  ·exact absurd (show ([]:List (Str×Addr)).lookup x=some c from e) (by simp)
  ·have e':scope.names.lookup x=some .cell\/scope.names.lookup x=some .free:=e
   rcases e' with e' | e'
   ·exact absurd rfl (hcell _ (PySem.mem_of_lookup e'))
   ·exact absurd rfl (hfree _ (PySem.mem_of_lookup e'))
  ·exact absurd (show ([]:List (Str×Addr)).lookup x=some c from e) (by simp)
  ·obtain⟨o,e,_⟩:=T.obj _ _ st3 b hb
   exact Nat.ne_of_lt (Heap.lt_size e)
  ·exact absurd (show ([]:List (Str×Addr)).lookup x=some c from e) (by simp)
  ·obtain⟨_,_,_,z,_⟩:=f3 b hb
   rcases z with z | z
   ·exact I3.ok.noex b o e z
   ·exact absurd (Nat.lt_of_lt_of_le (Heap.lt_size e) (Nat.le_trans I3.ok.bsz z)) (Nat.lt_irrefl _)
  ·obtain⟨_,z1,z2,_⟩:=f3 b hb
   rcases List.mem_cons.mp (I3.stkSub b z)with e | e
   ·exact z1 e
   ·exact z2 e
 have IB:Inv (xW X NB scope s3 H3 fp) [] (List.replicate NB.length none) H3 { s3 with heap:=h4,toks:=s3.toks+([]:List (Str×Value)).length }:=by
  refine⟨okB,rfl,I3.bare,Un.kept k34,⟨_,hns4,λi x v _ e _=>?_⟩,λx c e=>?_,I3.hok.fresh (Nat.le_refl _),λx c e=>?_,λp hp=>?_,I3.hok.kept k34,by simp[xW]⟩
  ·rw[List.getElem?_replicate]at e
   split at e <;> cases e
  ·exact absurd (show ([]:List (Str×Addr)).lookup x=some c from e) (by simp)
  ·exact absurd (show ([]:List (Str×Addr)).lookup x=some c from e) (by simp)
  ·exact absurd (show p∈([]:List (Addr×Obj))from hp) (by simp)
 have st4:tn 0 h4:=T.keep _ _ _ st3 λb _ o e=>k34 b o e
 have C_ne:∀b∈fp,b≠s3.heap.objs.size:=λb hb=>(okB.exf b hb).1
 have stat:∀{H':Hp},(∀b∈fp,H' b=none)->∀b∈fp,jq (xW X NB scope s3 H3 fp) [] H' b:=λhn b hb =>
  ⟨hn b hb,C_ne b hb,okB.exfs b hb,.inl hb,λx c e=>absurd (show ([]:List (Str×Addr)).lookup x=some c from e) (by simp),λp hp=>absurd (show p∈([]:List (Addr×Obj))from hp) (by simp)⟩
 obtain⟨hg,ht,he⟩:=hb s3 H3 fp
 have fin:∀{σ':St}{H':Hp}{s':Shared},Inv (xW X NB scope s3 H3 fp) [] σ' H' s'->Q (.ref D) H' →
   ∃m,s'.heap.Ns s3.heap.objs.size m/\∀h',Heap.SameBut s3.heap.objs.size s'.heap h'->EP X pins σ Q (.ref D) { s' with heap:=h' }:=λ{σ' H' s'} J q=>by
  obtain⟨m,hm,_⟩:=J.loc
  refine⟨m,hm,λh' sb=>⟨.ref D,H',?_,rfl,q⟩⟩
  have neC:∀b o,s3.heap.get? b=some o->b≠s3.heap.objs.size:=λb o e=>Nat.ne_of_lt (Heap.lt_size e)
  have hfr:H' s3.heap.objs.size=none:=J.free
  have up:∀b o,b≠s3.heap.objs.size->s'.heap.get? b=some o->h'.get? b=some o:=λb o hb e=>(sb.2 b hb).trans e
  have hok':HOk X.prog X.w H' h':=λb ob e=>(J.hok b ob e).stay (λc w' hc q=>up c w' (by
   rintro rfl
   rcases hc with rfl | hc
   ·rw[hfr]at e;cases e
   ·rw[hfr]at hc;cases hc) q) (λ_ q=>q) λ_ _ q=>q
  have u:Un (frs X.stack) fp H3 H' s3.heap h' :=
   ⟨λb o e n hb hx=>up b o (neC b o e) (J.base.keep b o e n hb hx),λb o e n hb hx=>by
    obtain⟨sl,e'⟩:=J.base.slot b o e n hb hx
    exact⟨sl,up b _ (neC b o e) e'⟩,J.base.free,λb o e hx=>by
    obtain⟨o',e'⟩:=J.base.there b o e hx
    exact⟨o',up b _ (neC b o e) e'⟩,J.base.tups,J.base.frzs,J.base.tbls⟩
  refine I3.call' (s':={ s' with heap:=h' }) (ch:=fp) J.os u hok' J.bare λb hb=>?_
  obtain⟨z0,z1,z2,z3,z4,z5⟩:=f3 b hb
  exact⟨z3,z1,z4,z5⟩
 have loop:∀s5:Shared,s5 = { s3 with heap:=h4,toks:=s3.toks+([]:List (Str×Value)).length } →
   codeAny (model X.prog X.w) X.A (.compLoop (.ListComp elt [⟨tg,iter,ifs,0⟩] scope pos) 0 (.ref it) (.ref D) (compEnv scope s3.heap.objs.size X.env))
    (λr s'=>∃m,s'.heap.Ns s3.heap.objs.size m/\∀h',Heap.SameBut s3.heap.objs.size s'.heap h' →
     match r with | .ok _=>EP X pins σ Q (.ref D) { s' with heap:=h' } | .error x=>wpAny (model X.prog X.w) X.A (passOn "comprehension.variables-let-go" x (compEnv scope s3.heap.objs.size X.env)) (EP X pins σ Q) X.xe { s' with heap:=h' }) s5:=by
  rintro s5 rfl
  refine v9 (λn s'=>∃i σ' H' ys,Inv (xW X NB scope s3 H3 fp) [] σ' H' s'/\tn i s'.heap/\(∀b∈fp,H' b=none)/\H' D=some (.lst ys)/\W i n H' ys) ?_ m0
   ⟨0,_,H3,[],IB,st4,λb hb=>(f3 b hb).1,h3D,by rw[<-hH3]at *;exact w0⟩
  rintro n s6 ⟨i,σ6,H6,ys,I6,st6,fr6,hD6,w6⟩
  rcases turn i n H6 ys w6 hD6 with⟨stop,qn⟩ | ⟨go,step⟩
  ·refine thn (T.done (xW X NB scope s3 H3 fp) rfl rfl rfl hc i [] s6 σ6 H6 _ I6 (stat fr6) st6 stop) λr s7 ⟨hr,I7⟩=>?_
   subst hr
   exact fin I7 qn
  ·refine thn (T.item (xW X NB scope s3 H3 fp) rfl rfl rfl hc i [] s6 σ6 H6 _ I6 (stat fr6) st6 go) λr s7 ⟨u,hr,h7⟩=>?_
   subst hr
   refine thn h7 λ_ s8 ⟨x,H8,I8,r8,y8,st8,fr8⟩=>?_
   have I8':=I8.pinned (stat fr8) (T.obj _ _ st8)
   have again:∀{σ9:St}{H9:Hp}{s9:Shared}{zs:List V}{m':Nat},Inv (xW X NB scope s3 H3 fp) ([]++v0 fp s8.heap) σ9 H9 s9->H9 D=some (.lst zs)->m'<n->W (i+1) m' H9 zs →
     ∃m,m<n/\∃i σ' H' ys,Inv (xW X NB scope s3 H3 fp) [] σ' H' s9/\tn i s9.heap/\(∀b∈fp,H' b=none)/\H' D=some (.lst ys)/\W i m H' ys:=λ{σ9 H9 s9 zs m'} I9 hz hm w9=>by
    refine⟨m',hm,i+1,σ9,H9,zs,I9.unpinned,T.keep _ _ _ st8 λb hb o e=>(I9.pin (b,o) (List.mem_append_right _ (List.mem_append_right _ (xG hb e)))).1,λb hb=>?_,hz,w9⟩
    obtain⟨o,e,d⟩:=T.obj _ _ st8 b hb
    exact(I9.pin (b,o) (List.mem_append_right _ (List.mem_append_right _ (xG hb e)))).2.1
   refine thn (hg _ s8 σ6 H8 x u _ I8' r8 (step σ6 x H8 I6.len y8)) λ_ s9 ⟨σ9,H9,I9,q9⟩=>?_
   refine thn (ht _ s9 σ9 H9 _ I9 q9) λok s10 ⟨H10,I10,q10⟩=>?_
   cases ok with
   | false =>
    rw[if_neg (by decide)]at q10 ⊢
    obtain⟨hz,m',hm,w'⟩:=q10
    exact again I10 hz hm w'
   | true =>
    rw[if_pos rfl]at q10 ⊢
    refine thn (he _ s10 σ9 H10 _ I10 q10) λy s11 ⟨v,H11,I11,r11,hz,hlen,m',hm,w'⟩=>?_
    refine thn (qH _ s11 σ9 H11 (.ref D) [v] (.ref D) [y] (λ_ H12=>H12=upd H11 D (.lst (ys++[v]))) I11 rfl (.cons r11 .nil) ⟨D,ys,v,rfl,rfl,hz,hlen,rfl⟩) λ_ s12 ⟨_,H12,I12,_,e12⟩=>?_
    subst e12
    exact again I12 zj hm w'
 exact codeAny_compStart_list (loop _ rfl) (T.self X.A 0 _ _ _ st4 (loop _ rfl))
end L2
set_option Elab.async false
set_option linter.all false
set_option maxRecDepth 100000
namespace L2
open PySem PySem.Spec PyProof.Rows
mutual
inductive RdD (H:Hp):V->PyData->Prop
 | non:RdD H .non .none
 | bl (b:Bool):RdD H (.bl b) (.bool b)
 | int (i:Int):RdD H (.int i) (.int i)
 | str (x:Str):RdD H (.str x) (.str x)
 | tup {a:Addr}{xs:List V}{ds:List PyData}:H a=some (.tup xs)->jr H xs ds->RdD H (.ref a) (.tuple ds)
 | lst {a:Addr}{xs:List V}{ds:List PyData}:H a=some (.lst xs)->jr H xs ds->RdD H (.ref a) (.list ds)
inductive jr (H:Hp):List V->List PyData->Prop
 | nil:jr H [] []
 | cons {x:V}{d:PyData}{xs:List V}{ds:List PyData}:RdD H x d->jr H xs ds->jr H (x::xs) (d::ds)
end
section
variable {X:Cx}{pins:List (Addr×Obj)}{σ:St}{H:Hp}{s:Shared}
mutual
theorem RdD.reads (I:Inv X pins σ H s):∀{x:V}{d:PyData},RdD H x d->∀{u:Value},xb x u->∃as,Reads s.heap u d as
 | _,_,.non,u,r=>by cases(show u=Value.none from r);exact⟨_,.none⟩
 | _,_,.bl b,u,r=>by cases(show u=Value.bool b from r);exact⟨_,.bool b⟩
 | _,_,.int i,u,r=>by obtain⟨t,e⟩:=(show ∃t,u=Value.int i t from r);subst e;exact⟨_,.int i t⟩
 | _,_,.str x,u,r=>by obtain⟨t,e⟩:=(show ∃t,u=Value.str x t from r);subst e;exact⟨_,.str x t⟩
 | _,_,@RdD.tup _ a xs ds e h,u,r=>by
  cases(show u=Value.ref a from r)
  obtain⟨_,its,rv,o,h1,h2,n,h3⟩:=(show xE X.prog X.w H s.heap a (.tup xs)from I.hok a _ e)
  obtain⟨as,ra⟩:=jr.reads I h rv
  exact⟨_,.tuple h1 h2 h3 (by simpa using ra)⟩
 | _,_,@RdD.lst _ a xs ds e h,u,r=>by
  cases(show u=Value.ref a from r)
  obtain⟨_,its,n,rv,h1⟩:=(show xE X.prog X.w H s.heap a (.lst xs)from I.hok a _ e)
  obtain⟨as,ra⟩:=jr.reads I h rv
  exact⟨_,.list h1 rfl rfl (by simpa using ra)⟩
theorem jr.reads (I:Inv X pins σ H s):∀{xs:List V}{ds:List PyData},jr H xs ds->∀{us:List Value},zP xs us->∃as,ReadsAll s.heap us ds as
 | _,_,.nil,us,r=>by cases r;exact⟨_,.nil⟩
 | _,_,.cons h t,us,r=>by
  cases r with
  | cons r1 r2 =>
   obtain⟨a1,q1⟩:=RdD.reads I h r1
   obtain⟨a2,q2⟩:=jr.reads I t r2
   exact⟨_,.cons q1 q2⟩
end
end
def rEqD:R2:=λx y H Q=>∃d e,RdD H x d/\RdD H y e/\SeqAt.shaped d=true/\SeqAt.shaped e=true/\Q (.bl (PyData.eqv d e)) H
def rNeD:R2:=λx y H Q=>∃d e,RdD H x d/\RdD H y e/\SeqAt.shaped d=true/\SeqAt.shaped e=true/\Q (.bl (!PyData.eqv d e)) H
section
variable {X:Cx}
theorem Js (hu:X.A.units+64<cLine):OpR X (compareOp .Eq) rEqD:=by
 intro pins s σ H x y v u Q I rx ry h
 obtain⟨d,e,hd,he,s1,s2,q⟩:=h
 obtain⟨as,r1⟩:=hd.reads I rx
 obtain⟨bs,r2⟩:=he.reads I ry
 exact eq_dataH r1 r2 s1 s2 hu ⟨.bl _,H,I,rfl,q⟩
theorem Xg (hu:X.A.units+64<cLine):OpR X (compareOp .NotEq) rNeD:=by
 intro pins s σ H x y v u Q I rx ry h
 obtain⟨d,e,hd,he,s1,s2,q⟩:=h
 obtain⟨as,r1⟩:=hd.reads I rx
 obtain⟨bs,r2⟩:=he.reads I ry
 exact ne_dataH r1 r2 s1 s2 hu ⟨.bl _,H,I,rfl,q⟩
def Bd (n:Nat) (i:Int):Prop:=i.natAbs<2^n
theorem Bd.mono {m n:Nat}{i:Int}(h:Bd m i) (l:m<=n):Bd n i:=Nat.lt_of_lt_of_le h (Nat.pow_le_pow_right (by decide) l)
theorem Bd.bits {n:Nat}{i:Int}(h:Bd n i):Builtin.Int.intBits i<=n:=intBits_le_iff.mpr h
theorem Bd.of_bits {n:Nat}{i:Int}(h:Builtin.Int.intBits i<=n):Bd n i:=intBits_le_iff.mp h
theorem Bd.mul {m n:Nat}{i j:Int}(h:Bd m i) (k:Bd n j):Bd (m+n) (i*j):=.of_bits (intBits_mul_le h.bits k.bits)
theorem Bd.add {m n:Nat}{i j:Int}(h:Bd m i) (k:Bd n j):Bd (max m n+1) (i+j):=.of_bits (intBits_add_le h.bits k.bits)
theorem Bd.neg {n:Nat}{i:Int}(h:Bd n i):Bd n (-i):=by unfold Bd;rw[Int.natAbs_neg];exact h
def VM (i j:Int):Prop:=Bd 1000000 i/\Bd 1000000 j
theorem xU:OpR X (binaryOp .Mult) (rI VM λi j=>.int (i*j)):=opI λ_ _ _ _ _ _ _ hc q=>mul_int q (IntMulOk.of_le hc.1.bits hc.2.bits (by decide))
def zdd (i j:Int):Prop:=j≠0/\Bd 8900 j
theorem Zc:OpR X (binaryOp .FloorDiv) (rI zdd λi j=>.int (i.fdiv j)):=opI λ_ j _ _ _ _ _ hc q=>floordiv_int hc.1 q (.inl (PyProof.noPylong_of_log2 (by
 have h1:j.natAbs≠0:=λz=>hc.1 (Int.natAbs_eq_zero.mp z)
 have h2:j.natAbs<2^9000:=Nat.lt_of_lt_of_le hc.2 (Nat.pow_le_pow_right (by decide) (by decide))
 exact(Nat.log2_lt h1).mpr h2)))
theorem qy:ve X (.builtin "isinstance") (λxs H Q=>∃x t n b,xs=[x,.ty n]/\jt X.K H x t/\PySem.W.kitOne X.K t (.type n)=some b/\Q (.bl b) H):=by
 intro pins s σ H xs us Q I r h
 obtain⟨x,t,n,b,rfl,ty,e,q⟩:=h
 obtain⟨u,w',rfl,r1,r2⟩:=Q5 r
 cases(show w'=Value.type n from r2)
 exact Vl I r1 ty e λtk=>⟨.bl b,H,I.tok tk,rfl,q⟩
end
end L2
set_option Elab.async false
set_option linter.all false
set_option maxRecDepth 100000
namespace HT
open PySem PySem.Spec PyProof.Rows L2
end HT
namespace L2
open PySem PySem.Spec PyProof.Rows
section
variable {X:Cx}{e st:Expr}{te:TE}{pos p2:Pos}
theorem zP.rev:∀{xs:List V}{us:List Value},zP xs us->zP xs.reverse us.reverse
 | _,_,.nil=>.nil
 | _,_,.cons r t=>by rw[List.reverse_cons,List.reverse_cons];exact(zP.rev t).append (.cons r .nil)
end
end L2
namespace KM
theorem Xz {a b:Int}(ha:0<=a) (hb:0<b):Int.gcd b (a % b)=Int.gcd a b:=by
 obtain⟨m,rfl⟩:=Int.eq_ofNat_of_zero_le ha
 obtain⟨n,rfl⟩:=Int.eq_ofNat_of_zero_le (Int.le_of_lt hb)
 rw[<-Int.natCast_emod,Int.gcd_comm (m:Int)]
 show Nat.gcd n (m % n)=Nat.gcd n m
 rw[Nat.gcd_comm n (m % n)]
 exact(Nat.gcd_rec n m).symm
theorem VY (q:Rat):(q.den:Int)≠0:=by have:=q.den_nz;omega
theorem den_pos (q:Rat):(0:Int)<q.den:=by have:=q.den_nz;omega
def dv (t b:Int):Int:=if b<0 then -(Int.gcd t b:Int)else(Int.gcd t b:Int)
theorem zav {t b:Int}(hb:b≠0):0<Int.gcd t b:=Int.gcd_pos_of_ne_zero_right _ hb
theorem zdi {t b:Int}(hb:b≠0):dv t b≠0:=by
 have:=zav (t:=t) hb
 unfold dv;split <;> omega
theorem zb4 {t b:Int}:(dv t b).natAbs=Int.gcd t b:=by
 unfold dv;split <;> omega
theorem zdh {t b:Int}(hb:b≠0):(dv t b).natAbs<=b.natAbs:=by
 rw[zb4];exact Nat.le_of_dvd (by omega) (Int.gcd_dvd_natAbs_right t b)
theorem VZ {t b:Int}(hb:b≠0):t.fdiv (dv t b)=(Rat.divInt t b).num:=by
 rw[Rat.num_divInt,Int.gcd_comm b t]
 have h1:((Int.gcd t b:Nat):Int) ∣ t:=Int.gcd_dvd_left ..
 unfold dv
 split
 ·rename_i h
  rw[Int.fdiv_eq_ediv_of_dvd (Int.neg_dvd.mpr h1),Int.ediv_neg,Int.sign_eq_neg_one_of_neg h]
  rw[show (-1*t) = -t by omega,Int.neg_ediv_of_dvd h1]
 ·rename_i h
  rw[Int.fdiv_eq_ediv_of_dvd h1,Int.sign_eq_one_of_pos (by omega),Int.one_mul]
theorem zb5 {t b:Int}(hb:b≠0):b.fdiv (dv t b)=((Rat.divInt t b).den:Int):=by
 rw[Rat.den_divInt,if_neg hb,Int.gcd_comm b t]
 have h1:((Int.gcd t b:Nat):Int) ∣ b:=Int.gcd_dvd_right ..
 have h2:Int.gcd t b ∣ b.natAbs:=Int.gcd_dvd_natAbs_right t b
 unfold dv
 split
 ·rename_i h
  rw[Int.fdiv_eq_ediv_of_dvd (Int.neg_dvd.mpr h1),Int.ediv_neg]
  rw[Int.natCast_ediv,show ((b.natAbs:Nat):Int) = -b by omega,Int.neg_ediv_of_dvd h1]
 ·rename_i h
  rw[Int.fdiv_eq_ediv_of_dvd h1,Int.natCast_ediv,show ((b.natAbs:Nat):Int)=b by omega]
theorem zcq {t b:Int}(hb:b≠0):(Rat.divInt t b).num.natAbs<=t.natAbs:=by
 rw[<-VZ hb]
 have:t.fdiv (dv t b) ∣ t:=by
  have h1:dv t b ∣ t:=by
   unfold dv;split
   ·exact Int.neg_dvd.mpr (Int.gcd_dvd_left ..)
   ·exact Int.gcd_dvd_left ..
  obtain⟨c,hc⟩:=h1
  rw[Int.fdiv_eq_ediv_of_dvd ⟨c,hc⟩]
  refine⟨dv t b,?_⟩
  exact(Int.ediv_mul_cancel ⟨c,hc⟩).symm
 by_cases h0:t=0
 ·subst h0;simp
 ·exact Nat.le_of_dvd (by omega) (Int.natAbs_dvd_natAbs.mpr this)
theorem zb3 {t b:Int}(hb:b≠0):(Rat.divInt t b).den<=b.natAbs:=by
 rw[Rat.den_divInt,if_neg hb];exact Nat.div_le_self _ _
theorem QM (a b:Rat):Rat.divInt (a.num*b.den+b.num*a.den) (a.den*b.den)=a+b:=by
 rw[Rat.add_def',<-Rat.divInt_ofNat];simp
theorem XC (a b:Rat):a.num*b.den<b.num*a.den↔a<b:=(Rat.lt_iff a b).symm
structure qw where
 pl:Rat
 sp:Rat
 wt:Int
end KM
set_option Elab.async false
set_option linter.all false
set_option maxRecDepth 100000
namespace L2
open PySem PySem.Spec PyProof.Rows
structure Cal (P:Program) (w:World) (K:PySem.W.Frag) (mg:Str->Option Value) (base:Heap) (x:Str) (k:Nat) (ps:List Str) (dvs:List V) (sp:Sp):Prop where
 ex:∃f fd ds,jJ P w K mg base CX0 k f fd ps sp/\mg x=some (.ref f)/\PySem.W.keepIn K (.ref f)=true/\jE K fd ps ds/\zP dvs ds
theorem zE {X:Cx}{x:Str}{k:Nat}{ps:List Str}{dvs:List V}{sp:Sp}{p pos:Pos}{e:Expr}{es:List Expr}{t:TA}
  (c:Cal X.prog X.w X.K X.mg X.base x k ps dvs sp) (hr:xa k X.A) (ha:PA X (e::es) t) (hg:Gl X x:=by rfl) (hdb:(x == ("__debug__":Str))=false:=by decide)
  (he:starEach (e::es) X.env=(false,eval e X.env)::starEach es X.env:=by rfl) (hpl:(backTo pos (starEach es X.env)).any (·.1)=false:=by rfl) :
  PE X (.Call (.Name x p) (e::es) [] pos) (ZY sp dvs E0 t):=by
 obtain⟨f,fd,ds,F,hm,hk,hb,hd⟩:=c.ex
 exact za0 F hr hg hm hk hb hd zdD ha hdb he hpl
structure Df (K:PySem.W.Frag) (mg:Str->Option Value) (x:Str) (st:Stmt) (ps:List Str) (dvs:List V):Prop where
 ex:∃(f:Addr) (oc:Value) (od:Option Addr) (dV kV doc pm:Value) (an:Option Addr) (cdv ct:Value) (osl:Array (Option Value)) (ds:List Value),
  K.lookup f=some ⟨oc,od,.func (PySem.W.fnOf x x (zp st) (zm st) (zg st) dV kV doc pm an cdv ct),osl⟩/\PySem.W.codeIn K cdv x=true/\PySem.W.keepIn K (.ref f)=true/\mg x=some (.ref f) ∧
  zP dvs ds/\jE K (PySem.W.fnOf x x (zp st) (zm st) (zg st) dV kV doc pm an cdv ct) ps ds
section
variable {P:Program}{w:World}{K:PySem.W.Frag}{mg:Str->Option Value}{base:Heap}
theorem Df.cal {x:Str}{st:Stmt}{N ps:List Str}{dvs:List V}{k:Nat}{sp:Sp}(D:Df K mg x st ps dvs) (S:zr N ps (zg st)) (len:∀vs H Q E,sp vs H Q E->vs.length=ps.length)
  (hbody:∀(f:Addr) (cdv:Value) (A:Around) (outer:List Env) (s:Shared) (H:Hp) (vs:List V) (Q:VK) (E:XK),xa k (A.deeper (envOfC x (zg st) s.heap.objs.size f cdv))->sp vs H Q E →
   ∃t,PSs (xX CX0 P w K mg base N x (zg st) f cdv A outer s H E).nox (zm st) t/\t { nx:=λ_ H'=>Q .non H',rt:=Q } (vz N vs) H):Cal P w K mg base x (k+1) ps dvs sp:=by
 obtain⟨f,oc,od,dV,kV,doc,pm,an,cdv,ct,osl,ds,lk,hcd,hk,hm,hv,hb⟩:=D.ex
 refine⟨⟨f,_,ds,V7 lk hcd S len λA outer s H vs Q E hr hsp=>?_,hm,hk,hb,hv⟩⟩
 obtain⟨t,h,q⟩:=hbody f cdv A outer s H vs Q E hr hsp
 exact⟨t,h.nox,q⟩
theorem zO {x:Str}{st:Stmt}{ps:List Str}{f:Addr}{oc:Value}{od an:Option Addr}{osl:Array (Option Value)}{dV kV doc pm cdv ct:Value}
  (l:K.lookup f=some ⟨oc,od,.func (PySem.W.fnOf x x (zp st) (zm st) (zg st) dV kV doc pm an cdv ct),osl⟩) (c:PySem.W.codeIn K cdv x=true) (k:PySem.W.keepIn K (.ref f)=true) (m:mg x=some (.ref f))
  (hb:∀us:List Value,us.length=ps.length->bindArgs (PySem.W.fnOf x x (zp st) (zm st) (zg st) dV kV doc pm an cdv ct) ⟨us,[]⟩=pure (ps.zip us)):Df K mg x st ps [] :=
 ⟨⟨f,oc,od,dV,kV,doc,pm,an,cdv,ct,osl,[],l,c,k,m,.nil,.all hb⟩⟩
end
def rp (q:Rat):List V:=[.int q.num,.int (q.den:Int)]
def xg (H:Hp) (p:Addr) (q:Rat):Prop:=H p=some (.tup (rp q))
theorem xg.same {H H':Hp}{p:Addr}{q:Rat}(h:xg H p q) (e:zl H H'):xg H' p q:=e _ _ h
def Sz (n:Nat) (q:Rat):Prop:=Bd n q.num/\Bd n (q.den:Int)
theorem Sz.mono {m n:Nat}{q:Rat}(h:Sz m q) (l:m<=n):Sz n q:=⟨h.1.mono l,h.2.mono l⟩
theorem Bd.of_le {n:Nat}{i j:Int}(h:i.natAbs<=j.natAbs) (b:Bd n j):Bd n i:=Nat.lt_of_le_of_lt h b
theorem Sz.divInt {n:Nat}{t b:Int}(hb:b≠0) (h1:Bd n t) (h2:Bd n b):Sz n (Rat.divInt t b) :=
 ⟨h1.of_le (KM.zcq hb),h2.of_le (by have:=KM.zb3 (t:=t) hb;omega)⟩
theorem Sz.add {m n:Nat}{x y:Rat}(h:Sz m x) (k:Sz n y):Sz (m+n+1) (x+y):=by
 rw[<-KM.QM]
 refine .divInt (Int.mul_ne_zero (KM.VY x) (KM.VY y)) ?_ ((h.2.mul k.2).mono (by omega))
 exact((h.1.mul k.2).add (k.1.mul h.2)).mono (by omega)
def QV (C:Rat->Rat->Prop) (f:Rat->Rat->Rat):Sp:=λvs H Q _=>∃p q x y,vs=[.ref p,.ref q]/\xg H p x/\xg H q y/\C x y/\∀r H',zl H H'->xg H' r (f x y)->Q (.ref r) H'
def Sz2 (x y:Rat):Prop:=Sz 4000 x/\Sz 4000 y
theorem at0 {α:Type}(a b:α):atI [a,b] 0=some a:=rfl
theorem at1 {α:Type}(a b:α):atI [a,b] 1=some b:=rfl
theorem zl.upd {H:Hp}{p:Addr}{o:HO}(h:H p=none):zl H (upd H p o):=λb u e=>by rw[zM (zK e h)];exact e
end L2
set_option Elab.async false
set_option linter.all false
set_option maxRecDepth 100000
namespace L2
open PySem PySem.Spec PyProof.Rows
def TrX (h B:Heap) (e:Addr) (cls a0:Value) (dct:Option Addr) (fl:Value):Prop :=
 ∃oe vs T oT ts,h.get? e=some oe/\oe.cls=cls/\oe.dict=dct/\oe.data = .fields vs/\vs[0]? = some a0/\vs[1]? = some (.ref T)/\B.get? T=none/\T≠e/\h.get? T=some oT/\oT.data = .fields ts/\ts[3]? = some fl
theorem Vo (o:Obj) (f:Array Value->Array Value):(Obj.mapFields f o).dict=o.dict:=by
 unfold Obj.mapFields;split <;> rfl
section
variable {M:Model}{A:Around}{E:Value->Shared->Prop}{s:Shared}{B:Heap}{env:Env}{outer l:List Env}{L e:Addr}{oe:Obj}{vs:Array Value}{a0 cls fl:Value}{dct:Option Addr}{Q:Unit->Shared->Prop}
theorem Qy {head:Value}{hadNext:Bool}(hfr:A.frames=some (env::outer)) (hl:s.heap.FunFrames B (env::outer)) (hf:env.frame=some L) (he:s.heap.get? e=some oe) (hB:B.StaysIn s.heap) (hn:B.get? e=none) (hd:oe.data = .fields vs) (hz:1<vs.size) (h0:vs[0]? = some a0)
  (q:∀h',B.StaysIn h'->h'.FunFrames B (env::outer)->TrX h' B e oe.cls a0 oe.dict (rawInt L)->s.heap.UpToSlots h'->Q () { s with heap:=h' }) :
  wpAny M A (do let a <-frameOf env;let pl <-entryPlaceOf L hadNext;let b <-EntryCells.newEntry head a .none (rawInt L) .none pl;setField (.ref e) 1 b) Q E s:=by
 have nf:e∉(env::outer).filterMap (·.frame):=λm=>by
  obtain⟨_,o,ho,hnf⟩:=hl.mem m
  rw[he]at ho;cases ho;exact hnf vs hd
 refine wpAny_bind (wpAny_frameOf_fun hfr hl hf λg1 k1=>wpAny_bind (wpAny_entryPlaceOf λpl hpl=>?_))
 unfold EntryCells.newEntry newFields
 have e1:g1.get? e=some oe:=(k1.2.1 e nf).trans he
 have B1:B.StaysIn g1:=λb o z=>(k1.2.1 b λm=>by rw[(hl.mem m).1]at z;cases z).trans (hB b o z)
 have fr:g1.objs.size≠e:=Nat.ne_of_gt (Heap.lt_size e1)
 have d3:=Obj.data_mapFields hd (·.setIfInBounds 1 (Value.ref g1.objs.size))
 refine wpAny_bind (wpAny_newObj_type (wpAny_setField (Heap.get?_push_of_some _ e1) hd hz (q _ (λb o z=>?_) (hl.of_keeps λb o hb nn=>?_) ?_ λb o hb nn=>?_)) (hpl.sizeOk5 _ _ _ _ _))
 ·have ne:e≠b:=λr=>by rw[<-r,hn]at z;cases z
  rw[Heap.get?_update_other _ _ ne]
  exact Heap.get?_push_of_some _ (B1 b o z)
 ·obtain⟨sl,z⟩:=k1.2.2 b o hb
  have ne:e≠b:=λr=>by rw[<-r,he]at hb;cases hb;exact nn vs hd
  exact⟨{ o with slots:=sl },by rw[Heap.get?_update_other _ _ ne];exact Heap.get?_push_of_some _ z,rfl⟩
 ·refine⟨_,_,g1.objs.size,_,_,Heap.get?_update_self _ (Heap.get?_push_of_some _ e1) (Obj.isFreed_of_fields d3),Obj.cls_mapFields _ _,Vo _ _,d3,?_,by simp[hz],B1.fresh,fr,(Heap.get?_update_other _ _ (Ne.symm fr)).trans (Heap.get?_push_size g1 rfl),rfl,?_⟩
  ·rw[Array.getElem?_setIfInBounds_ne (by decide)];exact h0
  ·first | (simp;done) | (rcases hpl with rfl | ⟨_,_,_,_,_,_,_,rfl⟩ <;> simp)
 ·obtain⟨sl,z⟩:=k1.2.2 b o hb
  have ne:e≠b:=λr=>by rw[<-r,he]at hb;cases hb;exact nn vs hd
  exact⟨sl,by rw[Heap.get?_update_other _ _ ne];exact Heap.get?_push_of_some _ z⟩
theorem Qe (hfr:A.frames=some (env::outer)) (hl:s.heap.FunFrames B (env::outer)) (hf:env.frame=some L) (he:s.heap.get? e=some oe) (hB:B.StaysIn s.heap) (hn:B.get? e=none) (hd:oe.data = .fields vs) (h1:vs[1]? = some .none) (h0:vs[0]? = some a0)
  (q:∀h',B.StaysIn h'->h'.FunFrames B (env::outer)->TrX h' B e oe.cls a0 oe.dict (rawInt L)->s.heap.UpToSlots h'->Q () { s with heap:=h' }):wpAny M A (noteFrame (.ref e) env) Q E s:=by
 unfold noteFrame
 simp only[hf]
 refine wpAny_bind (wpAny_field he hd h1 ?_)
 rw[if_neg (by decide)]
 exact Qy hfr hl hf he hB hn hd (Array.getElem?_eq_some_iff.mp h1).1 h0 q
theorem ZM (hfr:A.frames=some (env::outer)) (hl:s.heap.FunFrames B (env::outer)) (hf:env.frame=some L) (ht:TrX s.heap B e cls a0 dct .none) (hB:B.StaysIn s.heap) (hn:B.get? e=none)
  (q:∀h',B.StaysIn h'->h'.FunFrames B (env::outer)->TrX h' B e cls a0 dct (rawInt L)->s.heap.UpToSlots h'->Q () { s with heap:=h' }):wpAny M A (noteFrame (.ref e) env) Q E s:=by
 obtain⟨oe,vs,T,oT,ts,he,rfl,rfl,hd,h0,h1,nT,Te,hT,dT,h3⟩:=ht
 unfold noteFrame
 simp only[hf]
 refine wpAny_bind (wpAny_field he hd h1 ?_)
 rw[if_pos (show (Value.ref T != Value.none)=true from by simp)]
 refine wpAny_bind (wpAny_field hT dT h3 ?_)
 rw[if_neg (show ¬((Value.none == rawInt L)=true)from by simp[rawInt])]
 have oth:∀b,b≠T->(s.heap.update T (Obj.mapFields (·.setIfInBounds 3 Value.none))).get? b=s.heap.get? b:=λb hb=>Heap.get?_update_other _ _ (Ne.symm hb)
 have nr:∀b o,s.heap.get? b=some o->(∀vs,o.data≠.fields vs)->b≠T:=λb o hb nn r=>by rw[r,hT]at hb;cases hb;exact nn ts dT
 refine wpAny_bind (wpAny_setField hT dT (Array.getElem?_eq_some_iff.mp h3).1 (Qy hfr (hl.of_keeps λb o hb nn=>⟨o,(oth b (nr b o hb nn)).trans hb,rfl⟩) hf ((oth e (Ne.symm Te)).trans he) (λb o z=>(oth b λr=>by rw[r,nT]at z;cases z).trans (hB b o z)) hn hd (Array.getElem?_eq_some_iff.mp h1).1 h0 λh' x1 x2 x3 x4=>q h' x1 x2 x3 λb o hb nn=>x4 b o ((oth b (nr b o hb nn)).trans hb) nn))
theorem V5 (hB:B.StaysIn s.heap) (hl:s.heap.FunFrames B l) (ht:TrX s.heap B e cls a0 dct fl)
  (q:∀h',B.StaysIn h'->h'.FunFrames B l->TrX h' B e cls a0 dct .none->s.heap.UpToSlots h'->Q () { s with heap:=h' }):wpAny M A (setFlight (.ref e) none) Q E s:=by
 obtain⟨oe,vs,T,oT,ts,he,hc,hdc,hd,h0,h1,nT,Te,hT,dT,h3⟩:=ht
 have z3:3<ts.size:=(Array.getElem?_eq_some_iff.mp h3).1
 have oth:∀b,b≠T->(s.heap.update T (Obj.mapFields (·.setIfInBounds 3 ((none:Option Addr).elim Value.none λf=>rawInt f)))).get? b=s.heap.get? b:=λb hb=>Heap.get?_update_other _ _ (Ne.symm hb)
 have nr:∀b o,s.heap.get? b=some o->(∀vs,o.data≠.fields vs)->b≠T:=λb o hb nn r=>by rw[r,hT]at hb;cases hb;exact nn ts dT
 unfold setFlight
 refine wpAny_bind (wpAny_field he hd h1 ?_)
 rw[if_pos (show (Value.ref T != Value.none)=true from by simp)]
 exact wpAny_setField hT dT z3 (q _ (λb o z=>(oth b λr=>by rw[r,nT]at z;cases z).trans (hB b o z)) (hl.of_keeps λb o hb nn=>⟨o,(oth b (nr b o hb nn)).trans hb,rfl⟩)
  ⟨oe,vs,T,_,_,(oth e (Ne.symm Te)).trans he,hc,hdc,hd,h0,h1,nT,Te,Heap.get?_update_self _ hT (Obj.isFreed_of_fields (Obj.data_mapFields dT _)),Obj.data_mapFields dT _,by simp[z3]⟩ λb o hb nn=>⟨o.slots,(oth b (nr b o hb nn)).trans hb⟩)
end
def FlX (B:Heap) (l:List Env) (e:Addr) (cls a0:Value) (dct:Option Addr) (h:Heap):Prop:=B.StaysIn h/\B.get? e=none/\h.FunFrames B l/\TrX h B e cls a0 dct .none
def HeX (B:Heap) (l:List Env) (e:Addr) (cls a0:Value) (dct:Option Addr) (h:Heap):Prop:=B.StaysIn h/\B.get? e=none/\h.FunFrames B l/\∃fl,TrX h B e cls a0 dct fl
section
variable {M:Model}{A:Around}{E:Value->Shared->Prop}{s:Shared}{B h:Heap}{env:Env}{outer l:List Env}{L e:Addr}{a0 cls:Value}{dct:Option Addr}{Q:Unit->Shared->Prop}
theorem FlX.held (x:FlX B l e cls a0 dct h):HeX B l e cls a0 dct h:=⟨x.1,x.2.1,x.2.2.1,_,x.2.2.2⟩
theorem FlX.there (x:FlX B l e cls a0 dct h):∃ob,h.get? e=some ob/\ob.cls=cls:=by
 obtain⟨_,_,_,oe,_,_,_,_,he,hc,_⟩:=x
 exact⟨oe,he,hc⟩
theorem FlX.first (x:FlX B l e cls a0 dct h):∃oe vs,h.get? e=some oe/\oe.cls=cls/\oe.dict=dct/\oe.data = .fields vs:=by
 obtain⟨_,_,_,oe,vs,_,_,_,he,hc,hdc,hd,_⟩:=x
 exact⟨oe,vs,he,hc,hdc,hd⟩
theorem QD (hfr:A.frames=some (env::outer)) (hf:env.frame=some L) (x:FlX B (env::outer) e cls a0 dct s.heap) (q:∀h',HeX B (env::outer) e cls a0 dct h'->s.heap.UpToSlots h'->Q () { s with heap:=h' }):wpAny M A (noteFrame (.ref e) env) Q E s :=
 ZM hfr x.2.2.1 hf x.2.2.2 x.1 x.2.1 λh' x1 x2 x3 x4=>q h' ⟨x1,x.2.1,x2,_,x3⟩ x4
theorem jc (x:HeX B l e cls a0 dct s.heap) (q:∀h',FlX B l e cls a0 dct h'->s.heap.UpToSlots h'->Q () { s with heap:=h' }):wpAny M A (setFlight (.ref e) none) Q E s:=by
 obtain⟨x1,x2,x3,fl,x4⟩:=x
 exact V5 x1 x3 x4 λh' y1 y2 y3 y4=>q h' ⟨y1,x2,y2,y3⟩ y4
theorem Jc (hfr:A.frames=some (env::outer)) (hf:env.frame=some L) (x:FlX B (env::outer) e cls a0 dct s.heap) (q:∀h',FlX B outer e cls a0 dct h'->s.heap.UpToSlots h'->Q () { s with heap:=h' }):wpAny M A (leaving env (.ref e)) Q E s:=by
 unfold leaving
 refine wpAny_bind (QD hfr hf x λh' y up=>jc (s:={ s with heap:=h' }) y λh2 z up2=>?_)
 obtain⟨z1,z2,⟨_,_,z3⟩,z4⟩:=z
 exact q h2 ⟨z1,z2,z3,z4⟩ (up.trans up2)
theorem Qb {args:List Value}(hfr:A.frames=some (env::outer)) (hf:env.frame=some L) (hB:B.StaysIn h) (hl:h.FunFrames B (env::outer)) (hx:Heap.MadeExcOf h s.heap e cls args)
  (q:∀h' t,FlX B outer e cls (.ref t) none h'->s.heap.UpToSlots h'->Q () { s with heap:=h' }):wpAny M A (leaving env (.ref e)) Q E s:=by
 obtain⟨t,he,_,_⟩:=hx.there
 have hn:B.get? e=none:=by
  cases z:B.get? e with
  | none=>rfl
  | some o=>have:=hB e o z;rw[hx.new]at this;cases this
 unfold leaving
 refine wpAny_bind (Qe (a0:=.ref t) hfr (hl.of_keeps λb o hb _=>⟨o,hx.keeps b o hb,rfl⟩) hf he (λb o z=>hx.keeps b o (hB b o z)) hn rfl rfl rfl λh' x1 x2 x3 x4=>?_)
 refine jc (s:={ s with heap:=h' }) ⟨x1,hn,x2,_,x3⟩ λh2 z up2=>?_
 obtain⟨z1,z2,⟨_,_,z3⟩,z4⟩:=z
 exact q h2 t ⟨z1,z2,z3,z4⟩ (x4.trans up2)
end
end L2
set_option Elab.async false
set_option linter.all false
set_option maxRecDepth 100000
namespace L2
open PySem PySem.Spec PyProof.Rows
structure Fly (P:Program) (w:World) (l:List Env) (H:Hp) (s:Shared) (C:Addr) (H':Hp) (a:Addr) (s':Shared) (B:Heap) (a0:Value) (dct:Option Addr):Prop where
 os:s'.os=s.os
 bare:AllBare s'.gens
 un:Un (frs l) [] H H' s.heap s'.heap
 hok:HOk P w H' s'.heap
 fly:FlX B l a (.ref C) a0 dct s'.heap
 kb:∀b o,s.heap.get? b=some o->b∉frs l->(∃o',B.get? b=some o')/\(H b=none->B.get? b=some o)
 kt:∀b u,H' b=some u->∃o,B.get? b=some o
abbrev CX1 (P:Program) (w:World):CXT:=λouter H s E e s'=>∃a C H' B a0 dct,e = .ref a/\Fly P w outer H s C H' a s' B a0 dct/\E (.ref C) dct H'
section
variable {P:Program}{w:World}{H H':Hp}{h h' B:Heap}{a:Addr}{o:HO}
theorem xE.obj (x:xE P w H h a o):∃u,h.get? a=some u:=by
 cases o with
 | lst xs=>obtain⟨_,_,_,_,e⟩:=x;exact⟨_,e⟩
 | tup xs=>obtain⟨_,_,_,ob,e,_⟩:=x;exact⟨_,e⟩
 | dK kvs=>obtain⟨_,_,_,_,o,_,_,e,_⟩:=x;exact⟨_,e⟩
 | dT kvs=>obtain⟨_,_,_,_,o,_,_,e,_⟩:=x;exact⟨_,e⟩
 | set S n=>obtain⟨o,_,_,_,e,_⟩:=x;exact⟨_,e⟩
 | ins C dx fs=>obtain⟨_,_,_,e,_⟩:=x;exact⟨_,e⟩
 | own y=>obtain⟨_,e⟩:=x;exact⟨_,e⟩
 | xd fs=>obtain⟨_,⟨_,_,_,e,_⟩,_⟩:=x;exact⟨_,e⟩
 | rng lo hi=>obtain⟨_,_,_,e⟩:=x;exact⟨_,e⟩
 | frz ob u=>obtain⟨e,_⟩:=x;exact⟨_,e⟩
 | tbl ps=>exact⟨_,(show h.get? a=some _ from x)⟩
 | met f y=>exact⟨_,(show h.get? a=some _ from x)⟩
 | ext φ=>obtain⟨_,⟨_,e⟩,_⟩:=x;exact⟨_,e⟩
theorem Xa (x:HOk P w H h) (k1:B.StaysIn h) (k2:B.StaysIn h') (kt:∀b u,H b=some u->∃o,B.get? b=some o):HOk P w H h':=λa o e =>
 (x a o e).stay (λb u hb q=>by
  have ht:∃v,H b=some v:=by
   rcases hb with rfl | hb
   ·exact⟨_,e⟩
   ·exact⟨_,hb⟩
  obtain⟨v,hv⟩:=ht
  obtain⟨ob,hob⟩:=kt b v hv
  rw[k1 b ob hob]at q;cases q;exact k2 b _ hob) (λ_ q=>q) λ_ _ q=>q
end
section
variable {P:Program}{w:World}{l:List Env}{H H':Hp}{s s':Shared}{C a:Addr}{B h':Heap}{a0:Value}{dct:Option Addr}
theorem Fly.move (F:Fly P w l H s C H' a s' B a0 dct) (fl:FlX B l a (.ref C) a0 dct h') (up:s'.heap.UpToSlots h'):Fly P w l H s C H' a { s' with heap:=h' } B a0 dct where
 os:=F.os
 bare:=F.bare
 un:={
  keep:=λb o q n hb _=>fl.1 b o ((F.kb b o q hb).2 n)
  slot:=λb o q n hb hx=>by
   obtain⟨sl,e⟩:=F.un.slot b o q n hb hx
   obtain⟨_,o',ho',hd⟩:=F.fly.2.2.1.mem hb
   have z:some o'=some { o with slots:=sl }:=ho'.symm.trans e
   cases z
   obtain⟨sl',e'⟩:=up b _ e hd
   exact⟨sl',e'⟩
  free:=F.un.free
  there:=λb o q _=>by
   by_cases hb:b∈frs l
   ·obtain⟨_,o',ho',_⟩:=fl.2.2.1.mem hb
    exact⟨o',ho'⟩
   ·obtain⟨o',ho'⟩:=(F.kb b o q hb).1
    exact⟨o',fl.1 b o' ho'⟩
  tups:=F.un.tups
  frzs:=F.un.frzs
  tbls:=F.un.tbls }
 hok:=Xa F.hok F.fly.1 fl.1 F.kt
 fly:=fl
 kb:=F.kb
 kt:=F.kt
theorem Fly.untracked (F:Fly P w l H s C H' a s' B a0 dct):H' a=none:=by
 cases q:H' a with
 | none=>rfl
 | some u =>
  obtain⟨o,e⟩:=F.kt a u q
  rw[F.fly.2.1]at e;cases e
end
section
variable {X:Cx}{pins:List (Addr×Obj)}{σ:St}{H H':Hp}{s:Shared}
theorem Inv.notfr (I:Inv X pins σ H s){b:Addr}{o:Obj}(e:X.s₀.heap.get? b=some o) (hb:b∉X.fs):b∉frs X.stack:=λz=>by
 rcases List.mem_cons.mp (I.stkSub b z)with r | r
 ·exact absurd (Nat.lt_of_lt_of_le (Heap.lt_size e) I.ok.above) (by rw[r];exact Nat.lt_irrefl _)
 ·exact hb r
theorem V6 {g:Array GenState}{d:Drawn}{t:Nat}{C a:Addr}{B h1 h':Heap}{a0:Value}{dct:Option Addr}(I:Inv X pins σ H s) (hex:X.ex=[]) (hfr:∀b∈X.fs,b∈frs X.stack) (u:Un (frs X.stack) [] H H' s.heap h1)
  (kb:∀b o,s.heap.get? b=some o->b∉frs X.stack->(∃o',B.get? b=some o')/\(H b=none->B.get? b=some o)) (kt:∀b u,H' b=some u->∃o,B.get? b=some o)
  (hok:HOk X.prog X.w H' h1) (k1:B.StaysIn h1) (hfun:h1.FunFrames B X.stack) (up:h1.UpToSlots h') (fl:FlX B X.outer a (.ref C) a0 dct h') (hg:AllBare g) :
  Fly X.prog X.w X.outer X.H₀ X.s₀ C H' a { s with heap:=h',gens:=g,drawn:=d,toks:=t } B a0 dct where
 os:=I.os
 bare:=hg
 un:={
  keep:=λb o q n hb hx=>by
   have hx':b∉X.ex:=by rw[hex];exact hx
   exact fl.1 b o ((kb b o (I.base.keep b o q n hb hx') (I.notfr q hb)).2 (I.base.free b o q n hx'))
  slot:=λb o q n hb hx=>by
   have hx':b∉X.ex:=by rw[hex];exact hx
   obtain⟨sl,e⟩:=I.base.slot b o q n hb hx'
   obtain⟨sl1,e1⟩:=u.slot b _ e (I.base.free b o q n hx') (hfr b hb) hx
   obtain⟨_,o',ho',hd⟩:=hfun.mem (hfr b hb)
   have z:=ho'.symm.trans e1
   cases z
   obtain⟨sl2,e2⟩:=up b _ e1 hd
   exact⟨sl2,e2⟩
  free:=λb o q n hx=>by
   have hx':b∉X.ex:=by rw[hex];exact hx
   obtain⟨o',e⟩:=I.base.there b o q hx'
   exact u.free b o' e (I.base.free b o q n hx') hx
  there:=λb o q hx=>by
   have hx':b∉X.ex:=by rw[hex];exact hx
   by_cases hb:b∈X.fs
   ·obtain⟨_,o',ho',_⟩:=fl.2.2.1.mem hb
    exact⟨o',ho'⟩
   ·obtain⟨o',e⟩:=I.base.there b o q hx'
    obtain⟨o2,e2⟩:=(kb b o' e (I.notfr q hb)).1
    exact⟨o2,fl.1 b o2 e2⟩
  tups:=λb xs q=>u.tups b xs (I.base.tups b xs q)
  frzs:=λb o xs q=>u.frzs b o xs (I.base.frzs b o xs q)
  tbls:=λb ps q=>by
   obtain⟨m1,e1⟩:=I.base.tbls b ps q
   obtain⟨m2,e2⟩:=u.tbls b _ e1
   exact⟨m1++m2,by rw[e2,Array.append_assoc]⟩ }
 hok:=Xa hok k1 fl.1 kt
 fly:=fl
 kb:=λb o q hb=>by
  have hx':b∉X.ex:=by rw[hex];exact List.not_mem_nil
  obtain⟨o',e⟩:=I.base.there b o q hx'
  have z:=kb b o' e (I.notfr q hb)
  exact⟨z.1,λn=>(kb b o (I.base.keep b o q n hb hx') (I.notfr q hb)).2 (I.base.free b o q n hx')⟩
 kt:=kt
end
abbrev XJ:=Addr->Option Addr->St->Hp->Prop
def ZA (X:Cx) (J:XJ):Prop:=∀(pins:List (Addr×Obj)) (σ:St) (H:Hp) (s:Shared) (a C:Addr) (H':Hp) (s':Shared) (B:Heap) (a0:Value) (dct:Option Addr),
 Inv X pins σ H s->Fly X.prog X.w X.stack H s C H' a s' B a0 dct->J C dct σ H'->X.xe (.ref a) s'
def Xq (X:Cx) (J:XJ):Prop:=∀(pins:List (Addr×Obj)) (σ:St) (H:Hp) (s:Shared) (h':Heap) (a C:Addr) (us:List Value),
 Inv X pins σ H s->Heap.MadeExcOf s.heap h' a (.ref C) us->J C none σ H->X.xe (.ref a) { s with heap:=h' }
def EJ (E:XK):XJ:=λC d _ H'=>E (.ref C) d H'
section
variable {P:Program}{w:World}{K:PySem.W.Frag}{mg:Str->Option Value}{base:Heap}{N:List Str}{qual:Str}{scope:Scope}{f:Addr}{cd:Value}{A:Around}{outer:List Env}{s:Shared}{H:Hp}{E:XK}
theorem xl:ZA (xX (CX1 P w) P w K mg base N qual scope f cd A outer s H E) (EJ E):=by
 intro pins σ H1 s1 a C H' s' B a0 dct I F q
 obtain⟨hh,g,d,t,os'⟩:=s'
 have e:os'=s1.os:=F.os
 subst e
 refine Jc (L:=s.heap.objs.size) I.ok.frames rfl F.fly λh' fl up=>?_
 refine⟨a,C,H',B,a0,dct,rfl,?_,q⟩
 have z:=V6 (g:=g) (d:=d) (t:=t) I rfl (λb hb=>List.mem_cons_of_mem _ hb) F.un F.kb F.kt F.hok F.fly.1 F.fly.2.2.1 up fl F.bare
 exact z
theorem xi:Xq (xX (CX1 P w) P w K mg base N qual scope f cd A outer s H E) (EJ E):=by
 intro pins σ H1 s1 h1 a C us I hx q
 have hin:∀b o,s1.heap.get? b=some o->b∉frs (xX (CX1 P w) P w K mg base N qual scope f cd A outer s H E).stack →
   (PySem.W.hideAll s1.heap (frs (xX (CX1 P w) P w K mg base N qual scope f cd A outer s H E).stack)).get? b=some o:=λb o e n=>PySem.W.hideAll_get _ e n
 have hst:(PySem.W.hideAll s1.heap (frs (xX (CX1 P w) P w K mg base N qual scope f cd A outer s H E).stack)).StaysIn s1.heap:=λb o q=>PySem.W.of_hideAll _ q
 have hff:s1.heap.FunFrames (PySem.W.hideAll s1.heap (frs (xX (CX1 P w) P w K mg base N qual scope f cd A outer s H E).stack)) (xX (CX1 P w) P w K mg base N qual scope f cd A outer s H E).stack :=
  PySem.W.funFrames_hide I.stack λenv he b hb=>List.mem_filterMap.mpr ⟨env,he,hb⟩
 refine Qb (L:=s.heap.objs.size) (h:=s1.heap) (s:={ s1 with heap:=h1 }) I.ok.frames rfl hst hff hx λh' t fl up=>?_
 have z:=V6 (g:=s1.gens) (d:=s1.drawn) (t:=s1.toks) (h1:=h1) I rfl (λb hb=>List.mem_cons_of_mem _ hb) (Un.kept hx.keeps) (λb o e n=>⟨⟨o,hin b o e n⟩,λ_=>hin b o e n⟩)
  (λb u e=>by
   obtain⟨o,ho⟩:=(I.hok b u e).obj
   exact⟨o,hin b o ho λz=>by rw[I.stkFree b z]at e;cases e⟩) (I.hok.kept hx.keeps) (λb o e=>hx.keeps b o (hst b o e)) (hff.of_keeps λb o e _=>⟨o,hx.keeps b o e,rfl⟩) up fl I.bare
 exact⟨a,C,H1,_,_,_,rfl,z,q⟩
end
def J9 (sp:Sp) (dvs:List V) (J:XJ) (t:TA):TE:=λσ H Q=>t σ H λvs H1=>sp (vs++dvs) H1 Q λc d H'=>∃C,c = .ref C/\J C d σ H'
structure qU (P:Program) (w:World) (K:PySem.W.Frag) (mg:Str->Option Value) (base:Heap) (x:Str) (k:Nat) (ps:List Str) (dvs:List V) (sp:Sp):Prop where
 ex:∃f fd ds,jJ P w K mg base (CX1 P w) k f fd ps sp/\mg x=some (.ref f)/\PySem.W.keepIn K (.ref f)=true/\jE K fd ps ds/\zP dvs ds
section
variable {X:Cx}{k:Nat}{f:Addr}{fd:FuncData}{ps:List Str}{sp:Sp}{dvs:List V}{ds:List Value}{J:XJ}{x:Str}{p pos:Pos}{e:Expr}{es:List Expr}{t:TA}
theorem za7 {pins:List (Addr×Obj)}{σ:St}{H:Hp}{s:Shared}{Q:VK}{us:List Value}{vs:List V}(F:jJ X.prog X.w X.K X.mg X.base (CX1 X.prog X.w) k f fd ps sp) (hr:xa k X.A) (hb:jE X.K fd ps ds) (hd:zP dvs ds) (hx:ZA X J)
  (I:Inv X pins σ H s) (r:zP vs us) (h:sp (vs++dvs) H Q λc d H'=>∃C,c = .ref C/\J C d σ H'):wpAny (model X.prog X.w) X.A (call (.ref f) us) (EP X pins σ Q) X.xe s:=by
 have r2:zP (vs++dvs) (us++ds):=r.append hd
 have hl:(us++ds).length=ps.length:=by rw[<-r2.length];exact F.len _ _ _ _ h
 refine wpAny_call (codeAny_mono (F.run X.A X.stack s H ⟨us,[]⟩ (us++ds) (vs++dvs) Q _ hr I.env0 (hb s us I.kIn hl) r2 h) λr s' hq=>?_)
 cases r with
 | error e =>
  obtain⟨a,C,H',B,a0,dct,rfl,F,C',hC,q⟩:=hq
  cases hC
  exact hx pins σ H s a C H' s' B a0 dct I F q
 | ok fl =>
  cases fl with
  | ret u=>exact I.after hq
  | next=>exact False.elim hq
  | brk=>exact False.elim hq
  | cont=>exact False.elim hq
theorem qV (c:qU X.prog X.w X.K X.mg X.base x k ps dvs sp) (hr:xa k X.A) (hx:ZA X J) (ha:PA X (e::es) t) (hg:Gl X x:=by rfl) (hdb:(x == ("__debug__":Str))=false:=by decide)
  (he:starEach (e::es) X.env=(false,eval e X.env)::starEach es X.env:=by rfl) (hpl:(backTo pos (starEach es X.env)).any (·.1)=false:=by rfl) :
  PE X (.Call (.Name x p) (e::es) [] pos) (J9 sp dvs J t):=by
 obtain⟨f,fd,ds,F,hm,hk,hb,hd⟩:=c.ex
 intro pins s σ H Q I h
 refine wpAny_Call_Name_kw (jd I hg hm ?_ hdb)
 refine PySem.W.callWith_K (h₀:=X.base) I.ok.mod.kin hk (thn (ha pos pins s σ H _ I h) λus s1 ⟨vs,H1,I1,r,q⟩=>⟨I1.kIn,?_⟩) he hpl
 exact za7 F hr hb hd hx I1 r q
end
section
variable {P:Program}{w:World}{K:PySem.W.Frag}{mg:Str->Option Value}{base:Heap}
theorem Df.cal1 {x:Str}{st:Stmt}{N ps:List Str}{dvs:List V}{k:Nat}{sp:Sp}(D:Df K mg x st ps dvs) (S:zr N ps (zg st)) (len:∀vs H Q E,sp vs H Q E->vs.length=ps.length)
  (hbody:∀(f:Addr) (cdv:Value) (A:Around) (outer:List Env) (s:Shared) (H:Hp) (vs:List V) (Q:VK) (E:XK),xa k (A.deeper (envOfC x (zg st) s.heap.objs.size f cdv))->sp vs H Q E →
   ∃t,PSs (xX (CX1 P w) P w K mg base N x (zg st) f cdv A outer s H E) (zm st) t/\t { nx:=λ_ H'=>Q .non H',rt:=Q } (vz N vs) H):qU P w K mg base x (k+1) ps dvs sp:=by
 obtain⟨f,oc,od,dV,kV,doc,pm,an,cdv,ct,osl,ds,lk,hcd,hk,hm,hv,hb⟩:=D.ex
 exact⟨⟨f,_,ds,V7 lk hcd S len λA outer s H vs Q E hr hsp=>hbody f cdv A outer s H vs Q E hr hsp,hm,hk,hb,hv⟩⟩
end
end L2
set_option Elab.async false
set_option linter.all false
set_option maxRecDepth 100000
namespace L2
open PySem PySem.Spec PyProof.Rows
def zc6 (C:Addr) (J:XJ) (t:TA):TS:=λ_ σ H=>t σ H λvs H1=>vs.length<=sizeLine/\J C none σ H1
section
variable {X:Cx}{J:XJ}{x:Str}{C:Addr}{bmB bmN:List Value}{newId Bn inN B nid initId:String}{np cpos pos:Pos}{e:Expr}{es:List Expr}{t:TA}
theorem qA (O:OwnCls x C bmB newId X.mg X.base) (Fn:ExcBaseFacts Bn newId inN bmN) (hBn:bmB.contains (.type Bn)=true) (FB:ExcBaseFacts B nid initId bmB) (hh:X.A.handled=none) (hJ:Xq X J) (ha:PA X (e::es) t)
  (hg:Gl X x:=by rfl) (hd:(x == ("__debug__":Str))=false:=by decide)
  (he:starEach (e::es) X.env=(false,eval e X.env)::starEach es X.env:=by rfl) (hpl:(backTo cpos (starEach (e::es) X.env)).any (·.1)=false:=by rfl) :
  PS X (.Raise (some (.Call (.Name x np) (e::es) [] cpos)) none pos) (zc6 C J t):=by
 intro pins s σ H D I h
 obtain⟨tl,N,nm,q,bs,hdct,sn,sub,ab,col,dd,k0,k1,k2,k3,k5,mN,hC,hN,hni,T⟩:=O.obj
 refine wpAny_Raise_call_subU (C:=C) (N:=N) (bm:=tl) (nm:=nm) (q:=q) (bs:=bs) (hdct:=hdct) (sn:=sn) (sub:=sub) (ab:=ab) (col:=col) (dd:=dd) (k0:=k0) (k1:=k1) (k2:=k2) (k3:=k3) (k5:=k5) Fn hBn FB (mN:=mN) (T.hasType FB.hasBase) hh hpl hni (jd I hg O.bound ⟨rfl,?_⟩ hd)
 have hw:=ha cpos pins s σ H _ I h
 rw[he]at hw ⊢
 exact Calls.evalArgs_plain (wpAny_mono hw (λvs s2 ⟨ws,H1,I1,r,z,q⟩=>⟨rfl,by rw[<-r.length];exact z,I1.bk _ _ hC,hN.keeps I1.bk,T.keeps I1.bk,λh' e hm=>hJ pins σ H1 s2 h' e C vs I1 hm q⟩) λ_ _ y=>y)
end
abbrev Cx.tried (X:Cx) (pins:List (Addr×Obj)) (W:Value->Shared->Prop):Cx:={ X with pn:=X.pn++pins,xe:=W }
abbrev Cx.suite (X:Cx) (pins:List (Addr×Obj)) (a:Addr) (oe:Obj):Cx:={ X with A:=X.A.mark (some (.ref a)),calm:=false,pn:=X.pn++(pins++[(a,oe)]),xe:=λ_ _=>False }
abbrev Cx.testing (X:Cx) (a:Addr):Cx:={ X with A:=X.A.mark (some (.ref a)),calm:=false }
section
variable {X:Cx}{pins:List (Addr×Obj)}{σ:St}{H:Hp}{s:Shared}
theorem Inv.tried (I:Inv X pins σ H s) (W:Value->Shared->Prop):Inv (X.tried pins W) [] σ H s :=
 ⟨⟨I.ok.mod,I.ok.kind,I.ok.glob,I.ok.blt,I.ok.above,I.ok.inj,I.ok.has,I.ok.cab,I.ok.hd,I.ok.frames,I.ok.stk,I.ok.exf,I.ok.bs,I.ok.bsz,I.ok.noex,I.ok.exfs,I.ok.funs,I.ok.frf⟩,
  I.os,I.bare,I.base,I.loc,I.cell,I.free,I.freeC,λp hp=>I.pin p (by rw[List.append_nil]at hp;exact hp),I.hok,I.len⟩
theorem Inv.untried {pins':List (Addr×Obj)}{W:Value->Shared->Prop}(ok:X.Ok) (I:Inv (X.tried pins W) pins' σ H s):Inv X pins σ H s :=
 ⟨ok,I.os,I.bare,I.base,I.loc,I.cell,I.free,I.freeC,λp hp=>I.pin p (List.mem_append_left _ hp),I.hok,I.len⟩
theorem Inv.test (I:Inv X pins σ H s) (a:Addr):Inv (X.testing a) pins σ H s :=
 ⟨⟨I.ok.mod,I.ok.kind,I.ok.glob,I.ok.blt,I.ok.above,I.ok.inj,I.ok.has,I.ok.cab,(λh=>nomatch h),I.ok.frames,I.ok.stk,I.ok.exf,I.ok.bs,I.ok.bsz,I.ok.noex,I.ok.exfs,I.ok.funs,I.ok.frf⟩,
  I.os,I.bare,I.base,I.loc,I.cell,I.free,I.freeC,I.pin,I.hok,I.len⟩
theorem Inv.suite {a:Addr}{oe:Obj}{vs:Array Value}(I:Inv X pins σ H s) (e:s.heap.get? a=some oe) (hd:oe.data = .fields vs) (hn:H a=none):Inv (X.suite pins a oe) [] σ H s :=
 ⟨⟨I.ok.mod,I.ok.kind,I.ok.glob,I.ok.blt,I.ok.above,I.ok.inj,I.ok.has,I.ok.cab,(λh=>nomatch h),I.ok.frames,I.ok.stk,I.ok.exf,I.ok.bs,I.ok.bsz,I.ok.noex,I.ok.exfs,I.ok.funs,I.ok.frf⟩,
  I.os,I.bare,I.base,I.loc,I.cell,I.free,I.freeC,(λp hp=>by
   rw[List.append_nil]at hp
   have hp':p∈X.pn++pins\/p∈[(a,oe)]:=by
    rcases List.mem_append.mp hp with z | z
    ·exact .inl (List.mem_append_left _ z)
    ·rcases List.mem_append.mp z with z | z
     ·exact .inl (List.mem_append_right _ z)
     ·exact .inr z
   rcases hp' with z | z
   ·exact I.pin p z
   ·obtain rfl:p=(a,oe):=by simpa using z
    refine⟨e,hn,λq=>?_,λq=>?_,λv q=>?_⟩
    ·obtain⟨m,⟨o,es,ep,ho,hd',_⟩,_⟩:=I.loc
     rw[<-show a=X.env.locals from q,e]at ho
     cases ho
     rw[hd]at hd';cases hd'
    ·obtain⟨_,o,ho,hnf⟩:=I.funs.mem q
     rw[show s.heap.get? a=some oe from e]at ho
     cases ho
     exact hnf vs hd
    ·have q':oe.data = .cell v:=q
     rw[hd]at q';cases q'),I.hok,I.len⟩
theorem Inv.unsuite {a:Addr}{oe:Obj}(ok:X.Ok) (I:Inv (X.suite pins a oe) [] σ H s):Inv X pins σ H s :=
 ⟨ok,I.os,I.bare,I.base,I.loc,I.cell,I.free,I.freeC,λp hp=>I.pin p (by
  rw[List.append_nil]
  rcases List.mem_append.mp hp with z | z
  ·exact List.mem_append_left _ z
  ·exact List.mem_append_right _ (List.mem_append_left _ z)),I.hok,I.len⟩
end
end L2
set_option Elab.async false
set_option linter.all false
set_option maxRecDepth 100000
namespace L2
open PySem PySem.Spec PyProof.Rows PySem.W
end L2
set_option Elab.async false
set_option linter.all false
set_option maxRecDepth 100000
namespace L2
open PySem PySem.Spec PyProof.Rows
def vS (σ:St) (js:List Nat):St:=js.map λj=>(σ[j]?).getD none
inductive jp (X:Cx) (scope:Scope) (cl:List (Str×Addr)):List Str->List Nat->Prop
 | nil:jp X scope cl [] []
 | cons {x:Str}{j:Nat}{r:List Str}{js:List Nat}:X.N[j]? = some x->X.env.kindOf x=some .cell->(relabel scope X.env).names.lookup x=some .cell->(∃c,cl.lookup x=some c)->jp X scope cl r js->jp X scope cl (x::r) (j::js)
section
variable {X:Cx}{scope:Scope}{cl:List (Str×Addr)}
theorem jp.length:∀{r:List Str}{js:List Nat},jp X scope cl r js->r.length=js.length
 | _,_,.nil=>rfl
 | _,_,.cons _ _ _ _ t=>by rw[List.length_cons,List.length_cons,jp.length t]
theorem jp.get:∀{r:List Str}{js:List Nat}{k:Nat}{x:Str},jp X scope cl r js->r[k]? = some x->∃j,js[k]? = some j/\X.N[j]? = some x/\X.env.kindOf x=some .cell/\(relabel scope X.env).names.lookup x=some .cell/\∃c,cl.lookup x=some c
 | _,_,_,_,.nil,e=>by simp at e
 | _,_,0,_,.cons h1 h2 h3 h4 _,e=>by
  simp at e;subst e
  exact⟨_,rfl,h1,h2,h3,h4⟩
 | _,_,k+1,x,.cons _ _ _ _ t,e=>by
  obtain⟨j,r⟩:=jp.get (k:=k) t (by simpa using e)
  exact⟨j,by simpa using r⟩
theorem jp.has {r:List Str}{js:List Nat}(h:jp X scope cl r js){x:Str}(hx:x∈r):∃c,cl.lookup x=some c:=by
 obtain⟨k,hk⟩:=List.getElem?_of_mem hx
 obtain⟨_,_,_,_,_,z⟩:=h.get hk
 exact z
end
def xv (X:Cx) (NB FR:List Str) (scope:Scope) (cl:List (Str×Addr)) (s3:Shared) (H3:Hp) (fp:List Addr):Cx :=
 { X with N:=NB++FR,s₀:=s3,H₀:=H3,env:=compEnvC scope cl s3.heap.objs.size X.env,outer:=X.stack,stack:=X.stack,ex:=fp,fn:=λ_=>false,pn:=[],xe:=λ_ _=>False }
def zab (n:Nat) (js:List Nat) (wi:TI) (g:TG) (tt:TT) (te:TE):TE:=λσ H Q=>wi σ H λJ H1=>∀D,H1 D=none->∃W:Nat->Nat->Hp->List V->Prop,(∃m,W 0 m (upd H1 D (.lst [])) []) ∧
 ∀i m H2 ys,W i m H2 ys->H2 D=some (.lst ys)->(J.stop i H2/\Q (.ref D) H2) ∨
  (J.go i H2/\∀zs x H3,zs.length=n->J.yld i H2 x H3->g x (zs++vS σ js) H3 λσ4 H4=>σ4.drop n=vS σ js/\tt σ4 H4 λb H5 =>
   if b=true then te σ4 H5 (λv H6=>H6 D=some (.lst ys)/\ys.length<sizeLine/\∃m',m'<m/\W (i+1) m' (upd H6 D (.lst (ys++[v]))) (ys++[v]))
   else H5 D=some (.lst ys)/\∃m',m'<m/\W (i+1) m' H5 ys)
theorem XL {scope:Scope}{env:Env}{FR:List Str}{x:Str}(h:(relabel scope env).names.all (λy=>!(y.2 == .cell || y.2 == .free) || FR.contains y.1)=true)
  (e:(relabel scope env).names.lookup x=some .cell\/(relabel scope env).names.lookup x=some .free):x∈FR:=by
 have key:∀k:NameKind,(k == .cell || k == .free)=true->(x,k)∈(relabel scope env).names->x∈FR:=λk hk hm=>by
  have z:=List.all_eq_true.mp h _ hm
  simp only[hk,Bool.not_true,Bool.false_or,List.contains_iff_mem]at z
  exact z
 rcases e with e | e
 ·exact key .cell rfl (PySem.mem_of_lookup e)
 ·exact key .free rfl (PySem.mem_of_lookup e)
theorem Vb {X:Cx}{elt tg iter:Expr}{ifs:List Expr}{scope:Scope}{cl:List (Str×Addr)}{pos:Pos}{NB FR:List Str}{js:List Nat}{wi:TI}{g:TG}{tt:TT}{te:TE}{Q:VK}{RR:Value->Addr->Result->Shared->Prop}
  {pins:List (Addr×Obj)}{s:Shared}{σ:St}{H:Hp}(hc:X.calm=true) (hcl:∀x c,cl.lookup x=some c->X.env.cells.lookup x=some c) (hcap:jp X scope cl FR js)
  (hnm:(relabel scope X.env).names.all (λy=>!(y.2 == .cell || y.2 == .free) || FR.contains y.1)=true) (hcell:∀x∈scope.names,x.2≠.cell) (hkind:scope.kind = .function)
  (hi:PI X tg iter wi) (hb:∀s3 H3 fp,PG (xv X NB FR scope cl s3 H3 fp) tg g/\PTs (xv X NB FR scope cl s3 H3 fp) ifs tt/\PE (xv X NB FR scope cl s3 H3 fp) elt te)
  (I:Inv X pins σ H s) (h:zab NB.length js wi g tt te σ H Q)
  (hRR:∀D C H' s',Inv X pins σ H' s'->jq X pins H' C->(∃m,s'.heap.Ns C m)->Q (.ref D) H'->RR (.ref D) C (.ok .next) s') :
  wpAny (model X.prog X.w) X.A (eval iter X.env) (λv s1=>wpAny (model X.prog X.w) X.A (pyIter v) (λit s2=>wpAny (model X.prog X.w) X.A (newList []) (λacc s3 =>
   wpAny (model X.prog X.w) X.A (newFunctionEnv scope X.env.globals cl [] X.env.qual none .none (some X.env)) (λcenv s4 =>
    codeAny (model X.prog X.w) X.A (.compStart (.ListComp elt [⟨tg,iter,ifs,0⟩] scope pos) 0 it acc { cenv with scope:=relabel scope X.env }) (RR acc cenv.locals) s4) X.xe s3) X.xe s2) X.xe s1) X.xe s:=by
 refine thn (hi pins s σ H _ I h) λv s1 h1=>thn h1 λitv s2 h2=>?_
 obtain⟨it,fp,tn,J,H2,e,I2,T,st2,f2,q2⟩:=h2
 subst e
 have hf2:H2 s2.heap.objs.size=none:=I2.hok.fresh (Nat.le_refl _)
 obtain⟨W,⟨m0,w0⟩,turn⟩:=q2 _ hf2
 refine wpAny_newObj_type (hd:=by size_fits) ?_
 have I3:Inv X pins σ (upd H2 s2.heap.objs.size (.lst [])) { s2 with heap:=s2.heap.push { cls:=.type "list",dict:=none,data:=.seq ([]:List Value).toArray } } :=
  I2.laid (t':=s2.toks) (λb u e=>Heap.get?_push_of_some _ e) (Nat.le_refl _) ⟨by decide,[],0,.nil,Heap.get?_push_size _ rfl⟩
 generalize hD:s2.heap.objs.size=D at *
 generalize hs3:({ s2 with heap:=s2.heap.push { cls:=.type "list",dict:=none,data:=.seq ([]:List Value).toArray } }:Shared)=s3 at *
 generalize hH3:upd H2 D (.lst [])=H3 at *
 have h3D:H3 D=some (.lst []):=by rw[<-hH3];exact zj
 have fpD:∀b∈fp,b≠D:=λb hb=>by
  obtain⟨o,e,_⟩:=T.obj _ _ st2 b hb
  rw[<-hD];exact Nat.ne_of_lt (Heap.lt_size e)
 have k23:∀b u,s2.heap.get? b=some u->s3.heap.get? b=some u:=λb u e=>by rw[<-hs3];exact Heap.get?_push_of_some _ e
 have st3:tn 0 s3.heap:=T.keep _ _ _ st2 λb _ o e=>k23 b o e
 have f3:∀b∈fp,jq X pins H3 b:=λb hb=>⟨by rw[<-hH3,zM (fpD b hb)];exact(f2 b hb).1,(f2 b hb).2⟩
 refine wpAny_newFunctionEnv hcell (by intro y hy;simp at hy) (λh4 hns4 hsb4=>?_) hkind
 have k34:∀b u,s3.heap.get? b=some u->h4.get? b=some u:=λb u e=>hsb4.extBut b u (Nat.ne_of_lt (Heap.lt_size e)) (Heap.get?_push_of_some _ e)
 have okB:(xv X NB FR scope cl s3 H3 fp).Ok:=by
  refine⟨I3.ok.mod,hkind,I3.ok.glob,I3.ok.blt,Nat.le_refl _,λx y c e1 e2=>I3.ok.inj x y c (hcl _ _ e1) (hcl _ _ e2),λx e=>hcap.has (XL hnm e),(λx c e=>nomatch e),I3.ok.hd,I3.ok.frames,.inl rfl,λb hb=>⟨?_,λx c e=>?_⟩,I3.bs,Nat.le_trans I3.ok.bsz I3.sz,λb o e hb=>?_,λb hb z=>?_,I3.stack,I3.stkFree⟩
  ·obtain⟨o,e,_⟩:=T.obj _ _ st3 b hb
   exact Nat.ne_of_lt (Heap.lt_size e)
  ·exact(f3 b hb).2.2.2.2.1 x c (hcl _ _ e)
  ·obtain⟨_,_,_,z,_⟩:=f3 b hb
   rcases z with z | z
   ·exact I3.ok.noex b o e z
   ·exact absurd (Nat.lt_of_lt_of_le (Heap.lt_size e) (Nat.le_trans I3.ok.bsz z)) (Nat.lt_irrefl _)
  ·obtain⟨_,z1,z2,_⟩:=f3 b hb
   rcases List.mem_cons.mp (I3.stkSub b z)with e | e
   ·exact z1 e
   ·exact z2 e
 have IB:Inv (xv X NB FR scope cl s3 H3 fp) [] (List.replicate NB.length none++vS σ js) H3 { s3 with heap:=h4,toks:=s3.toks+([]:List (Str×Value)).length }:=by
  refine⟨okB,rfl,I3.bare,Un.kept k34,⟨_,hns4,λi x v e1 e2 e3=>?_⟩,λx c e=>?_,I3.hok.fresh (Nat.le_refl _),λx c e=>I3.freeC x c (hcl _ _ e),λp hp=>?_,I3.hok.kept k34,?_⟩
  ·by_cases hi:i<NB.length
   ·rw[List.getElem?_append_left (by simpa using hi),List.getElem?_replicate,if_pos hi]at e2
    cases e2
   ·have e1':FR[i - NB.length]? = some x:=by
     have z:(NB++FR)[i]? = some x:=e1
     rw[List.getElem?_append_right (by omega)]at z;exact z
    rw[List.getElem?_append_right (by simp;omega),List.length_replicate]at e2
    obtain⟨j,hj,hN,hk,hb',c,hc'⟩:=hcap.get e1'
    have e2':σ[j]? = some (some v):=by
     unfold vS at e2
     rw[List.getElem?_map,hj]at e2
     simp only[Option.map_some,Option.some.injEq]at e2
     cases hσ:σ[j]? with
     | none=>rw[hσ]at e2;cases e2
     | some o=>rw[hσ]at e2;simp only[Option.getD_some]at e2;rw[e2]
    obtain⟨m,hn,hl⟩:=I3.loc
    obtain⟨u,ru,lu⟩:=hl j x v hN e2' (.inr (.inl hk))
    refine⟨u,ru,.inr ⟨.inl hb',c,hc',?_⟩⟩
    rcases lu with⟨z,_⟩ | ⟨_,c',z,q⟩
    ·rw[hk]at z;cases z
    ·rw[hcl _ _ hc']at z;cases z
     obtain⟨o,ho,hd⟩:=q
     exact⟨o,k34 _ _ ho,hd⟩
  ·obtain⟨v,o,ho,hd⟩:=I3.cell x c (hcl _ _ e)
   exact⟨v,o,k34 _ _ ho,hd⟩
  ·exact absurd (show p∈([]:List (Addr×Obj))from hp) (by simp)
  ·show _=(NB++FR).length
   rw[List.length_append,List.length_append,List.length_replicate,hcap.length]
   unfold vS;rw[List.length_map]
 have st4:tn 0 h4:=T.keep _ _ _ st3 λb _ o e=>k34 b o e
 have stat:∀{H':Hp},(∀b∈fp,H' b=none)->∀b∈fp,jq (xv X NB FR scope cl s3 H3 fp) [] H' b:=λhn b hb =>
  ⟨hn b hb,(okB.exf b hb).1,okB.exfs b hb,.inl hb,λx c e=>(f3 b hb).2.2.2.2.1 x c (hcl _ _ e),λp hp=>absurd (show p∈([]:List (Addr×Obj))from hp) (by simp)⟩
 obtain⟨hg,ht,he⟩:=hb s3 H3 fp
 have fin:∀{σ':St}{H':Hp}{s':Shared},Inv (xv X NB FR scope cl s3 H3 fp) [] σ' H' s'->Q (.ref D) H'->RR (.ref D) s3.heap.objs.size (.ok .next) s':=λ{σ' H' s'} J q=>by
  have hm:∃m,s'.heap.Ns s3.heap.objs.size m:=by
   obtain⟨m,hm,_⟩:=J.loc
   exact⟨m,hm⟩
  refine hRR D _ H' s' (I3.call' (ch:=fp) J.os J.base J.hok J.bare λb hb=>?_) (I3.fpOk (Nat.le_refl _) J.free) hm q
  obtain⟨_,z1,z2,z3,z4,z5⟩:=f3 b hb
  exact⟨z3,z1,z4,z5⟩
 have loop:∀s5:Shared,s5 = { s3 with heap:=h4,toks:=s3.toks+([]:List (Str×Value)).length } →
   codeAny (model X.prog X.w) X.A (.compLoop (.ListComp elt [⟨tg,iter,ifs,0⟩] scope pos) 0 (.ref it) (.ref D) (compEnvC scope cl s3.heap.objs.size X.env)) (RR (.ref D) s3.heap.objs.size) s5:=by
  rintro s5 rfl
  refine v9 (λn s'=>∃i zs H' ys,zs.length=NB.length/\Inv (xv X NB FR scope cl s3 H3 fp) [] (zs++vS σ js) H' s'/\tn i s'.heap/\(∀b∈fp,H' b=none)/\H' D=some (.lst ys)/\W i n H' ys) ?_ m0
   ⟨0,_,H3,[],List.length_replicate,IB,st4,λb hb=>(f3 b hb).1,h3D,by rw[<-hH3]at *;exact w0⟩
  rintro n s6 ⟨i,zs,H6,ys,hzs,I6,st6,fr6,hD6,w6⟩
  rcases turn i n H6 ys w6 hD6 with⟨stop,qn⟩ | ⟨go,step⟩
  ·refine thn (T.done (xv X NB FR scope cl s3 H3 fp) rfl rfl rfl hc i [] s6 _ H6 _ I6 (stat fr6) st6 stop) λr s7 ⟨hr,I7⟩=>?_
   subst hr
   exact fin I7 qn
  ·refine thn (T.item (xv X NB FR scope cl s3 H3 fp) rfl rfl rfl hc i [] s6 _ H6 _ I6 (stat fr6) st6 go) λr s7 ⟨u,hr,h7⟩=>?_
   subst hr
   refine thn h7 λ_ s8 ⟨x,H8,I8,r8,y8,st8,fr8⟩=>?_
   have I8':=I8.pinned (stat fr8) (T.obj _ _ st8)
   have again:∀{σ9:St}{H9:Hp}{s9:Shared}{ws:List V}{m':Nat},σ9.drop NB.length=vS σ js->Inv (xv X NB FR scope cl s3 H3 fp) ([]++v0 fp s8.heap) σ9 H9 s9->H9 D=some (.lst ws)->m'<n->W (i+1) m' H9 ws →
     ∃m,m<n/\∃i zs H' ys,zs.length=NB.length/\Inv (xv X NB FR scope cl s3 H3 fp) [] (zs++vS σ js) H' s9/\tn i s9.heap/\(∀b∈fp,H' b=none)/\H' D=some (.lst ys)/\W i m H' ys:=λ{σ9 H9 s9 ws m'} hdr I9 hz hm w9=>by
    have hl:σ9.length=(NB++FR).length:=I9.len
    rw[List.length_append]at hl
    refine⟨m',hm,i+1,σ9.take NB.length,H9,ws,by rw[List.length_take];omega,?_,T.keep _ _ _ st8 λb hb o e=>(I9.pin (b,o) (List.mem_append_right _ (List.mem_append_right _ (xG hb e)))).1,λb hb=>?_,hz,w9⟩
    ·rw[<-hdr,List.take_append_drop];exact I9.unpinned
    ·obtain⟨o,e,d⟩:=T.obj _ _ st8 b hb
     exact(I9.pin (b,o) (List.mem_append_right _ (List.mem_append_right _ (xG hb e)))).2.1
   refine thn (hg _ s8 _ H8 x u _ I8' r8 (step zs x H8 hzs y8)) λ_ s9 ⟨σ9,H9,I9,hdr,q9⟩=>?_
   refine thn (ht _ s9 σ9 H9 _ I9 q9) λok s10 ⟨H10,I10,q10⟩=>?_
   cases ok with
   | false =>
    rw[if_neg (by decide)]at q10 ⊢
    obtain⟨hz,m',hm,w'⟩:=q10
    exact again hdr I10 hz hm w'
   | true =>
    rw[if_pos rfl]at q10 ⊢
    refine thn (he _ s10 σ9 H10 _ I10 q10) λy s11 ⟨v,H11,I11,r11,hz,hlen,m',hm,w'⟩=>?_
    refine thn (qH _ s11 σ9 H11 (.ref D) [v] (.ref D) [y] (λ_ H12=>H12=upd H11 D (.lst (ys++[v]))) I11 rfl (.cons r11 .nil) ⟨D,ys,v,rfl,rfl,hz,hlen,rfl⟩) λ_ s12 ⟨_,H12,I12,_,e12⟩=>?_
    subst e12
    exact again hdr I12 zj hm w'
 exact codeAny_compStart_list (loop _ rfl) (T.self X.A 0 _ _ _ st4 (loop _ rfl))
section
variable {X:Cx}{elt tg iter:Expr}{ifs:List Expr}{scope:Scope}{cl:List (Str×Addr)}{pos spos py:Pos}{NB FR:List Str}{js:List Nat}{wi:TI}{g:TG}{tt:TT}{te:TE}
theorem Jv (hc:X.calm=true) (hclos:closureFor scope X.env=pure cl) (hcl:∀x c,cl.lookup x=some c->X.env.cells.lookup x=some c) (hcap:jp X scope cl FR js)
  (hnm:(relabel scope X.env).names.all (λy=>!(y.2 == .cell || y.2 == .free) || FR.contains y.1)=true) (hcell:∀x∈scope.names,x.2≠.cell) (hkind:scope.kind = .function) (hnames:∀x∈scope.names,x.2 = .local → scope.names.lookup x.1=some .local)
  (hi:PI X tg iter wi) (hb:∀s3 H3 fp,PG (xv X NB FR scope cl s3 H3 fp) tg g/\PTs (xv X NB FR scope cl s3 H3 fp) ifs tt/\PE (xv X NB FR scope cl s3 H3 fp) elt te)
  (hs:∀x,foldedSetIterable iter X.env x=pure x:=by intro _;rfl) :
  PE X (.ListComp elt [⟨tg,iter,ifs,0⟩] scope pos) (zab NB.length js wi g tt te):=by
 intro pins s σ H Q I h
 rw[eval_ListComp]
 refine wpAny_comprehension_free (use:=none) rfl hs hclos hkind hnames (Vb (RR:=λacc C=>compPost (model X.prog X.w) X.A X.xe none (EP X pins σ Q) acc C) hc hcl hcap hnm hcell hkind hi hb I h ?_)
 intro D C H' s' I' ⟨f0,f1,f2,f3,f4,f5⟩ ⟨m,hm⟩ q
 exact⟨m,hm,λh' sb=>⟨.ref D,H',I'.turned (t':=s'.toks) (λb o hb e=>(sb.2 b hb).trans e) f0 f1 f3 f4 f5,rfl,q⟩⟩
end
end L2
set_option Elab.async false
set_option linter.all false
set_option maxRecDepth 100000
namespace L2
open PySem PySem.Spec PyProof.Rows
section
variable {prog:Program}{w:World}{A:Around}{E:Value->Shared->Prop}{s:Shared}
theorem Xf {j t:Addr}{i:Nat}{vs:Array Value}{x:Value}{Q:Value->Shared->Prop}(kj:s.heap.IsTupleIter j t i) (kt:s.heap.IsTuple t vs) (kx:vs[i]? = some x)
  (q:∀h',h'.IsTupleIter j t (i+1)->Heap.SameBut j s.heap h'->Q x { s with heap:=h' }):wpAny (model prog w) A (Builtin.SmallTypes.nextOf (.ref j)) Q E s:=by
 obtain⟨oj,e1,e2,e3⟩:=id kj
 obtain⟨ot,f1,_,nt,f3⟩:=kt
 unfold Builtin.SmallTypes.nextOf
 refine wpAny_bind (wpAny_callSpecial?_slot (name:=Str.ofString "__next__") kj.typeIs F.slot_tuple_iterator_next (wpAny_call_entry F.slot_tuple_iterator_next kj.typeIs F.entry_tuple_iterator_next ?_ (F.args_tuple_iterator_next_1 _)))
 show wpAny _ _ (field (.ref j) 0 >>= _) _ _ s
 refine wpAny_bind (wpAny_field e1 e3 (x:=.ref t) rfl ?_)
 show wpAny _ _ (if(Value.ref t == .none)=true then _ else _) _ _ s
 rw[if_neg (show ¬((Value.ref t == .none)=true)from Bool.false_ne_true)]
 show wpAny _ _ (field (.ref j) 1 >>= _) _ _ s
 refine wpAny_bind (wpAny_field e1 e3 (x:=.int i 0) rfl (?_:wpAny _ _ (seqItems? (.ref t) >>= _) _ _ s))
 refine wpAny_bind (wpAny_seqItems f1 f3 ?_)
 simp only[Int.toNat_natCast,kx]
 refine wpAny_bind (wpAny_setField e1 e3 (by simp) (wpAny_pure ⟨x,rfl,wpAny_pure (q _ ⟨_,Heap.get?_update_self _ e1 (Obj.isFreed_of_fields (Obj.data_mapFields e3 _)),(Obj.cls_mapFields ..).trans e2,?_⟩ (Heap.SameBut.update ..))⟩))
 rw[Obj.data_mapFields e3];simp[rawInt]
theorem Jh {j t:Addr}{i:Nat}{vs:Array Value}{Q:Value->Shared->Prop}(hh:A.handled=none) (kj:s.heap.IsTupleIter j t i) (kt:s.heap.IsTuple t vs) (kx:vs[i]? = none)
  (q:∀h' e,Heap.ExtBut j s.heap h'->(∃o,h'.get? e=some o/\o.cls = .type "StopIteration")->E (.ref e) { s with heap:=h' }):wpAny (model prog w) A (Builtin.SmallTypes.nextOf (.ref j)) Q E s:=by
 obtain⟨oj,e1,e2,e3⟩:=id kj
 obtain⟨ot,f1,_,nt,f3⟩:=kt
 unfold Builtin.SmallTypes.nextOf
 refine wpAny_bind (wpAny_callSpecial?_slot (name:=Str.ofString "__next__") kj.typeIs F.slot_tuple_iterator_next (wpAny_call_entry F.slot_tuple_iterator_next kj.typeIs F.entry_tuple_iterator_next ?_ (F.args_tuple_iterator_next_1 _)))
 show wpAny _ _ (field (.ref j) 0 >>= _) _ _ s
 refine wpAny_bind (wpAny_field e1 e3 (x:=.ref t) rfl ?_)
 show wpAny _ _ (if(Value.ref t == .none)=true then _ else _) _ _ s
 rw[if_neg (show ¬((Value.ref t == .none)=true)from Bool.false_ne_true)]
 show wpAny _ _ (field (.ref j) 1 >>= _) _ _ s
 refine wpAny_bind (wpAny_field e1 e3 (x:=.int i 0) rfl (?_:wpAny _ _ (seqItems? (.ref t) >>= _) _ _ s))
 refine wpAny_bind (wpAny_seqItems f1 f3 ?_)
 simp only[Int.toNat_natCast,kx]
 refine wpAny_bind (wpAny_rule (wpAny_bind (wpAny_setField e1 e3 (by simp) (?_:wpAny _ _ (newExc (.type "StopIteration") [] >>= _) _ _ _))))
 refine wpAny_bind ?_
 simp only[newExc,newTuple]
 refine wpAny_bind (wpAny_newObj_type (wpAny_bind (m:=firstArgMember _ _) (wpAny_of_eq (a:=Value.none) (by first | rfl | (simp only[firstArgMember];rfl)) (wpAny_newObj_type ?_ (by size_fits)))) (by size_fits))
 simp only[raiseNew]
 refine wpAny_bind (wpAny_handled (?_))
 first | rw[show A.in1.handled=none from hh] | rw[hh]
 exact wpAny_bind (wpAny_pure (wpAny_throw (q _ _ (((Heap.SameBut.update ..).extBut.push _).push _) ⟨_,Heap.get?_push_size _ rfl,rfl⟩)))
structure ZT (z TI TO j1 j2 t1 t2:Addr) (f0:Value) (i1 i2:Nat) (h:Heap):Prop where
 z:IsZip h z TI TO f0
 ti:IsPair h TI (.ref j1) (.ref j2)
 to:∃a b,IsPair h TO a b
 i1:h.IsTupleIter j1 t1 i1
 i2:h.IsTupleIter j2 t2 i2
structure ZNe (z TI TO j1 j2:Addr):Prop where
 a:TI≠z
 b:TO≠z
 c:j1≠z
 d:j2≠z
 e:TI≠TO
 f:TI≠j1
 g:TI≠j2
 k:TO≠j1
 l:TO≠j2
 m:j1≠j2
section
variable {z TI TO j1 j2 t1 t2:Addr}{i:Nat}{xs ys:Array Value}
theorem vJ {h:Heap}{f0:Value}{vs:Array Value}{t:Addr}(ht:h.IsTuple t vs) (hz:IsZip h z TI TO f0):t≠z:=λe=>by
 obtain⟨o,e1,e2,_⟩:=ht
 rw[e,hz]at e1;cases e1;simp at e2
theorem XX {h:Heap}{vs:Array Value}{t j u:Addr}{n:Nat}(ht:h.IsTuple t vs) (hj:h.IsTupleIter j u n):t≠j:=λe=>by
 obtain⟨o,e1,e2,_⟩:=ht
 obtain⟨o',f1,f2,_⟩:=hj
 rw[e,f1]at e1;cases e1;rw[f2]at e2;simp at e2
theorem zbz {x y:Value}{Q:Option Value->Shared->Prop}(D:ZNe z TI TO j1 j2) (Z:ZT z TI TO j1 j2 t1 t2 .none i i s.heap) (k1:s.heap.IsTuple t1 xs) (k2:s.heap.IsTuple t2 ys) (n1:t1≠TO) (n2:t2≠TO) (ex:xs[i]? = some x) (ey:ys[i]? = some y)
  (q:∀h',ZT z TI TO j1 j2 t1 t2 (rawInt s.heap.objs.size) (i+1) (i+1) h'->IsPair h' s.heap.objs.size x y->h'.objs.size=s.heap.objs.size+1 →
   (∀c o,c≠z->c≠TO->c≠j1->c≠j2->s.heap.get? c=some o->h'.get? c=some o)->Q (some (.ref s.heap.objs.size)) { s with heap:=h' }):wpAny (model prog w) A (pyNext (.ref z)) Q E s:=by
 obtain⟨Zz,Zi,⟨a,b,Zo⟩,Z1,Z2⟩:=Z
 have ty:s.TypeIs (.ref z) "zip":=⟨_,Zz,rfl⟩
 unfold pyNext
 refine wpAny_bind (wpAny_attempt (wpAny_callSpecial?_slot (name:=Str.ofString "__next__") ty F.slot_zip_next (wpAny_call_entry F.slot_zip_next ty F.entry_zip_next ?_ (F.args_zip_next_1 _))))
 show wpAny _ _ (field (.ref z) 2 >>= _) _ _ s
 refine wpAny_bind (wpAny_field Zz rfl (x:=.bool false) rfl (?_:wpAny _ _ (field (.ref z) 3 >>= _) _ _ s))
 refine wpAny_bind (wpAny_field Zz rfl (x:=.ref TI) rfl (wpAny_bind (wpAny_seqItems Zi rfl (?_:wpAny _ _ (Builtin.SmallTypes.ownedTupleIsFree (.ref z) >>= _) _ _ s))))
 refine wpAny_bind ?_;unfold Builtin.SmallTypes.ownedTupleIsFree
 refine wpAny_bind (wpAny_field Zz rfl (x:=.none) rfl (wpAny_pure ?_))
 simp only[if_true]
 refine wpAny_bind (wpAny_rule (wpAny_bind (wpAny_field Zz rfl (x:=.ref TO) rfl (wpAny_bind (wpAny_setField_rec Zz (by simp) λg1 Zz1 m1=>?_)))))
 replace Zz1:IsZip g1 z TI TO .ellipsis:=Zz1
 refine wpAny_bind ?_;simp only[List.zipIdx_cons,List.zipIdx_nil,List.forIn_cons,List.forIn_nil]
 refine wpAny_bind (wpAny_bind (wpAny_onRaise (?_:wpAny _ _ (Builtin.SmallTypes.nextOf (.ref j1) >>= _) _ _ _)))
 refine wpAny_bind (Xf (Z1.extBut m1.extBut D.c) (k1.extBut m1.extBut (vJ k1 Zz)) ex λg2 Z12 m2=>wpAny_pure ?_)
 have Zo2:IsPair g2 TO a b:=m2.extBut _ _ D.k (m1.extBut _ _ D.b Zo)
 refine wpAny_bind (wpAny_seqItems Zo2 rfl (wpAny_bind (wpAny_updateSeq_pair Zo2 λg3 Zo3 m3=>wpAny_bind (wpAny_letGo (wpAny_pure ?_)))))
 replace Zo3:IsPair g3 TO x b:=Zo3
 refine wpAny_bind (wpAny_bind (wpAny_onRaise (?_:wpAny _ _ (Builtin.SmallTypes.nextOf (.ref j2) >>= _) _ _ _)))
 refine wpAny_bind (Xf (((Z2.extBut m1.extBut D.d).extBut m2.extBut D.m.symm).extBut m3.extBut D.l.symm) (((k2.extBut m1.extBut (vJ k2 Zz)).extBut m2.extBut (XX k2 Z1)).extBut m3.extBut n2) ey λg4 Z24 m4=>wpAny_pure ?_)
 have Zo4:IsPair g4 TO x b:=m4.extBut _ _ D.l Zo3
 refine wpAny_bind (wpAny_seqItems Zo4 rfl (wpAny_bind (wpAny_updateSeq_pair Zo4 λg5 Zo5 m5=>wpAny_bind (wpAny_letGo (wpAny_pure (wpAny_pure ?_))))))
 replace Zo5:IsPair g5 TO x y:=Zo5
 refine wpAny_bind (wpAny_seqItems Zo5 rfl (wpAny_bind (wpAny_newTuple ?_)))
 have sz:g5.objs.size=s.heap.objs.size:=by rw[m5.1,m4.1,m3.1,m2.1,m1.1]
 have Zz5:IsZip g5 z TI TO .ellipsis:=m5.extBut _ _ D.b.symm (m4.extBut _ _ D.d.symm (m3.extBut _ _ D.b.symm (m2.extBut _ _ D.c.symm Zz1)))
 have kp:∀c o,c≠z->c≠TO->c≠j1->c≠j2->s.heap.get? c=some o->g5.get? c=some o:=λc o c1 c2 c3 c4 e=>m5.extBut _ _ c2 (m4.extBut _ _ c4 (m3.extBut _ _ c2 (m2.extBut _ _ c3 (m1.extBut _ _ c1 e))))
 have Z15:g5.IsTupleIter j1 t1 (i+1):=((Z12.extBut m3.extBut D.k.symm).extBut m4.extBut D.m).extBut m5.extBut D.k.symm
 have Z25:g5.IsTupleIter j2 t2 (i+1):=Z24.extBut m5.extBut D.l.symm
 have zlt:g5.objs.size≠z:=Nat.ne_of_gt (Heap.lt_size Zz5)
 show wpAny _ _ (Builtin.SmallTypes.ownedTupleHandOut (.ref z) (.ref g5.objs.size) >>= _) _ _ _
 refine wpAny_bind ?_;unfold Builtin.SmallTypes.ownedTupleHandOut
 refine wpAny_bind (wpAny_setField_rec (Heap.get?_push_of_some _ Zz5) (by simp) λg7 Zz7 m7=>?_)
 replace Zz7:IsZip g7 z TI TO (rawInt g5.objs.size):=Zz7
 refine wpAny_setField_rec Zz7 (by simp) λg8 Zz8 m8=>?_
 replace Zz8:IsZip g8 z TI TO (rawInt g5.objs.size):=Zz8
 have up:∀c o,c≠z->g5.get? c=some o->g8.get? c=some o:=λc o c1 e=>m8.extBut _ _ c1 (m7.extBut _ _ c1 (Heap.get?_push_of_some _ e))
 have T8:IsPair g8 g5.objs.size x y:=m8.extBut _ _ zlt (m7.extBut _ _ zlt (Heap.get?_push_size _ rfl))
 have s8:g8.objs.size=g5.objs.size+1:=by rw[m8.1,m7.1,Heap.size_push]
 refine wpAny_pure ⟨_,rfl,wpAny_pure ?_⟩
 rw[sz]at Zz8 T8 s8
 show Q (some (.ref g5.objs.size)) _
 rw[sz]
 exact q g8 ⟨Zz8,up _ _ D.a (kp _ _ D.a D.e D.f D.g Zi),⟨_,_,up _ _ D.b Zo5⟩,Z15.at λo e=>up _ o D.c e,Z25.at λo e=>up _ o D.d e⟩ T8 s8 λc o c1 c2 c3 c4 e=>up c o c1 (kp c o c1 c2 c3 c4 e)
theorem zdc {Q:Option Value->Shared->Prop}(hh:A.handled=none) (D:ZNe z TI TO j1 j2) (Z:ZT z TI TO j1 j2 t1 t2 .none i i s.heap) (k1:s.heap.IsTuple t1 xs) (k2:s.heap.IsTuple t2 ys) (n2:t2≠TO) (en:xs[i]? = none\/ys[i]? = none)
  (q:∀h',(∀c o,c≠z->c≠TO->c≠j1->c≠j2->s.heap.get? c=some o->h'.get? c=some o)->Q none { s with heap:=h' }):wpAny (model prog w) A (pyNext (.ref z)) Q E s:=by
 obtain⟨Zz,Zi,⟨a,b,Zo⟩,Z1,Z2⟩:=Z
 have ty:s.TypeIs (.ref z) "zip":=⟨_,Zz,rfl⟩
 have fin:∀(g':Heap) (e:Addr),(∀c o,c≠z->c≠TO->c≠j1->c≠j2->s.heap.get? c=some o->g'.get? c=some o)->(∃o,g'.get? e=some o/\o.cls = .type "StopIteration") →
   wpAny (model prog w) A (do if <-isInstance (.ref e) (.type "StopIteration")then pure none else throw (.ref e):Sem (Option Value)) Q E { s with heap:=g' }:=λg' e kk ⟨o,ho,hc⟩ =>
  wpAny_bind (wpAny_isInstance (T:="StopIteration") (b:=true) ⟨o,ho,hc⟩ isSubtype_stop (wpAny_pure (q g' kk)))
 unfold pyNext
 refine wpAny_bind (wpAny_attempt (wpAny_callSpecial?_slot (name:=Str.ofString "__next__") ty F.slot_zip_next (wpAny_call_entry F.slot_zip_next ty F.entry_zip_next ?_ (F.args_zip_next_1 _))))
 show wpAny _ _ (field (.ref z) 2 >>= _) _ _ s
 refine wpAny_bind (wpAny_field Zz rfl (x:=.bool false) rfl (?_:wpAny _ _ (field (.ref z) 3 >>= _) _ _ s))
 refine wpAny_bind (wpAny_field Zz rfl (x:=.ref TI) rfl (wpAny_bind (wpAny_seqItems Zi rfl (?_:wpAny _ _ (Builtin.SmallTypes.ownedTupleIsFree (.ref z) >>= _) _ _ s))))
 refine wpAny_bind ?_;unfold Builtin.SmallTypes.ownedTupleIsFree
 refine wpAny_bind (wpAny_field Zz rfl (x:=.none) rfl (wpAny_pure ?_))
 simp only[if_true]
 refine wpAny_bind (wpAny_rule (wpAny_bind (wpAny_field Zz rfl (x:=.ref TO) rfl (wpAny_bind (wpAny_setField_rec Zz (by simp) λg1 Zz1 m1=>?_)))))
 replace Zz1:IsZip g1 z TI TO .ellipsis:=Zz1
 refine wpAny_bind ?_;simp only[List.zipIdx_cons,List.zipIdx_nil,List.forIn_cons,List.forIn_nil]
 refine wpAny_bind (wpAny_bind (wpAny_onRaise (?_:wpAny _ _ (Builtin.SmallTypes.nextOf (.ref j1) >>= _) _ _ _)))
 cases ex:xs[i]? with
 | none =>
  refine wpAny_bind (Jh hh (Z1.extBut m1.extBut D.c) (k1.extBut m1.extBut (vJ k1 Zz)) ex λg2 e m2 ⟨oe,e1,e2⟩=>?_)
  have Zz2:IsZip g2 z TI TO .ellipsis:=m2 _ _ D.c.symm Zz1
  have ne:e≠z:=λr=>by subst r;rw[Zz2]at e1;cases e1;simp at e2
  exact wpAny_setField_rec Zz2 (by simp) λg3 _ m3=>fin g3 e (λc o c1 _ c3 _ r=>m3.extBut _ _ c1 (m2 _ _ c3 (m1.extBut _ _ c1 r))) ⟨oe,m3.extBut _ _ ne e1,e2⟩
 | some x =>
  have ey:ys[i]? = none:=by
   rcases en with r | r
   ·rw[ex]at r;cases r
   ·exact r
  refine wpAny_bind (Xf (Z1.extBut m1.extBut D.c) (k1.extBut m1.extBut (vJ k1 Zz)) ex λg2 Z12 m2=>wpAny_pure ?_)
  have Zo2:IsPair g2 TO a b:=m2.extBut _ _ D.k (m1.extBut _ _ D.b Zo)
  refine wpAny_bind (wpAny_seqItems Zo2 rfl (wpAny_bind (wpAny_updateSeq_pair Zo2 λg3 Zo3 m3=>wpAny_bind (wpAny_letGo (wpAny_pure ?_)))))
  refine wpAny_bind (wpAny_bind (wpAny_onRaise (?_:wpAny _ _ (Builtin.SmallTypes.nextOf (.ref j2) >>= _) _ _ _)))
  refine wpAny_bind (Jh hh (((Z2.extBut m1.extBut D.d).extBut m2.extBut D.m.symm).extBut m3.extBut D.l.symm) (((k2.extBut m1.extBut (vJ k2 Zz)).extBut m2.extBut (XX k2 Z1)).extBut m3.extBut n2) ey λg4 e m4 ⟨oe,e1,e2⟩=>?_)
  have Zz4:IsZip g4 z TI TO .ellipsis:=m4 _ _ D.d.symm (m3.extBut _ _ D.b.symm (m2.extBut _ _ D.c.symm Zz1))
  have ne:e≠z:=λr=>by subst r;rw[Zz4]at e1;cases e1;simp at e2
  exact wpAny_setField_rec Zz4 (by simp) λg5 _ m5=>fin g5 e (λc o c1 c2 c3 c4 r=>m5.extBut _ _ c1 (m4 _ _ c4 (m3.extBut _ _ c2 (m2.extBut _ _ c3 (m1.extBut _ _ c1 r))))) ⟨oe,m5.extBut _ _ ne e1,e2⟩
end
end
def Itz (K:PySem.W.Frag) (t1 t2:Addr):It :=
 ⟨λi H=>∃xs ys x y,SqT K H t1 xs/\SqT K H t2 ys/\xs[i]? = some x/\ys[i]? = some y,
  λi H v H'=>∃T x y,v = .ref T/\H T=none/\H'=upd H T (.tup [x,y])/\(∀xs,SqT K H t1 xs->xs[i]? = some x)/\∀ys,SqT K H t2 ys->ys[i]? = some y,
  λi H=>∃xs ys,SqT K H t1 xs/\SqT K H t2 ys/\(xs.length<=i\/ys.length<=i)⟩
theorem zah {P:Program}{w:World}{K:PySem.W.Frag}{elts:List Expr}{kc:Nat}{tp:Pos}(z TI TO j1 j2 t1 t2:Addr) (D:ZNe z TI TO j1 j2) (n1:t1≠TO) (n2:t2≠TO) :
  Q6 P w K (.Tuple elts kc tp) (Itz K t1 t2) [z,TI,TO,j1,j2] z (λi h=>ZT z TI TO j1 j2 t1 t2 .none i i h) where
 mem:=by simp
 obj:=λi h st b hb=>by
  obtain⟨Zz,Zi,⟨u,v,Zo⟩,⟨o1,e1,_,d1⟩,⟨o2,e2,_,d2⟩⟩:=st
  simp only[List.mem_cons,List.not_mem_nil,or_false]at hb
  rcases hb with rfl | rfl | rfl | rfl | rfl
  ·exact⟨_,Zz,λ_ r=>by cases r⟩
  ·exact⟨_,Zi,λ_ r=>by cases r⟩
  ·exact⟨_,Zo,λ_ r=>by cases r⟩
  ·exact⟨_,e1,λ_ r=>by rw[d1]at r;cases r⟩
  ·exact⟨_,e2,λ_ r=>by rw[d2]at r;cases r⟩
 keep:=λi h h' st k=>by
  obtain⟨Zz,Zi,⟨u,v,Zo⟩,Z1,Z2⟩:=st
  exact⟨k z (by simp) _ Zz,k TI (by simp) _ Zi,⟨u,v,k TO (by simp) _ Zo⟩,Z1.at λo e=>k j1 (by simp) o e,Z2.at λo e=>k j2 (by simp) o e⟩
 item:=by
  intro X hP hw hK hc i pins s σ H E I hf st hg
  subst hP hw hK
  obtain⟨xs,ys,x,y,h1,h2,ex,ey⟩:=hg
  obtain⟨us,r1,p1,_⟩:=I.tuple h1
  obtain⟨vs,r2,p2,_⟩:=I.tuple h2
  obtain⟨ux,eu,rx⟩:=r1.get ex
  obtain⟨uy,ev,ry⟩:=r2.get ey
  refine zbz D st (xs:=us.toArray) (ys:=vs.toArray) p1 p2 n1 n2 (x:=ux) (y:=uy) (by simpa using eu) (by simpa using ev) λh' st' pr sz kk=>⟨_,rfl,?_⟩
  obtain⟨Zz,Zi,⟨ua,ub,Zo⟩,Z1,Z2⟩:=st'
  refine wpAny_letOwnedTupleGo_zip Zz λh2' Zz' sb=>?_
  have hTz:s.heap.objs.size≠z:=Nat.ne_of_gt (Heap.lt_size st.z)
  have kk2:∀c o,c≠z->c≠TO->c≠j1->c≠j2->s.heap.get? c=some o->h2'.get? c=some o:=λc o c1 c2 c3 c4 e=>(sb.2 c c1).trans (kk c o c1 c2 c3 c4 e)
  have prT:h2'.get? s.heap.objs.size=some { cls:=.type "tuple",data:=.seq #[ux,uy] }:=(sb.2 _ hTz).trans pr
  have hT:H s.heap.objs.size=none:=I.hok.fresh (Nat.le_refl _)
  have neC:∀b,b∉[z,TO,j1,j2]->b≠z/\b≠TO/\b≠j1/\b≠j2:=λb hb=>by simpa using hb
  have trk:∀b u,H b=some u->b≠z/\b≠TO/\b≠j1/\b≠j2:=λb u e=>by
   refine⟨?_,?_,?_,?_⟩ <;> rintro rfl
   ·rw[(hf b (by simp)).1]at e;cases e
   ·rw[(hf b (by simp)).1]at e;cases e
   ·rw[(hf b (by simp)).1]at e;cases e
   ·rw[(hf b (by simp)).1]at e;cases e
  have ltT:∀b o,s.heap.get? b=some o->b≠s.heap.objs.size:=λb o e=>Nat.ne_of_lt (Heap.lt_size e)
  have u:Un (frs X.stack) [z,TO,j1,j2] H (upd H s.heap.objs.size (.tup [x,y])) s.heap h2' :=
   ⟨λb o e n _ hb=>by obtain⟨c1,c2,c3,c4⟩:=neC b hb;exact kk2 b o c1 c2 c3 c4 e,λb o e n _ hb=>by obtain⟨c1,c2,c3,c4⟩:=neC b hb;exact⟨o.slots,kk2 b o c1 c2 c3 c4 e⟩,
    λb o e n hb=>by rw[zM (ltT b o e)];exact n,λb o e hb=>by obtain⟨c1,c2,c3,c4⟩:=neC b hb;exact⟨o,kk2 b o c1 c2 c3 c4 e⟩,
    λb ws e=>by rw[zM (zK e hT)];exact e,λb o ws e=>by rw[zM (zK e hT)];exact e,λb ps e=>⟨#[],by rw[zM (zK e hT),e];simp⟩⟩
  have hok:HOk X.prog X.w (upd H s.heap.objs.size (.tup [x,y])) h2':=λb ob e=>by
   by_cases hb:b=s.heap.objs.size
   ·subst hb
    rw[zj]at e;cases e
    exact⟨by show 2<=sizeLine;decide,[ux,uy],.cons rx (.cons ry .nil),_,prT,rfl,0,rfl⟩
   ·rw[zM hb]at e
    refine(I.hok b ob e).stay (λc v hc' qc=>?_) (λc q=>by rw[zM (zK q hT)];exact q) λc ws q=>by rw[zM (zK q hT)];exact q
    have:∃o,H c=some o:=by
     rcases hc' with rfl | hc'
     ·exact⟨_,e⟩
     ·exact⟨_,hc'⟩
    obtain⟨o,ho⟩:=this
    obtain⟨c1,c2,c3,c4⟩:=trk c o ho
    exact kk2 c v c1 c2 c3 c4 qc
  refine⟨.ref s.heap.objs.size,upd H s.heap.objs.size (.tup [x,y]),?_,rfl,⟨_,x,y,rfl,hT,rfl,λxs' h=>by rw[I.tuple_inj h h1];exact ex,λys' h=>by rw[I.tuple_inj h h2];exact ey⟩,
   ⟨Zz',(sb.2 _ D.a).trans Zi,⟨_,_,(sb.2 _ D.b).trans Zo⟩,Z1.at λo e=>(sb.2 _ D.c).trans e,Z2.at λo e=>(sb.2 _ D.d).trans e⟩,λb hb=>?_⟩
  ·refine I.call' (s':={ s with heap:=h2' }) (ch:=[z,TO,j1,j2]) rfl u hok I.bare λb hb=>?_
   obtain⟨_,z1,z2,z3,z4,z5⟩:=hf b (by simp only[List.mem_cons,List.not_mem_nil,or_false]at hb ⊢;rcases hb with r | r | r | r <;> simp[r])
   exact⟨z3,z1,z4,z5⟩
  ·obtain⟨o,e,_⟩:∃o,s.heap.get? b=some o/\True:=by
    obtain⟨Zz,Zi,⟨u,v,Zo⟩,⟨o1,e1,_,d1⟩,⟨o2,e2,_,d2⟩⟩:=st
    simp only[List.mem_cons,List.not_mem_nil,or_false]at hb
    rcases hb with rfl | rfl | rfl | rfl | rfl
    ·exact⟨_,Zz,trivial⟩
    ·exact⟨_,Zi,trivial⟩
    ·exact⟨_,Zo,trivial⟩
    ·exact⟨_,e1,trivial⟩
    ·exact⟨_,e2,trivial⟩
   rw[zM (ltT b o e)];exact(hf b hb).1
 done:=by
  intro X hP hw hK hc i pins s σ H E I hf st hg
  subst hP hw hK
  obtain⟨xs,ys,h1,h2,en⟩:=hg
  obtain⟨us,r1,p1,_⟩:=I.tuple h1
  obtain⟨vs,r2,p2,_⟩:=I.tuple h2
  have l1:=r1.length
  have l2:=r2.length
  refine zdc (I.ok.hd hc) D st (xs:=us.toArray) (ys:=vs.toArray) p1 p2 n2 (by rcases en with r | r;exact .inl (by simp;omega);exact .inr (by simp;omega)) λh' kk=>⟨rfl,?_⟩
  have neC:∀b,b∉[z,TO,j1,j2]->b≠z/\b≠TO/\b≠j1/\b≠j2:=λb hb=>by simpa using hb
  have u:Un (frs X.stack) [z,TO,j1,j2] H H s.heap h' :=
   ⟨λb o e n _ hb=>by obtain⟨c1,c2,c3,c4⟩:=neC b hb;exact kk b o c1 c2 c3 c4 e,λb o e n _ hb=>by obtain⟨c1,c2,c3,c4⟩:=neC b hb;exact⟨o.slots,kk b o c1 c2 c3 c4 e⟩,
    λb o e n hb=>n,λb o e hb=>by obtain⟨c1,c2,c3,c4⟩:=neC b hb;exact⟨o,kk b o c1 c2 c3 c4 e⟩,λb ws e=>e,λb o ws e=>e,λb ps e=>⟨#[],by rw[e];simp⟩⟩
  have hok:HOk X.prog X.w H h':=λb ob e=>by
   refine(I.hok b ob e).stay (λc v hc' qc=>?_) (λc q=>q) λc ws q=>q
   have:∃o,H c=some o:=by
    rcases hc' with rfl | hc'
    ·exact⟨_,e⟩
    ·exact⟨_,hc'⟩
   obtain⟨o,ho⟩:=this
   have nn:∀d∈[z,TI,TO,j1,j2],c≠d:=λd hd r=>by subst r;rw[(hf c hd).1]at ho;cases ho
   exact kk c v (nn _ (by simp)) (nn _ (by simp)) (nn _ (by simp)) (nn _ (by simp)) qc
  refine I.call' (s':={ s with heap:=h' }) (ch:=[z,TO,j1,j2]) rfl u hok I.bare λb hb=>?_
  obtain⟨_,z1,z2,z3,z4,z5⟩:=hf b (by simp only[List.mem_cons,List.not_mem_nil,or_false]at hb ⊢;rcases hb with r | r | r | r <;> simp[r])
  exact⟨z3,z1,z4,z5⟩
 self:=λ_ _ _ _ _ st h=>wpAny_pyIter_zip st.z h
def zp1 (h:Heap) (t:Addr):Heap:=h.push { cls:=.type "tuple_iterator",data:=.fields #[.ref t,.int 0 0] }
theorem XY (h:Heap) (t:Addr):(zp1 h t).objs.size=h.objs.size+1:=Heap.size_push ..
def zp5 (h:Heap) (t u:Addr):Heap:=(((zp1 (zp1 h t) u).push { cls:=.type "tuple",data:=.seq #[.ref h.objs.size,.ref (zp1 h t).objs.size] }).push { cls:=.type "tuple",data:=.seq #[.none,.none] }).push
 { cls:=.type "zip",data:=.fields #[.none,.bool false,.bool false,.ref (h.objs.size+2),.ref (h.objs.size+3)] }
theorem zbx (t u:Addr) (xs ys:Array Value):Meets (Builtin.«zip.__new__» ⟨[.type "zip",.ref t,.ref u],[]⟩) (λ_ R s=>s.heap.IsTuple t xs/\s.heap.IsTuple u ys/\R (.ok (.ret (.ref (s.heap.objs.size+4)))) { s with heap:=zp5 s.heap t u }) :=
 .of_wp λprog w A R s h=>by
  obtain⟨hp,g,d,tk,os⟩:=s;obtain⟨k1,k2,h⟩:=h
  have hs:=sub_zip
  have z1:(hp.push { cls:=.type "tuple_iterator",data:=.fields #[.ref t,.int 0 0] }).objs.size=hp.objs.size+1:=Heap.size_push ..
  have K1:Heap.IsTuple (Shared.heap ⟨hp,g,d,tk,os⟩) t xs:=k1
  have K2:Heap.IsTuple (Shared.heap ⟨hp.push { cls:=.type "tuple_iterator",data:=.fields #[.ref t,.int 0 0] },g,d,tk,os⟩) u ys:=k2.push _
  wp_walk using wpAny_pyIter_tuple K1,wpAny_pyIter_tuple K2
  refine⟨_,rfl,?_⟩
  unfold zp5 zp1 at h
  simp only[Heap.size_push]at h ⊢
  exact h
end L2
set_option Elab.async false
set_option linter.all false
set_option maxRecDepth 100000
namespace L2
open PySem PySem.Spec PyProof.Rows
section
variable {X:Cx}
def zdn (K:PySem.W.Frag) (t:TA):TI:=λσ H R=>t σ H λvs H1=>∃t1 t2,vs=[.ref t1,.ref t2]/\(∃xs,SqT K H1 t1 xs)/\(∃ys,SqT K H1 t2 ys)/\R (Itz K t1 t2) H1
theorem zby {h:Heap}{t u:Addr}:IsZip (zp5 h t u) (h.objs.size+4) (h.objs.size+2) (h.objs.size+3) .none/\IsPair (zp5 h t u) (h.objs.size+2) (.ref h.objs.size) (.ref (h.objs.size+1))/\IsPair (zp5 h t u) (h.objs.size+3) .none .none ∧
  (zp5 h t u).IsTupleIter h.objs.size t 0/\(zp5 h t u).IsTupleIter (h.objs.size+1) u 0/\∀c o,h.get? c=some o->(zp5 h t u).get? c=some o:=by
 have z1:=XY h t
 have z2:(zp1 (zp1 h t) u).objs.size=h.objs.size+2:=by rw[XY,z1]
 have z3:((zp1 (zp1 h t) u).push { cls:=.type "tuple",data:=.seq #[.ref h.objs.size,.ref (zp1 h t).objs.size] }).objs.size=h.objs.size+3:=by rw[Heap.size_push,z2]
 have z4:(((zp1 (zp1 h t) u).push { cls:=.type "tuple",data:=.seq #[.ref h.objs.size,.ref (zp1 h t).objs.size] }).push { cls:=.type "tuple",data:=.seq #[.none,.none] }).objs.size=h.objs.size+4:=by rw[Heap.size_push,z3]
 unfold zp5
 refine⟨?_,?_,?_,?_,?_,λc o e=>?_⟩
 ·rw[<-z4];exact Heap.get?_push_size _ rfl
 ·refine Heap.get?_push_of_some _ (Heap.get?_push_of_some _ ?_)
  rw[<-z2,<-z1];exact Heap.get?_push_size _ rfl
 ·refine Heap.get?_push_of_some _ ?_
  rw[<-z3];exact Heap.get?_push_size _ rfl
 ·exact⟨_,Heap.get?_push_of_some _ (Heap.get?_push_of_some _ (Heap.get?_push_of_some _ (Heap.get?_push_of_some _ (Heap.get?_push_size _ rfl)))),rfl,rfl⟩
 ·refine⟨{ cls:=.type "tuple_iterator",data:=.fields #[.ref u,.int 0 0] },Heap.get?_push_of_some _ (Heap.get?_push_of_some _ (Heap.get?_push_of_some _ ?_)),rfl,rfl⟩
  rw[<-z1];exact Heap.get?_push_size _ rfl
 ·exact Heap.get?_push_of_some _ (Heap.get?_push_of_some _ (Heap.get?_push_of_some _ (Heap.get?_push_of_some _ (Heap.get?_push_of_some _ e))))
theorem nne {a b:Nat}(h:a<b):a≠b:=Nat.ne_of_lt h
theorem zcL {a b:Expr}{ta:TA}{p pos tp:Pos}{elts:List Expr}{kc:Nat}(hg:Gl X "zip") (hm:X.mg "zip" = none) (ha:PA X [a,b] ta) (hs:starEach [a,b] X.env=[(false,eval a X.env),(false,eval b X.env)]:=by rfl) (hs2:starEach [b] X.env=[(false,eval b X.env)]:=by rfl) :
  PI X (.Tuple elts kc tp) (.Call (.Name "zip" p) [a,b] [] pos) (zdn X.K ta):=by
 intro pins s σ H R I h
 refine Call_ (Za I hg hm (by decide +kernel:bootBuiltins "zip" = some (.type "zip")) (PyProof.Rows.callWith_type1 (thn (ha pos pins s σ H _ I h) λus s1 ⟨vs,H1,I1,r1,q1⟩=>?_) (by rw[hs,hs2]) (by rw[hs2];rfl)))
 obtain⟨t1,t2,e,⟨xs,k1⟩,⟨ys,k2⟩,q⟩:=q1
 subst e
 obtain⟨u1,u2,rfl,ru1,ru2⟩:=Q5 r1
 cases(show u1=Value.ref t1 from ru1)
 cases(show u2=Value.ref t2 from ru2)
 obtain⟨as,ra,pa,_⟩:=I1.tuple k1
 obtain⟨bs,rb,pb,_⟩:=I1.tuple k2
 refine callType_new F.called_zip (by decide) (F.typeCall_zip_2 _ _) (F.newCall_zip_2 _ _) (λobj=>F.args_object_init_3 obj _ _) F.entry_zip_new (zbx t1 t2 as.toArray bs.toArray) ⟨pa,pb,?_⟩
 obtain⟨g1,g2,g3,g4,g5,g6⟩:=zby (h:=s1.heap) (t:=t1) (u:=t2)
 have l1:t1<s1.heap.objs.size:=by obtain⟨o,e,_⟩:=pa;exact Heap.lt_size e
 have l2:t2<s1.heap.objs.size:=by obtain⟨o,e,_⟩:=pb;exact Heap.lt_size e
 show _/\_
 refine⟨⟨_,g1,rfl⟩,wpAny_pyIter_zip g1 ⟨_,[s1.heap.objs.size+4,s1.heap.objs.size+2,s1.heap.objs.size+3,s1.heap.objs.size,s1.heap.objs.size+1],_,_,H1,rfl,I1.kept (t':=s1.toks) g6,
  zah (s1.heap.objs.size+4) (s1.heap.objs.size+2) (s1.heap.objs.size+3) s1.heap.objs.size (s1.heap.objs.size+1) t1 t2 ?_ ?_ ?_,⟨g1,g2,⟨_,_,g3⟩,g4,g5⟩,λb hb=>?_,q⟩⟩
 ·constructor <;> (intro z;simp only[Nat.add_right_inj,Nat.add_eq_left,Nat.left_eq_add]at z;try omega)
 ·exact nne (Nat.lt_of_lt_of_le l1 (Nat.le_add_right _ _))
 ·exact nne (Nat.lt_of_lt_of_le l2 (Nat.le_add_right _ _))
 ·have hb':s1.heap.objs.size<=b:=by
   simp only[List.mem_cons,List.not_mem_nil,or_false]at hb
   rcases hb with rfl | rfl | rfl | rfl | rfl
   ·exact Nat.le_add_right _ _
   ·exact Nat.le_add_right _ _
   ·exact Nat.le_add_right _ _
   ·exact Nat.le_refl _
   ·exact Nat.le_add_right _ _
  exact I1.fpOk hb' (I1.hok.fresh hb')
theorem Qs:∀{bs:List Bool}{us:List Value}{i:Nat}{v:Value},zP (bs.map V.bl) us->us[i]? = some v->∃b,bs[i]? = some b/\v = .bool b
 | [],_,_,_,r,e=>by cases r;simp at e
 | b::bs,_,i,v,r,e=>by
  cases r with
  | cons h t =>
   cases i with
   | zero=>simp at e;subst e;exact⟨b,rfl,h⟩
   | succ i=>obtain⟨c,e1,e2⟩:=Qs (i:=i) t (by simpa using e);exact⟨c,by simpa using e1,e2⟩
theorem ZB:∀(bs:List Bool) (k:Nat),((List.range' k bs.length).all λi=>(bs[i - k]?).getD true)=bs.all id
 | [],k=>rfl
 | b::bs,k=>by
  rw[List.length_cons,List.range'_succ,List.all_cons,List.all_cons]
  simp only[Nat.sub_self,List.getElem?_cons_zero,Option.getD_some,id]
  congr 1
  rw[<-ZB bs (k+1)]
  apply Bool.eq_iff_iff.mpr
  simp only[List.all_eq_true,List.mem_range'_1]
  constructor
  ·intro h i hi
   have:=h i hi
   rw[show i - k=(i - (k+1))+1 by omega,List.getElem?_cons_succ]at this;exact this
  ·intro h i hi
   rw[show i - k=(i - (k+1))+1 by omega,List.getElem?_cons_succ];exact h i hi
theorem j5 (hc:X.calm=true):ve X (.builtin "all") (λxs H Q=>∃(p:Addr) (bs:List Bool),xs=[.ref p]/\SqL X.K H p (bs.map V.bl)/\Q (.bl (bs.all id)) H):=by
 intro pins s σ H xs us Q I r h
 obtain⟨p,bs,rfl,hq,q⟩:=h
 obtain⟨u,rfl,ru⟩:=vo r
 cases ru
 obtain⟨its,rv,pl,_⟩:=I.list hq
 have hlt:p<s.heap.objs.size:=by obtain⟨o,n,e,_⟩:=pl;exact Heap.lt_size e
 have hl:=rv.length
 rw[List.length_map]at hl
 refine call_all_walk (wpAny_pyIter_list pl.isList ⟨s.heap.objs.size,_,_,_,_,_,λi=>(bs[i]?).getD true,rfl,Walks.list (A:=X.A.in1) (show X.A.in1.handled=none from I.ok.hd hc) s.heap.objs.size p (Nat.ne_of_lt hlt) its.toArray,
  ⟨⟨_,Heap.get?_push_size _ rfl,rfl,rfl⟩,pl.isList.push _⟩,λi v s' Q' E' hv hQ'=>?_,λh' tk k=>⟨.bl (bs.all id),H,I.kept λb o e=>k b o (by simpa using Nat.ne_of_lt (Heap.lt_size e)) (Heap.get?_push_of_some _ e),?_,q⟩⟩)
 ·obtain⟨b,e1,rfl⟩:=Qs rv (by simpa using hv)
  simp only[e1,Option.getD_some]at hQ'
  exact wpAny_pure hQ'
 ·have:=ZB bs 0
  simp only[Nat.sub_zero]at this
  rw[show its.toArray.size=bs.length by simp[hl],List.range_eq_range',this];rfl
end
end L2
set_option Elab.async false
set_option linter.all false
set_option maxRecDepth 100000
namespace HT
open PySem PyProof.Rows
section
variable {prog:Program}{w:World}{A:Around}{E:Value->Shared->Prop}{s:Shared}
theorem whole_cut {t sl:Addr}{items:Array Value}{vl vu:Value}{lo hi:Option Int}{Q:Value->Shared->Prop}(ht:IsTup s.heap t items) (hs:s.heap.IsSliceOf sl vl vu .none) (pl:IsPart vl lo) (pu:IsPart vu hi)
  (hw:sIx items.size 0 lo=0/\sIx items.size items.size hi=items.size) (h:Q (.ref t) s):wpAny (model prog w) A (getItem (.ref t) (.ref sl)) Q E s:=by
 obtain⟨os,hos,hcs,hds⟩:=id hs
 have hTs:s.TypeIs (.ref sl) "slice":=⟨os,hos,hcs⟩
 unfold getItem
 try with_reducible refine wpAny_holding ?_
 first | refine wpAny_bind (wpAny_pure ?_) | skip
 refine wpAny_bind (wpAny_sequenceKey ht.typeIs (by decide) ?_)
 refine wpAny_bind (wpAny_callSpecial?_slot (name:=Str.ofString "__getitem__") ht.typeIs PyProof.Rows.slot_tuple_getitem
  (wpAny_call_entry PyProof.Rows.slot_tuple_getitem ht.typeIs entry_tuple_getitem ?_ (args_tuple_getitem _ _)))
 show wpAny _ _ (Builtin.Tuple.tupleItemsOf (.ref t) >>= _) _ _ s
 refine wpAny_bind (tupleItemsOf_ ht ?_)
 refine wpAny_bind (wpAny_typeOf hTs ?_)
 rw[if_pos (by decide)]
 refine wpAny_bind (vm hs pl pu ?_)
 show wpAny _ _ (if(((sIx items.size 0 lo:Nat):Int) == 0&&(1:Int) == 1&&(sIx items.size items.size hi - sIx items.size 0 lo) == items.size)=true then _ else _) _ _ s
 rw[if_pos (by rw[hw.1,hw.2];simp)]
 refine wpAny_bind ?_
 unfold Builtin.Tuple.tupleIsExact
 refine wpAny_bind (wpAny_typeOf ht.typeIs (wpAny_pure ?_))
 rw[if_pos (by decide)]
 first
  | exact wpAny_bind (wpAny_rule (wpAny_pure ⟨_,rfl,wpAny_pure h⟩))
  | exact wpAny_bind (wpAny_rule (wpAny_bind (wpAny_pure (wpAny_pure ⟨_,rfl,wpAny_pure h⟩))))
  | exact wpAny_bind (wpAny_rule (wpAny_bind (wpAny_pure ⟨_,rfl,wpAny_pure h⟩)))
end
end HT
namespace L2
open PySem PySem.Spec PyProof.Rows
section
variable {X:Cx}
def rSlW (K:PySem.W.Frag):V->Option Int->Option Int->Hp->VK->Prop:=λx lo hi H Q=>∃a xs,x = .ref a/\SqT K H a xs/\(HT.sIx xs.length 0 lo=0/\HT.sIx xs.length xs.length hi=xs.length)/\Q x H
theorem J3:SlR X (rSlW X.K):=by
 intro pins s σ H x v vl vu lo hi sl Q I rx hs pl pu h
 obtain⟨a,xs,rfl,hx,hw,q⟩:=h
 cases rx
 obtain⟨its,r,ht,hz⟩:=I.tuple hx
 have hlen:its.toArray.size=xs.length:=by rw[List.size_toArray];exact r.length.symm
 exact⟨"tuple",_,PyProof.Rows.slot_tuple_getitem.lookup,ht.typeIs,HT.whole_cut ht hs pl pu (by rw[hlen];exact hw) ⟨.ref a,H,I,rfl,q⟩⟩
end
end L2
set_option Elab.async false
set_option linter.all false
set_option maxRecDepth 100000
namespace L2
open PySem PySem.Spec PyProof.Rows
section
variable {J:It}{D:Addr}{N n:Nat}{js:List Nat}{σ:St}{g:TG}{tt:TT}{te:TE}{Q:VK}{H:Hp}
theorem Z8 (Pv:Nat->Hp->List V->Prop) (h0:Pv 0 (upd H D (.lst [])) []) (hgo:∀i H ys,i<N->Pv i H ys->J.go i H) (hst:∀H ys,Pv N H ys->J.stop N H)
  (hs:∀i x zs H2 H3 ys (Nx:Hp->List V->Prop),(∀H ys,Pv (i+1) H ys->Nx H ys)->i<N->zs.length=n->J.yld i H2 x H3->Pv i H2 ys->H2 D=some (.lst ys)->g x zs H3 λσ4 H4=>tt σ4 H4 λb H5 =>
   if b=true then te σ4 H5 (λv H6=>H6 D=some (.lst ys)/\ys.length<sizeLine/\Nx (upd H6 D (.lst (ys++[v]))) (ys++[v]))else H5 D=some (.lst ys)/\Nx H5 ys)
  (hd:∀H ys,Pv N H ys->H D=some (.lst ys)->Q (.ref D) H) :
  ∃W:Nat->Nat->Hp->List V->Prop,(∃m,W 0 m (upd H D (.lst [])) [])/\∀i m H2 ys,W i m H2 ys->H2 D=some (.lst ys)->(J.stop i H2/\Q (.ref D) H2) ∨
   (J.go i H2/\∀σB x H3,σB.length=n->J.yld i H2 x H3->g x σB H3 λσ4 H4=>tt σ4 H4 λb H5=>if b=true then te σ4 H5 (λv H6=>H6 D=some (.lst ys)/\ys.length<sizeLine/\∃m',m'<m/\W (i+1) m' (upd H6 D (.lst (ys++[v]))) (ys++[v]))
    else H5 D=some (.lst ys)/\∃m',m'<m/\W (i+1) m' H5 ys):=by
 refine⟨λi m H ys=>m=N - i/\i<=N/\Pv i H ys,⟨N,by simp,Nat.zero_le _,h0⟩,?_⟩
 rintro i m H2 ys ⟨rfl,hi,p⟩ hD
 by_cases hlt:i<N
 ·exact .inr ⟨hgo i H2 ys hlt p,λσB x H3 hB y=>hs i x σB H2 H3 ys (λH' ys'=>∃m',m'<N - i/\(m'=N - (i+1)/\i+1<=N/\Pv (i+1) H' ys')) (λH' ys' z=>⟨N - (i+1),by omega,rfl,hlt,z⟩) hlt hB y p hD⟩
 ·obtain rfl:i=N:=by omega
  exact .inl ⟨hst H2 ys p,hd H2 ys p hD⟩
theorem VT (Pv:Nat->Hp->List V->Prop) (h0:Pv 0 (upd H D (.lst [])) []) (hgo:∀i H ys,i<N->Pv i H ys->J.go i H) (hst:∀H ys,Pv N H ys->J.stop N H)
  (hs:∀i x zs H2 H3 ys (Nx:Hp->List V->Prop),(∀H ys,Pv (i+1) H ys->Nx H ys)->i<N->zs.length=n->J.yld i H2 x H3->Pv i H2 ys->H2 D=some (.lst ys)->g x (zs++vS σ js) H3 λσ4 H4=>σ4.drop n=vS σ js/\tt σ4 H4 λb H5 =>
   if b=true then te σ4 H5 (λv H6=>H6 D=some (.lst ys)/\ys.length<sizeLine/\Nx (upd H6 D (.lst (ys++[v]))) (ys++[v]))else H5 D=some (.lst ys)/\Nx H5 ys)
  (hd:∀H ys,Pv N H ys->H D=some (.lst ys)->Q (.ref D) H) :
  ∃W:Nat->Nat->Hp->List V->Prop,(∃m,W 0 m (upd H D (.lst [])) [])/\∀i m H2 ys,W i m H2 ys->H2 D=some (.lst ys)->(J.stop i H2/\Q (.ref D) H2) ∨
   (J.go i H2/\∀zs x H3,zs.length=n->J.yld i H2 x H3->g x (zs++vS σ js) H3 λσ4 H4=>σ4.drop n=vS σ js/\tt σ4 H4 λb H5=>if b=true then te σ4 H5 (λv H6=>H6 D=some (.lst ys)/\ys.length<sizeLine/\∃m',m'<m/\W (i+1) m' (upd H6 D (.lst (ys++[v]))) (ys++[v]))
    else H5 D=some (.lst ys)/\∃m',m'<m/\W (i+1) m' H5 ys):=by
 refine⟨λi m H ys=>m=N - i/\i<=N/\Pv i H ys,⟨N,by simp,Nat.zero_le _,h0⟩,?_⟩
 rintro i m H2 ys ⟨rfl,hi,p⟩ hD
 by_cases hlt:i<N
 ·exact .inr ⟨hgo i H2 ys hlt p,λσB x H3 hB y=>hs i x σB H2 H3 ys (λH' ys'=>∃m',m'<N - i/\(m'=N - (i+1)/\i+1<=N/\Pv (i+1) H' ys')) (λH' ys' z=>⟨N - (i+1),by omega,rfl,hlt,z⟩) hlt hB y p hD⟩
 ·obtain rfl:i=N:=by omega
  exact .inl ⟨hst H2 ys p,hd H2 ys p hD⟩
end
theorem za8 {H H2 H3:Hp}{D:Addr}{o:HO}(hD:H D=none) (e:zl H H2) (e2:zl H2 H3):zl H (upd H3 D o):=λb u z=>by rw[zM (zK z hD)];exact e2 _ _ (e _ _ z)
end L2
set_option Elab.async false
set_option linter.all false
set_option maxRecDepth 100000
namespace L2
open PySem PySem.Spec PyProof.Rows
end L2
set_option Elab.async false
set_option linter.all false
set_option maxRecDepth 100000
namespace L2
open PySem PySem.Spec PyProof.Rows
end L2
set_option Elab.async false
set_option linter.all false
set_option maxRecDepth 100000
namespace L2
open PySem PySem.Spec PyProof.Rows
theorem szl {n:Nat}(h:n<=1000):n<=sizeLine:=Nat.le_of_lt (xQ h)
theorem qS {te:TE}{i:Nat}{u:TS}{D:vC}{σ:St}{H:Hp}(h:te σ H λv H1=>u D (σ.set i (some v)) H1):Xo (Qo te (zH i)) u D σ H:=h
theorem zbs {te:TE}{i:Nat}{D:vC}{σ:St}{H:Hp}(h:te σ H λv H1=>D.nx (σ.set i (some v)) H1):Qo te (zH i) D σ H:=h
theorem Zt {wi:TI}{g:TG}{tb:TS}{u:TS}{D:vC}{σ:St}{H:Hp}(h:zbt wi g tb { D with nx:=u D } σ H):Xo (zbt wi g tb) u D σ H:=h
theorem XV {c:TT}{tb:TS}{u:TS}{D:vC}{σ:St}{H:Hp}(h:Xp c tb { D with nx:=u D } σ H):Xo (Xp c tb) u D σ H:=h
end L2
set_option Elab.async false
set_option linter.all false
set_option maxRecDepth 100000
namespace L2
open PySem PySem.Spec PyProof.Rows
inductive Bx (p:Prop):Prop
 | mk (h:p):Bx p
section
variable {X:Cx}
theorem Z6 {i:Nat}{x:Str}{e:Expr}{te:TE}{pos pos':Pos}(hN:X.N.Nodup) (hi:X.N[i]? = some x) (hx:Loc X.env.scope x) (he:Bx (PE X e te)) (hs:swapsWith e (some (.Name x pos')) pos.line X.env=pure false:=by rfl)
  (hf:X.fn x=true\/X.env.scope.names.lookup x=some .local := by first | exact .inl rfl | exact .inr rfl | assumption):Bx (PS X (.Assign [.Name x pos'] e pos) (Qo te (zH i))):=by
 obtain⟨he⟩:=he;exact⟨zA hN hi hx he hs hf⟩
theorem qx {st:Stmt}{rest:List Stmt}{t u:TS}(h1:Bx (PS X st t)) (h2:Bx (PSs X rest u)):Bx (PSs X (st::rest) (Xo t u)):=by
 obtain⟨h1⟩:=h1;obtain⟨h2⟩:=h2;exact⟨zh h1 h2⟩
end
section
variable {P:Program}{w:World}{K:PySem.W.Frag}{mg:Str->Option Value}{base:Heap}
theorem Df.calB {x:Str}{st:Stmt}{N ps:List Str}{dvs:List V}{k:Nat}{sp:Sp}(D:Df K mg x st ps dvs) (S:zr N ps (zg st)) (len:∀vs H Q E,sp vs H Q E->vs.length=ps.length)
  (hbody:∀(f:Addr) (cdv:Value) (A:Around) (outer:List Env) (s:Shared) (H:Hp) (vs:List V) (Q:VK) (E:XK),xa k (A.deeper (envOfC x (zg st) s.heap.objs.size f cdv))->sp vs H Q E →
   ∃t,Bx (PSs (xX CX0 P w K mg base N x (zg st) f cdv A outer s H E).nox (zm st) t)/\t { nx:=λ_ H'=>Q .non H',rt:=Q } (vz N vs) H):Cal P w K mg base x (k+1) ps dvs sp :=
 D.cal S len λf cdv A outer s H vs Q E hr h=>by
  obtain⟨t,⟨p⟩,q⟩:=hbody f cdv A outer s H vs Q E hr h
  exact⟨t,p,q⟩
end
end L2
set_option Elab.async false
set_option linter.all false
set_option maxRecDepth 100000
namespace L2
open PySem PySem.Spec PyProof.Rows
abbrev zc9:List Value:=[.type "ValueError",.type "Exception",.type "BaseException",.type "object"]
end L2
set_option Elab.async false
set_option linter.all false
set_option maxRecDepth 100000
namespace L2
open PySem PySem.Spec PyProof.Rows PySem.W
end L2
set_option Elab.async false
set_option linter.all false
set_option maxRecDepth 100000
namespace L2
open PySem PySem.Spec PyProof.Rows
def xu (H H':Hp):Prop:=∀b xs,H b=some (.tup xs)->H' b=some (.tup xs)
theorem xu.of {H H':Hp}(h:zl H H'):xu H H':=λb xs e=>h b _ e
theorem xu.trans {H H1 H2:Hp}(a:xu H H1) (b:xu H1 H2):xu H H2:=λc xs e=>b c xs (a c xs e)
theorem xu.upd {H:Hp}{D:Addr}{ys:List V}{o:HO}(h:H D=some (.lst ys)):xu H (upd H D o):=λb xs e=>by rw[zM (λz=>by subst z;rw[h]at e;cases e)];exact e
structure VN (J:It) (H:Hp) (xs:List V):Prop where
 go:∀i H',i<xs.length->zl H H'->J.go i H'
 stop:∀H',zl H H'->J.stop xs.length H'
 yld:∀i x H2 H3,zl H H2->J.yld i H2 x H3->H3=H2/\xs[i]? = some x
theorem ZV {K:PySem.W.Frag}{H:Hp}{a:Addr}{xs:List V}(h:H a=some (.lst xs)):VN (Itl K a) H xs :=
 ⟨λi H' hi s=>⟨xs,xs[i],.of (s _ _ h),by simp[hi]⟩,λH' s=>⟨xs,.of (s _ _ h),Nat.le_refl _⟩,λi x H2 H3 s y=>⟨y.1,y.2 xs (.of (s _ _ h))⟩⟩
theorem XN {K:PySem.W.Frag}{H:Hp}{a:Addr}{xs:List V}(h:H a=some (.tup xs)):VN (Itt K a) H xs :=
 ⟨λi H' hi s=>⟨xs,xs[i],.of (s _ _ h),by simp[hi]⟩,λH' s=>⟨xs,.of (s _ _ h),Nat.le_refl _⟩,λi x H2 H3 s y=>⟨y.1,y.2 xs (.of (s _ _ h))⟩⟩
section
variable {J:It}{D:Addr}{n:Nat}{js:List Nat}{σ:St}{g:TG}{te:TE}{Z:Hp->Prop}{H:Hp}{xs:List V}
theorem vL (R:Nat->V->Hp->Prop) (hR:∀i v H H',xu H H'->R i v H->R i v H') (hD:H D=none) (hJ:VN J H xs) (hl:xs.length<sizeLine)
  (hs:∀i x zs H2 Q',xs[i]? = some x->zs.length=n->zl H H2->(∀v H6,zl H2 H6->R i v H6->Q' v H6)->g x zs H2 λσ4 H4=>te σ4 H4 Q')
  (k:∀ys H',zl H H'->H' D=some (.lst ys)->ys.length=xs.length->(∀i v,ys[i]? = some v->R i v H')->Z H') :
  ∃W:Nat->Nat->Hp->List V->Prop,(∃m,W 0 m (upd H D (.lst [])) [])/\∀i m H2 ys,W i m H2 ys->H2 D=some (.lst ys)->(J.stop i H2/\Z H2) ∨
   (J.go i H2/\∀σB x H3,σB.length=n->J.yld i H2 x H3->g x σB H3 λσ4 H4=>(λ_ H Q=>Q true H:TT) σ4 H4 λb H5=>if b=true then te σ4 H5 (λv H6=>H6 D=some (.lst ys)/\ys.length<sizeLine/\∃m',m'<m/\W (i+1) m' (upd H6 D (.lst (ys++[v]))) (ys++[v]))
    else H5 D=some (.lst ys)/\∃m',m'<m/\W (i+1) m' H5 ys):=by
 refine Z8 (Q:=λ_ H=>Z H) (tt:=λ_ H Q=>Q true H) (N:=xs.length) (λi H2 ys=>zl H H2/\ys.length=i/\∀j v,ys[j]? = some v->R j v H2) ⟨zl.upd hD,rfl,λj v e=>by simp at e⟩ (λi H2 ys hi p=>hJ.go i H2 hi p.1) (λH2 ys p=>hJ.stop H2 p.1) ?_ (λH2 ys p e=>k ys H2 p.1 e p.2.1 p.2.2)
 rintro i x zs H2 H3 ys Nx hN hi hz hy ⟨s2,hyl,hyR⟩ hD2
 obtain⟨rfl,hx⟩:=hJ.yld i x H2 H3 s2 hy
 refine hs i x zs H3 _ hx hz s2 λv H6 s6 r6=>⟨s6 _ _ hD2,by omega,hN _ _ ⟨λc o e=>?_,by simp[hyl],λj u e=>?_⟩⟩
 ·rw[zM (zK e hD)];exact s6 _ _ (s2 _ _ e)
 ·have T6:xu H6 (upd H6 D (.lst (ys++[v]))):=.upd (s6 _ _ hD2)
  by_cases hj:j<ys.length
  ·rw[List.getElem?_append_left hj]at e
   exact hR _ _ _ _ ((xu.of s6).trans T6) (hyR j u e)
  ·rw[List.getElem?_append_right (by omega)]at e
   have:j - ys.length=0:=by
    rcases Nat.eq_zero_or_pos (j - ys.length)with z | z
    ·exact z
    ·rw[List.getElem?_eq_none (by simp;omega)]at e;cases e
   rw[this]at e
   simp at e
   subst e
   rw[show j=i by omega]
   exact hR _ _ _ _ T6 r6
theorem X5 (R:Nat->V->Hp->Prop) (hR:∀i v H H',xu H H'->R i v H->R i v H') (hD:H D=none) (hJ:VN J H xs) (hl:xs.length<sizeLine)
  (hs:∀i x zs H2 Q',xs[i]? = some x->zs.length=n->zl H H2->(∀v H6,zl H2 H6->R i v H6->Q' v H6)->g x (zs++vS σ js) H2 λσ4 H4=>σ4.drop n=vS σ js/\te σ4 H4 Q')
  (k:∀ys H',zl H H'->H' D=some (.lst ys)->ys.length=xs.length->(∀i v,ys[i]? = some v->R i v H')->Z H') :
  ∃W:Nat->Nat->Hp->List V->Prop,(∃m,W 0 m (upd H D (.lst [])) [])/\∀i m H2 ys,W i m H2 ys->H2 D=some (.lst ys)->(J.stop i H2/\Z H2) ∨
   (J.go i H2/\∀zs x H3,zs.length=n->J.yld i H2 x H3->g x (zs++vS σ js) H3 λσ4 H4=>σ4.drop n=vS σ js/\(λ_ H Q=>Q true H:TT) σ4 H4 λb H5=>if b=true then te σ4 H5 (λv H6=>H6 D=some (.lst ys)/\ys.length<sizeLine/\∃m',m'<m/\W (i+1) m' (upd H6 D (.lst (ys++[v]))) (ys++[v]))
    else H5 D=some (.lst ys)/\∃m',m'<m/\W (i+1) m' H5 ys):=by
 refine VT (Q:=λ_ H=>Z H) (tt:=λ_ H Q=>Q true H) (N:=xs.length) (λi H2 ys=>zl H H2/\ys.length=i/\∀j v,ys[j]? = some v->R j v H2) ⟨zl.upd hD,rfl,λj v e=>by simp at e⟩ (λi H2 ys hi p=>hJ.go i H2 hi p.1) (λH2 ys p=>hJ.stop H2 p.1) ?_ (λH2 ys p e=>k ys H2 p.1 e p.2.1 p.2.2)
 rintro i x zs H2 H3 ys Nx hN hi hz hy ⟨s2,hyl,hyR⟩ hD2
 obtain⟨rfl,hx⟩:=hJ.yld i x H2 H3 s2 hy
 refine hs i x zs H3 _ hx hz s2 λv H6 s6 r6=>⟨s6 _ _ hD2,by omega,hN _ _ ⟨λc o e=>?_,by simp[hyl],λj u e=>?_⟩⟩
 ·rw[zM (zK e hD)];exact s6 _ _ (s2 _ _ e)
 ·have T6:xu H6 (upd H6 D (.lst (ys++[v]))):=.upd (s6 _ _ hD2)
  by_cases hj:j<ys.length
  ·rw[List.getElem?_append_left hj]at e
   exact hR _ _ _ _ ((xu.of s6).trans T6) (hyR j u e)
  ·rw[List.getElem?_append_right (by omega)]at e
   have:j - ys.length=0:=by
    rcases Nat.eq_zero_or_pos (j - ys.length)with z | z
    ·exact z
    ·rw[List.getElem?_eq_none (by simp;omega)]at e;cases e
   rw[this]at e
   simp at e
   subst e
   rw[show j=i by omega]
   exact hR _ _ _ _ T6 r6
end
end L2
namespace L2
open PySem PySem.Spec PyProof.Rows
end L2
set_option Elab.async false
set_option linter.all false
set_option maxRecDepth 100000
namespace L2
open PySem PySem.Spec PyProof.Rows
end L2
set_option Elab.async false
set_option linter.all false
set_option maxRecDepth 100000
namespace L2
open PySem PySem.Spec PyProof.Rows
end L2
set_option Elab.async false
set_option linter.all false
set_option maxRecDepth 100000
namespace L2
open PySem PySem.Spec PyProof.Rows
end L2
set_option Elab.async false
set_option linter.all false
set_option maxRecDepth 100000
namespace L2
open PySem PySem.Spec PyProof.Rows
end L2
section
set_option maxHeartbeats 4000000
set_option Elab.async false
set_option linter.all false
set_option maxRecDepth 100000
namespace L2
open PySem PySem.Spec PyProof.Rows
end L2
end
namespace KM
theorem Je (a b:Rat):Rat.divInt (a.num*b.den - b.num*a.den) (a.den*b.den)=a - b:=by
 rw[Rat.sub_def',<-Rat.divInt_ofNat];simp
end KM
section
set_option maxHeartbeats 8000000
set_option Elab.async false
set_option linter.all false
set_option maxRecDepth 100000
namespace L2
open PySem PySem.Spec PyProof.Rows
end L2
namespace L2
open PySem PySem.Spec PyProof.Rows
end L2
namespace L2
open PySem PySem.Spec PyProof.Rows
end L2
namespace L2
open PySem PySem.Spec PyProof.Rows
end L2
namespace L2
open PySem PySem.Spec PyProof.Rows
end L2
namespace L2
open PySem PySem.Spec PyProof.Rows
end L2
namespace L2
open PySem PySem.Spec PyProof.Rows
end L2
namespace L2
open PySem PySem.Spec PyProof.Rows
end L2
namespace L2
open PySem PySem.Spec PyProof.Rows
end L2
namespace L2
open PySem PySem.Spec PyProof.Rows
end L2
namespace L2
open PySem PySem.Spec PyProof.Rows
end L2
namespace Att
open PySem PySem.W PySem.Calls PyProof.Rows
end Att
namespace L2
open PySem PySem.Spec PyProof.Rows
end L2
namespace L2
open PySem PySem.Spec PyProof.Rows
end L2
end
section
set_option maxHeartbeats 4000000
set_option Elab.async false
set_option linter.all false
set_option maxRecDepth 100000
namespace L2
open PySem PySem.Spec PyProof.Rows PySem.Builtin.Str
section
variable {X:Cx}
theorem ZL:MtR X "str.startswith" (λx vs H Q=>∃a b,x = .str a/\vs=[.str b]/\Q (.bl (Txt.startswith a b)) H):=by
 intro pins s σ H x xs v us Q I rx rs h
 obtain⟨a,b,rfl,rfl,q⟩:=h
 obtain⟨t,rfl⟩:=rx
 obtain⟨u,rfl,ru⟩:=vo rs
 obtain⟨t',rfl⟩:=ru
 exact SC.startswith ⟨.bl _,H,I,rfl,q⟩
theorem Vp:MtR X "str.index" (λx vs H Q=>∃a b i rest,x = .str a/\vs=[.str b]/\occurrences a b 0 a.length 1=i::rest/\Q (.int (i:Nat)) H):=by
 intro pins s σ H x xs v us Q I rx rs h
 obtain⟨a,b,i,rest,rfl,rfl,ho,q⟩:=h
 obtain⟨t,rfl⟩:=rx
 obtain⟨u,rfl,ru⟩:=vo rs
 obtain⟨t',rfl⟩:=ru
 exact SC.index ho ⟨.int _,H,I.tok _,⟨_,rfl⟩,q⟩
theorem Q9:ve X (.type "int") (λxs H Q=>∃a n,xs=[.str a]/\PySem.intText? a=some n/\a.length<=640/\Q (.int n) H):=by
 intro pins s σ H xs us Q I r h
 obtain⟨a,n,rfl,hn,hl,q⟩:=h
 obtain⟨u,rfl,ru⟩:=vo r
 obtain⟨t,rfl⟩:=ru
 exact PySem.W.KIN.call_text hn hl ⟨.int n,H,I.tok _,⟨_,rfl⟩,q⟩
theorem ZW:∀l:List (Str×Tok),zP ((l.map (·.1)).map V.str) (strValues l)
 | []=>.nil
 | (x,t)::l=>.cons ⟨t,rfl⟩ (ZW l)
theorem je:MtR X "str.split" (λx vs H Q=>∃a b,x = .str a/\vs=[.str b]/\(b.length == 0)=false/\a.length+2<=sizeLine/\∀l,H l=none->Q (.ref l) (upd H l (.lst ((Txt.split a b).map V.str)))):=by
 intro pins s σ H x xs v us Q I rx rs h
 obtain⟨a,b,rfl,rfl,hy,hz,q⟩:=h
 obtain⟨t,rfl⟩:=rx
 obtain⟨u,rfl,ru⟩:=vo rs
 obtain⟨t',rfl⟩:=ru
 have hn:(partsBetween a (occurrences a b 0 a.length (a.length+1)) b.length).length<=sizeLine:=by
  have:=StrLaws.occ_length_le a b 0 a.length (a.length+1)
  unfold partsBetween
  simp only[List.length_map,List.length_zip,List.length_cons,List.length_append,List.length_nil]
  omega
 have hx:a.length<=sizeLine:=by omega
 have fin:∀(l:List (Str×Tok)) (tk:Nat),l.map (·.1)=Txt.split a b->l.length<=sizeLine->EP X pins σ Q (.ref s.heap.objs.size) { s with heap:=s.heap.push { cls:=.type "list",data:=.seq (strValues l).toArray },toks:=tk }:=λl tk e hl=>by
  refine⟨.ref s.heap.objs.size,_,I.laid (t':=tk) (o:=.lst ((Txt.split a b).map V.str)) (λb ob q=>Heap.get?_push_of_some _ q) (Nat.le_refl _) ?_,rfl,q _ (I.hok.fresh (Nat.le_refl _))⟩
  refine⟨?_,strValues l,0,?_,Heap.get?_push_size _ rfl⟩
  ·rw[<-e,List.length_map,List.length_map];exact hl
  ·rw[<-e];exact ZW l
 cases h1:(decide (a.length<b.length) || decide (strKind a<strKind b))
 ·cases hf:(occurrences a b 0 a.length (a.length+1)).isEmpty
  ·refine call_meets F.slot_str_split (typeIs_str _ _ _) F.entry_str_split (F.args_str_split_2 _ _) (meets_str_split_sep a b t t' h1 hy hf hx hn) ?_
   show wants _ _ _ { s with toks:=_,heap:=s.heap.push { cls:=.type "list",data:=.seq (strsFrom s.toks (partsBetween a (occurrences a b 0 a.length (a.length+1)) b.length)).toArray } }
   rw[strsFrom_eq]
   exact fin (numbered s.toks _) _ ((numbered_texts _ _).trans ((if_neg (ne_true_of_eq_false h1)).trans (if_neg (ne_true_of_eq_false hf))).symm) (by rw[<-List.length_map (f:=Prod.fst),numbered_texts];exact hn)
  ·exact call_meets F.slot_str_split (typeIs_str _ _ _) F.entry_str_split (F.args_str_split_2 _ _) (meets_str_split_not_found a b t t' h1 hy hf)
    (fin [(a,t)] s.toks ((if_neg (ne_true_of_eq_false h1)).trans (if_pos hf)).symm (by show 1<=sizeLine;decide))
 ·exact call_meets F.slot_str_split (typeIs_str _ _ _) F.entry_str_split (F.args_str_split_2 _ _) (meets_str_split_cannot_occur a b t t' h1)
   (fin [(a,t)] s.toks (if_pos h1).symm (by show 1<=sizeLine;decide))
theorem Z0:∀{ts:List Str}{its:List Value},zP (ts.map V.str) its->∃l:List (Str×Tok),its=strValues l/\l.map (·.1)=ts
 | [],_,.nil=>⟨[],rfl,rfl⟩
 | x::ts,_,.cons ⟨t,e⟩ r=>by
  obtain⟨l,e1,e2⟩:=Z0 r
  exact⟨(x,t)::l,by rw[e,e1];rfl,by rw[List.map_cons,e2]⟩
theorem Xe:MtR X "str.join" (λx vs H Q=>∃a p ts,x = .str a/\vs=[.ref p]/\SqL X.K H p (ts.map V.str)/\JoinOk a ts=true/\Q (.str (Txt.join a ts)) H):=by
 intro pins s σ H x xs v us Q I rx rs h
 obtain⟨a,p,ts,rfl,rfl,hq,hj,q⟩:=h
 obtain⟨t,rfl⟩:=rx
 obtain⟨u,rfl,ru⟩:=vo rs
 cases ru
 obtain⟨its,r,pl,hz⟩:=I.list hq
 obtain⟨l,rfl,e⟩:=Z0 r
 exact SC.join pl.isList e hj λt' k=>⟨.str _,H,I.tok _,⟨_,rfl⟩,q⟩
theorem XH {v:Value}{o:Option Int}(h:IsPart v o):∃l:Option (Int×Tok),v=partValue l/\l.map (·.1)=o:=by
 cases h with
 | none=>exact⟨none,rfl,rfl⟩
 | int i t=>exact⟨some (i,t),rfl,rfl⟩
def rSlS:V->Option Int->Option Int->Hp->VK->Prop:=λx lo hi H Q=>∃a,x = .str a/\a.length<=sizeLine/\Q (.str (Txt.slice a lo hi)) H
theorem jC:SlR X rSlS:=by
 intro pins s σ H x v vl vu lo hi sl Q I rx hs pl pu h
 obtain⟨a,rfl,hz,q⟩:=h
 obtain⟨t,rfl⟩:=rx
 obtain⟨l,rfl,el⟩:=XH pl
 obtain⟨u,rfl,eu⟩:=XH pu
 subst el eu
 refine⟨"str",_,F.slot_str_getitem.lookup,typeIs_str _ _ _,wpAny_getItem_str_slice (l:=l) (u:=u) (st:=none) hs rfl (post_val_or_str ⟨Nat.le_trans (Txt.slice_le a _ _) hz,λt' k=>⟨.str _,H,I.tok _,⟨_,rfl⟩,q⟩⟩)⟩
end
def Its (a:Str):It:=⟨λi _=>i<a.cps.size,λi H x H'=>H'=H/\∃c,a.cps[i]? = some c/\x = .str ⟨#[c]⟩,λi _=>a.cps.size<=i⟩
theorem zag {P:Program}{w:World}{K:PySem.W.Frag}{tg:Expr}(a:Str) (t:Tok) (it:Addr) (ty:String) (hty:ty = "str_ascii_iterator"\/ty = "str_iterator"):Q6 P w K tg (Its a) [it] it (λi h=>h.IsStrIter it ty a t i) where
 mem:=by simp
 obj:=λi h st b hb=>by
  have e:b=it:=by simpa using hb
  subst e
  obtain⟨o,e,c,d⟩:=st
  exact⟨o,e,λv z=>by rw[d]at z;cases z⟩
 keep:=λi h h' st k=>let ⟨o,e,r⟩:=st;⟨o,k it (by simp) o e,r⟩
 item:=by
  intro X hP hw hK hc i pins s σ H E I hf st hg
  subst hP hw hK
  obtain⟨f0,f1,f2,f3,f4,f5⟩:=hf it (by simp)
  have hg:i<a.cps.size:=hg
  have hx:a.cps[i]? = some a.cps[i]:=by simp[hg]
  have fin:∀(h':Heap) (tk tk':Nat),h'.IsStrIter it ty a t (i+1)->Heap.SameBut it s.heap h'->∃u,some (Value.str ⟨#[a.cps[i]]⟩ tk')=some u/\wpAny (model X.prog X.w) X.A (letOwnedTupleGo tg (.ref it) u) (λ_ s2=>∃x H',Inv X pins σ H' s2/\xb x u/\(Its a).yld i H x H'/\s2.heap.IsStrIter it ty a t (i+1)/\∀b∈[it],H' b=none) E { s with heap:=h',toks:=tk }:=λh' tk tk' st' sb=>by
   have I1:Inv X pins σ H { s with heap:=h',toks:=tk }:=I.turned (t':=tk) (λb o hb e=>(sb.2 b hb).trans e) f0 f1 f3 f4 f5
   obtain⟨o,e,c,d⟩:=id st'
   exact⟨_,rfl,QA (s:={ s with heap:=h',toks:=tk }) e c d (by rcases hty with rfl | rfl <;> decide) ⟨.str ⟨#[a.cps[i]]⟩,H,I1,⟨_,rfl⟩,⟨rfl,_,hx,rfl⟩,st',λb hb=>(hf b hb).1⟩⟩
  rcases hty with rfl | rfl
  ·exact wpAny_pyNext_ascii_item st hx λh' st' sb=>fin h' _ _ st' sb
  ·exact wpAny_pyNext_wide_item st hx λh' st' sb=>fin h' _ _ st' sb
 done:=by
  intro X hP hw hK hc i pins s σ H E I hf st hg
  subst hP hw hK
  obtain⟨f0,f1,f2,f3,f4,f5⟩:=hf it (by simp)
  have hg:a.cps.size<=i:=hg
  have hx:a.cps[i]? = none:=by simp[hg]
  rcases hty with rfl | rfl
  ·exact wpAny_pyNext_ascii_end (I.ok.hd hc) st hx λh' eb=>⟨rfl,I.turned (t':=s.toks) (λb o hb e=>eb b o hb e) f0 f1 f3 f4 f5⟩
  ·exact wpAny_pyNext_wide_end (I.ok.hd hc) st hx λh' eb=>⟨rfl,I.turned (t':=s.toks) (λb o hb e=>eb b o hb e) f0 f1 f3 f4 f5⟩
 self:=λ_ _ _ _ _ st h=>by
  rcases hty with rfl | rfl
  ·exact wpAny_pyIter_striter_ascii st h
  ·exact wpAny_pyIter_striter_wide st h
def zdm (tl:TE):TI:=λσ H R=>tl σ H λx H1=>∃a,x = .str a/\R (Its a) H1
end L2
end
section
set_option maxHeartbeats 4000000
set_option Elab.async false
set_option linter.all false
set_option maxRecDepth 100000
namespace L2
open PySem PySem.Spec PyProof.Rows PySem.Builtin.Str
section
variable {X:Cx}{tg:Expr}
theorem JA {l:Expr}{tl:TE}(hl:PE X l tl):PI X tg l (zdm tl):=by
 intro pins s σ H R I h
 refine thn (hl pins s σ H _ I h) λv s1 ⟨x,H1,I1,r1,q1⟩=>?_
 obtain⟨a,e,q⟩:=q1
 subst e
 obtain⟨t,rfl⟩:=r1
 have fin:∀(ty:String) (o:Obj),(ty = "str_ascii_iterator"\/ty = "str_iterator")->(s1.heap.push o).IsStrIter s1.heap.objs.size ty a t 0->PIE X pins σ tg R (.ref s1.heap.objs.size) { s1 with heap:=s1.heap.push o }:=λty o hty st=>by
  refine⟨s1.heap.objs.size,[s1.heap.objs.size],_,_,H1,rfl,I1.kept (t':=s1.toks) λb o e=>Heap.get?_push_of_some _ e,zag a t _ ty hty,st,λb hb=>?_,q⟩
  have e:b=s1.heap.objs.size:=by simpa using hb
  subst e
  exact I1.fpOk (Nat.le_refl _) (I1.hok.fresh (Nat.le_refl _))
 cases ha:a.cps.all (· < 128)
 ·exact wpAny_pyIter_wide ha (fin _ _ (.inr rfl) ⟨_,Heap.get?_push_size _ rfl,rfl,rfl⟩)
 ·exact wpAny_pyIter_ascii ha (fin _ _ (.inl rfl) ⟨_,Heap.get?_push_size _ rfl,rfl,rfl⟩)
theorem zk (a b:Str):(a++b).length=a.length+b.length:=strLen_append a b
theorem jX {a:Str}(h:(a.length == 0)=true):a = ⟨#[]⟩:=by
 cases a with
 | mk w =>
  have:w.size=0:=by simpa [Str.length]using h
  rw[Array.eq_empty_of_size_eq_zero this]
def PAp (X:Cx) (es:List Expr) (t:TA):Prop :=
 ∀(pos:Pos) (pins:List (Addr×Obj)) (s:Shared) (σ:St) (H:Hp) (Q:List V->Hp->Prop),Inv X pins σ H s->0<s.toks->t σ H Q->wpAny (model X.prog X.w) X.A (spliced (backTo pos (starEach es X.env))) (AP X pins σ Q) X.xe s
theorem PA.p {es:List Expr}{t:TA}(h:PA X es t):PAp X es t:=λpos pins s σ H Q I _ q=>h pos pins s σ H Q I q
theorem zal {i:Nat}{x:Str}{pos:Pos}{pins:List (Addr×Obj)}{s:Shared}{σ:St}{H:Hp}{Q:Value->Shared->Prop}{v:V}(hN:X.N[i]? = some x) (hv:Vis X.env.scope x) (hd:(x == ("__debug__":Str))=false) (hcd:(x == ("__classdict__":Str))=false) (I:Inv X pins σ H s) (e:σ[i]? = some (some v)) (q:∀u,xb v u->Q u s):wpAny (model X.prog X.w) X.A (eval (.Name x pos) X.env) Q X.xe s:=by
 obtain⟨m,hn,hl⟩:=I.loc
 obtain⟨u,r,l⟩:=hl i x v hN e hv
 have fin:=q u r
 rcases l with⟨hk,hm⟩ | ⟨hk,c,hc,hcell⟩
 ·exact wpAny_Name (wpAny_loadName_local I.ok.kind hk hn hm fin) hd
 ·rcases hk with hk | hk
  ·exact wpAny_Name (wpAny_loadName_cell I.ok.kind hk hc hcell fin) hd
  ·exact wpAny_Name (wpAny_loadName_free I.ok.kind hk hc hcell fin hcd) hd
end
end L2
end
section
set_option maxHeartbeats 4000000
set_option Elab.async false
set_option linter.all false
set_option maxRecDepth 100000
namespace L2
open PySem PySem.Spec PyProof.Rows
def zec (C:Addr) (tb:XJ->TS) (ts:TS):TS:=λD σ H=>tb (λC' _ σ' H'=>C'=C/\ts D σ' H') D σ H
section
variable {X:Cx}{x:Str}{C:Addr}{bmB:List Value}{newId:String}{np hpos pos:Pos}{body suite:List Stmt}{b₀:Stmt}{tb:XJ->TS}{ts:TS}
theorem QN (hst:X.stack=X.env::X.outer) (hfr:X.env.frame=some X.env.locals) (O:OwnCls x C bmB newId X.mg X.base) (hbase:bmB.contains (.type "BaseException")=true)
  (hb:∀pins W J,ZA (X.tried pins W) J->PSs (X.tried pins W) body (tb J)) (hs:∀pins a oe d vs,oe.cls = .ref C->oe.dict=d->oe.data = .fields vs->PSs (X.suite pins a oe) (b₀::suite) ts)
  (hg:Gl X x:=by rfl) (hd:(x == ("__debug__":Str))=false:=by decide) :
  PS X (.Try body [.ExceptHandler (some (.Name x np)) none (b₀::suite) hpos] [] [] pos) (zec C tb ts):=by
 intro pins s σ H D I h
 have hb':=hb pins (λe s₁=>wpAny (model X.prog X.w) X.A (noteFrame e X.env) (λ_ s₂=>wpAny (model X.prog X.w) X.A (setFlight e none) (λ_ s₃ =>
  wpAny (model X.prog X.w) X.A (handleBy e X.env [.ExceptHandler (some (.Name x np)) none (b₀::suite) hpos]) (SP X pins D) X.xe s₃) X.xe s₂) X.xe s₁) _ ?_ [] s σ H D (I.tried _) h
 ·refine wpAny_Try_except (wpAny_mono hb' (λf s1 hf=>?_) λ_ _ z=>z)
  cases f with
  | next=>obtain⟨σ',H',I',q⟩:=hf;exact wpAny_execs_nil ⟨σ',H',I'.untried I.ok,q⟩
  | brk=>obtain⟨σ',H',I',q⟩:=hf;exact⟨σ',H',I'.untried I.ok,q⟩
  | cont=>obtain⟨σ',H',I',q⟩:=hf;exact⟨σ',H',I'.untried I.ok,q⟩
  | ret u=>obtain⟨v,σ',H',I',r,q⟩:=hf;exact⟨v,σ',H',I'.untried I.ok,r,q⟩
 ·intro pins' σ' H1 s1 a C' H' s' B a0 dct I1 F hq
  obtain⟨rfl,q⟩:=hq
  have I1:=I1.untried I.ok
  have hfrm:X.A.frames=some (X.env::X.outer):=by rw[<-hst];exact I.ok.frames
  have F:Fly X.prog X.w X.stack H1 s1 C' H' a s' B a0 dct:=F
  have Ffl:FlX B (X.env::X.outer) a (.ref C') a0 dct s'.heap:=by rw[<-hst];exact F.fly
  refine QD hfrm hfr Ffl λh4 held up4=>?_
  refine jc held λh5 fl5 up5=>?_
  have F5:=F.move (by rw[hst];exact fl5) (up4.trans up5)
  have I5:=I1.call' F5.os F5.un F5.hok F5.bare (λb z=>absurd z (by simp))
  obtain⟨ob,hob,hobc⟩:=fl5.there
  obtain⟨tl,N,nm,q',bs,hdct,sn,sub,ab,col,dd,k0,k1,k2,k3,k5,mN,hC,hN',hni,T⟩:=O.obj
  refine wpAny_handleBy_cons (codeAny_handlers_test (jd (X:=X.testing a) (I5.test a) hg O.bound ?_ hd)) (by intro q;cases q)
  obtain⟨hh,g,d,tk,os⟩:=s'
  refine wpAny_excMatches_sub_self (I5.bk _ _ hC) hob hobc (T.hasType hbase) (codeAny_handlers_suite ?_)
  refine jc fl5.held λh6 fl6 up6=>?_
  have F6:=F5.move (by rw[hst];exact fl6) up6
  have I6:=I1.call' F6.os F6.un F6.hok F6.bare (λb z=>absurd z (by simp))
  obtain⟨oe,ws,hoe,hoec,hoet,hoed⟩:=fl6.first
  refine wpAny_mono (hs pins a oe dct ws hoec hoet hoed [] _ _ H' D (I6.suite hoe hoed F6.untracked) q) (λf s8 hf=>?_) λ_ _ z=>z.elim
  cases f with
  | next=>obtain⟨σ8,H8,I8,q8⟩:=hf;exact⟨_,_,I8.unsuite I.ok,q8⟩
  | brk=>obtain⟨σ8,H8,I8,q8⟩:=hf;exact⟨_,_,I8.unsuite I.ok,q8⟩
  | cont=>obtain⟨σ8,H8,I8,q8⟩:=hf;exact⟨_,_,I8.unsuite I.ok,q8⟩
  | ret u=>obtain⟨v,σ8,H8,I8,r8,q8⟩:=hf;exact⟨_,_,_,I8.unsuite I.ok,r8,q8⟩
end
end L2
end
section
set_option maxHeartbeats 4000000
set_option Elab.async false
set_option linter.all false
set_option maxRecDepth 100000
namespace L2
open PySem PySem.Spec PyProof.Rows
open MeetsSeq MeetsSeq2 MeetsSeq3 SeqRoads2 SeqAt AutoSeq1
def isN:Value->Bool
 | .none=>true
 | _=>false
theorem zcc {X:Cx}{pins:List (Addr×Obj)}{σ:St}{H:Hp}{s:Shared}{x:V}{c:PyData}{u:Value}(I:Inv X pins σ H s) (h:RdD H x c) (r:xb x u):isN u=PyData.eqv c .none:=by
 cases h with
 | non=>cases(show u=Value.none from r);rfl
 | bl b=>cases(show u=Value.bool b from r);rfl
 | int i=>obtain⟨t,rfl⟩:=(show ∃t,u=Value.int i t from r);rfl
 | str x=>obtain⟨t,rfl⟩:=(show ∃t,u=Value.str x t from r);rfl
 | @tup a xs ds e h=>cases(show u=Value.ref a from r);rfl
 | @lst a xs ds e h=>cases(show u=Value.ref a from r);rfl
theorem Xw {X:Cx}{pins:List (Addr×Obj)}{σ:St}{H:Hp}{s:Shared}(I:Inv X pins σ H s) (hu:X.A.units+64<cLine):∀{xs:List V}{ds:List PyData}{us:List Value},jr H xs ds->zP xs us->(∀c∈ds,c.canLay0=true)->(∀u∈us,EqAt X.A.in1 s u .none (isN u))/\us.map isN=ds.map λc=>PyData.eqv c .none
 | _,_,_,.nil,.nil,_=>⟨λu m=>(by cases m),rfl⟩
 | _,_,_,.cons (d:=d) h t,.cons r rs,hs=>by
  obtain⟨h1,h2⟩:=Xw I hu t rs λc m=>hs c (List.mem_cons_of_mem _ m)
  obtain⟨as,ra⟩:=h.reads I r
  have e:=zcc I h r
  refine⟨λu m=>?_,by rw[List.map_cons,List.map_cons,h2,e]⟩
  rcases List.mem_cons.mp m with rfl | m
  ·rw[e]
   exact eqAt_reads _ .none _ _ _ _ _ _ ra .none (hs _ (List.mem_cons_self ..)) rfl (by show X.A.units+1+min d.depth 0<cLine;rw[Nat.min_zero];omega)
  ·exact h1 u m
theorem Xt {α:Type}(f:α->Bool) (l:List α):l.any f=(l.map f).any id:=by rw[List.any_map];rfl
def zdG (K:PySem.W.Frag):R2:=λx y H Q=>∃p xs ds,x = .non/\y = .ref p/\SqT K H p xs/\jr H xs ds/\(∀c∈ds,c.canLay0=true)/\Q (.bl (ds.any λc=>PyData.eqv c .none)) H
theorem zaW {X:Cx}(hu:X.A.units+64<cLine):OpR X (compareOp .In) (zdG X.K):=by
 intro pins s σ H x y v u Q I rx ry h
 obtain⟨p,xs,ds,rfl,rfl,hp,hd,hs,q⟩:=h
 cases ry
 cases(show v=Value.none from rx)
 obtain⟨its,r,pl,hz⟩:=I.tuple hp
 obtain⟨h1,h2⟩:=Xw I hu hd r hs
 refine SeqAt.in_tupleAt isN pl (λw hw=>h1 w (by simpa using hw)) ⟨.bl _,H,I,rfl,?_⟩
 rw[show its.toArray.any isN=its.any isN by simp,Xt,h2,<-Xt]
 exact q
end L2
end
section
set_option maxHeartbeats 4000000
set_option Elab.async false
set_option linter.all false
set_option maxRecDepth 100000
namespace L2
open PySem PySem.Spec PyProof.Rows
def FlN (B:Heap) (l:List Env) (e:Addr) (cls a0:Value) (dct:Option Addr) (L:Addr) (h:Heap):Prop:=B.StaysIn h/\B.get? e=none/\h.FunFrames B l/\TrX h B e cls a0 dct (rawInt L)
section
variable {M:Model}{A:Around}{E:Value->Shared->Prop}{s:Shared}{B h:Heap}{env:Env}{outer l:List Env}{L e:Addr}{a0 cls:Value}{dct:Option Addr}{Q:Unit->Shared->Prop}
theorem zaB (hfr:A.frames=some (env::outer)) (hf:env.frame=some L) (x:FlX B (env::outer) e cls a0 dct s.heap) (q:∀h',FlN B (env::outer) e cls a0 dct L h'->s.heap.UpToSlots h'->Q () { s with heap:=h' }):wpAny M A (noteFrame (.ref e) env) Q E s :=
 ZM hfr x.2.2.1 hf x.2.2.2 x.1 x.2.1 λh' x1 x2 x3 x4=>q h' ⟨x1,x.2.1,x2,x3⟩ x4
theorem XG (hf:env.frame=some L) (ht:TrX s.heap B e cls a0 dct (rawInt L)) (q:Q () s):wpAny M A (noteFrame (.ref e) env) Q E s:=by
 obtain⟨oe,vs,T,oT,ts,he,_,_,hd,h0,h1,nT,Te,hT,dT,h3⟩:=ht
 unfold noteFrame
 simp only[hf]
 refine wpAny_bind (wpAny_field he hd h1 ?_)
 rw[if_pos (show (Value.ref T != Value.none)=true from by simp)]
 refine wpAny_bind (wpAny_field hT dT h3 ?_)
 rw[if_pos (by simp)]
 exact wpAny_pure q
theorem Vf {fl:Value}(hB:B.StaysIn s.heap) (hl:s.heap.FunFrames B l) (ht:TrX s.heap B e cls a0 dct fl)
  (q:∀h',B.StaysIn h'->h'.FunFrames B l->TrX h' B e cls a0 dct (rawInt L)->s.heap.UpToSlots h'->Q () { s with heap:=h' }):wpAny M A (setFlight (.ref e) (some L)) Q E s:=by
 obtain⟨oe,vs,T,oT,ts,he,hc,hdc,hd,h0,h1,nT,Te,hT,dT,h3⟩:=ht
 have z3:3<ts.size:=(Array.getElem?_eq_some_iff.mp h3).1
 have oth:∀b,b≠T->(s.heap.update T (Obj.mapFields (·.setIfInBounds 3 ((some L:Option Addr).elim Value.none λf=>rawInt f)))).get? b=s.heap.get? b:=λb hb=>Heap.get?_update_other _ _ (Ne.symm hb)
 have nr:∀b o,s.heap.get? b=some o->(∀vs,o.data≠.fields vs)->b≠T:=λb o hb nn r=>by rw[r,hT]at hb;cases hb;exact nn ts dT
 unfold setFlight
 refine wpAny_bind (wpAny_field he hd h1 ?_)
 rw[if_pos (show (Value.ref T != Value.none)=true from by simp)]
 exact wpAny_setField hT dT z3 (q _ (λb o z=>(oth b λr=>by rw[r,nT]at z;cases z).trans (hB b o z)) (hl.of_keeps λb o hb nn=>⟨o,(oth b (nr b o hb nn)).trans hb,rfl⟩)
  ⟨oe,vs,T,_,_,(oth e (Ne.symm Te)).trans he,hc,hdc,hd,h0,h1,nT,Te,Heap.get?_update_self _ hT (Obj.isFreed_of_fields (Obj.data_mapFields dT _)),Obj.data_mapFields dT _,by simp[z3]⟩ λb o hb nn=>⟨o.slots,(oth b (nr b o hb nn)).trans hb⟩)
theorem Jt {α:Type}{Q:α->Shared->Prop}{what:String}(hf:env.frame=some L) (x:FlN B l e cls a0 dct L s.heap) (q:∀h',FlN B l e cls a0 dct L h'->s.heap.UpToSlots h'->E (.ref e) { s with heap:=h' }):wpAny M A (PySem.passOn what (.ref e) env:Sem α) Q E s:=by
 obtain⟨x1,x2,x3,x4⟩:=x
 obtain⟨oe,vs,T,oT,ts,he,_,_,hd,h0,h1,_⟩:=id x4
 unfold PySem.passOn
 refine wpAny_bind (wpAny_field he hd h1 ?_)
 rw[if_neg (show ¬((Value.ref T == Value.none)=true)from by simp)]
 rw[hf]
 exact wpAny_bind (Vf x1 x3 x4 λh' y1 y2 y3 y4=>wpAny_throw (q h' ⟨y1,x2,y2,y3⟩ y4))
theorem FlN.but {Lc:Addr}{oL:Obj}{h':Heap}(x:FlN B l e cls a0 dct L h) (sb:Heap.SameBut Lc h h') (BL:B.get? Lc=some oL):FlN (PySem.W.hideAll B [Lc]) l e cls a0 dct L h':=by
 obtain⟨x1,x2,x3,oe,vs,T,oT,ts,he,hc,hdc,hd,h0,h1,nT,Te,hT,dT,h3⟩:=x
 have hid:∀b,B.get? b=none->(PySem.W.hideAll B [Lc]).get? b=none:=λb e=>by
  cases z:(PySem.W.hideAll B [Lc]).get? b with
  | none=>rfl
  | some o=>rw[PySem.W.of_hideAll _ z]at e;cases e
 have neL:∀b,B.get? b=none->b≠Lc:=λb e z=>by rw[z,BL]at e;cases e
 refine⟨λb o z=>?_,hid _ x2,?_,oe,vs,T,oT,ts,(sb.2 e (neL _ x2)).trans he,hc,hdc,hd,h0,h1,hid _ nT,Te,(sb.2 T (neL _ nT)).trans hT,dT,h3⟩
 ·have nb:b≠Lc:=λr=>by rw[r,PySem.W.hideAll_none _ (by simp)]at z;cases z
  exact(sb.2 b nb).trans (x1 b o (PySem.W.of_hideAll _ z))
 ·induction l with
  | nil=>trivial
  | cons env l ih =>
   obtain⟨k,⟨L',o,hL,hb,ho,hn⟩,r⟩:=x3
   exact⟨k,⟨L',o,hL,hid _ hb,(sb.2 L' (neL _ hb)).trans ho,hn⟩,ih r⟩
theorem Jb (hf:env.frame=some L) (x:FlN B (env::outer) e cls a0 dct L s.heap) (q:∀h',FlX B outer e cls a0 dct h'->s.heap.UpToSlots h'->Q () { s with heap:=h' }):wpAny M A (leaving env (.ref e)) Q E s:=by
 unfold leaving
 refine wpAny_bind (XG hf x.2.2.2 (jc (s:=s) ⟨x.1,x.2.1,x.2.2.1,_,x.2.2.2⟩ λh2 z up2=>?_))
 obtain⟨z1,z2,⟨_,_,z3⟩,z4⟩:=z
 exact q h2 ⟨z1,z2,z3,z4⟩ up2
end
def VL (X:Cx) (J:XJ) (L:Addr):Prop:=∀(pins:List (Addr×Obj)) (σ:St) (H:Hp) (s:Shared) (fp:List Addr),(∀b∈fp,X.s₀.heap.objs.size<=b)->∀(a C:Addr) (H':Hp) (s':Shared) (B:Heap) (a0:Value) (dct:Option Addr),
 Inv X pins σ H s->s'.os=X.s₀.os->AllBare s'.gens->Un (frs X.stack) fp H H' s.heap s'.heap->HOk X.prog X.w H' s'.heap->FlN B X.stack a (.ref C) a0 dct L s'.heap →
 (∀b o,s.heap.get? b=some o->b∉frs X.stack->b∉fp->(∃o',B.get? b=some o')/\(H b=none->B.get? b=some o))->(∀b u,H' b=some u->∃o,B.get? b=some o)->J C dct σ H'->X.xe (.ref a) s'
section
variable {P:Program}{w:World}{K:PySem.W.Frag}{mg:Str->Option Value}{base:Heap}{N:List Str}{qual:Str}{scope:Scope}{f:Addr}{cd:Value}{A:Around}{outer:List Env}{s:Shared}{H:Hp}{E:XK}
theorem X2:VL (xX (CX1 P w) P w K mg base N qual scope f cd A outer s H E) (EJ E) s.heap.objs.size:=by
 intro pins σ H1 s1 fp hfp a C H' s' B a0 dct I ho hg u hok fl kb kt q
 obtain⟨hh,g,d,t,os'⟩:=s'
 have ho:os'=s.os:=ho
 subst ho
 have fl:FlN B ((xX (CX1 P w) P w K mg base N qual scope f cd A outer s H E).env::outer) a (.ref C) a0 dct s.heap.objs.size hh:=fl
 refine Jb (L:=s.heap.objs.size) rfl fl λh' fx up=>?_
 refine⟨a,C,H',B,a0,dct,rfl,?_,q⟩
 have nofp:∀b o,s.heap.get? b=some o->b∉fp:=λb o e hb=>absurd (Nat.lt_of_lt_of_le (Heap.lt_size e) (hfp b hb)) (Nat.lt_irrefl _)
 have base':=I.base
 have hfr:∀b∈frs outer,b∈frs (xX (CX1 P w) P w K mg base N qual scope f cd A outer s H E).stack:=λb hb=>List.mem_cons_of_mem _ hb
 have nfr:∀b o,s.heap.get? b=some o->b∉frs outer->b∉frs (xX (CX1 P w) P w K mg base N qual scope f cd A outer s H E).stack:=λb o e hb=>I.notfr e hb
 exact {
  os:=rfl
  bare:=hg
  un:={
   keep:=λb o e n hb hx=>fx.1 b o ((kb b o (base'.keep b o e n hb (by simp[xX])) (nfr b o e hb) (nofp b o e)).2 (base'.free b o e n (by simp[xX])))
   slot:=λb o e n hb hx=>by
    obtain⟨sl,e1⟩:=base'.slot b o e n hb (by simp[xX])
    obtain⟨sl1,e2⟩:=u.slot b _ e1 (base'.free b o e n (by simp[xX])) (hfr b hb) (nofp b o e)
    obtain⟨_,o',ho',hd⟩:=fl.2.2.1.mem (hfr b hb)
    have z:=ho'.symm.trans e2
    cases z
    obtain⟨sl2,e3⟩:=up b _ e2 hd
    exact⟨sl2,e3⟩
   free:=λb o e n hx=>by
    obtain⟨o',e1⟩:=base'.there b o e (by simp[xX])
    exact u.free b o' e1 (base'.free b o e n (by simp[xX])) (nofp b o e)
   there:=λb o e hx=>by
    by_cases hb:b∈frs outer
    ·obtain⟨_,o',ho',_⟩:=fx.2.2.1.mem hb
     exact⟨o',ho'⟩
    ·obtain⟨o',e1⟩:=base'.there b o e (by simp[xX])
     obtain⟨o2,e2⟩:=(kb b o' e1 (nfr b o e hb) (nofp b o e)).1
     exact⟨o2,fx.1 b o2 e2⟩
   tups:=λb xs e=>u.tups b xs (base'.tups b xs e)
   frzs:=λb o xs e=>u.frzs b o xs (base'.frzs b o xs e)
   tbls:=λb ps e=>by
    obtain⟨m1,e1⟩:=base'.tbls b ps e
    obtain⟨m2,e2⟩:=u.tbls b _ e1
    exact⟨m1++m2,by rw[e2,Array.append_assoc]⟩ }
  hok:=Xa hok fl.1 fx.1 kt
  fly:=fx
  kb:=λb o e hb=>by
   obtain⟨o',e1⟩:=base'.there b o e (by simp[xX])
   have z:=kb b o' e1 (nfr b o e hb) (nofp b o e)
   exact⟨z.1,λn=>(kb b o (base'.keep b o e n hb (by simp[xX])) (nfr b o e hb) (nofp b o e)).2 (base'.free b o e n (by simp[xX]))⟩
  kt:=kt }
end
def xw (X:Cx) (NB:List Str) (scope:Scope) (s3:Shared) (H3:Hp) (fp:List Addr) (xe:Value->Shared->Prop):Cx:={ xW X NB scope s3 H3 fp with xe:=xe }
def zc4 (J:XJ) (n:Nat) (wi:TI) (g:TG) (tt:TT) (te:XJ->TE):TE:=λσ H Q=>wi σ H λIt H1=>∀D,H1 D=none->∃W:Nat->Nat->Hp->List V->Prop,(∃m,W 0 m (upd H1 D (.lst [])) []) ∧
 ∀i m H2 ys,W i m H2 ys->H2 D=some (.lst ys)->(It.stop i H2/\Q (.ref D) H2) ∨
  (It.go i H2/\∀σB x H3,σB.length=n->It.yld i H2 x H3->g x σB H3 λσ4 H4=>tt σ4 H4 λb H5=>if b=true then te (λC d _ H'=>J C d σ H') σ4 H5 (λv H6=>H6 D=some (.lst ys)/\ys.length<sizeLine/\∃m',m'<m/\W (i+1) m' (upd H6 D (.lst (ys++[v]))) (ys++[v]))
   else H5 D=some (.lst ys)/\∃m',m'<m/\W (i+1) m' H5 ys)
section
variable {prog:Program}{w:World}{A:Around}{R:Result->Shared->Prop}{s:Shared}
theorem Zx {elt target iter:Expr}{ifs:List Expr}{scope:Scope}{pos:Pos}{it acc:Value}{env:Env}(I:Nat->Shared->Prop)
  (turn:∀n s,I n s->wpAny (model prog w) A (pyNext it) (λr s₁=>match r with
   | none=>R (.ok .next) s₁
   | some v=>wpAny (model prog w) A (letOwnedTupleGo target it v) (λ_ s₀=>wpAny (model prog w) A (assign target env v) (λ_ s₂ =>
     wpAny (model prog w) A (forIn ifs true λc r=>if r=true then do let ok <-isTrue c env (eval c env);pure (ForInStep.yield ok)else pure (ForInStep.yield r)) (λok s₃ =>
      if ok=true then wpAny (model prog w) A (eval elt env) (λx s₄ =>
       wpAny (model prog w) A (call (.builtin "list.append") [acc,x]) (λ_ s₅=>∃m,m<n/\I m s₅) (notedBy (model prog w) A env λx s'=>R (.error x) s') s₄) (notedBy (model prog w) A env λx s'=>R (.error x) s') s₃
      else ∃m,m<n/\I m s₃) (notedBy (model prog w) A env λx s'=>R (.error x) s') s₂) (notedBy (model prog w) A env λx s'=>R (.error x) s') s₀) (notedBy (model prog w) A env λx s'=>R (.error x) s') s₁) (notedBy (model prog w) A env λx s'=>R (.error x) s') s)
  (n:Nat) (h:I n s) :
  codeAny (model prog w) A (.compLoop (.ListComp elt [⟨target,iter,ifs,0⟩] scope pos) 0 it acc env) R s:=by
 refine codeAny_loop rfl I (λn s hI=>?_) n h
 show wpAny _ A ((compTurn (.ListComp elt [⟨target,iter,ifs,0⟩] scope pos) 0 it acc env).onRaise (λx=>do noteFrame x env;theTreesLotGoes x)) _ _ s
 refine wpAny_noted ?_
 rw[compTurn_list]
 refine wpAny_bind (wpAny_standAt (wpAny_bind (wpAny_mono (turn n s hI) (λr s₁ h₁=>?_) λ_ _ z=>z)))
 cases r with
 | none=>exact wpAny_pure h₁
 | some v =>
  refine wpAny_bind (wpAny_mono h₁ (λ_ s₀ h₀=>?_) λ_ _ z=>z)
  refine wpAny_bind (wpAny_mono h₀ (λ_ s₂ h₂=>wpAny_bind (wpAny_mono h₂ (λok s₃ h₃=>?_) λ_ _ z=>z)) λ_ _ z=>z)
  cases ok with
  | false=>exact wpAny_pure ⟨rfl,h₃⟩
  | true =>
   exact wpAny_bind (wpAny_bind (wpAny_mono h₃ (λx s₄ h₄=>wpAny_bind (wpAny_mono h₄ (λ_ s₅ h₅=>wpAny_pure (wpAny_pure ⟨rfl,h₅⟩)) λ_ _ z=>z)) λ_ _ z=>z))
end
def xeC (X:Cx) (scope:Scope) (pins:List (Addr×Obj)) (σ:St) (Q:VK) (s3:Shared):Value->Shared->Prop:=notedBy (model X.prog X.w) X.A (compEnv scope s3.heap.objs.size X.env) λx s'=>∃m,s'.heap.Ns s3.heap.objs.size m/\∀h',Heap.SameBut s3.heap.objs.size s'.heap h' →
 wpAny (model X.prog X.w) X.A (PySem.passOn "comprehension.variables-let-go" x (compEnv scope s3.heap.objs.size X.env)) (EP X pins σ Q) X.xe { s' with heap:=h' }
theorem Jw {X:Cx}{Jx:XJ}{elt tg iter:Expr}{ifs:List Expr}{scope:Scope}{pos:Pos}{NB:List Str}{wi:TI}{g:TG}{tt:TT}{te:XJ->TE}
  (hc:X.calm=true) (hex:X.ex=[]) (hst:X.stack=X.env::X.outer){L:Addr}(hfL:X.env.frame=some L) (hJ:VL X Jx L) (hfree:∀x∈scope.names,x.2≠.free) (hcell:∀x∈scope.names,x.2≠.cell) (hkind:scope.kind = .function) (hnames:∀x∈scope.names,x.2 = .local → scope.names.lookup x.1=some .local)
  (hi:PI X tg iter wi) (hb:∀s3 H3 fp xe JB,ZA (xw X NB scope s3 H3 fp xe) JB->PG (xw X NB scope s3 H3 fp xe) tg g/\PTs (xw X NB scope s3 H3 fp xe) ifs tt/\PE (xw X NB scope s3 H3 fp xe) elt (te JB))
  (hs:∀x,foldedSetIterable iter X.env x=pure x:=by intro _;rfl) :
  PE X (.ListComp elt [⟨tg,iter,ifs,0⟩] scope pos) (zc4 Jx NB.length wi g tt te):=by
 intro pins s σ H Q I h
 refine wpAny_ListComp hfree hkind hnames (thn (hi pins s σ H _ I h) λv s1 h1=>thn h1 λitv s2 h2=>?_) hs
 obtain⟨it,fp,tn,J,H2,e,I2,T,st2,f2,q2⟩:=h2
 subst e
 have hf2:H2 s2.heap.objs.size=none:=I2.hok.fresh (Nat.le_refl _)
 obtain⟨W,⟨m0,w0⟩,turn⟩:=q2 _ hf2
 refine wpAny_newObj_type (hd:=by size_fits) ?_
 have I3:Inv X pins σ (upd H2 s2.heap.objs.size (.lst [])) { s2 with heap:=s2.heap.push { cls:=.type "list",dict:=none,data:=.seq ([]:List Value).toArray } } :=
  I2.laid (t':=s2.toks) (λb u e=>Heap.get?_push_of_some _ e) (Nat.le_refl _) ⟨by decide,[],0,.nil,Heap.get?_push_size _ rfl⟩
 generalize hD:s2.heap.objs.size=D at *
 generalize hs3:({ s2 with heap:=s2.heap.push { cls:=.type "list",dict:=none,data:=.seq ([]:List Value).toArray } }:Shared)=s3 at *
 generalize hH3:upd H2 D (.lst [])=H3 at *
 have h3D:H3 D=some (.lst []):=by rw[<-hH3];exact zj
 have fpD:∀b∈fp,b≠D:=λb hb=>by
  obtain⟨o,e,_⟩:=T.obj _ _ st2 b hb
  rw[<-hD];exact Nat.ne_of_lt (Heap.lt_size e)
 have k23:∀b u,s2.heap.get? b=some u->s3.heap.get? b=some u:=λb u e=>by rw[<-hs3];exact Heap.get?_push_of_some _ e
 have st3:tn 0 s3.heap:=T.keep _ _ _ st2 λb _ o e=>k23 b o e
 have f3:∀b∈fp,jq X pins H3 b:=λb hb=>⟨by rw[<-hH3,zM (fpD b hb)];exact(f2 b hb).1,(f2 b hb).2⟩
 refine wpAny_newFunctionEnv hcell (by intro y hy;simp at hy) (λh4 hns4 hsb4=>?_) hkind
 have k34:∀b u,s3.heap.get? b=some u->h4.get? b=some u:=λb u e=>hsb4.extBut b u (Nat.ne_of_lt (Heap.lt_size e)) (Heap.get?_push_of_some _ e)
 have okB:(xw X NB scope s3 H3 fp (xeC X scope pins σ Q s3)).Ok:=by
  refine⟨I3.ok.mod,hkind,I3.ok.glob,I3.ok.blt,Nat.le_refl _,λx y c e _=>?_,λx e=>?_,λx c _ e=>?_,I3.ok.hd,I3.ok.frames,.inl rfl,λb hb=>⟨?_,λx c e=>?_⟩,I3.bs,Nat.le_trans I3.ok.bsz I3.sz,λb o e hb=>?_,λb hb z=>?_,I3.stack,I3.stkFree⟩
  ·exact absurd (show ([]:List (Str×Addr)).lookup x=some c from e) (by simp)
  ·have e':scope.names.lookup x=some .cell\/scope.names.lookup x=some .free:=e
   rcases e' with e' | e'
   ·exact absurd rfl (hcell _ (PySem.mem_of_lookup e'))
   ·exact absurd rfl (hfree _ (PySem.mem_of_lookup e'))
  ·exact absurd (show ([]:List (Str×Addr)).lookup x=some c from e) (by simp)
  ·obtain⟨o,e,_⟩:=T.obj _ _ st3 b hb
   exact Nat.ne_of_lt (Heap.lt_size e)
  ·exact absurd (show ([]:List (Str×Addr)).lookup x=some c from e) (by simp)
  ·obtain⟨_,_,_,z,_⟩:=f3 b hb
   rcases z with z | z
   ·exact I3.ok.noex b o e z
   ·exact absurd (Nat.lt_of_lt_of_le (Heap.lt_size e) (Nat.le_trans I3.ok.bsz z)) (Nat.lt_irrefl _)
  ·obtain⟨_,z1,z2,_⟩:=f3 b hb
   rcases List.mem_cons.mp (I3.stkSub b z)with e | e
   ·exact z1 e
   ·exact z2 e
 have IB:Inv (xw X NB scope s3 H3 fp (xeC X scope pins σ Q s3)) [] (List.replicate NB.length none) H3 { s3 with heap:=h4,toks:=s3.toks+([]:List (Str×Value)).length }:=by
  refine⟨okB,rfl,I3.bare,Un.kept k34,⟨_,hns4,λi x v _ e _=>?_⟩,λx c e=>?_,I3.hok.fresh (Nat.le_refl _),λx c e=>?_,λp hp=>?_,I3.hok.kept k34,by simp[xw,xW]⟩
  ·rw[List.getElem?_replicate]at e
   split at e <;> cases e
  ·exact absurd (show ([]:List (Str×Addr)).lookup x=some c from e) (by simp)
  ·exact absurd (show ([]:List (Str×Addr)).lookup x=some c from e) (by simp)
  ·exact absurd (show p∈([]:List (Addr×Obj))from hp) (by simp)
 have st4:tn 0 h4:=T.keep _ _ _ st3 λb _ o e=>k34 b o e
 have C_ne:∀b∈fp,b≠s3.heap.objs.size:=λb hb=>(okB.exf b hb).1
 have stat:∀{H':Hp},(∀b∈fp,H' b=none)->∀b∈fp,jq (xw X NB scope s3 H3 fp (xeC X scope pins σ Q s3)) [] H' b:=λhn b hb =>
  ⟨hn b hb,C_ne b hb,okB.exfs b hb,.inl hb,λx c e=>absurd (show ([]:List (Str×Addr)).lookup x=some c from e) (by simp),λp hp=>absurd (show p∈([]:List (Addr×Obj))from hp) (by simp)⟩
 have bB:ZA (xw X NB scope s3 H3 fp (xeC X scope pins σ Q s3)) (λC d _ H'=>Jx C d σ H'):=by
  intro pinsB σB Hb sb a C H' s' B a0 dct IJ F q
  have F:Fly X.prog X.w X.stack Hb sb C H' a s' B a0 dct:=F
  have hfrm:X.A.frames=some (X.env::X.outer):=by rw[<-hst];exact I3.ok.frames
  have Ffl:FlX B (X.env::X.outer) a (.ref C) a0 dct s'.heap:=by rw[<-hst];exact F.fly
  have baseU:Un (frs X.stack) fp H3 Hb s3.heap sb.heap:=IJ.base
  have freeL:Hb s3.heap.objs.size=none:=IJ.free
  obtain⟨mL,hnsL,_⟩:=IJ.loc
  have hnsL:sb.heap.Ns s3.heap.objs.size mL:=hnsL
  obtain⟨oL,es,ep,hoL,rL⟩:=id hnsL
  have nfr:s3.heap.objs.size∉frs X.stack:=λz=>by
   rcases List.mem_cons.mp (I3.stkSub _ z)with r | r
   ·exact absurd (I3.lt) (by rw[r];exact Nat.lt_irrefl _)
   ·exact absurd r (I3.nofs (Nat.le_refl _))
  have BL:B.get? s3.heap.objs.size=some oL:=(F.kb _ oL hoL nfr).2 freeL
  have HL:H' s3.heap.objs.size=none:=F.un.free _ oL hoL freeL (by simp)
  show wpAny (model X.prog X.w) X.A (noteFrame (.ref a) X.env) _ _ s'
  refine zaB hfrm hfL Ffl λh2 fl2 up2=>?_
  refine⟨mL,⟨oL,es,ep,fl2.1 _ _ BL,rL⟩,λh3 sb3=>?_⟩
  show wpAny (model X.prog X.w) X.A (PySem.passOn "comprehension.variables-let-go" (.ref a) X.env) _ _ { s' with heap:=h3 }
  have fl3:FlN (PySem.W.hideAll B [s3.heap.objs.size]) (X.env::X.outer) a (.ref C) a0 dct L h3:=fl2.but sb3 BL
  refine Jt hfL fl3 λh4 fl4 up4=>?_
  have upT:∀b o,b≠s3.heap.objs.size->s'.heap.get? b=some o->(∀vs,o.data≠.fields vs)->∃sl,h4.get? b=some { o with slots:=sl }:=λb o nb e hn=>by
   obtain⟨sl2,e2⟩:=up2 b o e hn
   exact up4 b { o with slots:=sl2 } ((sb3.2 b nb).trans e2) hn
  have ne3:∀b o,s3.heap.get? b=some o->b≠s3.heap.objs.size:=λb o e=>Nat.ne_of_lt (Heap.lt_size e)
  have kb3:∀b o,s3.heap.get? b=some o->b∉frs X.stack->b∉fp->(∃o',(PySem.W.hideAll B [s3.heap.objs.size]).get? b=some o')/\(H3 b=none->(PySem.W.hideAll B [s3.heap.objs.size]).get? b=some o):=λb o e hb hx=>by
   have nb:b∉[s3.heap.objs.size]:=λz=>ne3 b o e (List.mem_singleton.mp z)
   obtain⟨o1,e1⟩:=baseU.there b o e hx
   obtain⟨⟨o2,e2⟩,_⟩:=F.kb b o1 e1 hb
   refine⟨⟨o2,PySem.W.hideAll_get _ e2 nb⟩,λhn=>PySem.W.hideAll_get _ ?_ nb⟩
   exact(F.kb b o (baseU.keep b o e hn hb hx) hb).2 (baseU.free b o e hn hx)
  have kt3:∀b u,H' b=some u->∃o,(PySem.W.hideAll B [s3.heap.objs.size]).get? b=some o:=λb u e=>by
   obtain⟨o,e1⟩:=F.kt b u e
   exact⟨o,PySem.W.hideAll_get _ e1 λz=>by rw[List.mem_singleton.mp z,HL]at e;cases e⟩
  refine hJ pins σ H3 s3 fp (λb hb=>?_) a C H' { s' with heap:=h4 } _ a0 dct I3 (F.os.trans ((show sb.os=s3.os from IJ.os).trans I3.os)) F.bare ?_ ?_ (by rw[hst];exact fl4) kb3 kt3 q
  ·obtain⟨_,_,_,z,_⟩:=f3 b hb
   rcases z with z | z
   ·rw[hex]at z;cases z
   ·exact z
  ·refine⟨λb o e hn hb hx=>fl4.1 b o ((kb3 b o e hb hx).2 hn),λb o e hn hb hx=>?_,λb o e hn hx=>?_,λb o e hx=>?_,λb xs e=>F.un.tups b xs (baseU.tups b xs e),λb o u e=>F.un.frzs b o u (baseU.frzs b o u e),λb ps e=>?_⟩
   ·obtain⟨sl1,e1⟩:=baseU.slot b o e hn hb hx
    obtain⟨sl2,e2⟩:=F.un.slot b _ e1 (baseU.free b o e hn hx) hb (by simp)
    obtain⟨_,o',ho',hd⟩:=F.fly.2.2.1.mem hb
    have z:some o'=some _:=ho'.symm.trans e2
    cases z
    obtain⟨sl3,e3⟩:=upT b _ (ne3 b o e) e2 hd
    exact⟨sl3,e3⟩
   ·obtain⟨o1,e1⟩:=baseU.there b o e hx
    exact F.un.free b o1 e1 (baseU.free b o e hn hx) (by simp)
   ·by_cases hb:b∈frs X.stack
    ·obtain⟨_,o',ho',hd⟩:=F.fly.2.2.1.mem hb
     obtain⟨sl,e1⟩:=upT b o' (ne3 b o e) ho' hd
     exact⟨_,e1⟩
    ·obtain⟨⟨o',e1⟩,_⟩:=kb3 b o e hb hx
     exact⟨o',fl4.1 b o' e1⟩
   ·obtain⟨m1,e1⟩:=baseU.tbls b ps e
    obtain⟨m2,e2⟩:=F.un.tbls b _ e1
    exact⟨m1++m2,by rw[e2,Array.append_assoc]⟩
  ·refine Xa F.hok (k1:=λb o e=>F.fly.1 b o (PySem.W.of_hideAll _ e)) (k2:=fl4.1) kt3
 obtain⟨hg,ht,he⟩:=hb s3 H3 fp (xeC X scope pins σ Q s3) _ bB
 have fin:∀{σ':St}{H':Hp}{s':Shared},Inv (xw X NB scope s3 H3 fp (xeC X scope pins σ Q s3)) [] σ' H' s'->Q (.ref D) H' →
   ∃m,s'.heap.Ns s3.heap.objs.size m/\∀h',Heap.SameBut s3.heap.objs.size s'.heap h'->EP X pins σ Q (.ref D) { s' with heap:=h' }:=λ{σ' H' s'} J q=>by
  obtain⟨m,hm,_⟩:=J.loc
  refine⟨m,hm,λh' sb=>⟨.ref D,H',?_,rfl,q⟩⟩
  have neC:∀b o,s3.heap.get? b=some o->b≠s3.heap.objs.size:=λb o e=>Nat.ne_of_lt (Heap.lt_size e)
  have hfr:H' s3.heap.objs.size=none:=J.free
  have up:∀b o,b≠s3.heap.objs.size->s'.heap.get? b=some o->h'.get? b=some o:=λb o hb e=>(sb.2 b hb).trans e
  have hok':HOk X.prog X.w H' h':=λb ob e=>(J.hok b ob e).stay (λc w' hc q=>up c w' (by
   rintro rfl
   rcases hc with rfl | hc
   ·rw[hfr]at e;cases e
   ·rw[hfr]at hc;cases hc) q) (λ_ q=>q) λ_ _ q=>q
  have u:Un (frs X.stack) fp H3 H' s3.heap h' :=
   ⟨λb o e n hb hx=>up b o (neC b o e) (J.base.keep b o e n hb hx),λb o e n hb hx=>by
    obtain⟨sl,e'⟩:=J.base.slot b o e n hb hx
    exact⟨sl,up b _ (neC b o e) e'⟩,J.base.free,λb o e hx=>by
    obtain⟨o',e'⟩:=J.base.there b o e hx
    exact⟨o',up b _ (neC b o e) e'⟩,J.base.tups,J.base.frzs,J.base.tbls⟩
  refine I3.call' (s':={ s' with heap:=h' }) (ch:=fp) J.os u hok' J.bare λb hb=>?_
  obtain⟨z0,z1,z2,z3,z4,z5⟩:=f3 b hb
  exact⟨z3,z1,z4,z5⟩
 have loop:∀s5:Shared,s5 = { s3 with heap:=h4,toks:=s3.toks+([]:List (Str×Value)).length } →
   codeAny (model X.prog X.w) X.A (.compLoop (.ListComp elt [⟨tg,iter,ifs,0⟩] scope pos) 0 (.ref it) (.ref D) (compEnv scope s3.heap.objs.size X.env))
    (λr s'=>∃m,s'.heap.Ns s3.heap.objs.size m/\∀h',Heap.SameBut s3.heap.objs.size s'.heap h' →
     match r with | .ok _=>EP X pins σ Q (.ref D) { s' with heap:=h' } | .error x=>wpAny (model X.prog X.w) X.A (PySem.passOn "comprehension.variables-let-go" x (compEnv scope s3.heap.objs.size X.env)) (EP X pins σ Q) X.xe { s' with heap:=h' }) s5:=by
  rintro s5 rfl
  refine Zx (λn s'=>∃i σ' H' ys,Inv (xw X NB scope s3 H3 fp (xeC X scope pins σ Q s3)) [] σ' H' s'/\tn i s'.heap/\(∀b∈fp,H' b=none)/\H' D=some (.lst ys)/\W i n H' ys) ?_ m0
   ⟨0,_,H3,[],IB,st4,λb hb=>(f3 b hb).1,h3D,by rw[<-hH3]at *;exact w0⟩
  rintro n s6 ⟨i,σ6,H6,ys,I6,st6,fr6,hD6,w6⟩
  rcases turn i n H6 ys w6 hD6 with⟨stop,qn⟩ | ⟨go,step⟩
  ·refine thn (T.done (xw X NB scope s3 H3 fp (xeC X scope pins σ Q s3)) rfl rfl rfl hc i [] s6 σ6 H6 _ I6 (stat fr6) st6 stop) λr s7 ⟨hr,I7⟩=>?_
   subst hr
   exact fin I7 qn
  ·refine thn (T.item (xw X NB scope s3 H3 fp (xeC X scope pins σ Q s3)) rfl rfl rfl hc i [] s6 σ6 H6 _ I6 (stat fr6) st6 go) λr s7 ⟨u,hr,h7⟩=>?_
   subst hr
   refine thn h7 λ_ s8 ⟨x,H8,I8,r8,y8,st8,fr8⟩=>?_
   have I8':=I8.pinned (stat fr8) (T.obj _ _ st8)
   have again:∀{σ9:St}{H9:Hp}{s9:Shared}{zs:List V}{m':Nat},Inv (xw X NB scope s3 H3 fp (xeC X scope pins σ Q s3)) ([]++v0 fp s8.heap) σ9 H9 s9->H9 D=some (.lst zs)->m'<n->W (i+1) m' H9 zs →
     ∃m,m<n/\∃i σ' H' ys,Inv (xw X NB scope s3 H3 fp (xeC X scope pins σ Q s3)) [] σ' H' s9/\tn i s9.heap/\(∀b∈fp,H' b=none)/\H' D=some (.lst ys)/\W i m H' ys:=λ{σ9 H9 s9 zs m'} I9 hz hm w9=>by
    refine⟨m',hm,i+1,σ9,H9,zs,I9.unpinned,T.keep _ _ _ st8 λb hb o e=>(I9.pin (b,o) (List.mem_append_right _ (List.mem_append_right _ (xG hb e)))).1,λb hb=>?_,hz,w9⟩
    obtain⟨o,e,d⟩:=T.obj _ _ st8 b hb
    exact(I9.pin (b,o) (List.mem_append_right _ (List.mem_append_right _ (xG hb e)))).2.1
   refine thn (hg _ s8 σ6 H8 x u _ I8' r8 (step σ6 x H8 I6.len y8)) λ_ s9 ⟨σ9,H9,I9,q9⟩=>?_
   refine thn (ht _ s9 σ9 H9 _ I9 q9) λok s10 ⟨H10,I10,q10⟩=>?_
   cases ok with
   | false =>
    rw[if_neg (by decide)]at q10 ⊢
    obtain⟨hz,m',hm,w'⟩:=q10
    exact again I10 hz hm w'
   | true =>
    rw[if_pos rfl]at q10 ⊢
    refine thn (he _ s10 σ9 H10 _ I10 q10) λy s11 ⟨v,H11,I11,r11,hz,hlen,m',hm,w'⟩=>?_
    refine thn (qH _ s11 σ9 H11 (.ref D) [v] (.ref D) [y] (λ_ H12=>H12=upd H11 D (.lst (ys++[v]))) I11 rfl (.cons r11 .nil) ⟨D,ys,v,rfl,rfl,hz,hlen,rfl⟩) λ_ s12 ⟨_,H12,I12,_,e12⟩=>?_
    subst e12
    exact again I12 zj hm w'
 exact codeAny_compStart_list (loop _ rfl) (T.self X.A 0 _ _ _ st4 (loop _ rfl))
end L2
end
section
set_option maxHeartbeats 4000000
set_option Elab.async false
set_option linter.all false
set_option maxRecDepth 100000
namespace L2
open PySem PySem.Spec PyProof.Rows PySem.Builtin.Str
section
variable {X:Cx}
theorem VS:ve X (.builtin "isinstance") (λxs H Q=>∃a ys n b,xs=[.ref a,.ty n]/\SqT X.K H a ys/\PySem.W.kitOne X.K (.type "tuple") (.type n)=some b/\Q (.bl b) H):=by
 intro pins s σ H xs us Q I r h
 obtain⟨a,ys,n,b,rfl,hq,e,q⟩:=h
 obtain⟨u,w',rfl,r1,r2⟩:=Q5 r
 cases(show u=Value.ref a from r1)
 cases(show w'=Value.type n from r2)
 obtain⟨its,rv,pl,hz⟩:=I.tuple hq
 exact PySem.W.kia_one PySem.W.kitx_tuple I.kIn pl.typeIs e (λz=>nomatch z) λtk=>⟨.bl b,H,I.tok tk,rfl,q⟩
end
end L2
end
section
set_option maxHeartbeats 4000000
set_option Elab.async false
set_option linter.all false
set_option maxRecDepth 100000
namespace L2
open PySem PySem.Spec PyProof.Rows PySem.Builtin.Str
section
variable {X:Cx}
def tF5 (c d:Str) (ta tb tn:TE):TE:=λσ H Q=>ta σ H λx H1=>∃u,x = .str u/\u.length<=1000/\tb σ H1 λy H2=>∃v,y = .str v/\v.length<=1000/\tn σ H2 λz H3=>∃n,z = .int n/\n.natAbs.log2<1920/\(Str.ofString (toString n)).length<=1000/\Q (.str (u++c++v++d++Str.ofString (toString n))) H3
theorem zdE {a b n:Expr}{ta tb tn:TE}{c d:Str}{j j':Nat}{p1 p2 p3 p4 p5 pos:Pos}(ha:PE X a ta) (hb:PE X b tb) (hn:PE X n tn) (hc:c.length<=1000) (hd:d.length<=1000) :
  PE X (.JoinedStr [.FormattedValue a (-1) none p1,.Constant (.str c) j p2,.FormattedValue b (-1) none p3,.Constant (.str d) j' p4,.FormattedValue n (-1) none p5] pos) (tF5 c d ta tb tn):=by
 intro pins s σ H Q I h
 refine JoinedStr_many (joinParts_cons (FormattedValue_plain (thn (ha pins s σ H _ I h) λv s1 ⟨x,H1,I1,r1,q1⟩=>?_)))
 obtain⟨u,rfl,lu,q1⟩:=q1
 obtain⟨t,rfl⟩:=r1
 have L:(6000:Nat)<=sizeLine:=by decide
 have e0:Str.empty++u=u:=by
  cases u;show Str.mk (#[]++_)=_;simp
 refine formatField_str (λt' tk=>⟨by rw[zk];show 0+_<=_;omega,joinParts_cons (Calls.Constant_str ⟨by rw[zk,zk];show 0+_+_<=_;omega,joinParts_cons (FormattedValue_plain (thn (hb pins _ σ H1 _ ((I1.tok (t:=tk)).tok (t:=tk+1)) q1) λv s2 ⟨y,H2,I2,r2,q2⟩=>?_))⟩)⟩) (by omega)
 obtain⟨v',rfl,lv,q2⟩:=q2
 obtain⟨t2,rfl⟩:=r2
 refine formatField_str (λt' tk=>⟨by rw[e0,zk,zk];omega,joinParts_cons (Calls.Constant_str ⟨by rw[e0,zk,zk,zk];omega,joinParts_cons (FormattedValue_plain (thn (hn pins _ σ H2 _ ((I2.tok (t:=tk)).tok (t:=tk+1)) q2) λv s3 ⟨z,H3,I3,r3,q3⟩=>?_))⟩)⟩) (by omega)
 obtain⟨i,rfl,li,lz,q3⟩:=q3
 obtain⟨t3,rfl⟩:=r3
 refine formatField_int_small li ⟨by rw[e0,zk,zk,zk,zk];omega,joinParts_nil (by rw[e0];exact⟨.str _,H3,I3.tok _,⟨_,rfl⟩,q3⟩) (by rw[e0,zk,zk,zk,zk];omega)⟩
def qE (a c d:Str):Str:=if((occurrences a c 0 a.length 1).isEmpty || (c.length == 0&&d.length == 0))=true then a else glued d (partsBetween a (occurrences a c 0 a.length 1) c.length)
theorem Vh {c:Prop}{d:Decidable c}{m n:Sem PySem.Fin}{r:Made}(h:c) (k:Gives m r):Gives (@ite _ c d m n) r:=by rw[if_pos h];exact k
theorem ZG {c:Prop}{d:Decidable c}{m n:Sem PySem.Fin}{r:Made}(h:¬c) (k:Gives n r):Gives (@ite _ c d m n) r:=by rw[if_neg h];exact k
theorem X8 (x y z:Str) (t u v w:Tok)
  (hf:((occurrences x y 0 x.length 1).isEmpty || (y.length == 0&&z.length == 0))=false →
   (u == 0 || v == 0)=false/\(u == v)=false/\(y == z)=false/\tooLong (x.length+(occurrences x y 0 x.length 1).length*z.length)=false) :
  Gives (Builtin.«str.replace» ⟨[.str x t,.str y u,.str z v,.int 1 w],[]⟩) (if((occurrences x y 0 x.length 1).isEmpty || (y.length == 0&&z.length == 0))=true then .val (.str x t)else .str (glued z (partsBetween x (occurrences x y 0 x.length 1) y.length))):=by
 cases hc:((occurrences x y 0 x.length 1).isEmpty || (y.length == 0&&z.length == 0))
 ·obtain⟨h0,huv,hyz,hl⟩:=hf hc
  refine ZG (λh=>absurd (hc.symm.trans h) Bool.false_ne_true) ?_
  rw[isSame_str_other y z u v h0 huv hyz]
  exact ZG (λh=>absurd (hl.symm.trans h) Bool.false_ne_true) (.of_eq rfl)
 ·exact Vh hc (.rule (.of_eq rfl))
theorem Vd {x z:Str}(y:Str) (hb:x.length+(x.length+1)*z.length<=16777216):(glued z (partsBetween x (occurrences x y 0 x.length 1) y.length)).length<=sizeLine:=by
 have h1:=StrLaws.occ_length_le x y 0 x.length 1
 have hy:(glued y (partsBetween x (occurrences x y 0 x.length 1) y.length)).length=x.length:=by rw[StrLaws.glued_between_self]
 rw[size_glued,length_partsBetween,Nat.add_sub_cancel]at hy
 rw[size_glued,length_partsBetween,Nat.add_sub_cancel,sizeLine_eq]
 have h2:(occurrences x y 0 x.length 1).length*z.length<=(x.length+1)*z.length:=Nat.mul_le_mul_right _ (by omega)
 omega
def zd4 (te:TE) (c:Str) (t:TA):TA:=λσ H Q=>te σ H λx H1=>∃a,x = .str a/\a.length+c.length<=sizeLine/\t σ H1 λxs H2=>Q (.str (a++c)::xs) H2
theorem zaZ {e:Expr}{te:TE}{c:Str}{cp pos:Pos}{k:Nat}{es:List Expr}{t:TA}(he:PE X e te) (hr:PAp X es t) (hs:starEach (.BinOp e .Add (.Constant (.str c) k cp) pos::es) X.env=(false,eval (.BinOp e .Add (.Constant (.str c) k cp) pos) X.env)::starEach es X.env:=by rfl) :
  PA X (.BinOp e .Add (.Constant (.str c) k cp) pos::es) (zd4 te c t):=by
 intro pos' pins s σ H Q I h
 rw[hs]
 refine Calls.spliced_cons (wpAny_BinOp (thn (he pins s σ H _ I h) λu s1 ⟨x,H1,I1,r1,q1⟩=>?_))
 obtain⟨a,rfl,hz,q⟩:=q1
 obtain⟨tu,rfl⟩:=r1
 refine Calls.Constant_str (PySem.P.add_str ?_)
 have fin:∀(y:Str) (ty tk:Nat),y=a++c->0<tk->wpAny (model X.prog X.w) X.A (spliced (backTo pos' (starEach es X.env))) (λus s2=>AP X pins σ Q (.str y ty::us) s2) X.xe { s1 with toks:=tk }:=λy ty tk ey h0 =>
  thn (hr pos' pins _ σ H1 _ (I1.tok (t:=tk)) h0 q) λus s2 ⟨xs,H2,I2,r2,q2⟩=>⟨.str y::xs,H2,I2,.cons ⟨_,rfl⟩ r2,by rw[ey];exact q2⟩
 by_cases z1:(a.length == 0)=true
 ·rw[if_pos z1]
  have:a = ⟨#[]⟩:=jX z1
  exact fin c _ _ (by rw[this];cases c;show _=Str.mk (#[]++_);simp) (Nat.succ_pos _)
 ·rw[if_neg z1]
  by_cases z2:(c.length == 0)=true
  ·rw[if_pos z2]
   have:c = ⟨#[]⟩:=jX z2
   exact fin a _ _ (by rw[this];cases a;show _=Str.mk (_++#[]);simp) (Nat.succ_pos _)
  ·rw[if_neg z2]
   exact⟨by rw[strLen_append];exact hz,fin _ _ _ rfl (Nat.succ_pos _)⟩
def zd3 (c:Str) (i:Nat) (t:TA):TA:=λσ H Q=>∃a,σ[i]? = some (some (.str a))/\c.length+a.length<=sizeLine/\t σ H λxs H1=>Q (.str (c++a)::xs) H1
theorem zaY {i:Nat}{x:Str}{c:Str}{np cp pos:Pos}{k:Nat}{es:List Expr}{t:TA}(hr:PAp X es t) (hN:X.N[i]? = some x:=by rfl) (hv:Vis X.env.scope x:=by first | exact Or.inl rfl | exact Or.inr (Or.inl rfl) | exact Or.inr (Or.inr rfl)) (hd:(x == ("__debug__":Str))=false:=by decide)
  (hcd:(x == ("__classdict__":Str))=false:=by decide) (hs:starEach (.BinOp (.Constant (.str c) k cp) .Add (.Name x np) pos::es) X.env=(false,eval (.BinOp (.Constant (.str c) k cp) .Add (.Name x np) pos) X.env)::starEach es X.env:=by rfl) :
  PA X (.BinOp (.Constant (.str c) k cp) .Add (.Name x np) pos::es) (zd3 c i t):=by
 intro pos' pins s σ H Q I h
 obtain⟨a,e,hz,q⟩:=h
 rw[hs]
 refine Calls.spliced_cons (wpAny_BinOp (Calls.Constant_str (zal hN hv hd hcd (I.tok (t:=s.toks+1)) e λu ru=>?_)))
 obtain⟨tu,rfl⟩:=ru
 refine PySem.P.add_str ?_
 have fin:∀(y:Str) (ty tk:Nat),y=c++a->0<tk->wpAny (model X.prog X.w) X.A (spliced (backTo pos' (starEach es X.env))) (λus s2=>AP X pins σ Q (.str y ty::us) s2) X.xe { s with toks:=tk }:=λy ty tk ey h0 =>
  thn (hr pos' pins _ σ H _ (I.tok (t:=tk)) h0 q) λus s2 ⟨xs,H2,I2,r2,q2⟩=>⟨.str y::xs,H2,I2,.cons ⟨_,rfl⟩ r2,by rw[ey];exact q2⟩
 by_cases z1:(c.length == 0)=true
 ·rw[if_pos z1]
  have:c = ⟨#[]⟩:=jX z1
  exact fin a _ _ (by rw[this];cases a;show _=Str.mk (#[]++_);simp) (Nat.succ_pos _)
 ·rw[if_neg z1]
  by_cases z2:(a.length == 0)=true
  ·rw[if_pos z2]
   have:a = ⟨#[]⟩:=jX z2
   exact fin c _ _ (by rw[this];cases c;show _=Str.mk (_++#[]);simp) (Nat.succ_pos _)
  ·rw[if_neg z2]
   exact⟨by rw[strLen_append];exact hz,fin _ _ _ rfl (Nat.succ_pos _)⟩
def zea (i:Nat) (c d:Str) (t:TA):TA:=λσ H Q=>∃a,σ[i]? = some (some (.str a))/\a.length+(a.length+1)*d.length<=16777216/\t σ H λxs H1=>Q (.str (qE a c d)::xs) H1
theorem QL {i:Nat}{x:Str}{c d:Str}{np ap cp dp ep pos:Pos}{k k' k'':Nat}{es:List Expr}{t:TA}(hr:PAp X es t) (hne:(c == d)=false:=by decide) (hline:(ap.endLine == pos.line)=true:=by rfl) (hN:X.N[i]? = some x:=by rfl) (hv:Vis X.env.scope x:=by first | exact Or.inl rfl | exact Or.inr (Or.inl rfl) | exact Or.inr (Or.inr rfl)) (hd:(x == ("__debug__":Str))=false:=by decide) (hcd:(x == ("__classdict__":Str))=false:=by decide)
  (hs:starEach (.Call (.Attribute (.Name x np) "replace" ap) [.Constant (.str c) k cp,.Constant (.str d) k' dp,.Constant (.int 1) k'' ep] [] pos::es) X.env=(false,eval (.Call (.Attribute (.Name x np) "replace" ap) [.Constant (.str c) k cp,.Constant (.str d) k' dp,.Constant (.int 1) k'' ep] [] pos) X.env)::starEach es X.env:=by rfl) :
  PAp X (.Call (.Attribute (.Name x np) "replace" ap) [.Constant (.str c) k cp,.Constant (.str d) k' dp,.Constant (.int 1) k'' ep] [] pos::es) (zea i c d t):=by
 intro pos' pins s σ H Q I h0 h
 obtain⟨a,e,hz,q⟩:=h
 rw[hs]
 refine Calls.spliced_cons (wpAny_Call_method_late rfl rfl hline rfl (zal hN hv hd hcd I e λu ru=>?_))
 obtain⟨tu,rfl⟩:=ru
 refine⟨"str","str.replace",PySem.F.plainAttrs_str,PySem.F.slot_str_replace,PySem.F.type_str_replace,typeIs_str _ _ _,(λ_ z=>nomatch z),?_⟩
 refine Calls.callWith_builtin rfl (Calls.evalArgs_plain (Calls.spliced_cons (Calls.Constant_str (k:=k) (pos:=cp) (Calls.spliced_cons (Calls.Constant_str (k:=k') (pos:=dp) (Calls.spliced_cons (wpAny_Constant_int (k:=k'') (pos:=ep) (Calls.spliced_nil ?_))))))))
 have fin:∀(ty tk:Nat),0<tk->wpAny (model X.prog X.w) X.A (spliced (backTo pos' (starEach es X.env))) (λus s2=>AP X pins σ Q (.str (qE a c d) ty::us) s2) X.xe { s with toks:=tk }:=λty tk h0 =>
  thn (hr pos' pins _ σ H _ (I.tok (t:=tk)) h0 q) λus s2 ⟨xs,H2,I2,r2,q2⟩=>⟨.str _::xs,H2,I2,.cons ⟨_,rfl⟩ r2,q2⟩
 have hone:=StrLaws.occ_length_le a c 0 a.length 1
 have hl:tooLong (a.length+(occurrences a c 0 a.length 1).length*d.length)=false:=by
  have h2:(occurrences a c 0 a.length 1).length*d.length<=(a.length+1)*d.length:=Nat.mul_le_mul_right _ (by omega)
  unfold tooLong
  exact decide_eq_false (by rw[sizeLine_eq];omega)
 refine call_gives F.slot_str_replace (typeIs_str _ _ _) F.entry_str_replace (F.args_str_replace_4 _ _ _ _) (X8 a c d tu s.toks (s.toks+1) (s.toks+1+1) λ_=>⟨Bool.or_eq_false_iff.mpr ⟨beq_eq_false_iff_ne.mpr (Nat.ne_of_gt h0),beq_eq_false_iff_ne.mpr (Nat.succ_ne_zero _)⟩,beq_eq_false_iff_ne.mpr (Nat.ne_of_lt (Nat.lt_succ_self _)),hne,hl⟩) ?_
 have ft:=fin
 unfold qE at ft
 cases hc:((occurrences a c 0 a.length 1).isEmpty || (c.length == 0&&d.length == 0))
 ·rw[hc]at ft
  simp only[Bool.false_eq_true,if_false]at ft ⊢
  exact⟨Vd c hz,ft _ _ (by simp)⟩
 ·rw[hc]at ft
  simp only[if_true]at ft ⊢
  exact ft tu _ (by simp)
end
end L2
end
section
set_option maxHeartbeats 8000000
set_option Elab.async false
set_option linter.all false
set_option maxRecDepth 100000
namespace L2
open PySem PySem.Spec PyProof.Rows
section
variable {prog:Program}{w:World}{A:Around}{E:Value->Shared->Prop}{s:Shared}
theorem XD {h h':Heap}{l a:Addr}{items:Array Value}(hl:h.IsList l items) (he:Heap.ExtBut a h h') (n:l≠a):h'.IsList l items:=by
 obtain⟨o,ho,r⟩:=hl
 exact⟨o,he l o n ho,r⟩
theorem j8 {it l:Addr}{items:Array Value}(hne:l≠it):∀(n i:Nat) (s:Shared) (Q:List Value->Shared->Prop),s.heap.IsListIter it l i->s.heap.IsList l items->i+n<=items.size →
  (∀h',h'.IsListIter it l (i+n)->Heap.SameBut it s.heap h'->Q ((items.toList.drop i).take n) { s with heap:=h' })->wpAny (model prog w) A (draw (.ref it) n) Q E s
 | 0,i,s,Q,hit,_,_,hQ=>by
  show wpAny _ _ (pure []) Q E s
  exact wpAny_pure (by simpa using hQ s.heap hit (Heap.SameBut.refl ..))
 | n+1,i,s,Q,hit,ht,hle,hQ=>by
  have hlt:i<items.size:=by omega
  show wpAny _ _ (pyNext (.ref it) >>= _) Q E s
  refine wpAny_bind (wpAny_pyNext_list_item hit ht (x:=items[i]) (by simp[hlt]) λh₁ hit₁ hs₁=>?_)
  refine wpAny_bind (wpAny_holding (j8 hne n (i+1) _ _ hit₁ (XD ht hs₁.extBut hne) (by omega) λh₂ hit₂ hs₂=>wpAny_pure ?_))
  have hd:items.toList.drop i=items[i]::items.toList.drop (i+1):=by simp[List.drop_eq_getElem_cons,hlt]
  have:=hQ h₂ (by rw[show i+(n+1)=i+1+n by omega];exact hit₂) (hs₁.trans hs₂)
  rw[hd,List.take_succ_cons]at this
  exact this
theorem jn {l:Addr}{items:Array Value}{Q:List Value->Shared->Prop}(hh:A.handled=none) (ht:s.heap.IsList l items)
  (hQ:∀h',Heap.ExtBut s.heap.objs.size s.heap h'->Q items.toList { s with heap:=h' }):wpAny (model prog w) A (unpackItems (.ref l) items.size none) Q E s:=by
 have hlt:l≠s.heap.objs.size:=by obtain⟨o,ho,_⟩:=ht;exact Nat.ne_of_lt (Heap.lt_size ho)
 have pu:(s.heap.push { cls:=.type "list_iterator",data:=.fields #[.ref l,.int 0 0] }).IsList l items:=by
  obtain⟨o,ho,r⟩:=ht;exact⟨o,Heap.get?_push_of_some _ ho,r⟩
 unfold unpackItems
 refine wpAny_bind ?_
 unfold notIterableAtAll
 refine wpAny_bind (wpAny_specialOf ht.typeIs slot_list_iter.lookup ?_)
 refine wpAny_pure ?_
 simp only[Bool.false_eq_true,if_false]
 refine wpAny_bind (wpAny_holding (wpAny_pyIter_list ht ?_))
 refine wpAny_bind (wpAny_holding (j8 hlt items.size 0 _ _ ⟨_,Heap.get?_push_size _ rfl,rfl,rfl⟩ pu (by omega) λh₁ hit₁ hs₁=>?_))
 have hall:List.take items.size (List.drop 0 items.toList)=items.toList:=by
  rw[List.drop_zero];exact List.take_of_length_le (by simp)
 rw[hall]
 rw[if_neg (by simp)]
 have ht₁:h₁.IsList l items:=XD pu hs₁.extBut hlt
 refine wpAny_bind (wpAny_holding (wpAny_pyNext_list_end hh hit₁ ht₁ (by simp) λh₂ he₂=>?_))
 simp only[Option.isSome_none,Bool.false_eq_true,if_false]
 refine wpAny_pure (hQ h₂ λb o hb e=>he₂ b o hb (hs₁.extBut b o hb (Heap.get?_push_of_some _ e)))
end
section
variable {X:Cx}{pos:Pos}
def zdj (K:PySem.W.Frag) (n:Nat) (t:TGs):TG:=λv σ H Q=>∃a xs,v = .ref a/\SqL K H a xs/\xs.length=n/\t xs σ H Q
theorem za3 {es:List Expr}{k:Nat}{t:TGs}{n:Nat}(hc:X.calm=true) (h:PGs X es t)
  (hn:(assignEach es X.env).length=n:=by rfl) (hst:(assignEach es X.env).findIdx? (·.1)=none:=by rfl):PG X (.Tuple es k pos) (zdj X.K n t):=by
 intro pins s σ H v u Q I r hw
 obtain⟨a,xs,e1,hq,hl,hw⟩:=hw
 subst e1
 cases r
 obtain⟨its,rv,ht,hz⟩:=I.list hq
 rw[assign_Tuple]
 refine wpAny_bind (wpAny_standAt ?_)
 unfold unpack
 have hsz:(assignEach es X.env).length=its.toArray.size:=by simp[hn,<-hl,rv.length]
 rw[hsz,hst]
 refine wpAny_bind (wpAny_holding (jn (I.ok.hd hc) ht.isList λh' hx=>?_))
 have I1:Inv X pins σ H { s with heap:=h' }:=I.kept (t':=s.toks) λb o e=>hx b o (Nat.ne_of_lt (Heap.lt_size e)) e
 exact h pins _ σ H xs _ Q I1 (by simpa using rv) hw
end
end L2
end
section
set_option maxHeartbeats 4000000
set_option Elab.async false
set_option linter.all false
set_option maxRecDepth 100000
namespace KK
open PySem PySem.Builtin.Str PySem.NumText
def TX (l:List Nat):Str:=⟨l.toArray⟩
theorem qf (l:List Nat):(TX l).cps.toList=l:=by simp[TX]
theorem vA (x:Str):TX x.cps.toList=x:=by cases x;simp[TX]
theorem zx (l:List Nat):(TX l).length=l.length:=by simp[TX,Str.length]
theorem zF (a b:List Nat):TX a++TX b=TX (a++b):=by show Str.mk (a.toArray++b.toArray)=Str.mk (a++b).toArray;simp
theorem zaj {a b:List Nat}(h:TX a=TX b):a=b:=by rw[<-qf a,h,qf]
theorem v7 (l:List Nat) (i j:Nat):strSub (TX l) i j=TX ((l.drop i).take (j - i)):=by
 rw[<-vA (strSub (TX l) i j),StrLaws.strSub_toList,qf]
theorem VO {l ys:List Nat}{k:Nat}:StrLaws.At (TX l) (TX ys) (TX l).length k↔k+ys.length<=l.length/\(l.drop k).take ys.length=ys:=by
 unfold StrLaws.At
 rw[StrLaws.subAt_eq,qf,qf,zx,zx,beq_iff_eq]
theorem v8 {l ys:List Nat}{k j c:Nat}(h:StrLaws.At (TX l) (TX ys) (TX l).length k) (e:ys[j]? = some c):l[k+j]? = some c:=by
 obtain⟨_,h⟩:=VO.mp h
 have hj:j<ys.length:=(List.getElem?_eq_some_iff.mp e).1
 rw[<-h,List.getElem?_take_of_lt hj,List.getElem?_drop]at e
 exact e
theorem X1 (a ys b:List Nat):StrLaws.At (TX (a++ys++b)) (TX ys) (TX (a++ys++b)).length a.length:=by
 refine VO.mpr ⟨by simp,?_⟩
 rw[List.append_assoc,List.drop_left,List.take_left]
theorem QC (x:Str):1<=Builtin.Str.strKind x:=by unfold Builtin.Str.strKind;split;decide;split <;> decide
theorem J7 {x y:Str}(hy:1<=y.length) (h:∀k,¬StrLaws.At x y x.length k):Txt.split x y=[x]:=by
 obtain⟨f,hG,hn⟩:=StrLaws.occ_tight x y hy
 unfold Txt.split
 split
 ·rfl
 ·split
  ·rfl
  ·rename_i he
   exfalso
   cases ho:occurrences x y 0 x.length (x.length+1)with
   | nil=>rw[ho]at he;exact he rfl
   | cons c r=>rw[ho]at hG;exact h c hG.2.1
theorem zaD {x y:Str}{p:Nat}(hy:1<=y.length) (h:∀k,StrLaws.At x y x.length k↔k=p):occurrences x y 0 x.length (x.length+1)=[p]:=by
 obtain⟨f,hG,hn⟩:=StrLaws.occ_tight x y hy
 have hp:=(h p).mpr rfl
 cases ho:occurrences x y 0 x.length (x.length+1)with
 | nil=>rw[ho]at hG;have e:f=0:=hG;exact absurd hp (hn p (by omega))
 | cons c r =>
  rw[ho]at hG
  have ec:c=p:=(h c).mp hG.2.1
  subst ec
  cases r with
  | nil=>rfl
  | cons d r=>have ed:=(h d).mp hG.2.2.2.2.1;have:=hG.2.2.2.1;omega
theorem VF {x y:Str}{p:Nat}(hy:1<=y.length) (hk:Builtin.Str.strKind y=1) (h:∀k,StrLaws.At x y x.length k↔k=p):Txt.split x y=[strSub x 0 p,strSub x (p+y.length) x.length]:=by
 have hp:=(h p).mpr rfl
 have ho:=zaD hy h
 have hf:¬(decide (x.length<y.length) || decide (Builtin.Str.strKind x<Builtin.Str.strKind y))=true:=by
  have h1:=hp.1
  have h2:=QC x
  rw[hk]
  simp only[Bool.or_eq_true,decide_eq_true_eq]
  omega
 unfold Txt.split
 rw[if_neg hf,ho,if_neg (by simp),StrLaws.partsBetween_eq]
 rfl
theorem JD {a ys b:List Nat}{n j0 c:Nat}(ha:c∉a) (hb:c∉b) (hu:∀i,ys[i]? = some c->i=j0) (h:(a++ys++b)[n]? = some c):n=a.length+j0:=by
 rw[List.append_assoc]at h
 rcases Nat.lt_or_ge n a.length with z | z
 ·rw[List.getElem?_append_left z]at h;exact absurd (List.mem_of_getElem? h) ha
 ·rw[List.getElem?_append_right z]at h
  rcases Nat.lt_or_ge (n - a.length) ys.length with z2 | z2
  ·rw[List.getElem?_append_left z2]at h
   have:=hu _ h
   omega
  ·rw[List.getElem?_append_right z2]at h;exact absurd (List.mem_of_getElem? h) hb
theorem J6 {a ys b:List Nat}{j0 c:Nat}(hj:ys[j0]? = some c) (hk:Builtin.Str.strKind (TX ys)=1) (ha:c∉a) (hb:c∉b) (hu:∀i,ys[i]? = some c->i=j0):Txt.split (TX (a++ys++b)) (TX ys)=[TX a,TX b]:=by
 have hl:1<=ys.length:=by have:=(List.getElem?_eq_some_iff.mp hj).1;omega
 rw[VF (p:=a.length) (by rw[zx];exact hl) hk λk=>⟨λh=>?_,λe=>by rw[e];exact X1 a ys b⟩]
 ·rw[v7,v7,zx,zx]
  have e1:((a++ys++b).drop 0).take (a.length - 0)=a:=by simp
  have e2:((a++ys++b).drop (a.length+ys.length)).take ((a++ys++b).length - (a.length+ys.length))=b:=by
   rw[show a.length+ys.length=(a++ys).length by simp,List.drop_left]
   exact List.take_of_length_le (by simp;omega)
  rw[e1,e2]
 ·have:=JD ha hb hu (v8 h hj)
  omega
theorem split_free {l ys:List Nat}{j0 c:Nat}(hj:ys[j0]? = some c) (hl:c∉l):Txt.split (TX l) (TX ys)=[TX l] :=
 J7 (by rw[zx];have:=(List.getElem?_eq_some_iff.mp hj).1;omega) λk h=>hl (List.mem_of_getElem? (v8 h hj))
theorem Xm {x y p:Str}(h:Txt.split x y=[p]):p=x:=by
 have:=StrLaws.join_split x y
 rw[h]at this
 exact this
theorem vI (x y:Str):∃p r,Txt.split x y=p::r:=by
 unfold Txt.split
 split
 ·exact⟨_,_,rfl⟩
 ·split
  ·exact⟨_,_,rfl⟩
  ·rw[StrLaws.partsBetween_eq];exact StrLaws.partsFrom_ne ..
theorem ZR (l:List Nat) (a:Nat):∀m:Nat,((List.range m).map (a + ·)).filterMap (l.toArray[·]?)=(l.drop a).take m
 | 0=>by simp
 | m+1=>by
  rw[List.range_succ,List.map_append,List.filterMap_append,ZR l a m,List.take_add_one,List.getElem?_drop]
  congr 1
  cases h:l[a+m]? with
  | none=>simp[h]
  | some c=>simp[h]
theorem XS {x:Str}{lo hi:Option Int}{a b:Nat}(h:strSliceIndices lo hi 1 x.length=sliceRange a b 1) (hb:b<=x.length):Txt.slice x lo hi=TX ((x.cps.toList.drop a).take (b - a)):=by
 unfold Txt.slice
 rw[h,sliceRange_one]
 have hx:x.cps.toList.length=x.length:=by simp[Str.length]
 split
 ·rename_i hc
  have e:b - a=x.length:=by simpa using hc
  have ha:a=0\/x.length=0:=by omega
  conv=>lhs;rw[<-vA x]
  congr 1
  rw[List.take_of_length_le (by rw[List.length_drop];omega)]
  rcases ha with rfl | z
  ·simp
  ·have:x.cps.toList=[]:=List.length_eq_zero_iff.mp (by omega)
   rw[this];simp
 ·have:=ZR x.cps.toList a (b - a)
  rw[<-this]
  show Str.mk _=Str.mk _
  congr 2
theorem v5 (x:Str) (i:Nat):Txt.slice x (some (i:Int)) none=TX (x.cps.toList.drop i):=by
 have hx:x.cps.toList.length=x.length:=by simp[Str.length]
 rw[XS (a:=min i x.length) (b:=x.length) ?_ (Nat.le_refl _)]
 ·rw[List.take_of_length_le (by rw[List.length_drop];omega)]
  congr 1
  rcases Nat.le_total i x.length with z | z
  ·rw[Nat.min_eq_left z]
  ·rw[Nat.min_eq_right z,List.drop_of_length_le (by omega),List.drop_of_length_le (by omega)]
 ·unfold strSliceIndices
  simp only[show (1:Int)>0 by decide,if_true]
  congr 1
  rw[if_neg (by omega)]
  omega
theorem Qn (x:Str) (j:Nat):Txt.slice x none (some (j:Int))=TX (x.cps.toList.take j):=by
 have hx:x.cps.toList.length=x.length:=by simp[Str.length]
 rw[XS (a:=0) (b:=min j x.length) ?_ (Nat.min_le_right _ _)]
 ·rw[List.drop_zero,Nat.sub_zero]
  congr 1
  rcases Nat.le_total j x.length with z | z
  ·rw[Nat.min_eq_left z]
  ·rw[Nat.min_eq_right z,List.take_of_length_le (by omega),List.take_of_length_le (by omega)]
 ·unfold strSliceIndices
  simp only[show (1:Int)>0 by decide,if_true]
  congr 1
  rw[if_neg (by omega)]
  omega
theorem Zv (x:Str) (c:Nat):Txt.startswith x ⟨#[c]⟩=decide (x.cps.toList.head? = some c):=by
 have hx:x.cps.toList.length=x.length:=by simp[Str.length]
 unfold Txt.startswith
 rw[StrLaws.subAt_eq]
 show (decide (0+1<=x.length)&&((x.cps.toList.drop 0).take 1 == [c]))=_
 rw[List.drop_zero,<-hx]
 cases x.cps.toList with
 | nil=>rfl
 | cons d r =>
  simp
  by_cases e:d=c
  ·simp[e]
  ·simp[e]
end KK
end
section
set_option maxHeartbeats 4000000
set_option Elab.async false
set_option linter.all false
set_option maxRecDepth 100000
namespace KK
open PySem PySem.Builtin.Str PySem.NumText
def vd (c:Nat):Bool:=decide (48<=c)&&decide (c<=57)
def qe (l:List Nat):Bool:=decide (1<=l.length)&&decide (l.length<=300)&&l.all vd&&(decide (l=[48]) || !decide (l.head? = some 48))
def rdN (x:Str):Option Int:=if qe x.cps.toList=true then some ((digitsVal x.cps.toList:Nat):Int)else none
def rdW (x:Str):Option Int:=if x.cps.toList.head? = some 45 then(match rdN (TX (x.cps.toList.drop 1))with | some n=>if n=0 then none else some (-n) | none=>none)else rdN x
def xT (t u:Int):Bool:=decide (1<=u)&&decide ((Int.gcd (t.natAbs:Int) u:Nat)=1)
def rdR (x:Str):Option (Int×Int):=match Txt.split x (TX [47])with
 | [_]=>(rdW x).map λt=>(t,1)
 | [a,b]=>(match rdW a,rdN b with
  | some t,some u=>if decide (u=1)=false/\xT t u=true then some (t,u)else none
  | _,_=>none)
 | _=>none
abbrev Wx:=Option ((Int×Int)×(Int×Int))
def fig (n:Nat):List Nat:=(Nat.toDigits 10 n).map Char.toNat
theorem jx {n:Nat}(h:n<10):fig n=[48+n]:=by
 unfold fig
 rw[Nat.toDigits_of_lt_base h]
 have:∀m:Nat,m<10->(Nat.digitChar m).toNat=48+m:=by decide
 show [(Nat.digitChar n).toNat]=_
 rw[this n h]
theorem X7 {n:Nat}(h:10<=n):fig n=fig (n/10)++[48+n % 10]:=by
 have hm:n % 10<10:=Nat.mod_lt n (by decide)
 have t:Nat.toDigits 10 (n/10)++Nat.toDigits 10 (n % 10)=Nat.toDigits 10 (10*(n/10)+n % 10):=Nat.toDigits_append_toDigits (by decide) (by omega) hm
 rw[Nat.div_add_mod]at t
 have:fig n=fig (n/10)++fig (n % 10):=by unfold fig;rw[<-t,List.map_append]
 rw[this,jx hm]
theorem vg (n:Nat):(∀c∈fig n,48<=c/\c<=57)/\fig n≠[]/\digitsVal (fig n)=n/\(0<n->(fig n).head?≠some 48):=by
 induction n using Nat.strongRecOn with
 | _ n ih =>
  by_cases h:n<10
  ·rw[jx h]
   refine⟨λc m=>?_,by simp,?_,λz=>?_⟩
   ·cases List.mem_singleton.mp m;omega
   ·show 0*10+(48+n - 48)=n;omega
   ·show some (48+n)≠some 48
    intro e;injection e with e;omega
  ·obtain⟨a1,a2,a3,a4⟩:=ih (n/10) (by omega)
   rw[X7 (by omega)]
   refine⟨λc m=>?_,by simp,?_,λ_=>?_⟩
   ·rcases List.mem_append.mp m with m | m
    ·exact a1 c m
    ·cases List.mem_singleton.mp m;omega
   ·rw[digitsVal_snoc,a3];omega
   ·rw[List.head?_append]
    have:=a4 (by omega)
    cases hf:fig (n/10)with
    | nil=>exact absurd hf a2
    | cons c r=>rw[hf]at this;simpa using this
theorem vM {n k:Nat}(hk:0<k) (h:n<10^k):(fig n).length<=k:=by
 induction k generalizing n with
 | zero=>omega
 | succ k ih =>
  by_cases z:n<10
  ·rw[jx z];simp
  ·have hk0:0<k:=by
    rcases Nat.eq_zero_or_pos k with rfl | z2
    ·simp at h;omega
    ·exact z2
   rw[X7 (by omega),List.length_append]
   have:=ih (n:=n/10) hk0 (by rw[Nat.pow_succ]at h;omega)
   simpa using this
theorem zcr {n:Nat}(h:n<10^300):qe (fig n)=true:=by
 obtain⟨a1,a2,a3,a4⟩:=vg n
 have hl:=vM (k:=300) (by decide) h
 have h1:1<=(fig n).length:=by
  cases hf:fig n with
  | nil=>exact absurd hf a2
  | cons c r=>simp
 unfold qe
 rw[decide_eq_true h1,decide_eq_true (show (fig n).length<=300 by omega),List.all_eq_true.mpr λc m=>by unfold vd;rw[decide_eq_true (a1 c m).1,decide_eq_true (a1 c m).2];rfl]
 by_cases z:n=0
 ·subst z;rw[jx (by decide)];rfl
 ·rw[decide_eq_false (a4 (by omega))];simp
theorem jR {n:Nat}(h:n<10^300):rdN (TX (fig n))=some (n:Int):=by
 unfold rdN
 rw[qf,if_pos (zcr h),(vg n).2.2.1]
def ntL (n:Int):List Nat:=if n<0 then 45::fig n.natAbs else fig n.natAbs
def rtL (r:Int×Int):List Nat:=if r.2=1 then ntL r.1 else ntL r.1++[47]++ntL r.2
theorem vZ {n:Int}{c:Nat}(h:c∈ntL n):c=45\/(48<=c/\c<=57):=by
 unfold ntL at h
 split at h
 ·rcases List.mem_cons.mp h with e | h
  ·exact .inl e
  ·exact .inr ((vg _).1 c h)
 ·exact .inr ((vg _).1 c h)
theorem JQ {r:Int×Int}{c:Nat}(h:c∈rtL r):c=45\/(47<=c/\c<=57):=by
 unfold rtL at h
 split at h
 ·rcases vZ h with e | e <;> omega
 ·rcases List.mem_append.mp h with h | h
  ·rcases List.mem_append.mp h with h | h
   ·rcases vZ h with e | e <;> omega
   ·cases List.mem_singleton.mp h;omega
  ·rcases vZ h with e | e <;> omega
theorem JN {t:Int}(h:t.natAbs<10^300):rdW (TX (ntL t))=some t:=by
 unfold rdW
 rw[qf]
 by_cases z:t<0
 ·have e:ntL t=45::fig t.natAbs:=by unfold ntL;rw[if_pos z]
  rw[e,if_pos (by rfl)]
  show (match rdN (TX (fig t.natAbs))with | some n=>if n=0 then none else some (-n) | none=>none)=_
  rw[jR h]
  show (if((t.natAbs:Nat):Int)=0 then none else some (-((t.natAbs:Nat):Int)))=some t
  rw[if_neg (by omega)]
  congr 1;omega
 ·have e:ntL t=fig t.natAbs:=by unfold ntL;rw[if_neg z]
  rw[e]
  have hd:(fig t.natAbs).head?≠some 45:=λq=>by
   have:=(vg t.natAbs).1 45 (List.mem_of_head? q)
   omega
  rw[if_neg hd,jR h]
  congr 1;omega
structure Rx (r:Int×Int):Prop where
 lo:xT r.1 r.2=true
 zt:r.1.natAbs<10^300
 zb:r.2.natAbs<10^300
theorem Rx.pos {r:Int×Int}(h:Rx r):1<=r.2:=by
 have:=h.lo
 unfold xT at this
 rw[Bool.and_eq_true]at this
 exact of_decide_eq_true this.1
theorem JK {r:Int×Int}(h:Rx r):rdR (TX (rtL r))=some r:=by
 have n47:∀n:Int,47∉ntL n:=λn m=>by rcases vZ m with e | e <;> omega
 unfold rdR
 by_cases z:r.2=1
 ·have e:rtL r=ntL r.1:=by unfold rtL;rw[if_pos z]
  rw[e,split_free (j0:=0) (c:=47) rfl (n47 _)]
  show (rdW (TX (ntL r.1))).map _=_
  rw[JN h.zt,<-z];rfl
 ·have e:rtL r=ntL r.1++[47]++ntL r.2:=by unfold rtL;rw[if_neg z]
  rw[e,J6 (j0:=0) (c:=47) rfl (by decide +kernel) (n47 _) (n47 _) λi e=>by
   have:=(List.getElem?_eq_some_iff.mp e).1;simp at this;exact this]
  show (match rdW (TX (ntL r.1)),rdN (TX (ntL r.2))with | some t,some u=>if decide (u=1)=false/\xT t u=true then some (t,u)else none | _,_=>none)=_
  have e2:ntL r.2=fig r.2.natAbs:=by unfold ntL;rw[if_neg (by have:=h.pos;omega)]
  rw[JN h.zt,e2,jR h.zb]
  have e3:((r.2.natAbs:Nat):Int)=r.2:=by have:=h.pos;omega
  rw[e3]
  show (if decide (r.2=1)=false/\xT r.1 r.2=true then some (r.1,r.2)else none)=some r
  rw[if_pos ⟨decide_eq_false z,h.lo⟩]
theorem n32 (r:Int×Int):32∉rtL r:=λm=>by rcases JQ m with e | e <;> omega
end KK
end
section
set_option maxHeartbeats 4000000
set_option Elab.async false
set_option linter.all false
set_option maxRecDepth 100000
namespace KK
open PySem PySem.Builtin.Str PySem.NumText
end KK
end
section
set_option maxHeartbeats 4000000
set_option Elab.async false
set_option linter.all false
set_option maxRecDepth 100000
namespace KK
open PySem PySem.Builtin.Str PySem.NumText
def xR (c:Nat):List (List Nat)->List Nat
 | []=>[]
 | [x]=>x
 | x::y::r=>x++c::xR c (y::r)
theorem Qv {c:Nat}:∀{a b x y:List Nat},c∉a->c∉b->a++c::x=b++c::y->a=b/\x=y
 | [],[],x,y,_,_,h=>⟨rfl,by simpa using h⟩
 | [],d::b,x,y,_,hb,h=>by injection h with h1 h2;exact absurd (List.mem_cons_self ..) (h1 ▸ hb)
 | d::a,[],x,y,ha,_,h=>by injection h with h1 h2;exact absurd (List.mem_cons_self ..) (h1 ▸ ha)
 | d::a,e::b,x,y,ha,hb,h=>by
  injection h with h1 h2
  obtain⟨e1,e2⟩:=Qv (λm=>ha (List.mem_cons_of_mem _ m)) (λm=>hb (List.mem_cons_of_mem _ m)) h2
  exact⟨by rw[h1,e1],e2⟩
theorem ZI {c:Nat}:∀{ps qs:List (List Nat)},ps≠[]->qs≠[]->(∀p∈ps,c∉p)->(∀p∈qs,c∉p)->xR c ps=xR c qs->ps=qs
 | [a],[b],_,_,_,_,h=>by rw[show a=b from h]
 | [a],b::d::s,_,_,ha,_,h=>by
  have h:a=b++c::xR c (d::s):=h
  exact absurd (by rw[h];simp) (ha a (List.mem_cons_self ..))
 | a::d::r,[b],_,_,_,hb,h=>by
  have h:a++c::xR c (d::r)=b:=h
  exact absurd (by rw[<-h];simp) (hb b (List.mem_cons_self ..))
 | a::d::r,b::e::s,_,_,ha,hb,h=>by
  have h:a++c::xR c (d::r)=b++c::xR c (e::s):=h
  obtain⟨e1,e2⟩:=Qv (ha a (List.mem_cons_self ..)) (hb b (List.mem_cons_self ..)) h
  have:=ZI (by simp) (by simp) (λp m=>ha p (List.mem_cons_of_mem _ m)) (λp m=>hb p (List.mem_cons_of_mem _ m)) e2
  rw[e1,this]
theorem ZJ (c:Nat):∀qs:List Str,(Str.join (TX [c]) qs).cps.toList=xR c (qs.map λq=>q.cps.toList)
 | []=>rfl
 | [x]=>rfl
 | x::y::r=>by
  have ih:=ZJ c (y::r)
  have e:Str.join (TX [c]) (x::y::r)=x++TX [c]++Str.join (TX [c]) (y::r):=rfl
  rw[e]
  show ((x.cps++[c].toArray)++(Str.join (TX [c]) (y::r)).cps).toList=x.cps.toList++c::xR c ((y::r).map λq=>q.cps.toList)
  rw[<-ih];simp
theorem jI {c:Nat}{ps:List (List Nat)} (hne:ps≠[]) (h:∀p∈ps,c∉p):Txt.split (TX (xR c ps)) (TX [c])=ps.map TX:=by
 obtain⟨q0,qr,eq⟩:=vI (TX (xR c ps)) (TX [c])
 have hj:=StrLaws.join_split (TX (xR c ps)) (TX [c])
 have hf:=StrLaws.split_free (TX (xR c ps)) c
 have e1:=ZJ c (Txt.split (TX (xR c ps)) (TX [c]))
 rw[hj,qf]at e1
 have e2:ps=(Txt.split (TX (xR c ps)) (TX [c])).map λq=>q.cps.toList:=ZI hne (by rw[eq];simp) h (λp m=>by
  obtain⟨q,mq,rfl⟩:=List.mem_map.mp m
  exact hf q mq) e1
 conv=>rhs;rw[e2]
 rw[List.map_map]
 have:((λq:List Nat=>TX q) ∘ λq:Str=>q.cps.toList)=id:=by funext q;exact vA q
 show _=List.map ((λq:List Nat=>TX q) ∘ λq:Str=>q.cps.toList) _
 rw[this,List.map_id]
abbrev Bx3:=((Int×Int)×(Int×Int))×Int
def zC (x:Str):Option Bx3:=match Txt.split x (TX [32])with
 | [a,b,c]=>(rdR a).bind λp=>(rdR b).bind λq=>(rdN c).map λn=>((p,q),n)
 | _=>none
theorem v3 {x:Str}(h:(Txt.split x (TX [32])).length≠3):zC x=none:=by
 unfold zC
 split
 ·rename_i e;rw[e]at h;exact absurd rfl h
 ·rfl
end KK
end
section
set_option maxHeartbeats 4000000
set_option Elab.async false
set_option linter.all false
set_option maxRecDepth 100000
namespace KK
open PySem PySem.Builtin.Str PySem.NumText
section
variable {n d:Int}
theorem Jg (n:Int):32∉ntL n:=λm=>by rcases vZ m with e | e <;> omega
end
theorem VB (r:Int×Int):59∉rtL r:=λm=>by rcases JQ m with e | e <;> omega
end KK
end
section
set_option maxHeartbeats 4000000
set_option Elab.async false
set_option linter.all false
set_option maxRecDepth 100000
namespace KK
open PySem PySem.Builtin.Str PySem.NumText
def zN:List (List Nat)->List Nat
 | []=>[]
 | [x]=>x
 | x::y::r=>x++59::32::zN (y::r)
def jw (o:Nat):List (List Nat)->List Nat
 | []=>[]
 | [_]=>[]
 | x::y::r=>(o+x.length)::jw (o+x.length+2) (y::r)
theorem j6 {s sub:Str}{hi:Nat}:∀{c1 c2:List Nat}{a f1 f2:Nat},StrLaws.ChainG s sub hi a c1 f1->(∀k,f1<=k->¬StrLaws.At s sub hi k)->StrLaws.ChainG s sub hi a c2 f2->(∀k,f2<=k->¬StrLaws.At s sub hi k)->c1=c2
 | [],[],_,_,_,_,_,_,_=>rfl
 | [],d::r,a,f1,f2,h1,n1,h2,_=>by
  have e:f1=a:=h1
  exact absurd h2.2.1 (n1 d (by rw[e];exact h2.1))
 | d::r,[],a,f1,f2,h1,_,h2,n2=>by
  have e:f2=a:=h2
  exact absurd h1.2.1 (n2 d (by rw[e];exact h1.1))
 | d::r,e::t,a,f1,f2,h1,n1,h2,n2=>by
  have ed:d=e:=by
   rcases Nat.lt_trichotomy d e with z | z | z
   ·exact absurd h1.2.1 (h2.2.2.1 d h1.1 z)
   ·exact z
   ·exact absurd h2.2.1 (h1.2.2.1 e h2.1 z)
  subst ed
  rw[j6 h1.2.2.2 n1 h2.2.2.2 n2]
theorem zdr {pre a rest:List Nat}(ha:59∉a){k:Nat}(h0:pre.length<=k) (h1:k<pre.length+a.length):¬StrLaws.At (TX (pre++(a++rest))) (TX [59,32]) (TX (pre++(a++rest))).length k:=λh=>by
 have:=v8 (j:=0) (c:=59) h rfl
 rw[Nat.add_zero,List.getElem?_append_right h0,List.getElem?_append_left (by omega)]at this
 exact ha (List.mem_of_getElem? this)
theorem jF:∀(ps:List (List Nat)) (pre:List Nat),ps≠[]->(∀p∈ps,59∉p)->∃f,StrLaws.ChainG (TX (pre++zN ps)) (TX [59,32]) (TX (pre++zN ps)).length pre.length (jw pre.length ps) f/\∀k,f<=k->¬StrLaws.At (TX (pre++zN ps)) (TX [59,32]) (TX (pre++zN ps)).length k
 | [],_,h,_=>absurd rfl h
 | [a],pre,_,h=>by
  refine⟨pre.length,rfl,λk hk hA=>?_⟩
  have ha:=h a (List.mem_cons_self ..)
  have:=v8 (j:=0) (c:=59) hA rfl
  rw[Nat.add_zero,List.getElem?_append_right hk]at this
  exact ha (List.mem_of_getElem? this)
 | a::b::r,pre,_,h=>by
  have ha:=h a (List.mem_cons_self ..)
  have e:pre++zN (a::b::r)=(pre++a++[59,32])++zN (b::r):=by show pre++(a++59::32::zN (b::r))=_;simp
  obtain⟨f,h1,h2⟩:=jF (b::r) (pre++a++[59,32]) (by simp) (λp m=>h p (List.mem_cons_of_mem _ m))
  rw[<-e]at h1 h2
  have el:(pre++a++[59,32]).length=pre.length+a.length+2:=by simp;omega
  rw[el]at h1
  refine⟨f,⟨Nat.le_add_right ..,?_,λk k0 k1=>?_,?_⟩,h2⟩
  ·have:=X1 (pre++a) [59,32] (zN (b::r))
   rw[<-e,List.length_append]at this;exact this
  ·exact zdr (rest:=59::32::zN (b::r)) ha k0 k1
  ·rw[zx];exact h1
theorem jH:∀(ps:List (List Nat)) (pre:List Nat),ps≠[]->StrLaws.partsFrom (TX (pre++zN ps)) 2 pre.length (jw pre.length ps)=ps.map TX
 | [],_,h=>absurd rfl h
 | [a],pre,_=>by
  show [strSub (TX (pre++a)) pre.length (TX (pre++a)).length]=[TX a]
  rw[v7,zx,List.drop_left,List.take_of_length_le (by simp)]
 | a::b::r,pre,_=>by
  have e:pre++zN (a::b::r)=(pre++a++[59,32])++zN (b::r):=by show pre++(a++59::32::zN (b::r))=_;simp
  have ih:=jH (b::r) (pre++a++[59,32]) (by simp)
  have el:(pre++a++[59,32]).length=pre.length+a.length+2:=by simp;omega
  rw[<-e,el]at ih
  show strSub (TX (pre++zN (a::b::r))) pre.length (pre.length+a.length)::StrLaws.partsFrom (TX (pre++zN (a::b::r))) 2 (pre.length+a.length+2) (jw (pre.length+a.length+2) (b::r))=TX a::(b::r).map TX
  rw[ih,v7,List.drop_left,Nat.add_sub_cancel_left]
  show TX ((a++59::32::zN (b::r)).take a.length)::_=_
  rw[List.take_left]
theorem v6 {ps:List (List Nat)} (hne:ps≠[]) (h:∀p∈ps,59∉p):Txt.split (TX (zN ps)) (TX [59,32])=ps.map TX:=by
 obtain⟨f,h1,h2⟩:=jF ps [] hne h
 have hp:=jH ps [] hne
 rw[List.nil_append]at h1 h2 hp
 obtain⟨f',g1,g2⟩:=StrLaws.occ_tight (TX (zN ps)) (TX [59,32]) (by rw[zx];decide)
 have eo:occurrences (TX (zN ps)) (TX [59,32]) 0 (TX (zN ps)).length ((TX (zN ps)).length+1)=jw 0 ps:=j6 g1 g2 h1 h2
 match ps,hne,h,hp,eo with
 | [a],_,h,_,_=>exact split_free (j0:=0) (c:=59) rfl (h a (List.mem_cons_self ..))
 | a::b::r,_,_,hp,eo =>
  unfold Txt.split
  have k1:strKind (TX [59,32])=1:=by decide +kernel
  have hl:2<=(TX (zN (a::b::r))).length:=by
   rw[zx];show 2<=(a++59::32::zN (b::r)).length;simp;omega
  rw[if_neg (by
   have:=QC (TX (zN (a::b::r)))
   rw[k1,zx (l:=[59,32])]
   simp only[Bool.or_eq_true,decide_eq_true_eq,List.length_cons,List.length_nil]
   omega),eo,if_neg (by simp[jw]),StrLaws.partsBetween_eq]
  exact hp
end KK
end
section
set_option maxHeartbeats 4000000
set_option Elab.async false
set_option linter.all false
set_option maxRecDepth 100000
namespace KK
open PySem PySem.Builtin.Str PySem.NumText
def ltI (r s:Int×Int):Bool:=decide (r.1*s.2<s.1*r.2)
def flB (b c:Bx3):Bool:=if b.1.1=c.1.1 then ltI b.1.2 c.1.2 else ltI b.1.1 c.1.1
def qQ:List Bx3->Bool
 | b::c::r=>flB b c&&qQ (c::r)
 | _=>true
def wB (b:Bx3):Bool:=decide (1<=b.2)&&decide (b.2<=1000)
def xn (bs:List Bx3):Bool:=decide (1<=bs.length)&&decide (bs.length<=8)&&bs.all wB&&qQ bs
def vB:List Str->Option (List Bx3)
 | []=>some []
 | p::r=>(zC p).bind λb=>(vB r).map λbs=>b::bs
def zY (x:Str):Option (List Bx3):=(vB (Txt.split x (TX [59,32]))).bind λbs=>if xn bs=true then some bs else none
theorem ju:∀{ps:List Str}{p:Str},p∈ps->zC p=none->vB ps=none
 | q::r,p,m,h=>by
  show (zC q).bind _=none
  rcases List.mem_cons.mp m with rfl | m
  ·rw[h];rfl
  ·rw[ju m h];cases zC q <;> rfl
theorem vK:∀{ps:List Str}{bs:List Bx3},vB ps=some bs->bs.length=ps.length/\∀(i:Nat) (p:Str),ps[i]? = some p->∃b,bs[i]? = some b/\zC p=some b
 | [],bs,h=>by
  have:bs=[]:=by injection h with h;exact h.symm
  subst this
  exact⟨rfl,λi p e=>by simp at e⟩
 | q::r,bs,h=>by
  have h:(zC q).bind (λb=>(vB r).map λbs=>b::bs)=some bs:=h
  cases hq:zC q with
  | none=>rw[hq]at h;cases h
  | some b =>
   rw[hq]at h
   obtain⟨cs,hc,e⟩:=Option.map_eq_some_iff.mp (show (vB r).map (λbs=>b::bs)=some bs from h)
   subst e
   obtain⟨l,g⟩:=vK hc
   refine⟨by rw[List.length_cons,List.length_cons,l],λi p e=>?_⟩
   cases i with
   | zero=>cases e;exact⟨b,rfl,hq⟩
   | succ i=>exact g i p e
theorem jM:∀{ps:List Str}{bs:List Bx3},bs.length=ps.length->(∀(i:Nat) (p:Str),ps[i]? = some p->∃b,bs[i]? = some b/\zC p=some b)->vB ps=some bs
 | [],bs,l,_=>by rw[List.length_eq_zero_iff.mp l];rfl
 | q::r,[],l,_=>by cases l
 | q::r,b::bs,l,g=>by
  obtain⟨b',e1,e2⟩:=g 0 q rfl
  cases e1
  show (zC q).bind (λb=>(vB r).map λbs=>b::bs)=_
  rw[e2,jM (ps:=r) (bs:=bs) (by simpa using l) (λi p e=>g (i+1) p e)]
  rfl
def btL (b:Bx3):List Nat:=rtL b.1.1++32::(rtL b.1.2++32::ntL b.2)
def rwL (bs:List Bx3):List Nat:=zN (bs.map btL)
structure Xr (b:Bx3):Prop where
 p:Rx b.1.1
 s:Rx b.1.2
 w0:0<=b.2
 w1:b.2.natAbs<10^300
theorem vQ {b:Bx3}(h:Xr b):zC (TX (btL b))=some b:=by
 have hw:32∉ntL b.2:=Jg _
 have:=jI (c:=32) (ps:=[rtL b.1.1,rtL b.1.2,ntL b.2]) (by simp) (λp m=>by
  simp only[List.mem_cons,List.not_mem_nil,or_false]at m
  rcases m with rfl | rfl | rfl
  ·exact n32 _
  ·exact n32 _
  ·exact hw)
 unfold zC
 rw[show TX (btL b)=TX (xR 32 [rtL b.1.1,rtL b.1.2,ntL b.2])from rfl,this]
 show (rdR (TX (rtL b.1.1))).bind (λp=>(rdR (TX (rtL b.1.2))).bind λq=>(rdN (TX (ntL b.2))).map λn=>((p,q),n))=some b
 have e:ntL b.2=fig b.2.natAbs:=by unfold ntL;rw[if_neg (by have:=h.w0;omega)]
 rw[JK h.p,JK h.s,e,jR h.w1]
 show some ((b.1.1,b.1.2),((b.2.natAbs:Nat):Int))=some b
 have:((b.2.natAbs:Nat):Int)=b.2:=by have:=h.w0;omega
 rw[this]
theorem Q8 (b:Bx3):59∉btL b:=λm=>by
 rcases List.mem_append.mp m with m | m
 ·exact VB _ m
 ·rcases List.mem_cons.mp m with z | m
  ·cases z
  ·rcases List.mem_append.mp m with m | m
   ·exact VB _ m
   ·rcases List.mem_cons.mp m with z | m
    ·cases z
    ·rcases vZ m with e | e <;> omega
theorem JM {bs:List Bx3}(hok:xn bs=true) (h:∀b∈bs,Xr b):zY (TX (rwL bs))=some bs:=by
 have hne:bs≠[]:=λe=>by rw[e]at hok;cases hok
 unfold zY rwL
 rw[v6 (by simpa using hne) (λp m=>by obtain⟨b,_,rfl⟩:=List.mem_map.mp m;exact Q8 b)]
 rw[jM (bs:=bs) (by simp) (λi p e=>by
  rw[List.map_map,List.getElem?_map]at e
  obtain⟨b,eb,rfl⟩:=Option.map_eq_some_iff.mp e
  exact⟨b,eb,vQ (h b (List.mem_of_getElem? eb))⟩)]
 show (if xn bs=true then some bs else none)=_
 rw[if_pos hok]
end KK
end
section
set_option maxHeartbeats 4000000
set_option Elab.async false
set_option linter.all false
set_option maxRecDepth 100000
namespace KK
open PySem PySem.Builtin.Str PySem.NumText
def flQ (c b:Bx3):Bool:=ltI c.1.1 b.1.1 || (decide (c.1.1=b.1.1)&&ltI c.1.2 b.1.2)
theorem zb9 (c b:Bx3):flQ c b=flB c b:=by
 unfold flQ flB
 by_cases h:c.1.1=b.1.1
 ·rw[if_pos h,decide_eq_true h,Bool.true_and,h]
  have:ltI b.1.1 b.1.1=false:=decide_eq_false (Int.lt_irrefl _)
  rw[this,Bool.false_or]
 ·rw[if_neg h,decide_eq_false h,Bool.false_and,Bool.or_false]
def vF (o:Option Bx3) (b:Bx3):Bool:=match o with
 | none=>true
 | some c=>flQ c b
def xC (acc:List Bx3) (b:Bx3):Bool:=wB b&&decide (acc.length≠8)&&vF acc.getLast? b
def goR (acc:List Bx3):List Str->Option (List Bx3)
 | []=>some acc
 | p::r=>match zC p with
  | none=>none
  | some b=>if xC acc b=true then goR (acc++[b]) r else none
def vG (acc:List Bx3):List Bx3->Bool
 | []=>true
 | b::r=>xC acc b&&vG (acc++[b]) r
theorem V8:∀(ps:List Str) (acc:List Bx3),goR acc ps=(vB ps).bind λbs=>if vG acc bs=true then some (acc++bs)else none
 | [],acc=>by
  show some acc=some (acc++[])
  rw[List.append_nil]
 | p::r,acc=>by
  have e:vB (p::r)=(zC p).bind λb=>(vB r).map λbs=>b::bs:=rfl
  have g:goR acc (p::r)=match zC p with | none=>none | some b=>if xC acc b=true then goR (acc++[b]) r else none:=rfl
  rw[e,g]
  cases zC p with
  | none=>rfl
  | some b =>
   show (if xC acc b=true then goR (acc++[b]) r else none)=((vB r).map λbs=>b::bs).bind _
   rw[V8 r]
   cases vB r with
   | none=>show (if xC acc b=true then none else none)=none;split <;> rfl
   | some bs =>
    show (if xC acc b=true then(if vG (acc++[b]) bs=true then some (acc++[b]++bs)else none)else none)=if(xC acc b&&vG (acc++[b]) bs)=true then some (acc++b::bs)else none
    cases xC acc b
    ·rfl
    ·rw[Bool.true_and,if_pos rfl,List.append_assoc];rfl
def zaX (o:Option Bx3) (bs:List Bx3):Bool:=match o with
 | none=>qQ bs
 | some c=>qQ (c::bs)
theorem Vy (o:Option Bx3) (b:Bx3) (bs:List Bx3):zaX o (b::bs)=(vF o b&&qQ (b::bs)):=by
 cases o with
 | none=>rfl
 | some c=>show (flB c b&&qQ (b::bs))=(flQ c b&&_);rw[zb9]
theorem ZN:∀(bs acc:List Bx3),acc.length<=8->vG acc bs=(decide (acc.length+bs.length<=8)&&bs.all wB&&zaX acc.getLast? bs)
 | [],acc,h=>by
  rw[decide_eq_true (show acc.length+([]:List Bx3).length<=8 by simpa using h)]
  show true=zaX acc.getLast? []
  cases acc.getLast? <;> rfl
 | b::r,acc,h=>by
  show (xC acc b&&vG (acc++[b]) r)=(decide (acc.length+(b::r).length<=8)&&(wB b&&r.all wB)&&zaX acc.getLast? (b::r))
  rw[Vy]
  unfold xC
  by_cases h8:acc.length=8
  ·rw[decide_eq_false (show ¬acc.length≠8 from λz=>z h8),decide_eq_false (show ¬acc.length+(b::r).length<=8 by rw[List.length_cons];omega)]
   simp
  ·rw[decide_eq_true h8,ZN r (acc++[b]) (by simp;omega)]
   have e1:(acc++[b]).length+r.length=acc.length+(b::r).length:=by simp;omega
   have e2:(acc++[b]).getLast? = some b:=by simp
   rw[e1,e2]
   show _=(_&&(vF acc.getLast? b&&qQ (b::r)))
   show (wB b&&true&&vF acc.getLast? b&&(decide (acc.length+(b::r).length<=8)&&r.all wB&&qQ (b::r)))=_
   cases wB b <;> cases vF acc.getLast? b <;> cases decide (acc.length+(b::r).length<=8) <;> cases r.all wB <;> cases qQ (b::r) <;> rfl
theorem JL (x:Str):zY x=goR [] (Txt.split x (TX [59,32])):=by
 rw[V8]
 unfold zY
 have hn:=vI x (TX [59,32])
 generalize Txt.split x (TX [59,32])=ps at hn
 cases h:vB ps with
 | none=>rfl
 | some bs =>
  have hb:=(vK h).1
  have h1:1<=bs.length:=by
   rw[hb]
   cases ps with
   | nil=>obtain⟨_,_,z⟩:=hn;cases z
   | cons=>simp
  have e:xn bs=vG [] bs:=by
   rw[ZN bs [] (by simp)]
   unfold xn
   rw[decide_eq_true h1,Bool.true_and]
   show _=(decide (0+bs.length<=8)&&bs.all wB&&qQ bs)
   rw[Nat.zero_add]
  show (if xn bs=true then some bs else none)=if vG [] bs=true then some ([]++bs)else none
  rw[e];rfl
end KK
end
section
set_option maxHeartbeats 4000000
set_option Elab.async false
set_option linter.all false
set_option maxRecDepth 100000
namespace KK
open PySem PySem.Builtin.Str PySem.NumText
theorem vW:∀{ps:List (List Nat)} (q:List Nat),ps≠[]->zN (ps++[q])=zN ps++59::32::q
 | [],_,h=>absurd rfl h
 | [x],q,_=>rfl
 | x::y::r,q,_=>by
  have:=vW (ps:=y::r) q (by simp)
  show x++59::32::zN ((y::r)++[q])=(x++59::32::zN (y::r))++59::32::q
  rw[this];simp
theorem vV:∀(ps:List (List Nat)) (q z:List Nat),zN (ps++[q++z])=zN (ps++[q])++z
 | [],q,z=>rfl
 | [x],q,z=>by show x++59::32::(q++z)=(x++59::32::q)++z;simp
 | x::y::r,q,z=>by
  have:=vV (y::r) q z
  show x++59::32::zN ((y::r)++[q++z])=(x++59::32::zN ((y::r)++[q]))++z
  rw[this];simp
theorem xF (z q:List Nat):∀(ps:List (List Nat)),zN ((z++q)::ps)=z++zN (q::ps)
 | []=>rfl
 | y::r=>by show (z++q)++59::32::zN (y::r)=z++(q++59::32::zN (y::r));simp
theorem qI {ps:List (List Nat)} (h:∀p∈ps,59∉p){q:List Nat}(m:q∈ps) (hq:zC (TX q)=none):zY (TX (zN ps))=none:=by
 have hne:ps≠[]:=λe=>by rw[e]at m;cases m
 unfold zY
 rw[v6 hne h,ju (List.mem_map.mpr ⟨q,m,rfl⟩) hq];rfl
theorem vU (bs:List Bx3):∀p∈bs.map btL,59∉p:=λp m=>by obtain⟨b,_,rfl⟩:=List.mem_map.mp m;exact Q8 b
theorem vf {bs:List Bx3}(hne:bs≠[]){q:List Nat}(h:59∉q) (hq:zC (TX q)=none):zY (TX (rwL bs++59::32::q))=none:=by
 have e:rwL bs++59::32::q=zN (bs.map btL++[q]):=(vW q (by simpa using hne)).symm
 rw[e]
 refine qI (λp m=>?_) (q:=q) (by simp) hq
 rcases List.mem_append.mp m with m | m
 ·exact vU bs p m
 ·cases List.mem_singleton.mp m;exact h
theorem jL {bs:List Bx3}(hne:bs≠[]) (hB:∀b∈bs,Xr b){q:List Nat}{c:Bx3}(h:59∉q) (hq:zC (TX q)=some c) (hr:xn (bs++[c])=false):zY (TX (rwL bs++59::32::q))=none:=by
 have e:rwL bs++59::32::q=zN (bs.map btL++[q]):=(vW q (by simpa using hne)).symm
 rw[e]
 unfold zY
 rw[v6 (by simp) (λp m=>by
  rcases List.mem_append.mp m with m | m
  ·exact vU bs p m
  ·cases List.mem_singleton.mp m;exact h)]
 rw[jM (bs:=bs++[c]) (by simp) (λi p e=>by
  rw[List.map_append]at e
  by_cases hi:i<bs.length
  ·rw[List.getElem?_append_left (by simpa using hi),List.getElem?_map,List.getElem?_map,List.getElem?_eq_getElem hi]at e
   cases e
   exact⟨bs[i],by rw[List.getElem?_append_left hi];exact List.getElem?_eq_getElem hi,vQ (hB _ (List.getElem_mem hi))⟩
  ·rw[List.getElem?_append_right (by simpa using hi)]at e
   simp only[List.length_map]at e
   cases hj:i - bs.length with
   | zero =>
    rw[hj]at e;cases e
    exact⟨c,by rw[List.getElem?_append_right (by omega),hj];rfl,hq⟩
   | succ j=>rw[hj]at e;simp at e)]
 show (if xn (bs++[c])=true then some _ else none)=none
 rw[hr];rfl
theorem VH {bs:List Bx3}{cs:List Bx3}{cl:Bx3}(e:bs=cs++[cl]){z:List Nat}(h:59∉z) (hq:zC (TX (btL cl++z))=none):zY (TX (rwL bs++z))=none:=by
 have e2:rwL bs++z=zN (cs.map btL++[btL cl++z]):=by rw[vV,e];unfold rwL;rw[List.map_append];rfl
 rw[e2]
 refine qI (λp m=>?_) (q:=btL cl++z) (by simp) hq
 rcases List.mem_append.mp m with m | m
 ·exact vU cs p m
 ·cases List.mem_singleton.mp m
  exact λm=>by
   rcases List.mem_append.mp m with m | m
   ·exact Q8 cl m
   ·exact h m
theorem Vi {b:Bx3}{bs:List Bx3}{z:List Nat}(h:59∉z) (hq:zC (TX (z++btL b))=none):zY (TX (z++rwL (b::bs)))=none:=by
 have e2:z++rwL (b::bs)=zN ((z++btL b)::bs.map btL):=(xF z (btL b) (bs.map btL)).symm
 rw[e2]
 refine qI (λp m=>?_) (q:=z++btL b) (by simp) hq
 rcases List.mem_cons.mp m with rfl | m
 ·exact λm=>by
   rcases List.mem_append.mp m with m | m
   ·exact h m
   ·exact Q8 b m
 ·exact vU bs p m
end KK
end
section
set_option maxHeartbeats 4000000
set_option Elab.async false
set_option linter.all false
set_option maxRecDepth 100000
namespace KK
open PySem PySem.Builtin.Str PySem.NumText
theorem qT {ps:List (List Nat)} (hne:ps≠[]) (h:∀p∈ps,32∉p) (hl:ps.length≠3):zC (TX (xR 32 ps))=none:=by
 refine v3 ?_
 rw[jI hne h,List.length_map];exact hl
theorem VQ (b:Bx3) (z:List Nat) (hz:32∉z):zC (TX (btL b++32::z))=none:=by
 have e:btL b++32::z=xR 32 [rtL b.1.1,rtL b.1.2,ntL b.2,z]:=by
  show (rtL b.1.1++32::(rtL b.1.2++32::ntL b.2))++32::z=rtL b.1.1++32::(rtL b.1.2++32::(ntL b.2++32::z))
  simp
 rw[e]
 refine qT (by simp) (λp m=>?_) (by simp)
 simp only[List.mem_cons,List.not_mem_nil,or_false]at m
 rcases m with rfl | rfl | rfl | rfl
 ·exact n32 _
 ·exact n32 _
 ·exact Jg _
 ·exact hz
theorem J5 (b:Bx3):zC (TX ([32]++btL b))=none:=by
 have e:[32]++btL b=xR 32 [[],rtL b.1.1,rtL b.1.2,ntL b.2]:=rfl
 rw[e]
 refine qT (by simp) (λp m=>?_) (by simp)
 simp only[List.mem_cons,List.not_mem_nil,or_false]at m
 rcases m with rfl | rfl | rfl | rfl
 ·decide
 ·exact n32 _
 ·exact n32 _
 ·exact Jg _
theorem zai (r s:Int×Int):zC (TX (rtL r++32::rtL s))=none:=by
 have e:rtL r++32::rtL s=xR 32 [rtL r,rtL s]:=rfl
 rw[e]
 refine qT (by simp) (λp m=>?_) (by simp)
 simp only[List.mem_cons,List.not_mem_nil,or_false]at m
 rcases m with rfl | rfl
 ·exact n32 _
 ·exact n32 _
theorem XF:zC (TX [])=none:=by decide +kernel
theorem zao:zC (TX [49,32,50,32,120])=none:=by decide +kernel
theorem Q7:zC (TX [97,32,98,32,49])=none:=by decide +kernel
theorem X6:zY (TX [45])=none:=by decide +kernel
theorem Vq:zY (TX [])=none:=by decide +kernel
theorem QJ {c:Bx3}:∀{cs:List Bx3}{cl:Bx3},flB cl c=false->qQ (cs++[cl]++[c])=false
 | [],cl,h=>by show (flB cl c&&qQ [c])=false;rw[h];rfl
 | [x],cl,h=>by
  show (flB x cl&&(flB cl c&&qQ [c]))=false
  rw[h,Bool.false_and,Bool.and_false]
 | x::y::r,cl,h=>by
  have:=QJ (cs:=y::r) h
  show (flB x y&&qQ ((y::r)++[cl]++[c]))=false
  rw[this,Bool.and_false]
theorem VA {bs:List Bx3}(h:qQ bs=false):xn bs=false:=by unfold xn;rw[h,Bool.and_false]
theorem QS {bs:List Bx3}{c:Bx3}(h:wB c=false):xn (bs++[c])=false:=by
 unfold xn
 have:(bs++[c]).all wB=false:=by rw[List.all_append];show (bs.all wB&&(wB c&&true))=false;rw[h];simp
 rw[this];simp
theorem V4 (b:Bx3):flB b b=false:=by
 unfold flB;rw[if_pos rfl];exact decide_eq_false (Int.lt_irrefl _)
theorem Ve {b c:Bx3}(h:ltI c.1.1 b.1.1=true):flB b c=false:=by
 have h:=of_decide_eq_true h
 unfold flB
 by_cases e:b.1.1=c.1.1
 ·rw[e]at h;exact absurd h (Int.lt_irrefl _)
 ·rw[if_neg e];exact decide_eq_false (by omega)
end KK
end
section
set_option maxHeartbeats 4000000
set_option Elab.async false
set_option linter.all false
set_option maxRecDepth 100000
namespace KK
open PySem PySem.Builtin.Str PySem.NumText
theorem Vm:∀ts:List (List Nat),Str.join (TX [59,32]) (ts.map TX)=TX (zN ts):=by
 intro ts
 induction ts with
 | nil=>rfl
 | cons a r ih =>
  cases r with
  | nil=>rfl
  | cons b r =>
   have e:Str.join (TX [59,32]) ((a::b::r).map TX)=TX a++TX [59,32]++Str.join (TX [59,32]) ((b::r).map TX):=rfl
   rw[e,ih,zF,zF,List.append_assoc];rfl
theorem JH {x:Str}{n:Int}(h:rdN x=some n):∃l c,x.cps.toList=l++[c]/\48<=c/\c<=57:=by
 unfold rdN at h
 split at h
 ·rename_i e
  unfold qe at e
  simp only[Bool.and_eq_true,decide_eq_true_eq]at e
  rcases List.eq_nil_or_concat x.cps.toList with z | ⟨l,c,z⟩
  ·have:=e.1.1.1;rw[z]at this;simp at this
  ·have z:x.cps.toList=l++[c]:=by simpa using z
   have:=List.all_eq_true.mp e.1.2 c (by rw[z];simp)
   unfold vd at this
   simp only[Bool.and_eq_true,decide_eq_true_eq]at this
   exact⟨l,c,z,this.1,this.2⟩
 ·cases h
theorem XI {x:Str}{b:Bx3}(h:zC x=some b):∃l c,x=TX (l++[c])/\48<=c/\c<=57:=by
 have hj:=StrLaws.join_split x (TX [32])
 unfold zC at h
 split at h
 ·rename_i p q n e
  obtain⟨r,er,h⟩:=Option.bind_eq_some_iff.mp h
  obtain⟨t,et,h⟩:=Option.bind_eq_some_iff.mp h
  obtain⟨m,em,h⟩:=Option.map_eq_some_iff.mp h
  obtain⟨l,c,ec,h1,h2⟩:=JH em
  refine⟨p.cps.toList++32::(q.cps.toList++32::l),c,?_,h1,h2⟩
  rw[<-hj,e]
  show p++TX [32]++(q++TX [32]++n)=_
  have en:n=TX (l++[c]):=by rw[<-ec,vA]
  have e1:p++TX [32]++(q++TX [32]++n)=TX p.cps.toList++TX [32]++(TX q.cps.toList++TX [32]++TX (l++[c])):=by rw[vA,vA,<-en]
  rw[e1,zF,zF,zF,zF]
  simp
 ·cases h
theorem Qk {x:Str}{bs:List Bx3}(h:zY x=some bs):∃l c,x=TX (l++[c])/\48<=c/\c<=57:=by
 have hj:=StrLaws.join_split x (TX [59,32])
 unfold zY at h
 obtain⟨cs,hc,_⟩:=Option.bind_eq_some_iff.mp h
 obtain⟨hl,hg⟩:=vK hc
 obtain⟨p0,r0,e0⟩:=vI x (TX [59,32])
 generalize Txt.split x (TX [59,32])=ps at hj hl hg e0
 obtain⟨qs,q,eq⟩:∃qs q,ps=qs++[q]:=by
  rcases List.eq_nil_or_concat ps with z | ⟨l,c,z⟩
  ·rw[z]at e0;cases e0
  ·exact⟨l,c,by simpa using z⟩
 obtain⟨b,_,eb⟩:=hg qs.length q (by rw[eq];simp)
 obtain⟨l,c,ex,h1,h2⟩:=XI eb
 have em:ps=((qs.map λs=>s.cps.toList)++[l++[c]]).map TX:=by
  rw[eq,List.map_append,List.map_map,ex]
  congr 1
  rw[show (TX ∘ λs:Str=>s.cps.toList)=id from funext λs=>vA s,List.map_id]
 rw[em,Vm,vV]at hj
 exact⟨_,c,hj.symm,h1,h2⟩
theorem ja {l:List Nat}{c:Nat}(h:¬(48<=c/\c<=57)):zY (TX (l++[c]))=none:=by
 cases e:zY (TX (l++[c]))with
 | none=>rfl
 | some bs =>
  obtain⟨l',c',ex,h1,h2⟩:=Qk e
  have:=zaj ex
  have e2:=congrArg List.getLast? this
  simp at e2
  subst e2
  exact absurd ⟨h1,h2⟩ h
end KK
end
section
set_option maxHeartbeats 4000000
set_option Elab.async false
set_option linter.all false
set_option maxRecDepth 100000
namespace KK
open PySem PySem.Builtin.Str PySem.NumText
theorem zee:zC (TX [49,48,48,48,48,48,48,32,48,32,48])=some (((1000000,1),(0,1)),0):=by decide +kernel
theorem zam:zC (TX [49,48,48,48,48,48,48,32,48,32,49,48,48,49])=some (((1000000,1),(0,1)),1001):=by decide +kernel
theorem zbv:zC (TX [49,48,48,48,48,48,48,32,48,32,45,49])=none:=by decide +kernel
theorem zda:zC (TX [49,48,48,48,48,48,48,32,48,32,48,49])=none:=by decide +kernel
theorem zan:zC (TX [49,48,48,48,48,48,48,32,48,32,49,47,50])=none:=by decide +kernel
theorem zbw:zC (TX [49,48,48,48,48,48,48,32,48,32])=none:=by decide +kernel
theorem zdb (bs:List Bx3):xn (bs++[(((1000000,1),(0,1)),0)])=false:=QS (by decide)
theorem VJ (bs:List Bx3):xn (bs++[(((1000000,1),(0,1)),1001)])=false:=QS (by decide)
def Qd:List Bx3:=(List.range 9).map λk:Nat=>((((k:Int),1),(0,1)),1)
theorem Vr:zY (TX (rwL Qd))=none:=by decide +kernel
end KK
end
section
set_option maxHeartbeats 4000000
set_option Elab.async false
set_option linter.all false
set_option maxRecDepth 100000
namespace KK
open PySem PySem.Builtin.Str PySem.NumText L2
theorem zaC {a b:List Nat}{c:Nat}(ha:c∉a):occurrences (TX (a++[c]++b)) (TX [c]) 0 (TX (a++[c]++b)).length 1=[a.length]:=by
 have hm:=X1 a [c] b
 rcases StrLaws.occ_head (TX (a++[c]++b)) (TX [c]) 1 (Nat.le_refl _)with⟨_,hn⟩ | ⟨i,r,e,hi,hn⟩
 ·exact absurd hm (hn _)
 ·have hl:=StrLaws.occ_length_le (TX (a++[c]++b)) (TX [c]) 0 (TX (a++[c]++b)).length 1
  rw[e]at hl ⊢
  have er:r=[]:=List.length_eq_zero_iff.mp (by simp at hl;simpa using hl)
  have ei:i=a.length:=by
   rcases Nat.lt_trichotomy i a.length with z | z | z
   ·have:=v8 (j:=0) (c:=c) hi rfl
    rw[Nat.add_zero,List.append_assoc,List.getElem?_append_left z]at this
    exact absurd (List.mem_of_getElem? this) ha
   ·exact z
   ·exact absurd hm (hn _ z)
  rw[er,ei]
theorem za4 {a b z:List Nat}{c:Nat}(ha:c∉a):qE (TX (a++[c]++b)) (TX [c]) (TX z)=TX (a++z++b):=by
 unfold qE
 have q:((TX [c]).length == 0)=false:=by rw[zx];rfl
 rw[zaC ha,if_neg (by rw[q];simp),StrLaws.partsBetween_eq]
 show glued (TX z) [strSub (TX (a++[c]++b)) 0 a.length,strSub (TX (a++[c]++b)) (a.length+(TX [c]).length) (TX (a++[c]++b)).length]=_
 rw[v7,v7,zx,zx]
 have e1:((a++[c]++b).drop 0).take (a.length - 0)=a:=by simp
 have e2:((a++[c]++b).drop (a.length+[c].length)).take ((a++[c]++b).length - (a.length+[c].length))=b:=by
  rw[show a.length+[c].length=(a++[c]).length by simp,List.drop_left]
  exact List.take_of_length_le (by simp;omega)
 rw[e1,e2]
 show Str.mk ((a.toArray++z.toArray)++b.toArray)=Str.mk (a++z++b).toArray
 simp
theorem QR (b:Bx3) (bs:List Bx3) (z:List Nat):qE (TX (rwL (b::bs))) (TX [32]) (TX z)=TX (zN ((rtL b.1.1++z++(rtL b.1.2++32::ntL b.2))::bs.map btL)):=by
 have e:rwL (b::bs)=rtL b.1.1++[32]++zN ((rtL b.1.2++32::ntL b.2)::bs.map btL):=by
  rw[<-xF];unfold rwL btL;simp
 rw[e,za4 (n32 _),<-xF]
theorem XM (b:Bx3) (bs:List Bx3){z:List Nat}(hz:59∉z) (h:zC (TX (rtL b.1.1++z++(rtL b.1.2++32::ntL b.2)))=none):zY (qE (TX (rwL (b::bs))) (TX [32]) (TX z))=none:=by
 rw[QR]
 refine qI (λp m=>?_) (q:=rtL b.1.1++z++(rtL b.1.2++32::ntL b.2)) (by simp) h
 rcases List.mem_cons.mp m with rfl | m
 ·intro m
  simp only[List.mem_append,List.mem_cons]at m
  rcases m with(m | m) | m | m | m
  ·exact VB _ m
  ·exact hz m
  ·exact VB _ m
  ·cases m
  ·rcases vZ m with e | e <;> omega
 ·exact vU bs p m
theorem za6 (b:Bx3) (bs:List Bx3):zY (qE (TX (rwL (b::bs))) (TX [32]) (TX [32,32]))=none:=by
 refine XM b bs (by decide) ?_
 have e:rtL b.1.1++[32,32]++(rtL b.1.2++32::ntL b.2)=xR 32 [rtL b.1.1,[],rtL b.1.2,ntL b.2]:=by
  show _=rtL b.1.1++32::([]++32::(rtL b.1.2++32::ntL b.2))
  simp
 rw[e]
 refine qT (by simp) (λp m=>?_) (by simp)
 simp only[List.mem_cons,List.not_mem_nil,or_false]at m
 rcases m with rfl | rfl | rfl | rfl
 ·exact n32 _
 ·decide
 ·exact n32 _
 ·exact Jg _
theorem za5 (b:Bx3) (bs:List Bx3):zY (qE (TX (rwL (b::bs))) (TX [32]) (TX [9]))=none:=by
 refine XM b bs (by decide) ?_
 have e:rtL b.1.1++[9]++(rtL b.1.2++32::ntL b.2)=xR 32 [rtL b.1.1++[9]++rtL b.1.2,ntL b.2]:=by
  show _=(rtL b.1.1++[9]++rtL b.1.2)++32::ntL b.2
  simp
 rw[e]
 refine qT (by simp) (λp m=>?_) (by simp)
 simp only[List.mem_cons,List.not_mem_nil,or_false]at m
 rcases m with rfl | rfl
 ·intro m
  simp only[List.mem_append,List.mem_cons,List.not_mem_nil,or_false]at m
  rcases m with(m | m) | m
  ·exact n32 _ m
  ·cases m
  ·exact n32 _ m
 ·exact Jg _
theorem QQ (b:Bx3) (bs:List Bx3){z:List Nat}(hz:z.length<=2):(qE (TX (rwL (b::bs))) (TX [32]) (TX z)).length<=(rwL (b::bs)).length+1:=by
 rw[QR,zx,<-List.append_nil (rwL (b::bs)),List.append_assoc,xF,xF]
 have e:rwL (b::bs)=rtL b.1.1++([32]++zN ((rtL b.1.2++32::ntL b.2)::bs.map btL)):=by
  rw[<-xF,<-xF];unfold rwL btL;simp
 rw[e];simp;omega
theorem VE (bs:List Bx3) (hne:bs≠[]):zY (TX (59::32::rwL bs))=none:=by
 have e:59::32::rwL bs=zN ([]::bs.map btL):=by
  cases bs with
  | nil=>exact absurd rfl hne
  | cons b r=>rfl
 rw[e]
 refine qI (λp m=>?_) (q:=[]) (by simp) XF
 rcases List.mem_cons.mp m with rfl | m
 ·decide
 ·exact vU bs p m
theorem zar (bs:List Bx3) (hne:bs≠[]):zY (TX ([97,32,98,32,49,59,32]++rwL bs))=none:=by
 have e:[97,32,98,32,49,59,32]++rwL bs=zN ([97,32,98,32,49]::bs.map btL):=by
  cases bs with
  | nil=>exact absurd rfl hne
  | cons b r=>rfl
 rw[e]
 refine qI (λp m=>?_) (q:=[97,32,98,32,49]) (by simp) Q7
 rcases List.mem_cons.mp m with rfl | m
 ·decide
 ·exact vU bs p m
theorem Zk {cs:List Bx3}{cl c:Bx3}(h:flB cl c=false):xn (cs++[cl]++[c])=false:=VA (QJ h)
end KK
end
set_option Elab.async false
set_option linter.all false
set_option maxRecDepth 100000
namespace KK
open PySem L2
def top (i:Nat):Stmt:=PySem.Challenge.pw_clackrow_k70_whole_rows_written_and_read.main.body.getD i (.Pass ⟨0,0,0,0⟩)
abbrev qk:Stmt:=top 4
abbrev xY:Stmt:=top 5
abbrev zX:Stmt:=top 6
abbrev qj:Stmt:=top 7
abbrev jB:Stmt:=top 8
abbrev qL:Stmt:=top 12
abbrev xp:Stmt:=top 13
abbrev xP:Stmt:=top 14
abbrev xo:Stmt:=top 15
abbrev x5:Stmt:=top 16
abbrev qK:Stmt:=top 17
abbrev qJ:Stmt:=top 18
abbrev xI:Stmt:=top 19
abbrev xJ:Stmt:=top 20
abbrev xH:Stmt:=top 21
abbrev vj:Stmt:=top 22
abbrev zZ:Stmt:=top 27
abbrev xM:Stmt:=top 28
abbrev x0:Stmt:=top 29
abbrev qv:Stmt:=top 30
abbrev qt:Stmt:=top 31
abbrev xA:Stmt:=top 32
abbrev xO:Stmt:=top 33
abbrev xN:Stmt:=top 34
abbrev qb:Stmt:=top 35
abbrev qu:Stmt:=top 36
abbrev qo:Stmt:=top 38
abbrev qm:Stmt:=top 39
abbrev xK:Stmt:=top 40
abbrev qN:Stmt:=top 41
abbrev qP:Stmt:=top 42
abbrev qM:Stmt:=top 43
abbrev x8:Stmt:=top 44
abbrev xL:Stmt:=top 45
abbrev x9:Stmt:=top 46
abbrev qO:Stmt:=top 47
abbrev xy:Stmt:=top 48
abbrev xf:Stmt:=top 49
abbrev xr:Stmt:=top 50
abbrev qa:Stmt:=top 51
abbrev qp:Stmt:=top 52
abbrev ql:Stmt:=top 53
abbrev xq:Stmt:=top 54
abbrev x6:Stmt:=top 55
abbrev xz:Stmt:=top 56
abbrev qq:Stmt:=top 57
abbrev s_law:Stmt:=top 58
end KK
set_option Elab.async false
set_option linter.all false
set_option maxRecDepth 100000
namespace KK
open PySem L2
structure TxB (K:PySem.W.Frag) (mg:Str->Option Value):Prop where
 ii:PySem.W.kitOne K (.type "int") (.type "int")=some true
 ib:PySem.W.kitOne K (.type "int") (.type "bool")=some false
 nIs:mg "isinstance" = none
 nInt:mg "int" = none
 nBool:mg "bool" = none
 nAbs:mg "abs" = none
 nLen:mg "len" = none
 nMax:mg "max" = none
 nMin:mg "min" = none
 nRange:mg "range" = none
 nTuple:mg "tuple" = none
 nSum:mg "sum" = none
section
variable {P:Program}{w:World}{K:PySem.W.Frag}{mg:Str->Option Value}{base:Heap}
def jW:Sp:=λvs H Q _=>∃i,vs=[.int i]/\Q (.bl true) H
theorem J0:zr ["thing"] ["thing"] (zg qk):=⟨rfl,rfl,rfl,by decide +kernel,rfl,by decide +kernel,by decide +kernel⟩
theorem Jr (D:Df K mg "is_whole" qk ["thing"] []) (T:TxB K mg):Cal P w K mg base "is_whole" 1 ["thing"] [] jW:=by
 refine D.cal (k:=0) J0 (λvs H Q E h=>by obtain⟨i,rfl,_⟩:=h;rfl) (λf cdv A outer s H vs Q E hr h=>?_)
 obtain⟨i,rfl,k⟩:=h
 refine⟨_,zi (zo (qi
  (zG qy rfl T.nIs PyProof.Rows.boot_isinstance (zd (pv 0) (zd (vN (v:=.ty "int") (u:=.type "int") rfl T.nInt PyProof.Rows.boot_int rfl) ze)))
  (qR (zcJ (zG qy rfl T.nIs PyProof.Rows.boot_isinstance (zd (pv 0) (zd (vN (v:=.ty "bool") (u:=.type "bool") rfl T.nBool (by decide +kernel) rfl) ze))))))),?_⟩
 refine⟨_,rfl,_,_,_,true,rfl,.int i,T.ii,true,rfl,zJ ?_⟩
 exact⟨_,rfl,_,_,_,false,rfl,.int i,T.ib,false,rfl,k⟩
def XT:Sp:=λvs H Q _=>∃a b:Int,vs=[.int a,.int b]/\0<=a/\0<=b/\Q (.int (Int.gcd a b:Nat)) H
theorem JU:zr ["one","other"] ["one","other"] (zg zX):=⟨rfl,rfl,rfl,by decide +kernel,rfl,by decide +kernel,by decide +kernel⟩
theorem zcu (D:Df K mg "greatest_divisor" zX ["one","other"] []):Cal P w K mg base "greatest_divisor" 1 ["one","other"] [] XT:=by
 refine D.cal (k:=0) JU (λvs H Q E h=>by obtain⟨a,b,rfl,_⟩:=h;rfl) (λf cdv A outer s H vs Q E hr h=>?_)
 obtain⟨a,b,rfl,ha,hb,k⟩:=h
 refine⟨_,zh (ji PassesOwn.never (zy Zd (pv 1) zf (zz _))
   (zi (JE (i:=0) (j:=1) rfl JU.nd rfl rfl (by decide) rfl rfl (zd (pv 1) (zd (zu vq (pv 0) (pv 1)) ze)) (by rfl))))
  (zi (zo (pv 0))),?_⟩
 refine jo (λσ H1=>H1=H/\∃x y:Int,σ=[some (.int x),some (.int y)]/\0<=x/\0<=y/\Int.gcd x y=Int.gcd a b)
  (λσ _=>match σ with | [_,some (.int y)]=>y.toNat | _=>0) ⟨rfl,a,b,rfl,ha,hb,rfl⟩ ?_ ?_
 ·rintro σ H1 ⟨rfl,x,y,rfl,hx,hy,e⟩
  refine⟨_,rfl,_,_,rfl,rfl,_,rfl,jb (λh=>?_) (λh=>?_)⟩
  ·have h':0<y:=of_decide_eq_true h
   refine⟨_,rfl,_,rfl,_,rfl,_,_,rfl,rfl,h',_,_,rfl,⟨rfl,_,_,rfl,hy,Int.emod_nonneg _ (by omega),?_⟩,?_⟩
   ·rw[KM.Xz hx h'];exact e
   ·show (x % y).toNat<y.toNat
    have:=Int.emod_lt_of_pos x h'
    omega
  ·have h':¬ 0<y:=λz=>h (decide_eq_true z)
   have:y=0:=by omega
   subst this
   refine⟨_,rfl,?_⟩
   have e2:x=(Int.gcd a b:Nat):=by rw[<-e,Int.gcd_zero_right];omega
   rw[e2];exact k
 ·rintro σ H1 Q1 Q2 hq ⟨v,e,i,j,e1,e2,k1,e3,q⟩
  exact⟨v,e,i,j,e1,e2,k1,e3,hq _ _ q⟩
theorem jY (i:Int):(if i<0 then -i else i)=(i.natAbs:Int):=by split <;> omega
end
end KK
set_option Elab.async false
set_option linter.all false
set_option maxRecDepth 100000
namespace KK
open PySem L2
section
variable {P:Program}{w:World}{K:PySem.W.Frag}{mg:Str->Option Value}{base:Heap}
theorem Bd4 {x:Rat}(h:Sz 4000 x):Bd 1000000 x.num/\Bd 1000000 (x.den:Int):=⟨h.1.mono (by decide),h.2.mono (by decide)⟩
end
end KK
section
set_option maxHeartbeats 4000000
set_option Elab.async false
set_option linter.all false
set_option maxRecDepth 100000
namespace KK
open PySem L2
def vD (H:Hp) (p:Addr):Prop:=∃a b c:Int,H p=some (.lst [.int a,.int b,.int c])
structure xS (p:Addr) (H H':Hp):Prop where
 pool:vD H' p
 keep:∀b o,H b=some o->b≠p->H' b=some o
theorem xS.trans {p:Addr}{H H1 H2:Hp}(a:xS p H H1) (b:xS p H1 H2):xS p H H2:=⟨b.pool,λc o e n=>b.keep c o (a.keep c o e n) n⟩
theorem xS.same {p:Addr}{H H1 H2:Hp}(a:xS p H H1) (b:zl H1 H2):xS p H H2:=⟨by obtain⟨x,y,z,e⟩:=a.pool;exact⟨x,y,z,b _ _ e⟩,λc o e n=>b c o (a.keep c o e n)⟩
theorem xS.pre {p:Addr}{H H1 H2:Hp}(b:xS p H1 H2) (a:zl H H1):xS p H H2:=⟨b.pool,λc o e n=>b.keep c o (a c o e) n⟩
theorem vD.new {H:Hp}{p l:Addr}{o:HO}(h:vD H p) (hl:H l=none):vD (upd H l o) p:=by obtain⟨a,b,c,e⟩:=h;exact⟨a,b,c,zl.upd hl _ _ e⟩
theorem vD.ne {H:Hp}{p l:Addr}(h:vD H p) (hl:H l=none):l≠p:=by obtain⟨a,b,c,e⟩:=h;exact(zK e hl).symm
theorem xS.tup {p a:Addr}{H H':Hp}{xs:List V}(s:xS p H H') (hp:vD H p) (h:H a=some (.tup xs)):H' a=some (.tup xs):=by
 obtain⟨_,_,_,e⟩:=hp
 exact s.keep a _ h (zdq h e (by intro z;cases z))
section
variable {P:Program}{w:World}{K:PySem.W.Frag}{mg:Str->Option Value}{base:Heap}
def zbE:Sp:=λvs H Q _=>∃c:Int,vs=[.int c]/\∀p H',H p=none->zl H H'->vD H' p->Q (.ref p) H'
theorem zcQ:zr ["cell"] ["cell"] (zg qo):=⟨rfl,rfl,rfl,by decide +kernel,rfl,by decide +kernel,by decide +kernel⟩
theorem zct (D:Df K mg "_law_pool" qo ["cell"] []) (T:TxB K mg):Cal P w K mg base "_law_pool" 1 ["cell"] [] zbE:=by
 refine D.cal (k:=0) zcQ (λvs H Q E h=>by obtain⟨a,rfl,_⟩:=h;rfl) (λf cdv A outer s H vs Q E hr h=>?_)
 obtain⟨c,rfl,k⟩:=h
 refine⟨_,zi (zo (xx (zd (zG (Va rfl) (by rfl) T.nMax PyProof.Rows.boot_max (zd zf (zd (zu Ze (pv 0) (zu Qg zf zf)) ze))) (zd (zu vq (pv 0) (zu Qg zf zf)) (zd zf ze))))),?_⟩
 refine⟨_,rfl,_,_,rfl,rfl,⟨by decide,by decide,by decide⟩,_,_,rfl,rfl,_,_,rfl,?_⟩
 refine⟨_,rfl,_,_,rfl,rfl,⟨by decide,by decide,by decide⟩,_,_,rfl,rfl,(by show (0:Int)<10^18;decide),(by show 3<=sizeLine;decide),λp hp=>?_⟩
 exact k p _ hp (zl.upd hp) ⟨_,_,_,zj⟩
def jD:Sp:=λvs H Q _=>∃(p:Addr) (n:Int),vs=[.ref p,.int n]/\0<n/\n<1073741824/\vD H p/\∀(d:Int) H',0<=d->d<n->xS p H H'->Q (.int d) H'
theorem jU:zr ["pool","base","digit","mixed","stir"] ["pool","base"] (zg qm):=⟨rfl,rfl,rfl,by decide +kernel,rfl,by decide +kernel,by decide +kernel⟩
theorem XW {H:Hp}{p:Addr}{a b c:Int}:xS p H (upd H p (.lst [.int a,.int b,.int c])):=⟨⟨a,b,c,zj⟩,λd o e n=>by rw[zM n];exact e⟩
theorem zaP (D:Df K mg "_law_next" qm ["pool","base"] []):Cal P w K mg base "_law_next" 1 ["pool","base"] [] jD:=by
 refine D.cal (k:=0) jU (λvs H Q E h=>by obtain⟨a,b,rfl,_⟩:=h;rfl) (λf cdv A outer s H vs Q E hr h=>?_)
 obtain⟨p,n,rfl,n0,n1,⟨a,b,c,hp⟩,k⟩:=h
 refine⟨_,zh (zW (zy Zd (zq zS (pv 0) zf (λ_ _=>rfl)) zf (zz _))
   (zh (zA (i:=2) jU.nd rfl (Or.inl rfl) (zu vq (zq zS (pv 0) zf (λ_ _=>rfl)) (pv 1)))
   (zh (vH (zu QG (zq zS (pv 0) zf (λ_ _=>rfl)) (pv 1)) (Jz (pv 0) zf XR))
   (zi (zo (pv 2))))) zD)
  (zh (vH (zu qC (zq zS (pv 0) zf (λ_ _=>rfl)) zf) (Jz (pv 0) zf XR))
  (zh (zA (i:=3) jU.nd rfl (Or.inl rfl) (zu vq (zu qC (zq zS (pv 0) zf (λ_ _=>rfl)) (zu Qf zf (zq zS (pv 0) zf (λ_ _=>rfl)))) zf))
  (zh (zA (i:=4) jU.nd rfl (Or.inl rfl) (zu vq (zu Qf (zu qC (pv 3) zf) (zu qC (pv 3) zf)) zf))
  (zi (zo (zu vq (zu QG (zu vq (zu Qf (pv 4) (pv 4)) zf) zf) (pv 1))))))),?_⟩
 refine⟨_,rfl,p,_,_,_,rfl,rfl,.of hp,rfl,_,_,rfl,rfl,_,rfl,jb (λh=>?_) (λh=>?_)⟩
 ·refine⟨_,rfl,p,_,_,_,rfl,rfl,.of hp,rfl,_,rfl,_,_,rfl,rfl,n0,?_⟩
  refine⟨_,rfl,p,_,_,_,rfl,rfl,.of hp,rfl,_,rfl,_,_,rfl,rfl,⟨n0,n1⟩,?_⟩
  refine⟨_,rfl,p,_,_,0,rfl,rfl,hp,rfl,?_⟩
  exact⟨_,rfl,k _ _ (Int.emod_nonneg _ (by omega)) (Int.emod_lt_of_pos _ n0) XW⟩
 ·refine⟨_,rfl,p,_,_,_,rfl,rfl,.of hp,rfl,_,_,rfl,rfl,?_⟩
  refine⟨_,rfl,p,_,_,2,rfl,rfl,hp,rfl,?_⟩
  refine⟨_,rfl,p,_,_,_,rfl,rfl,.of zj,rfl,_,rfl,p,_,_,_,rfl,rfl,.of zj,rfl,_,_,rfl,rfl,.inl ⟨by decide,by decide⟩,_,_,rfl,rfl,_,_,rfl,rfl,(by show (0:Int)<1000000007;decide),?_⟩
  refine⟨_,rfl,_,_,rfl,rfl,_,rfl,_,_,rfl,rfl,_,_,rfl,rfl,.inl (by constructor <;> omega),_,_,rfl,rfl,(by show (0:Int)<998244353;decide),?_⟩
  refine⟨_,rfl,_,rfl,_,_,rfl,rfl,.inl (by constructor <;> omega),_,_,rfl,rfl,(by show (0:Int)<2147483647;decide),_,_,rfl,rfl,⟨by decide,by decide⟩,_,rfl,_,_,rfl,rfl,n0,?_⟩
  exact k _ _ (Int.emod_nonneg _ (by omega)) (Int.emod_lt_of_pos _ n0) XW
end
end KK
end
section
set_option maxHeartbeats 4000000
set_option Elab.async false
set_option linter.all false
set_option maxRecDepth 100000
namespace KK
open PySem L2 KM
inductive zI (H:Hp):List V->List qw->Prop
 | nil:zI H [] []
 | cons {a p q:Addr}{b:qw}{vs:List V}{bs:List qw}:H a=some (.tup [.ref p,.ref q,.int b.wt])->xg H p b.pl->xg H q b.sp->zI H vs bs->zI H (.ref a::vs) (b::bs)
theorem zI.mono {H H':Hp}(m:∀b xs,H b=some (.tup xs)->H' b=some (.tup xs)):∀{vs:List V}{bs:List qw},zI H vs bs->zI H' vs bs
 | _,_,.nil=>.nil
 | _,_,.cons h1 h2 h3 t=>.cons (m _ _ h1) (m _ _ h2) (m _ _ h3) (zI.mono m t)
theorem zI.same {H H':Hp}{vs:List V}{bs:List qw}(h:zI H vs bs) (e:zl H H'):zI H' vs bs:=h.mono λb xs z=>e b _ z
theorem zI.length {H:Hp}:∀{vs:List V}{bs:List qw},zI H vs bs->vs.length=bs.length
 | _,_,.nil=>rfl
 | _,_,.cons _ _ _ t=>by rw[List.length_cons,List.length_cons,zI.length t]
theorem zI.append {H:Hp}{us:List V}{cs:List qw}(k:zI H us cs):∀{vs:List V}{bs:List qw},zI H vs bs->zI H (vs++us) (bs++cs)
 | _,_,.nil=>k
 | _,_,.cons h1 h2 h3 t=>.cons h1 h2 h3 (zI.append k t)
theorem zI.one {H:Hp}{a p q:Addr}{b:qw}(h1:H a=some (.tup [.ref p,.ref q,.int b.wt])) (h2:xg H p b.pl) (h3:xg H q b.sp):zI H [.ref a] [b]:=.cons h1 h2 h3 .nil
theorem zI.get {H:Hp}:∀{vs:List V}{bs:List qw}{i:Nat}{v:V},zI H vs bs->vs[i]? = some v->∃(a p q:Addr) (b:qw),bs[i]? = some b/\v = .ref a/\H a=some (.tup [.ref p,.ref q,.int b.wt])/\xg H p b.pl/\xg H q b.sp
 | _,_,_,_,.nil,e=>by simp at e
 | _,_,0,_,.cons h1 h2 h3 _,e=>by
  simp at e;subst e
  exact⟨_,_,_,_,rfl,rfl,h1,h2,h3⟩
 | _,_,i+1,v,.cons _ _ _ t,e=>by
  obtain⟨a,p,q,b,e1,r⟩:=zI.get (i:=i) t (by simpa using e)
  exact⟨a,p,q,b,by simpa using e1,r⟩
theorem zI.last {H:Hp}{vs:List V}{bs:List qw}{b:qw}(h:zI H vs (bs++[b])):∃(us:List V) (a p q:Addr),vs=us++[.ref a]/\H a=some (.tup [.ref p,.ref q,.int b.wt])/\xg H p b.pl/\xg H q b.sp:=by
 have hl:=h.length
 rw[List.length_append,List.length_singleton]at hl
 have hi:bs.length<vs.length:=by omega
 obtain⟨a,p,q,c,e1,e2,r⟩:=h.get (i:=bs.length) (List.getElem?_eq_getElem hi)
 rw[List.getElem?_append_right (Nat.le_refl _)]at e1
 simp at e1;subst e1
 refine⟨vs.take bs.length,a,p,q,?_,r⟩
 rw[<-e2]
 have:=List.take_append_getElem hi
 rw[this,List.take_of_length_le (by omega)]
def Zb (b c:qw):Prop:=b.pl<c.pl\/(b.pl=c.pl/\b.sp<c.sp)
theorem Zb.trans {a b c:qw}(h:Zb a b) (k:Zb b c):Zb a c:=by
 unfold Zb at *
 rcases h with h | ⟨h1,h2⟩ <;> rcases k with k | ⟨k1,k2⟩
 ·exact .inl (by grind)
 ·exact .inl (by grind)
 ·exact .inl (by grind)
 ·exact .inr ⟨by grind,by grind⟩
structure Zw (bs:List qw):Prop where
 wt:∀b∈bs,1<=b.wt/\b.wt<=1000
 sz:∀b∈bs,Sz 300 b.pl/\Sz 80 b.sp
 pw:bs.Pairwise Zb
theorem Zw.nil:Zw []:=⟨(λ_ h=>nomatch h),(λ_ h=>nomatch h),List.Pairwise.nil⟩
theorem Zw.snoc {bs:List qw}{b:qw}(G:Zw bs) (hw:1<=b.wt/\b.wt<=1000) (hs:Sz 300 b.pl/\Sz 80 b.sp) (h:∀cs c,bs=cs++[c]->Zb c b):Zw (bs++[b]):=by
 refine⟨λx hx=>?_,λx hx=>?_,?_⟩
 ·rcases List.mem_append.mp hx with z | z
  ·exact G.wt x z
  ·simp at z;subst z;exact hw
 ·rcases List.mem_append.mp hx with z | z
  ·exact G.sz x z
  ·simp at z;subst z;exact hs
 ·rw[List.pairwise_append]
  refine⟨G.pw,List.pairwise_singleton _ _,λx hx y hy=>?_⟩
  simp at hy;subst hy
  rcases List.eq_nil_or_concat bs with e | ⟨cs,c,e⟩
  ·subst e;exact(nomatch hx)
  ·have e':bs=cs++[c]:=by simpa using e
   have hc:=h cs c e'
   subst e'
   rcases List.mem_append.mp hx with z | z
   ·have:=(List.pairwise_append.mp G.pw).2.2 x z c (by simp)
    exact this.trans hc
   ·simp at z;subst z;exact hc
end KK
end
section
set_option maxHeartbeats 4000000
set_option Elab.async false
set_option linter.all false
set_option maxRecDepth 100000
namespace L2
open PySem PySem.Spec PyProof.Rows
section
variable {X:Cx}
def zdF (K:PySem.W.Frag):R2:=λx y H Q=>∃l b xs zs,x = .ref l/\y = .ref b/\SqL K H l xs/\SqL K H b zs/\xs.length+zs.length<=sizeLine/\∀p,H p=none->Q (.ref p) (upd H p (.lst (xs++zs)))
theorem jO:OpR X (binaryOp .Add) (zdF X.K):=by
 intro pins s σ H x y v u Q I rx ry h
 obtain⟨l,b,xs,zs,rfl,rfl,hH,hB,hz,q⟩:=h
 cases rx
 cases ry
 obtain⟨its,r,pl,z⟩:=I.list hH
 obtain⟨its2,r2,pl2,z2⟩:=I.list hB
 have e1:=r.length
 have e2:=r2.length
 obtain⟨⟨cls,dd,data,sl⟩,n,ho,hc,hdn,hd⟩:=pl
 obtain⟨⟨cls2,dd2,data2,sl2⟩,n2,ho2,hc2,hdn2,hd2⟩:=pl2
 simp only at hc hd hc2 hd2
 subst hc hd hc2 hd2
 refine concat_meets ⟨_,ho,rfl⟩ ⟨_,ho2,rfl⟩ noFill_list_add seq_list_add PySem.F.slot_list_add PySem.F.entry_list_add (PySem.F.args_list_add_2 _ _) (list_addW l b its.toArray its2.toArray n n2 dd dd2 sl sl2 (by simp only[List.size_toArray];omega)) ⟨ho,ho2,?_⟩
 have ea:its.toArray++its2.toArray=(its++its2).toArray:=by simp
 rw[ea]
 exact⟨.ref _,_,I.lnew (t':=s.toks) (r.append r2) (by rw[List.length_append];omega),rfl,q _ I.fresh⟩
end
section
variable {X:Cx}{e st:Expr}{te:TE}{pos p2:Pos}
def zeb (K:PySem.W.Frag) (te ts:TE):TE:=λσ H Q=>te σ H λx H1=>ts σ H1 λy H2=>∃a xs,x = .ref a/\y = .int (-1)/\SqL K H2 a xs/\∀p,H2 p=none->Q (.ref p) (upd H2 p (.lst xs.reverse))
theorem za1 {ts:TE}(he:PE X e te) (hs:PE X st ts):PE X (.Subscript e (.Slice none none (some st) p2) pos) (zeb X.K te ts):=by
 intro pins s σ H Q I h
 refine Subscript_ (thn (he pins s σ H _ I h) λv s1 ⟨x,H1,I1,r1,q1⟩=>?_)
 refine wpAny_Slice ?_
 rw[evalPart_none]
 refine wpAny_pure (wpAny_pure ?_)
 rw[evalPart_some]
 refine thn (hs pins s1 σ H1 _ I1 q1) λu s3 ⟨y,H3,I3,r3,q3⟩=>?_
 obtain⟨a,xs,rfl,rfl,hx,q⟩:=q3
 cases r1
 obtain⟨t,rfl⟩:=r3
 have I4:Inv X pins σ H3 { s3 with heap:=s3.heap.push { cls:=.type "slice",data:=.fields #[.none,.none,.int (-1) t] } }:=I3.kept (t':=s3.toks) λb ob q=>Heap.get?_push_of_some _ q
 obtain⟨its,r,ht,hz⟩:=I4.list hx
 have hlen:=r.length
 show wpAny (model X.prog X.w) X.A (subscriptTail e (.Slice none none (some st) p2) (.ref a) (.ref s3.heap.objs.size)) (EP X pins σ Q) X.xe { s3 with heap:=s3.heap.push { cls:=.type "slice",data:=.fields #[.none,.none,.int (-1) t] } }
 refine tail_any (ops:=[.ref a,.ref s3.heap.objs.size]) ht.isList.typeIs slot_list_getitem.lookup (wpAny_getItem_list_slice ht.isList (Heap.IsSliceOf.new ..) .none .none (.int (-1) t) (by simp) ?_ (by rw[List.size_toArray] <;> omega)) (by with_unfolding_all rfl)
 rw[PySem.W.krv_pick]
 refine⟨.ref _,_,I4.laid (t':=s3.toks) (o:=.lst xs.reverse) (λb ob q=>Heap.get?_push_of_some _ q) (Nat.le_refl _) ?_,rfl,q _ (I4.hok.fresh (Nat.le_refl _))⟩
 exact⟨by rw[List.length_reverse];exact hz,_,0,r.rev,Heap.get?_push_size _ rfl⟩
end
theorem qU.quiet {P:Program}{w:World}{K:PySem.W.Frag}{mg:Str->Option Value}{base:Heap}{x:Str}{k:Nat}{ps:List Str}{dvs:List V}{sp sp':Sp}(c:qU P w K mg base x k ps dvs sp) (h:∀vs H Q E,sp' vs H Q E->sp vs H Q λ_ _ _=>False):Cal P w K mg base x k ps dvs sp':=by
 obtain⟨f,fd,ds,F,r⟩:=c.ex
 refine⟨⟨f,fd,ds,⟨λvs H Q E q=>F.len vs H Q _ (h vs H Q E q),λA outer s H args us vs Q E hr e0 hb hv q=>?_⟩,r⟩⟩
 refine codeAny_mono (F.run A outer s H args us vs Q _ hr e0 hb hv (h vs H Q E q)) λrr s' hq=>?_
 cases rr with
 | ok fl=>cases fl <;> exact hq
 | error e=>obtain⟨_,_,_,_,_,_,_,_,z⟩:=hq;exact z.elim
end L2
namespace KK
open PySem L2 KM
abbrev Xs (x:Str) (C:Addr) (mg:Str->Option Value) (h:Heap):Prop:=PyProof.Rows.OwnCls x C zc9 "ValueError.__new__" mg h
theorem zL {D:vC}{σ:St}{H:Hp}(h:D.nx σ H):zac D σ H:=h
theorem Zu {t u:TS}{D:vC}{σ:St}{H:Hp}(R:St->Hp->Prop) (h2:∀σ' H',R σ' H'->u D σ' H') (h1:∀nx:St->Hp->Prop,(∀σ' H',R σ' H'->nx σ' H')->t { D with nx:=nx } σ H):Xo t u D σ H:=h1 (u D) h2
theorem xS.free {p l:Addr}{H G:Hp}(s:xS p H G) (h:G l=none):H l=none:=by
 cases hh:H l with
 | none=>rfl
 | some o =>
  by_cases e:l=p
  ·subst e;obtain⟨_,_,_,z⟩:=s.pool;rw[z]at h;cases h
  ·rw[s.keep _ _ hh e]at h;cases h
theorem xS.put {p l:Addr}{H G:Hp}(s:xS p H G) (h:H l=none) (n:l≠p) (o:HO):xS p H (upd G l o) :=
 ⟨by obtain⟨a,b,c,e⟩:=s.pool;exact⟨a,b,c,by rw[zM (Ne.symm n)];exact e⟩,λb u e nb=>by rw[zM (λz=>by rw[z,h]at e;cases e)];exact s.keep b u e nb⟩
theorem qd {p:Addr}{H H':Hp}(hp:vD H p) (s:xS p H H'):xu H H':=λb xs e=>s.tup hp e
theorem bdn {n:Nat}{i:Int}(h0:0<=i) (h1:i<2^n):Bd n i:=by
 unfold Bd
 have:((2^n:Nat):Int)=(2:Int)^n:=by push_cast;rfl
 omega
theorem bdz {n:Nat}{i:Int}(h0 : -(2^n)<i) (h1:i<2^n):Bd n i:=by
 unfold Bd
 have:((2^n:Nat):Int)=(2:Int)^n:=by push_cast;rfl
 omega
theorem za2 {X:Cx}{es:List Expr}{k:Nat}{pos:Pos}{t:TGs}{n:Nat}{K:PySem.W.Frag}(hK:X.K=K) (hc:X.calm=true) (h:PGs X es t)
  (hn:(assignEach es X.env).length=n:=by rfl) (hst:(assignEach es X.env).findIdx? (·.1)=none:=by rfl):PG X (.Tuple es k pos) (zau K n t):=by subst hK;exact jz hc h hn hst
theorem Jd (x y:Rat):decide (x.num*(y.den:Int)<y.num*(x.den:Int))=decide (x<y):=by
 by_cases h:x<y
 ·rw[decide_eq_true h,decide_eq_true ((KM.XC x y).mpr h)]
 ·rw[decide_eq_false h,decide_eq_false λz=>h ((KM.XC x y).mp z)]
def RI (H:Hp) (v:V) (r:Int×Int):Prop:=∃p,v = .ref p/\H p=some (.tup [.int r.1,.int r.2])
def WI (H:Hp) (v:V):Wx->Prop
 | none=>v = .non
 | some u=>∃p a b,v = .ref p/\H p=some (.tup [a,b])/\RI H a u.1/\RI H b u.2
theorem RI.tups {H H':Hp}{v:V}{r:Int×Int}(h:RI H v r) (e:xu H H'):RI H' v r:=let ⟨p,a,b⟩:=h;⟨p,a,e _ _ b⟩
theorem RI.of {H:Hp}{p:Addr}{q:Rat}(h:xg H p q):RI H (.ref p) (q.num,(q.den:Int)):=⟨p,rfl,h⟩
theorem str_int (n:Nat):(Str.ofString (toString ((n:Nat):Int)))=TX (fig n):=by
 rw[<-vA (Str.ofString _),PySem.W.KIN.signs_num];rfl
end KK
end
section
set_option maxHeartbeats 4000000
set_option Elab.async false
set_option linter.all false
set_option maxRecDepth 100000
namespace KK
open PySem L2 KM
structure TxS (K:PySem.W.Frag) (mg:Str->Option Value):Prop where
 ss:PySem.W.kitOne K (.type "str") (.type "str")=some true
 tt:PySem.W.kitOne K (.type "tuple") (.type "tuple")=some true
 nStr:mg "str" = none
 nAll:mg "all" = none
 nList:mg "list" = none
section
variable {P:Program}{w:World}{K:PySem.W.Frag}{mg:Str->Option Value}{base:Heap}
theorem XB {α:Type}{xs:List α}(h:xs.length=1):∃a,xs=[a]:=by
 match xs,h with
 | [a],_=>exact⟨a,rfl⟩
theorem Qz {sep:Str}(hs:sep.length<=100):∀(ts:List Str) (i:Nat),(∀t∈ts,t.length<=1000)->ts.foldl (λn t=>n+t.length+sep.length) i<=i+ts.length*1100
 | [],i,_=>by simp
 | t::ts,i,h=>by
  have:=Qz hs ts (i+t.length+sep.length) λu m=>h u (List.mem_cons_of_mem _ m)
  have h2:=h t (List.mem_cons_self ..)
  rw[List.foldl_cons,List.length_cons]
  omega
theorem zay {sep:Str}{ts:List Str}(hs:sep.length<=100) (hn:ts.length<=100) (hl:∀t∈ts,t.length<=1000):JoinOk sep ts=true:=by
 have:=Qz hs ts 0 hl
 unfold JoinOk Builtin.Str.tooLong
 rw[Bool.not_eq_true',List.foldl_toArray]
 exact decide_eq_false (by rw[sizeLine_eq];omega)
theorem XA (a:Str):Txt.join a []=TX []:=by cases a;rfl
theorem JW:zr ["number","pieces","rest"] ["number"] (zg zZ):=⟨rfl,rfl,rfl,by decide +kernel,rfl,by decide +kernel,by decide +kernel⟩
def zbH:Sp:=λvs H Q _=>∃n:Nat,vs=[.int n]/\n<10^60/\∀H',zl H H'->Q (.str (TX (fig n))) H'
theorem ZK {n:Nat}(h:n<10^60):((n:Int)).natAbs.log2<1920:=by
 have e:((n:Int)).natAbs=n:=by omega
 rw[e]
 rcases Nat.eq_zero_or_pos n with z | z
 ·subst z;decide
 ·exact(Nat.log2_lt (by omega)).mpr (Nat.lt_trans h (by decide))
theorem zbB (TS:TxS K mg){f:Addr}{cdv:Value}{A:Around}{outer:List Env}{s:Shared}{H:Hp}{Q:VK}{E:XK}{n:Nat}(hn:n<10^60) (k:∀H',zl H H'->Q (.str (TX (fig n))) H') :
  ∃t,PSs (xX CX0 P w K mg base ["number","pieces","rest"] "number_text" (zg zZ) f cdv A outer s H E).nox (zm zZ) t/\t { nx:=λ_ H'=>Q .non H',rt:=Q } (vz ["number","pieces","rest"] [.int (n:Int)]) H:=by
 refine⟨_,(zh (zW (zy vT (pv 0) zf (zz _)) jA zD)
  (zh (zA (i:=1) JW.nd rfl (Or.inl rfl) (xx ze))
  (zh (ji PassesOwn.never (zy zdC (pv 0) (zu Qg zf zf) (zz _)) jA)
  (zi (zo (zu zn (xZ Z7 (by rfl) TS.nStr PyProof.Rows.boot_str (zd (pv 0) ze)) (vi PySem.F.plainAttrs_str PySem.F.slot_str_join PySem.F.type_str_join Xe zw (zd (za1 (pv 1) (qX qg zf)) ze)))))))),?_⟩
 refine⟨_,rfl,_,_,rfl,rfl,_,rfl,jb (λh=>absurd (of_decide_eq_true h) (by omega)) (λ_=>?_)⟩
 refine zL ?_
 refine⟨by show 0<=sizeLine;exact Nat.zero_le _,λl hl=>?_⟩
 dsimp only[zH]
 refine XV ?_
 refine jo (λσ H1=>σ=[some (.int (n:Int)),some (.ref l),none]/\H1=upd H l (.lst [])) (λ_ _=>0) ⟨rfl,rfl⟩ ?_ ?_
 ·rintro σ H1 ⟨rfl,rfl⟩
  refine⟨_,rfl,_,_,rfl,rfl,⟨by decide,by decide,by decide⟩,_,_,rfl,rfl,_,rfl,jb (λh=>?_) (λ_=>?_)⟩
  ·have h2:(10:Int)^60<=(n:Int):=of_decide_eq_true h
   exfalso
   have:((10^60:Nat):Int)=(10:Int)^60:=by decide
   omega
  ·refine⟨_,rfl,_,rfl,ZK hn,?_⟩
   refine⟨rfl,_,rfl,_,rfl,l,[],rfl,rfl,.of zj,λp hp=>?_⟩
   refine⟨_,p,[],rfl,rfl,.of zj,by rfl,?_⟩
   refine⟨_,_,rfl,rfl,?_,?_⟩
   ·rw[XA,str_int,zx,zx]
    have:=vM (k:=60) (by decide) hn
    show _+0<=sizeLine
    exact szl (by omega)
   ·have e:(Str.ofString (toString ((n:Nat):Int))++Txt.join (Str.ofString "") [])=TX (fig n):=by rw[XA,str_int,zF,List.append_nil]
    rw[e]
    exact k _ ((zl.upd hl).trans (zl.upd hp))
 ·rintro σ H1 Q1 Q2 hq ⟨v,e,i,j,e1,e2,c,i2,j2,e3,e4,b,e5,q⟩
  exact⟨v,e,i,j,e1,e2,c,i2,j2,e3,e4,b,e5,hq _ _ q⟩
theorem zcC (D:Df K mg "number_text" zZ ["number"] []) (TS:TxS K mg):Cal P w K mg base "number_text" 1 ["number"] [] zbH:=by
 refine D.cal (k:=0) JW (λvs H Q E h=>by obtain⟨_,rfl,_⟩:=h;rfl) (λf cdv A outer s H vs Q E hr h=>?_)
 obtain⟨n,rfl,hn,k⟩:=h
 exact zbB TS hn k
def zdU:Sp:=λvs H Q _=>∃n:Int,vs=[.int n]/\n.natAbs<10^60/\∀H',zl H H'->Q (.str (TX (ntL n))) H'
theorem zdy (D:Df K mg "number_text" zZ ["number"] []) (TS:TxS K mg) (c0:Cal P w K mg base "number_text" 1 ["number"] [] zbH):Cal P w K mg base "number_text" 2 ["number"] [] zdU:=by
 refine D.cal (k:=1) JW (λvs H Q E h=>by obtain⟨_,rfl,_⟩:=h;rfl) (λf cdv A outer s H vs Q E hr h=>?_)
 obtain⟨n,rfl,hn,k⟩:=h
 by_cases n0:n<0
 case neg =>
  obtain⟨m,rfl⟩:=Int.eq_ofNat_of_zero_le (show 0<=n by omega)
  refine zbB TS (show m<10^60 by omega) λH' e=>?_
  have:=k H' e
  have e2:ntL (m:Int)=fig m:=by unfold ntL;rw[if_neg n0];rfl
  rw[e2]at this;exact this
 refine⟨_,(zh (zW (zy vT (pv 0) zf (zz _)) (zi (zo (zu zn zw (zE c0 hr (zd (qX qg (pv 0)) ze))))) zD) jA),?_⟩
 refine⟨_,rfl,_,_,rfl,rfl,_,rfl,jb (λh=>?_) (λh=>absurd (decide_eq_true n0) h)⟩
 refine⟨_,rfl,_,rfl,n.natAbs,congrArg (λi=>[V.int i]) (by omega),hn,λH1 s1=>?_⟩
 have e:ntL n=45::fig n.natAbs:=by unfold ntL;rw[if_pos n0]
 refine⟨_,_,rfl,rfl,?_,?_⟩
 ·rw[zx]
  have:=vM (k:=60) (by decide) hn
  show 1+_<=sizeLine
  exact szl (by omega)
 ·have e2:(Str.ofString "-"++TX (fig n.natAbs))=TX (ntL n):=by
   rw[e,show Str.ofString "-" = TX [45] by decide +kernel,zF];rfl
  rw[e2]
  exact k _ s1
theorem JY:zr ["one","top","bottom"] ["one"] (zg xM):=⟨rfl,rfl,rfl,by decide +kernel,rfl,by decide +kernel,by decide +kernel⟩
def Rz (r:Int×Int):Prop:=r.1.natAbs<10^60/\r.2.natAbs<10^60
theorem vY {n:Int}(h:n.natAbs<10^60):(ntL n).length<=61:=by
 have:=vM (k:=60) (by decide) h
 unfold ntL;split
 ·simp;omega
 ·omega
theorem qF {r:Int×Int}(h:Rz r):(rtL r).length<=123:=by
 have h1:=vY h.1
 have h2:=vY h.2
 unfold rtL;split
 ·omega
 ·simp;omega
def zdY:Sp:=λvs H Q _=>∃v r,vs=[v]/\RI H v r/\Rz r/\∀H',zl H H'->Q (.str (TX (rtL r))) H'
theorem zdA (D:Df K mg "ratio_text" xM ["one"] []) (cNt:Cal P w K mg base "number_text" 2 ["number"] [] zdU):Cal P w K mg base "ratio_text" 3 ["one"] [] zdY:=by
 refine D.cal (k:=2) JY (λvs H Q E h=>by obtain⟨_,_,rfl,_⟩:=h;rfl) (λf cdv A outer s H vs Q E hr h=>?_)
 obtain⟨v,r,rfl,⟨p,rfl,hp⟩,hz,k⟩:=h
 refine⟨_,(zh (vH (pv 0) (jz rfl (z9 (zT (i:=1) JY.nd rfl (Or.inl rfl)) (z9 (zT (i:=2) JY.nd rfl (Or.inl rfl)) vv))))
  (zh (zW (zy qh (pv 2) zf (zz _)) (zi (zo (zE cNt hr (zd (pv 1) ze)))) zD)
  (zi (zo (zu zn (zu zn (zE cNt hr (zd (pv 1) ze)) zw) (zE cNt hr (zd (pv 2) ze))))))),?_⟩
 refine⟨_,rfl,p,_,rfl,.of hp,rfl,_,_,rfl,_,_,rfl,rfl,?_⟩
 dsimp only
 refine⟨_,rfl,rfl,_,rfl,jb (λh=>?_) (λh=>?_)⟩
 ·have e:r.2=1:=by have:=of_decide_eq_true h;injection this
  refine⟨_,rfl,_,rfl,hz.1,λH1 s1=>?_⟩
  have e2:rtL r=ntL r.1:=by unfold rtL;rw[if_pos e]
  have:=k H1 s1
  rw[e2]at this;exact this
 ·have e:r.2≠1:=λz=>h (decide_eq_true (congrArg V.int z))
  refine⟨_,rfl,_,rfl,hz.1,λH1 s1=>?_⟩
  have l1:=vY hz.1
  have l2:=vY hz.2
  refine⟨_,_,rfl,rfl,?_,?_⟩
  ·rw[zx];exact szl (by show _+1<=1000;omega)
  refine⟨_,rfl,_,rfl,hz.2,λH2 s2=>?_⟩
  have e0:TX (ntL r.1)++Str.ofString "/" = TX (ntL r.1++[47]):=by rw[show Str.ofString "/" = TX [47] by decide +kernel,zF]
  refine⟨_,_,rfl,rfl,?_,?_⟩
  ·rw[e0,zx,zx];exact szl (by simp;omega)
  have e2:rtL r=ntL r.1++[47]++ntL r.2:=by unfold rtL;rw[if_neg e]
  have:=k H2 (s1.trans s2)
  rw[e2,<-zF,<-e0]at this;exact this
end
end KK
end
section
set_option maxHeartbeats 4000000
set_option Elab.async false
set_option linter.all false
set_option maxRecDepth 100000
namespace KK
open PySem L2 KM
section
variable {P:Program}{w:World}{K:PySem.W.Frag}{mg:Str->Option Value}{base:Heap}
def zbr:Sp:=λvs H Q _=>∃(a:Addr) (xs:List V) (n:Int),vs=[.ref a,.int n]/\H a=some (.tup xs)/\Q (.bl (decide ((xs.length:Int)=n))) H
theorem XO:zr ["thing","many"] ["thing","many"] (zg xY):=⟨rfl,rfl,rfl,by decide +kernel,rfl,by decide +kernel,by decide +kernel⟩
theorem xj (a b:Int):decide (V.int a=V.int b)=decide (a=b):=by
 by_cases h:a=b
 ·rw[h,decide_eq_true rfl,decide_eq_true rfl]
 ·rw[decide_eq_false h,decide_eq_false (λz=>h (by injection z))]
theorem Jk (D:Df K mg "is_tuple" xY ["thing","many"] []) (T:TxB K mg) (TS:TxS K mg):Cal P w K mg base "is_tuple" 1 ["thing","many"] [] zbr:=by
 refine D.cal (k:=0) XO (λvs H Q E h=>by obtain⟨_,_,_,rfl,_⟩:=h;rfl) (λf cdv A outer s H vs Q E hr h=>?_)
 obtain⟨a,xs,n,rfl,ha,k⟩:=h
 refine⟨_,(zi (zo (qi (zG qy (by rfl) T.nIs PyProof.Rows.boot_isinstance (zd (pv 0) (zd (vN (v:=.ty "tuple") (u:=.type "tuple") (by rfl) T.nTuple PyProof.Rows.boot_tuple rfl) ze))) (qR (xD qh (zG zU (by rfl) T.nLen PySem.boot_len (zd (pv 0) ze)) (pv 1) (zz _)))))),?_⟩
 refine⟨_,rfl,_,_,_,true,rfl,.tup ha,TS.tt,true,rfl,zJ ?_⟩
 refine⟨_,rfl,a,xs,rfl,.inr (SqT.of ha),_,rfl,?_⟩
 rw[<-xj]at k
 exact⟨rfl,k⟩
def zbn:Sp:=λvs H Q _=>∃(v:V) (r:Int×Int),vs=[v]/\RI H v r/\Q (.bl (xT r.1 r.2)) H
theorem Qm:zr ["thing","top","bottom"] ["thing"] (zg qj):=⟨rfl,rfl,rfl,by decide +kernel,rfl,by decide +kernel,by decide +kernel⟩
theorem zcv (D:Df K mg "is_ratio" qj ["thing"] []) (T:TxB K mg) (cTu:Cal P w K mg base "is_tuple" 1 ["thing","many"] [] zbr) (cW:Cal P w K mg base "is_whole" 1 ["thing"] [] jW) (cG:Cal P w K mg base "greatest_divisor" 1 ["one","other"] [] XT):Cal P w K mg base "is_ratio" 2 ["thing"] [] zbn:=by
 refine D.cal (k:=1) Qm (λvs H Q E h=>by obtain⟨_,_,rfl,_⟩:=h;rfl) (λf cdv A outer s H vs Q E hr h=>?_)
 obtain⟨v,r,rfl,⟨p,rfl,hp⟩,k⟩:=h
 refine⟨_,(zh (zW (xh (zV (zE cTu hr (zd (pv 0) (zd zf ze))) λ_=>rfl)) (zi (zo vh)) zD)
  (zh (vH (pv 0) (jz rfl (z9 (zT (i:=1) Qm.nd rfl (Or.inl rfl)) (z9 (zT (i:=2) Qm.nd rfl (Or.inl rfl)) vv))))
  (zh (zW ((qB (xh (zV (zE cW hr (zd (pv 1) ze)) λ_=>rfl)) (qB (xh (zV (zE cW hr (zd (pv 2) ze)) λ_=>rfl)) (qD (zy vT (pv 2) zf (zz _)))))).pt (zi (zo vh)) zD)
  (zi (zo (xD qh (zE cG hr (zd (zG j4 (by rfl) T.nAbs PyProof.Rows.boot_abs (zd (pv 1) ze)) (zd (pv 2) ze))) zf (zz _))))))),?_⟩
 refine⟨_,rfl,p,_,_,rfl,hp,true,rfl,zR ?_⟩
 refine zL ?_
 refine⟨_,rfl,p,_,rfl,.of hp,rfl,_,_,rfl,_,_,rfl,rfl,?_⟩
 dsimp only
 refine⟨_,rfl,r.1,rfl,true,rfl,zR ?_⟩
 refine⟨_,rfl,r.2,rfl,true,rfl,zR ?_⟩
 refine⟨_,rfl,_,_,rfl,rfl,_,rfl,jb (λh=>?_) (λh=>?_)⟩
 ·have h1:r.2<1:=of_decide_eq_true h
  have e:xT r.1 r.2=false:=by unfold xT;rw[decide_eq_false (by omega)];rfl
  rw[e]at k;exact k
 ·have h1:¬r.2<1:=λz=>h (decide_eq_true z)
  refine zL ?_
  refine⟨_,rfl,r.1,rfl,_,rfl,_,_,rfl,(by rw[jY];omega),(by omega),rfl,?_⟩
  have e:xT r.1 r.2=decide (V.int ((Int.gcd (if r.1<0 then -r.1 else r.1) r.2:Nat):Int)=V.int 1):=by
   unfold xT
   rw[decide_eq_true (show 1<=r.2 by omega),xj,jY,Bool.true_and]
   by_cases c:Int.gcd (r.1.natAbs:Int) r.2=1
   ·rw[decide_eq_true c,c];rfl
   ·rw[decide_eq_false c,decide_eq_false (by omega)]
  rw[e]at k;exact k
def zcm:Wx->Bool
 | none=>true
 | some u=>xT u.1.1 u.1.2&&xT u.2.1 u.2.2
def zdS:Sp:=λvs H Q _=>∃(v:V) (u:Wx),vs=[v]/\WI H v u/\Q (.bl (zcm u)) H
theorem VC:zr ["thing"] ["thing"] (zg qL):=⟨rfl,rfl,rfl,by decide +kernel,rfl,by decide +kernel,by decide +kernel⟩
theorem Vv (D:Df K mg "is_wall" qL ["thing"] []) (cTu:Cal P w K mg base "is_tuple" 1 ["thing","many"] [] zbr) (cIr:Cal P w K mg base "is_ratio" 2 ["thing"] [] zbn):Cal P w K mg base "is_wall" 3 ["thing"] [] zdS:=by
 refine D.cal (k:=2) VC (λvs H Q E h=>by obtain⟨_,_,rfl,_⟩:=h;rfl) (λf cdv A outer s H vs Q E hr h=>?_)
 obtain⟨v,u,rfl,hw,k⟩:=h
 have hr1:xa 1 _:=hr.mono (by decide)
 refine⟨_,(zh (zW (zy jy (pv 0) xm (zz _)) (zi (zo vh)) zD)
  (zi (zo (qi (zE cTu hr1 (zd (pv 0) (zd zf ze))) (qi (zE cIr hr (zd (zq zv (pv 0) zf (λ_ _=>rfl)) ze)) (qR (zE cIr hr (zd (zq zv (pv 0) zf (λ_ _=>rfl)) ze)))))))),?_⟩
 cases u with
 | none=>cases(show v = .non from hw);exact⟨_,rfl,rfl,_,rfl,zJ k⟩
 | some u =>
  obtain⟨p,a,b,rfl,hp,ha,hb⟩:=hw
  refine⟨_,rfl,rfl,_,rfl,zR ?_⟩
  refine zL ?_
  refine⟨_,rfl,p,_,_,rfl,hp,true,rfl,zJ ?_⟩
  refine⟨_,rfl,p,_,_,_,rfl,rfl,.of hp,rfl,a,u.1,rfl,ha,_,rfl,jb (λh=>?_) (λh=>?_)⟩
  ·refine⟨_,rfl,p,_,_,_,rfl,rfl,.of hp,rfl,b,u.2,rfl,hb,?_⟩
   have e:zcm (some u)=xT u.2.1 u.2.2:=by show (_&&_)=_;rw[h];rfl
   rw[e]at k;exact k
  ·have e:zcm (some u)=false:=by
    show (xT u.1.1 u.1.2&&_)=_
    cases h2:xT u.1.1 u.1.2
    ·rfl
    ·exact absurd h2 h
   rw[e]at k;exact k
theorem zba:zr ["thing"] ["thing"] (zg xp):=⟨rfl,rfl,rfl,by decide +kernel,rfl,by decide +kernel,by decide +kernel⟩
def Rm (r:Int×Int):Prop:=Bd 4000 r.1/\Bd 4000 r.2
def zc0:Sp:=λvs H Q _=>∃v u r s,vs=[v,u]/\RI H v r/\RI H u s/\Rm r/\Rm s/\Q (.bl (decide (r.1*s.2<s.1*r.2))) H
theorem zbh:zr ["one","other"] ["one","other"] (zg jB):=⟨rfl,rfl,rfl,by decide +kernel,rfl,by decide +kernel,by decide +kernel⟩
theorem zaQ (D:Df K mg "less" jB ["one","other"] []):Cal P w K mg base "less" 1 ["one","other"] [] zc0:=by
 refine D.cal (k:=0) zbh (λvs H Q E h=>by obtain⟨_,_,_,_,rfl,_⟩:=h;rfl) (λf cdv A outer s H vs Q E hr h=>?_)
 obtain⟨v,u,x,y,rfl,⟨p,rfl,hp⟩,⟨q,rfl,hq⟩,hx,hy,k⟩:=h
 have b1:Bd 1000000 x.1:=hx.1.mono (by decide)
 have b2:Bd 1000000 x.2:=hx.2.mono (by decide)
 have b3:Bd 1000000 y.1:=hy.1.mono (by decide)
 have b4:Bd 1000000 y.2:=hy.2.mono (by decide)
 refine⟨_,(zi (zo (xD vT (zu xU (zq zv (pv 0) zf (λ_ _=>rfl)) (zq zv (pv 1) zf (λ_ _=>rfl))) (zu xU (zq zv (pv 1) zf (λ_ _=>rfl)) (zq zv (pv 0) zf (λ_ _=>rfl))) (zz _)))),?_⟩
 refine⟨_,rfl,p,_,_,_,rfl,rfl,.of hp,at0 ..,_,rfl,q,_,_,_,rfl,rfl,.of hq,at1 ..,_,_,rfl,rfl,⟨b1,b4⟩,?_⟩
 exact⟨_,rfl,q,_,_,_,rfl,rfl,.of hq,at0 ..,_,rfl,p,_,_,_,rfl,rfl,.of hp,at1 ..,_,_,rfl,rfl,⟨b3,b2⟩,_,_,rfl,rfl,k⟩
theorem Zq:zr ["thing","low","high"] ["thing"] (zg xP):=⟨rfl,rfl,rfl,by decide +kernel,rfl,by decide +kernel,by decide +kernel⟩
end
end KK
end
section
set_option maxHeartbeats 4000000
set_option Elab.async false
set_option linter.all false
set_option maxRecDepth 100000
namespace KK
open PySem L2 KM PySem.NumText
structure TxF (mg:Str->Option Value) (tF tM:Tok):Prop where
 mF:mg "FIGURES" = some (.str "0123456789" tF)
 mM:mg "MOST_FIGURES" = some (.int 300 tM)
theorem vE (x y:Str):decide (V.str x=V.str y)=decide (x=y):=by
 by_cases h:x=y
 ·rw[h,decide_eq_true rfl,decide_eq_true rfl]
 ·rw[decide_eq_false h,decide_eq_false (λz=>h (by injection z))]
theorem Q0 (x:Str) (i j:Nat):(Builtin.Str.strSub x i j).length<=x.length:=by
 rw[<-vA x,v7,zx,zx]
 simp
 omega
theorem ZP (x:Str) (n:Nat):∀(cuts:List Nat) (a:Nat),∀p∈StrLaws.partsFrom x n a cuts,p.length<=x.length
 | [],a,p,m=>by cases List.mem_singleton.mp m;exact Q0 ..
 | c::r,a,p,m=>by
  rcases List.mem_cons.mp m with rfl | m
  ·exact Q0 ..
  ·exact ZP x n r _ p m
theorem xt {x y p:Str}(h:p∈Txt.split x y):p.length<=x.length:=by
 unfold Txt.split at h
 split at h
 ·cases List.mem_singleton.mp h;exact Nat.le_refl _
 ·split at h
  ·cases List.mem_singleton.mp h;exact Nat.le_refl _
  ·rw[StrLaws.partsBetween_eq]at h;exact ZP x _ _ _ p h
theorem vb {n:Nat}(h:n<=10000):n+2<=sizeLine:=by rw[sizeLine_eq];omega
def oI:Option Nat->V
 | none=>.non
 | some n=>.int (n:Int)
def okM (o:Option Nat) (n:Nat):Bool:=match o with
 | none=>true
 | some m=>decide (n=m)
section
variable {P:Program}{w:World}{K:PySem.W.Frag}{mg:Str->Option Value}{base:Heap}{C:Addr}{tF tM:Tok}
def zbp (C:Addr):Sp:=λvs H Q E=>∃x y o,vs=[.str x,.str y,oI o]/\(y.length == 0)=false/\x.length<=10000/\(okM o (Txt.split x y).length=true->∀l H',H l=none->zl H H'->H' l=some (.lst ((Txt.split x y).map V.str))->Q (.ref l) H')/\(okM o (Txt.split x y).length=false->∀H',zl H H'->E (.ref C) none H')
theorem JX:zr ["thing","sign","many","parts"] ["thing","sign","many"] (zg qt):=⟨rfl,rfl,rfl,by decide +kernel,rfl,by decide +kernel,by decide +kernel⟩
theorem zcD (D:Df K mg "parts_of" qt ["thing","sign","many"] []) (T:TxB K mg) (TS:TxS K mg) (O:Xs "NoText" C mg base):qU P w K mg base "parts_of" 1 ["thing","sign","many"] [] (zbp C):=by
 refine D.cal1 (k:=0) JX (λvs H Q E h=>by obtain⟨_,_,_,rfl,_⟩:=h;rfl) (λf cdv A outer s H vs Q E hr h=>?_)
 obtain⟨x,y,o,rfl,hy,hx,k,kE⟩:=h
 refine⟨_,(zh (zW (xh (zV (zG qy (by rfl) T.nIs PyProof.Rows.boot_isinstance (zd (pv 0) (zd (vN (v:=.ty "str") (u:=.type "str") (by rfl) TS.nStr PyProof.Rows.boot_str rfl) ze))) λ_=>rfl)) (zi (qA O PySem.F.excBase_ValueError (by decide +kernel) PySem.F.excBase_ValueError hr.hd xi (zd zw ze))) zD)
  (zh (zA (i:=3) JX.nd rfl (Or.inl rfl) (vi PySem.F.plainAttrs_str PySem.F.slot_str_split PySem.F.type_str_split je (pv 0) (zd (pv 1) ze)))
  (zh (zW ((vx (zy QH (pv 2) xm (zz _)) (va (zy jG (zG zU (by rfl) T.nLen PySem.boot_len (zd (pv 3) ze)) (pv 2) (zz _))))).pt (zi (qA O PySem.F.excBase_ValueError (by decide +kernel) PySem.F.excBase_ValueError hr.hd xi (zd zw ze))) zD)
  (zi (zo (pv 3)))))),?_⟩
 refine⟨_,rfl,_,_,_,true,rfl,.str x,TS.ss,true,rfl,zR ?_⟩
 refine zL ?_
 refine⟨_,rfl,rfl,_,rfl,x,y,rfl,rfl,hy,vb hx,λl hl=>?_⟩
 dsimp only[zH]
 have sl:zl H (upd H l (.lst ((Txt.split x y).map V.str))):=zl.upd hl
 cases o with
 | none =>
  refine⟨_,rfl,rfl,_,rfl,zR (zR ?_)⟩
  refine zL ?_
  exact⟨_,rfl,k rfl l _ hl sl zj⟩
 | some n =>
  refine⟨_,rfl,rfl,_,rfl,zJ ?_⟩
  refine⟨_,rfl,l,_,rfl,.inl (.of zj),_,rfl,rfl,_,rfl,?_⟩
  rw[List.length_map,show oI (some n)=V.int (n:Int)from rfl,xj]
  by_cases c:(Txt.split x y).length=n
  ·rw[decide_eq_true (show ((Txt.split x y).length:Int)=(n:Int) by omega)]
   refine zR ?_
   refine zL ?_
   exact⟨_,rfl,k (decide_eq_true c) l _ hl sl zj⟩
  ·rw[decide_eq_false (show ¬((Txt.split x y).length:Int)=(n:Int) by omega)]
   exact zJ ⟨by show 1<=sizeLine;decide,kE (decide_eq_false c) _ sl⟩
theorem JR (a:Str) (H:Hp):VN (Its a) H (a.cps.toList.map λc=>V.str ⟨#[c]⟩) :=
 ⟨λi H' hi s=>show i<a.cps.size by simpa using hi,λH' s=>by show a.cps.size<=_;simp,λi x H2 H3 s y=>⟨y.1,by
  obtain⟨c,e1,e2⟩:=y.2
  rw[List.getElem?_map,e2]
  have:a.cps.toList[i]? = some c:=by simpa using e1
  rw[this];rfl⟩⟩
theorem V3 (c:Nat):(!(Builtin.Str.occurrences (Str.ofString "0123456789") ⟨#[c]⟩ 0 (Str.ofString "0123456789").length 1).isEmpty)=vd c:=by
 rw[StrLaws.found_one]
 have e:(Str.ofString "0123456789").cps.toList=[48,49,50,51,52,53,54,55,56,57]:=by decide +kernel
 rw[e]
 unfold vd
 by_cases h:48<=c/\c<=57
 ·rw[decide_eq_true h.1,decide_eq_true h.2,decide_eq_true]
  ·rfl
  ·simp;omega
 ·rw[decide_eq_false]
  ·by_cases h1:48<=c
   ·rw[decide_eq_true h1,decide_eq_false (by omega)];rfl
   ·rw[decide_eq_false h1];rfl
  ·simp;omega
theorem vR (x:Str):(x=Str.ofString "0")↔x.cps.toList=[48]:=by
 rw[show Str.ofString "0" = TX [48] by decide +kernel]
 constructor
 ·intro e;rw[e,qf]
 ·intro e;rw[<-vA x,e]
def zbq (C:Addr):Sp:=λvs H Q E=>∃x,vs=[.str x,.int 300]/\x.length<=10000/\(∀n,rdN x=some n->∀H',zl H H'->Q (.int n) H')/\(rdN x=none->∀H',zl H H'->E (.ref C) none H')
theorem zbi:zr ["text","most"] ["text","most"] (zg xA):=⟨rfl,rfl,rfl,by decide +kernel,rfl,by decide +kernel,by decide +kernel⟩
theorem Zh {x:Str}(h:qe x.cps.toList=false):rdN x=none:=by unfold rdN;rw[h];rfl
theorem zaS (D:Df K mg "read_number" xA ["text","most"] []) (T:TxB K mg) (TS:TxS K mg) (TF:TxF mg tF tM) (O:Xs "NoText" C mg base):qU P w K mg base "read_number" 1 ["text","most"] [] (zbq C):=by
 refine D.cal1 (k:=0) zbi (λvs H Q E h=>by obtain⟨_,rfl,_⟩:=h;rfl) (λf cdv A outer s H vs Q E hr h=>?_)
 obtain⟨x,rfl,hx,k,kE⟩:=h
 have hxl:x.cps.toList.length=x.length:=by simp[Str.length]
 have hz:x.length<=sizeLine:=by have:=vb hx;omega
 refine⟨_,(zh (zW (qB (xh (Zg ZO ZO zf (zG vp (by rfl) T.nLen PySem.boot_len (zd (pv 0) ze)) (pv 1))) (qD (xh (zV (zG (j5 rfl) (by rfl) TS.nAll (by decide +kernel) (zd (jf (NB:=["sign"]) rfl (by decide +kernel) (by decide +kernel) rfl (by decide +kernel) (JA (pv 0)) (by intro _ _ _;refine⟨?_,?_,?_⟩;(exact(zT (i:=0) (show List.Nodup (["sign"]:List Str) by decide +kernel) rfl (Or.inl rfl)));(exact vw);(exact(xD Vx (pv 0) (qW (v:=.str "0123456789") (by rfl) TF.mF ⟨_,rfl⟩) rfl)))) ze)) λ_=>rfl)))).pt (zi (qA O PySem.F.excBase_ValueError (by decide +kernel) PySem.F.excBase_ValueError hr.hd xi (zd zw ze))) zD)
  (zh (zW ((vx (zy jG (pv 0) zw (zz _)) (va (zV (vi PySem.F.plainAttrs_str PySem.F.slot_str_startswith PySem.F.type_str_startswith ZL (pv 0) (zd zw ze)) λ_=>rfl)))).pt (zi (qA O PySem.F.excBase_ValueError (by decide +kernel) PySem.F.excBase_ValueError hr.hd xi (zd zw ze))) zD)
  (zi (zo (xZ Q9 (by rfl) T.nInt PyProof.Rows.boot_int (zd (pv 0) ze)))))),?_⟩
 by_cases c1:1<=x.length
 case neg =>
  refine⟨_,rfl,x,rfl,hz,_,_,rfl,rfl,_,rfl,?_⟩
  rw[decide_eq_false (show ¬(1:Int)<=(x.length:Int) by omega)]
  refine zR ⟨_,rfl,zJ ⟨by show 1<=sizeLine;decide,kE (Zh ?_) H (zl.refl _)⟩⟩
  unfold qe;rw[hxl,decide_eq_false c1];rfl
 refine⟨_,rfl,x,rfl,hz,_,_,rfl,rfl,_,rfl,?_⟩
 rw[decide_eq_true (show (1:Int)<=(x.length:Int) by omega)]
 refine zJ ⟨_,rfl,_,_,rfl,rfl,_,rfl,?_⟩
 by_cases c2:x.length<=300
 case neg =>
  rw[decide_eq_false (show ¬(x.length:Int)<=300 by omega)]
  refine zJ ⟨by show 1<=sizeLine;decide,kE (Zh ?_) H (zl.refl _)⟩
  unfold qe;rw[hxl,decide_eq_true c1,decide_eq_false c2];rfl
 rw[decide_eq_true (show (x.length:Int)<=300 by omega)]
 refine zR ?_
 refine⟨_,rfl,x,rfl,λDc hDc=>?_⟩
 refine vL (J:=Its x) (g:=zH 0) (te:=_) (n:=1) (xs:=x.cps.toList.map λc=>V.str ⟨#[c]⟩) (λi v G=>∀c,x.cps.toList[i]? = some c->v = .bl (vd c)) (λi v G G' e h=>h) hDc (JR x H) (xQ (by rw[List.length_map];omega)) ?_ ?_
 ·intro i z zs G Q' hz' hzs S hQ
  obtain⟨y1,rfl⟩:=XB hzs
  rw[List.getElem?_map]at hz'
  obtain⟨c,ec,rfl⟩:=Option.map_eq_some_iff.mp hz'
  refine⟨_,rfl,_,_,rfl,rfl,hQ _ _ (zl.refl _) λc' e'=>?_⟩
  rw[ec]at e';cases e'
  rw[V3]
 intro ys G S hD hyl hR
 rw[List.length_map]at hyl
 have ey:ys=(x.cps.toList.map vd).map V.bl:=by
  apply List.ext_getElem?
  intro i
  rw[List.getElem?_map,List.getElem?_map]
  cases hd:x.cps.toList[i]? with
  | none=>rw[List.getElem?_eq_none (by have:=List.getElem?_eq_none_iff.mp hd;omega)];rfl
  | some c =>
   have hi:=(List.getElem?_eq_some_iff.mp hd).1
   obtain⟨v,ev⟩:∃v,ys[i]? = some v:=⟨ys[i]'(by omega),List.getElem?_eq_getElem _⟩
   rw[ev,hR i v ev c hd];rfl
 subst ey
 have ea:(x.cps.toList.map vd).all id=x.cps.toList.all vd:=by rw[List.all_map];rfl
 refine⟨Dc,_,rfl,.of hD,_,rfl,?_⟩
 rw[ea]
 by_cases c3:x.cps.toList.all vd=true
 case neg =>
  have c3:x.cps.toList.all vd=false:=by cases h:x.cps.toList.all vd;rfl;exact absurd h c3
  rw[c3]
  refine zJ ⟨by show 1<=sizeLine;decide,kE (Zh ?_) G S⟩
  unfold qe;rw[c3,Bool.and_false];rfl
 rw[c3]
 refine zR ?_
 refine zL ?_
 have dg:NumText.AllDigits x.cps.toList:=λc m=>by
  have:=List.all_eq_true.mp c3 c m
  unfold vd at this
  simp only[Bool.and_eq_true,decide_eq_true_eq]at this
  exact this
 have ne:x.cps.toList≠[]:=λe=>by rw[e]at hxl;simp at hxl;omega
 have it:=intText_digits dg ne (by omega)
 refine⟨_,rfl,rfl,_,rfl,?_⟩
 rw[vE]
 by_cases c4:x.cps.toList=[48]
 ·rw[decide_eq_true ((vR x).mpr c4)]
  refine zR (zR ?_)
  refine zL ?_
  refine⟨_,rfl,x,_,rfl,it,by omega,k _ ?_ G S⟩
  unfold rdN qe
  rw[hxl,decide_eq_true c1,decide_eq_true c2,c3,decide_eq_true c4];rfl
 ·rw[decide_eq_false (λz=>c4 ((vR x).mp z))]
  refine zJ ?_
  refine⟨_,rfl,rfl,x,_,rfl,rfl,_,rfl,?_⟩
  rw[show Str.ofString "0" = ⟨#[48]⟩ by decide +kernel,Zv]
  by_cases c5:x.cps.toList.head? = some 48
  ·rw[decide_eq_true c5]
   refine zJ ⟨by show 1<=sizeLine;decide,kE (Zh ?_) G S⟩
   unfold qe;rw[decide_eq_false c4,decide_eq_true c5];simp
  ·rw[decide_eq_false c5]
   refine zR ?_
   refine zL ?_
   refine⟨_,rfl,x,_,rfl,it,by omega,k _ ?_ G S⟩
   unfold rdN qe
   rw[hxl,decide_eq_true c1,decide_eq_true c2,c3,decide_eq_false c4,decide_eq_false c5];rfl
def zdZ (C:Addr):Sp:=λvs H Q E=>∃x,vs=[.str x]/\x.length<=10000/\(∀n,rdW x=some n->∀H',zl H H'->Q (.int n) H')/\(rdW x=none->∀H',zl H H'->E (.ref C) none H')
theorem JZ:zr ["text","number"] ["text"] (zg xO):=⟨rfl,rfl,rfl,by decide +kernel,rfl,by decide +kernel,by decide +kernel⟩
theorem zcG (D:Df K mg "read_whole" xO ["text"] []) (TF:TxF mg tF tM) (O:Xs "NoText" C mg base) (cRn:qU P w K mg base "read_number" 1 ["text","most"] [] (zbq C)):qU P w K mg base "read_whole" 2 ["text"] [] (zdZ C):=by
 refine D.cal1 (k:=1) JZ (λvs H Q E h=>by obtain⟨_,rfl,_⟩:=h;rfl) (λf cdv A outer s H vs Q E hr1 h=>?_)
 obtain⟨x,rfl,hx,k,kE⟩:=h
 have hz:x.length<=sizeLine:=by have:=vb hx;omega
 refine⟨_,(zh (zW (xh (zV (vi PySem.F.plainAttrs_str PySem.F.slot_str_startswith PySem.F.type_str_startswith ZL (pv 0) (zd zw ze)) λ_=>rfl)) (zi (zo (qV cRn hr1 xl (zd (pv 0) (zd (qW (v:=.int 300) (by rfl) TF.mM ⟨_,rfl⟩) ze))))) zD)
  (zh (zA (i:=1) JZ.nd rfl (Or.inl rfl) (qV cRn hr1 xl (zd (qz jC (pv 0) (qZ zf) qY) (zd (qW (v:=.int 300) (by rfl) TF.mM ⟨_,rfl⟩) ze))))
  (zh (zW (zy qh (pv 1) zf (zz _)) (zi (qA O PySem.F.excBase_ValueError (by decide +kernel) PySem.F.excBase_ValueError hr1.hd xi (zd zw ze))) zD)
  (zi (zo (qX qg (pv 1))))))),?_⟩
 refine⟨_,rfl,rfl,x,_,rfl,rfl,_,rfl,?_⟩
 rw[show Str.ofString "-" = ⟨#[45]⟩ by decide +kernel,Zv]
 by_cases c:x.cps.toList.head? = some 45
 ·rw[decide_eq_true c]
  refine zR ?_
  refine zL ?_
  refine⟨_,rfl,_,rfl,x,rfl,hz,?_⟩
  have es:Txt.slice x (some 1) none=TX (x.cps.toList.drop 1):=v5 x 1
  rw[es]
  have eW:rdW x=match rdN (TX (x.cps.toList.drop 1))with | some n=>if n=0 then none else some (-n) | none=>none:=by unfold rdW;rw[if_pos c] <;> rfl
  have hl:(TX (x.cps.toList.drop 1)).length<=10000:=by
   rw[zx,List.length_drop];have:x.cps.toList.length=x.length:=by simp[Str.length]
   omega
  cases hn:rdN (TX (x.cps.toList.drop 1))with
  | none =>
   rw[hn]at eW
   exact⟨_,rfl,hl,λn e=>(by rw[hn]at e;cases e),λ_ H1 s1=>⟨C,rfl,kE eW H1 s1⟩⟩
  | some n =>
   rw[hn]at eW
   refine⟨_,rfl,hl,λn' e H1 s1=>?_,λe=>(by rw[hn]at e;cases e)⟩
   rw[hn]at e;cases e
   dsimp only[zH]
   refine⟨_,rfl,rfl,_,rfl,?_⟩
   rw[xj]
   by_cases c0:n=0
   ·rw[decide_eq_true c0]
    have:rdW x=none:=by rw[eW];exact if_pos c0
    exact zJ ⟨by show 1<=sizeLine;decide,kE this H1 s1⟩
   ·rw[decide_eq_false c0]
    have:rdW x=some (-n):=by rw[eW];exact if_neg c0
    refine zR ?_
    refine zL ?_
    exact⟨_,rfl,_,rfl,k _ this H1 s1⟩
 ·rw[decide_eq_false c]
  have eW:rdW x=rdN x:=by unfold rdW;rw[if_neg c]
  refine zJ ?_
  exact⟨_,rfl,x,rfl,hx,λn e H1 s1=>k n (eW.trans e) H1 s1,λe H1 s1=>⟨C,rfl,kE (eW.trans e) H1 s1⟩⟩
def zdX (C:Addr):Sp:=λvs H Q E=>∃x,vs=[.str x]/\x.length<=10000/\(∀r,rdR x=some r->∀v H',zl H H'->RI H' v r->Q v H')/\(rdR x=none->∀H',zl H H'->E (.ref C) none H')
theorem Xl:zr ["thing","parts","one"] ["thing"] (zg xN):=⟨rfl,rfl,rfl,by decide +kernel,rfl,by decide +kernel,by decide +kernel⟩
theorem zaT (D:Df K mg "read_ratio" xN ["thing"] []) (T:TxB K mg) (TF:TxF mg tF tM) (O:Xs "NoText" C mg base) (cPs:qU P w K mg base "parts_of" 1 ["thing","sign","many"] [] (zbp C)) (cRn:qU P w K mg base "read_number" 1 ["text","most"] [] (zbq C)) (cRw:qU P w K mg base "read_whole" 2 ["text"] [] (zdZ C))
  (cIr:Cal P w K mg base "is_ratio" 2 ["thing"] [] zbn):qU P w K mg base "read_ratio" 3 ["thing"] [] (zdX C):=by
 refine D.cal1 (k:=2) Xl (λvs H Q E h=>by obtain⟨_,rfl,_⟩:=h;rfl) (λf cdv A outer s H vs Q E hr h=>?_)
 obtain⟨x,rfl,hx,k,kE⟩:=h
 have hr1:xa 1 _:=hr.mono (by decide)
 have hr2:xa 2 _:=hr
 refine⟨_,(zh (zA (i:=1) Xl.nd rfl (Or.inl rfl) (qV cPs hr1 xl (zd (pv 0) (zd zw (zd xm ze)))))
  (zh (zW (zy qh (zG zU (by rfl) T.nLen PySem.boot_len (zd (pv 1) ze)) zf (zz _)) (zi (zo (vt (zd (qV cRw hr2 xl (zd (pv 0) ze)) (zd zf ze))))) zD)
  (zh (zW (zy Zd (zG zU (by rfl) T.nLen PySem.boot_len (zd (pv 1) ze)) zf (zz _)) (zi (qA O PySem.F.excBase_ValueError (by decide +kernel) PySem.F.excBase_ValueError hr.hd xi (zd zw ze))) zD)
  (zh (zA (i:=2) Xl.nd rfl (Or.inl rfl) (vt (zd (qV cRw hr2 xl (zd (zq zS (pv 1) zf (λ_ _=>rfl)) ze)) (zd (qV cRn hr1 xl (zd (zq zS (pv 1) zf (λ_ _=>rfl)) (zd (qW (v:=.int 300) (by rfl) TF.mM ⟨_,rfl⟩) ze))) ze))))
  (zh (zW ((qB (zy qh (zq zv (pv 2) zf (λ_ _=>rfl)) zf (zz _)) (qD (xh (zV (zE cIr hr2 (zd (pv 2) ze)) λ_=>rfl))))).pt (zi (qA O PySem.F.excBase_ValueError (by decide +kernel) PySem.F.excBase_ValueError hr.hd xi (zd zw ze))) zD)
  (zi (zo (pv 2)))))))),?_⟩
 refine⟨_,rfl,x,_,none,rfl,by decide +kernel,hx,λ_ l H1 hl s1 h1=>?_,λe=>(by cases e)⟩
 dsimp only[zH]
 rw[show Str.ofString "/" = TX [47] by decide +kernel]at h1
 have hparts:=λp (m:p∈Txt.split x (TX [47]))=>xt m
 refine⟨_,rfl,l,_,rfl,.inl (.of h1),rfl,_,rfl,?_⟩
 rw[List.length_map,xj]
 by_cases c1:(Txt.split x (TX [47])).length=1
 ·rw[decide_eq_true (show ((Txt.split x (TX [47])).length:Int)=1 by omega)]
  obtain⟨p,ep⟩:=XB c1
  have eR:rdR x=(rdW x).map λt=>(t,1):=by unfold rdR;rw[ep]
  refine zJ ?_
  refine⟨_,rfl,x,rfl,hx,λn e H2 s2=>?_,λe H2 s2=>⟨C,rfl,kE (by rw[eR,e];rfl) H2 (s1.trans s2)⟩⟩
  exact⟨by show 2<=sizeLine;decide,λq hq=>k (n,1) (by rw[eR,e];rfl) _ _ ((s1.trans s2).trans (zl.upd hq)) ⟨q,rfl,zj⟩⟩
 ·rw[decide_eq_false (show ¬((Txt.split x (TX [47])).length:Int)=1 by omega)]
  refine zR ?_
  refine zL ?_
  refine⟨_,rfl,l,_,rfl,.inl (.of h1),_,_,rfl,rfl,_,rfl,?_⟩
  rw[List.length_map]
  obtain⟨p0,r0,e0⟩:=vI x (TX [47])
  by_cases c2:2<(Txt.split x (TX [47])).length
  ·rw[decide_eq_true (show (2:Int)<((Txt.split x (TX [47])).length:Int) by omega)]
   refine zJ ⟨by show 1<=sizeLine;decide,kE ?_ H1 s1⟩
   unfold rdR
   match hs:Txt.split x (TX [47]),c1,c2 with
   | [_,_],_,c2=>simp at c2
   | [_],_,c2=>simp at c2
   | [],_,c2=>simp at c2
   | _::_::_::_,_,_=>rfl
  ·rw[decide_eq_false (show ¬(2:Int)<((Txt.split x (TX [47])).length:Int) by omega)]
   refine zR ?_
   refine zL ?_
   obtain⟨a,b,eab⟩:∃a b,Txt.split x (TX [47])=[a,b]:=by
    match hs:Txt.split x (TX [47]),c1,c2 with
    | [a,b],_,_=>exact⟨a,b,rfl⟩
    | [_],c1,_=>simp at c1
    | [],_,_=>rw[hs]at e0;cases e0
    | _::_::_::_,_,c2=>simp at c2
   have eR:rdR x=match rdW a,rdN b with | some t,some u=>(if decide (u=1)=false/\xT t u=true then some (t,u)else none) | _,_=>none:=by unfold rdR;rw[eab] <;> rfl
   rw[eab]at h1 hparts
   have la:a.length<=10000:=Nat.le_trans (hparts a (by simp)) hx
   have lb:b.length<=10000:=Nat.le_trans (hparts b (by simp)) hx
   refine⟨_,rfl,l,_,_,_,rfl,rfl,.of h1,rfl,a,rfl,la,λt et H2 s2=>?_,λe H2 s2=>⟨C,rfl,kE (by rw[eR,e]) H2 (s1.trans s2)⟩⟩
   refine⟨_,rfl,l,_,_,_,rfl,rfl,.of (s2 _ _ h1),rfl,b,rfl,lb,λu eu H3 s3=>?_,λe H3 s3=>⟨C,rfl,kE (by rw[eR,et,e]) H3 ((s1.trans s2).trans s3)⟩⟩
   refine⟨by show 2<=sizeLine;decide,λq hq=>?_⟩
   rw[et,eu]at eR
   have eR:rdR x=(if decide (u=1)=false/\xT t u=true then some (t,u)else none):=eR
   have s4:zl H (upd H3 q (.tup [.int t,.int u])):=((s1.trans s2).trans s3).trans (zl.upd hq)
   have h4:upd H3 q (.tup [.int t,.int u]) q=some (.tup [.int t,.int u]):=zj
   dsimp only[zH]
   generalize upd H3 q (.tup [.int t,.int u])=G at s4 h4
   refine⟨_,rfl,q,_,_,_,rfl,rfl,.of h4,rfl,rfl,_,rfl,?_⟩
   rw[xj]
   by_cases c3:u=1
   ·rw[decide_eq_true c3]
    refine zJ (zJ ⟨by show 1<=sizeLine;decide,kE ?_ G s4⟩)
    rw[eR,if_neg];rw[decide_eq_true c3];simp
   ·rw[decide_eq_false c3]
    refine zR ?_
    refine⟨_,rfl,_,(t,u),rfl,⟨q,rfl,h4⟩,_,rfl,?_⟩
    by_cases c4:xT t u=true
    ·rw[show xT (t,u).1 (t,u).2=true from c4]
     refine zR ?_
     refine zL ?_
     exact⟨_,rfl,k (t,u) (by rw[eR,if_pos ⟨decide_eq_false c3,c4⟩]) _ G s4 ⟨q,rfl,h4⟩⟩
    ·have c4':xT t u=false:=by cases h:xT t u;rfl;exact absurd h c4
     rw[show xT (t,u).1 (t,u).2=false from c4']
     refine zJ ⟨by show 1<=sizeLine;decide,kE ?_ G s4⟩
     rw[eR,if_neg];rw[c4'];simp
end
end KK
end
section
set_option maxHeartbeats 4000000
set_option Elab.async false
set_option linter.all false
set_option maxRecDepth 100000
namespace KK
open PySem L2 KM PySem.NumText
theorem zak:∀l:List Nat,(∀c∈l,48<=c/\c<=57)->digitsVal l<10^l.length:=by
 intro l
 generalize hn:l.length=n
 induction n generalizing l with
 | zero=>intro _;rw[List.length_eq_zero_iff.mp hn];decide
 | succ n ih =>
  intro h
  obtain⟨r,c,rfl⟩:∃r c,l=r++[c]:=by
   rcases List.eq_nil_or_concat l with e | ⟨r,c,e⟩
   ·rw[e]at hn;cases hn
   ·exact⟨r,c,by simpa using e⟩
  have hr:r.length=n:=by simpa using hn
  have:=ih r hr λd m=>h d (List.mem_append_left _ m)
  have hc:=h c (by simp)
  rw[digitsVal_snoc,Nat.pow_succ]
  omega
theorem XU (x y:Str):(Txt.split x y).length<=x.length+2:=by
 unfold Txt.split
 split
 ·simp
 ·split
  ·simp
  ·have:=StrLaws.occ_length_le x y 0 x.length (x.length+1)
   unfold Builtin.Str.partsBetween
   simp only[List.length_map,List.length_zip,List.length_cons,List.length_append,List.length_nil]
   omega
theorem Vs {l:List Nat}(h:qe l=true):1<=l.length/\l.length<=300/\∀c∈l,48<=c/\c<=57:=by
 unfold qe at h
 simp only[Bool.and_eq_true,decide_eq_true_eq]at h
 refine⟨h.1.1.1,h.1.1.2,λc m=>?_⟩
 have:=List.all_eq_true.mp h.1.2 c m
 unfold vd at this
 simp only[Bool.and_eq_true,decide_eq_true_eq]at this
 exact this
theorem Zj {x:Str}{n:Int}(h:rdN x=some n):0<=n/\Bd 1000 n:=by
 unfold rdN at h
 split at h
 ·rename_i c
  obtain⟨_,l3,dg⟩:=Vs c
  injection h with h
  subst h
  have h1:=zak _ dg
  have h2:(10:Nat)^x.cps.toList.length<=10^300:=Nat.pow_le_pow_right (by decide) l3
  refine⟨by omega,?_⟩
  show ((digitsVal x.cps.toList:Nat):Int).natAbs<2^1000
  have h3:(10:Nat)^300<2^1000:=by decide
  omega
 ·cases h
theorem JO {x:Str}{n:Int}(h:rdW x=some n):Bd 1000 n:=by
 unfold rdW at h
 split at h
 ·split at h
  ·rename_i m e
   split at h
   ·cases h
   ·injection h with h;subst h;exact(Zj e).2.neg
  ·cases h
 ·exact(Zj h).2
theorem JJ {x:Str}{r:Int×Int}(h:rdR x=some r):xT r.1 r.2=true/\Bd 1000 r.1/\Bd 1000 r.2:=by
 unfold rdR at h
 split at h
 ·obtain⟨t,et,rfl⟩:=Option.map_eq_some_iff.mp h
  refine⟨?_,JO et,Bd.mono (m:=1) (show (1:Int).natAbs<2^1 by decide) (by decide)⟩
  unfold xT
  rw[decide_eq_true (show (1:Int)<=1 by decide),decide_eq_true (show Int.gcd (t.natAbs:Int) 1=1 from Int.gcd_one_right ..)];rfl
 ·rename_i a b e
  split at h
  ·rename_i t u et eu
   split at h
   ·rename_i c
    injection h with h;subst h
    exact⟨c.2,JO et,(Zj eu).2⟩
   ·cases h
  ·cases h
 ·cases h
end KK
end
section
set_option maxHeartbeats 4000000
set_option Elab.async false
set_option linter.all false
set_option maxRecDepth 100000
namespace KK
open PySem L2 KM
theorem at6 (x:Int){d:Int}(h0:0<=d) (h1:d<6) (hx:0<=x/\x<=40):∃v:Int,atI [V.int 0,.int 1,.int 1,.int 2,.int 5,.int x] d=some (.int v)/\0<=v/\v<=40:=by
 have:d=0\/d=1\/d=2\/d=3\/d=4\/d=5:=by omega
 rcases this with rfl | rfl | rfl | rfl | rfl | rfl
 ·exact⟨_,rfl,by decide,by decide⟩
 ·exact⟨_,rfl,by decide,by decide⟩
 ·exact⟨_,rfl,by decide,by decide⟩
 ·exact⟨_,rfl,by decide,by decide⟩
 ·exact⟨_,rfl,by decide,by decide⟩
 ·exact⟨_,rfl,hx.1,hx.2⟩
theorem zdo {d:Int}(h0:0<=d) (h1:d<5):∃v:Int,atI [V.int 1,.int 2,.int 4,.int 9,.int 1000] d=some (.int v)/\1<=v/\v<=1000:=by
 have:d=0\/d=1\/d=2\/d=3\/d=4:=by omega
 rcases this with rfl | rfl | rfl | rfl | rfl
 all_goals exact⟨_,rfl,by decide,by decide⟩
theorem zcn {d:Int}(h0:0<=d) (h1:d<8):∃v:Int,atI [V.int 1,.int 1,.int 1,.int 2,.int 3,.int 4,.int 6,.int 12] d=some (.int v)/\1<=v/\v<=12:=by
 have:d=0\/d=1\/d=2\/d=3\/d=4\/d=5\/d=6\/d=7:=by omega
 rcases this with rfl | rfl | rfl | rfl | rfl | rfl | rfl | rfl
 all_goals exact⟨_,rfl,by decide,by decide⟩
theorem Vc {t b:Int}(ht:0<=t) (hb:0<b):0<=Rat.divInt t b:=by
 rw[Rat.divInt_eq_div]
 have h1:(0:Rat)<=(t:Rat):=by have:((0:Int):Rat)<=(t:Rat):=Rat.intCast_le_intCast.mpr ht;simpa using this
 have h2:(0:Rat)<(b:Rat):=by have:((0:Int):Rat)<(b:Rat):=Rat.intCast_lt_intCast.mpr hb;simpa using this
 rw[Rat.div_def]
 exact Rat.mul_nonneg h1 (Rat.le_of_lt (Rat.inv_pos.mpr h2))
theorem zcH {H:Hp}{a:Addr}(h:H a=some (.tup [.int 1,.int 1])):xg H a 1:=h
theorem J8:Sz 2 (1:Rat):=⟨show (1:Int).natAbs<2^2 by decide,show ((1:Nat):Int).natAbs<2^2 by decide⟩
section
variable {P:Program}{w:World}{K:PySem.W.Frag}{mg:Str->Option Value}{base:Heap}
theorem QT:zr ["one","other"] ["one","other"] (zg xK):=⟨rfl,rfl,rfl,by decide +kernel,rfl,by decide +kernel,by decide +kernel⟩
theorem zaG (D:Df K mg "_law_common" xK ["one","other"] []):Cal P w K mg base "_law_common" 1 ["one","other"] [] XT:=by
 refine D.cal (k:=0) QT (λvs H Q E h=>by obtain⟨a,b,rfl,_⟩:=h;rfl) (λf cdv A outer s H vs Q E hr h=>?_)
 obtain⟨a,b,rfl,ha,hb,k⟩:=h
 refine⟨_,(zh (ji PassesOwn.never (zy jG (pv 1) zf (zz _)) (zi (JE (i:=0) (j:=1) rfl QT.nd rfl rfl (by decide) rfl rfl (zd (pv 1) (zd (zu vq (pv 0) (pv 1)) ze)) (by rfl))))
  (zi (zo (pv 0)))),?_⟩
 refine jo (λσ H1=>H1=H/\∃x y:Int,σ=[some (.int x),some (.int y)]/\0<=x/\0<=y/\Int.gcd x y=Int.gcd a b)
  (λσ _=>match σ with | [_,some (.int y)]=>y.toNat | _=>0) ⟨rfl,a,b,rfl,ha,hb,rfl⟩ ?_ ?_
 ·rintro σ H1 ⟨rfl,x,y,rfl,hx,hy,e⟩
  refine⟨_,rfl,rfl,_,rfl,jb (λh=>?_) (λh=>?_)⟩
  ·have hne:y≠0:=λz=>by subst z;exact absurd h (by decide)
   have h':0<y:=by omega
   refine⟨_,rfl,_,rfl,_,rfl,_,_,rfl,rfl,h',_,_,rfl,⟨rfl,_,_,rfl,hy,Int.emod_nonneg _ (by omega),?_⟩,?_⟩
   ·rw[KM.Xz hx h'];exact e
   ·show (x % y).toNat<y.toNat
    have:=Int.emod_lt_of_pos x h'
    omega
  ·have:y=0:=by
    by_cases z:y=0
    ·exact z
    ·exfalso;apply h;show (!decide (V.int y=V.int 0))=true
     rw[decide_eq_false (λq=>z (by injection q))];rfl
   subst this
   refine⟨_,rfl,?_⟩
   have e2:x=(Int.gcd a b:Nat):=by rw[<-e,Int.gcd_zero_right];omega
   rw[e2];exact k
 ·rintro σ H1 Q1 Q2 hq ⟨v,e,e1,k1,e3,q⟩
  exact⟨v,e,e1,k1,e3,hq _ _ q⟩
def Zs:Sp:=λvs H Q _=>∃t b,vs=[.int t,.int b]/\0<b/\Bd 8900 b/\∀p H',zl H H'->xg H' p (Rat.divInt t b)->Q (.ref p) H'
theorem jS:zr ["top","bottom","shared"] ["top","bottom"] (zg qN):=⟨rfl,rfl,rfl,by decide +kernel,rfl,by decide +kernel,by decide +kernel⟩
theorem zaJ (D:Df K mg "_law_low" qN ["top","bottom"] []) (T:TxB K mg) (cG:Cal P w K mg base "_law_common" 1 ["one","other"] [] XT):Cal P w K mg base "_law_low" 2 ["top","bottom"] [] Zs:=by
 refine D.cal (k:=1) jS (λvs H Q E h=>by obtain⟨a,b,rfl,_⟩:=h;rfl) (λf cdv A outer s H vs Q E hr h=>?_)
 obtain⟨t,b,rfl,hb,hz,k⟩:=h
 have hb0:b≠0:=by omega
 refine⟨_,(zh (zW (zy vT (pv 1) zf (zz _)) (zh (zA (i:=0) jS.nd rfl (Or.inl rfl) (zu Ze zf (pv 0)))
  (zi (zA (i:=1) jS.nd rfl (Or.inl rfl) (zu Ze zf (pv 1))))) zD)
  (zh (zA (i:=2) jS.nd rfl (Or.inl rfl) (zE cG hr (zd (zG j4 (by rfl) T.nAbs PyProof.Rows.boot_abs (zd (pv 0) ze)) (zd (pv 1) ze))))
  (zi (zo (vt (zd (zu Zc (pv 0) (pv 2)) (zd (zu Zc (pv 1) (pv 2)) ze))))))),?_⟩
 refine⟨_,rfl,_,_,rfl,rfl,_,rfl,jb (λh=>absurd (of_decide_eq_true h) (by omega)) (λ_=>?_)⟩
 refine⟨_,rfl,t,rfl,_,rfl,_,_,rfl,(by rw[jY];omega),(by omega),?_⟩
 have hd:=KM.zdi (t:=t) hb0
 have hdz:Bd 8900 (KM.dv t b):=hz.of_le (KM.zdh hb0)
 have ge:((Int.gcd (if t<0 then -t else t) b:Nat):Int)=KM.dv t b:=by
  rw[jY];unfold KM.dv;rw[if_neg (show ¬b<0 by omega)];simp[Int.gcd]
 rw[ge]
 refine⟨_,rfl,_,rfl,_,_,rfl,rfl,⟨hd,hdz⟩,_,rfl,_,rfl,_,_,rfl,rfl,⟨hd,hdz⟩,?_⟩
 refine⟨by show 2<=sizeLine;decide,λp hp=>k p _ (zl.upd hp) ?_⟩
 show upd H p _ p=_
 rw[zj]
 dsimp only
 rw[KM.VZ hb0,KM.zb5 hb0];rfl
theorem zbf:zr ["one","other"] ["one","other"] (zg qP):=⟨rfl,rfl,rfl,by decide +kernel,rfl,by decide +kernel,by decide +kernel⟩
theorem zbd:zr ["one","other"] ["one","other"] (zg qM):=⟨rfl,rfl,rfl,by decide +kernel,rfl,by decide +kernel,by decide +kernel⟩
theorem zaM (D:Df K mg "_law_sum" qP ["one","other"] []) (c:Cal P w K mg base "_law_low" 2 ["top","bottom"] [] Zs):Cal P w K mg base "_law_sum" 3 ["one","other"] [] (QV Sz2 (· + ·)):=by
 refine D.cal (k:=2) zbf (λvs H Q E h=>by obtain⟨_,_,_,_,rfl,_⟩:=h;rfl) (λf cdv A outer s H vs Q E hr h=>?_)
 obtain⟨p,q,x,y,rfl,hp,hq,⟨hx,hy⟩,k⟩:=h
 have bx:=Bd4 hx
 have b_y:=Bd4 hy
 refine⟨_,(zi (zo (zE c hr (zd (zu qC (zu xU (zq zv (pv 0) zf (λ_ _=>rfl)) (zq zv (pv 1) zf (λ_ _=>rfl))) (zu xU (zq zv (pv 1) zf (λ_ _=>rfl)) (zq zv (pv 0) zf (λ_ _=>rfl)))) (zd (zu xU (zq zv (pv 0) zf (λ_ _=>rfl)) (zq zv (pv 1) zf (λ_ _=>rfl))) ze))))),?_⟩
 refine⟨_,rfl,p,_,_,_,rfl,rfl,.of hp,at0 ..,_,rfl,q,_,_,_,rfl,rfl,.of hq,at1 ..,_,_,rfl,rfl,⟨bx.1,b_y.2⟩,_,rfl,q,_,_,_,rfl,rfl,.of hq,at0 ..,_,rfl,p,_,_,_,rfl,rfl,.of hp,at1 ..,_,_,rfl,rfl,⟨b_y.1,bx.2⟩,_,_,rfl,rfl,?_⟩
 refine⟨_,rfl,p,_,_,_,rfl,rfl,.of hp,at1 ..,_,rfl,q,_,_,_,rfl,rfl,.of hq,at1 ..,_,_,rfl,rfl,⟨bx.2,b_y.2⟩,?_⟩
 refine⟨_,_,rfl,Int.mul_pos (den_pos x) (den_pos y),(hx.2.mul hy.2).mono (by decide),λr H' e h=>k r H' e ?_⟩
 show xg H' r (x+y)
 rw[<-KM.QM];exact h
theorem zaI (D:Df K mg "_law_gap" qM ["one","other"] []) (c:Cal P w K mg base "_law_low" 2 ["top","bottom"] [] Zs):Cal P w K mg base "_law_gap" 3 ["one","other"] [] (QV Sz2 (· - ·)):=by
 refine D.cal (k:=2) zbd (λvs H Q E h=>by obtain⟨_,_,_,_,rfl,_⟩:=h;rfl) (λf cdv A outer s H vs Q E hr h=>?_)
 obtain⟨p,q,x,y,rfl,hp,hq,⟨hx,hy⟩,k⟩:=h
 have bx:=Bd4 hx
 have b_y:=Bd4 hy
 refine⟨_,(zi (zo (zE c hr (zd (zu Ze (zu xU (zq zv (pv 0) zf (λ_ _=>rfl)) (zq zv (pv 1) zf (λ_ _=>rfl))) (zu xU (zq zv (pv 1) zf (λ_ _=>rfl)) (zq zv (pv 0) zf (λ_ _=>rfl)))) (zd (zu xU (zq zv (pv 0) zf (λ_ _=>rfl)) (zq zv (pv 1) zf (λ_ _=>rfl))) ze))))),?_⟩
 refine⟨_,rfl,p,_,_,_,rfl,rfl,.of hp,at0 ..,_,rfl,q,_,_,_,rfl,rfl,.of hq,at1 ..,_,_,rfl,rfl,⟨bx.1,b_y.2⟩,_,rfl,q,_,_,_,rfl,rfl,.of hq,at0 ..,_,rfl,p,_,_,_,rfl,rfl,.of hp,at1 ..,_,_,rfl,rfl,⟨b_y.1,bx.2⟩,_,_,rfl,rfl,?_⟩
 refine⟨_,rfl,p,_,_,_,rfl,rfl,.of hp,at1 ..,_,rfl,q,_,_,_,rfl,rfl,.of hq,at1 ..,_,_,rfl,rfl,⟨bx.2,b_y.2⟩,?_⟩
 refine⟨_,_,rfl,Int.mul_pos (den_pos x) (den_pos y),(hx.2.mul hy.2).mono (by decide),λr H' e h=>k r H' e ?_⟩
 show xg H' r (x - y)
 rw[<-KM.Je];exact h
def zcZ:Sp:=λvs H Q _=>∃v u r s,vs=[v,u]/\RI H v r/\RI H u s/\(Bd 4000 r.1/\Bd 4000 r.2)/\(Bd 4000 s.1/\Bd 4000 s.2)/\Q (.bl (decide (r.1*s.2<s.1*r.2))) H
theorem zbc:zr ["one","other"] ["one","other"] (zg x8):=⟨rfl,rfl,rfl,by decide +kernel,rfl,by decide +kernel,by decide +kernel⟩
theorem zaF (D:Df K mg "_law_below" x8 ["one","other"] []):Cal P w K mg base "_law_below" 1 ["one","other"] [] zcZ:=by
 refine D.cal (k:=0) zbc (λvs H Q E h=>by obtain⟨_,_,_,_,rfl,_⟩:=h;rfl) (λf cdv A outer s H vs Q E hr h=>?_)
 obtain⟨v,u,x,y,rfl,⟨p,rfl,hp⟩,⟨q,rfl,hq⟩,hx,hy,k⟩:=h
 have b1:Bd 1000000 x.1:=hx.1.mono (by decide)
 have b2:Bd 1000000 x.2:=hx.2.mono (by decide)
 have b3:Bd 1000000 y.1:=hy.1.mono (by decide)
 have b4:Bd 1000000 y.2:=hy.2.mono (by decide)
 refine⟨_,(zi (zo (xD vT (zu xU (zq zv (pv 0) zf (λ_ _=>rfl)) (zq zv (pv 1) zf (λ_ _=>rfl))) (zu xU (zq zv (pv 1) zf (λ_ _=>rfl)) (zq zv (pv 0) zf (λ_ _=>rfl))) (zz _)))),?_⟩
 refine⟨_,rfl,p,_,_,_,rfl,rfl,.of hp,at0 ..,_,rfl,q,_,_,_,rfl,rfl,.of hq,at1 ..,_,_,rfl,rfl,⟨b1,b4⟩,?_⟩
 exact⟨_,rfl,q,_,_,_,rfl,rfl,.of hq,at0 ..,_,rfl,p,_,_,_,rfl,rfl,.of hp,at1 ..,_,_,rfl,rfl,⟨b3,b2⟩,_,_,rfl,rfl,k⟩
def zd2:Sp:=λvs H Q _=>∃p,vs=[.ref p]/\vD H p/\∀(d:Int) H',1<=d->d<=1000->xS p H H'->Q (.int d) H'
theorem zbg:zr ["pool"] ["pool"] (zg xL):=⟨rfl,rfl,rfl,by decide +kernel,rfl,by decide +kernel,by decide +kernel⟩
theorem zaO (D:Df K mg "_law_weight" xL ["pool"] []) (cN:Cal P w K mg base "_law_next" 1 ["pool","base"] [] jD):Cal P w K mg base "_law_weight" 2 ["pool"] [] zd2:=by
 refine D.cal (k:=1) zbg (λvs H Q E h=>by obtain⟨_,rfl,_⟩:=h;rfl) (λf cdv A outer s H vs Q E hr h=>?_)
 obtain⟨p,rfl,hP,k⟩:=h
 refine⟨_,(zi (zo (zu qC zf (zE cN hr (zd (pv 0) (zd (zq zS (xx (zd zf (zd zf (zd zf (zd zf (zd zf ze)))))) (zE cN hr (zd (pv 0) (zd zf ze))) (λ_ _=>rfl)) ze)))))),?_⟩
 refine⟨_,rfl,by show 5<=sizeLine;decide,λl hl=>?_⟩
 refine⟨_,rfl,p,_,rfl,by decide,by decide,hP.new hl,λd H1 d0 d1 t1=>?_⟩
 obtain⟨m,em,m1,m2⟩:=zdo d0 d1
 refine⟨l,_,_,_,rfl,rfl,.of (t1.keep l _ zj (hP.ne hl)),em,p,m,rfl,by omega,by omega,t1.pool,λd2 H2 e0 e1 t2=>?_⟩
 exact⟨_,_,rfl,rfl,k _ H2 (by omega) (by omega) ((t1.pre (zl.upd hl)).trans t2)⟩
def zd0:Sp:=λvs H Q _=>∃p,vs=[.ref p]/\vD H p/\∀r q H',xS p H H'->xg H' r q->Sz 5 q->Q (.ref r) H'
theorem zbe:zr ["pool"] ["pool"] (zg x9):=⟨rfl,rfl,rfl,by decide +kernel,rfl,by decide +kernel,by decide +kernel⟩
theorem zaL (D:Df K mg "_law_small" x9 ["pool"] []) (cN:Cal P w K mg base "_law_next" 1 ["pool","base"] [] jD) (cL:Cal P w K mg base "_law_low" 2 ["top","bottom"] [] Zs):Cal P w K mg base "_law_small" 3 ["pool"] [] zd0:=by
 refine D.cal (k:=2) zbe (λvs H Q E h=>by obtain⟨_,rfl,_⟩:=h;rfl) (λf cdv A outer s H vs Q E hr h=>?_)
 obtain⟨p,rfl,hP,k⟩:=h
 have hr1:xa 1 _:=hr.mono (by decide)
 refine⟨_,(zi (zo (zE cL hr (zd (zu Ze (zE cN hr1 (zd (pv 0) (zd zf ze))) zf) (zd (zq zS (xx (zd zf (zd zf (zd zf (zd zf (zd zf (zd zf (zd zf (zd zf ze))))))))) (zE cN hr1 (zd (pv 0) (zd zf ze))) (λ_ _=>rfl)) ze))))),?_⟩
 refine⟨_,rfl,p,_,rfl,by decide,by decide,hP,λd H1 d0 d1 t1=>⟨_,_,rfl,rfl,?_⟩⟩
 refine⟨by show 8<=sizeLine;decide,λl hl=>?_⟩
 refine⟨_,rfl,p,_,rfl,by decide,by decide,t1.pool.new hl,λd2 H2 e0 e1 t2=>?_⟩
 obtain⟨m,em,m1,m2⟩:=zcn e0 e1
 refine⟨l,_,_,_,rfl,rfl,.of (t2.keep l _ zj (t1.pool.ne hl)),em,?_⟩
 have bm:Bd 5 m:=bdn (by omega) (by omega)
 refine⟨_,_,rfl,by omega,bm.mono (by decide),λr H3 s3 h3=>k r _ H3 ((t1.trans (t2.pre (zl.upd hl))).same s3) h3 (.divInt (by omega) (bdz (by omega) (by omega)) bm)⟩
end
end KK
end
section
set_option maxHeartbeats 8000000
set_option Elab.async false
set_option linter.all false
set_option maxRecDepth 100000
namespace KK
open PySem L2 KM
theorem Ji {x:Rat}:decide (V.int x.num=V.int 0)=decide (x=0):=by
 by_cases h:x=0
 ·subst h;rfl
 ·rw[decide_eq_false h,decide_eq_false (λz=>h (Rat.num_eq_zero.mp (by injection z)))]
theorem zdK {H:Hp}{p:Addr}{q:Rat}(h:xg H p q):RI H (.ref p) (q.num,(q.den:Int)):=⟨p,rfl,h⟩
theorem sz4 {n:Nat}{q:Rat}(h:Sz n q) (hn:n<=4000):Bd 4000 (q.num,(q.den:Int)).1/\Bd 4000 (q.num,(q.den:Int)).2:=⟨h.1.mono hn,h.2.mono hn⟩
section
variable {P:Program}{w:World}{K:PySem.W.Frag}{mg:Str->Option Value}{base:Heap}
def zbI:Sp:=λvs H Q _=>∃(p:Addr) (mo:Int),vs=[.ref p,.int mo]/\1<=mo/\mo<=8/\vD H p/\∀r us bs H',xS p H H'->H' r=some (.tup us)->zI H' us bs->Zw bs->(∀b∈bs,Sz 100 b.pl/\Sz 100 b.sp)->1<=bs.length->bs.length<=8->Q (.ref r) H'
theorem xV:zr ["pool","most","place","even","weight","some","k","speed","far"] ["pool","most"] (zg qO):=⟨rfl,rfl,rfl,by decide +kernel,rfl,by decide +kernel,by decide +kernel⟩
theorem zaK (D:Df K mg "_law_row" qO ["pool","most"] []) (T:TxB K mg) (cN:Cal P w K mg base "_law_next" 1 ["pool","base"] [] jD) (cSm:Cal P w K mg base "_law_small" 3 ["pool"] [] zd0) (cWe:Cal P w K mg base "_law_weight" 2 ["pool"] [] zd2) (cL:Cal P w K mg base "_law_low" 2 ["top","bottom"] [] Zs)
  (cS:Cal P w K mg base "_law_sum" 3 ["one","other"] [] (QV Sz2 (· + ·))) (cBl:Cal P w K mg base "_law_below" 1 ["one","other"] [] zcZ):Cal P w K mg base "_law_row" 4 ["pool","most"] [] zbI:=by
 refine D.cal (k:=3) xV (λvs H Q E h=>by obtain⟨_,_,rfl,_⟩:=h;rfl) (λf cdv A outer s H vs Q E hr3 h=>?_)
 obtain⟨p,mo,rfl,o1,o8,hP,k⟩:=h
 have hr1:xa 1 _:=hr3.mono (by decide)
 have hr2:xa 2 _:=hr3.mono (by decide)
 refine⟨_,(zh (zA (i:=2) xV.nd rfl (Or.inl rfl) (zE cSm hr3 (zd (pv 0) ze)))
  (zh (zA (i:=3) xV.nd rfl (Or.inl rfl) (xD qh (zE cN hr1 (zd (pv 0) (zd zf ze))) zf (zz _)))
  (zh (zA (i:=4) xV.nd rfl (Or.inl rfl) (zE cWe hr2 (zd (pv 0) ze)))
  (zh (zA (i:=5) xV.nd rfl (Or.inl rfl) (xx ze))
  (zh (Zf PassesOwn.never rfl (ZQ rfl T.nRange (zd (zu qC zf (zE cN hr1 (zd (pv 0) (zd (pv 1) ze)))) ze)) (zT (i:=6) xV.nd rfl (Or.inl rfl)) (zh (zA (i:=7) xV.nd rfl (Or.inl rfl) (zE cSm hr3 (zd (pv 0) ze)))
  (zh (zA (i:=8) xV.nd rfl (Or.inl rfl) (zq zS (xx (zd zf (zd zf (zd zf (zd zf (zd zf (zd (zu qC zf (zE cN hr1 (zd (pv 0) (zd zf ze)))) ze))))))) (zE cN hr1 (zd (pv 0) (zd zf ze))) (λ_ _=>rfl)))
  (zh (zA (i:=8) xV.nd rfl (Or.inl rfl) (zE cL hr2 (zd (pv 8) (zd (zu qC zf (zE cN hr1 (zd (pv 0) (zd zf ze)))) ze))))
  (zh (zA (i:=2) xV.nd rfl (Or.inl rfl) (zE cS hr3 (zd (pv 2) (zd (pv 8) ze))))
  (zh (zW (vx (zy Zd (pv 6) zf (zz _)) (vx (zy qh (zq zv (pv 8) zf (λ_ _=>rfl)) zf (zz _)) (va (xh (zV (zE cBl hr1 (zd (zq zv (zq zS (pv 5) (qX qg zf) (λ_ _=>rfl)) zf (λ_ _=>rfl)) (zd (pv 7) ze))) λ_=>rfl))))).pt (zi (zA (i:=7) xV.nd rfl (Or.inl rfl) (zE cS hr3 (zd (zq zv (zq zS (pv 5) (qX qg zf) (λ_ _=>rfl)) zf (λ_ _=>rfl)) (zd (vt (zd zf (zd zf ze))) ze))))) zD)
  (zh (zW (xh (zV (pv 3) λ_=>rfl)) (zi (zA (i:=4) xV.nd rfl (Or.inl rfl) (zE cWe hr2 (zd (pv 0) ze)))) zD)
  (zi (jQ (vi PySem.F.plainAttrs_list PySem.F.slot_list_append PySem.F.type_list_append qH (pv 5) (zd (vt (zd (pv 2) (zd (pv 7) (zd (pv 4) ze)))) ze)))))))))))
  (zi (zo (xZ vc (by rfl) T.nTuple PyProof.Rows.boot_tuple (zd (pv 5) ze))))))))),?_⟩
 refine⟨_,rfl,p,rfl,hP,λpp pl G1 t1 hpp zpl=>?_⟩
 refine⟨_,rfl,p,_,rfl,by decide,by decide,t1.pool,λd2 G2 a2 b2 t2=>⟨rfl,?_⟩⟩
 refine⟨_,rfl,p,rfl,t2.pool,λwt G3 w1 w2 t3=>?_⟩
 refine⟨by show 0<=sizeLine;exact Nat.zero_le _,λlr hlr=>?_⟩
 have T3:=(t1.trans t2).trans t3
 have hrp:lr≠p:=T3.pool.ne hlr
 have hrH:=T3.free hlr
 have hpp3:xg G3 pp pl:=qd t2.pool t3 _ _ (qd t1.pool t2 _ _ hpp)
 dsimp only[zH]
 refine Zt ?_
 refine⟨_,rfl,_,rfl,p,mo,rfl,by omega,by omega,T3.pool.new hlr,λdn G4 n0 n1 t4=>⟨_,_,rfl,rfl,?_⟩⟩
 refine⟨_,rfl,by omega,by omega,?_⟩
 have hlr4:G4 lr=some (.lst []):=t4.keep _ _ zj hrp
 have T4:xS p H G4:=(T3.same (zl.upd hlr)).trans t4
 have hpp4:xg G4 pp pl:=qd (T3.pool.new hlr) t4 _ _ (zl.upd hlr _ _ hpp3)
 generalize decide (V.int d2=V.int 0)=ev
 refine Vg (n:=((1:Int)+dn).toNat) (lo:=0) (λi σ G=>∃pp pl wt us bs z6 z7 z8,σ=[some (.ref p),some (.int mo),some (.ref pp),some (.bl ev),some (.int wt),some (.ref lr),z6,z7,z8]/\xS p H G/\xg G pp pl/\Sz (5+7*i) pl/\1<=wt/\wt<=1000/\G lr=some (.lst us)/\zI G us bs/\bs.length=i/\Zw bs/\(∀b∈bs,Sz 100 b.pl/\Sz 100 b.sp) ∧
   (∀cs c,bs=cs++[c]->c.pl=pl/\Sz (5+3*i) c.sp))
  ⟨pp,pl,wt,[],[],none,none,none,rfl,T4,hpp4,zpl,w1,w2,hlr4,.nil,rfl,Zw.nil,(λb m=>by cases m),λcs c e=>by simp at e⟩ ?_ ?_
 ·rintro i σ G hi ⟨pp,pl,wt,us,bs,z6,z7,z8,rfl,TG,hppG,zplG,w1,w2,hlrG,hB,hbl,hGo,hsz,hlast⟩
  have hi8:i<8:=by omega
  refine⟨_,rfl,p,rfl,TG.pool,λrs sp G5 t5 hrs zsp=>?_⟩
  have T5:=TG.trans t5
  have Tu5:=qd TG.pool t5
  refine⟨_,rfl,p,_,rfl,by decide,by decide,T5.pool,λd6 G6 a6 b6 t6=>⟨_,_,rfl,rfl,by show 6<=sizeLine;decide,λl6 hl6=>?_⟩⟩
  have T6:=T5.trans t6
  have Tu6:=qd T5.pool t6
  refine⟨_,rfl,p,_,rfl,by decide,by decide,T6.pool.new hl6,λd7 G7 a7 b7 t7=>?_⟩
  obtain⟨fv,efv,f0,f1⟩:=at6 (1+d6) a7 b7 ⟨by omega,by omega⟩
  refine⟨l6,_,_,_,rfl,rfl,.of (t7.keep l6 _ zj (T6.pool.ne hl6)),efv,?_⟩
  have T7:xS p H G7:=(T6.same (zl.upd hl6)).trans t7
  have Tu7:xu G6 G7:=(xu.of (zl.upd hl6)).trans (qd (T6.pool.new hl6) t7)
  refine⟨_,rfl,_,rfl,p,_,rfl,by decide,by decide,T7.pool,λd8 G8 a8 b8 t8=>⟨_,_,rfl,rfl,?_⟩⟩
  have T8:=T7.trans t8
  have Tu8:=qd T7.pool t8
  have bb:Bd 6 (1+d8):=bdn (by omega) (by omega)
  have bf:Bd 6 fv:=bdn (by omega) (by omega)
  refine⟨_,_,rfl,by omega,bb.mono (by decide),λrg G9 e9 hrg=>?_⟩
  have T9:=T8.same e9
  have Tu9:xu G G9:=(((Tu5.trans Tu6).trans Tu7).trans Tu8).trans (.of e9)
  obtain⟨ga,ega⟩:∃ga,ga=Rat.divInt fv (1+d8):=⟨_,rfl⟩
  have zga:Sz 6 ga:=by rw[ega];exact .divInt (by omega) bf bb
  have gnn:0<=ga:=by rw[ega];exact Vc f0 (by omega)
  rw[<-ega]at hrg
  have hrs9:xg G9 rs sp:=e9 _ _ (Tu8 _ _ (Tu7 _ _ (Tu6 _ _ hrs)))
  have keepL:∀us,G lr=some (.lst us)->G9 lr=some (.lst us):=λus e=>e9 _ _ (t8.keep _ _ (t7.keep _ _ (zl.upd hl6 _ _ (t6.keep _ _ (t5.keep _ _ e hrp) hrp)) hrp) hrp)
  have hlr9:=keepL us hlrG
  dsimp only[zH]
  refine⟨_,rfl,_,rfl,pp,rg,pl,ga,rfl,Tu9 _ _ hppG,hrg,⟨zplG.mono (by omega),zga.mono (by decide)⟩,λpp' GA eA hpp'=>?_⟩
  have TA:=T9.same eA
  have TuA:xu G GA:=Tu9.trans (.of eA)
  have zpl':Sz (5+7*(i+1)) (pl+ga):=(zplG.add zga).mono (by omega)
  have hlrA:=eA _ _ hlr9
  have hrsA:xg GA rs sp:=eA _ _ hrs9
  have hrgA:xg GA rg ga:=eA _ _ hrg
  have hBA:zI GA us bs:=hB.mono TuA
  dsimp only[zH]
  refine Zu (λσ' G'=>∃rs' sp',σ'=[some (.ref p),some (.int mo),some (.ref pp'),some (.bl ev),some (.int wt),some (.ref lr),some (.int (0+(i:Int))),some (.ref rs'),some (.ref rg)]/\xS p H G'/\xu GA G'/\G' lr=some (.lst us)/\xg G' rs' sp'/\Sz (5+3*(i+1)) sp'/\∀wt cs c,bs=cs++[c]->Zb c ⟨pl+ga,sp',wt⟩) ?_ ?_
  ·rintro σ' GB ⟨rs',sp',rfl,TB,TuB,hlrB,hrsB,zspB,hlex⟩
   refine Zu (λσ' G'=>∃wt',σ'=[some (.ref p),some (.int mo),some (.ref pp'),some (.bl ev),some (.int wt'),some (.ref lr),some (.int (0+(i:Int))),some (.ref rs'),some (.ref rg)]/\xS p H G'/\xu GB G'/\G' lr=some (.lst us)/\1<=wt'/\wt'<=1000) ?_ ?_
   ·rintro σ' GC ⟨wt',rfl,TC,TuC,hlrC,v1,v2⟩
    have hppC:xg GC pp' (pl+ga):=TuC _ _ (TuB _ _ hpp')
    have hrsC:xg GC rs' sp':=TuC _ _ hrsB
    have hBC:zI GC us bs:=hBA.mono (TuB.trans TuC)
    refine⟨_,rfl,.inl ⟨rfl,_,SqL.of hlrC⟩,_,rfl,_,rfl,_,rfl,by show 3<=sizeLine;decide,λt ht=>?_⟩
    refine⟨lr,us,_,rfl,rfl,zl.upd ht _ _ hlrC,xQ (by rw[hB.length];omega),?_⟩
    have Tt:xu GC (upd (upd GC t (.tup [.ref pp',.ref rs',.int wt'])) lr (.lst (us++[.ref t]))):=(xu.of (zl.upd ht)).trans (.upd (zl.upd ht _ _ hlrC))
    refine⟨pp',pl+ga,wt',us++[.ref t],bs++[⟨pl+ga,sp',wt'⟩],_,_,_,rfl,(TC.same (zl.upd ht)).put hrH hrp _,Tt _ _ hppC,zpl',v1,v2,zj,?_,by simp[hbl],hGo.snoc ⟨v1,v2⟩ ⟨zpl'.mono (by omega),zspB.mono (by omega)⟩ (hlex wt'),?_,?_⟩
    ·exact zI.append (.one (b:=⟨pl+ga,sp',wt'⟩) (xu.upd (zl.upd ht _ _ hlrC) _ _ zj) (Tt _ _ hppC) (Tt _ _ hrsC)) (hBC.mono Tt)
    ·intro b m
     rcases List.mem_append.mp m with m | m
     ·exact hsz b m
     ·cases List.mem_singleton.mp m;exact⟨zpl'.mono (by omega),zspB.mono (by omega)⟩
    ·intro cs c e
     have e2:=List.append_inj_right' e rfl
     have:c = ⟨pl+ga,sp',wt'⟩:=by injection e2 with e3;exact e3.symm
     subst this
     exact⟨rfl,zspB⟩
   ·intro nx hnx
    refine⟨_,rfl,ev,rfl,?_⟩
    cases ev with
    | true=>exact zR (hnx _ _ ⟨wt,rfl,TB,.of (zl.refl _),hlrB,w1,w2⟩)
    | false=>exact zJ ⟨_,rfl,p,rfl,TB.pool,λv GC v1 v2 tC=>hnx _ _ ⟨v,rfl,TB.trans tC,qd TB.pool tC,tC.keep _ _ hlrB hrp,v1,v2⟩⟩
  ·intro nx hnx
   have zs:Sz (5+3*(i+1)) sp:=zsp.mono (by omega)
   refine⟨_,rfl,_,_,rfl,rfl,_,rfl,jb (λh=>?_) (λh=>?_)⟩
   ·have hi0:0<i:=by have z:(0:Int)<0+(i:Int):=of_decide_eq_true h
                     omega
    obtain⟨cs,c,hcs⟩:∃cs c,bs=cs++[c]:=by
     rcases List.eq_nil_or_concat bs with e | ⟨cs,c,e⟩
     ·rw[e]at hbl;simp at hbl;omega
     ·exact⟨cs,c,by simpa using e⟩
    obtain⟨hcpl,zc⟩:=hlast cs c hcs
    have hB':=hBA
    rw[hcs]at hB'
    obtain⟨us0,la,lp,lq,eus,hla,hlp,hlq⟩:=hB'.last
    have elast:atI us (-1)=some (.ref la):=by rw[eus];exact jZ _ _
    have uniq:∀cs' c',bs=cs'++[c']->c'=c:=λcs' c' e=>by
     rw[hcs]at e
     have:=List.append_inj_right' e rfl
     injection this with e3;exact e3.symm
    have le:∀(sp':Rat) (wt:Int),(ga=0->c.sp<sp')->∀cs' c',bs=cs'++[c']->Zb c' ⟨pl+ga,sp',wt⟩:=λsp' wt hx cs' c' e=>by
     have:=uniq cs' c' e
     subst this
     by_cases hg:ga=0
     ·exact .inr ⟨by show c'.pl=pl+ga;rw[hcpl,hg];grind,hx hg⟩
     ·exact .inl (by show c'.pl<pl+ga;rw[hcpl];grind)
    refine⟨_,rfl,rg,_,_,_,rfl,rfl,.of hrgA,at0 ..,rfl,_,rfl,?_⟩
    rw[Ji]
    by_cases hg:ga=0
    ·rw[decide_eq_true hg]
     refine zJ ⟨_,rfl,_,rfl,lr,_,_,_,rfl,rfl,.of hlrA,elast,la,_,_,_,rfl,rfl,.of hla,rfl,_,rfl,_,_,_,_,rfl,zdK hlq,zdK hrsA,sz4 zc (by omega),sz4 zsp (by decide),_,rfl,?_⟩
     dsimp only
     rw[Jd]
     by_cases hlt:c.sp<sp
     ·rw[decide_eq_true hlt]
      exact zR (hnx _ _ ⟨rs,sp,rfl,TA,.of (zl.refl _),hlrA,hrsA,zs,λwt=>le sp wt λ_=>hlt⟩)
     ·rw[decide_eq_false hlt]
      refine zJ ⟨_,rfl,_,rfl,lr,_,_,_,rfl,rfl,.of hlrA,elast,la,_,_,_,rfl,rfl,.of hla,rfl,by show 2<=sizeLine;decide,λta hta=>?_⟩
      refine⟨lq,ta,c.sp,1,rfl,zl.upd hta _ _ hlq,zcH zj,⟨zc.mono (by omega),J8.mono (by decide)⟩,λrn GB eB hrn=>?_⟩
      have sAB:zl GA GB:=(zl.upd hta).trans eB
      exact hnx _ _ ⟨rn,c.sp+1,rfl,TA.same sAB,.of sAB,sAB _ _ hlrA,hrn,(zc.add J8).mono (by omega),λwt=>le _ wt λ_=>by grind⟩
    ·rw[decide_eq_false hg]
     exact zR (zR (hnx _ _ ⟨rs,sp,rfl,TA,.of (zl.refl _),hlrA,hrsA,zs,λwt=>le sp wt λz=>absurd z hg⟩))
   ·have hi0:i=0:=by
     rcases Nat.eq_zero_or_pos i with z | z
     ·exact z
     ·exact absurd (decide_eq_true (show (0:Int)<0+(i:Int) by omega)) h
    exact zR (hnx _ _ ⟨rs,sp,rfl,TA,.of (zl.refl _),hlrA,hrsA,zs,λwt cs c e=>by rw[e]at hbl;simp at hbl;omega⟩)
 ·rintro σ G ⟨pp,pl,wt,us,bs,z6,z7,z8,rfl,TG,hppG,zplG,w1,w2,hlrG,hB,hbl,hGo,hsz,hlast⟩
  refine⟨_,rfl,lr,us,rfl,.inl ⟨.of hlrG,λr hr'=>k r us bs _ (TG.same (zl.upd hr')) zj (hB.same (zl.upd hr')) hGo hsz (by omega) (by omega)⟩⟩
end
end KK
end
section
set_option maxHeartbeats 8000000
set_option Elab.async false
set_option linter.all false
set_option maxRecDepth 100000
namespace KK
open PySem L2 KM PySem.NumText
theorem zbY (m:Nat):atI (Str.ofString "0123456789").cps.toList (((m:Int)) % 10)=some (48+m % 10):=by
 have e:(Str.ofString "0123456789").cps.toList=[48,49,50,51,52,53,54,55,56,57]:=by decide +kernel
 rw[e,show ((m:Int)) % 10=((m % 10:Nat):Int) by omega]
 have h:m % 10<10:=Nat.mod_lt _ (by decide)
 generalize m % 10=r at h
 have:r=0\/r=1\/r=2\/r=3\/r=4\/r=5\/r=6\/r=7\/r=8\/r=9:=by omega
 rcases this with rfl | rfl | rfl | rfl | rfl | rfl | rfl | rfl | rfl | rfl <;> rfl
theorem zb7 (m:Nat):((m:Int)).fdiv 10=((m/10:Nat):Int):=by
 rw[Int.fdiv_eq_ediv_of_nonneg _ (by decide)];omega
section
variable {P:Program}{w:World}{K:PySem.W.Frag}{mg:Str->Option Value}{base:Heap}
def zbl:Sp:=λvs H Q _=>∃n:Int,vs=[.int n]/\n.natAbs<10^300/\∀H',zl H H'->Q (.str (TX (ntL n))) H'
theorem jk:zr ["number","text","rest"] ["number"] (zg xy):=⟨rfl,rfl,rfl,by decide +kernel,rfl,by decide +kernel,by decide +kernel⟩
theorem zaH (D:Df K mg "_law_figures" xy ["number"] []) (T:TxB K mg):Cal P w K mg base "_law_figures" 1 ["number"] [] zbl:=by
 refine D.cal (k:=0) jk (λvs H Q E h=>by obtain⟨_,rfl,_⟩:=h;rfl) (λf cdv A outer s H vs Q E hr h=>?_)
 obtain⟨n,rfl,hn,k⟩:=h
 refine⟨_,(zh (zA (i:=1) jk.nd rfl (Or.inl rfl) zw)
  (zh (zA (i:=2) jk.nd rfl (Or.inl rfl) (zG j4 (by rfl) T.nAbs PyProof.Rows.boot_abs (zd (pv 0) ze)))
  (zh (ji PassesOwn.never (zy Zd (pv 2) zf (zz _)) (zh (zA (i:=1) jk.nd rfl (Or.inl rfl) (zu zn (zq Qa zw (zu vq (pv 2) zf) (λ_ _=>rfl)) (pv 1)))
  (zi (zA (i:=2) jk.nd rfl (Or.inl rfl) (zu Zc (pv 2) zf)))))
  (zi (zo (zu zn (zq zS (xx (zd zw (zd zw ze))) (xZ jv (by rfl) T.nInt PyProof.Rows.boot_int (zd (xD vT (pv 0) zf (zz _)) ze)) (λ_ _=>rfl)) (zq zS (xx (zd zw (zd (pv 1) ze))) (xZ jv (by rfl) T.nInt PyProof.Rows.boot_int (zd (xD jG (pv 0) zf (zz _)) ze)) (λ_ _=>rfl)))))))),?_⟩
 refine qS ?_
 refine⟨_,rfl,n,rfl,?_⟩
 dsimp only[zH]
 refine XV ?_
 obtain⟨N,hN⟩:∃N,N=n.natAbs:=⟨_,rfl⟩
 have lN:=vM (k:=300) (by decide) (hN ▸ hn)
 refine jo (λσ H1=>H1=H/\∃(m:Nat) (t:List Nat),σ=[some (.int n),some (.str (TX t)),some (.int (m:Int))]/\(m=0->t=if N=0 then []else fig N)/\(0<m->0<N/\fig N=fig m++t))
  (λσ _=>match σ with | [_,_,some (.int y)]=>y.toNat | _=>0) ⟨rfl,N,[],?_,λe=>by rw[if_pos e],λh=>⟨h,by rw[List.append_nil]⟩⟩ ?_ ?_
 ·rw[jY,<-hN];rfl
 ·rintro σ H1 ⟨rfl,m,t,rfl,h0,h1⟩
  refine⟨_,rfl,_,_,rfl,rfl,_,rfl,jb (λh=>?_) (λh=>?_)⟩
  ·have m0:0<m:=by have z:(0:Int)<(m:Int):=of_decide_eq_true h
                   omega
   obtain⟨N0,eN⟩:=h1 m0
   have lt:t.length+1<=300:=by
    have e2:=congrArg List.length eN
    rw[List.length_append]at e2
    have:1<=(fig m).length:=by
     cases hf:fig m with
     | nil=>exact absurd hf (vg m).2.1
     | cons c r=>simp
    omega
   refine⟨_,rfl,_,_,rfl,rfl,(by show (0:Int)<10;decide),_,_,_,rfl,rfl,szl (by decide),zbY m,_,rfl,_,_,rfl,rfl,?_,?_⟩
   ·rw[zx];exact szl (by show 1+_<=1000;omega)
   dsimp only[zH]
   refine⟨_,rfl,_,_,rfl,rfl,⟨by decide,Bd.mono (m:=5) (show (10:Int).natAbs<2^5 by decide) (by decide)⟩,?_⟩
   have e3:(⟨#[48+m % 10]⟩:Str)++TX t=TX ((48+m % 10)::t):=by
    show TX [48+m % 10]++TX t=_
    rw[zF];rfl
   dsimp only[zH]
   rw[e3,zb7]
   refine⟨⟨rfl,m/10,(48+m % 10)::t,rfl,λe=>?_,λh=>⟨N0,?_⟩⟩,?_⟩
   ·rw[if_neg (by omega),eN,jx (by omega)]
    show (48+m % 10)::t=(48+m)::t
    rw[Nat.mod_eq_of_lt (by omega)]
   ·rw[eN,X7 (by omega),List.append_assoc];rfl
   ·show ((m/10:Nat):Int).toNat<((m:Nat):Int).toNat
    omega
  ·have m0:m=0:=by
    rcases Nat.eq_zero_or_pos m with z | z
    ·exact z
    ·exact absurd (decide_eq_true (show (0:Int)<(m:Int) by omega)) h
   have et:=h0 m0
   refine⟨by show 2<=sizeLine;decide,λl1 hl1=>?_⟩
   refine⟨_,rfl,_,_,rfl,rfl,.inr ⟨_,rfl,?_⟩⟩
   have s1:=zl.upd (o:=.lst [.str (Str.ofString ""),.str (Str.ofString "-")]) hl1
   obtain⟨g,eg,hg⟩:∃g:List Nat,atI [V.str (Str.ofString ""),.str (Str.ofString "-")] (if decide (n<0)=true then 1 else 0)=some (.str (TX g))/\g=if n<0 then [45]else []:=by
    by_cases c:n<0
    ·rw[decide_eq_true c,if_pos rfl,if_pos c];exact⟨[45],by show some (V.str (Str.ofString "-"))=_;rw[show Str.ofString "-" = TX [45] by decide +kernel],rfl⟩
    ·rw[decide_eq_false c,if_neg (by decide),if_neg c];exact⟨[],by show some (V.str (Str.ofString ""))=_;rw[show Str.ofString "" = TX [] by decide +kernel],rfl⟩
   refine⟨l1,_,_,_,rfl,rfl,.of zj,eg,?_⟩
   refine⟨_,rfl,by show 2<=sizeLine;decide,λl2 hl2=>?_⟩
   refine⟨_,rfl,rfl,.inr ⟨_,rfl,?_⟩⟩
   have s2:=zl.upd (o:=.lst [.str (Str.ofString "0"),.str (TX t)]) hl2
   obtain⟨g2,eg2,hg2⟩:∃g2:List Nat,atI [V.str (Str.ofString "0"),.str (TX t)] (if(!decide (V.int n=V.int 0))=true then 1 else 0)=some (.str (TX g2))/\g2=fig N:=by
    by_cases c:n=0
    ·rw[decide_eq_true (congrArg V.int c)]
     refine⟨[48],by show some (V.str (Str.ofString "0"))=_;rw[show Str.ofString "0" = TX [48] by decide +kernel],?_⟩
     rw[show N=0 by omega,jx (by decide)]
    ·rw[decide_eq_false (λz=>c (by injection z))]
     exact⟨t,rfl,by rw[et,if_neg (by omega)]⟩
   refine⟨l2,_,_,_,rfl,rfl,.of zj,eg2,_,_,rfl,rfl,?_,?_⟩
   ·rw[zx,zx,hg2]
    have:g.length<=1:=by rw[hg];split <;> decide
    exact szl (by omega)
   ·have:=k _ (s1.trans s2)
    have e4:TX g++TX g2=TX (ntL n):=by
     rw[zF,hg2,hg,hN]
     unfold ntL
     by_cases c:n<0
     ·rw[if_pos c,if_pos c];rfl
     ·rw[if_neg c,if_neg c];rfl
    rw[e4];exact this
 ·rintro σ H1 Q1 Q2 hq ⟨v,e,i,j,e1,e2,b,e3,q⟩
  exact⟨v,e,i,j,e1,e2,b,e3,hq _ _ q⟩
def R3 (r:Int×Int):Prop:=r.1.natAbs<10^300/\r.2.natAbs<10^300
theorem Rz.r3 {r:Int×Int}(h:Rz r):R3 r:=⟨Nat.lt_trans h.1 (by decide),Nat.lt_trans h.2 (by decide)⟩
theorem QE {n:Int}(h:n.natAbs<10^300):(ntL n).length<=301:=by
 have:=vM (k:=300) (by decide) h
 unfold ntL;split
 ·simp;omega
 ·omega
def zc1:Sp:=λvs H Q _=>∃v r,vs=[v]/\RI H v r/\R3 r/\∀H',zl H H'->Q (.str (TX (rtL r))) H'
theorem zcT:zr ["one"] ["one"] (zg xf):=⟨rfl,rfl,rfl,by decide +kernel,rfl,by decide +kernel,by decide +kernel⟩
theorem zcA (D:Df K mg "_law_ratio_text" xf ["one"] []) (cFi:Cal P w K mg base "_law_figures" 1 ["number"] [] zbl):Cal P w K mg base "_law_ratio_text" 2 ["one"] [] zc1:=by
 refine D.cal (k:=1) zcT (λvs H Q E h=>by obtain⟨_,_,rfl,_⟩:=h;rfl) (λf cdv A outer s H vs Q E hr h=>?_)
 obtain⟨v,r,rfl,⟨p,rfl,hp⟩,hz,k⟩:=h
 refine⟨_,(zh (zW (zy qh (zq zv (pv 0) zf (λ_ _=>rfl)) zf (zz _)) (zi (zo (zE cFi hr (zd (zq zv (pv 0) zf (λ_ _=>rfl)) ze)))) zD)
  (zi (zo (zu zn (zu zn (zE cFi hr (zd (zq zv (pv 0) zf (λ_ _=>rfl)) ze)) zw) (zE cFi hr (zd (zq zv (pv 0) zf (λ_ _=>rfl)) ze)))))),?_⟩
 refine⟨_,rfl,p,_,_,_,rfl,rfl,.of hp,at1 ..,rfl,_,rfl,jb (λh=>?_) (λh=>?_)⟩
 ·have e:r.2=1:=by have:=of_decide_eq_true h;injection this
  refine⟨_,rfl,p,_,_,_,rfl,rfl,.of hp,at0 ..,_,rfl,hz.1,λH1 s1=>?_⟩
  have e2:rtL r=ntL r.1:=by unfold rtL;rw[if_pos e]
  have:=k H1 s1
  rw[e2]at this;exact this
 ·have e:r.2≠1:=λz=>h (decide_eq_true (congrArg V.int z))
  refine zL ?_
  refine⟨_,rfl,p,_,_,_,rfl,rfl,.of hp,at0 ..,_,rfl,hz.1,λH1 s1=>?_⟩
  have l1:=QE hz.1
  have l2:=QE hz.2
  have hp1:=s1 _ _ hp
  refine⟨_,_,rfl,rfl,?_,?_⟩
  ·rw[zx];exact szl (by show _+1<=1000;omega)
  refine⟨_,rfl,p,_,_,_,rfl,rfl,.of hp1,at1 ..,_,rfl,hz.2,λH2 s2=>?_⟩
  have e0:TX (ntL r.1)++Str.ofString "/" = TX (ntL r.1++[47]):=by rw[show Str.ofString "/" = TX [47] by decide +kernel,zF]
  refine⟨_,_,rfl,rfl,?_,?_⟩
  ·rw[e0,zx,zx];exact szl (by simp;omega)
  have e2:rtL r=ntL r.1++[47]++ntL r.2:=by unfold rtL;rw[if_neg e]
  have:=k H2 (s1.trans s2)
  rw[e2,<-zF,<-e0]at this;exact this
end
end KK
end
section
set_option maxHeartbeats 8000000
set_option Elab.async false
set_option linter.all false
set_option maxRecDepth 100000
namespace L2
open PySem PySem.Spec PyProof.Rows
theorem zas {a:Str}{g:TG}{tb:TS}{D:vC}{σ:St}{H:Hp}(Pv:Nat->St->Hp->Prop) (h0:Pv 0 σ H)
  (hs:∀i c σ H,a.cps.toList[i]? = some c->Pv i σ H->g (.str ⟨#[c]⟩) σ H λσ2 H2=>tb { D with nx:=Pv (i+1),ct:=Pv (i+1),bk:=D.nx } σ2 H2) (hd:∀σ H,Pv a.cps.toList.length σ H->D.nx σ H) :
  ∃W:Nat->Nat->St->Hp->Prop,(∃m,W 0 m σ H)/\∀i m σ H,W i m σ H →
   ((Its a).stop i H/\D.nx σ H)\/((Its a).go i H/\∃N:St->Hp->Prop,(∀σ' H',N σ' H'->∃m',m'<m/\W (i+1) m' σ' H')/\∀x H',(Its a).yld i H x H'->g x σ H' λσ2 H2=>tb { D with nx:=N,ct:=N,bk:=D.nx } σ2 H2):=by
 refine⟨λi m σ H=>m=a.cps.toList.length - i/\i<=a.cps.toList.length/\Pv i σ H,⟨_,rfl,Nat.zero_le _,h0⟩,?_⟩
 rintro i m σ H ⟨rfl,hi,p⟩
 by_cases hlt:i<a.cps.toList.length
 ·refine .inr ⟨show i<a.cps.size by simpa using hlt,Pv (i+1),λσ' H' p'=>⟨_,by omega,rfl,hlt,p'⟩,λx H' y=>?_⟩
  obtain⟨e,c,ec,ex⟩:=y
  subst e ex
  exact hs i c σ _ (by simpa using ec) p
 ·have e:i=a.cps.toList.length:=by omega
  subst e
  exact .inl ⟨show a.cps.size<=_ by simp,hd σ H p⟩
end L2
namespace KK
open PySem L2 KM PySem.NumText
def oV:Option Int->V
 | none=>.non
 | some n=>.int n
theorem sidx {c:Nat}(h:vd c=true):∃rest,Builtin.Str.occurrences (Str.ofString "0123456789") ⟨#[c]⟩ 0 (Str.ofString "0123456789").length 1=(c - 48)::rest:=by
 unfold vd at h
 simp only[Bool.and_eq_true,decide_eq_true_eq]at h
 have:c=48\/c=49\/c=50\/c=51\/c=52\/c=53\/c=54\/c=55\/c=56\/c=57:=by omega
 rcases this with rfl | rfl | rfl | rfl | rfl | rfl | rfl | rfl | rfl | rfl
 all_goals exact⟨[],by decide +kernel⟩
theorem zc3 {x:Str}:decide (V.str x=V.str (Str.ofString ""))=decide (x.cps.toList=[]):=by
 rw[vE,show Str.ofString "" = TX [] by decide +kernel]
 by_cases h:x.cps.toList=[]
 ·rw[decide_eq_true h,decide_eq_true (by rw[<-vA x,h])]
 ·rw[decide_eq_false h,decide_eq_false (λz=>h (by rw[z,qf]))]
theorem at_0 {l:List Nat}{c:Nat}{r:List Nat}(h:l=c::r):atI l 0=some c:=by subst h;exact jN (j:=0) rfl
theorem zaf {l:List Nat}{i c:Nat}(e:l[i]? = some c):digitsVal (l.take (i+1))=digitsVal (l.take i)*10+(c - 48):=by
 rw[List.take_add_one,e]
 exact digitsVal_snoc _ _
section
variable {P:Program}{w:World}{K:PySem.W.Frag}{mg:Str->Option Value}{base:Heap}
def zc2:Sp:=λvs H Q _=>∃x,vs=[.str x]/\x.length<=10000/\Q (oV (rdN x)) H
theorem jT:zr ["text","found","sign"] ["text"] (zg qa):=⟨rfl,rfl,rfl,by decide +kernel,rfl,by decide +kernel,by decide +kernel⟩
theorem zaN (D:Df K mg "_law_value" qa ["text"] []) (T:TxB K mg):Cal P w K mg base "_law_value" 1 ["text"] [] zc2:=by
 refine D.cal (k:=0) jT (λvs H Q E h=>by obtain⟨_,rfl,_⟩:=h;rfl) (λf cdv A outer s H vs Q E hr h=>?_)
 obtain⟨x,rfl,hx,k⟩:=h
 have hxl:x.cps.toList.length=x.length:=by simp[Str.length]
 have hz:x.length<=sizeLine:=by have:=vb hx;omega
 have no:qe x.cps.toList=false->Q .non H:=λh=>by rw[Zh h]at k;exact k
 refine⟨_,(zh (zW ((qB (zy qh (pv 0) zw (zz _)) (qB (zy Zd (zG vp (by rfl) T.nLen PySem.boot_len (zd (pv 0) ze)) zf (zz _)) (qD ((vx (zy qh (zq Qa (pv 0) zf (λ_ _=>rfl)) zw (zz _)) (va (zy jG (pv 0) zw (zz _))))).pt)))).pt (zi (zo xm)) zD)
  (zh (zA (i:=1) jT.nd rfl (Or.inl rfl) zf)
  (zh (Zf PassesOwn.never rfl (JA (pv 0)) (zT (i:=2) jT.nd rfl (Or.inl rfl)) (zh (zW (zy Xh (pv 2) zw rfl) (zi (zo xm)) zD)
  (zi (zA (i:=1) jT.nd rfl (Or.inl rfl) (zu qC (zu xU (pv 1) zf) (vi PySem.F.plainAttrs_str PySem.F.slot_str_index PySem.F.type_str_index Vp zw (zd (pv 2) ze)))))))
  (zi (zo (pv 1)))))),?_⟩
 refine⟨_,rfl,rfl,_,rfl,?_⟩
 rw[zc3]
 by_cases c1:x.cps.toList=[]
 ·rw[decide_eq_true c1]
  refine zJ (zJ (no ?_))
  unfold qe;rw[c1];rfl
 rw[decide_eq_false c1]
 refine zR ?_
 refine⟨_,rfl,x,rfl,hz,_,_,rfl,rfl,_,rfl,?_⟩
 have h1:1<=x.length:=by
  rw[<-hxl]
  cases hl:x.cps.toList with
  | nil=>exact absurd hl c1
  | cons c r=>simp
 by_cases c2:x.length<=300
 case neg =>
  rw[decide_eq_true (show (300:Int)<(x.length:Int) by omega)]
  refine zJ (zJ (no ?_))
  unfold qe;rw[hxl,decide_eq_false c2];simp
 rw[decide_eq_false (show ¬(300:Int)<(x.length:Int) by omega)]
 refine zR ?_
 obtain⟨c0,r0,el⟩:∃c0 r0,x.cps.toList=c0::r0:=by
  cases hl:x.cps.toList with
  | nil=>exact absurd hl c1
  | cons c r=>exact⟨c,r,rfl⟩
 refine⟨_,rfl,x,0,c0,rfl,rfl,hz,at_0 el,rfl,_,rfl,?_⟩
 have ec:decide (V.str ⟨#[c0]⟩=V.str (Str.ofString "0"))=decide (c0=48):=by
  rw[vE,show Str.ofString "0" = ⟨#[48]⟩ by decide +kernel]
  by_cases z:c0=48
  ·rw[z,decide_eq_true rfl,decide_eq_true rfl]
  ·rw[decide_eq_false z,decide_eq_false (λq=>z (by injection q with q;simpa using q))]
 rw[ec]
 have hh:x.cps.toList.head? = some c0:=by rw[el];rfl
 have loop:∀D:vC,D.rt=Q->(decide (x.cps.toList=[48]) || !decide (x.cps.toList.head? = some 48))=true →
   Xo (Qo (tC (.int 0)) (zH 1)) (Xo (zbt (zdm (vn 0)) (zH 2) (Xo (zd7 (zae (tOp (λx y H Q=>∃i j,x = .str i/\y = .str j/\Q (.bl (!(!(Builtin.Str.occurrences j i 0 j.length 1).isEmpty))) H) (vn 2) (tC (.str (Str.ofString "0123456789"))))) (zad (tC .non)) zac)
    (Qo (tOp (rI0 λi j=>.int (i+j)) (tOp (rI VM λi j=>.int (i*j)) (vn 1) (tC (.int 10))) (tBM K "str" (λx vs H Q=>∃a b i rest,x = .str a/\vs=[.str b]/\Builtin.Str.occurrences a b 0 a.length 1=i::rest/\Q (.int (i:Nat)) H) (tC (.str (Str.ofString "0123456789"))) (qG (vn 2) Zy))) (zH 1)))) (zad (vn 1))) D [some (.str x),none,none] H:=by
  intro D hD hlast
  refine qS ?_
  dsimp only[tC]
  refine Zt ?_
  refine⟨_,rfl,x,rfl,?_⟩
  refine zas (a:=x) (λi σ G=>G=H/\∃z2,σ=[some (.str x),some (.int ((digitsVal (x.cps.toList.take i):Nat):Int)),z2]/\∀c∈x.cps.toList.take i,48<=c/\c<=57) ⟨rfl,none,rfl,λc m=>by simp at m⟩ ?_ ?_
  ·rintro i c σ G hc ⟨rfl,z2,rfl,hd⟩
   have hi:=(List.getElem?_eq_some_iff.mp hc).1
   dsimp only[zH]
   refine⟨_,rfl,_,_,rfl,rfl,_,rfl,?_⟩
   rw[V3]
   cases hdc:vd c
   ·refine zJ ?_
    show D.rt .non G
    rw[hD]
    refine no ?_
    unfold qe
    have:x.cps.toList.all vd=false:=by
     cases hA:x.cps.toList.all vd
     ·rfl
     ·rw[List.all_eq_true.mp hA c (List.mem_of_getElem? hc)]at hdc;cases hdc
    rw[this,Bool.and_false];rfl
   ·refine zR ?_
    refine zL ?_
    obtain⟨rest,eo⟩:=sidx hdc
    have hv:=zak _ hd
    have hv2:digitsVal (x.cps.toList.take i)<10^300:=Nat.lt_of_lt_of_le hv (Nat.pow_le_pow_right (by decide) (by rw[List.length_take];omega))
    have bv:Bd 1000000 ((digitsVal (x.cps.toList.take i):Nat):Int):=by
     have h3:(10:Nat)^300<2^1000:=by decide
     exact Bd.mono (m:=1000) (show ((digitsVal (x.cps.toList.take i):Nat):Int).natAbs<2^1000 by omega) (by decide)
    refine⟨_,rfl,_,_,rfl,rfl,⟨bv,Bd.mono (m:=5) (show (10:Int).natAbs<2^5 by decide) (by decide)⟩,?_⟩
    refine⟨rfl,_,rfl,_,_,_,_,rfl,rfl,eo,_,_,rfl,rfl,?_⟩
    dsimp only[zH]
    refine⟨rfl,some (.str ⟨#[c]⟩),?_,λd m=>?_⟩
    ·rw[zaf hc]
     show [some (V.str x),some (V.int (((digitsVal (x.cps.toList.take i):Nat):Int)*10+((c - 48:Nat):Int))),_]=_
     rw[Int.natCast_add,Int.natCast_mul];rfl
    ·rw[List.take_add_one,hc]at m
     rcases List.mem_append.mp m with m | m
     ·exact hd d m
     ·cases List.mem_singleton.mp m
      unfold vd at hdc
      simp only[Bool.and_eq_true,decide_eq_true_eq]at hdc
      exact hdc
  ·rintro σ G ⟨rfl,z2,rfl,hd⟩
   rw[List.take_of_length_le (Nat.le_refl _)]at hd ⊢
   refine⟨_,rfl,?_⟩
   show D.rt _ G
   rw[hD]
   have e:rdN x=some ((digitsVal x.cps.toList:Nat):Int):=by
    unfold rdN qe
    rw[hxl,decide_eq_true h1,decide_eq_true c2,List.all_eq_true.mpr λc m=>by unfold vd;rw[decide_eq_true (hd c m).1,decide_eq_true (hd c m).2];rfl,hlast];rfl
   rw[e]at k;exact k
 by_cases c3:c0=48
 ·rw[decide_eq_true c3]
  refine zJ ⟨_,rfl,rfl,_,rfl,?_⟩
  rw[vE]
  by_cases c4:x.cps.toList=[48]
  ·rw[decide_eq_true ((vR x).mpr c4)]
   refine zR ?_
   refine zL ?_
   exact loop _ rfl (by rw[decide_eq_true c4];rfl)
  ·rw[decide_eq_false (λz=>c4 ((vR x).mp z))]
   refine zJ (no ?_)
   unfold qe;rw[decide_eq_false c4,hh,c3];simp
 ·rw[decide_eq_false c3]
  refine zR (zR ?_)
  refine zL ?_
  exact loop _ rfl (by rw[hh,decide_eq_false (λz=>c3 (Option.some.inj z))];simp)
def ORI (H:Hp) (v:V):Option (Int×Int)->Prop
 | none=>v = .non
 | some r=>RI H v r
def dsh (a:Str):Int:=if a.cps.toList.head? = some 45 then 1 else 0
def Qp (a:Str):Option Int:=rdN (TX (a.cps.toList.drop (dsh a).toNat))
theorem zcN (a:Str):rdW a=match Qp a with | none=>none | some n=>if dsh a=1/\n=0 then none else some (if dsh a=1 then -n else n):=by
 unfold rdW Qp dsh
 by_cases h:a.cps.toList.head? = some 45
 ·rw[if_pos h,if_pos h]
  show _=match rdN (TX (a.cps.toList.drop 1))with | none=>none | some n=>_
  cases rdN (TX (a.cps.toList.drop 1))with
  | none=>rfl
  | some n=>by_cases z:n=0 <;> simp[z]
 ·rw[if_neg h,if_neg h]
  show _=match rdN (TX (a.cps.toList.drop 0))with | none=>none | some n=>_
  rw[List.drop_zero,vA]
  cases rdN a with
  | none=>rfl
  | some n=>simp
theorem zdN:Str.ofString "/" = TX [47]:=by decide +kernel
theorem JI {x a:Str}(h:Txt.split x (TX [47])=[a]):rdR x=(rdW a).map λt=>(t,1):=by
 have:a=x:=Xm h
 unfold rdR;rw[h,this]
theorem QP {x a b:Str}(h:Txt.split x (TX [47])=[a,b]):rdR x=(rdW a).bind λt=>(rdN b).bind λu=>if decide (u=1)=false/\xT t u=true then some (t,u)else none:=by
 unfold rdR;rw[h]
 show (match rdW a,rdN b with | some t,some u=>_ | _,_=>none)=_
 cases rdW a with
 | none=>rfl
 | some t=>cases rdN b <;> rfl
theorem zbC {x a b c:Str}{r:List Str}(h:Txt.split x (TX [47])=a::b::c::r):rdR x=none:=by unfold rdR;rw[h]
def zdT:Sp:=λvs H Q _=>∃x,vs=[.str x]/\x.length<=10000/\∀v H',zl H H'->ORI H' v (rdR x)->Q v H'
theorem vk:zr ["text","parts","dash","top","bottom"] ["text"] (zg qp):=⟨rfl,rfl,rfl,by decide +kernel,rfl,by decide +kernel,by decide +kernel⟩
theorem zaw (a:Str):decide (V.str (Txt.slice a none (some 1))=V.str (Str.ofString "-"))=decide (a.cps.toList.head? = some 45):=by
 have:=Qn a 1
 rw[show Txt.slice a none (some 1)=TX (a.cps.toList.take 1)from this,vE,show Str.ofString "-" = TX [45] by decide +kernel]
 cases hl:a.cps.toList with
 | nil=>rfl
 | cons c r =>
  by_cases z:c=45
  ·subst z;rw[decide_eq_true (show TX (List.take 1 (45::r))=TX [45]from rfl),decide_eq_true (show (45::r).head? = some 45 from rfl)]
  ·rw[decide_eq_false (λq=>z (by have:=zaj q;simpa using this)),decide_eq_false (λq=>z (by simpa using q))]
theorem Xb {t n u:Int}(hn:0<=n) (ht:t.natAbs=n.natAbs):(decide (u=1)=false/\xT t u=true)↔¬(u<2)/\Int.gcd n u=1:=by
 unfold xT
 have e:(t.natAbs:Int)=n:=by omega
 rw[e]
 simp only[Bool.and_eq_true,decide_eq_true_eq,decide_eq_false_iff_not]
 constructor
 ·rintro ⟨h1,h2,h3⟩;exact⟨by omega,h3⟩
 ·rintro ⟨h1,h2⟩;exact⟨by omega,by omega,h2⟩
theorem Jo (D:Df K mg "_law_read" qp ["text"] []) (T:TxB K mg) (cVa:Cal P w K mg base "_law_value" 1 ["text"] [] zc2) (cG:Cal P w K mg base "_law_common" 1 ["one","other"] [] XT):Cal P w K mg base "_law_read" 2 ["text"] [] zdT:=by
 refine D.cal (k:=1) vk (λvs H Q E h=>by obtain⟨_,rfl,_⟩:=h;rfl) (λf cdv A outer s H vs Q E hr h=>?_)
 obtain⟨x,rfl,hx,k⟩:=h
 refine⟨_,(zh (zA (i:=1) vk.nd rfl (Or.inl rfl) (vi PySem.F.plainAttrs_str PySem.F.slot_str_split PySem.F.type_str_split je (pv 0) (zd zw ze)))
  (zh (zA (i:=2) vk.nd rfl (Or.inl rfl) (xZ jv (by rfl) T.nInt PyProof.Rows.boot_int (zd (xD qh (qz jC (zq zS (pv 1) zf (λ_ _=>rfl)) qY (qZ zf)) zw (zz _)) ze)))
  (zh (zA (i:=3) vk.nd rfl (Or.inl rfl) (zE cVa hr (zd (qz jC (zq zS (pv 1) zf (λ_ _=>rfl)) (qZ (pv 2)) qY) ze)))
  (zh (zA (i:=4) vk.nd rfl (Or.inl rfl) zf)
  (zh (zW (zy qh (zG zU (by rfl) T.nLen PySem.boot_len (zd (pv 1) ze)) zf (zz _)) (zi (zA (i:=4) vk.nd rfl (Or.inl rfl) (zE cVa hr (zd (zq zS (pv 1) zf (λ_ _=>rfl)) ze)))) zD)
  (zh (zW ((qB (zy jy (pv 3) xm (zz _)) (qB (zy jy (pv 4) xm (zz _)) (qB (zy Zd (zG zU (by rfl) T.nLen PySem.boot_len (zd (pv 1) ze)) zf (zz _)) (qD ((vx (zy qh (pv 2) zf (zz _)) (va (zy qh (pv 3) zf (zz _))))).pt))))).pt (zi (zo xm)) zD)
  (zh (zW ((vx (zy qh (zG zU (by rfl) T.nLen PySem.boot_len (zd (pv 1) ze)) zf (zz _)) (va ((qB (zy vT (pv 4) zf (zz _)) (qD (zy jG (zE cG hr (zd (pv 3) (zd (pv 4) ze))) zf (zz _))))).pt))).pt (zi (zo xm)) zD)
  (zi (zo (vt (zd (zu xU (pv 3) (zq zS (xx (zd zf (zd (qX qg zf) ze))) (pv 2) (λ_ _=>rfl))) (zd (pv 4) ze)))))))))))),?_⟩
 refine⟨_,rfl,rfl,x,_,rfl,rfl,by decide +kernel,vb hx,λl hl=>?_⟩
 dsimp only[zH]
 rw[zdN]
 obtain⟨a,r,es⟩:=vI x (TX [47])
 have sl:zl H (upd H l (.lst ((Txt.split x (TX [47])).map V.str))):=zl.upd hl
 have hG:upd H l (.lst ((Txt.split x (TX [47])).map V.str)) l=some (.lst ((Txt.split x (TX [47])).map V.str)):=zj
 generalize upd H l (.lst ((Txt.split x (TX [47])).map V.str))=G at sl hG
 have la:a.length<=10000:=Nat.le_trans (xt (y:=TX [47]) (by rw[es];simp)) hx
 have za:a.length<=sizeLine:=by have:=vb la;omega
 have at0':atI ((Txt.split x (TX [47])).map V.str) 0=some (.str a):=by rw[es];exact jN (j:=0) rfl
 refine⟨_,rfl,l,_,_,_,rfl,rfl,.of hG,at0',_,rfl,a,rfl,za,rfl,.inr ⟨_,rfl,?_⟩⟩
 rw[zaw]
 have ed:(if decide (a.cps.toList.head? = some 45)=true then(1:Int)else 0)=dsh a:=by
  unfold dsh
  by_cases z:a.cps.toList.head? = some 45
  ·rw[decide_eq_true z,if_pos rfl,if_pos z]
  ·rw[decide_eq_false z,if_neg (by decide),if_neg z]
 rw[ed]
 dsimp only[zH]
 have d01:dsh a=0\/dsh a=1:=by unfold dsh;split;exact .inr rfl;exact .inl rfl
 refine⟨_,rfl,l,_,_,_,rfl,rfl,.of hG,at0',_,rfl,_,rfl,a,rfl,za,?_⟩
 have esl:Txt.slice a (some (dsh a)) none=TX (a.cps.toList.drop (dsh a).toNat):=by
  have:=v5 a (dsh a).toNat
  rw[show (((dsh a).toNat:Nat):Int)=dsh a by omega]at this;exact this
 rw[esl]
 refine⟨_,rfl,by rw[zx,List.length_drop];have:a.cps.toList.length=a.length:=by simp[Str.length]
                 omega,?_⟩
 dsimp only[zH]
 refine qS ?_
 dsimp only[tC]
 have eT:rdN (TX (a.cps.toList.drop (dsh a).toNat))=Qp a:=rfl
 rw[eT]
 have eW:=zcN a
 refine Zu (λσ' G'=>G'=G/\∃o2:Option Int,σ'=[some (.str x),some (.ref l),some (.int (dsh a)),some (oV (Qp a)),some (oV o2)]/\(∀b,r=[b]->o2=rdN b)/\(r.length≠1->o2=some 1)) ?_ ?_
 ·rintro σ' G' ⟨rfl,o2,rfl,ho1,ho2⟩
  have hlen:(((Txt.split x (TX [47])).map V.str).length:Int)=1+(r.length:Int):=by rw[List.length_map,es,List.length_cons];omega
  have fin:rdR x=none->Q .non G':=λe=>k .non G' sl (by rw[e];rfl)
  have wn:Qp a=none->rdR x=none:=λh=>by
   rw[h]at eW
   match r,es with
   | [],es=>rw[JI es,eW];rfl
   | [b],es=>rw[QP es,eW];rfl
   | b::c::r,es=>exact zbC es
  refine Zu (λσ'' G''=>G''=G'/\∃n u:Int,Qp a=some n/\o2=some u/\σ''=[some (.str x),some (.ref l),some (.int (dsh a)),some (.int n),some (.int u)]/\r.length<=1/\¬(dsh a=1/\n=0)) ?_ ?_
  ·rintro σ'' G'' ⟨rfl,n,u,ht,ho,rfl,hr1,hz0⟩
   rw[ht]at eW
   have eW:rdW a=some (if dsh a=1 then -n else n):=eW.trans (if_neg hz0)
   obtain⟨hn0,hnb⟩:=Zj ht
   have out:rdR x=some (if dsh a=1 then -n else n,u)->zad (zed (qG (tOp (rI VM λi j=>.int (i*j)) (vn 3) (tOp (zdH K) (zd8 (qG (tC (.int 1)) (qG (tUn (rU λi=>.int (-i)) (tC (.int 1))) Zy))) (vn 2))) (qG (vn 4) Zy))) { nx:=λ_ H'=>Q .non H',rt:=Q } [some (.str x),some (.ref l),some (.int (dsh a)),some (.int n),some (.int u)] G'':=λe=>by
    refine⟨_,rfl,_,rfl,by show 2<=sizeLine;decide,λl2 hl2=>?_⟩
    have s2:=zl.upd (o:=.lst [.int 1,.int (-1)]) hl2
    have em:∃m:Int,atI [V.int 1,.int (-1)] (dsh a)=some (.int m)/\n*m=(if dsh a=1 then -n else n)/\Bd 1000000 m:=by
     rcases d01 with z | z <;> rw[z]
     ·exact⟨1,rfl,by rw[if_neg (by decide),Int.mul_one],Bd.mono (m:=1) (show (1:Int).natAbs<2^1 by decide) (by decide)⟩
     ·exact⟨-1,rfl,by rw[if_pos rfl,Int.mul_neg,Int.mul_one],Bd.mono (m:=1) (show (-1:Int).natAbs<2^1 by decide) (by decide)⟩
    obtain⟨m,em,en,bm⟩:=em
    refine⟨_,rfl,l2,_,_,_,rfl,rfl,.of zj,em,_,_,rfl,rfl,⟨hnb.mono (by decide),bm⟩,_,rfl,by show 2<=sizeLine;decide,λt ht'=>?_⟩
    refine k _ _ ((sl.trans s2).trans (zl.upd ht')) ?_
    rw[e]
    refine⟨t,rfl,?_⟩
    rw[zj,<-en]
   refine⟨_,rfl,l,_,rfl,.inl (.of hG),rfl,_,rfl,?_⟩
   rw[hlen,xj]
   match r,es,hr1,ho1,ho2 with
   | [],es,_,_,ho2 =>
    have hu1:u=1:=by have:=ho2 (by simp);rw[ho]at this;injection this
    rw[decide_eq_false (by simp)]
    refine zR (zR ?_)
    refine zL ?_
    subst hu1
    exact out (by rw[JI es,eW];rfl)
   | [b],es,_,ho1,_ =>
    have eb:rdN b=some u:=(ho1 b rfl).symm.trans ho
    have hub:=Zj eb
    rw[decide_eq_true (by simp)]
    refine zJ ?_
    have eR:rdR x=if decide (u=1)=false/\xT (if dsh a=1 then -n else n) u=true then some (if dsh a=1 then -n else n,u)else none:=by rw[QP es,eW,eb];rfl
    have hab:(if dsh a=1 then -n else n).natAbs=n.natAbs:=by split <;> omega
    refine⟨_,rfl,_,_,rfl,rfl,_,rfl,?_⟩
    by_cases c2:u<2
    ·rw[decide_eq_true c2]
     refine zJ (zJ (fin ?_))
     rw[eR,if_neg]
     intro z
     exact((Xb hn0 hab).mp z).1 c2
    ·rw[decide_eq_false c2]
     refine zR ⟨_,rfl,_,rfl,n,u,rfl,hn0,hub.1,rfl,_,rfl,?_⟩
     rw[xj]
     by_cases cg:Int.gcd n u=1
     ·rw[decide_eq_true (show ((Int.gcd n u:Nat):Int)=1 by omega)]
      refine zR ?_
      refine zL ?_
      exact out (by rw[eR,if_pos ((Xb hn0 hab).mpr ⟨c2,cg⟩)])
     ·rw[decide_eq_false (show ¬((Int.gcd n u:Nat):Int)=1 by omega)]
      refine zJ (fin ?_)
      rw[eR,if_neg]
      intro z
      exact cg ((Xb hn0 hab).mp z).2
  ·intro nx hnx
   cases ht:Qp a with
   | none=>exact⟨_,rfl,rfl,_,rfl,zJ (zJ (fin (wn ht)))⟩
   | some n =>
    rw[ht]at eW
    refine⟨_,rfl,rfl,_,rfl,zR ?_⟩
    cases ho:o2 with
    | none =>
     have:∃b,r=[b]:=by
      match r,ho2 with
      | [],h=>rw[h (by simp)]at ho;cases ho
      | [b],_=>exact⟨b,rfl⟩
      | b::c::r,h=>rw[h (by simp)]at ho;cases ho
     obtain⟨b,rfl⟩:=this
     have e2:=ho1 b rfl
     refine⟨_,rfl,rfl,_,rfl,zJ (zJ (fin ?_))⟩
     rw[QP es,<-e2,ho]
     cases rdW a <;> rfl
    | some u =>
     refine⟨_,rfl,rfl,_,rfl,zR ?_⟩
     refine⟨_,rfl,l,_,rfl,.inl (.of hG),_,_,rfl,rfl,_,rfl,?_⟩
     rw[hlen]
     by_cases c3:2<=r.length
     ·rw[decide_eq_true (show (2:Int)<1+(r.length:Int) by omega)]
      refine zJ (zJ (fin ?_))
      match r,es,c3 with
      | b::c::r,es,_=>exact zbC es
     rw[decide_eq_false (show ¬(2:Int)<1+(r.length:Int) by omega)]
     refine zR ?_
     have eW:rdW a=if dsh a=1/\n=0 then none else some (if dsh a=1 then -n else n):=eW
     have wz:dsh a=1/\n=0->rdR x=none:=λh=>by
      rw[if_pos h]at eW
      match r,es,c3 with
      | [],es,_=>rw[JI es,eW];rfl
      | [b],es,_=>rw[QP es,eW];rfl
      | b::c::r,_,c3=>simp at c3
     refine⟨_,rfl,rfl,_,rfl,?_⟩
     rw[xj]
     by_cases cd:dsh a=1
     ·rw[decide_eq_true cd]
      refine zJ ⟨_,rfl,rfl,_,rfl,?_⟩
      rw[show oV (some n)=V.int n from rfl,xj]
      by_cases cn:n=0
      ·rw[decide_eq_true cn];exact zJ (fin (wz ⟨cd,cn⟩))
      ·rw[decide_eq_false cn];exact zR (hnx _ _ ⟨rfl,n,u,ht,ho,rfl,by omega,λz=>cn z.2⟩)
     ·rw[decide_eq_false cd]
      exact zR (zR (hnx _ _ ⟨rfl,n,u,ht,ho,rfl,by omega,λz=>cd z.1⟩))
 ·intro nx hnx
  have hlen:(((Txt.split x (TX [47])).map V.str).length:Int)=1+(r.length:Int):=by rw[List.length_map,es,List.length_cons];omega
  refine⟨_,rfl,l,_,rfl,.inl (.of hG),rfl,_,rfl,?_⟩
  rw[hlen,xj]
  by_cases c:r.length=1
  ·obtain⟨b,rfl⟩:=XB c
   rw[decide_eq_true (by simp)]
   have lb:b.length<=10000:=Nat.le_trans (xt (y:=TX [47]) (by rw[es];simp)) hx
   refine zJ ⟨_,rfl,l,_,_,_,rfl,rfl,.of hG,(by rw[es];exact jN (j:=1) rfl),b,rfl,lb,?_⟩
   exact hnx _ _ ⟨rfl,rdN b,rfl,λb' e=>by cases e;rfl,λz=>absurd rfl z⟩
  ·rw[decide_eq_false (show ¬(1+(r.length:Int))=2 by omega)]
   exact zR (hnx _ _ ⟨rfl,some 1,rfl,λb e=>absurd (by rw[e];rfl) c,λ_=>rfl⟩)
end
end KK
end
section
set_option maxHeartbeats 8000000
set_option Elab.async false
set_option linter.all false
set_option maxRecDepth 100000
namespace KK
open PySem L2 KM PySem.NumText
theorem j3 {α:Type}{xs:List α}{d:Int}(h0:0<=d) (h1:d<(xs.length:Int)):∃v,atI xs d=some v/\v∈xs:=by
 have hl:d.toNat<xs.length:=by omega
 refine⟨xs[d.toNat],?_,List.getElem_mem _⟩
 have:=jN (List.getElem?_eq_getElem hl)
 rw[show ((d.toNat:Nat):Int)=d by omega]at this;exact this
def rD (r:Int×Int):PyData:=.tuple [.int r.1,.int r.2]
theorem RI.rd {H:Hp}{v:V}{r:Int×Int}(h:RI H v r):RdD H v (rD r):=by obtain⟨p,rfl,e⟩:=h;exact .tup e (.cons (.int _) (.cons (.int _) .nil))
def oD:Option (Int×Int)->PyData
 | none=>.none
 | some r=>rD r
theorem ORI.rd {H:Hp}{v:V}{o:Option (Int×Int)} (h:ORI H v o):RdD H v (oD o):=by
 cases o with
 | none=>cases(show v = .non from h);exact .non
 | some r=>exact RI.rd h
theorem Jj (o:Option (Int×Int)):(oD o).canLay0=true:=by cases o <;> rfl
theorem QF (o:Option (Int×Int)):PyData.eqv (oD o) .none=o.isNone:=by cases o <;> rfl
theorem ORI.tups {H H':Hp}{v:V}{o:Option (Int×Int)} (h:ORI H v o) (e:xu H H'):ORI H' v o:=by
 cases o with
 | none=>exact h
 | some r=>exact RI.tups h e
section
variable {P:Program}{w:World}{K:PySem.W.Frag}{mg:Str->Option Value}{base:Heap}
def zdP:Sp:=λvs H Q _=>∃x p,vs=[.str x,.ref p]/\x.length<=4000/\vD H p/\∀y H',xS p H H'->y.length<=9000->Q (.str y) H'
theorem Zm:zr ["text","pool","at","sign"] ["text","pool"] (zg ql):=⟨rfl,rfl,rfl,by decide +kernel,rfl,by decide +kernel,by decide +kernel⟩
theorem Jn (D:Df K mg "_law_bent" ql ["text","pool"] []) (T:TxB K mg) (cN:Cal P w K mg base "_law_next" 1 ["pool","base"] [] jD):Cal P w K mg base "_law_bent" 2 ["text","pool"] [] zdP:=by
 refine D.cal (k:=1) Zm (λvs H Q E h=>by obtain⟨_,_,rfl,_⟩:=h;rfl) (λf cdv A outer s H vs Q E hr h=>?_)
 obtain⟨x,p,rfl,hx,hP,k⟩:=h
 have hz:x.length<=sizeLine:=by rw[sizeLine_eq];omega
 refine⟨_,(zh (zA (i:=2) Zm.nd rfl (Or.inl rfl) (zE cN hr (zd (pv 1) (zd (zu qC (zG vp (by rfl) T.nLen PySem.boot_len (zd (pv 0) ze)) zf) ze))))
  (zh (zA (i:=3) Zm.nd rfl (Or.inl rfl) (zq Qa zw (zE cN hr (zd (pv 1) (zd zf ze))) (λ_ _=>rfl)))
  (zi (zo (zu zn (zu zn (qz jC (pv 0) qY (qZ (pv 2))) (zq zS (xx (zd zw (zd (pv 3) (zd (pv 3) ze)))) (zE cN hr (zd (pv 1) (zd zf ze))) (λ_ _=>rfl))) (qz jC (pv 0) (qZ (zu qC (pv 2) (zE cN hr (zd (pv 1) (zd zf ze))))) qY)))))),?_⟩
 refine⟨_,rfl,_,rfl,x,rfl,hz,_,_,rfl,rfl,p,_,rfl,by omega,by omega,hP,λd1 G1 a1 b1 t1=>?_⟩
 dsimp only[zH]
 refine⟨_,rfl,p,_,rfl,by decide,by decide,t1.pool,λd2 G2 a2 b2 t2=>?_⟩
 have e21:(Str.ofString "0123456789-/ ;|+._a\t\n").cps.toList.length=21:=by decide +kernel
 obtain⟨c,ec,_⟩:=j3 (xs:=(Str.ofString "0123456789-/ ;|+._a\t\n").cps.toList) a2 (by rw[e21];exact b2)
 refine⟨_,_,c,rfl,rfl,szl (by decide +kernel),ec,?_⟩
 dsimp only[zH]
 have T2:=t1.trans t2
 refine⟨_,rfl,_,rfl,_,rfl,x,rfl,hz,?_⟩
 have l1:=Txt.slice_le x none (some d1)
 refine⟨_,rfl,_,rfl,by show 3<=sizeLine;decide,λl hl=>?_⟩
 refine⟨_,rfl,p,_,rfl,by decide,by decide,T2.pool.new hl,λd3 G3 a3 b3 t3=>?_⟩
 obtain⟨v,ev,mv⟩:=j3 (xs:=[V.str (Str.ofString ""),.str ⟨#[c]⟩,.str ⟨#[c]⟩]) a3 b3
 obtain⟨g,rfl,hg⟩:∃g:Str,v = .str g/\g.length<=1:=by
  simp only[List.mem_cons,List.not_mem_nil,or_false]at mv
  rcases mv with rfl | rfl | rfl
  ·exact⟨_,rfl,by decide +kernel⟩
  ·exact⟨_,rfl,Nat.le_refl _⟩
  ·exact⟨_,rfl,Nat.le_refl _⟩
 refine⟨l,_,_,_,rfl,rfl,.of (t3.keep l _ zj (T2.pool.ne hl)),ev,_,_,rfl,rfl,by rw[sizeLine_eq];omega,?_⟩
 have T3:xS p H G3:=(T2.same (zl.upd hl)).trans t3
 refine⟨_,rfl,_,rfl,_,rfl,p,_,rfl,by decide,by decide,T3.pool,λd4 G4 a4 b4 t4=>⟨_,_,rfl,rfl,_,rfl,x,rfl,hz,?_⟩⟩
 have l2:=Txt.slice_le x (some (d1+d4)) none
 have e1:(Txt.slice x none (some d1)++g).length=(Txt.slice x none (some d1)).length+g.length:=zk _ _
 refine⟨_,_,rfl,rfl,by rw[e1,sizeLine_eq];omega,k _ G4 (T3.trans t4) ?_⟩
 rw[zk,e1];omega
end
end KK
end
section
set_option maxHeartbeats 4000000
set_option Elab.async false
set_option linter.all false
set_option maxRecDepth 100000
namespace KK
open PySem L2 KM PySem.NumText
section
variable {P:Program}{w:World}{K:PySem.W.Frag}{mg:Str->Option Value}{base:Heap}{C:Addr}{tF tM:Tok}
def BI (H:Hp) (v:V) (b:Bx3):Prop:=∃p x y,v = .ref p/\H p=some (.tup [x,y,.int b.2])/\RI H x b.1.1/\RI H y b.1.2
def zcW (C:Addr):Sp:=λvs H Q E=>∃x,vs=[.str x]/\x.length<=10000/\(∀b,zC x=some b->∀v H',zl H H'->BI H' v b->Q v H')/\(zC x=none->∀H',zl H H'->E (.ref C) none H')
theorem jV:zr ["text","place","speed","weight"] ["text"] (zg qb):=⟨rfl,rfl,rfl,by decide +kernel,rfl,by decide +kernel,by decide +kernel⟩
theorem zaR (D:Df K mg "read_ball" qb ["text"] []) (TF:TxF mg tF tM) (cPs:qU P w K mg base "parts_of" 1 ["thing","sign","many"] [] (zbp C)) (cRn:qU P w K mg base "read_number" 1 ["text","most"] [] (zbq C)) (cRr:qU P w K mg base "read_ratio" 3 ["thing"] [] (zdX C)):qU P w K mg base "read_ball" 4 ["text"] [] (zcW C):=by
 refine D.cal1 (k:=3) jV (λvs H Q E h=>by obtain⟨_,rfl,_⟩:=h;rfl) (λf cdv A outer s H vs Q E hr3 h=>?_)
 obtain⟨x,rfl,hx,k,kE⟩:=h
 have hr1:xa 1 _:=hr3.mono (by decide)
 refine⟨_,(zh (vH (qV cPs hr1 xl (zd (pv 0) (zd zw (zd zf ze)))) (za3 rfl (z9 (zT (i:=1) jV.nd rfl (Or.inl rfl)) (z9 (zT (i:=2) jV.nd rfl (Or.inl rfl)) (z9 (zT (i:=3) jV.nd rfl (Or.inl rfl)) vv)))))
  (zi (zo (vt (zd (qV cRr hr3 xl (zd (pv 1) ze)) (zd (qV cRr hr3 xl (zd (pv 2) ze)) (zd (qV cRn hr1 xl (zd (pv 3) (zd (qW (v:=.int 300) (by rfl) TF.mM ⟨_,rfl⟩) ze))) ze))))))),?_⟩
 have e32:Str.ofString " " = TX [32]:=by decide +kernel
 refine⟨_,rfl,x,_,some 3,rfl,by decide +kernel,hx,λh2 l H1 hl s1 h1=>?_,λh2 H1 s1=>⟨C,rfl,kE ?_ H1 s1⟩⟩
 ·rw[e32]at h1 h2
  obtain⟨a,b,c,eab⟩:∃a b c,Txt.split x (TX [32])=[a,b,c]:=by
   have:(Txt.split x (TX [32])).length=3:=of_decide_eq_true h2
   match Txt.split x (TX [32]),this with
   | [a,b,c],_=>exact⟨a,b,c,rfl⟩
  have la:a.length<=10000:=Nat.le_trans (xt (y:=TX [32]) (by rw[eab];simp)) hx
  have lb:b.length<=10000:=Nat.le_trans (xt (y:=TX [32]) (by rw[eab];simp)) hx
  have lc:c.length<=10000:=Nat.le_trans (xt (y:=TX [32]) (by rw[eab];simp)) hx
  have eB:zC x=(rdR a).bind λp=>(rdR b).bind λq=>(rdN c).map λn=>((p,q),n):=by unfold zC;rw[eab]
  rw[eab]at h1
  refine⟨l,_,rfl,.of h1,rfl,_,_,rfl,_,_,rfl,_,_,rfl,rfl,?_⟩
  dsimp only
  refine⟨_,rfl,a,rfl,la,λp ep v1 H2 s2 r1=>?_,λe H2 s2=>⟨C,rfl,kE (by rw[eB,e];rfl) H2 (s1.trans s2)⟩⟩
  refine⟨_,rfl,b,rfl,lb,λq eq v2 H3 s3 r2=>?_,λe H3 s3=>⟨C,rfl,kE (by rw[eB,ep,e];rfl) H3 ((s1.trans s2).trans s3)⟩⟩
  refine⟨_,rfl,c,rfl,lc,λn en H4 s4=>?_,λe H4 s4=>⟨C,rfl,kE (by rw[eB,ep,eq,e];rfl) H4 (((s1.trans s2).trans s3).trans s4)⟩⟩
  refine⟨by show 3<=sizeLine;decide,λt ht=>k ((p,q),n) (by rw[eB,ep,eq,en];rfl) _ _ ((((s1.trans s2).trans s3).trans s4).trans (zl.upd ht)) ⟨t,v1,v2,rfl,zj,r1.tups (((xu.of s3).trans (.of s4)).trans (.of (zl.upd ht))),r2.tups ((xu.of s4).trans (.of (zl.upd ht)))⟩⟩
 ·rw[e32]at h2
  exact v3 (of_decide_eq_false h2)
theorem QU:zr ["thing","row"] ["thing"] (zg qu):=⟨rfl,rfl,rfl,by decide +kernel,rfl,by decide +kernel,by decide +kernel⟩
end
end KK
end
section
set_option maxHeartbeats 4000000
set_option Elab.async false
set_option linter.all false
set_option maxRecDepth 100000
namespace KK
open PySem L2 KM PySem.NumText
theorem BI.tups {H H':Hp}{v:V}{b:Bx3}(h:BI H v b) (e:xu H H'):BI H' v b:=let ⟨p,x,y,a,hp,hx,hy⟩:=h;⟨p,x,y,a,e _ _ hp,hx.tups e,hy.tups e⟩
def BsI (H:Hp) (us:List V) (bs:List Bx3):Prop:=us.length=bs.length/\∀(i:Nat) (v:V) (b:Bx3),us[i]? = some v->bs[i]? = some b->BI H v b
theorem BsI.tups {H H':Hp}{us:List V}{bs:List Bx3}(h:BsI H us bs) (e:xu H H'):BsI H' us bs:=⟨h.1,λi v b p q=>(h.2 i v b p q).tups e⟩
theorem BsI.get {H:Hp}{us:List V}{bs:List Bx3}(h:BsI H us bs){i:Nat}{v:V}(e:us[i]? = some v):∃b,bs[i]? = some b/\BI H v b:=by
 have hi:=(List.getElem?_eq_some_iff.mp e).1
 have hj:i<bs.length:=by rw[<-h.1];exact hi
 exact⟨bs[i],List.getElem?_eq_getElem hj,h.2 i v _ e (List.getElem?_eq_getElem hj)⟩
def RwI (H:Hp) (a:Addr) (bs:List Bx3):Prop:=∃us,H a=some (.tup us)/\BsI H us bs
theorem RwI.tups {H H':Hp}{a:Addr}{bs:List Bx3}(h:RwI H a bs) (e:xu H H'):RwI H' a bs:=let ⟨us,ha,hb⟩:=h;⟨us,e _ _ ha,hb.tups e⟩
def Bz (b:Bx3):Prop:=Rz b.1.1/\Rz b.1.2/\0<=b.2/\b.2.natAbs<10^60
theorem ZH:∀ts:List (List Nat),Txt.join (TX [59,32]) (ts.map TX)=TX (zN ts):=by
 intro ts
 show Builtin.Str.glued (TX [59,32]) (ts.map TX)=_
 rw[StrLaws.glued_eq_join]
 induction ts with
 | nil=>rfl
 | cons a r ih =>
  cases r with
  | nil=>rfl
  | cons b r =>
   have e:Str.join (TX [59,32]) ((a::b::r).map TX)=TX a++TX [59,32]++Str.join (TX [59,32]) ((b::r).map TX):=rfl
   rw[e,ih,zF,zF,List.append_assoc];rfl
theorem zcp {n:Int}(h:0<=n):ntL n=fig n.natAbs:=by unfold ntL;rw[if_neg (by omega)]
theorem QZ {n:Int}(h:0<=n):Str.ofString (toString n)=TX (ntL n):=by
 rw[zcp h,<-str_int]
 have:((n.natAbs:Nat):Int)=n:=by omega
 rw[this]
theorem Z5 {b:Bx3}(h:Bz b):(btL b).length<=400:=by
 have h1:=qF h.1
 have h2:=qF h.2.1
 have h3:=vY h.2.2.2
 unfold btL
 simp;omega
section
variable {P:Program}{w:World}{K:PySem.W.Frag}{mg:Str->Option Value}{base:Heap}{C:Addr}{tF tM:Tok}
def zcX:Sp:=λvs H Q _=>∃v b,vs=[v]/\BI H v b/\Bz b/\∀H',zl H H'->Q (.str (TX (btL b))) H'
theorem Xk:zr ["ball","place","speed","weight"] ["ball"] (zg x0):=⟨rfl,rfl,rfl,by decide +kernel,rfl,by decide +kernel,by decide +kernel⟩
theorem zcs (D:Df K mg "ball_text" x0 ["ball"] []) (cRt:Cal P w K mg base "ratio_text" 3 ["one"] [] zdY):Cal P w K mg base "ball_text" 4 ["ball"] [] zcX:=by
 refine D.cal (k:=3) Xk (λvs H Q E h=>by obtain⟨_,_,rfl,_⟩:=h;rfl) (λf cdv A outer s H vs Q E hr h=>?_)
 obtain⟨v,b,rfl,⟨p,x,y,rfl,hp,hx,hy⟩,hz,k⟩:=h
 refine⟨_,(zh (vH (pv 0) (jz rfl (z9 (zT (i:=1) Xk.nd rfl (Or.inl rfl)) (z9 (zT (i:=2) Xk.nd rfl (Or.inl rfl)) (z9 (zT (i:=3) Xk.nd rfl (Or.inl rfl)) vv)))))
  (zi (zo (zdE (zE cRt hr (zd (pv 1) ze)) (zE cRt hr (zd (pv 2) ze)) (pv 3) (by decide) (by decide))))),?_⟩
 refine⟨_,rfl,p,_,rfl,.of hp,rfl,_,_,rfl,_,_,rfl,_,_,rfl,rfl,?_⟩
 dsimp only
 have l1:=qF hz.1
 have l2:=qF hz.2.1
 have l3:=vY hz.2.2.2
 refine⟨_,rfl,x,b.1.1,rfl,hx,hz.1,λH1 s1=>?_⟩
 refine⟨_,rfl,by rw[zx];omega,_,rfl,y,b.1.2,rfl,hy.tups (.of s1),hz.2.1,λH2 s2=>?_⟩
 refine⟨_,rfl,by rw[zx];omega,_,rfl,b.2,rfl,?_,?_,?_⟩
 ·have:=ZK hz.2.2.2
  rwa [show ((b.2.natAbs:Nat):Int).natAbs=b.2.natAbs by omega]at this
 ·rw[QZ hz.2.2.1,zx];omega
 have e:TX (rtL b.1.1)++Str.ofString " "++TX (rtL b.1.2)++Str.ofString " "++Str.ofString (toString b.2)=TX (btL b):=by
  rw[show Str.ofString " " = TX [32] by decide +kernel,QZ hz.2.2.1,zF,zF,zF,zF];unfold btL;simp
 have:=k H2 (s1.trans s2)
 rw[<-e]at this;exact this
def zbK:Sp:=λvs H Q _=>∃a bs,vs=[.ref a]/\RwI H a bs/\bs.length<=8/\(∀b∈bs,Bz b)/\∀H',zl H H'->Q (.str (TX (rwL bs))) H'
theorem zcV:zr ["row"] ["row"] (zg qv):=⟨rfl,rfl,rfl,by decide +kernel,rfl,by decide +kernel,by decide +kernel⟩
theorem zcF (D:Df K mg "row_text" qv ["row"] []) (cBt:Cal P w K mg base "ball_text" 4 ["ball"] [] zcX):Cal P w K mg base "row_text" 5 ["row"] [] zbK:=by
 refine D.cal (k:=4) zcV (λvs H Q E h=>by obtain⟨_,_,rfl,_⟩:=h;rfl) (λf cdv A outer s H vs Q E hr h=>?_)
 obtain⟨a,bs,rfl,⟨us,ha,hu⟩,hl,hz,k⟩:=h
 refine⟨_,(zi (zo (vi PySem.F.plainAttrs_str PySem.F.slot_str_join PySem.F.type_str_join Xe zw (zd (jf (NB:=["ball"]) rfl (by decide +kernel) (by decide +kernel) rfl (by decide +kernel) (Qh (pv 0)) (by intro _ _ _;refine⟨?_,?_,?_⟩;(exact(zT (i:=0) (show List.Nodup (["ball"]:List Str) by decide +kernel) rfl (Or.inl rfl)));(exact vw);(exact(zE cBt hr (zd (pv 0) ze))))) ze)))),?_⟩
 refine⟨rfl,_,rfl,a,rfl,⟨_,SqT.of ha⟩,λDc hDc=>?_⟩
 refine vL (J:=Itt K a) (g:=zH 0) (te:=ZY zcX [] E0 (qG (vn 0) Zy)) (n:=1) (xs:=us) (λi v' G=>∃b,bs[i]? = some b/\v' = .str (TX (btL b))) (λi v G G' e h=>h) hDc (XN ha) (xQ (by rw[hu.1];omega)) ?_ ?_
 ·intro i z zs G Q' hz' hzs S hQ
  obtain⟨y1,rfl⟩:=XB hzs
  obtain⟨b,eb,hb⟩:=hu.get hz'
  exact⟨_,rfl,z,b,rfl,hb.tups (.of S),hz b (List.mem_of_getElem? eb),λG2 s2=>hQ _ _ s2 ⟨b,eb,rfl⟩⟩
 ·intro ys G S hD hyl hR
  have ey:ys=((bs.map btL).map TX).map V.str:=by
   apply List.ext_getElem?
   intro i
   rw[List.getElem?_map,List.getElem?_map,List.getElem?_map]
   by_cases hi:i<ys.length
   ·obtain⟨b,eb,ev⟩:=hR i _ (List.getElem?_eq_getElem hi)
    rw[eb,List.getElem?_eq_getElem hi,ev];rfl
   ·rw[List.getElem?_eq_none (by omega),List.getElem?_eq_none (by rw[<-hu.1];omega)];rfl
  subst ey
  refine⟨_,Dc,(bs.map btL).map TX,rfl,rfl,.of hD,?_,?_⟩
  ·exact zay (by decide +kernel) (by simp;omega) λt m=>by
    obtain⟨l,ml,rfl⟩:=List.mem_map.mp m
    obtain⟨b,mb,rfl⟩:=List.mem_map.mp ml
    have:=Z5 (hz b mb)
    rw[zx];omega
  ·have e:Txt.join (Str.ofString "; ") ((bs.map btL).map TX)=TX (rwL bs):=by
    rw[show Str.ofString "; " = TX [59,32] by decide +kernel,ZH];rfl
   have:=k G S
   rw[<-e]at this;exact this
end
end KK
end
section
set_option maxHeartbeats 4000000
set_option Elab.async false
set_option linter.all false
set_option maxRecDepth 100000
namespace KK
open PySem L2 KM PySem.NumText
structure Tx3 (K:PySem.W.Frag) (mg:Str->Option Value) (tb tw:Tok) (aO:Addr):Prop where
 nZip:mg "zip" = none
 mb:mg "MOST_BALLS" = some (.int 8 tb)
 mw:mg "MOST_WEIGHT" = some (.int 1000 tw)
 mo:mg "OPEN" = some (.ref aO)
 ko:∀H,SqT K H aO [.non,.non]
structure BOk (b:Bx3):Prop where
 p:xT b.1.1.1 b.1.1.2=true
 s:xT b.1.2.1 b.1.2.2=true
 mp:Rm b.1.1
 ms:Rm b.1.2
theorem Qj (r s:Int×Int):PyData.eqv (rD r) (rD s)=decide (r=s):=by
 obtain⟨a,b⟩:=r
 obtain⟨c,d⟩:=s
 simp[rD,PyData.eqv,PyData.eqvAll]
 rfl
theorem vP (r:Int×Int):SeqAt.shaped (rD r)=true:=rfl
section
variable {P:Program}{w:World}{K:PySem.W.Frag}{mg:Str->Option Value}{base:Heap}{tb tw:Tok}{aO:Addr}
def zdQ:Sp:=λvs H Q _=>∃v b,vs=[v]/\BI H v b/\BOk b/\Q (.bl true) H
theorem JT:zr ["thing"] ["thing"] (zg xo):=⟨rfl,rfl,rfl,by decide +kernel,rfl,by decide +kernel,by decide +kernel⟩
theorem zdu (D:Df K mg "is_ball_form" xo ["thing"] []) (cTu:Cal P w K mg base "is_tuple" 1 ["thing","many"] [] zbr) (cIr:Cal P w K mg base "is_ratio" 2 ["thing"] [] zbn) (cW:Cal P w K mg base "is_whole" 1 ["thing"] [] jW):Cal P w K mg base "is_ball_form" 3 ["thing"] [] zdQ:=by
 refine D.cal (k:=2) JT (λvs H Q E h=>by obtain⟨_,_,rfl,_⟩:=h;rfl) (λf cdv A outer s H vs Q E hr2 h=>?_)
 obtain⟨v,b,rfl,⟨p,x,y,rfl,hp,hx,hy⟩,ho,k⟩:=h
 have hr1:xa 1 _:=hr2.mono (by decide)
 refine⟨_,(zi (zo (qi (zE cTu hr1 (zd (pv 0) (zd zf ze))) (qi (zE cIr hr2 (zd (zq zv (pv 0) zf (λ_ _=>rfl)) ze)) (qi (zE cIr hr2 (zd (zq zv (pv 0) zf (λ_ _=>rfl)) ze)) (qR (zE cW hr1 (zd (zq zv (pv 0) zf (λ_ _=>rfl)) ze)))))))),?_⟩
 refine⟨_,rfl,p,_,_,rfl,hp,true,rfl,zJ ?_⟩
 refine⟨_,rfl,p,_,_,_,rfl,rfl,.of hp,rfl,x,b.1.1,rfl,hx,true,by rw[ho.p],zJ ?_⟩
 refine⟨_,rfl,p,_,_,_,rfl,rfl,.of hp,rfl,y,b.1.2,rfl,hy,true,by rw[ho.s],zJ ?_⟩
 exact⟨_,rfl,p,_,_,_,rfl,rfl,.of hp,rfl,b.2,rfl,k⟩
def zbF:Sp:=λvs H Q _=>∃n,vs=[.int n]/\Q (.bl (decide (1<=n)&&decide (n<=1000))) H
theorem zcS:zr ["thing"] ["thing"] (zg x5):=⟨rfl,rfl,rfl,by decide +kernel,rfl,by decide +kernel,by decide +kernel⟩
theorem zcw (D:Df K mg "is_weight" x5 ["thing"] []) (T3:Tx3 K mg tb tw aO) (cW:Cal P w K mg base "is_whole" 1 ["thing"] [] jW):Cal P w K mg base "is_weight" 2 ["thing"] [] zbF:=by
 refine D.cal (k:=1) zcS (λvs H Q E h=>by obtain⟨_,rfl,_⟩:=h;rfl) (λf cdv A outer s H vs Q E hr h=>?_)
 obtain⟨n,rfl,k⟩:=h
 refine⟨_,(zi (zo (qi (zE cW hr (zd (pv 0) ze)) (qR (Ju ZO ZO zf (pv 0) (qW (v:=.int 1000) (by rfl) T3.mw ⟨_,rfl⟩)))))),?_⟩
 refine⟨_,rfl,n,rfl,true,rfl,zJ ⟨_,rfl,_,_,rfl,rfl,_,rfl,?_⟩⟩
 cases h1n:decide (1<=n)with
 | false=>rw[h1n,Bool.false_and]at k;exact zR k
 | true=>rw[h1n,Bool.true_and]at k;exact zJ ⟨_,_,rfl,rfl,k⟩
def zcY:Sp:=λvs H Q _=>∃v b,vs=[v]/\BI H v b/\BOk b/\Q (.bl (wB b)) H
theorem za9:zr ["thing"] ["thing"] (zg qK):=⟨rfl,rfl,rfl,by decide +kernel,rfl,by decide +kernel,by decide +kernel⟩
theorem zdw (D:Df K mg "is_ball" qK ["thing"] []) (cBf:Cal P w K mg base "is_ball_form" 3 ["thing"] [] zdQ) (cIw:Cal P w K mg base "is_weight" 2 ["thing"] [] zbF):Cal P w K mg base "is_ball" 4 ["thing"] [] zcY:=by
 refine D.cal (k:=3) za9 (λvs H Q E h=>by obtain⟨_,_,rfl,_⟩:=h;rfl) (λf cdv A outer s H vs Q E hr h=>?_)
 obtain⟨v,b,rfl,hb,ho,k⟩:=h
 have hr2:xa 2 _:=hr.mono (by decide)
 refine⟨_,(zi (zo (qi (zE cBf hr (zd (pv 0) ze)) (qR (zE cIw hr2 (zd (zq zv (pv 0) zf (λ_ _=>rfl)) ze)))))),?_⟩
 refine⟨_,rfl,v,b,rfl,hb,ho,true,rfl,zJ ?_⟩
 obtain⟨p,x,y,rfl,hp,hx,hy⟩:=hb
 exact⟨_,rfl,p,_,_,_,rfl,rfl,.of hp,rfl,b.2,rfl,k⟩
def zbm:Sp:=λvs H Q _=>∃v u b c,vs=[v,u]/\BI H v b/\BI H u c/\BOk b/\BOk c/\Q (.bl (flB b c)) H
theorem zcR:zr ["left","right"] ["left","right"] (zg qJ):=⟨rfl,rfl,rfl,by decide +kernel,rfl,by decide +kernel,by decide +kernel⟩
theorem zdv (D:Df K mg "follows" qJ ["left","right"] []) (cLs:Cal P w K mg base "less" 1 ["one","other"] [] zc0):Cal P w K mg base "follows" 2 ["left","right"] [] zbm:=by
 refine D.cal (k:=1) zcR (λvs H Q E h=>by obtain⟨_,_,_,_,rfl,_⟩:=h;rfl) (λf cdv A outer s H vs Q E hr h=>?_)
 obtain⟨v,u,b,c,rfl,⟨p,x,y,rfl,hp,hx,hy⟩,⟨q,x',y',rfl,hq,hx',hy'⟩,ob,oc,k⟩:=h
 have hu:=hr.units
 refine⟨_,(zh (zW (zy (Js hu) (zq zv (pv 0) zf (λ_ _=>rfl)) (zq zv (pv 1) zf (λ_ _=>rfl)) (zz _)) (zi (zo (zE cLs hr (zd (zq zv (pv 0) zf (λ_ _=>rfl)) (zd (zq zv (pv 1) zf (λ_ _=>rfl)) ze))))) zD)
  (zi (zo (zE cLs hr (zd (zq zv (pv 0) zf (λ_ _=>rfl)) (zd (zq zv (pv 1) zf (λ_ _=>rfl)) ze)))))),?_⟩
 refine⟨_,rfl,p,_,_,_,rfl,rfl,.of hp,rfl,_,rfl,q,_,_,_,rfl,rfl,.of hq,rfl,_,_,hx.rd,hx'.rd,vP _,vP _,?_⟩
 rw[Qj]
 refine⟨_,rfl,jb (λh=>?_) (λh=>?_)⟩
 ·have e:b.1.1=c.1.1:=of_decide_eq_true h
  refine⟨_,rfl,p,_,_,_,rfl,rfl,.of hp,rfl,_,rfl,q,_,_,_,rfl,rfl,.of hq,rfl,y,y',b.1.2,c.1.2,rfl,hy,hy',ob.ms,oc.ms,?_⟩
  unfold flB at k;rw[if_pos e]at k;exact k
 ·have e:¬b.1.1=c.1.1:=λz=>h (decide_eq_true z)
  refine zL ?_
  refine⟨_,rfl,p,_,_,_,rfl,rfl,.of hp,rfl,_,rfl,q,_,_,_,rfl,rfl,.of hq,rfl,x,x',b.1.1,c.1.1,rfl,hx,hx',ob.mp,oc.mp,?_⟩
  unfold flB at k;rw[if_neg e]at k;exact k
end
end KK
end
section
set_option maxHeartbeats 4000000
set_option Elab.async false
set_option linter.all false
set_option maxRecDepth 100000
namespace KK
open PySem L2 KM PySem.NumText
theorem Q4 {α:Type}{l:List α}{i:Nat}{x:α}(h:l[i]? = some x):l.take (i+1)=l.take i++[x]:=by rw[List.take_add_one,h];rfl
theorem ln2 {σ:St}(h:σ.length=2):∃a b,σ=[a,b]:=by
 match σ,h with
 | [a,b],_=>exact⟨a,b,rfl⟩
theorem zdL {n:Nat}(h:1<=n):HT.sIx n 0 (some 1)=1:=by
 show HT.sIx n 0 (some ((1:Nat):Int))=1
 rw[HT.sIx_nat];omega
theorem cut1 {us:List V}(h:us≠[]):j7 us (some 1) none=us.drop 1:=by
 have hl:1<=us.length:=by cases us with | nil=>exact absurd rfl h | cons=>simp
 unfold j7
 rw[zdL hl,HT.sIx_none]
 rw[List.take_of_length_le (by rw[List.length_drop];omega)]
def flP (z:Bx3×Bx3):Bool:=flB z.1 z.2
theorem all_map {α:Type}(f:α->Bool) (l:List α):(l.map f).all id=l.all f:=by rw[List.all_map];rfl
theorem QK:∀bs:List Bx3,(bs.zip bs.tail).all flP=qQ bs
 | []=>rfl
 | [_]=>rfl
 | b::c::r=>by
  have:=QK (c::r)
  show (flB b c&&((c::r).zip r).all flP)=(flB b c&&qQ (c::r))
  rw[<-this];rfl
section
variable {P:Program}{w:World}{K:PySem.W.Frag}{mg:Str->Option Value}{base:Heap}{tb tw:Tok}{aO:Addr}
theorem VV {σ:St}{H:Hp}{Q:VK}{r:Addr}{us:List V}{bs:List Bx3}(hσ:σ[0]? = some (some (.ref r))) (hr:H r=some (.tup us)) (hB:BsI H us bs) (hne:bs≠[]) (hlen:bs.length<=8) (hz:∀b∈bs,BOk b)
  (k:∀D H',zl H H'->H' D=some (.lst (((bs.zip bs.tail).map flP).map V.bl))->Q (.ref D) H') :
  zbM 2 (zdn K (qG (vn 0) (qG (tSl (zdJ K) (vn 0) (zbN (tC (.int 1))) Q3) Zy))) (zau K 2 (Xy (zH 0) (Xy (zH 1) zcb))) (λ_ H Q=>Q true H) (ZY zbm [] E0 (qG (vn 0) (qG (vn 1) Zy))) σ H Q:=by
 have hl:=hB.1
 have hus:us≠[]:=by rintro rfl;simp at hl;exact hne (List.length_eq_zero_iff.mp hl.symm)
 have hl1:1<=us.length:=by cases us with | nil=>exact absurd rfl hus | cons=>simp
 refine⟨_,hσ,_,hσ,_,rfl,r,us,rfl,.of hr,?_,λl hl'=>?_⟩
 ·intro z
  have z1:HT.sIx us.length 0 (some 1)=0:=z.1
  rw[zdL hl1]at z1
  cases z1
 rw[cut1 hus]
 have hr1:=zl.upd (o:=.tup (us.drop 1)) hl' _ _ hr
 refine⟨r,l,rfl,⟨_,.of hr1⟩,⟨_,.of zj⟩,λD hD=>?_⟩
 generalize hH1:upd H l (.tup (us.drop 1))=H1 at hr1 hD
 have e1:zl H H1:=by rw[<-hH1];exact zl.upd hl'
 have hl1':H1 l=some (.tup (us.drop 1)):=by rw[<-hH1];exact zj
 have hB1:=hB.tups (xu.of e1)
 have hN:(bs.zip bs.tail).length=us.length - 1:=by rw[List.length_zip,List.length_tail,hl];omega
 refine Z8 (J:=Itz K r l) (g:=zau K 2 (Xy (zH 0) (Xy (zH 1) zcb))) (tt:=λ_ H Q=>Q true H) (te:=ZY zbm [] E0 (qG (vn 0) (qG (vn 1) Zy))) (Q:=Q) (N:=us.length - 1) (n:=2) (λi H2 ys=>zl H1 H2/\ys=(((bs.zip bs.tail).map flP).map V.bl).take i) ⟨zl.upd hD,rfl⟩ (λi H2 ys hi ⟨s2,_⟩=>?_) (λH2 ys ⟨s2,_⟩=>?_) ?_ ?_
 ·exact⟨us,us.drop 1,us[i]'(by omega),us[i+1]'(by omega),.of (s2 _ _ hr1),.of (s2 _ _ hl1'),List.getElem?_eq_getElem _,by rw[List.getElem?_drop,Nat.add_comm 1 i];exact List.getElem?_eq_getElem _⟩
 ·exact⟨us,us.drop 1,.of (s2 _ _ hr1),.of (s2 _ _ hl1'),.inr (by rw[List.length_drop];exact Nat.le_refl _)⟩
 ·rintro i x zs H2 H3 ys Nx hNx hi hzs ⟨T,x1,y1,rfl,hT,rfl,f1,f2⟩ ⟨s2,rfl⟩ hD2
  obtain⟨z1,z2,rfl⟩:=ln2 hzs
  have g1:=f1 us (.of (s2 _ _ hr1))
  have g2:=f2 (us.drop 1) (.of (s2 _ _ hl1'))
  rw[List.getElem?_drop,Nat.add_comm 1 i]at g2
  obtain⟨b,eb,hb⟩:=hB1.get g1
  obtain⟨c,ec,hc⟩:=hB1.get g2
  have s3:zl H1 (upd H2 T (.tup [x1,y1])):=s2.trans (zl.upd hT)
  refine⟨T,_,rfl,.of zj,rfl,_,_,rfl,_,_,rfl,rfl,zJ ?_⟩
  have mb:=List.mem_of_getElem? eb
  have mc:=List.mem_of_getElem? ec
  refine⟨_,rfl,_,rfl,_,_,b,c,rfl,hb.tups (.of s3),hc.tups (.of s3),hz b mb,hz c mc,?_⟩
  refine⟨by rw[zM (zK hD2 hT)];exact hD2,?_,hNx _ _ ⟨za8 hD s2 (zl.upd hT),?_⟩⟩
  ·rw[List.length_take];exact xQ (by omega)
  ·have ez:(bs.zip bs.tail)[i]? = some (b,c):=by
    have:bs.tail[i]? = some c:=by rw[List.getElem?_tail];exact ec
    rw[List.getElem?_zip_eq_some];exact⟨eb,this⟩
   rw[Q4 (x:=V.bl (flP (b,c))) (by rw[List.getElem?_map,List.getElem?_map,ez];rfl)];rfl
 ·rintro H2 ys ⟨s2,rfl⟩ hD2
  rw[List.take_of_length_le (by rw[List.length_map,List.length_map,hN];exact Nat.le_refl _)]at hD2
  exact k D H2 (e1.trans s2) hD2
def zdV:Sp:=λvs H Q _=>∃r bs,vs=[.ref r]/\RwI H r bs/\bs≠[]/\bs.length<=8/\(∀b∈bs,BOk b)/\∀H',zl H H'->Q (.bl (qQ bs)) H'
theorem zcU:zr ["row"] ["row"] (zg xI):=⟨rfl,rfl,rfl,by decide +kernel,rfl,by decide +kernel,by decide +kernel⟩
theorem zdz (D:Df K mg "is_ordered" xI ["row"] []) (TS:TxS K mg) (T3:Tx3 K mg tb tw aO) (cFo:Cal P w K mg base "follows" 2 ["left","right"] [] zbm):Cal P w K mg base "is_ordered" 3 ["row"] [] zdV:=by
 refine D.cal (k:=2) zcU (λvs H Q E h=>by obtain⟨_,_,rfl,_⟩:=h;rfl) (λf cdv A outer s H vs Q E hr h=>?_)
 obtain⟨r,bs,rfl,⟨us,hrr,hB⟩,hne,hlen,hz,k⟩:=h
 refine⟨_,(zi (zo (zG (j5 rfl) (by rfl) TS.nAll (by decide +kernel) (zd (jf (NB:=["left","right"]) rfl (by decide +kernel) (by decide +kernel) rfl (by decide +kernel) (zcL (by rfl) T3.nZip (zd (pv 0) (zd (qz J2 (pv 0) (qZ zf) qY) ze))) (by intro _ _ _;refine⟨?_,?_,?_⟩;(exact(za2 (K:=K) (n:=2) rfl rfl (z9 (zT (i:=0) (show List.Nodup (["left","right"]:List Str) by decide +kernel) rfl (Or.inl rfl)) (z9 (zT (i:=1) (show List.Nodup (["left","right"]:List Str) by decide +kernel) rfl (Or.inl rfl)) vv))));(exact vw);(exact(zE cFo hr (zd (pv 0) (zd (pv 1) ze)))))) ze)))),?_⟩
 unfold zad tCB qG
 refine VV (K:=K) rfl hrr hB hne hlen hz λD H' e hD=>⟨D,_,rfl,SqL.of hD,?_⟩
 rw[all_map,QK];exact k H' e
def zbL (K:PySem.W.Frag):Sp:=λvs H Q _=>∃(a:Addr) (xs:List V) (n:Int),vs=[.ref a,.int n]/\SqT K H a xs/\Q (.bl (decide ((xs.length:Int)=n))) H
theorem Vu (D:Df K mg "is_tuple" xY ["thing","many"] []) (T:TxB K mg) (TS:TxS K mg):Cal P w K mg base "is_tuple" 1 ["thing","many"] [] (zbL K):=by
 refine D.cal (k:=0) XO (λvs H Q E h=>by obtain⟨_,_,_,rfl,_⟩:=h;rfl) (λf cdv A outer s H vs Q E hr h=>?_)
 obtain⟨a,xs,n,rfl,ha,k⟩:=h
 refine⟨_,(zi (zo (qi (zG VS (by rfl) T.nIs PyProof.Rows.boot_isinstance (zd (pv 0) (zd (vN (v:=.ty "tuple") (u:=.type "tuple") (by rfl) T.nTuple PyProof.Rows.boot_tuple rfl) ze))) (qR (xD qh (zG zU (by rfl) T.nLen PySem.boot_len (zd (pv 0) ze)) (pv 1) (zz _)))))),?_⟩
 refine⟨_,rfl,a,xs,_,true,rfl,ha,TS.tt,true,rfl,zJ ?_⟩
 refine⟨_,rfl,a,xs,rfl,.inr ha,_,rfl,?_⟩
 rw[<-xj]at k
 exact⟨rfl,k⟩
def zbo (aO:Addr):Sp:=λvs H Q _=>vs=[.ref aO]/\Q (.bl true) H
theorem Jl (D:Df K mg "is_wall_pair" xp ["thing"] []) (T3:Tx3 K mg tb tw aO) (cTu:Cal P w K mg base "is_tuple" 1 ["thing","many"] [] (zbL K)) (cWa:Cal P w K mg base "is_wall" 3 ["thing"] [] zdS):Cal P w K mg base "is_wall_pair" 4 ["thing"] [] (zbo aO):=by
 refine D.cal (k:=3) zba (λvs H Q E h=>by obtain⟨rfl,_⟩:=h;rfl) (λf cdv A outer s H vs Q E hr h=>?_)
 obtain⟨rfl,k⟩:=h
 have hr1:xa 1 _:=hr.mono (by decide)
 refine⟨_,(zi (zo (qi (zE cTu hr1 (zd (pv 0) (zd zf ze))) (qi (zE cWa hr (zd (zq zv (pv 0) zf (λ_ _=>rfl)) ze)) (qR (zE cWa hr (zd (zq zv (pv 0) zf (λ_ _=>rfl)) ze))))))),?_⟩
 refine⟨_,rfl,aO,_,_,rfl,T3.ko H,true,rfl,zJ ?_⟩
 refine⟨_,rfl,aO,_,_,_,rfl,rfl,T3.ko H,rfl,.non,none,rfl,rfl,true,rfl,zJ ?_⟩
 exact⟨_,rfl,aO,_,_,_,rfl,rfl,T3.ko H,rfl,.non,none,rfl,rfl,k⟩
theorem Vw (D:Df K mg "walls_good" xP ["thing"] []) (T3:Tx3 K mg tb tw aO) (cWp:Cal P w K mg base "is_wall_pair" 4 ["thing"] [] (zbo aO)) (cLs:Cal P w K mg base "less" 1 ["one","other"] [] zc0):Cal P w K mg base "walls_good" 5 ["thing"] [] (zbo aO):=by
 refine D.cal (k:=4) Zq (λvs H Q E h=>by obtain⟨rfl,_⟩:=h;rfl) (λf cdv A outer s H vs Q E hr h=>?_)
 obtain⟨rfl,k⟩:=h
 have hr1:xa 1 _:=hr.mono (by decide)
 refine⟨_,(zh (zW (xh (zV (zE cWp hr (zd (pv 0) ze)) λ_=>rfl)) (zi (zo vh)) zD)
  (zh (vH (pv 0) (jz rfl (z9 (zT (i:=1) Zq.nd rfl (Or.inl rfl)) (z9 (zT (i:=2) Zq.nd rfl (Or.inl rfl)) vv))))
  (zi (zo (Jy (xD jy (pv 1) xm (zz _)) (Jy (xD jy (pv 2) xm (zz _)) (qR (zE cLs hr1 (zd (zq zv (pv 1) zf (λ_ _=>rfl)) (zd (zq zv (pv 2) zf (λ_ _=>rfl)) ze)))))))))),?_⟩
 refine⟨_,rfl,rfl,true,rfl,zR ?_⟩
 refine zL ?_
 refine⟨_,rfl,aO,_,rfl,T3.ko H,rfl,_,_,rfl,_,_,rfl,rfl,?_⟩
 dsimp only
 exact⟨_,rfl,rfl,_,rfl,zJ k⟩
def QX:Sp:=λ_ _ _ _=>False
theorem zbb:zr ["left","right"] ["left","right"] (zg xJ):=⟨rfl,rfl,rfl,by decide +kernel,rfl,by decide +kernel,by decide +kernel⟩
theorem Jm (D:Df K mg "keeps_side" xJ ["left","right"] []):Cal P w K mg base "keeps_side" 3 ["left","right"] [] QX :=
 D.cal (k:=2) zbb (λvs H Q E h=>h.elim) (λf cdv A outer s H vs Q E hr h=>h.elim)
def zbD (aO:Addr):Sp:=λvs H Q _=>∃v,vs=[.ref aO,v]/\Q (.bl true) H
theorem Xj:zr ["walls","row","low","high"] ["walls","row"] (zg xH):=⟨rfl,rfl,rfl,by decide +kernel,rfl,by decide +kernel,by decide +kernel⟩
theorem zdt (D:Df K mg "is_between" xH ["walls","row"] []) (T3:Tx3 K mg tb tw aO) (cKs:Cal P w K mg base "keeps_side" 3 ["left","right"] [] QX):Cal P w K mg base "is_between" 4 ["walls","row"] [] (zbD aO):=by
 refine D.cal (k:=3) Xj (λvs H Q E h=>by obtain⟨_,rfl,_⟩:=h;rfl) (λf cdv A outer s H vs Q E hr h=>?_)
 obtain⟨v,rfl,k⟩:=h
 refine⟨_,(zh (vH (pv 0) (jz rfl (z9 (zT (i:=2) Xj.nd rfl (Or.inl rfl)) (z9 (zT (i:=3) Xj.nd rfl (Or.inl rfl)) vv))))
  (zh (zW ((vx (zy QH (pv 2) xm (zz _)) (va (xh (zV (zE cKs hr (zd (pv 2) (zd (zq zv (pv 1) zf (λ_ _=>rfl)) ze))) λ_=>rfl))))).pt (zi (zo vh)) zD)
  (zi (zo (Jy (xD jy (pv 3) xm (zz _)) (qR (zE cKs hr (zd (zq zv (pv 1) (qX qg zf) (λ_ _=>rfl)) (zd (pv 3) ze))))))))),?_⟩
 refine⟨_,rfl,aO,_,rfl,T3.ko H,rfl,_,_,rfl,_,_,rfl,rfl,?_⟩
 dsimp only
 refine⟨_,rfl,rfl,false,rfl,zR (zR ?_)⟩
 refine zL ?_
 exact⟨_,rfl,rfl,true,rfl,zJ k⟩
end
end KK
end
section
set_option maxHeartbeats 4000000
set_option Elab.async false
set_option linter.all false
set_option maxRecDepth 100000
namespace KK
open PySem L2 KM PySem.NumText
theorem zef {bs:List Bx3}{ys:List V}{f:Bx3->Bool}(hl:ys.length=bs.length) (h:∀(i:Nat) (v:V),ys[i]? = some v->∃b,bs[i]? = some b/\v = .bl (f b)):ys=(bs.map f).map V.bl:=by
 apply List.ext_getElem?
 intro i
 rw[List.getElem?_map,List.getElem?_map]
 by_cases hi:i<ys.length
 ·obtain⟨b,eb,ev⟩:=h i _ (List.getElem?_eq_getElem hi)
  rw[eb,List.getElem?_eq_getElem hi,ev];rfl
 ·rw[List.getElem?_eq_none (by omega),List.getElem?_eq_none (by omega)];rfl
section
variable {P:Program}{w:World}{K:PySem.W.Frag}{mg:Str->Option Value}{base:Heap}{tb tw:Tok}{aO:Addr}{C:Addr}{tF tM:Tok}
def zdR (aO:Addr):Sp:=λvs H Q _=>∃r bs,vs=[.ref aO,.ref r]/\RwI H r bs/\bs.length<=20000/\(∀b∈bs,BOk b)/\∀H',zl H H'->Q (.bl (xn bs)) H'
theorem JV:zr ["walls","thing"] ["walls","thing"] (zg vj):=⟨rfl,rfl,rfl,by decide +kernel,rfl,by decide +kernel,by decide +kernel⟩
theorem zdx (D:Df K mg "is_row" vj ["walls","thing"] []) (T:TxB K mg) (TS:TxS K mg) (T3:Tx3 K mg tb tw aO) (cWg:Cal P w K mg base "walls_good" 5 ["thing"] [] (zbo aO)) (cBa:Cal P w K mg base "is_ball" 4 ["thing"] [] zcY) (cOd:Cal P w K mg base "is_ordered" 3 ["row"] [] zdV)
  (cBe:Cal P w K mg base "is_between" 4 ["walls","row"] [] (zbD aO)):Cal P w K mg base "is_row" 6 ["walls","thing"] [] (zdR aO):=by
 refine D.cal (k:=5) JV (λvs H Q E h=>by obtain⟨_,_,rfl,_⟩:=h;rfl) (λf cdv A outer s H vs Q E hr5 h=>?_)
 obtain⟨r,bs,rfl,hR,hlen,hz,k⟩:=h
 have hr3:xa 3 _:=hr5.mono (by decide)
 have hr4:xa 4 _:=hr5.mono (by decide)
 obtain⟨us,hrr,hB⟩:=id hR
 have hl:=hB.1
 refine⟨_,(zh (zW ((qB (xh (zV (zE cWg hr5 (zd (pv 0) ze)) λ_=>rfl)) (qD (xh (zV (zG qy (by rfl) T.nIs PyProof.Rows.boot_isinstance (zd (pv 1) (zd (vN (v:=.ty "tuple") (u:=.type "tuple") (by rfl) T.nTuple PyProof.Rows.boot_tuple rfl) ze))) λ_=>rfl))))).pt (zi (zo vh)) zD)
  (zh (zW ((qB (xh (Zg ZO ZO zf (zG zU (by rfl) T.nLen PySem.boot_len (zd (pv 1) ze)) (qW (v:=.int 8) (by rfl) T3.mb ⟨_,rfl⟩))) (qD (xh (zV (zG (j5 rfl) (by rfl) TS.nAll (by decide +kernel) (zd (jf (NB:=["ball"]) rfl (by decide +kernel) (by decide +kernel) rfl (by decide +kernel) (Qh (pv 1)) (by intro _ _ _;refine⟨?_,?_,?_⟩;(exact(zT (i:=0) (show List.Nodup (["ball"]:List Str) by decide +kernel) rfl (Or.inl rfl)));(exact vw);(exact(zE cBa hr4 (zd (pv 0) ze))))) ze)) λ_=>rfl))))).pt (zi (zo vh)) zD)
  (zi (zo (qi (zE cOd hr3 (zd (pv 1) ze)) (qR (zE cBe hr4 (zd (pv 0) (zd (pv 1) ze))))))))),?_⟩
 refine⟨_,rfl,rfl,true,rfl,zR ?_⟩
 refine⟨_,rfl,_,_,_,true,rfl,.tup hrr,TS.tt,true,rfl,zR ?_⟩
 refine zL ?_
 refine⟨_,rfl,r,_,rfl,.inr (SqT.of hrr),_,_,rfl,rfl,_,rfl,?_⟩
 have k0:=k H (zl.refl _)
 cases h1:decide ((1:Int)<=(us.length:Int))with
 | false =>
  have:xn bs=false:=by
   have:¬ 1<=bs.length:=by have:=of_decide_eq_false h1;omega
   unfold xn;rw[decide_eq_false this];rfl
  rw[this]at k0
  exact zR ⟨false,rfl,zJ (zJ k0)⟩
 | true =>
  have h1n:1<=bs.length:=by have:=of_decide_eq_true h1;omega
  refine zJ ⟨_,_,rfl,rfl,_,rfl,?_⟩
  cases h8:decide ((us.length:Int)<=8)with
  | false =>
   have:xn bs=false:=by
    have:¬bs.length<=8:=by have:=of_decide_eq_false h8;omega
    unfold xn;rw[decide_eq_true h1n,decide_eq_false this];rfl
   rw[this]at k0
   exact zJ (zJ k0)
  | true =>
   have h8n:bs.length<=8:=by have:=of_decide_eq_true h8;omega
   refine zR ?_
   refine⟨_,rfl,r,rfl,⟨_,SqT.of hrr⟩,λDc hDc=>?_⟩
   refine vL (J:=Itt K r) (g:=zH 0) (te:=ZY zcY [] E0 (qG (vn 0) Zy)) (n:=1) (xs:=us) (λi v' G=>∃b,bs[i]? = some b/\v' = .bl (wB b)) (λi v G G' e h=>h) hDc (XN hrr) (xQ (by omega)) ?_ ?_
   ·intro i z zs G Q' hz' hzs S hQ
    obtain⟨y1,rfl⟩:=XB hzs
    obtain⟨b,eb,hb⟩:=hB.get hz'
    exact⟨_,rfl,z,b,rfl,hb.tups (.of S),hz b (List.mem_of_getElem? eb),hQ _ _ (zl.refl _) ⟨b,eb,rfl⟩⟩
   ·intro ys G S hD hyl hR'
    have ey:=zef (f:=wB) (by omega) hR'
    subst ey
    refine⟨Dc,_,rfl,SqL.of hD,?_⟩
    rw[all_map]
    have eO:xn bs=(bs.all wB&&qQ bs):=by unfold xn;rw[decide_eq_true h1n,decide_eq_true h8n];rfl
    have k1:∀H',zl H H'->Q (.bl (bs.all wB&&qQ bs)) H':=λH' e=>by have:=k H' e;rwa [eO]at this
    cases ha:bs.all wB with
    | false =>
     have:=k1 G S
     rw[ha,Bool.false_and]at this
     exact⟨false,rfl,zJ this⟩
    | true =>
     rw[ha]at k1
     refine⟨true,rfl,zR ?_⟩
     refine zL ?_
     refine⟨_,rfl,r,bs,rfl,hR.tups (.of S),(λz=>by rw[z]at h1n;simp at h1n),h8n,hz,λH3 e3=>?_⟩
     have k2:=k1 H3 (S.trans e3)
     rw[Bool.true_and]at k2
     cases ho:qQ bs with
     | false=>rw[ho]at k2;exact⟨false,rfl,zR k2⟩
     | true=>rw[ho]at k2;exact⟨true,rfl,zJ ⟨_,rfl,_,rfl,_,rfl,k2⟩⟩
end
end KK
end
section
set_option maxHeartbeats 4000000
set_option Elab.async false
set_option linter.all false
set_option maxRecDepth 100000
namespace KK
open PySem L2 KM PySem.NumText
theorem ZU {x:Str}{b:Bx3}(h:zC x=some b):BOk b:=by
 unfold zC at h
 split at h
 ·rename_i p q n e
  obtain⟨r,er,h⟩:=Option.bind_eq_some_iff.mp h
  obtain⟨t,et,h⟩:=Option.bind_eq_some_iff.mp h
  obtain⟨m,em,h⟩:=Option.map_eq_some_iff.mp h
  subst h
  have h1:=JJ er
  have h2:=JJ et
  exact⟨h1.1,h2.1,⟨h1.2.1.mono (by decide),h1.2.2.mono (by decide)⟩,⟨h2.2.1.mono (by decide),h2.2.2.mono (by decide)⟩⟩
 ·cases h
section
variable {P:Program}{w:World}{K:PySem.W.Frag}{mg:Str->Option Value}{base:Heap}{tb tw:Tok}{aO:Addr}{C:Addr}{tF tM:Tok}
def QY (C:Addr):Sp:=λvs H Q E=>∃x,vs=[.str x]/\x.length<=10000/\(∀bs,zY x=some bs->∀a H',zl H H'->RwI H' a bs->Q (.ref a) H')/\(zY x=none->∀H',zl H H'->E (.ref C) none H')
theorem zaU (D:Df K mg "read_row" qu ["thing"] []) (T:TxB K mg) (T3:Tx3 K mg tb tw aO) (O:Xs "NoText" C mg base) (cPs:qU P w K mg base "parts_of" 1 ["thing","sign","many"] [] (zbp C)) (cBa:qU P w K mg base "read_ball" 4 ["text"] [] (zcW C)) (cIs:Cal P w K mg base "is_row" 6 ["walls","thing"] [] (zdR aO)):qU P w K mg base "read_row" 7 ["thing"] [] (QY C):=by
 refine D.cal1 (k:=6) QU (λvs H Q E h=>by obtain⟨_,rfl,_⟩:=h;rfl) (λf cdv A outer s H vs Q E hr6 h=>?_)
 obtain⟨x,rfl,hx,k,kE⟩:=h
 have hr1:xa 1 _:=hr6.mono (by decide)
 have hr4:xa 4 _:=hr6.mono (by decide)
 have hr:xa 6 _:=hr6
 refine⟨_,(zh (zA (i:=1) QU.nd rfl (Or.inl rfl) (xZ vc (by rfl) T.nTuple PyProof.Rows.boot_tuple (zd (Jw (NB:=["part"]) (te:=λJB=>J9 (zcW C) [] JB (qG (vn 0) Zy)) rfl rfl rfl rfl X2 (by decide +kernel) (by decide +kernel) rfl (by decide +kernel) (jP (qV cPs hr1 xl (zd (pv 0) (zd zw (zd xm ze))))) (by intro s3 H3 fp xe JB hB;refine⟨?_,?_,?_⟩;(exact(zT (i:=0) (show List.Nodup (["part"]:List Str) by decide +kernel) rfl (Or.inl rfl)));(exact vw);(exact(qV cBa hr4 hB (zd (pv 0) ze))))) ze))) (zh (zW (xh (zV (zE cIs hr6 (zd (qW (v:=.ref aO) (by rfl) T3.mo rfl) (zd (pv 1) ze))) λ_=>rfl)) (zi (qA O PySem.F.excBase_ValueError (by decide +kernel) PySem.F.excBase_ValueError hr.hd xi (zd zw ze))) zD)
  (zi (zo (pv 1))))),?_⟩
 have eS:Str.ofString "; " = TX [59,32]:=by decide +kernel
 refine⟨_,rfl,x,_,none,rfl,by decide +kernel,hx,λ_ l H1 hl s1 h1=>?_,λe=>(by cases e)⟩
 rw[eS]at h1
 have hpl:∀p∈Txt.split x (TX [59,32]),p.length<=10000:=λp m=>Nat.le_trans (xt m) hx
 have hcn:=XU x (TX [59,32])
 have eR:zY x=(vB (Txt.split x (TX [59,32]))).bind λbs=>if xn bs=true then some bs else none:=rfl
 generalize Txt.split x (TX [59,32])=ps at h1 eR hpl hcn
 refine⟨l,rfl,⟨_,SqL.of h1⟩,λD' hD=>?_⟩
 refine vL (J:=Itl K l) (g:=zH 0) (n:=1) (xs:=ps.map V.str) (λi v G=>∃p b,ps[i]? = some p/\zC p=some b/\BI G v b) (λi v G G' e h=>let ⟨p,b,h1,h2,h3⟩:=h;⟨p,b,h1,h2,h3.tups e⟩) hD (ZV h1) (by rw[List.length_map,sizeLine_eq];omega) ?_ ?_
 ·intro i z zs G Q' hz hzs S hQ
  obtain⟨y1,rfl⟩:=XB hzs
  rw[List.getElem?_map]at hz
  obtain⟨p,ep,rfl⟩:=Option.map_eq_some_iff.mp hz
  refine⟨_,rfl,p,rfl,hpl p (List.mem_of_getElem? ep),λb e v H' s r=>hQ v H' s ⟨p,b,ep,e,r⟩,λe H' s=>⟨C,rfl,kE ?_ H' ((s1.trans S).trans s)⟩⟩
  rw[eR,ju (List.mem_of_getElem? ep) e];rfl
 ·intro ys G S hD' hyl hR
  rw[List.length_map]at hyl
  obtain⟨bs,hbs⟩:∃bs,vB ps=some bs:=by
   cases e:vB ps with
   | some bs=>exact⟨bs,rfl⟩
   | none =>
    exfalso
    have:vB ps=some (ps.map λp=>(zC p).getD ((( 0,0),(0,0)),0)):=jM (by simp) λi p ep=>by
     have hi:=(List.getElem?_eq_some_iff.mp ep).1
     obtain⟨p',b,e1,e2,_⟩:=hR i _ (List.getElem?_eq_getElem (by omega))
     rw[ep]at e1;cases e1
     exact⟨b,by rw[List.getElem?_map,ep,Option.map_some,e2];rfl,e2⟩
    rw[e]at this;cases this
  obtain⟨bl,bg⟩:=vK hbs
  rw[hbs]at eR
  have eR:zY x=if xn bs=true then some bs else none:=eR
  have hB:BsI G ys bs:=⟨by omega,λi v b ev eb=>by
   obtain⟨p,b',e1,e2,e3⟩:=hR i v ev
   obtain⟨b'',e4,e5⟩:=bg i p e1
   rw[eb]at e4;cases e4
   rw[e2]at e5;cases e5
   exact e3⟩
  have hO:∀b∈bs,BOk b:=λb m=>by
   obtain⟨i,ei⟩:=List.getElem?_of_mem m
   have hi:=(List.getElem?_eq_some_iff.mp ei).1
   obtain⟨b',e4,e5⟩:=bg i _ (List.getElem?_eq_getElem (by omega))
   rw[ei]at e4;cases e4
   exact ZU e5
  refine⟨D',ys,rfl,.inl ⟨SqL.of hD',λt ht=>?_⟩⟩
  have s4:=(s1.trans S).trans (zl.upd (o:=.tup ys) ht)
  have hW:RwI (upd G t (.tup ys)) t bs:=⟨ys,zj,hB.tups (.of (zl.upd ht))⟩
  dsimp only[zH]
  generalize upd G t (.tup ys)=G2 at s4 hW
  refine⟨_,rfl,t,bs,rfl,hW,by omega,hO,λG3 s5=>?_⟩
  refine⟨_,rfl,?_⟩
  cases hk:xn bs
  ·exact zJ ⟨by show 1<=sizeLine;decide,kE (by rw[eR,hk];rfl) G3 (s4.trans s5)⟩
  ·refine zR ?_
   refine zL ?_
   exact⟨_,rfl,k bs (by rw[eR,hk];rfl) t G3 (s4.trans s5) (hW.tups (.of s5))⟩
end
end KK
end
section
set_option maxHeartbeats 4000000
set_option Elab.async false
set_option linter.all false
set_option maxRecDepth 100000
namespace KK
open PySem L2 KM PySem.NumText
def jg:List Bx3->List Nat
 | []=>[]
 | b::r=>59::32::(btL b++jg r)
theorem ZS:∀(bs:List Bx3) (b:Bx3),jg (bs++[b])=jg bs++(59::32::btL b)
 | [],b=>by show 59::32::(btL b++[])=_;rw[List.append_nil];rfl
 | c::r,b=>by show 59::32::(btL c++jg (r++[b]))=59::32::(btL c++jg r)++_;rw[ZS r b];simp
theorem vO:∀{bs:List Bx3},bs≠[]->jg bs=59::32::rwL bs
 | [],h=>absurd rfl h
 | [b],_=>by show 59::32::(btL b++[])=_;rw[List.append_nil];rfl
 | b::c::r,_=>by
  have:=vO (bs:=c::r) (by simp)
  show 59::32::(btL b++jg (c::r))=59::32::(btL b++59::32::rwL (c::r))
  rw[this]
theorem jh:∀{bs:List Bx3},(∀b∈bs,Bz b)->(jg bs).length<=bs.length*402
 | [],_=>by simp[jg]
 | b::r,h=>by
  have h1:=Z5 (h b (List.mem_cons_self ..))
  have h2:=jh (bs:=r) λc m=>h c (List.mem_cons_of_mem _ m)
  simp[jg];omega
theorem sz9 {n:Nat}(h:n<=9000):n<=sizeLine:=by rw[sizeLine_eq];omega
section
variable {P:Program}{w:World}{K:PySem.W.Frag}{mg:Str->Option Value}{base:Heap}{tb tw:Tok}{aO:Addr}{C:Addr}{tF tM:Tok}
def J4:Sp:=λvs H Q _=>∃a bs,vs=[.ref a]/\RwI H a bs/\bs≠[]/\bs.length<=8/\(∀b∈bs,Bz b)/\∀H',zl H H'->Q (.str (TX (rwL bs))) H'
theorem Zp:zr ["row","text","ball"] ["row"] (zg xr):=⟨rfl,rfl,rfl,by decide +kernel,rfl,by decide +kernel,by decide +kernel⟩
theorem zcB (D:Df K mg "_law_row_text" xr ["row"] []) (cLt:Cal P w K mg base "_law_ratio_text" 2 ["one"] [] zc1) (cFi:Cal P w K mg base "_law_figures" 1 ["number"] [] zbl):Cal P w K mg base "_law_row_text" 3 ["row"] [] J4:=by
 refine D.cal (k:=2) Zp (λvs H Q E h=>by obtain⟨_,_,rfl,_⟩:=h;rfl) (λf cdv A outer s H vs Q E hr h=>?_)
 obtain⟨a,bs,rfl,⟨us,ha,hB⟩,hne,hl,hz,k⟩:=h
 have hr1:xa 1 _:=hr.mono (by decide)
 have eS:Str.ofString " " = TX [32]:=by decide +kernel
 have eD:Str.ofString "; " = TX [59,32]:=by decide +kernel
 refine⟨_,(zh (zA (i:=1) Zp.nd rfl (Or.inl rfl) zw)
  (zh (Zf PassesOwn.never rfl (Qh (pv 0)) (zT (i:=2) Zp.nd rfl (Or.inl rfl)) (zh (zA (i:=1) Zp.nd rfl (Or.inl rfl) (zu zn (zu zn (zu zn (pv 1) zw) (zE cLt hr (zd (zq zv (pv 2) zf (λ_ _=>rfl)) ze))) zw))
  (zi (zA (i:=1) Zp.nd rfl (Or.inl rfl) (zu zn (zu zn (zu zn (pv 1) (zE cLt hr (zd (zq zv (pv 2) zf (λ_ _=>rfl)) ze))) zw) (zE cFi hr1 (zd (zq zv (pv 2) zf (λ_ _=>rfl)) ze)))))))
  (zi (zo (qz jC (pv 1) (qZ zf) qY))))),?_⟩
 refine qS ?_
 dsimp only[zH,tC]
 refine Zt ?_
 refine⟨_,rfl,a,rfl,⟨_,SqT.of ha⟩,?_⟩
 refine zat (xs:=us) (λi σ G=>∃z,σ=[some (.ref a),some (.str (TX (jg (bs.take i)))),z]/\zl H G) ⟨none,rfl,zl.refl _⟩ (λi σ G _ ⟨_,_,s⟩=>SqT.of (s _ _ ha)) ?_ ?_
 ·rintro i z σ G hz' ⟨z2,rfl,sG⟩
  obtain⟨b,eb,p,x,y,rfl,hp,hx,hy⟩:=hB.get hz'
  have mb:=List.mem_of_getElem? eb
  have zb:=hz b mb
  have hi:=(List.getElem?_eq_some_iff.mp eb).1
  have l0:=jh (bs:=bs.take i) λc m=>hz c (List.mem_of_mem_take m)
  rw[List.length_take]at l0
  have l0':(jg (bs.take i)).length<=3300:=by omega
  have l1:=qF zb.1
  have l2:=qF zb.2.1
  have l3:=vY zb.2.2.2
  have eT:bs.take (i+1)=bs.take i++[b]:=Q4 eb
  dsimp only[zH]
  refine qS ?_
  refine⟨_,rfl,_,_,rfl,rfl,?_,?_⟩
  ·rw[eD,zx,zx];exact sz9 (by simp;omega)
  rw[eD,zF]
  refine⟨_,rfl,p,_,_,_,rfl,rfl,.of (sG _ _ hp),rfl,x,_,rfl,hx.tups (.of sG),zb.1.r3,λG1 s1=>?_⟩
  have s01:=sG.trans s1
  refine⟨_,_,rfl,rfl,?_,?_⟩
  ·rw[zx,zx];exact sz9 (by simp;omega)
  rw[zF]
  refine⟨_,_,rfl,rfl,?_,?_⟩
  ·rw[eS,zx,zx];exact sz9 (by simp;omega)
  rw[eS,zF]
  dsimp only[zH]
  refine zbs ?_
  refine⟨_,rfl,_,rfl,p,_,_,_,rfl,rfl,.of (s01 _ _ hp),rfl,y,_,rfl,hy.tups (.of s01),zb.2.1.r3,λG2 s2=>?_⟩
  have s02:=s01.trans s2
  refine⟨_,_,rfl,rfl,?_,?_⟩
  ·rw[zx,zx];exact sz9 (by simp;omega)
  rw[zF]
  refine⟨_,_,rfl,rfl,?_,?_⟩
  ·rw[zx,zx];exact sz9 (by simp;omega)
  rw[zF]
  refine⟨_,rfl,p,_,_,_,rfl,rfl,.of (s02 _ _ hp),rfl,_,rfl,Nat.lt_trans zb.2.2.2 (by decide),λG3 s3=>?_⟩
  refine⟨_,_,rfl,rfl,?_,?_⟩
  ·rw[zx,zx];exact sz9 (by simp;omega)
  rw[zF]
  refine⟨some (.ref p),?_,s02.trans s3⟩
  have e:jg (bs.take i)++[59,32]++rtL b.1.1++[32]++rtL b.1.2++[32]++ntL b.2=jg (bs.take (i+1)):=by
   rw[eT,ZS];unfold btL;simp
  rw[e];rfl
 ·rintro σ G ⟨z,rfl,sG⟩
  rw[hB.1,List.take_length,vO hne]
  have l0:=jh hz
  rw[vO hne]at l0
  refine⟨_,rfl,_,rfl,_,rfl,?_,?_⟩
  ·rw[zx];exact sz9 (by omega)
  have e:Txt.slice (TX (59::32::rwL bs)) (some 2) none=TX (rwL bs):=by
   have:=v5 (TX (59::32::rwL bs)) 2
   rw[qf]at this;exact this
  rw[e];exact k G sG
end
end KK
end
section
set_option maxHeartbeats 4000000
set_option Elab.async false
set_option linter.all false
set_option maxRecDepth 100000
namespace KK
open PySem L2 KM PySem.NumText
def bD3 (b:Bx3):PyData:=.tuple [rD b.1.1,rD b.1.2,.int b.2]
theorem BI.rd {H:Hp}{v:V}{b:Bx3}(h:BI H v b):RdD H v (bD3 b):=by obtain⟨p,x,y,rfl,hp,hx,hy⟩:=h;exact .tup hp (.cons hx.rd (.cons hy.rd (.cons (.int _) .nil)))
theorem BsI.cons {H:Hp}{v:V}{us:List V}{b:Bx3}{bs:List Bx3}(h:BsI H (v::us) (b::bs)):BI H v b/\BsI H us bs :=
 ⟨h.2 0 v b rfl rfl,by have:=h.1;simpa using this,λi u c e1 e2=>h.2 (i+1) u c e1 e2⟩
theorem BsI.rds {H:Hp}:∀{us:List V}{bs:List Bx3},BsI H us bs->jr H us (bs.map bD3)
 | [],[],_=>.nil
 | [],_::_,h=>by have:=h.1;cases this
 | _::_,[],h=>by have:=h.1;cases this
 | v::us,b::bs,h=>.cons h.cons.1.rd (BsI.rds h.cons.2)
theorem BsI.snoc {H:Hp}{us:List V}{bs:List Bx3}{v:V}{b:Bx3}(h:BsI H us bs) (hb:BI H v b):BsI H (us++[v]) (bs++[b]) :=
 ⟨by rw[List.length_append,List.length_append,h.1];rfl,λi u c e1 e2=>by
  by_cases hi:i<us.length
  ·rw[List.getElem?_append_left hi]at e1
   rw[List.getElem?_append_left (by rw[<-h.1];exact hi)]at e2
   exact h.2 i u c e1 e2
  ·rw[List.getElem?_append_right (by omega)]at e1
   rw[List.getElem?_append_right (by rw[<-h.1];omega),<-h.1]at e2
   cases hj:i - us.length with
   | zero=>rw[hj]at e1 e2;cases e1;cases e2;exact hb
   | succ j=>rw[hj]at e1;simp at e1⟩
theorem X4:∀bs:List Bx3,PyData.canLayAll0 (bs.map bD3)=true
 | []=>rfl
 | b::r=>by show (true&&PyData.canLayAll0 (r.map bD3))=true;rw[X4 r];rfl
theorem X3:∀bs:List Bx3,PyData.depthAll (bs.map bD3)<=2
 | []=>by decide
 | b::r=>by
  show max (PyData.depth (bD3 b)) (PyData.depthAll (r.map bD3))<=2
  exact Nat.max_le.mpr ⟨Nat.le_refl 2,X3 r⟩
theorem zdg (bs:List Bx3):SeqAt.shaped (.list (bs.map bD3))=true:=by
 have:=X3 bs
 show (PyData.canLayAll0 (bs.map bD3)&&decide (PyData.depthAll (bs.map bD3)+1<=64))=true
 rw[X4,decide_eq_true (by omega)];rfl
theorem zb0 (bs:List Bx3):SeqAt.shaped (.tuple (bs.map bD3))=true:=by
 have:=X3 bs
 show (PyData.canLayAll0 (bs.map bD3)&&decide (PyData.depthAll (bs.map bD3)+1<=64))=true
 rw[X4,decide_eq_true (by omega)];rfl
theorem zb1 (bs:List Bx3):PyData.eqv (.list (bs.map bD3)) (.list [])=bs.isEmpty:=by
 cases bs <;> rfl
theorem any3 (a b c:PyData):([a,b,c].any λc=>PyData.eqv c .none)=(PyData.eqv a .none || (PyData.eqv b .none || PyData.eqv c .none)):=by simp
def nD:Option Int->PyData
 | none=>.none
 | some n=>.int n
theorem zaz (o:Option Int):PyData.eqv (nD o) .none=o.isNone:=by cases o <;> rfl
theorem zco (o:Option Int):(nD o).canLay0=true:=by cases o <;> rfl
theorem zds (H:Hp) (o:Option Int):RdD H (oV o) (nD o):=by
 cases o with
 | none=>exact .non
 | some n=>exact .int n
section
variable {P:Program}{w:World}{K:PySem.W.Frag}{mg:Str->Option Value}{base:Heap}{tb tw:Tok}{aO:Addr}{C:Addr}{tF tM:Tok}
def zbG:Sp:=λvs H Q _=>∃x,vs=[.str x]/\x.length<=10000/\∀o H',zl H H'->(match zY x with | none=>o = .non | some bs=>∃a,o = .ref a/\RwI H' a bs)->Q o H'
theorem Zn:zr ["text","row","part","words","ball"] ["text"] (zg xq):=⟨rfl,rfl,rfl,by decide +kernel,rfl,by decide +kernel,by decide +kernel⟩
theorem zcz (D:Df K mg "_law_read_row" xq ["text"] []) (T:TxB K mg) (cRd:Cal P w K mg base "_law_read" 2 ["text"] [] zdT) (cVa:Cal P w K mg base "_law_value" 1 ["text"] [] zc2) (cBl:Cal P w K mg base "_law_below" 1 ["one","other"] [] zcZ):Cal P w K mg base "_law_read_row" 3 ["text"] [] zbG:=by
 refine D.cal (k:=2) Zn (λvs H Q E h=>by obtain⟨_,rfl,_⟩:=h;rfl) (λf cdv A outer s H vs Q E hr h=>?_)
 obtain⟨x,rfl,hx,k⟩:=h
 have hr1:xa 1 _:=hr.mono (by decide)
 have hu:=hr.units
 refine⟨_,(zh (zA (i:=1) Zn.nd rfl (Or.inl rfl) (xx ze))
  (zh (Zf PassesOwn.never rfl (jP (vi PySem.F.plainAttrs_str PySem.F.slot_str_split PySem.F.type_str_split je (pv 0) (zd zw ze))) (zT (i:=2) Zn.nd rfl (Or.inl rfl)) (zh (zA (i:=3) Zn.nd rfl (Or.inl rfl) (vi PySem.F.plainAttrs_str PySem.F.slot_str_split PySem.F.type_str_split je (pv 2) (zd zw ze)))
  (zh (zW (zy jG (zG zU (by rfl) T.nLen PySem.boot_len (zd (pv 3) ze)) zf (zz _)) (zi (zo xm)) zD)
  (zh (zA (i:=4) Zn.nd rfl (Or.inl rfl) (vt (zd (zE cRd hr (zd (zq zS (pv 3) zf (λ_ _=>rfl)) ze)) (zd (zE cRd hr (zd (zq zS (pv 3) zf (λ_ _=>rfl)) ze)) (zd (zE cVa hr1 (zd (zq zS (pv 3) zf (λ_ _=>rfl)) ze)) ze)))))
  (zh (zW (qB (zy (zaW hu) xm (pv 4) rfl) (qB (xh (Zg vT vT zf (zq zv (pv 4) zf (λ_ _=>rfl)) zf)) (qD (zy qh (zG zU (by rfl) T.nLen PySem.boot_len (zd (pv 1) ze)) zf (zz _))))).pt (zi (zo xm)) zD)
  (zh (zW (vx (zy (Xg hu) (pv 1) (xx ze) (zz _)) (va (xh (zV (zE cBl hr1 (zd (zq zv (zq zS (pv 1) (qX qg zf) (λ_ _=>rfl)) zf (λ_ _=>rfl)) (zd (zq zv (pv 4) zf (λ_ _=>rfl)) ze))) λ_=>rfl)))).pt (zi (zW (qB (zy (Xg hu) (zq zv (zq zS (pv 1) (qX qg zf) (λ_ _=>rfl)) zf (λ_ _=>rfl)) (zq zv (pv 4) zf (λ_ _=>rfl)) (zz _)) (qD (xh (zV (zE cBl hr1 (zd (zq zv (zq zS (pv 1) (qX qg zf) (λ_ _=>rfl)) zf (λ_ _=>rfl)) (zd (zq zv (pv 4) zf (λ_ _=>rfl)) ze))) λ_=>rfl)))).pt (zi (zo xm)) zD)) zD)
  (zi (jQ (vi PySem.F.plainAttrs_list PySem.F.slot_list_append PySem.F.type_list_append qH (pv 1) (zd (pv 4) ze))))))))))
  (zi (zo (xZ vc (by rfl) T.nTuple PyProof.Rows.boot_tuple (zd (pv 1) ze)))))),?_⟩
 refine⟨by show 0<=sizeLine;exact Nat.zero_le _,λlf hlf=>?_⟩
 dsimp only[zH]
 refine Zt ?_
 have eB:Str.ofString "; " = TX [59,32]:=by decide +kernel
 refine⟨_,rfl,rfl,x,_,rfl,rfl,by decide +kernel,vb hx,λls hls=>?_⟩
 rw[eB]
 rw[JL]at k
 obtain⟨ps,eps⟩:∃ps,ps=Txt.split x (TX [59,32]):=⟨_,rfl⟩
 have hpl:∀p∈ps,p.length<=10000:=λp m=>Nat.le_trans (xt (y:=TX [59,32]) (by rw[<-eps];exact m)) hx
 rw[<-eps]at k ⊢
 have nfs:lf≠ls:=λz=>by rw[<-z,zj]at hls;cases hls
 have fin:∀G,zl H G->goR [] ps=none->Q .non G:=λG s e=>k .non G s (by rw[e])
 refine⟨ls,rfl,⟨_,SqL.of zj⟩,?_⟩
 refine Xx (xs:=ps.map V.str) (λi σ G=>∃(z2 z3 z4:Option V) (vs:List V) (bs:List Bx3),σ=[some (.str x),some (.ref lf),z2,z3,z4]/\zl H G/\G ls=some (.lst (ps.map V.str))/\G lf=some (.lst vs)/\BsI G vs bs/\bs.length<=8/\(∀b∈bs,BOk b)/\goR [] ps=goR bs (ps.drop i))
  ⟨none,none,none,[],[],rfl,(zl.upd hlf).trans (zl.upd hls),zj,by rw[zM nfs];exact zj,⟨rfl,λi v b e=>by simp at e⟩,by simp,λb m=>by simp at m,rfl⟩ (λi σ G _ ⟨_,_,_,_,_,_,_,h,_⟩=>SqL.of h) ?_ ?_
 ·rintro i z σ G hz ⟨z2,z3,z4,vs,bs,rfl,sG,hls',hlf',hB,h8,hO,hg⟩
  rw[List.getElem?_map]at hz
  obtain⟨p,ep,rfl⟩:=Option.map_eq_some_iff.mp hz
  have mp:p∈ps:=List.mem_of_getElem? ep
  have lp:=hpl p mp
  have hips:i<ps.length:=(List.getElem?_eq_some_iff.mp ep).1
  have ed:ps.drop i=p::ps.drop (i+1):=by
   rw[List.drop_eq_getElem_cons hips]
   have:=List.getElem?_eq_getElem hips
   rw[ep]at this;cases this;rfl
  rw[ed]at hg
  have gno:zC p=none->goR [] ps=none:=λe=>by rw[hg];show (match zC p with | none=>none | some b=>_)=_;rw[e]
  dsimp only[zH]
  refine⟨_,rfl,rfl,p,_,rfl,rfl,by decide +kernel,vb lp,λlw hlw=>?_⟩
  rw[show Str.ofString " " = TX [32] by decide +kernel]
  have s1:zl G (upd G lw (.lst ((Txt.split p (TX [32])).map V.str))):=zl.upd hlw
  have hw1:upd G lw (.lst ((Txt.split p (TX [32])).map V.str)) lw=some (.lst ((Txt.split p (TX [32])).map V.str)):=zj
  dsimp only[zH]
  generalize upd G lw (.lst ((Txt.split p (TX [32])).map V.str))=G1 at s1 hw1
  have s01:=sG.trans s1
  refine⟨_,rfl,lw,_,rfl,.inl (.of hw1),rfl,_,rfl,?_⟩
  rw[List.length_map,xj]
  by_cases c2:(Txt.split p (TX [32])).length=3
  case neg =>
   rw[decide_eq_false (show ¬((Txt.split p (TX [32])).length:Int)=3 by omega)]
   exact zJ (fin G1 s01 (gno (v3 c2)))
  rw[decide_eq_true (show ((Txt.split p (TX [32])).length:Int)=3 by omega)]
  refine zR ?_
  refine zL ?_
  obtain⟨a,b,c,eab⟩:∃a b c,Txt.split p (TX [32])=[a,b,c]:=by
   match hs:Txt.split p (TX [32]),c2 with
   | [a,b,c],_=>exact⟨a,b,c,rfl⟩
  have la:a.length<=10000:=Nat.le_trans (xt (y:=TX [32]) (by rw[eab];simp)) lp
  have lb:b.length<=10000:=Nat.le_trans (xt (y:=TX [32]) (by rw[eab];simp)) lp
  have lc:c.length<=10000:=Nat.le_trans (xt (y:=TX [32]) (by rw[eab];simp)) lp
  have eW:zC p=(rdR a).bind λp=>(rdR b).bind λq=>(rdN c).map λn=>((p,q),n):=by unfold zC;rw[eab]
  rw[eab]at hw1
  refine⟨_,rfl,lw,_,_,_,rfl,rfl,.of hw1,rfl,a,rfl,la,λv1 G2 s2 r1=>?_⟩
  refine⟨_,rfl,lw,_,_,_,rfl,rfl,.of (s2 _ _ hw1),rfl,b,rfl,lb,λv2 G3 s3 r2=>?_⟩
  refine⟨_,rfl,lw,_,_,_,rfl,rfl,.of (s3 _ _ (s2 _ _ hw1)),rfl,c,rfl,lc,?_⟩
  refine⟨by show 3<=sizeLine;decide,λt ht=>?_⟩
  have s4:=zl.upd (o:=.tup [v1,v2,oV (rdN c)]) ht
  have h4:upd G3 t (.tup [v1,v2,oV (rdN c)]) t=some (.tup [v1,v2,oV (rdN c)]):=zj
  dsimp only[zH]
  generalize upd G3 t (.tup [v1,v2,oV (rdN c)])=G4 at s4 h4
  have r1':=r1.tups ((xu.of s3).trans (.of s4))
  have r2':=r2.tups (.of s4)
  have s14:=(s2.trans s3).trans s4
  have s04:=s01.trans s14
  refine⟨_,rfl,t,_,[oD (rdR a),oD (rdR b),nD (rdN c)],rfl,rfl,.of h4,.cons r1'.rd (.cons r2'.rd (.cons (zds _ _) .nil)),λd m=>?_,_,rfl,?_⟩
  ·rcases List.mem_cons.mp m with rfl | m
   ·exact Jj _
   ·rcases List.mem_cons.mp m with rfl | m
    ·exact Jj _
    ·cases List.mem_singleton.mp m;exact zco _
  rw[any3,QF,QF,zaz]
  cases ha:rdR a with
  | none=>exact zJ (zJ (fin G4 s04 (gno (by rw[eW,ha];rfl))))
  | some q1 =>
  cases hb:rdR b with
  | none=>exact zJ (zJ (fin G4 s04 (gno (by rw[eW,ha,hb];rfl))))
  | some q2 =>
  cases hn:rdN c with
  | none=>exact zJ (zJ (fin G4 s04 (gno (by rw[eW,ha,hb,hn];rfl))))
  | some n =>
  rw[ha]at r1'
  rw[hb]at r2'
  rw[hn]at h4
  have eb:zC p=some ((q1,q2),n):=by rw[eW,ha,hb,hn];rfl
  have hbb:BI G4 (.ref t) ((q1,q2),n):=⟨t,v1,v2,rfl,h4,r1',r2'⟩
  have ok:=ZU eb
  have gyes:goR [] ps=if xC bs ((q1,q2),n)=true then goR (bs++[((q1,q2),n)]) (ps.drop (i+1))else none:=by rw[hg];show (match zC p with | none=>none | some b=>_)=_;rw[eb]
  have gf:xC bs ((q1,q2),n)=false->goR [] ps=none:=λe=>by rw[gyes,e];rfl
  have hlf4:=s14 _ _ (s1 _ _ hlf')
  have hB4:=hB.tups (xu.of (s1.trans s14))
  have hvl:=hB.1
  refine zR ?_
  refine⟨_,rfl,t,_,_,_,rfl,rfl,.of h4,rfl,_,_,rfl,rfl,_,rfl,?_⟩
  have wf:¬(1<=n/\n<=1000)->xC bs ((q1,q2),n)=false:=λz=>by
   have:wB ((q1,q2),n)=false:=by
    unfold wB
    show (decide (1<=n)&&decide (n<=1000))=false
    by_cases y:1<=n
    ·rw[decide_eq_false (show ¬n<=1000 from λy2=>z ⟨y,y2⟩),Bool.and_false]
    ·rw[decide_eq_false y,Bool.false_and]
   unfold xC;rw[this];rfl
  cases h0:decide ((0:Int)<n)with
  | false=>exact zR ⟨false,rfl,zJ (zJ (fin G4 s04 (gf (wf λz=>by have:=of_decide_eq_false h0;omega))))⟩
  | true =>
  have h0:=of_decide_eq_true h0
  refine zJ ⟨_,_,rfl,rfl,_,rfl,?_⟩
  cases h1:decide (n<1001)with
  | false=>exact zJ (zJ (fin G4 s04 (gf (wf λz=>by have:=of_decide_eq_false h1;omega))))
  | true =>
  have h1:=of_decide_eq_true h1
  refine zR ?_
  have hw:wB ((q1,q2),n)=true:=by
   unfold wB
   show (decide (1<=n)&&decide (n<=1000))=true
   rw[decide_eq_true (show 1<=n by omega),decide_eq_true (show n<=1000 by omega)];rfl
  refine⟨_,rfl,lf,vs,rfl,.inl (.of hlf4),rfl,_,rfl,?_⟩
  rw[xj,hvl]
  by_cases c8:bs.length=8
  ·rw[decide_eq_true (show (bs.length:Int)=8 by omega)]
   refine zJ (fin G4 s04 (gf ?_))
   unfold xC;rw[decide_eq_false (λz=>z c8)];simp
  rw[decide_eq_false (show ¬(bs.length:Int)=8 by omega)]
  refine zR ?_
  refine zL ?_
  dsimp only
  refine Zu (λσ' G'=>σ'=[some (.str x),some (.ref lf),some (.str p),some (.ref lw),some (.ref t)]/\zl G4 G'/\vF bs.getLast? ((q1,q2),n)=true) ?_ ?_
  ·rintro σ' G5 ⟨rfl,s5,hlo⟩
   have hlf5:=s5 _ _ hlf4
   refine⟨_,rfl,.inl ⟨rfl,_,SqL.of hlf5⟩,_,rfl,lf,_,_,rfl,rfl,hlf5,xQ (by omega),?_⟩
   have Tu:xu G5 (upd G5 lf (.lst (vs++[.ref t]))):=.upd hlf5
   have hst:xC bs ((q1,q2),n)=true:=by unfold xC;rw[hw,hlo,decide_eq_true c8];rfl
   refine⟨_,_,_,vs++[.ref t],bs++[((q1,q2),n)],rfl,λb o e=>?_,?_,zj,(hB4.tups ((xu.of s5).trans Tu)).snoc (hbb.tups ((xu.of s5).trans Tu)),by simp;omega,λd m=>?_,?_⟩
   ·rw[zM (zK e hlf)];exact s5 _ _ (s04 _ _ e)
   ·rw[zM (Ne.symm nfs)];exact s5 _ _ (s14 _ _ (s1 _ _ hls'))
   ·rcases List.mem_append.mp m with m | m
    ·exact hO d m
    ·cases List.mem_singleton.mp m;exact ok
   ·rw[gyes,if_pos hst]
  ·intro nx hnx
   refine⟨_,rfl,by show 0<=sizeLine;exact Nat.zero_le _,λl5 hl5=>?_⟩
   have s5:=zl.upd (o:=.lst []) hl5
   have h5:upd G4 l5 (.lst []) l5=some (.lst []):=zj
   generalize upd G4 l5 (.lst [])=G5 at s5 h5
   have hlf5:=s5 _ _ hlf4
   have hB5:=hB4.tups (xu.of s5)
   have hbb5:=hbb.tups (xu.of s5)
   have s05:=s04.trans s5
   refine⟨_,_,.lst hlf5 hB5.rds,.lst h5 .nil,zdg _,rfl,_,rfl,?_⟩
   rw[zb1]
   rcases List.eq_nil_or_concat bs with e0 | ⟨cs,cl,e0⟩
   ·subst e0
    exact zR (zR (hnx _ _ ⟨rfl,s5,rfl⟩))
   ·have e0:bs=cs++[cl]:=by simpa using e0
    subst e0
    obtain⟨ws,v,ev⟩:∃ws v,vs=ws++[v]:=by
     rcases List.eq_nil_or_concat vs with e | ⟨ws,v,e⟩
     ·rw[e]at hvl;simp at hvl
     ·exact⟨ws,v,by simpa using e⟩
    subst ev
    have hwl:ws.length=cs.length:=by simpa using hvl
    have hcl:=hB5.2 cs.length v cl (by rw[<-hwl];simp) (by simp)
    have ocl:=hO cl (by simp)
    obtain⟨pc,xc,yc,rfl,hpc,hxc,hyc⟩:=hcl
    have ht5:=s5 _ _ h4
    have hq1:RI G5 v1 q1:=r1'.tups (.of s5)
    have hq2:RI G5 v2 q2:=r2'.tups (.of s5)
    have i1:atI (ws++[V.ref pc]) (-1)=some (.ref pc):=jZ _ _
    have gl:(cs++[cl]).getLast? = some cl:=by simp
    have lst:vF (cs++[cl]).getLast? ((q1,q2),n)=(ltI cl.1.1 q1 || (decide (cl.1.1=q1)&&ltI cl.1.2 q2)):=by rw[gl];rfl
    have bad:vF (cs++[cl]).getLast? ((q1,q2),n)=false->goR [] ps=none:=λe=>gf (by unfold xC;rw[e];simp)
    rw[show (cs++[cl]).isEmpty=false by simp]
    refine zJ ?_
    refine⟨_,rfl,_,rfl,lf,_,-1,_,rfl,rfl,.of hlf5,i1,pc,_,_,_,rfl,rfl,.of hpc,rfl,_,rfl,t,_,_,_,rfl,rfl,.of ht5,rfl,xc,v1,cl.1.1,q1,rfl,hxc,hq1,ocl.mp,ok.mp,?_⟩
    refine⟨_,rfl,?_⟩
    show if(!ltI cl.1.1 q1)=true then _ else _
    cases hlt:ltI cl.1.1 q1 with
    | true =>
     rw[hlt,Bool.true_or]at lst
     exact zR (hnx _ _ ⟨rfl,s5,lst⟩)
    | false =>
     rw[hlt,Bool.false_or]at lst
     refine zJ ?_
     refine⟨_,rfl,_,rfl,lf,_,-1,_,rfl,rfl,.of hlf5,i1,pc,_,_,_,rfl,rfl,.of hpc,rfl,_,rfl,t,_,_,_,rfl,rfl,.of ht5,rfl,_,_,hxc.rd,hq1.rd,vP _,vP _,_,rfl,?_⟩
     rw[Qj]
     cases he:decide (cl.1.1=q1)with
     | false =>
      rw[he,Bool.false_and]at lst
      exact zJ (zJ (fin G5 s05 (bad lst)))
     | true =>
      rw[he,Bool.true_and]at lst
      refine zR ?_
      refine⟨_,rfl,_,rfl,lf,_,-1,_,rfl,rfl,.of hlf5,i1,pc,_,_,_,rfl,rfl,.of hpc,rfl,_,rfl,t,_,_,_,rfl,rfl,.of ht5,rfl,yc,v2,cl.1.2,q2,rfl,hyc,hq2,ocl.ms,ok.ms,?_⟩
      refine⟨_,rfl,?_⟩
      show if(!ltI cl.1.2 q2)=true then _ else _
      cases hl2:ltI cl.1.2 q2 with
      | true =>
       rw[hl2]at lst
       exact zR (hnx _ _ ⟨rfl,s5,lst⟩)
      | false =>
       rw[hl2]at lst
       exact zJ (fin G5 s05 (bad lst))
 ·rintro σ G ⟨z2,z3,z4,vs,bs,rfl,sG,hls',hlf',hB,h8,hO,hg⟩
  rw[List.length_map,List.drop_length]at hg
  refine⟨_,rfl,lf,vs,rfl,.inl ⟨SqL.of hlf',λt ht=>k _ _ (sG.trans (zl.upd ht)) ?_⟩⟩
  rw[hg]
  exact⟨t,rfl,vs,zj,hB.tups (.of (zl.upd ht))⟩
end
end KK
end
section
set_option maxHeartbeats 4000000
set_option Elab.async false
set_option linter.all false
set_option maxRecDepth 100000
namespace L2
open PySem PySem.Spec PyProof.Rows
theorem toK {X:Cx}{K:PySem.W.Frag}{e:Expr}{f:PySem.W.Frag->TE}(hK:X.K=K) (h:PE X e (f X.K)):PE X e (f K):=by subst hK;exact h
end L2
namespace KK
open PySem L2 KM PySem.NumText
theorem V1 (r:Int×Int):PyData.eqv (rD r) (rD r)=true:=by rw[Qj];exact decide_eq_true rfl
theorem zb6 (b:Bx3):PyData.eqv (bD3 b) (bD3 b)=true:=by
 show (PyData.eqv (rD b.1.1) (rD b.1.1)&&(PyData.eqv (rD b.1.2) (rD b.1.2)&&((b.2 == b.2)&&true)))=true
 rw[V1,V1,beq_self_eq_true];rfl
theorem V0:∀bs:List Bx3,PyData.eqvAll (bs.map bD3) (bs.map bD3)=true
 | []=>rfl
 | b::r=>by
  show (PyData.eqv (bD3 b) (bD3 b)&&PyData.eqvAll (r.map bD3) (r.map bD3))=true
  rw[zb6,V0 r];rfl
def rwD (bs:List Bx3):PyData:=.tuple (bs.map bD3)
theorem V2 (bs:List Bx3):PyData.eqv (rwD bs) (rwD bs)=true:=V0 bs
theorem Xi (bs:List Bx3):SeqAt.shaped (rwD bs)=true:=zb0 bs
theorem RwI.rd {H:Hp}{a:Addr}{bs:List Bx3}(h:RwI H a bs):RdD H (.ref a) (rwD bs):=by obtain⟨us,e,hB⟩:=h;exact .tup e hB.rds
section
variable {P:Program}{w:World}{K:PySem.W.Frag}{mg:Str->Option Value}{base:Heap}{tb tw:Tok}{aO:Addr}{C:Addr}{tF tM:Tok}
def zbJ:Sp:=λvs H Q _=>∃x bs,vs=[.str x]/\x.length<=10000/\zY x=some bs/\∀a H',zl H H'->RwI H' a bs->Q (.ref a) H'
theorem zcE (c:qU P w K mg base "read_row" 7 ["thing"] [] (QY C)):Cal P w K mg base "read_row" 7 ["thing"] [] zbJ:=by
 refine c.quiet λvs H Q E h=>?_
 obtain⟨x,bs,rfl,hx,e,k⟩:=h
 refine⟨x,rfl,hx,λbs' e' a H' s hw=>?_,λe'=>by rw[e]at e';cases e'⟩
 rw[e]at e';cases e'
 exact k a H' s hw
def zdW:Sp:=λvs H Q _=>∃x,vs=[.str x]/\x.length<=10000/\zY x=none/\∀H',zl H H'->Q (.bl true) H'
theorem XQ:zr ["thing","signs"] ["thing"] (zg xz):=⟨rfl,rfl,rfl,by decide +kernel,rfl,by decide +kernel,by decide +kernel⟩
theorem Jp (D:Df K mg "_law_refused" xz ["thing"] []) (O:Xs "NoText" C mg base) (cWs:qU P w K mg base "read_row" 7 ["thing"] [] (QY C)):Cal P w K mg base "_law_refused" 8 ["thing"] [] zdW:=by
 refine D.cal (k:=7) XQ (λvs H Q E h=>by obtain⟨_,rfl,_⟩:=h;rfl) (λf cdv A outer s H vs Q E hr h=>?_)
 obtain⟨x,rfl,hx,hn,k⟩:=h
 have hu:=hr.units
 refine⟨_,(zh (zA (i:=1) XQ.nd rfl (Or.inl rfl) (xx ze))
  (zh (QN (C:=C) rfl rfl O (by decide +kernel) (λpins W J hJ=>(zi (jQ (qV cWs hr hJ (zd (pv 0) ze))))) (λpins a oe d vs hc hdd hdt=>(zi (jQ (toK (K:=K) (f:=λK=>tBM K "list" QO (vn 1) _) rfl (vi PySem.F.plainAttrs_list PySem.F.slot_list_append PySem.F.type_list_append qH (pv 1) (zd vh ze)))))))
  (zi (zo (xD (Js hu) (pv 1) (xx (zd vh ze)) (zz _)))))),?_⟩
 refine⟨by show 0<=sizeLine;exact Nat.zero_le _,λl hl=>?_⟩
 dsimp only[zH]
 refine⟨_,rfl,x,rfl,hx,λbs e=>(by rw[hn]at e;cases e),λ_ H1 s1=>⟨C,rfl,rfl,?_⟩⟩
 have h1:=s1 l _ zj
 refine⟨_,rfl,.inl ⟨rfl,_,SqL.of h1⟩,l,_,_,rfl,rfl,h1,by show 0<sizeLine;decide,?_⟩
 refine⟨_,rfl,by show 1<=sizeLine;decide,λl2 hl2=>?_⟩
 have n2:l2≠l:=λz=>by rw[z,zj]at hl2;cases hl2
 refine⟨.list [.bool true],.list [.bool true],.lst (zl.upd hl2 _ _ zj) (.cons (.bl true) .nil),.lst zj (.cons (.bl true) .nil),rfl,rfl,?_⟩
 refine k _ λb o e=>?_
 refine zl.upd hl2 _ _ ?_
 rw[zM (zK e hl)]
 exact s1 _ _ (zl.upd hl _ _ e)
def zd1:Sp:=λvs H Q _=>∃x,vs=[.str x]/\x.length<=10000/\∀o H',zl H H'->(match zY x with | none=>o = .non | some bs=>∃a,o = .ref a/\RwI H' a bs)->Q o H'
theorem jl:zr ["text","found"] ["text"] (zg qq):=⟨rfl,rfl,rfl,by decide +kernel,rfl,by decide +kernel,by decide +kernel⟩
theorem Jq (D:Df K mg "_law_told" qq ["text"] []) (O:Xs "NoText" C mg base) (cWs:qU P w K mg base "read_row" 7 ["thing"] [] (QY C)):Cal P w K mg base "_law_told" 8 ["text"] [] zd1:=by
 refine D.cal (k:=7) jl (λvs H Q E h=>by obtain⟨_,rfl,_⟩:=h;rfl) (λf cdv A outer s H vs Q E hr h=>?_)
 obtain⟨x,rfl,hx,k⟩:=h
 refine⟨_,(zh (zA (i:=1) jl.nd rfl (Or.inl rfl) xm)
  (zh (QN (C:=C) rfl rfl O (by decide +kernel) (λpins W J hJ=>(zi (zA (i:=1) jl.nd rfl (Or.inl rfl) (qV cWs hr hJ (zd (pv 0) ze))))) (λpins a oe d vs hc hdd hdt=>(zi (zA (i:=1) jl.nd rfl (Or.inl rfl) xm))))
  (zi (zo (pv 1))))),?_⟩
 refine qS ?_
 dsimp only[tC]
 refine⟨_,rfl,x,rfl,hx,λbs e a H1 s1 hW=>⟨_,rfl,k _ H1 s1 (by rw[e];exact⟨a,rfl,hW⟩)⟩,λe H1 s1=>⟨C,rfl,rfl,⟨_,rfl,k _ H1 s1 (by rw[e])⟩⟩⟩
end
end KK
end
section
set_option maxHeartbeats 8000000
set_option Elab.async false
set_option linter.all false
set_option maxRecDepth 100000
namespace L2
open PySem PySem.Spec PyProof.Rows
section
variable {X:Cx}
def rSlE:V->Option Int->Option Int->Hp->VK->Prop:=λx lo hi H Q=>∃a xs,x = .ref a/\H a=some (.tup xs)/\∀p H',zl H H'->H' p=some (.tup (j7 xs lo hi))->Q (.ref p) H'
theorem zbk:SlR X rSlE:=by
 intro pins s σ H x v vl vu lo hi sl Q I rx hs pl pu h
 obtain⟨a,xs,rfl,ha,q⟩:=h
 by_cases hw:HT.sIx xs.length 0 lo=0/\HT.sIx xs.length xs.length hi=xs.length
 ·have e:j7 xs lo hi=xs:=by unfold j7;rw[hw.1,hw.2];simp
  exact J3 pins s σ H _ v vl vu lo hi sl Q I rx hs pl pu ⟨a,xs,rfl,.of ha,hw,q a H (zl.refl _) (by rw[e];exact ha)⟩
 ·exact J2 pins s σ H _ v vl vu lo hi sl Q I rx hs pl pu ⟨a,xs,rfl,.of ha,hw,λp hp=>q p _ (zl.upd hp) zj⟩
end
end L2
namespace KK
open PySem L2 KM PySem.NumText
def xB (b:qw):Bx3:=(((b.pl.num,(b.pl.den:Int)),(b.sp.num,(b.sp.den:Int))),b.wt)
theorem JG (q:Rat):xT q.num (q.den:Int)=true:=by
 unfold xT
 have h1:(1:Int)<=(q.den:Int):=by have:=q.den_pos;omega
 have h2:Int.gcd (q.num.natAbs:Int) (q.den:Int)=1:=by
  have:=q.reduced
  unfold Nat.Coprime at this
  simpa [Int.gcd]using this
 rw[decide_eq_true h1,decide_eq_true h2];rfl
theorem Xc (x y:Rat):ltI (x.num,(x.den:Int)) (y.num,(y.den:Int))=decide (x<y):=by
 unfold ltI
 exact decide_eq_decide.mpr (Rat.lt_iff x y).symm
theorem zcM {x y:Rat}(h:(x.num,(x.den:Int))=(y.num,(y.den:Int))):x=y:=by
 have h1:=congrArg Prod.fst h
 have h2:=congrArg Prod.snd h
 exact Rat.ext h1 (Int.ofNat.inj h2)
theorem zb8 {b c:qw}(h:Zb b c):flB (xB b) (xB c)=true:=by
 unfold flB
 by_cases e:(xB b).1.1=(xB c).1.1
 ·rw[if_pos e]
  have e:=zcM e
  show ltI (b.sp.num,(b.sp.den:Int)) (c.sp.num,(c.sp.den:Int))=true
  rw[Xc]
  rcases h with h | h
  ·rw[e]at h;exact absurd h (by grind)
  ·exact decide_eq_true h.2
 ·rw[if_neg e]
  show ltI (b.pl.num,(b.pl.den:Int)) (c.pl.num,(c.pl.den:Int))=true
  rw[Xc]
  rcases h with h | h
  ·exact decide_eq_true h
  ·exact absurd (by unfold xB;rw[h.1]) e
theorem QI:∀{bs:List qw},bs.Pairwise Zb->qQ (bs.map xB)=true
 | [],_=>rfl
 | [_],_=>rfl
 | b::c::r,h=>by
  obtain⟨h1,h2⟩:=List.pairwise_cons.mp h
  show (flB (xB b) (xB c)&&qQ ((c::r).map xB))=true
  rw[zb8 (h1 c (List.mem_cons_self ..)),QI h2];rfl
theorem JP {bs:List qw}(h:Zw bs) (h1:1<=bs.length) (h8:bs.length<=8):xn (bs.map xB)=true:=by
 unfold xn
 rw[List.length_map,decide_eq_true h1,decide_eq_true h8,QI h.pw]
 have:(bs.map xB).all wB=true:=List.all_eq_true.mpr λx m=>by
  obtain⟨b,mb,rfl⟩:=List.mem_map.mp m
  have:=h.wt b mb
  unfold wB
  show (decide (1<=b.wt)&&decide (b.wt<=1000))=true
  rw[decide_eq_true this.1,decide_eq_true this.2];rfl
 rw[this];rfl
theorem ZX {n:Nat}{q:Rat}(h:Sz n q) (hn:n<=110):Rz (q.num,(q.den:Int)):=by
 have e:(2:Nat)^110<10^60:=by decide
 exact⟨Nat.lt_trans (h.1.mono hn) e,Nat.lt_trans (h.2.mono hn) e⟩
theorem JS {q:Rat}(h:Rz (q.num,(q.den:Int))):Rx (q.num,(q.den:Int)):=⟨JG q,h.r3.1,h.r3.2⟩
theorem VR {b:qw}(h:Sz 100 b.pl/\Sz 100 b.sp) (hw:1<=b.wt/\b.wt<=1000):Bz (xB b):=by
 have e:(1000:Nat)<10^60:=by decide
 refine⟨ZX h.1 (by decide),ZX h.2 (by decide),?_,?_⟩
 ·show 0<=b.wt;omega
 ·show b.wt.natAbs<10^60
  exact Nat.lt_of_le_of_lt (show b.wt.natAbs<=1000 by omega) e
theorem Qt {b:qw}(h:Sz 100 b.pl/\Sz 100 b.sp) (hw:1<=b.wt/\b.wt<=1000):Xr (xB b):=by
 have z:=VR h hw
 have e:(10:Nat)^60<10^300:=by decide
 exact⟨JS z.1,JS z.2.1,z.2.2.1,Nat.lt_trans z.2.2.2 e⟩
theorem VP {H:Hp}{us:List V}{bs:List qw}(h:zI H us bs):BsI H us (bs.map xB):=by
 refine⟨by rw[h.length,List.length_map],λi v c e1 e2=>?_⟩
 obtain⟨a,p,q,b,eb,rfl,ha,hp,hq⟩:=h.get e1
 rw[List.getElem?_map,eb]at e2
 cases e2
 exact⟨a,.ref p,.ref q,rfl,ha,RI.of hp,RI.of hq⟩
def OkT (v:V):Prop:=∃t:Str,v = .str t/\zY t=none/\t.length<=10000
theorem OkT.of {l:List Nat}(h:zY (TX l)=none) (hl:l.length<=10000):OkT (.str (TX l)):=⟨_,rfl,h,by rw[zx];exact hl⟩
theorem Ql {bs:List Bx3}(hne:bs≠[]) (h8:bs.length<=8) (hz:∀b∈bs,Bz b):(rwL bs).length<=3300:=by
 have:=jh hz
 rw[vO hne]at this
 simp at this;omega
section
variable {cs:List Bx3}{cl:Bx3}{lw:Int×Int}
def am1 (x:Str):List V:=[.str (x++Str.ofString "; "),.str (Str.ofString " "++x),.str (x++Str.ofString " "),.str (x++Str.ofString ";"),.str (Str.ofString ""),.str (Str.ofString "; "++x),.str (qE x (Str.ofString " ") (Str.ofString "  ")),.str (x++Str.ofString " 1")]
def am2 (x z p s:Str):List V:=[.str (x++Str.ofString "; "++z),.str (x++Str.ofString "; "++p++Str.ofString " "++s),.str (x++Str.ofString "; 1 2 x"),.str (Str.ofString "-")]
def am3 (x lo:Str):List V:=[.str (x++Str.ofString "; "++lo++Str.ofString " 1 1"),.str (qE x (Str.ofString " ") (Str.ofString "\t")),.str (x++Str.ofString "\n"),.str (Str.ofString "a b 1; "++x)]
def wds:List Str:=[Str.ofString "0",Str.ofString "1001",Str.ofString "-1",Str.ofString "01",Str.ofString "1/2",Str.ofString ""]
def am4 (x:Str):List V:=wds.map λw=>.str (x++Str.ofString "; 1000000 0 "++w)
theorem Zl:Str.ofString "; " = TX [59,32]:=by decide +kernel
theorem jj:Str.ofString " " = TX [32]:=by decide +kernel
structure Am (cs:List Bx3) (cl:Bx3) (lw:Int×Int):Prop where
 h8:(cs++[cl]).length<=8
 hz:∀b∈cs++[cl],Bz b
 hok:∀b∈cs++[cl],Xr b
 lr:Rz lw
 lx:Rx lw
 lt:ltI lw cl.1.1=true
theorem Am.ne (A:Am cs cl lw):cs++[cl]≠[]:=by simp
theorem Am.len (A:Am cs cl lw):(rwL (cs++[cl])).length<=3300:=Ql A.ne A.h8 A.hz
theorem zbU (A:Am cs cl lw):∀v∈am1 (TX (rwL (cs++[cl]))),OkT v:=by
 have hl:=A.len
 obtain⟨b0,bs0,e0⟩:∃b0 bs0,cs++[cl]=b0::bs0:=by
  cases h:cs++[cl]with
  | nil=>exact absurd h A.ne
  | cons b r=>exact⟨b,r,rfl⟩
 intro v m
 unfold am1 at m
 rcases List.mem_cons.mp m with rfl | m
 ·rw[Zl,zF,show rwL (cs++[cl])++[59,32]=(rwL (cs++[cl])++[59])++[32] by simp]
  exact .of (ja (by decide)) (by simp;omega)
 rcases List.mem_cons.mp m with rfl | m
 ·rw[jj,zF]
  refine .of ?_ (by simp;omega)
  rw[e0];exact Vi (by decide) (J5 b0)
 rcases List.mem_cons.mp m with rfl | m
 ·rw[jj,zF]
  exact .of (ja (by decide)) (by simp;omega)
 rcases List.mem_cons.mp m with rfl | m
 ·rw[show Str.ofString ";" = TX [59] by decide +kernel,zF]
  exact .of (ja (by decide)) (by simp;omega)
 rcases List.mem_cons.mp m with rfl | m
 ·rw[show Str.ofString "" = TX [] by decide +kernel]
  exact .of Vq (by simp)
 rcases List.mem_cons.mp m with rfl | m
 ·rw[Zl,zF]
  exact .of (VE _ A.ne) (by simp;omega)
 rcases List.mem_cons.mp m with rfl | m
 ·rw[jj,show Str.ofString "  " = TX [32,32] by decide +kernel,e0]
  refine⟨_,rfl,za6 b0 bs0,?_⟩
  have:=QQ b0 bs0 (z:=[32,32]) (by decide)
  rw[<-e0]at this ⊢;omega
 ·cases List.mem_singleton.mp m
  rw[show Str.ofString " 1" = TX [32,49] by decide +kernel,zF]
  exact .of (VH rfl (by decide) (VQ cl [49] (by decide))) (by simp;omega)
theorem zb2 {lw:Int×Int}:rtL lw++[32,49,32,49]=btL ((lw,(1,1)),1):=by
 show _=rtL lw++32::(rtL (1,1)++32::ntL 1)
 rw[show rtL (1,1)=[49] by decide +kernel,show ntL 1=[49] by decide +kernel];rfl
theorem zbV (A:Am cs cl lw):∀v∈am2 (TX (rwL (cs++[cl]))) (TX (rwL [cl])) (TX (rtL cl.1.1)) (TX (rtL cl.1.2)),OkT v:=by
 have hl:=A.len
 have zc:=A.hz cl (by simp)
 have lb:=Z5 zc
 have l1:=qF zc.1
 have l2:=qF zc.2.1
 intro v m
 unfold am2 at m
 rcases List.mem_cons.mp m with rfl | m
 ·rw[Zl,zF,zF,show rwL [cl]=btL cl from rfl,List.append_assoc]
  exact .of (jL A.ne A.hok (Q8 cl) (vQ (A.hok cl (by simp))) (Zk (V4 cl))) (by simp;omega)
 rcases List.mem_cons.mp m with rfl | m
 ·rw[Zl,jj,zF,zF,zF,zF]
  rw[show rwL (cs++[cl])++[59,32]++rtL cl.1.1++[32]++rtL cl.1.2=rwL (cs++[cl])++59::32::(rtL cl.1.1++32::rtL cl.1.2) by simp]
  refine .of (vf A.ne (λm=>?_) (zai _ _)) (by simp;omega)
  rcases List.mem_append.mp m with m | m
  ·exact VB _ m
  ·rcases List.mem_cons.mp m with m | m
   ·cases m
   ·exact VB _ m
 rcases List.mem_cons.mp m with rfl | m
 ·rw[show Str.ofString "; 1 2 x" = TX (59::32::[49,32,50,32,120]) by decide +kernel,zF]
  exact .of (vf A.ne (by decide) zao) (by simp;omega)
 ·cases List.mem_singleton.mp m
  rw[show Str.ofString "-" = TX [45] by decide +kernel]
  exact .of X6 (by simp)
theorem zbW (A:Am cs cl lw):∀v∈am3 (TX (rwL (cs++[cl]))) (TX (rtL lw)),OkT v:=by
 have hl:=A.len
 have l1:=qF A.lr
 obtain⟨b0,bs0,e0⟩:∃b0 bs0,cs++[cl]=b0::bs0:=by
  cases h:cs++[cl]with
  | nil=>exact absurd h A.ne
  | cons b r=>exact⟨b,r,rfl⟩
 intro v m
 unfold am3 at m
 rcases List.mem_cons.mp m with rfl | m
 ·rw[Zl,show Str.ofString " 1 1" = TX [32,49,32,49] by decide +kernel,zF,zF,zF]
  rw[show rwL (cs++[cl])++[59,32]++rtL lw++[32,49,32,49]=rwL (cs++[cl])++59::32::(rtL lw++[32,49,32,49]) by simp]
  refine .of ?_ (by simp;omega)
  rw[zb2]
  have ok:Xr ((lw,(1,1)),1):=⟨A.lx,(⟨by decide,by decide +kernel,by decide +kernel⟩:Rx (1,1)),(by decide:(0:Int)<=1),(by decide +kernel:(1:Int).natAbs<10^300)⟩
  exact jL A.ne A.hok (Q8 _) (vQ ok) (Zk (Ve A.lt))
 rcases List.mem_cons.mp m with rfl | m
 ·rw[jj,show Str.ofString "\t" = TX [9] by decide +kernel,e0]
  refine⟨_,rfl,za5 b0 bs0,?_⟩
  have:=QQ b0 bs0 (z:=[9]) (by decide)
  rw[<-e0]at this ⊢;omega
 rcases List.mem_cons.mp m with rfl | m
 ·rw[show Str.ofString "\n" = TX [10] by decide +kernel,zF]
  exact .of (ja (by decide)) (by simp;omega)
 ·cases List.mem_singleton.mp m
  rw[show Str.ofString "a b 1; " = TX [97,32,98,32,49,59,32] by decide +kernel,zF]
  exact .of (zar _ A.ne) (by simp;omega)
theorem zbX (A:Am cs cl lw):∀v∈am4 (TX (rwL (cs++[cl]))),OkT v:=by
 have hl:=A.len
 have eM:Str.ofString "; 1000000 0 " = TX (59::32::[49,48,48,48,48,48,48,32,48,32]):=by decide +kernel
 have go:∀(w:Str) (l:List Nat),w=TX l->l.length<=100->zY (TX (rwL (cs++[cl])++59::32::([49,48,48,48,48,48,48,32,48,32]++l)))=none->OkT (.str (TX (rwL (cs++[cl]))++Str.ofString "; 1000000 0 "++w)):=by
  rintro w l rfl ll h
  rw[eM,zF,zF,show rwL (cs++[cl])++59::32::[49,48,48,48,48,48,48,32,48,32]++l=rwL (cs++[cl])++59::32::([49,48,48,48,48,48,48,32,48,32]++l) by simp]
  exact .of h (by simp;omega)
 intro v m
 obtain⟨w,mw,rfl⟩:=List.mem_map.mp m
 unfold wds at mw
 rcases List.mem_cons.mp mw with rfl | mw
 ·exact go _ [48] (by decide +kernel) (by decide) (jL A.ne A.hok (by decide) zee (zdb _))
 rcases List.mem_cons.mp mw with rfl | mw
 ·exact go _ [49,48,48,49] (by decide +kernel) (by decide) (jL A.ne A.hok (by decide) zam (VJ _))
 rcases List.mem_cons.mp mw with rfl | mw
 ·exact go _ [45,49] (by decide +kernel) (by decide) (vf A.ne (by decide) zbv)
 rcases List.mem_cons.mp mw with rfl | mw
 ·exact go _ [48,49] (by decide +kernel) (by decide) (vf A.ne (by decide) zda)
 rcases List.mem_cons.mp mw with rfl | mw
 ·exact go _ [49,47,50] (by decide +kernel) (by decide) (vf A.ne (by decide) zan)
 ·cases List.mem_singleton.mp mw
  exact go _ [] (by decide +kernel) (by decide) (vf A.ne (by decide) zbw)
end
end KK
end
section
set_option maxHeartbeats 8000000
set_option Elab.async false
set_option linter.all false
set_option maxRecDepth 100000
namespace KK
open PySem L2 KM PySem.NumText
theorem _root_.L2.Sz.sub7 {m n:Nat}{x y:Rat}(h:Sz m x) (k:Sz n y):Sz (m+n+1) (x - y):=by
 rw[Rat.sub_eq_add_neg]
 exact h.add ⟨by rw[Rat.neg_num];exact k.1.neg,by rw[Rat.neg_den];exact k.2⟩
def sev:Rat:=⟨1,7,by decide,by decide⟩
theorem J1:Sz 3 sev:=⟨show (1:Int).natAbs<2^3 by decide,show ((7:Nat):Int).natAbs<2^3 by decide⟩
theorem zbj:0<sev:=by decide
theorem Xn {α β:Type}{t:α->β->Hp->Prop}{c:α}{σ:β}{H:Hp}{l:Addr}{o:HO}(h:H l=none) (k:∀G,zl H G->G l=some o->t c σ G):t c σ (upd H l o):=k _ (zl.upd h) zj
theorem VW (ws:List V) (v:V):j7 (ws++[v]) (some (-1)) none=[v]:=by
 have e1:HT.sIx (ws++[v]).length 0 (some (-1))=ws.length:=by
  unfold HT.sIx;simp;omega
 have e2:HT.sIx (ws++[v]).length (ws++[v]).length none=(ws++[v]).length:=rfl
 unfold j7
 rw[e1,e2,List.drop_left]
 simp
section
variable {P:Program}{w:World}{K:PySem.W.Frag}{mg:Str->Option Value}{base:Heap}{C:Addr}
def zdO:Sp:=λvs H Q _=>∃(a p:Addr) (us:List V) (bs:List qw),vs=[.ref a,.ref p]/\H a=some (.tup us)/\zI H us bs/\Zw bs/\(∀b∈bs,Sz 100 b.pl/\Sz 100 b.sp)/\1<=bs.length/\bs.length<=8/\vD H p/\∀t H',xS p H H'->zY t=none->t.length<=10000->Q (.str t) H'
theorem vy:zr ["row","pool","text","place","speed","some","lower"] ["row","pool"] (zg x6):=⟨rfl,rfl,rfl,by decide +kernel,rfl,by decide +kernel,by decide +kernel⟩
theorem zcx (D:Df K mg "_law_amiss" x6 ["row","pool"] []) (T:TxB K mg) (cN:Cal P w K mg base "_law_next" 1 ["pool","base"] [] jD) (cLr:Cal P w K mg base "_law_row_text" 3 ["row"] [] J4) (cLt:Cal P w K mg base "_law_ratio_text" 2 ["one"] [] zc1) (cGa:Cal P w K mg base "_law_gap" 3 ["one","other"] [] (QV Sz2 (· - ·))):Cal P w K mg base "_law_amiss" 4 ["row","pool"] [] zdO:=by
 refine D.calB (k:=3) vy (λvs H Q E h=>by obtain⟨_,_,_,_,rfl,_⟩:=h;rfl) (λf cdv A outer s H vs Q E hr3 h=>?_)
 obtain⟨a,p,us,bs,rfl,ha,hB,hG,hz,h1,h8,hP,k⟩:=h
 have hr1:xa 1 _:=hr3.mono (by decide)
 have hr2:xa 2 _:=hr3.mono (by decide)
 obtain⟨cs,cl,rfl⟩:∃cs cl,bs=cs++[cl]:=by
  rcases List.eq_nil_or_concat bs with e | ⟨ws,v,e⟩
  ·rw[e]at h1;simp at h1
  ·exact⟨ws,v,by simpa using e⟩
 obtain⟨ws,b,r,q,rfl,hb,hr,hq⟩:=hB.last
 have hW:RwI H a ((cs++[cl]).map xB):=⟨_,ha,VP hB⟩
 have zB:∀b∈(cs++[cl]).map xB,Bz b:=λx m=>by
  obtain⟨b,mb,rfl⟩:=List.mem_map.mp m
  exact VR (hz b mb) (hG.wt b mb)
 have okB:∀b∈(cs++[cl]).map xB,Xr b:=λx m=>by
  obtain⟨b,mb,rfl⟩:=List.mem_map.mp m
  exact Qt (hz b mb) (hG.wt b mb)
 have eM:(cs++[cl]).map xB=cs.map xB++[xB cl]:=by simp
 have hne:(cs++[cl]).map xB≠[]:=by simp
 have h8':((cs++[cl]).map xB).length<=8:=by rw[List.length_map];exact h8
 have i1:atI (ws++[V.ref b]) (-1)=some (.ref b):=jZ _ _
 have zcl:=zB (xB cl) (by simp)
 have hx:=Ql hne h8' zB
 obtain⟨x,ex⟩:∃x,x=TX (rwL ((cs++[cl]).map xB)):=⟨_,rfl⟩
 have lx:x.length<=3300:=by rw[ex,zx];exact hx
 have z1:∀n:Nat,n<=1000->x.length+n<=sizeLine:=λn hn=>by rw[sizeLine_eq];omega
 have z2:∀n:Nat,n<=1000->n+x.length<=sizeLine:=λn hn=>by rw[sizeLine_eq];omega
 have z3:∀n:Nat,n<=10->x.length+(x.length+1)*n<=16777216:=λn hn=>by
  have:(x.length+1)*n<=3301*10:=Nat.mul_le_mul (by omega) hn
  omega
 refine⟨_,(qx (Bx.mk (zA (i:=2) vy.nd rfl (Or.inr rfl) (zE cLr hr3 (zd (pv 0) ze))))
  (qx (Bx.mk (zA (i:=3) vy.nd rfl (Or.inl rfl) (zE cLt hr2 (zd (zq zv (zq zv (pv 0) (qX qg zf) (λ_ _=>rfl)) zf (λ_ _=>rfl)) ze))))
  (qx (Bx.mk (zA (i:=4) vy.nd rfl (Or.inl rfl) (zE cLt hr2 (zd (zq zv (zq zv (pv 0) (qX qg zf) (λ_ _=>rfl)) zf (λ_ _=>rfl)) ze))))
  (qx (Z6 (i:=5) vy.nd rfl (Or.inl rfl) (Bx.mk (xx (zd (zu zn (pv 2) zw) (zd (zu zn zw (pv 2)) (zd (zu zn (pv 2) zw) (zd (zu zn (pv 2) zw) (zd zw (zaY (i:=2) (QL (i:=2) (PA.p (zd (zu zn (pv 2) zw) ze))))))))))))
  (qx (Z6 (i:=5) vy.nd rfl (Or.inl rfl) (Bx.mk (zu jO (pv 5) (xx (zd (zu zn (zu zn (pv 2) zw) (zE cLr hr3 (zd (qz zbk (pv 0) (qZ (qX qg zf)) qY) ze))) (zd (zu zn (zu zn (zu zn (zu zn (pv 2) zw) (pv 3)) zw) (pv 4)) (zd (zu zn (pv 2) zw) (zd zw ze))))))))
  (qx (Bx.mk (zA (i:=6) vy.nd rfl (Or.inl rfl) (zE cLt hr2 (zd (zE cGa hr3 (zd (zq zv (zq zv (pv 0) (qX qg zf) (λ_ _=>rfl)) zf (λ_ _=>rfl)) (zd (vt (zd zf (zd zf ze))) ze))) ze))))
  (qx (Z6 (i:=5) vy.nd rfl (Or.inl rfl) (Bx.mk (zu jO (pv 5) (xx (zaZ (zu zn (zu zn (pv 2) zw) (pv 6)) (QL (i:=2) (PA.p (zd (zu zn (pv 2) zw) (zd (zu zn zw (pv 2)) ze)))))))))
  (qx (Z6 (i:=5) vy.nd rfl (Or.inl rfl) (Bx.mk (zu jO (pv 5) (Jv (NB:=["word"]) (FR:=["text"]) (js:=[2]) rfl rfl (λ_ _ h=>h) (.cons rfl rfl rfl ⟨_,rfl⟩ .nil) rfl (by decide +kernel) rfl (by decide +kernel) (jP (xx (zd zw (zd zw (zd zw (zd zw (zd zw (zd zw ze)))))))) (by intro _ _ _;refine⟨?_,?_,?_⟩;(exact(zT (i:=0) (show List.Nodup (["word","text"]:List Str) by decide +kernel) rfl (Or.inl rfl)));(exact vw);(exact(zu zn (zu zn (pv 1) zw) (pv 0))))))))
  (Bx.mk (zi (zo (zq zS (pv 5) (zE cN hr1 (zd (pv 1) (zd (zG zU (by rfl) T.nLen PySem.boot_len (zd (pv 5) ze)) ze))) (λ_ _=>rfl))))))))))))),?_⟩
 refine⟨_,rfl,a,_,rfl,hW,hne,h8',zB,λG1 s1=>?_⟩
 rw[<-ex]
 dsimp only[zH]
 refine⟨_,rfl,_,rfl,a,_,-1,_,rfl,rfl,.of (s1 _ _ ha),i1,b,_,_,_,rfl,rfl,.of (s1 _ _ hb),rfl,.ref r,_,rfl,RI.of (hr.same s1),zcl.1.r3,λG2 s2=>?_⟩
 dsimp only[zH]
 have s02:=s1.trans s2
 refine⟨_,rfl,_,rfl,a,_,-1,_,rfl,rfl,.of (s02 _ _ ha),i1,b,_,_,_,rfl,rfl,.of (s02 _ _ hb),rfl,.ref q,_,rfl,RI.of (hq.same s02),zcl.2.1.r3,λG3 s3=>?_⟩
 dsimp only[zH]
 have s03:=s02.trans s3
 have lp:=qF zcl.1
 have ls:=qF zcl.2.1
 refine qS ?_
 refine⟨_,rfl,_,_,rfl,rfl,z1 _ (by decide),_,rfl,_,_,rfl,rfl,z2 _ (by decide),_,rfl,_,_,rfl,rfl,z1 _ (by decide),_,rfl,_,_,rfl,rfl,z1 _ (by decide),x,rfl,z2 _ (by decide),x,rfl,z3 _ (by decide),_,rfl,_,_,rfl,rfl,z1 _ (by decide),by show 8<=sizeLine;decide,λl1 hl1=>?_⟩
 dsimp only
 have s4:=zl.upd (o:=.lst (am1 x)) hl1
 have h4:upd G3 l1 (.lst (am1 x)) l1=some (.lst (am1 x)):=zj
 have s04:=s03.trans s4
 refine qS ?_
 obtain⟨z,ez⟩:∃z,z=TX (rwL [xB cl]):=⟨_,rfl⟩
 have lz:z.length<=400:=by rw[ez,zx];exact Z5 zcl
 have e59:(Str.ofString "; ").length=2:=by decide +kernel
 have e32:(Str.ofString " ").length=1:=by decide +kernel
 obtain⟨pt,ept⟩:∃z,z=TX (rtL (xB cl).1.1):=⟨_,rfl⟩
 obtain⟨st,est⟩:∃z,z=TX (rtL (xB cl).1.2):=⟨_,rfl⟩
 have lpt:pt.length<=123:=by rw[ept,zx];exact lp
 have lst:st.length<=123:=by rw[est,zx];exact ls
 have hcl:BI H (.ref b) (xB cl):=⟨b,.ref r,.ref q,rfl,hb,RI.of hr,RI.of hq⟩
 refine⟨_,rfl,_,rfl,_,_,rfl,rfl,z1 _ (by decide),_,rfl,_,rfl,-1,rfl,a,_,rfl,s04 _ _ ha,λa1 G5 s5 h5=>?_⟩
 rw[VW]at h5
 refine⟨a1,[xB cl],rfl,⟨_,h5,⟨rfl,λi v c e1 e2=>?_⟩⟩,by simp,by simp,λc m=>by cases List.mem_singleton.mp m;exact zcl,λG6 s6=>?_⟩
 ·cases i with
  | zero=>cases e1;cases e2;exact hcl.tups (.of (s04.trans s5))
  | succ i=>simp at e1
 rw[<-ez]
 refine⟨_,_,rfl,rfl,by rw[zk,e59,sizeLine_eq];omega,?_⟩
 have s06:=(s04.trans s5).trans s6
 refine⟨_,rfl,_,_,rfl,rfl,z1 _ (by decide),_,rfl,_,_,rfl,rfl,?_,_,_,rfl,rfl,?_,_,rfl,_,_,rfl,rfl,?_,_,rfl,_,_,rfl,rfl,z1 _ (by decide),by show 4<=sizeLine;decide,λl2 hl2=>?_⟩
 ·have:(rtL (cl.pl.num,(cl.pl.den:Int))).length<=123:=lp
  rw[zk,e59,zx,sizeLine_eq];omega
 ·have:(rtL (cl.pl.num,(cl.pl.den:Int))).length<=123:=lp
  rw[zk,zk,e59,e32,zx,sizeLine_eq];omega
 ·have:(rtL (cl.pl.num,(cl.pl.den:Int))).length<=123:=lp
  have:(rtL (cl.sp.num,(cl.sp.den:Int))).length<=123:=ls
  rw[zk,zk,zk,e59,e32,zx,zx,sizeLine_eq];omega
 have h61:=s6 _ _ (s5 _ _ h4)
 refine⟨l1,l2,am1 x,am2 x z pt st,rfl,rfl,.of (zl.upd hl2 _ _ h61),.of (by rw[ept,est];exact zj),by show 8+4<=sizeLine;decide,λl3 hl3=>?_⟩
 dsimp only
 refine Xn hl3 λG7 s7 h7=>?_
 have s07:=(s06.trans (zl.upd hl2)).trans s7
 have zpl:=(hz cl (by simp)).1
 have zlo:Sz 104 (cl.pl - sev):=(zpl.sub7 J1).mono (by decide)
 refine⟨_,rfl,_,rfl,a,_,-1,_,rfl,rfl,.of (s07 _ _ ha),i1,b,_,_,_,rfl,rfl,.of (s07 _ _ hb),rfl,by show 2<=sizeLine;decide,λt ht=>⟨r,t,cl.pl,sev,rfl,hr.same (s07.trans (zl.upd ht)),zj,⟨zpl.mono (by decide),J1.mono (by decide)⟩,λr2 G8 s8 h8=>⟨.ref r2,_,rfl,RI.of h8,(ZX zlo (by decide)).r3,λG9 s9=>?_⟩⟩⟩
 dsimp only[zH]
 have s79:=((zl.upd ht).trans s8).trans s9
 have h9:=s79 _ _ h7
 have s09:=s07.trans s79
 obtain⟨lo,elo⟩:∃z,z=TX (rtL ((cl.pl - sev).num,((cl.pl - sev).den:Int))):=⟨_,rfl⟩
 have llo:lo.length<=123:=by rw[elo,zx];exact qF (ZX zlo (by decide))
 have e4:(Str.ofString " 1 1").length=4:=by decide +kernel
 rw[<-elo]
 refine qS ?_
 refine⟨_,rfl,_,rfl,_,_,rfl,rfl,z1 _ (by decide),_,rfl,_,_,rfl,rfl,by rw[zk,e59,sizeLine_eq];omega,_,rfl,by rw[zk,zk,e59,e4,sizeLine_eq];omega,x,rfl,z3 _ (by decide),_,rfl,_,_,rfl,rfl,z1 _ (by decide),_,rfl,_,_,rfl,rfl,z2 _ (by decide),by show 4<=sizeLine;decide,λl4 hl4=>?_⟩
 refine⟨l3,l4,am1 x++am2 x z pt st,am3 x lo,rfl,rfl,.of (zl.upd hl4 _ _ h9),.of zj,by show 12+4<=sizeLine;decide,λl5 hl5=>?_⟩
 dsimp only
 refine Xn hl5 λG10 s10 h10=>?_
 have s010:=(s09.trans (zl.upd hl4)).trans s10
 refine qS ?_
 refine⟨_,rfl,by show 6<=sizeLine;decide,λl6 hl6=>?_⟩
 have e12:(Str.ofString "; 1000000 0 ").length=12:=by decide +kernel
 refine⟨l6,rfl,⟨_,SqL.of zj⟩,λDc hDc=>?_⟩
 refine X5 (js:=[2]) (J:=Itl K l6) (g:=zH 0) (te:=_) (n:=1) (xs:=wds.map V.str) (λi v _=>∃wd,wds[i]? = some wd/\v = .str (x++Str.ofString "; 1000000 0 "++wd)) (λ_ _ _ _ _ h=>h) hDc (ZV zj) (xQ (by decide)) ?_ ?_
 ·rintro i v zs G Q' hv hz1 sG kQ
  obtain⟨y1,rfl⟩:=XB hz1
  rw[List.getElem?_map]at hv
  obtain⟨wd,ew,rfl⟩:=Option.map_eq_some_iff.mp hv
  have lw:wd.length<=10:=by
   have:wds.all (λw=>decide (w.length<=10))=true:=by decide +kernel
   exact of_decide_eq_true (List.all_eq_true.mp this wd (List.mem_of_getElem? ew))
  refine⟨rfl,_,rfl,_,_,rfl,rfl,z1 _ (by decide),_,rfl,_,_,rfl,rfl,by rw[zk,e12,sizeLine_eq];omega,kQ _ G (zl.refl _) ⟨wd,ew,rfl⟩⟩
 intro ys G11 s11 h11 hyl hys
 have ey:ys=am4 x:=by
  refine List.ext_getElem? λi=>?_
  cases e:ys[i]? with
  | none =>
   have:6<=i:=by have:=List.getElem?_eq_none_iff.mp e;rw[hyl]at this;exact this
   exact(List.getElem?_eq_none_iff.mpr (by show 6<=i;exact this)).symm
  | some v =>
   obtain⟨wd,ew,rfl⟩:=hys i v e
   unfold am4
   rw[List.getElem?_map,ew];rfl
 have h511:=s11 _ _ (zl.upd hl6 _ _ h10)
 refine⟨l5,Dc,(am1 x++am2 x z pt st)++am3 x lo,am4 x,rfl,rfl,.of h511,.of (by rw[<-ey];exact h11),by show 16+6<=sizeLine;decide,λl7 hl7=>?_⟩
 dsimp only
 have s011:=s010.trans ((zl.upd hl6).trans s11)
 refine Xn hl7 λG12 s12 h12=>?_
 have s012:=s011.trans s12
 have hP12:vD G12 p:=by obtain⟨x,y,z,e⟩:=hP;exact⟨x,y,z,s012 _ _ e⟩
 have n7:l7≠p:=vD.ne (by obtain⟨x,y,z,e⟩:=hP;exact⟨x,y,z,s011 _ _ e⟩) hl7
 obtain⟨am,eam⟩:∃am,am=((am1 x++am2 x z pt st)++am3 x lo)++am4 x:=⟨_,rfl⟩
 have aln:am.length=22:=by rw[eam];rfl
 rw[<-eam]at h12
 refine⟨_,rfl,_,rfl,_,rfl,l7,am,rfl,.inl (.of h12),p,22,?_,by decide,by decide,hP12,λd G a0 b0 t5=>?_⟩
 ·rw[aln];rfl
 obtain⟨v,er,mr⟩:=j3 (xs:=am) a0 (by rw[aln];exact b0)
 have AM:Am (cs.map xB) (xB cl) ((cl.pl - sev).num,((cl.pl - sev).den:Int)):=by
  refine⟨by rw[<-eM];exact h8',by rw[<-eM];exact zB,by rw[<-eM];exact okB,ZX zlo (by decide),JS (ZX zlo (by decide)),?_⟩
  show ltI _ (cl.pl.num,(cl.pl.den:Int))=true
  rw[Xc]
  exact decide_eq_true (by have:=zbj;grind)
 have ok:OkT v:=by
  rw[eam]at mr
  rw[eM]at ex
  rcases List.mem_append.mp mr with m | m
  ·rcases List.mem_append.mp m with m | m
   ·rcases List.mem_append.mp m with m | m
    ·rw[ex]at m;exact zbU AM v m
    ·rw[ex,ez,ept,est]at m;exact zbV AM v m
   ·rw[ex,elo]at m;exact zbW AM v m
  ·rw[ex]at m;exact zbX AM v m
 obtain⟨t',rfl,o1,o2⟩:=ok
 refine⟨l7,am,_,_,rfl,rfl,.of (t5.keep l7 _ h12 n7),er,k t' G (t5.pre s012) o1 o2⟩
end
end KK
end
section
set_option maxHeartbeats 8000000
set_option Elab.async false
set_option linter.all false
set_option maxRecDepth 100000
namespace KK
open PySem L2 KM PySem.NumText
def nb (k:Nat):Bx3:=((((k:Int),1),(0,1)),1)
theorem VU {J:It}{D:Addr}{N n:Nat}{g:TG}{tt:TT}{te:TE}{Z:Hp->Prop}{H:Hp}(Pv:Nat->Hp->List V->Prop) (h0:Pv 0 (upd H D (.lst [])) []) (hgo:∀i H ys,i<N->Pv i H ys->J.go i H) (hst:∀H ys,Pv N H ys->J.stop N H)
  (hs:∀i x zs H2 H3 ys (Nx:Hp->List V->Prop),(∀H ys,Pv (i+1) H ys->Nx H ys)->i<N->zs.length=n->J.yld i H2 x H3->Pv i H2 ys->H2 D=some (.lst ys)->g x zs H3 λσ4 H4=>tt σ4 H4 λb H5 =>
   if b=true then te σ4 H5 (λv H6=>H6 D=some (.lst ys)/\ys.length<sizeLine/\Nx (upd H6 D (.lst (ys++[v]))) (ys++[v]))else H5 D=some (.lst ys)/\Nx H5 ys)
  (hd:∀H ys,Pv N H ys->H D=some (.lst ys)->Z H) :
  ∃W:Nat->Nat->Hp->List V->Prop,(∃m,W 0 m (upd H D (.lst [])) [])/\∀i m H2 ys,W i m H2 ys->H2 D=some (.lst ys)->(J.stop i H2/\Z H2) ∨
   (J.go i H2/\∀σB x H3,σB.length=n->J.yld i H2 x H3->g x σB H3 λσ4 H4=>tt σ4 H4 λb H5=>if b=true then te σ4 H5 (λv H6=>H6 D=some (.lst ys)/\ys.length<sizeLine/\∃m',m'<m/\W (i+1) m' (upd H6 D (.lst (ys++[v]))) (ys++[v]))
    else H5 D=some (.lst ys)/\∃m',m'<m/\W (i+1) m' H5 ys):=Z8 (Q:=λ_ H=>Z H) Pv h0 hgo hst hs hd
theorem zdp (k:Nat):btL (nb k)=ntL (k:Int)++[32,48,32,49]:=by
 show rtL ((k:Int),1)++32::(rtL (0,1)++32::ntL 1)=_
 rw[show rtL (0,1)=[48] by decide +kernel,show ntL 1=[49] by decide +kernel,show rtL ((k:Int),1)=ntL (k:Int) by unfold rtL;rw[if_pos rfl]]
 rfl
theorem Jf {k:Nat}(h:k<9):(ntL (k:Int)).length<=60:=by
 have:∀k:Fin 9,(ntL ((k:Nat):Int)).length<=60:=by decide +kernel
 exact this ⟨k,h⟩
theorem zaA:(List.range 9).map (λk=>TX (btL (nb k)))=(Qd.map btL).map TX:=by
 unfold Qd;rw[List.map_map,List.map_map];rfl
section
variable {P:Program}{w:World}{K:PySem.W.Frag}{mg:Str->Option Value}{base:Heap}{C:Addr}
def QW (K:PySem.W.Frag):Sp:=λvs H Q _=>∃(a:Addr) (ns:List Int),vs=[.ref a]/\SqL K H a (ns.map V.int)/\ns.length<=63/\∀H',Q (.bl true) H'
theorem v4:zr ["script","cell","pool","row","text","most","bent"] ["script"] (zg s_law):=⟨rfl,rfl,rfl,by decide +kernel,rfl,by decide +kernel,by decide +kernel⟩
theorem zcy {fl:Addr}{fdl:FuncData}(D:Fun K "law" "law" s_law fl fdl) (T:TxB K mg) (cD:Cal P w K mg base "_law_pool" 1 ["cell"] [] zbE) (cRo:Cal P w K mg base "_law_row" 4 ["pool","most"] [] zbI) (cLr:Cal P w K mg base "_law_row_text" 3 ["row"] [] J4) (cFi:Cal P w K mg base "_law_figures" 1 ["number"] [] zbl)
  (cRt:Cal P w K mg base "row_text" 5 ["row"] [] zbK) (cRq:Cal P w K mg base "read_row" 7 ["thing"] [] zbJ) (cRf:Cal P w K mg base "_law_refused" 8 ["thing"] [] zdW) (cAm:Cal P w K mg base "_law_amiss" 4 ["row","pool"] [] zdO) (cBe:Cal P w K mg base "_law_bent" 2 ["text","pool"] [] zdP)
  (cTo:Cal P w K mg base "_law_told" 8 ["text"] [] zd1) (cRr:Cal P w K mg base "_law_read_row" 3 ["text"] [] zbG):jJ P w K mg base CX0 9 fl fdl ["script"] (QW K):=by
 refine D.ok (k:=8) v4 (λvs H Q E h=>by obtain⟨a,us,rfl,_⟩:=h;rfl) (λcdv A outer s H vs Q E hr h=>?_)
 obtain⟨a,ns,rfl,hS,hlen,k⟩:=h
 have hr1:xa 1 _:=hr.mono (by decide)
 have hr2:xa 2 _:=hr.mono (by decide)
 have hr3:xa 3 _:=hr.mono (by decide)
 have hr4:xa 4 _:=hr.mono (by decide)
 have hr5:xa 5 _:=hr.mono (by decide)
 have hr7:xa 7 _:=hr.mono (by decide)
 have hu:=hr.units
 refine⟨_,(zh (Zf PassesOwn.never rfl (jP (zu jO (xx (zd zf ze)) (pv 0))) (zT (i:=1) v4.nd rfl (Or.inl rfl)) (zh (zA (i:=2) v4.nd rfl (Or.inl rfl) (zE cD hr1 (zd (pv 1) ze)))
  (zh (zA (i:=3) v4.nd rfl (Or.inl rfl) (zE cRo hr4 (zd (pv 2) (zd zf ze))))
  (zh (zA (i:=4) v4.nd rfl (Or.inl rfl) (zE cLr hr3 (zd (pv 3) ze)))
  (zh (zW (qB (zy jG (zE cRt hr5 (zd (pv 3) ze)) (pv 4) (zz _)) (qD (zy (Xg hu) (zE cRq hr7 (zd (pv 4) ze)) (pv 3) (zz _)))).pt (zi (zo vh)) zD)
  (zh (zA (i:=5) v4.nd rfl (Or.inl rfl) (vi PySem.F.plainAttrs_str PySem.F.slot_str_join PySem.F.type_str_join Xe zw (zd (jf (NB:=["k"]) rfl (by decide +kernel) (by decide +kernel) rfl (by decide +kernel) (ZQ rfl T.nRange (zd zf ze)) (by intro _ _ _;refine⟨?_,?_,?_⟩;(exact(zT (i:=0) (show List.Nodup (["k"]:List Str) by decide +kernel) rfl (Or.inl rfl)));(exact vw);(exact(zu zn (zE cFi hr1 (zd (pv 0) ze)) zw)))) ze)))
  (zh (zW (qB (xh (zV (zE cRf hr (zd (zE cAm hr4 (zd (pv 3) (zd (pv 2) ze))) ze)) λ_=>rfl)) (qD (xh (zV (zE cRf hr (zd (pv 5) ze)) λ_=>rfl)))).pt (zi (zo vh)) zD)
  (zh (zA (i:=6) v4.nd rfl (Or.inl rfl) (zE cBe hr2 (zd (pv 4) (zd (pv 2) ze))))
  (zi (zW (zy (Xg hu) (zE cTo hr (zd (pv 6) ze)) (zE cRr hr3 (zd (pv 6) ze)) (zz _)) (zi (zo vh)) zD))))))))))
  (zi (zo vh))),?_⟩
 refine Zt ?_
 refine⟨by show 1<=sizeLine;decide,λp0 hp0=>?_⟩
 refine⟨_,rfl,p0,a,_,_,rfl,rfl,SqL.of zj,(zl.upd hp0).seq hS,szl (by simp only[List.length_map,List.length_cons,List.length_nil];omega),λp1 hp1=>?_⟩
 have S1:=(zl.upd (o:=.lst [.int 0]) hp0).trans (zl.upd (o:=.lst ([.int 0]++ns.map V.int)) hp1)
 have e1:upd (upd H p0 (.lst [.int 0])) p1 (.lst ([.int 0]++ns.map V.int)) p1=some (.lst ((0::ns).map V.int)):=zj
 generalize upd (upd H p0 (.lst [.int 0])) p1 (.lst ([.int 0]++ns.map V.int))=G1 at S1 e1
 refine⟨p1,rfl,⟨_,SqL.of e1⟩,?_⟩
 refine Xx (xs:=(0::ns).map V.int) (λi σ G=>∃z1 z2 z3 z4 z5 z6,σ=[some (.ref a),z1,z2,z3,z4,z5,z6]/\zl G1 G) ⟨_,_,_,_,_,_,rfl,zl.refl _⟩ (λi σ G _ ⟨_,_,_,_,_,_,_,s⟩=>SqL.of (s _ _ e1)) ?_ ?_
 ·rintro i z σ G hz ⟨z1,z2,z3,z4,z5,z6,rfl,sG⟩
  rw[List.getElem?_map]at hz
  obtain⟨c,ec,rfl⟩:=Option.map_eq_some_iff.mp hz
  dsimp only[zH]
  refine⟨_,rfl,c,rfl,λp G2 hp s2 hP=>?_⟩
  have keep:∀G',xS p G2 G'->zl G1 G':=λG' t b o e=>t.keep b o (s2 _ _ (sG _ _ e)) (λz=>by rw[<-z,sG _ _ e]at hp;cases hp)
  dsimp only[zH]
  refine⟨_,rfl,p,8,rfl,by decide,by decide,hP,λr us bs G3 t3 hr0 hB hGo hz n1 n8=>?_⟩
  dsimp only[zH]
  have hW3:RwI G3 r (bs.map xB):=⟨_,hr0,VP hB⟩
  have hne:bs.map xB≠[]:=λe=>by have:=congrArg List.length e;simp at this;rw[this]at n1;simp at n1
  have h8:(bs.map xB).length<=8:=by rw[List.length_map];exact n8
  have zB:∀b∈bs.map xB,Bz b:=λx m=>by
   obtain⟨b,mb,rfl⟩:=List.mem_map.mp m
   exact VR (hz b mb) (hGo.wt b mb)
  have okB:∀b∈bs.map xB,Xr b:=λx m=>by
   obtain⟨b,mb,rfl⟩:=List.mem_map.mp m
   exact Qt (hz b mb) (hGo.wt b mb)
  have hx:=Ql hne h8 zB
  have hrd:=JM (JP hGo n1 n8) okB
  refine⟨_,rfl,r,_,rfl,hW3,hne,h8,zB,λG4 s4=>?_⟩
  dsimp only[zH]
  refine⟨_,rfl,r,_,rfl,hW3.tups (.of s4),h8,zB,λG5 s5=>?_⟩
  have s35:=s4.trans s5
  refine⟨_,rfl,rfl,_,rfl,?_⟩
  rw[decide_eq_true rfl]
  refine zR ?_
  refine⟨_,rfl,_,_,rfl,by rw[zx];omega,hrd,λwb G6 s6 hWb=>?_⟩
  have s36:=s35.trans s6
  refine⟨_,rfl,_,_,hWb.rd,(hW3.tups (.of s36)).rd,Xi _,Xi _,_,rfl,?_⟩
  rw[V2]
  refine zR ?_
  refine zL ?_
  dsimp only
  refine qS ?_
  refine⟨rfl,_,rfl,by decide,by decide,λDc hDc=>?_⟩
  have e4:(Str.ofString " 0 1").length=4:=by decide +kernel
  have eO:Str.ofString " 0 1" = TX [32,48,32,49]:=by decide +kernel
  refine VU (J:=Itr 0 (9:Int).toNat) (g:=zH 0) (tt:=λ_ H Q=>Q true H) (te:=_) (N:=9) (n:=1) (λi G ys=>zl G6 G/\ys=((List.range i).map λk=>TX (btL (nb k))).map V.str) ⟨zl.upd hDc,rfl⟩ (λi G ys hi q=>hi) (λG ys q=>Nat.le_refl _) ?_ ?_
  ·rintro j x zs G_ G ys Nx hN hj hz1 ⟨rfl,rfl⟩ ⟨sB,rfl⟩ hGD
   obtain⟨y1,rfl⟩:=XB hz1
   have ej:(0+(j:Int))=(j:Int):=Int.zero_add _
   rw[ej]
   have lj:=Jf hj
   unfold zH
   dsimp only
   refine zJ ?_
   refine⟨_,rfl,(j:Int),rfl,Nat.lt_of_lt_of_le (show (j:Int).natAbs<9 by omega) (by decide),λG7 s7=>?_⟩
   refine⟨_,_,rfl,rfl,by rw[zx,e4,sizeLine_eq];omega,s7 _ _ hGD,xQ (by simp;omega),hN _ _ ⟨λb o e=>?_,?_⟩⟩
   ·rw[zM (zK e hDc)];exact s7 _ _ (sB _ _ e)
   ·rw[eO,zF,<-zdp,List.range_succ,List.map_append,List.map_append];rfl
  rintro G7 ys ⟨s7,rfl⟩ hGD
  rw[zaA]at hGD
  refine⟨_,Dc,(Qd.map btL).map TX,rfl,rfl,.of hGD,?_,?_⟩
  ·decide +kernel
  have eN:Txt.join (Str.ofString "; ") ((Qd.map btL).map TX)=TX (rwL Qd):=by
   rw[show Str.ofString "; " = TX [59,32] by decide +kernel,ZH];rfl
  rw[eN]
  dsimp only
  have s37:=s36.trans s7
  have t7:=t3.same s37
  refine⟨_,rfl,_,rfl,r,p,us,bs,rfl,s37 _ _ hr0,hB.same s37,hGo,hz,n1,n8,t7.pool,λt G8 t8 ht lt=>?_⟩
  refine⟨_,rfl,lt,ht,λG9 s9=>⟨_,rfl,zR ?_⟩⟩
  refine⟨_,rfl,_,rfl,?_,Vr,λG10 s10=>⟨_,rfl,zR ?_⟩⟩
  ·decide +kernel
  refine zL ?_
  have t10:=((t7.trans t8).same s9).same s10
  refine⟨_,rfl,_,rfl,_,p,rfl,by rw[zx];omega,t10.pool,λy G11 t11 hy=>?_⟩
  dsimp only[zH]
  refine⟨_,rfl,y,rfl,by omega,λo G12 s12 ho=>?_⟩
  refine⟨_,rfl,y,rfl,by omega,λo' G13 s13 ho'=>?_⟩
  have T13:=((t10.trans t11).same s12).same s13
  have fin:∃z1 z2 z3 z4 z5 z6,[some (V.ref a),some (.int c),some (.ref p),some (.ref r),some (.str (TX (rwL (bs.map xB)))),some (.str (TX (rwL Qd))),some (.str y)]=[some (V.ref a),z1,z2,z3,z4,z5,z6]/\zl G1 G13:=⟨_,_,_,_,_,_,rfl,keep _ T13⟩
  cases hr:zY y with
  | none =>
   rw[hr]at ho ho'
   cases(show o = .non from ho)
   cases(show o' = .non from ho')
   exact⟨.none,.none,.non,.non,rfl,rfl,_,rfl,zR fin⟩
  | some uv =>
   rw[hr]at ho ho'
   obtain⟨a1,rfl,w1⟩:=ho
   obtain⟨a2,rfl,w2⟩:=ho'
   refine⟨_,_,(w1.tups (.of s13)).rd,w2.rd,Xi _,Xi _,_,rfl,?_⟩
   rw[V2]
   exact zR fin
 ·rintro σ G ⟨z1,z2,z3,z4,z5,z6,rfl,sG⟩
  exact k _
end
end KK
end
section
set_option maxHeartbeats 8000000
set_option Elab.async false
set_option linter.all false
set_option maxRecDepth 100000
namespace KK
open PySem L2 KM PySem.W
theorem zcI {K:Frag}{h:Heap}{mg:Str->Option Value}{x:Str}{C:Addr}(X:K.In h) (G:h.Ns mainGlobals mg) (e:nsIn K mainGlobals x=some (some (.ref C))) (q:excIn K C zc9 "ValueError.__new__" = true):Xs x C mg h:=by
 unfold excIn at q
 split at q
 case h_2=>cases q
 case h_1 dd cd sl ho =>
  split at q
  case h_2=>cases q
  case h_1 C' bm k0 k1 k2 k3 n k5 hm hs =>
   obtain⟨cnm,cbs,cmro,cns,cqn,chd,csn,csub,cab,ccol,cdel⟩:=cd
   obtain⟨sll⟩:=sl
   simp only at hm hs q
   subst hm;subst hs
   simp only[Bool.and_eq_true,beq_iff_eq,Bool.not_eq_true']at q
   obtain⟨⟨⟨⟨⟨eC,en⟩,ed⟩,et⟩,eo⟩,ei⟩:=q
   subst eC;subst en;subst ed
   exact⟨mg_of X G e,bm,cns,cnm,cqn,cbs,chd,csn,csub,cab,ccol,dd,k0,k1,k2,k3,k5,_,X _ _ ho,.of_isNs (isNs_of_in X eo),nsMap_none_of_in X eo ei,tail_of_in X et⟩
end KK
end
set_option linter.all false
def PySem.W.Fast.tw17279976504733264174:Nat:=0
def PySem.W.Fast.tw13442089986282492216:Nat:=0
def PySem.W.Fast.tw8017955558991384639:Nat:=0
def PySem.W.Fast.tw14803453740737574228:Nat:=0
def PySem.W.Fast.tw15548644880047049501:Nat:=0
def PySem.W.Fast.tw13573508310984722637:Nat:=0
def PySem.W.Fast.tw13848127835673879705:Nat:=0
def PySem.W.Fast.tw9449346687052578408:Nat:=0
def PySem.W.Fast.tw13250543945211991533:Nat:=0
def PySem.W.Fast.tw13236499858820323647:Nat:=0
def PySem.W.Fast.tw4275836734230466926:Nat:=0
def PySem.W.Fast.tw4158606109329766259:Nat:=0
def PySem.W.Fast.tw6109647677270123004:Nat:=0
def PySem.W.Fast.tw11323023673494443739:Nat:=0
def PySem.W.Fast.tw9231105024772094656:Nat:=0
def PySem.W.Fast.tw7516248449243507383:Nat:=0
def PySem.W.Fast.tw4928514995012831952:Nat:=0
def PySem.W.Fast.tw12174755409484426423:Nat:=0
section
set_option maxHeartbeats 8000000
set_option Elab.async false
set_option linter.all false
set_option maxRecDepth 100000
namespace KK
open PySem L2 KM
theorem zci (K:PySem.W.Frag):PySem.W.kitOne K (.type "int") (.type "int")=some true:=by
 unfold PySem.W.kitOne;rw[if_pos (by decide +kernel)]
theorem zch (K:PySem.W.Frag):PySem.W.kitOne K (.type "int") (.type "bool")=some false:=by
 with_unfolding_all rfl
theorem zcj (K:PySem.W.Frag):PySem.W.kitOne K (.type "str") (.type "str")=some true:=by
 unfold PySem.W.kitOne;rw[if_pos (by decide +kernel)]
theorem zck (K:PySem.W.Frag):PySem.W.kitOne K (.type "tuple") (.type "tuple")=some true:=by
 unfold PySem.W.kitOne;rw[if_pos (by decide +kernel)]
theorem zbT {l:PySem.W.OpenLaw}{w:World}{K:PySem.W.Frag}{h:Heap}{mg:Str->Option Value}{fa:Addr}(X:K.In h) (G:h.Ns mainGlobals mg) (hfa:mg "law" = some (.ref fa))
  {f0:Addr}{od0 an0:Option Addr}{sl0:Array (Option Value)}{oc0 kV0 dc0 pm0 cd0 ct0:Value}
  (a0:PySem.W.nsIn K mainGlobals "is_whole" = some (some (.ref f0))) (l0:K.lookup f0=some ⟨oc0,od0,.func (PySem.W.fnOf "is_whole" "is_whole" (zp qk) (zm qk) (zg qk) .none kV0 dc0 pm0 an0 cd0 ct0),sl0⟩) (c0:PySem.W.codeIn K cd0 "is_whole" = true) (k0:PySem.W.keepIn K (.ref f0)=true)
  {f1:Addr}{od1 an1:Option Addr}{sl1:Array (Option Value)}{oc1 kV1 dc1 pm1 cd1 ct1:Value}
  (a1:PySem.W.nsIn K mainGlobals "is_tuple" = some (some (.ref f1))) (l1:K.lookup f1=some ⟨oc1,od1,.func (PySem.W.fnOf "is_tuple" "is_tuple" (zp xY) (zm xY) (zg xY) .none kV1 dc1 pm1 an1 cd1 ct1),sl1⟩) (c1:PySem.W.codeIn K cd1 "is_tuple" = true) (k1:PySem.W.keepIn K (.ref f1)=true)
  {f2:Addr}{od2 an2:Option Addr}{sl2:Array (Option Value)}{oc2 kV2 dc2 pm2 cd2 ct2:Value}
  (a2:PySem.W.nsIn K mainGlobals "greatest_divisor" = some (some (.ref f2))) (l2:K.lookup f2=some ⟨oc2,od2,.func (PySem.W.fnOf "greatest_divisor" "greatest_divisor" (zp zX) (zm zX) (zg zX) .none kV2 dc2 pm2 an2 cd2 ct2),sl2⟩) (c2:PySem.W.codeIn K cd2 "greatest_divisor" = true) (k2:PySem.W.keepIn K (.ref f2)=true)
  {f3:Addr}{od3 an3:Option Addr}{sl3:Array (Option Value)}{oc3 kV3 dc3 pm3 cd3 ct3:Value}
  (a3:PySem.W.nsIn K mainGlobals "is_ratio" = some (some (.ref f3))) (l3:K.lookup f3=some ⟨oc3,od3,.func (PySem.W.fnOf "is_ratio" "is_ratio" (zp qj) (zm qj) (zg qj) .none kV3 dc3 pm3 an3 cd3 ct3),sl3⟩) (c3:PySem.W.codeIn K cd3 "is_ratio" = true) (k3:PySem.W.keepIn K (.ref f3)=true)
  {f4:Addr}{od4 an4:Option Addr}{sl4:Array (Option Value)}{oc4 kV4 dc4 pm4 cd4 ct4:Value}
  (a4:PySem.W.nsIn K mainGlobals "less" = some (some (.ref f4))) (l4:K.lookup f4=some ⟨oc4,od4,.func (PySem.W.fnOf "less" "less" (zp jB) (zm jB) (zg jB) .none kV4 dc4 pm4 an4 cd4 ct4),sl4⟩) (c4:PySem.W.codeIn K cd4 "less" = true) (k4:PySem.W.keepIn K (.ref f4)=true)
  {f5:Addr}{od5 an5:Option Addr}{sl5:Array (Option Value)}{oc5 kV5 dc5 pm5 cd5 ct5:Value}
  (a5:PySem.W.nsIn K mainGlobals "is_wall" = some (some (.ref f5))) (l5:K.lookup f5=some ⟨oc5,od5,.func (PySem.W.fnOf "is_wall" "is_wall" (zp qL) (zm qL) (zg qL) .none kV5 dc5 pm5 an5 cd5 ct5),sl5⟩) (c5:PySem.W.codeIn K cd5 "is_wall" = true) (k5:PySem.W.keepIn K (.ref f5)=true)
  {f6:Addr}{od6 an6:Option Addr}{sl6:Array (Option Value)}{oc6 kV6 dc6 pm6 cd6 ct6:Value}
  (a6:PySem.W.nsIn K mainGlobals "is_wall_pair" = some (some (.ref f6))) (l6:K.lookup f6=some ⟨oc6,od6,.func (PySem.W.fnOf "is_wall_pair" "is_wall_pair" (zp xp) (zm xp) (zg xp) .none kV6 dc6 pm6 an6 cd6 ct6),sl6⟩) (c6:PySem.W.codeIn K cd6 "is_wall_pair" = true) (k6:PySem.W.keepIn K (.ref f6)=true)
  {f7:Addr}{od7 an7:Option Addr}{sl7:Array (Option Value)}{oc7 kV7 dc7 pm7 cd7 ct7:Value}
  (a7:PySem.W.nsIn K mainGlobals "walls_good" = some (some (.ref f7))) (l7:K.lookup f7=some ⟨oc7,od7,.func (PySem.W.fnOf "walls_good" "walls_good" (zp xP) (zm xP) (zg xP) .none kV7 dc7 pm7 an7 cd7 ct7),sl7⟩) (c7:PySem.W.codeIn K cd7 "walls_good" = true) (k7:PySem.W.keepIn K (.ref f7)=true)
  {f8:Addr}{od8 an8:Option Addr}{sl8:Array (Option Value)}{oc8 kV8 dc8 pm8 cd8 ct8:Value}
  (a8:PySem.W.nsIn K mainGlobals "is_ball_form" = some (some (.ref f8))) (l8:K.lookup f8=some ⟨oc8,od8,.func (PySem.W.fnOf "is_ball_form" "is_ball_form" (zp xo) (zm xo) (zg xo) .none kV8 dc8 pm8 an8 cd8 ct8),sl8⟩) (c8:PySem.W.codeIn K cd8 "is_ball_form" = true) (k8:PySem.W.keepIn K (.ref f8)=true)
  {f9:Addr}{od9 an9:Option Addr}{sl9:Array (Option Value)}{oc9 kV9 dc9 pm9 cd9 ct9:Value}
  (a9:PySem.W.nsIn K mainGlobals "is_weight" = some (some (.ref f9))) (l9:K.lookup f9=some ⟨oc9,od9,.func (PySem.W.fnOf "is_weight" "is_weight" (zp x5) (zm x5) (zg x5) .none kV9 dc9 pm9 an9 cd9 ct9),sl9⟩) (c9:PySem.W.codeIn K cd9 "is_weight" = true) (k9:PySem.W.keepIn K (.ref f9)=true)
  {f10:Addr}{od10 an10:Option Addr}{sl10:Array (Option Value)}{oc10 kV10 dc10 pm10 cd10 ct10:Value}
  (a10:PySem.W.nsIn K mainGlobals "is_ball" = some (some (.ref f10))) (l10:K.lookup f10=some ⟨oc10,od10,.func (PySem.W.fnOf "is_ball" "is_ball" (zp qK) (zm qK) (zg qK) .none kV10 dc10 pm10 an10 cd10 ct10),sl10⟩) (c10:PySem.W.codeIn K cd10 "is_ball" = true) (k10:PySem.W.keepIn K (.ref f10)=true)
  {f11:Addr}{od11 an11:Option Addr}{sl11:Array (Option Value)}{oc11 kV11 dc11 pm11 cd11 ct11:Value}
  (a11:PySem.W.nsIn K mainGlobals "follows" = some (some (.ref f11))) (l11:K.lookup f11=some ⟨oc11,od11,.func (PySem.W.fnOf "follows" "follows" (zp qJ) (zm qJ) (zg qJ) .none kV11 dc11 pm11 an11 cd11 ct11),sl11⟩) (c11:PySem.W.codeIn K cd11 "follows" = true) (k11:PySem.W.keepIn K (.ref f11)=true)
  {f12:Addr}{od12 an12:Option Addr}{sl12:Array (Option Value)}{oc12 kV12 dc12 pm12 cd12 ct12:Value}
  (a12:PySem.W.nsIn K mainGlobals "is_ordered" = some (some (.ref f12))) (l12:K.lookup f12=some ⟨oc12,od12,.func (PySem.W.fnOf "is_ordered" "is_ordered" (zp xI) (zm xI) (zg xI) .none kV12 dc12 pm12 an12 cd12 ct12),sl12⟩) (c12:PySem.W.codeIn K cd12 "is_ordered" = true) (k12:PySem.W.keepIn K (.ref f12)=true)
  {f13:Addr}{od13 an13:Option Addr}{sl13:Array (Option Value)}{oc13 kV13 dc13 pm13 cd13 ct13:Value}
  (a13:PySem.W.nsIn K mainGlobals "keeps_side" = some (some (.ref f13))) (l13:K.lookup f13=some ⟨oc13,od13,.func (PySem.W.fnOf "keeps_side" "keeps_side" (zp xJ) (zm xJ) (zg xJ) .none kV13 dc13 pm13 an13 cd13 ct13),sl13⟩) (c13:PySem.W.codeIn K cd13 "keeps_side" = true) (k13:PySem.W.keepIn K (.ref f13)=true)
  {f14:Addr}{od14 an14:Option Addr}{sl14:Array (Option Value)}{oc14 kV14 dc14 pm14 cd14 ct14:Value}
  (a14:PySem.W.nsIn K mainGlobals "is_between" = some (some (.ref f14))) (l14:K.lookup f14=some ⟨oc14,od14,.func (PySem.W.fnOf "is_between" "is_between" (zp xH) (zm xH) (zg xH) .none kV14 dc14 pm14 an14 cd14 ct14),sl14⟩) (c14:PySem.W.codeIn K cd14 "is_between" = true) (k14:PySem.W.keepIn K (.ref f14)=true)
  {f15:Addr}{od15 an15:Option Addr}{sl15:Array (Option Value)}{oc15 kV15 dc15 pm15 cd15 ct15:Value}
  (a15:PySem.W.nsIn K mainGlobals "is_row" = some (some (.ref f15))) (l15:K.lookup f15=some ⟨oc15,od15,.func (PySem.W.fnOf "is_row" "is_row" (zp vj) (zm vj) (zg vj) .none kV15 dc15 pm15 an15 cd15 ct15),sl15⟩) (c15:PySem.W.codeIn K cd15 "is_row" = true) (k15:PySem.W.keepIn K (.ref f15)=true)
  {f16:Addr}{od16 an16:Option Addr}{sl16:Array (Option Value)}{oc16 kV16 dc16 pm16 cd16 ct16:Value}
  (a16:PySem.W.nsIn K mainGlobals "number_text" = some (some (.ref f16))) (l16:K.lookup f16=some ⟨oc16,od16,.func (PySem.W.fnOf "number_text" "number_text" (zp zZ) (zm zZ) (zg zZ) .none kV16 dc16 pm16 an16 cd16 ct16),sl16⟩) (c16:PySem.W.codeIn K cd16 "number_text" = true) (k16:PySem.W.keepIn K (.ref f16)=true)
  {f17:Addr}{od17 an17:Option Addr}{sl17:Array (Option Value)}{oc17 kV17 dc17 pm17 cd17 ct17:Value}
  (a17:PySem.W.nsIn K mainGlobals "ratio_text" = some (some (.ref f17))) (l17:K.lookup f17=some ⟨oc17,od17,.func (PySem.W.fnOf "ratio_text" "ratio_text" (zp xM) (zm xM) (zg xM) .none kV17 dc17 pm17 an17 cd17 ct17),sl17⟩) (c17:PySem.W.codeIn K cd17 "ratio_text" = true) (k17:PySem.W.keepIn K (.ref f17)=true)
  {f18:Addr}{od18 an18:Option Addr}{sl18:Array (Option Value)}{oc18 kV18 dc18 pm18 cd18 ct18:Value}
  (a18:PySem.W.nsIn K mainGlobals "ball_text" = some (some (.ref f18))) (l18:K.lookup f18=some ⟨oc18,od18,.func (PySem.W.fnOf "ball_text" "ball_text" (zp x0) (zm x0) (zg x0) .none kV18 dc18 pm18 an18 cd18 ct18),sl18⟩) (c18:PySem.W.codeIn K cd18 "ball_text" = true) (k18:PySem.W.keepIn K (.ref f18)=true)
  {f19:Addr}{od19 an19:Option Addr}{sl19:Array (Option Value)}{oc19 kV19 dc19 pm19 cd19 ct19:Value}
  (a19:PySem.W.nsIn K mainGlobals "row_text" = some (some (.ref f19))) (l19:K.lookup f19=some ⟨oc19,od19,.func (PySem.W.fnOf "row_text" "row_text" (zp qv) (zm qv) (zg qv) .none kV19 dc19 pm19 an19 cd19 ct19),sl19⟩) (c19:PySem.W.codeIn K cd19 "row_text" = true) (k19:PySem.W.keepIn K (.ref f19)=true)
  {f20:Addr}{od20 an20:Option Addr}{sl20:Array (Option Value)}{oc20 kV20 dc20 pm20 cd20 ct20:Value}
  (a20:PySem.W.nsIn K mainGlobals "parts_of" = some (some (.ref f20))) (l20:K.lookup f20=some ⟨oc20,od20,.func (PySem.W.fnOf "parts_of" "parts_of" (zp qt) (zm qt) (zg qt) .none kV20 dc20 pm20 an20 cd20 ct20),sl20⟩) (c20:PySem.W.codeIn K cd20 "parts_of" = true) (k20:PySem.W.keepIn K (.ref f20)=true)
  {f21:Addr}{od21 an21:Option Addr}{sl21:Array (Option Value)}{oc21 kV21 dc21 pm21 cd21 ct21:Value}
  (a21:PySem.W.nsIn K mainGlobals "read_number" = some (some (.ref f21))) (l21:K.lookup f21=some ⟨oc21,od21,.func (PySem.W.fnOf "read_number" "read_number" (zp xA) (zm xA) (zg xA) .none kV21 dc21 pm21 an21 cd21 ct21),sl21⟩) (c21:PySem.W.codeIn K cd21 "read_number" = true) (k21:PySem.W.keepIn K (.ref f21)=true)
  {f22:Addr}{od22 an22:Option Addr}{sl22:Array (Option Value)}{oc22 kV22 dc22 pm22 cd22 ct22:Value}
  (a22:PySem.W.nsIn K mainGlobals "read_whole" = some (some (.ref f22))) (l22:K.lookup f22=some ⟨oc22,od22,.func (PySem.W.fnOf "read_whole" "read_whole" (zp xO) (zm xO) (zg xO) .none kV22 dc22 pm22 an22 cd22 ct22),sl22⟩) (c22:PySem.W.codeIn K cd22 "read_whole" = true) (k22:PySem.W.keepIn K (.ref f22)=true)
  {f23:Addr}{od23 an23:Option Addr}{sl23:Array (Option Value)}{oc23 kV23 dc23 pm23 cd23 ct23:Value}
  (a23:PySem.W.nsIn K mainGlobals "read_ratio" = some (some (.ref f23))) (l23:K.lookup f23=some ⟨oc23,od23,.func (PySem.W.fnOf "read_ratio" "read_ratio" (zp xN) (zm xN) (zg xN) .none kV23 dc23 pm23 an23 cd23 ct23),sl23⟩) (c23:PySem.W.codeIn K cd23 "read_ratio" = true) (k23:PySem.W.keepIn K (.ref f23)=true)
  {f24:Addr}{od24 an24:Option Addr}{sl24:Array (Option Value)}{oc24 kV24 dc24 pm24 cd24 ct24:Value}
  (a24:PySem.W.nsIn K mainGlobals "read_ball" = some (some (.ref f24))) (l24:K.lookup f24=some ⟨oc24,od24,.func (PySem.W.fnOf "read_ball" "read_ball" (zp qb) (zm qb) (zg qb) .none kV24 dc24 pm24 an24 cd24 ct24),sl24⟩) (c24:PySem.W.codeIn K cd24 "read_ball" = true) (k24:PySem.W.keepIn K (.ref f24)=true)
  {f25:Addr}{od25 an25:Option Addr}{sl25:Array (Option Value)}{oc25 kV25 dc25 pm25 cd25 ct25:Value}
  (a25:PySem.W.nsIn K mainGlobals "read_row" = some (some (.ref f25))) (l25:K.lookup f25=some ⟨oc25,od25,.func (PySem.W.fnOf "read_row" "read_row" (zp qu) (zm qu) (zg qu) .none kV25 dc25 pm25 an25 cd25 ct25),sl25⟩) (c25:PySem.W.codeIn K cd25 "read_row" = true) (k25:PySem.W.keepIn K (.ref f25)=true)
  {f26:Addr}{od26 an26:Option Addr}{sl26:Array (Option Value)}{oc26 kV26 dc26 pm26 cd26 ct26:Value}
  (a26:PySem.W.nsIn K mainGlobals "_law_pool" = some (some (.ref f26))) (l26:K.lookup f26=some ⟨oc26,od26,.func (PySem.W.fnOf "_law_pool" "_law_pool" (zp qo) (zm qo) (zg qo) .none kV26 dc26 pm26 an26 cd26 ct26),sl26⟩) (c26:PySem.W.codeIn K cd26 "_law_pool" = true) (k26:PySem.W.keepIn K (.ref f26)=true)
  {f27:Addr}{od27 an27:Option Addr}{sl27:Array (Option Value)}{oc27 kV27 dc27 pm27 cd27 ct27:Value}
  (a27:PySem.W.nsIn K mainGlobals "_law_next" = some (some (.ref f27))) (l27:K.lookup f27=some ⟨oc27,od27,.func (PySem.W.fnOf "_law_next" "_law_next" (zp qm) (zm qm) (zg qm) .none kV27 dc27 pm27 an27 cd27 ct27),sl27⟩) (c27:PySem.W.codeIn K cd27 "_law_next" = true) (k27:PySem.W.keepIn K (.ref f27)=true)
  {f28:Addr}{od28 an28:Option Addr}{sl28:Array (Option Value)}{oc28 kV28 dc28 pm28 cd28 ct28:Value}
  (a28:PySem.W.nsIn K mainGlobals "_law_common" = some (some (.ref f28))) (l28:K.lookup f28=some ⟨oc28,od28,.func (PySem.W.fnOf "_law_common" "_law_common" (zp xK) (zm xK) (zg xK) .none kV28 dc28 pm28 an28 cd28 ct28),sl28⟩) (c28:PySem.W.codeIn K cd28 "_law_common" = true) (k28:PySem.W.keepIn K (.ref f28)=true)
  {f29:Addr}{od29 an29:Option Addr}{sl29:Array (Option Value)}{oc29 kV29 dc29 pm29 cd29 ct29:Value}
  (a29:PySem.W.nsIn K mainGlobals "_law_low" = some (some (.ref f29))) (l29:K.lookup f29=some ⟨oc29,od29,.func (PySem.W.fnOf "_law_low" "_law_low" (zp qN) (zm qN) (zg qN) .none kV29 dc29 pm29 an29 cd29 ct29),sl29⟩) (c29:PySem.W.codeIn K cd29 "_law_low" = true) (k29:PySem.W.keepIn K (.ref f29)=true)
  {f30:Addr}{od30 an30:Option Addr}{sl30:Array (Option Value)}{oc30 kV30 dc30 pm30 cd30 ct30:Value}
  (a30:PySem.W.nsIn K mainGlobals "_law_sum" = some (some (.ref f30))) (l30:K.lookup f30=some ⟨oc30,od30,.func (PySem.W.fnOf "_law_sum" "_law_sum" (zp qP) (zm qP) (zg qP) .none kV30 dc30 pm30 an30 cd30 ct30),sl30⟩) (c30:PySem.W.codeIn K cd30 "_law_sum" = true) (k30:PySem.W.keepIn K (.ref f30)=true)
  {f31:Addr}{od31 an31:Option Addr}{sl31:Array (Option Value)}{oc31 kV31 dc31 pm31 cd31 ct31:Value}
  (a31:PySem.W.nsIn K mainGlobals "_law_gap" = some (some (.ref f31))) (l31:K.lookup f31=some ⟨oc31,od31,.func (PySem.W.fnOf "_law_gap" "_law_gap" (zp qM) (zm qM) (zg qM) .none kV31 dc31 pm31 an31 cd31 ct31),sl31⟩) (c31:PySem.W.codeIn K cd31 "_law_gap" = true) (k31:PySem.W.keepIn K (.ref f31)=true)
  {f32:Addr}{od32 an32:Option Addr}{sl32:Array (Option Value)}{oc32 kV32 dc32 pm32 cd32 ct32:Value}
  (a32:PySem.W.nsIn K mainGlobals "_law_below" = some (some (.ref f32))) (l32:K.lookup f32=some ⟨oc32,od32,.func (PySem.W.fnOf "_law_below" "_law_below" (zp x8) (zm x8) (zg x8) .none kV32 dc32 pm32 an32 cd32 ct32),sl32⟩) (c32:PySem.W.codeIn K cd32 "_law_below" = true) (k32:PySem.W.keepIn K (.ref f32)=true)
  {f33:Addr}{od33 an33:Option Addr}{sl33:Array (Option Value)}{oc33 kV33 dc33 pm33 cd33 ct33:Value}
  (a33:PySem.W.nsIn K mainGlobals "_law_weight" = some (some (.ref f33))) (l33:K.lookup f33=some ⟨oc33,od33,.func (PySem.W.fnOf "_law_weight" "_law_weight" (zp xL) (zm xL) (zg xL) .none kV33 dc33 pm33 an33 cd33 ct33),sl33⟩) (c33:PySem.W.codeIn K cd33 "_law_weight" = true) (k33:PySem.W.keepIn K (.ref f33)=true)
  {f34:Addr}{od34 an34:Option Addr}{sl34:Array (Option Value)}{oc34 kV34 dc34 pm34 cd34 ct34:Value}
  (a34:PySem.W.nsIn K mainGlobals "_law_small" = some (some (.ref f34))) (l34:K.lookup f34=some ⟨oc34,od34,.func (PySem.W.fnOf "_law_small" "_law_small" (zp x9) (zm x9) (zg x9) .none kV34 dc34 pm34 an34 cd34 ct34),sl34⟩) (c34:PySem.W.codeIn K cd34 "_law_small" = true) (k34:PySem.W.keepIn K (.ref f34)=true)
  {f35:Addr}{od35 an35:Option Addr}{sl35:Array (Option Value)}{oc35 kV35 dc35 pm35 cd35 ct35:Value}
  (a35:PySem.W.nsIn K mainGlobals "_law_row" = some (some (.ref f35))) (l35:K.lookup f35=some ⟨oc35,od35,.func (PySem.W.fnOf "_law_row" "_law_row" (zp qO) (zm qO) (zg qO) .none kV35 dc35 pm35 an35 cd35 ct35),sl35⟩) (c35:PySem.W.codeIn K cd35 "_law_row" = true) (k35:PySem.W.keepIn K (.ref f35)=true)
  {f36:Addr}{od36 an36:Option Addr}{sl36:Array (Option Value)}{oc36 kV36 dc36 pm36 cd36 ct36:Value}
  (a36:PySem.W.nsIn K mainGlobals "_law_figures" = some (some (.ref f36))) (l36:K.lookup f36=some ⟨oc36,od36,.func (PySem.W.fnOf "_law_figures" "_law_figures" (zp xy) (zm xy) (zg xy) .none kV36 dc36 pm36 an36 cd36 ct36),sl36⟩) (c36:PySem.W.codeIn K cd36 "_law_figures" = true) (k36:PySem.W.keepIn K (.ref f36)=true)
  {f37:Addr}{od37 an37:Option Addr}{sl37:Array (Option Value)}{oc37 kV37 dc37 pm37 cd37 ct37:Value}
  (a37:PySem.W.nsIn K mainGlobals "_law_ratio_text" = some (some (.ref f37))) (l37:K.lookup f37=some ⟨oc37,od37,.func (PySem.W.fnOf "_law_ratio_text" "_law_ratio_text" (zp xf) (zm xf) (zg xf) .none kV37 dc37 pm37 an37 cd37 ct37),sl37⟩) (c37:PySem.W.codeIn K cd37 "_law_ratio_text" = true) (k37:PySem.W.keepIn K (.ref f37)=true)
  {f38:Addr}{od38 an38:Option Addr}{sl38:Array (Option Value)}{oc38 kV38 dc38 pm38 cd38 ct38:Value}
  (a38:PySem.W.nsIn K mainGlobals "_law_row_text" = some (some (.ref f38))) (l38:K.lookup f38=some ⟨oc38,od38,.func (PySem.W.fnOf "_law_row_text" "_law_row_text" (zp xr) (zm xr) (zg xr) .none kV38 dc38 pm38 an38 cd38 ct38),sl38⟩) (c38:PySem.W.codeIn K cd38 "_law_row_text" = true) (k38:PySem.W.keepIn K (.ref f38)=true)
  {f39:Addr}{od39 an39:Option Addr}{sl39:Array (Option Value)}{oc39 kV39 dc39 pm39 cd39 ct39:Value}
  (a39:PySem.W.nsIn K mainGlobals "_law_value" = some (some (.ref f39))) (l39:K.lookup f39=some ⟨oc39,od39,.func (PySem.W.fnOf "_law_value" "_law_value" (zp qa) (zm qa) (zg qa) .none kV39 dc39 pm39 an39 cd39 ct39),sl39⟩) (c39:PySem.W.codeIn K cd39 "_law_value" = true) (k39:PySem.W.keepIn K (.ref f39)=true)
  {f40:Addr}{od40 an40:Option Addr}{sl40:Array (Option Value)}{oc40 kV40 dc40 pm40 cd40 ct40:Value}
  (a40:PySem.W.nsIn K mainGlobals "_law_read" = some (some (.ref f40))) (l40:K.lookup f40=some ⟨oc40,od40,.func (PySem.W.fnOf "_law_read" "_law_read" (zp qp) (zm qp) (zg qp) .none kV40 dc40 pm40 an40 cd40 ct40),sl40⟩) (c40:PySem.W.codeIn K cd40 "_law_read" = true) (k40:PySem.W.keepIn K (.ref f40)=true)
  {f41:Addr}{od41 an41:Option Addr}{sl41:Array (Option Value)}{oc41 kV41 dc41 pm41 cd41 ct41:Value}
  (a41:PySem.W.nsIn K mainGlobals "_law_bent" = some (some (.ref f41))) (l41:K.lookup f41=some ⟨oc41,od41,.func (PySem.W.fnOf "_law_bent" "_law_bent" (zp ql) (zm ql) (zg ql) .none kV41 dc41 pm41 an41 cd41 ct41),sl41⟩) (c41:PySem.W.codeIn K cd41 "_law_bent" = true) (k41:PySem.W.keepIn K (.ref f41)=true)
  {f42:Addr}{od42 an42:Option Addr}{sl42:Array (Option Value)}{oc42 kV42 dc42 pm42 cd42 ct42:Value}
  (a42:PySem.W.nsIn K mainGlobals "_law_read_row" = some (some (.ref f42))) (l42:K.lookup f42=some ⟨oc42,od42,.func (PySem.W.fnOf "_law_read_row" "_law_read_row" (zp xq) (zm xq) (zg xq) .none kV42 dc42 pm42 an42 cd42 ct42),sl42⟩) (c42:PySem.W.codeIn K cd42 "_law_read_row" = true) (k42:PySem.W.keepIn K (.ref f42)=true)
  {f43:Addr}{od43 an43:Option Addr}{sl43:Array (Option Value)}{oc43 kV43 dc43 pm43 cd43 ct43:Value}
  (a43:PySem.W.nsIn K mainGlobals "_law_amiss" = some (some (.ref f43))) (l43:K.lookup f43=some ⟨oc43,od43,.func (PySem.W.fnOf "_law_amiss" "_law_amiss" (zp x6) (zm x6) (zg x6) .none kV43 dc43 pm43 an43 cd43 ct43),sl43⟩) (c43:PySem.W.codeIn K cd43 "_law_amiss" = true) (k43:PySem.W.keepIn K (.ref f43)=true)
  {f44:Addr}{od44 an44:Option Addr}{sl44:Array (Option Value)}{oc44 kV44 dc44 pm44 cd44 ct44:Value}
  (a44:PySem.W.nsIn K mainGlobals "_law_refused" = some (some (.ref f44))) (l44:K.lookup f44=some ⟨oc44,od44,.func (PySem.W.fnOf "_law_refused" "_law_refused" (zp xz) (zm xz) (zg xz) .none kV44 dc44 pm44 an44 cd44 ct44),sl44⟩) (c44:PySem.W.codeIn K cd44 "_law_refused" = true) (k44:PySem.W.keepIn K (.ref f44)=true)
  {f45:Addr}{od45 an45:Option Addr}{sl45:Array (Option Value)}{oc45 kV45 dc45 pm45 cd45 ct45:Value}
  (a45:PySem.W.nsIn K mainGlobals "_law_told" = some (some (.ref f45))) (l45:K.lookup f45=some ⟨oc45,od45,.func (PySem.W.fnOf "_law_told" "_law_told" (zp qq) (zm qq) (zg qq) .none kV45 dc45 pm45 an45 cd45 ct45),sl45⟩) (c45:PySem.W.codeIn K cd45 "_law_told" = true) (k45:PySem.W.keepIn K (.ref f45)=true)
  {f46:Addr}{od46 an46:Option Addr}{sl46:Array (Option Value)}{oc46 kV46 dc46 pm46 cd46 ct46:Value}
  (a46:PySem.W.nsIn K mainGlobals "law" = some (some (.ref f46))) (l46:K.lookup f46=some ⟨oc46,od46,.func (PySem.W.fnOf "law" "law" (zp s_law) (zm s_law) (zg s_law) .none kV46 dc46 pm46 an46 cd46 ct46),sl46⟩) (c46:PySem.W.codeIn K cd46 "law" = true) (k46:PySem.W.keepIn K (.ref f46)=true)
  (z_isinstance:PySem.W.nsIn K mainGlobals "isinstance" = some none)
  (z_int:PySem.W.nsIn K mainGlobals "int" = some none)
  (z_bool:PySem.W.nsIn K mainGlobals "bool" = some none)
  (z_abs:PySem.W.nsIn K mainGlobals "abs" = some none)
  (z_len:PySem.W.nsIn K mainGlobals "len" = some none)
  (z_max:PySem.W.nsIn K mainGlobals "max" = some none)
  (z_min:PySem.W.nsIn K mainGlobals "min" = some none)
  (z_range:PySem.W.nsIn K mainGlobals "range" = some none)
  (z_tuple:PySem.W.nsIn K mainGlobals "tuple" = some none)
  (z_sum:PySem.W.nsIn K mainGlobals "sum" = some none)
  (z_str:PySem.W.nsIn K mainGlobals "str" = some none)
  (z_all:PySem.W.nsIn K mainGlobals "all" = some none)
  (z_list:PySem.W.nsIn K mainGlobals "list" = some none)
  (z_zip:PySem.W.nsIn K mainGlobals "zip" = some none)
  {C_NoText:Addr}(a_NoText:PySem.W.nsIn K mainGlobals "NoText" = some (some (.ref C_NoText))) (x_NoText:PySem.W.excIn K C_NoText zc9 "ValueError.__new__" = true)
  {tk_FIGURES:Tok}(v_FIGURES:PySem.W.nsIn K mainGlobals "FIGURES" = some (some (.str "0123456789" tk_FIGURES)))
  {tk_MOST_FIGURES:Tok}(v_MOST_FIGURES:PySem.W.nsIn K mainGlobals "MOST_FIGURES" = some (some (.int 300 tk_MOST_FIGURES)))
  {tk_MOST_BALLS:Tok}(v_MOST_BALLS:PySem.W.nsIn K mainGlobals "MOST_BALLS" = some (some (.int 8 tk_MOST_BALLS)))
  {tk_MOST_WEIGHT:Tok}(v_MOST_WEIGHT:PySem.W.nsIn K mainGlobals "MOST_WEIGHT" = some (some (.int 1000 tk_MOST_WEIGHT)))
  {a_OPEN:Addr}{n_OPEN:Nat}{od_OPEN:Option Addr}{sl_OPEN:Array (Option Value)} (v_OPEN:PySem.W.nsIn K mainGlobals "OPEN" = some (some (.ref a_OPEN))) (l_OPEN:K.lookup a_OPEN=some ⟨.type "tuple",od_OPEN,.seq #[.none,.none] n_OPEN,sl_OPEN⟩) :
  ∃fd:FuncData,(∀(s:Shared) (v:Value),BindsTo s fd ⟨[v],[]⟩ [("script",v)])/\∀base:Heap,K.In base->base.Ns mainGlobals mg->jJ l.prog w K mg base CX0 9 fa fd ["script"] (QW K):=by
 have e:=hfa.symm.trans (PySem.W.mg_of X G a46)
 cases e
 have d_is_whole:Df K mg "is_whole" qk ["thing"] []:=zO l0 c0 k0 (PySem.W.mg_of X G a0) λus hl=>match us,hl with | [_],_=>rfl
 have d_is_tuple:Df K mg "is_tuple" xY ["thing","many"] []:=zO l1 c1 k1 (PySem.W.mg_of X G a1) λus hl=>match us,hl with | [_,_],_=>rfl
 have d_greatest_divisor:Df K mg "greatest_divisor" zX ["one","other"] []:=zO l2 c2 k2 (PySem.W.mg_of X G a2) λus hl=>match us,hl with | [_,_],_=>rfl
 have d_is_ratio:Df K mg "is_ratio" qj ["thing"] []:=zO l3 c3 k3 (PySem.W.mg_of X G a3) λus hl=>match us,hl with | [_],_=>rfl
 have d_less:Df K mg "less" jB ["one","other"] []:=zO l4 c4 k4 (PySem.W.mg_of X G a4) λus hl=>match us,hl with | [_,_],_=>rfl
 have d_is_wall:Df K mg "is_wall" qL ["thing"] []:=zO l5 c5 k5 (PySem.W.mg_of X G a5) λus hl=>match us,hl with | [_],_=>rfl
 have d_is_wall_pair:Df K mg "is_wall_pair" xp ["thing"] []:=zO l6 c6 k6 (PySem.W.mg_of X G a6) λus hl=>match us,hl with | [_],_=>rfl
 have d_walls_good:Df K mg "walls_good" xP ["thing"] []:=zO l7 c7 k7 (PySem.W.mg_of X G a7) λus hl=>match us,hl with | [_],_=>rfl
 have d_is_ball_form:Df K mg "is_ball_form" xo ["thing"] []:=zO l8 c8 k8 (PySem.W.mg_of X G a8) λus hl=>match us,hl with | [_],_=>rfl
 have d_is_weight:Df K mg "is_weight" x5 ["thing"] []:=zO l9 c9 k9 (PySem.W.mg_of X G a9) λus hl=>match us,hl with | [_],_=>rfl
 have d_is_ball:Df K mg "is_ball" qK ["thing"] []:=zO l10 c10 k10 (PySem.W.mg_of X G a10) λus hl=>match us,hl with | [_],_=>rfl
 have d_follows:Df K mg "follows" qJ ["left","right"] []:=zO l11 c11 k11 (PySem.W.mg_of X G a11) λus hl=>match us,hl with | [_,_],_=>rfl
 have d_is_ordered:Df K mg "is_ordered" xI ["row"] []:=zO l12 c12 k12 (PySem.W.mg_of X G a12) λus hl=>match us,hl with | [_],_=>rfl
 have d_keeps_side:Df K mg "keeps_side" xJ ["left","right"] []:=zO l13 c13 k13 (PySem.W.mg_of X G a13) λus hl=>match us,hl with | [_,_],_=>rfl
 have d_is_between:Df K mg "is_between" xH ["walls","row"] []:=zO l14 c14 k14 (PySem.W.mg_of X G a14) λus hl=>match us,hl with | [_,_],_=>rfl
 have d_is_row:Df K mg "is_row" vj ["walls","thing"] []:=zO l15 c15 k15 (PySem.W.mg_of X G a15) λus hl=>match us,hl with | [_,_],_=>rfl
 have d_number_text:Df K mg "number_text" zZ ["number"] []:=zO l16 c16 k16 (PySem.W.mg_of X G a16) λus hl=>match us,hl with | [_],_=>rfl
 have d_ratio_text:Df K mg "ratio_text" xM ["one"] []:=zO l17 c17 k17 (PySem.W.mg_of X G a17) λus hl=>match us,hl with | [_],_=>rfl
 have d_ball_text:Df K mg "ball_text" x0 ["ball"] []:=zO l18 c18 k18 (PySem.W.mg_of X G a18) λus hl=>match us,hl with | [_],_=>rfl
 have d_row_text:Df K mg "row_text" qv ["row"] []:=zO l19 c19 k19 (PySem.W.mg_of X G a19) λus hl=>match us,hl with | [_],_=>rfl
 have d_parts_of:Df K mg "parts_of" qt ["thing","sign","many"] []:=zO l20 c20 k20 (PySem.W.mg_of X G a20) λus hl=>match us,hl with | [_,_,_],_=>rfl
 have d_read_number:Df K mg "read_number" xA ["text","most"] []:=zO l21 c21 k21 (PySem.W.mg_of X G a21) λus hl=>match us,hl with | [_,_],_=>rfl
 have d_read_whole:Df K mg "read_whole" xO ["text"] []:=zO l22 c22 k22 (PySem.W.mg_of X G a22) λus hl=>match us,hl with | [_],_=>rfl
 have d_read_ratio:Df K mg "read_ratio" xN ["thing"] []:=zO l23 c23 k23 (PySem.W.mg_of X G a23) λus hl=>match us,hl with | [_],_=>rfl
 have d_read_ball:Df K mg "read_ball" qb ["text"] []:=zO l24 c24 k24 (PySem.W.mg_of X G a24) λus hl=>match us,hl with | [_],_=>rfl
 have d_read_row:Df K mg "read_row" qu ["thing"] []:=zO l25 c25 k25 (PySem.W.mg_of X G a25) λus hl=>match us,hl with | [_],_=>rfl
 have d_law_pool:Df K mg "_law_pool" qo ["cell"] []:=zO l26 c26 k26 (PySem.W.mg_of X G a26) λus hl=>match us,hl with | [_],_=>rfl
 have d_law_next:Df K mg "_law_next" qm ["pool","base"] []:=zO l27 c27 k27 (PySem.W.mg_of X G a27) λus hl=>match us,hl with | [_,_],_=>rfl
 have d_law_common:Df K mg "_law_common" xK ["one","other"] []:=zO l28 c28 k28 (PySem.W.mg_of X G a28) λus hl=>match us,hl with | [_,_],_=>rfl
 have d_law_low:Df K mg "_law_low" qN ["top","bottom"] []:=zO l29 c29 k29 (PySem.W.mg_of X G a29) λus hl=>match us,hl with | [_,_],_=>rfl
 have d_law_sum:Df K mg "_law_sum" qP ["one","other"] []:=zO l30 c30 k30 (PySem.W.mg_of X G a30) λus hl=>match us,hl with | [_,_],_=>rfl
 have d_law_gap:Df K mg "_law_gap" qM ["one","other"] []:=zO l31 c31 k31 (PySem.W.mg_of X G a31) λus hl=>match us,hl with | [_,_],_=>rfl
 have d_law_below:Df K mg "_law_below" x8 ["one","other"] []:=zO l32 c32 k32 (PySem.W.mg_of X G a32) λus hl=>match us,hl with | [_,_],_=>rfl
 have d_law_weight:Df K mg "_law_weight" xL ["pool"] []:=zO l33 c33 k33 (PySem.W.mg_of X G a33) λus hl=>match us,hl with | [_],_=>rfl
 have d_law_small:Df K mg "_law_small" x9 ["pool"] []:=zO l34 c34 k34 (PySem.W.mg_of X G a34) λus hl=>match us,hl with | [_],_=>rfl
 have d_law_row:Df K mg "_law_row" qO ["pool","most"] []:=zO l35 c35 k35 (PySem.W.mg_of X G a35) λus hl=>match us,hl with | [_,_],_=>rfl
 have d_law_figures:Df K mg "_law_figures" xy ["number"] []:=zO l36 c36 k36 (PySem.W.mg_of X G a36) λus hl=>match us,hl with | [_],_=>rfl
 have d_law_ratio_text:Df K mg "_law_ratio_text" xf ["one"] []:=zO l37 c37 k37 (PySem.W.mg_of X G a37) λus hl=>match us,hl with | [_],_=>rfl
 have d_law_row_text:Df K mg "_law_row_text" xr ["row"] []:=zO l38 c38 k38 (PySem.W.mg_of X G a38) λus hl=>match us,hl with | [_],_=>rfl
 have d_law_value:Df K mg "_law_value" qa ["text"] []:=zO l39 c39 k39 (PySem.W.mg_of X G a39) λus hl=>match us,hl with | [_],_=>rfl
 have d_law_read:Df K mg "_law_read" qp ["text"] []:=zO l40 c40 k40 (PySem.W.mg_of X G a40) λus hl=>match us,hl with | [_],_=>rfl
 have d_law_bent:Df K mg "_law_bent" ql ["text","pool"] []:=zO l41 c41 k41 (PySem.W.mg_of X G a41) λus hl=>match us,hl with | [_,_],_=>rfl
 have d_law_read_row:Df K mg "_law_read_row" xq ["text"] []:=zO l42 c42 k42 (PySem.W.mg_of X G a42) λus hl=>match us,hl with | [_],_=>rfl
 have d_law_amiss:Df K mg "_law_amiss" x6 ["row","pool"] []:=zO l43 c43 k43 (PySem.W.mg_of X G a43) λus hl=>match us,hl with | [_,_],_=>rfl
 have d_law_refused:Df K mg "_law_refused" xz ["thing"] []:=zO l44 c44 k44 (PySem.W.mg_of X G a44) λus hl=>match us,hl with | [_],_=>rfl
 have d_law_told:Df K mg "_law_told" qq ["text"] []:=zO l45 c45 k45 (PySem.W.mg_of X G a45) λus hl=>match us,hl with | [_],_=>rfl
 have T:TxB K mg:=⟨zci K,zch K,PySem.W.mg_none_of X G z_isinstance,PySem.W.mg_none_of X G z_int,PySem.W.mg_none_of X G z_bool,PySem.W.mg_none_of X G z_abs,PySem.W.mg_none_of X G z_len,PySem.W.mg_none_of X G z_max,PySem.W.mg_none_of X G z_min,PySem.W.mg_none_of X G z_range,PySem.W.mg_none_of X G z_tuple,PySem.W.mg_none_of X G z_sum⟩
 have F:=zca (st:=s_law) l46 c46 k46
 refine⟨PySem.W.fnOf "law" "law" (zp s_law) (zm s_law) (zg s_law) .none kV46 dc46 pm46 an46 cd46 ct46,λs v=>.of_eq rfl,λbase hKb hGb=>?_⟩
 have TS:TxS K mg:=⟨zcj K,zck K,PySem.W.mg_none_of X G z_str,PySem.W.mg_none_of X G z_all,PySem.W.mg_none_of X G z_list⟩
 have TF:TxF mg tk_FIGURES tk_MOST_FIGURES:=⟨PySem.W.mg_of X G v_FIGURES,PySem.W.mg_of X G v_MOST_FIGURES⟩
 have T3:Tx3 K mg tk_MOST_BALLS tk_MOST_WEIGHT a_OPEN:=⟨PySem.W.mg_none_of X G z_zip,PySem.W.mg_of X G v_MOST_BALLS,PySem.W.mg_of X G v_MOST_WEIGHT,PySem.W.mg_of X G v_OPEN,λH=>.inr ⟨_,_,_,l_OPEN,rfl,rfl,(by show 2<=sizeLine;decide),.cons rfl (.cons rfl .nil)⟩⟩
 have O:=zcI hKb hGb a_NoText x_NoText
 have cW:=Jr (P:=l.prog) (w:=w) (base:=base) d_is_whole T
 have cG:=zcu (P:=l.prog) (w:=w) (base:=base) d_greatest_divisor
 have cTu:=Jk (P:=l.prog) (w:=w) (base:=base) d_is_tuple T TS
 have cTm:=Vu (P:=l.prog) (w:=w) (base:=base) d_is_tuple T TS
 have cIr:=zcv d_is_ratio T cTu cW cG
 have cWa:=Vv d_is_wall cTu cIr
 have cWp:=Jl d_is_wall_pair T3 cTm cWa
 have cLs:=zaQ (P:=l.prog) (w:=w) (base:=base) d_less
 have cWg:=Vw d_walls_good T3 cWp cLs
 have cBf:=zdu d_is_ball_form cTu cIr cW
 have cIw:=zcw d_is_weight T3 cW
 have cIb:=zdw d_is_ball cBf cIw
 have cFo:=zdv d_follows cLs
 have cOd:=zdz d_is_ordered TS T3 cFo
 have cKs:=Jm (P:=l.prog) (w:=w) (base:=base) d_keeps_side
 have cBt:=zdt d_is_between T3 cKs
 have cIs:=zdx d_is_row T TS T3 cWg cIb cOd cBt
 have c0:=zcC (P:=l.prog) (w:=w) (base:=base) d_number_text TS
 have cNt:=zdy d_number_text TS c0
 have cRt:=zdA d_ratio_text cNt
 have cBx:=zcs d_ball_text cRt
 have cRx:=zcF d_row_text cBx
 have cPs:=zcD (P:=l.prog) (w:=w) d_parts_of T TS O
 have cRn:=zaS (P:=l.prog) (w:=w) d_read_number T TS TF O
 have cRw:=zcG d_read_whole TF O cRn
 have cRr:=zaT d_read_ratio T TF O cPs cRn cRw cIr
 have cBa:=zaR d_read_ball TF cPs cRn cRr
 have cRrw:=zaU d_read_row T T3 O cPs cBa cIs
 have cRq:=zcE cRrw
 have cD:=zct (P:=l.prog) (w:=w) (base:=base) d_law_pool T
 have cN:=zaP (P:=l.prog) (w:=w) (base:=base) d_law_next
 have cC:=zaG (P:=l.prog) (w:=w) (base:=base) d_law_common
 have cL:=zaJ d_law_low T cC
 have cS:=zaM d_law_sum cL
 have cGa:=zaI d_law_gap cL
 have cBl:=zaF (P:=l.prog) (w:=w) (base:=base) d_law_below
 have cWe:=zaO d_law_weight cN
 have cSm:=zaL d_law_small cN cL
 have cRo:=zaK d_law_row T cN cSm cWe cL cS cBl
 have cFi:=zaH (P:=l.prog) (w:=w) (base:=base) d_law_figures T
 have cLt:=zcA d_law_ratio_text cFi
 have cLr:=zcB d_law_row_text cLt cFi
 have cVa:=zaN (P:=l.prog) (w:=w) (base:=base) d_law_value T
 have cRd:=Jo d_law_read T cVa cC
 have cLrr:=zcz d_law_read_row T cRd cVa cBl
 have cBe:=Jn d_law_bent T cN
 have cAm:=zcx d_law_amiss T cN cLr cLt cGa
 have cRf:=Jp d_law_refused O cRrw
 have cTo:=Jq d_law_told O cRrw
 exact zcy F T cD cRo cLr cFi cRx cRq cRf cAm cBe cTo cLrr
theorem walk {l:PySem.W.OpenLaw}{q:Program}{loose:List Str}{XP:(Str->Option Value)->Heap->Prop}{YP:World->Heap->Prop}{d:DefRec}{K:Params->PySem.W.Frag}(hn:l.most=some 63) (hdf:d.params.defaults=[])
  (hY:∀(w:World) (h:Heap),YP w h->(K w.params).In h)
  (F:∀(w:World) (mg:Str->Option Value) (fa:Addr) (h:Heap),(K w.params).In h->h.Ns mainGlobals mg->mg d.name=some (.ref fa) →
   ∃fd:FuncData,(∀(s:Shared) (u:Value),BindsTo s fd ⟨[u],[]⟩ [("script",u)])/\∀base:Heap,(K w.params).In base->base.Ns mainGlobals mg->jJ l.prog w (K w.params) mg base CX0 9 fa fd ["script"] (QW (K w.params))) :
  PySem.W.WalkO q loose XP YP l.row.toRowW d [] (λf vs=>PySem.call f vs) :=
 L2.zbu (n:=63) (k:=9) (x:="script") (CX:=λ_=>CX0) (sp:=λw=>QW (K w.params)) hn (by decide) hdf ⟨rfl,by decide,by decide⟩ hY F (λ_ _ a ns hl _ hS=>⟨a,ns,rfl,hS,hl,λ_=>rfl⟩) λ_ _ _ _ _ z=>z
end KK
open PySem PySem.W PyProof.Rows
set_option maxRecDepth 100000 in
set_option maxHeartbeats 0 in
theorem PySem.Challenge.cw_clackrow_k70_whole_rows_written_and_read_holds : PySem.Challenge.rw_clackrow_k70_whole_rows_written_and_read.Holds := by
 w_on;o_law;k_head;(case hw=>w_witness2)
 k_fill
 refine KK.walk (l:=PySem.Challenge.rw_clackrow_k70_whole_rows_written_and_read) rfl rfl (λw h Y=>PySem.W.kIn_of Y) ?F
 case F =>
  intro w mg fa h KX G hmg
  refine' KK.zbT KX G hmg ?a0 ?l0 ?c0 ?k0 ?a1 ?l1 ?c1 ?k1 ?a2 ?l2 ?c2 ?k2 ?a3 ?l3 ?c3 ?k3 ?a4 ?l4 ?c4 ?k4 ?a5 ?l5 ?c5 ?k5 ?a6 ?l6 ?c6 ?k6 ?a7 ?l7 ?c7 ?k7 ?a8 ?l8 ?c8 ?k8 ?a9 ?l9 ?c9 ?k9 ?a10 ?l10 ?c10 ?k10 ?a11 ?l11 ?c11 ?k11 ?a12 ?l12 ?c12 ?k12 ?a13 ?l13 ?c13 ?k13 ?a14 ?l14 ?c14 ?k14 ?a15 ?l15 ?c15 ?k15 ?a16 ?l16 ?c16 ?k16 ?a17 ?l17 ?c17 ?k17 ?a18 ?l18 ?c18 ?k18 ?a19 ?l19 ?c19 ?k19 ?a20 ?l20 ?c20 ?k20 ?a21 ?l21 ?c21 ?k21 ?a22 ?l22 ?c22 ?k22 ?a23 ?l23 ?c23 ?k23 ?a24 ?l24 ?c24 ?k24 ?a25 ?l25 ?c25 ?k25 ?a26 ?l26 ?c26 ?k26 ?a27 ?l27 ?c27 ?k27 ?a28 ?l28 ?c28 ?k28 ?a29 ?l29 ?c29 ?k29 ?a30 ?l30 ?c30 ?k30 ?a31 ?l31 ?c31 ?k31 ?a32 ?l32 ?c32 ?k32 ?a33 ?l33 ?c33 ?k33 ?a34 ?l34 ?c34 ?k34 ?a35 ?l35 ?c35 ?k35 ?a36 ?l36 ?c36 ?k36 ?a37 ?l37 ?c37 ?k37 ?a38 ?l38 ?c38 ?k38 ?a39 ?l39 ?c39 ?k39 ?a40 ?l40 ?c40 ?k40 ?a41 ?l41 ?c41 ?k41 ?a42 ?l42 ?c42 ?k42 ?a43 ?l43 ?c43 ?k43 ?a44 ?l44 ?c44 ?k44 ?a45 ?l45 ?c45 ?k45 ?a46 ?l46 ?c46 ?k46 ?z_isinstance ?z_int ?z_bool ?z_abs ?z_len ?z_max ?z_min ?z_range ?z_tuple ?z_sum ?z_str ?z_all ?z_list ?z_zip ?a_NoText ?x_NoText ?v_FIGURES ?v_MOST_FIGURES ?v_MOST_BALLS ?v_MOST_WEIGHT ?v_OPEN ?l_OPEN
  (case a0=>k_is)
  (case l0=>k_is)
  (case c0=>k_is)
  (case k0=>k_is)
  (case a1=>k_is)
  (case l1=>k_is)
  (case c1=>k_is)
  (case k1=>k_is)
  (case a2=>k_is)
  (case l2=>k_is)
  (case c2=>k_is)
  (case k2=>k_is)
  (case a3=>k_is)
  (case l3=>k_is)
  (case c3=>k_is)
  (case k3=>k_is)
  (case a4=>k_is)
  (case l4=>k_is)
  (case c4=>k_is)
  (case k4=>k_is)
  (case a5=>k_is)
  (case l5=>k_is)
  (case c5=>k_is)
  (case k5=>k_is)
  (case a6=>k_is)
  (case l6=>k_is)
  (case c6=>k_is)
  (case k6=>k_is)
  (case a7=>k_is)
  (case l7=>k_is)
  (case c7=>k_is)
  (case k7=>k_is)
  (case a8=>k_is)
  (case l8=>k_is)
  (case c8=>k_is)
  (case k8=>k_is)
  (case a9=>k_is)
  (case l9=>k_is)
  (case c9=>k_is)
  (case k9=>k_is)
  (case a10=>k_is)
  (case l10=>k_is)
  (case c10=>k_is)
  (case k10=>k_is)
  (case a11=>k_is)
  (case l11=>k_is)
  (case c11=>k_is)
  (case k11=>k_is)
  (case a12=>k_is)
  (case l12=>k_is)
  (case c12=>k_is)
  (case k12=>k_is)
  (case a13=>k_is)
  (case l13=>k_is)
  (case c13=>k_is)
  (case k13=>k_is)
  (case a14=>k_is)
  (case l14=>k_is)
  (case c14=>k_is)
  (case k14=>k_is)
  (case a15=>k_is)
  (case l15=>k_is)
  (case c15=>k_is)
  (case k15=>k_is)
  (case a16=>k_is)
  (case l16=>k_is)
  (case c16=>k_is)
  (case k16=>k_is)
  (case a17=>k_is)
  (case l17=>k_is)
  (case c17=>k_is)
  (case k17=>k_is)
  (case a18=>k_is)
  (case l18=>k_is)
  (case c18=>k_is)
  (case k18=>k_is)
  (case a19=>k_is)
  (case l19=>k_is)
  (case c19=>k_is)
  (case k19=>k_is)
  (case a20=>k_is)
  (case l20=>k_is)
  (case c20=>k_is)
  (case k20=>k_is)
  (case a21=>k_is)
  (case l21=>k_is)
  (case c21=>k_is)
  (case k21=>k_is)
  (case a22=>k_is)
  (case l22=>k_is)
  (case c22=>k_is)
  (case k22=>k_is)
  (case a23=>k_is)
  (case l23=>k_is)
  (case c23=>k_is)
  (case k23=>k_is)
  (case a24=>k_is)
  (case l24=>k_is)
  (case c24=>k_is)
  (case k24=>k_is)
  (case a25=>k_is)
  (case l25=>k_is)
  (case c25=>k_is)
  (case k25=>k_is)
  (case a26=>k_is)
  (case l26=>k_is)
  (case c26=>k_is)
  (case k26=>k_is)
  (case a27=>k_is)
  (case l27=>k_is)
  (case c27=>k_is)
  (case k27=>k_is)
  (case a28=>k_is)
  (case l28=>k_is)
  (case c28=>k_is)
  (case k28=>k_is)
  (case a29=>k_is)
  (case l29=>k_is)
  (case c29=>k_is)
  (case k29=>k_is)
  (case a30=>k_is)
  (case l30=>k_is)
  (case c30=>k_is)
  (case k30=>k_is)
  (case a31=>k_is)
  (case l31=>k_is)
  (case c31=>k_is)
  (case k31=>k_is)
  (case a32=>k_is)
  (case l32=>k_is)
  (case c32=>k_is)
  (case k32=>k_is)
  (case a33=>k_is)
  (case l33=>k_is)
  (case c33=>k_is)
  (case k33=>k_is)
  (case a34=>k_is)
  (case l34=>k_is)
  (case c34=>k_is)
  (case k34=>k_is)
  (case a35=>k_is)
  (case l35=>k_is)
  (case c35=>k_is)
  (case k35=>k_is)
  (case a36=>k_is)
  (case l36=>k_is)
  (case c36=>k_is)
  (case k36=>k_is)
  (case a37=>k_is)
  (case l37=>k_is)
  (case c37=>k_is)
  (case k37=>k_is)
  (case a38=>k_is)
  (case l38=>k_is)
  (case c38=>k_is)
  (case k38=>k_is)
  (case a39=>k_is)
  (case l39=>k_is)
  (case c39=>k_is)
  (case k39=>k_is)
  (case a40=>k_is)
  (case l40=>k_is)
  (case c40=>k_is)
  (case k40=>k_is)
  (case a41=>k_is)
  (case l41=>k_is)
  (case c41=>k_is)
  (case k41=>k_is)
  (case a42=>k_is)
  (case l42=>k_is)
  (case c42=>k_is)
  (case k42=>k_is)
  (case a43=>k_is)
  (case l43=>k_is)
  (case c43=>k_is)
  (case k43=>k_is)
  (case a44=>k_is)
  (case l44=>k_is)
  (case c44=>k_is)
  (case k44=>k_is)
  (case a45=>k_is)
  (case l45=>k_is)
  (case c45=>k_is)
  (case k45=>k_is)
  (case a46=>k_is)
  (case l46=>k_is)
  (case c46=>k_is)
  (case k46=>k_is)
  (case z_isinstance=>k_is)
  (case z_int=>k_is)
  (case z_bool=>k_is)
  (case z_abs=>k_is)
  (case z_len=>k_is)
  (case z_max=>k_is)
  (case z_min=>k_is)
  (case z_range=>k_is)
  (case z_tuple=>k_is)
  (case z_sum=>k_is)
  (case z_str=>k_is)
  (case z_all=>k_is)
  (case z_list=>k_is)
  (case z_zip=>k_is)
  (case a_NoText=>k_is)
  (case x_NoText=>k_exc)
  (case v_FIGURES=>k_is)
  (case v_MOST_FIGURES=>k_is)
  (case v_MOST_BALLS=>k_is)
  (case v_MOST_WEIGHT=>k_is)
  (case v_OPEN=>k_is)
  (case l_OPEN=>k_is)
end
