import PyProof.Rows.All
import Wide.All
import OpenK.AllK
import Wide.FinOn
import Lean
import PyProof.EqAt
import PyProof.EqKinds
import PyProof.TupleCall
import PyProof.CompFree
import PyProof.Rows.SumAny
import PyProof.ZipIter
import PyProof.ConsumeWalk
import PySem.Challenge.RW_clackrow_k71_whole_bounds_written_and_re
import KE.KIntText
import PyProof.StrCalls2
import PyProof.StrBlockH
import PyProof.StrCalls6
import PyProof.StrWalks
import PyProof.Rows.FStr
import PyProof.StrLawsTight
import PyProof.StrLawsIn
set_option Elab.async false
set_option linter.all false
set_option maxRecDepth 100000
namespace L2
open PySem PySem.Spec PyProof.Rows
abbrev Key:=Sum Int Str
def Jb:Key->Value->Bool
 | .inl k,v=>Value.isInt k v
 | .inr x,v=>Value.isStrOf x v
def keyH (w:World):Key->Int
 | .inl k=>hashInt k
 | .inr x=>hashStr w x
theorem xo:∀{k:Key}{v:Value},Jb k v=true->(∃i t,k=Sum.inl i/\v=Value.int i t)\/(∃x t,k=Sum.inr x/\v=Value.str x t)
 | .inl i,v,h=>by
  obtain⟨t,e⟩:=Value.isInt_shape (k:=i) (v:=v) h
  exact .inl ⟨i,t,rfl,e⟩
 | .inr x,v,h=>by
  obtain⟨t,e⟩:=Value.isStrOf_shape (x:=x) (v:=v) h
  exact .inr ⟨x,t,rfl,e⟩
theorem JN (a b:Int):decide ((Sum.inl a:Key)=Sum.inl b)=(a == b):=by
 by_cases e:a=b
 ·subst e;simp
 ·have h:¬(Sum.inl a:Key)=Sum.inl b:=λq=>e (Sum.inl.inj q)
  rw[decide_eq_false h]
  exact(beq_eq_false_iff_ne.mpr e).symm
theorem JQ (a b:Str):decide ((Sum.inr a:Key)=Sum.inr b)=decide (a=b):=by
 by_cases e:a=b
 ·subst e;simp
 ·have h:¬(Sum.inr a:Key)=Sum.inr b:=λq=>e (Sum.inr.inj q)
  rw[decide_eq_false h,decide_eq_false e]
theorem JO (a:Int) (b:Str):decide ((Sum.inl a:Key)=Sum.inr b)=false:=decide_eq_false (λq=>nomatch q)
theorem JP (a:Str) (b:Int):decide ((Sum.inr a:Key)=Sum.inl b)=false:=decide_eq_false (λq=>nomatch q)
def Zb (prog:Program) (w:World):PySem.KeyKind prog w Key where
 is:=Jb
 hash:=keyH w
 inj:=λv a b ha hb=>by
  rcases xo ha with⟨i,t,rfl,rfl⟩ | ⟨x,t,rfl,rfl⟩
  ·rcases xo hb with⟨j,u,rfl,e⟩ | ⟨y,u,rfl,e⟩
   ·injection e with e1 _;rw[e1]
   ·exact nomatch e
  ·rcases xo hb with⟨j,u,rfl,e⟩ | ⟨y,u,rfl,e⟩
   ·exact nomatch e
   ·injection e with e1 _;rw[e1]
 byValue:=λk v h=>by
  rcases xo h with⟨i,t,rfl,rfl⟩ | ⟨x,t,rfl,rfl⟩ <;> rfl
 pyHash:=λhv h=>by
  rcases xo hv with⟨i,t,rfl,rfl⟩ | ⟨x,t,rfl,rfl⟩
  ·exact wpAny_pyHash_int h
  ·exact wpAny_pyHash_str h
 eqBool:=λhu hv h=>by
  rcases xo hu with⟨i,t,rfl,rfl⟩ | ⟨x,t,rfl,rfl⟩
  ·rcases xo hv with⟨j,u,rfl,rfl⟩ | ⟨y,u,rfl,rfl⟩
   ·rw[JN]at h;exact wpAny_eqBool_int h
   ·rw[JO]at h;exact SeqAt.EqAt.int_str i t y u _ _ _ _ h
  ·rcases xo hv with⟨j,u,rfl,rfl⟩ | ⟨y,u,rfl,rfl⟩
   ·rw[JP]at h;exact SeqAt.EqAt.str_int x t j u _ _ _ _ h
   ·rw[JQ]at h;exact wpAny_eqBool_str h
 «strs»:=λk x t v h=>by
  rcases xo h with⟨i,u,rfl,e⟩ | ⟨y,u,rfl,e⟩
  ·exact nomatch e
  ·injection e with e1 _
   subst e1
   cases v <;> rfl
end L2
namespace L2
open PySem PySem.Spec PyProof.Rows
inductive V where
 | non | bl (b:Bool) | int (i:Int) | str (x:Str) | byt (b:Array UInt8) | flt (b:UInt64) | ref (a:Addr) | ty (n:String)
 deriving DecidableEq
def xf:V->Value->Prop
 | .non,u=>u=Value.none
 | .bl b,u=>u=Value.bool b
 | .int i,u=>∃t,u=Value.int i t
 | .str x,u=>∃t,u=Value.str x t
 | .byt b,u=>∃t,u=Value.bytes b t
 | .flt b,u=>∃t,u=Value.float b t
 | .ref a,u=>u=Value.ref a
 | .ty n,u=>u=Value.type n
abbrev zS:List V->List Value->Prop:=Paired xf
theorem zS.length {xs:List V}{us:List Value}(r:zS xs us):xs.length=us.length:=Paired.length r
theorem zS.get:∀{xs:List V}{us:List Value}{i:Nat}{x:V},zS xs us->xs[i]? = some x->∃u,us[i]? = some u/\xf x u
 | _,_,_,_,.nil,e=>by simp at e
 | _,_,0,_,.cons r _,e=>by simp at e;subst e;exact⟨_,rfl,r⟩
 | _,_,i+1,x,.cons _ t,e=>by
  obtain⟨u,h1,h2⟩:=zS.get (i:=i) (x:=x) t (by simpa using e)
  exact⟨u,by simpa using h1,h2⟩
theorem zS.set {x:V}{u:Value}(r:xf x u):∀{xs:List V}{us:List Value}(i:Nat),zS xs us->zS (xs.set i x) (us.set i u)
 | _,_,_,.nil=>.nil
 | _,_,0,.cons _ t=>.cons r t
 | _,_,i+1,.cons q t=>.cons q (zS.set r i t)
theorem zS.append:∀{xs ys:List V}{us ws:List Value},zS xs us->zS ys ws->zS (xs++ys) (us++ws)
 | _,_,_,_,.nil,s=>s
 | _,_,_,_,.cons r t,s=>.cons r (zS.append t s)
def Jp:Option V->Option Value->Prop
 | some v,some u=>xf v u
 | none,none=>True
 | _,_=>False
def KV {κ:Type}:List (κ×V)->List (κ×Value)->Prop:=Paired λ(p:κ×V) (q:κ×Value)=>p.1=q.1/\xf p.2 q.2
def kV:Key->V
 | .inl i=>.int i
 | .inr x=>.str x
inductive HO where
 | lst (xs:List V)
 | tup (xs:List V)
 | dK (kvs:List (Key×V)) | dT (kvs:List (List Key×V))
 | set (S:Int->Bool) (n:Nat)
 | ins (C dx:Addr) (fs:List (Str×V))
 | own (x:Addr)
 | xd (fs:List (Str×V))
 | met (f x:Addr)
 | rng (lo hi:Int)
 | frz (o:Obj) (u:HO)
 | tbl (ps:Array Value)
 | ext (φ:Heap->Prop)
abbrev Hp:=Addr->Option HO
def upd (H:Hp) (a:Addr) (o:HO):Hp:=λb=>if b=a then some o else H b
theorem zn {H:Hp}{a:Addr}{o:HO}:upd H a o a=some o:=by unfold upd;rw[if_pos rfl]
theorem zZ {H:Hp}{a b:Addr}{o:HO}(h:b≠a):upd H a o b=H b:=by unfold upd;rw[if_neg h]
theorem zaP {H:Hp}{a b:Addr}{o u:HO}(h:H a=some o) (h':H b=some u) (d:o≠u):a≠b:=by
 intro e;subst e;rw[h]at h';exact d (Option.some.inj h')
theorem xh {H:Hp}{a b:Addr}{o:HO}(h:H a=some o) (h':H b=none):a≠b:=by
 intro e;subst e;rw[h]at h';cases h'
section
variable (P:Program) (w:World)
def xC (H:Hp) (h:Heap) (a:Addr):HO->Prop
 | .lst xs=>xs.length<=sizeLine/\∃(its:List Value) (n:Nat),zS xs its/\h.get? a=some { cls:=.type "list",data:=.seq its.toArray n }
 | .tup xs=>xs.length<=sizeLine/\∃its:List Value,zS xs its/\IsTup h a its.toArray
 | .dK kvs=>kvs.length<=sizeLine/\(a == sysModules)=false/\∃vs,KV kvs vs/\h.DictOf (Zb P w) a vs
 | .dT kvs=>kvs.length<=sizeLine/\(a == sysModules)=false/\∃xs:List (List Key×Addr×Value),
   Paired (λ(p:List Key×V) (q:List Key×Addr×Value)=>p.1=q.1/\H q.2.1=some (.tup (p.1.map kV))/\xf p.2 q.2.2) kvs xs ∧
   ∃o es ep,h.get? a=some o/\o.ExactDict/\o.data = .dict es ep/\es.toList=xs.map (entryOfKey (tupleKind (Zb P w)))/\(xs.map (·.1)).Nodup
 | .set S n=>h.SetOf (intKind P w) a S n
 | .ins C dx fs=>H dx=some (.own a)/\fs.length<=1000/\dx≠a/\h.get? a=some (PySem.W.instObj C dx) ∧
   ∃mA,h.Ns1 dx mA/\(∀f,Jp (fs.lookup f) (mA f))/\PySem.Within mA (fs.map (·.1))
 | .own _=>∃o,h.get? a=some o
 | .xd fs=>∃mA,h.Ns1 a mA/\∀f,Jp (fs.lookup f) (mA f)
 | .rng lo hi=>∃t u v,h.get? a=some { cls:=.type "range",data:=.fields #[.int lo t,.int hi u,.int 1 v] }
 | .frz o u=>h.get? a=some o/\xC H h a u
 | .tbl ps=>h.get? a=some { cls:=.none,data:=.fields ps }
 | .met f x=>h.get? a=some (PySem.W.methodObj (.ref f) (.ref x))
 | .ext φ=>φ h/\(∃o,h.get? a=some o)/\∀h1 h2:Heap,φ h1->(∀o,h1.get? a=some o->h2.get? a=some o)->φ h2
def HOk (H:Hp) (h:Heap):Prop:=∀a o,H a=some o->xC P w H h a o
end
section
variable {P:Program}{w:World}{H H':Hp}{h h':Heap}{a:Addr}{o:HO}
theorem xC.lt (x:xC P w H h a o):a<h.objs.size:=by
 cases o with
 | lst xs=>obtain⟨_,_,_,_,e⟩:=x;exact Heap.lt_size e
 | tup xs=>obtain⟨_,_,_,p⟩:=x;exact p.lt
 | dK kvs=>obtain⟨_,_,_,_,o,_,_,e,_⟩:=x;exact Heap.lt_size e
 | dT kvs=>obtain⟨_,_,_,_,o,_,_,e,_⟩:=x;exact Heap.lt_size e
 | set S n=>obtain⟨o,_,_,_,e,_⟩:=x;exact Heap.lt_size e
 | ins C dx fs=>obtain⟨_,_,_,e,_⟩:=x;exact Heap.lt_size e
 | own y=>obtain⟨_,e⟩:=x;exact Heap.lt_size e
 | xd fs=>obtain⟨_,⟨_,_,_,e,_⟩,_⟩:=x;exact Heap.lt_size e
 | rng lo hi=>obtain⟨_,_,_,e⟩:=x;exact Heap.lt_size e
 | frz ob u=>obtain⟨e,_⟩:=x;exact Heap.lt_size e
 | tbl ps=>exact Heap.lt_size (show h.get? a=some _ from x)
 | met f y=>exact Heap.lt_size (show h.get? a=some _ from x)
 | ext φ=>obtain⟨_,⟨_,e⟩,_⟩:=x;exact Heap.lt_size e
theorem Paired.mapP {α β:Type}{F G:α->β->Prop}:∀{l₁:List α}{l₂:List β},Paired F l₁ l₂->(∀a b,F a b->G a b)->Paired G l₁ l₂
 | _,_,.nil,_=>.nil
 | _,_,.cons r t,f=>.cons (f _ _ r) (Paired.mapP t f)
theorem xC.stay (x:xC P w H h a o) (k:∀b u,(b=a\/H b=some (.own a))->h.get? b=some u->h'.get? b=some u)
  (ho:∀b,H b=some (.own a)->H' b=some (.own a)) (ht:∀b xs,H b=some (.tup xs)->H' b=some (.tup xs)):xC P w H' h' a o:=by
 induction o with
 | lst xs=>obtain⟨z,its,n,r,e⟩:=x;exact⟨z,its,n,r,k _ _ (.inl rfl) e⟩
 | tup xs=>obtain⟨z,its,r,ob,e,c⟩:=x;exact⟨z,its,r,ob,k _ _ (.inl rfl) e,c⟩
 | dK kvs=>obtain⟨z,y,vs,r,ob,es,ep,e,c⟩:=x;exact⟨z,y,vs,r,ob,es,ep,k _ _ (.inl rfl) e,c⟩
 | dT kvs =>
  obtain⟨z,y,xs,r,ob,es,ep,e,c⟩:=x
  exact⟨z,y,xs,Paired.mapP r λp q z=>⟨z.1,ht _ _ z.2.1,z.2.2⟩,ob,es,ep,k _ _ (.inl rfl) e,c⟩
 | set S n=>obtain⟨ob,es,ep,t,e,c⟩:=x;exact⟨ob,es,ep,t,k _ _ (.inl rfl) e,c⟩
 | ins C dx fs =>
  obtain⟨d,z,ne,e,mA,⟨od,es,ep,e2,c⟩,r⟩:=x
  exact⟨ho _ d,z,ne,k _ _ (.inl rfl) e,mA,⟨od,es,ep,k _ _ (.inr d) e2,c⟩,r⟩
 | own y=>obtain⟨ob,e⟩:=x;exact⟨ob,k _ _ (.inl rfl) e⟩
 | xd fs=>obtain⟨mA,⟨od,es,ep,e,c⟩,r⟩:=x;exact⟨mA,⟨od,es,ep,k _ _ (.inl rfl) e,c⟩,r⟩
 | rng lo hi=>obtain⟨t,u,v,e⟩:=x;exact⟨t,u,v,k _ _ (.inl rfl) e⟩
 | frz ob u ih=>obtain⟨e,q⟩:=x;exact⟨k _ _ (.inl rfl) e,ih q⟩
 | tbl ps =>
  have e:h.get? a=some { cls:=.none,data:=.fields ps }:=x
  show h'.get? a=some { cls:=.none,data:=.fields ps }
  exact k a _ (.inl rfl) e
 | met f y =>
  have e:h.get? a=some (PySem.W.methodObj (.ref f) (.ref y)):=x
  show h'.get? a=some (PySem.W.methodObj (.ref f) (.ref y))
  exact k a _ (.inl rfl) e
 | ext φ=>obtain⟨p,⟨o,e⟩,st⟩:=x;exact⟨st _ _ p λo q=>k _ _ (.inl rfl) q,⟨o,k _ _ (.inl rfl) e⟩,st⟩
theorem HOk.lt (x:HOk P w H h) (e:H a=some o):a<h.objs.size:=(x a o e).lt
theorem HOk.fresh (x:HOk P w H h) (e:h.objs.size<=a):H a=none:=by
 cases q:H a with
 | none=>rfl
 | some u=>exact absurd (Nat.lt_of_lt_of_le (x.lt q) e) (Nat.lt_irrefl _)
theorem HOk.kept (x:HOk P w H h) (k:∀b u,h.get? b=some u->h'.get? b=some u):HOk P w H h':=λa o e =>
 (x a o e).stay (λb u _ q=>k b u q) (λ_ q=>q) λ_ _ q=>q
theorem HOk.laid (x:HOk P w H h) (k:∀b u,h.get? b=some u->h'.get? b=some u) (hp:h.objs.size<=a) (new:xC P w (upd H a o) h' a o):HOk P w (upd H a o) h':=λb u e=>by
 have hn:=x.fresh hp
 by_cases hb:b=a
 ·subst hb;rw[zn]at e;cases e;exact new
 ·rw[zZ hb]at e
  exact(x b u e).stay (λc v _ q=>k c v q) (λc q=>by rw[zZ (xh q hn)];exact q) λc xs q=>by rw[zZ (xh q hn)];exact q
end
def Rd (H:Hp) (a:Addr) (u:HO):Prop:=H a=some u\/∃o,H a=some (.frz o u)
theorem Rd.ok {P:Program}{w:World}{H:Hp}{h:Heap}{a:Addr}{u:HO}(r:Rd H a u) (x:HOk P w H h):xC P w H h a u:=by
 rcases r with r | ⟨o,r⟩
 ·exact x a u r
 ·obtain⟨_,q⟩:=x a _ r
  exact q
def Mut:Option HO->Prop
 | some (.lst _)=>True
 | some (.dK _)=>True
 | some (.dT _)=>True
 | some (.set _ _)=>True
 | some (.ins _ _ _)=>True
 | some (.ext _)=>True
 | _=>False
section
variable {P:Program}{w:World}{H:Hp}{h h':Heap}{x e:Addr}{o':HO}
theorem HOk.write (ok:HOk P w H h) (mu:Mut (H x)) (he:e=x\/H e=some (.own x)) (k:∀b u,b≠e->h.get? b=some u->h'.get? b=some u) (heo:∃u,h'.get? e=some u)
  (new:xC P w (upd H x o') h' x o'):HOk P w (upd H x o') h':=λb u q=>by
 have nown:∀c y,H c=some (.own y)->c≠x:=λc y r z=>by subst z;rw[r]at mu;exact mu
 have ntup:∀c xs,H c=some (.tup xs)->c≠x:=λc xs r z=>by subst z;rw[r]at mu;exact mu
 by_cases hb:b=x
 ·subst hb;rw[zn]at q;cases q;exact new
 ·rw[zZ hb]at q
  by_cases hbe:b=e
  ·have q':H b=some (.own x):=by
    rcases he with z | z
    ·exact absurd (hbe.trans z) hb
    ·rw[hbe];exact z
   rw[q]at q';cases q'
   obtain⟨v,hv⟩:=heo
   exact⟨v,by rw[hbe];exact hv⟩
  ·refine(ok b u q).stay (λc v hc r=>k c v ?_ r) (λc r=>by rw[zZ (nown c b r)];exact r) λc xs r=>by rw[zZ (ntup c xs r)];exact r
   rcases hc with rfl | hc
   ·exact hbe
   ·rintro rfl
    rcases he with z | z
    ·exact nown c b hc z
    ·rw[hc]at z;cases z;exact hb rfl
end
structure Un (fs ex:List Addr) (H H':Hp) (h h':Heap):Prop where
 keep:∀b o,h.get? b=some o->H b=none->b∉fs->b∉ex->h'.get? b=some o
 slot:∀b o,h.get? b=some o->H b=none->b∈fs->b∉ex->∃sl,h'.get? b=some { o with slots:=sl }
 free:∀b o,h.get? b=some o->H b=none->b∉ex->H' b=none
 there:∀b o,h.get? b=some o->b∉ex->∃o',h'.get? b=some o'
 tups:∀b xs,H b=some (.tup xs)->H' b=some (.tup xs)
 frzs:∀b o u,H b=some (.frz o u)->H' b=some (.frz o u)
 tbls:∀b ps,H b=some (.tbl ps)->∃more,H' b=some (.tbl (ps++more))
section
variable {fs fs' ex ex':List Addr}{H H1 H2:Hp}{h h1 h2 h':Heap}{a x e:Addr}{o:HO}
theorem Un.any (u:Un fs ex H H1 h h1){b:Addr}{ob:Obj}(q:h.get? b=some ob) (n:H b=none) (hx:b∉ex):∃sl,h1.get? b=some { ob with slots:=sl }:=by
 by_cases hb:b∈fs
 ·exact u.slot b ob q n hb hx
 ·exact⟨ob.slots,u.keep b ob q n hb hx⟩
theorem Un.kept (k:∀b u,h.get? b=some u->h'.get? b=some u):Un fs ex H H h h' :=
 ⟨λb ob q _ _ _=>k b ob q,λb ob q _ _ _=>⟨ob.slots,k b ob q⟩,λ_ _ _ n _=>n,λb ob q _=>⟨ob,k b ob q⟩,λ_ _ q=>q,λ_ _ _ q=>q,λ_ ps q=>⟨#[],by rw[q];simp⟩⟩
theorem Un.refl:Un fs ex H H h h:=Un.kept λ_ _ q=>q
theorem Un.laid (k:∀b u,h.get? b=some u->h'.get? b=some u) (hp:h.objs.size<=a) (hn:H a=none):Un fs ex H (upd H a o) h h' where
 keep:=λb u q _ _ _=>k b u q
 slot:=λb u q _ _ _=>⟨u.slots,k b u q⟩
 free:=λb u q n _=>by rw[zZ (Nat.ne_of_lt (Nat.lt_of_lt_of_le (Heap.lt_size q) hp))];exact n
 there:=λb u q _=>⟨u,k b u q⟩
 tups:=λb xs q=>by rw[zZ (xh q hn)];exact q
 frzs:=λb u xs q=>by rw[zZ (xh q hn)];exact q
 tbls:=λb ps q=>⟨#[],by rw[zZ (xh q hn),q];simp⟩
theorem Un.write (mu:Mut (H x)) (he:e=x\/H e=some (.own x)) (k:∀b u,b≠e->h.get? b=some u->h'.get? b=some u) (heo:∃u,h'.get? e=some u):Un fs ex H (upd H x o) h h':=by
 have hx:∀b,H b=none->b≠x:=λb n z=>by subst z;rw[n]at mu;exact mu
 have hb:∀b,H b=none->b≠e:=λb n z=>by
  subst z
  rcases he with r | r
  ·exact hx b n r
  ·rw[n]at r;cases r
 have hm:∀b u,H b=some u->¬Mut (some u)->b≠x:=λb u q nm z=>by subst z;rw[q]at mu;exact nm mu
 refine⟨λb u q n _ _=>k b u (hb b n) q,λb u q n _ _=>⟨u.slots,k b u (hb b n) q⟩,λb u q n _=>by rw[zZ (hx b n)];exact n,λb u q _=>?_,
  λb xs q=>by rw[zZ (hm b _ q λz=>z)];exact q,λb u xs q=>by rw[zZ (hm b _ q λz=>z)];exact q,λb ps q=>⟨#[],by rw[zZ (hm b _ q λz=>z),q];simp⟩⟩
 by_cases hbe:b=e
 ·subst hbe;exact heo
 ·exact⟨u,k b u hbe q⟩
end
def trk (h:Heap) (H:Hp):List Addr:=(List.range h.objs.size).filter λa=>(H a).isSome
def j6 (h:Heap) (H:Hp):Heap:=PySem.W.hideAll h (trk h H)
theorem XO (h:Heap) (H:Hp):(j6 h H).objs.size=h.objs.size:=PySem.W.hideAll_size _ _
theorem Qr {h:Heap}{H:Hp}{b:Addr}{o:Obj}(e:h.get? b=some o) (n:H b=none):(j6 h H).get? b=some o :=
 PySem.W.hideAll_get _ e λhm=>by
  have q:(H b).isSome=true:=(List.mem_filter.mp hm).2
  rw[n]at q;simp at q
theorem Vr {h:Heap}{H:Hp}{b:Addr}{o:Obj}(e:(j6 h H).get? b=some o):h.get? b=some o/\H b=none:=by
 have e':h.get? b=some o:=PySem.W.of_hideAll (trk h H) e
 refine⟨e',?_⟩
 cases q:H b with
 | none=>rfl
 | some x =>
  have hm:b∈trk h H:=List.mem_filter.mpr ⟨List.mem_range.mpr (Heap.lt_size e'),by simp[q]⟩
  have z:(j6 h H).get? b=none:=PySem.W.hideAll_none (trk h H) hm
  rw[z]at e;cases e
end L2
namespace L2
open PySem PySem.Spec PyProof.Rows
structure Mod (K:PySem.W.Frag) (mg:Str->Option Value) (base:Heap):Prop where
 kin:K.In base
 glob:base.Ns mainGlobals mg
 blt:∃mb,base.Ns builtinsNs mb/\∀x:Str,x≠"__name__"->mb x=bootBuiltins x
 nolimit:base.NoLimit
structure Cx where
 prog:Program
 w:World
 K:PySem.W.Frag
 mg:Str->Option Value
 base:Heap
 A:Around
 N:List Str
 s₀:Shared
 H₀:Hp
 env:Env
 outer:List Env
 stack:List Env
 ex:List Addr
 fn:Str->Bool
 calm:Bool
 pn:List (Addr×Obj)
 xe:Value->Shared->Prop
def frs (l:List Env):List Addr:=l.filterMap (·.frame)
abbrev Cx.fs (X:Cx):List Addr:=frs X.outer
def Vis (sc:Scope) (x:Str):Prop:=sc.names.lookup x=some .local ∨ sc.names.lookup x=some .cell\/sc.names.lookup x=some .free
def Loc (sc:Scope) (x:Str):Prop:=sc.names.lookup x=some .local ∨ sc.names.lookup x=some .cell
def Look (env:Env) (h:Heap) (m:Str->Option Value) (x:Str) (u:Value):Prop :=
 (env.kindOf x=some .local ∧ m x=some u)\/((env.kindOf x=some .cell\/env.kindOf x=some .free)/\∃c,env.cells.lookup x=some c/\h.IsCell c (some u))
structure Cx.Ok (X:Cx):Prop where
 mod:Mod X.K X.mg X.base
 kind:X.env.scope.kind = .function
 glob:X.env.globals=mainGlobals
 blt:X.env.builtins=builtinsNs
 above:X.s₀.heap.objs.size<=X.env.locals
 inj:∀x y c,X.env.cells.lookup x=some c->X.env.cells.lookup y=some c->x=y
 has:∀x,(X.env.kindOf x=some .cell\/X.env.kindOf x=some .free)->∃c,X.env.cells.lookup x=some c
 cab:∀x c,X.fn x=true->X.env.cells.lookup x=some c->X.s₀.heap.objs.size<=c
 hd:X.calm=true->X.A.handled=none
 frames:X.A.frames=some X.stack
 stk:X.stack=X.outer\/(X.stack=X.env::X.outer/\X.env.frame=some X.env.locals)
 exf:∀b∈X.ex,b≠X.env.locals/\∀x c,X.env.cells.lookup x=some c->c≠b
 bs:∀b o,X.base.get? b=some o->X.s₀.heap.get? b=some o/\X.H₀ b=none
 bsz:X.base.objs.size<=X.s₀.heap.objs.size
 noex:∀b o,X.base.get? b=some o->b∉X.ex
 exfs:∀b∈X.ex,b∉X.fs
 funs:X.s₀.heap.FunFrames X.base X.outer
 frf:∀b∈X.fs,X.H₀ b=none
structure Inv (X:Cx) (pins:List (Addr×Obj)) (σ:List (Option V)) (H:Hp) (s:Shared):Prop where
 ok:X.Ok
 os:s.os=X.s₀.os
 bare:AllBare s.gens
 base:Un X.fs X.ex X.H₀ H X.s₀.heap s.heap
 loc:∃m,s.heap.Ns X.env.locals m/\∀(i:Nat) (x:Str) (v:V),X.N[i]? = some x->σ[i]? = some (some v)->Vis X.env.scope x->∃u,xf v u/\Look X.env s.heap m x u
 cell:∀x c,X.env.cells.lookup x=some c->∃v,s.heap.IsCell c v
 free:H X.env.locals=none
 freeC:∀x c,X.env.cells.lookup x=some c->H c=none
 pin:∀p∈X.pn++pins,s.heap.get? p.1=some p.2/\H p.1=none/\p.1≠X.env.locals/\p.1∉X.fs/\∀v,p.2.data≠.cell v
 hok:HOk X.prog X.w H s.heap
 len:σ.length=X.N.length
section
variable {X:Cx}{pins:List (Addr×Obj)}{σ:List (Option V)}{H H':Hp}{s:Shared}{h':Heap}
theorem Cx.Ok.nofr (ok:X.Ok){b:Addr}{o:Obj}(e:X.base.get? b=some o):b∉X.fs:=λhb=>by
 have:=(ok.funs.mem hb).1
 rw[e]at this;cases this
theorem Inv.bs (I:Inv X pins σ H s):∀b o,X.base.get? b=some o->s.heap.get? b=some o/\H b=none:=λb o e =>
 ⟨I.base.keep b o (I.ok.bs b o e).1 (I.ok.bs b o e).2 (I.ok.nofr e) (I.ok.noex b o e),I.base.free b o (I.ok.bs b o e).1 (I.ok.bs b o e).2 (I.ok.noex b o e)⟩
theorem Inv.bk (I:Inv X pins σ H s):∀b o,X.base.get? b=some o->s.heap.get? b=some o:=λb o e=>(I.bs b o e).1
theorem Inv.mod (I:Inv X pins σ H s):Mod X.K X.mg X.base:=I.ok.mod
theorem Inv.kIn (I:Inv X pins σ H s):X.K.In s.heap:=I.ok.mod.kin.keeps I.bk
theorem Inv.lt (I:Inv X pins σ H s):X.env.locals<s.heap.objs.size:=let ⟨_,hn,_⟩:=I.loc;hn.lt
theorem Inv.sz (I:Inv X pins σ H s):X.s₀.heap.objs.size<=s.heap.objs.size:=Nat.le_trans I.ok.above (Nat.le_of_lt I.lt)
theorem Inv.nofs (I:Inv X pins σ H s){a:Addr}(h:s.heap.objs.size<=a):a∉X.fs:=λhb=>by
 obtain⟨_,o,ho,_⟩:=I.ok.funs.mem hb
 exact absurd (Nat.lt_of_lt_of_le (Heap.lt_size ho) (Nat.le_trans I.sz h)) (Nat.lt_irrefl _)
theorem Inv.cne (I:Inv X pins σ H s):∀x c,X.env.cells.lookup x=some c->c≠X.env.locals:=λx c e z=>by
 obtain⟨v,o,ho,hd⟩:=I.cell x c e
 obtain⟨m,⟨o',es,ep,ho',hd',_⟩,_⟩:=I.loc
 rw[z,ho']at ho;cases ho;rw[hd']at hd;cases hd
theorem Inv.funs (I:Inv X pins σ H s):s.heap.FunFrames X.base X.outer:=by
 have all:∀(l:List Env),(∀b∈frs l,b∈X.fs)->X.s₀.heap.FunFrames X.base l->s.heap.FunFrames X.base l:=by
  intro l
  induction l with
  | nil=>intro _ _;trivial
  | cons env r ih =>
   intro hs hl
   obtain⟨hk,⟨L,o,hf,hn,ho,hd⟩,hr⟩:=hl
   have hL:L∈X.fs:=hs L (by unfold frs;rw[List.filterMap_cons,hf];exact List.mem_cons_self)
   obtain⟨sl,e⟩:=I.base.slot L o ho (I.ok.frf L hL) hL λz=>I.ok.exfs L z hL
   exact⟨hk,⟨L,_,hf,hn,e,hd⟩,ih (λb hb=>hs b (by unfold frs;rw[List.filterMap_cons,hf];exact List.mem_cons_of_mem _ hb)) hr⟩
 exact all X.outer (λ_ hb=>hb) I.ok.funs
theorem Inv.stack (I:Inv X pins σ H s):s.heap.FunFrames X.base X.stack:=by
 rcases I.ok.stk with e | ⟨e,hf⟩
 ·rw[e];exact I.funs
 ·rw[e]
  obtain⟨m,hn,_⟩:=I.loc
  refine .cons (by rw[I.ok.kind];decide) hf hn ?_ I.funs
  exact Heap.get?_none_of_le (Nat.le_trans I.ok.bsz I.ok.above)
theorem Inv.stkSub (I:Inv X pins σ H s):∀b∈frs X.stack,b∈X.env.locals::X.fs:=λb hb=>by
 rcases I.ok.stk with e | ⟨e,hf⟩
 ·rw[e]at hb;exact List.mem_cons_of_mem _ hb
 ·rw[e]at hb
  unfold frs at hb
  rw[List.filterMap_cons,hf]at hb
  exact hb
theorem Inv.stkFree (I:Inv X pins σ H s):∀b∈frs X.stack,H b=none:=λb hb=>by
 rcases List.mem_cons.mp (I.stkSub b hb)with e | hb
 ·rw[e];exact I.free
 ·obtain⟨_,o,ho,_⟩:=I.ok.funs.mem hb
  exact I.base.free b o ho (I.ok.frf b hb) λz=>I.ok.exfs b z hb
theorem Inv.step {g':Array GenState}{t':Nat}{d':Drawn}{ch:List Addr}(I:Inv X pins σ H s)
  (hch:∀b∈ch,(b∈X.ex\/X.s₀.heap.objs.size<=b)/\b≠X.env.locals/\(∀x c,X.env.cells.lookup x=some c->c≠b)/\∀p∈X.pn++pins,p.1≠b)
  (keep:∀b o,b≠X.env.locals->b∉X.fs->b∉ch->s.heap.get? b=some o->H b=none->h'.get? b=some o)
  (slot:∀b o,b≠X.env.locals->b∈X.fs->b∉ch->s.heap.get? b=some o->H b=none->∃sl,h'.get? b=some { o with slots:=sl }) (free:∀b o,b∉ch->s.heap.get? b=some o->H b=none->H' b=none)
  (there:∀b o,b∉ch->s.heap.get? b=some o->∃o',h'.get? b=some o')
  (tups:∀b xs,H b=some (.tup xs)->H' b=some (.tup xs)) (frzs:∀b o u,H b=some (.frz o u)->H' b=some (.frz o u)) (tbls:∀b ps,H b=some (.tbl ps)->∃more,H' b=some (.tbl (ps++more)))
  (ns:∀m,s.heap.Ns X.env.locals m->h'.Ns X.env.locals m) (hok:HOk X.prog X.w H' h') (hg:AllBare g') :
  Inv X pins σ H' { s with heap:=h',gens:=g',drawn:=d',toks:=t' }:=by
 have neL:∀b o,X.s₀.heap.get? b=some o->b≠X.env.locals:=λb o e=>Nat.ne_of_lt (Nat.lt_of_lt_of_le (Heap.lt_size e) I.ok.above)
 have neC:∀b o,X.s₀.heap.get? b=some o->b∉X.ex->b∉ch:=λb o e hx hb=>by
  rcases(hch b hb).1 with z | z
  ·exact hx z
  ·exact absurd (Nat.lt_of_lt_of_le (Heap.lt_size e) z) (Nat.lt_irrefl _)
 have cellK:∀x c,X.env.cells.lookup x=some c->∀v,s.heap.IsCell c v->h'.IsCell c v:=λx c e v ⟨o,ho,hd⟩=>by
  have nch:c∉ch:=λz=>(hch c z).2.2.1 x c e rfl
  by_cases hc:c∈X.fs
  ·obtain⟨sl,q⟩:=slot c o (I.cne x c e) hc nch ho (I.freeC x c e)
   exact⟨_,q,hd⟩
  ·exact⟨o,keep c o (I.cne x c e) hc nch ho (I.freeC x c e),hd⟩
 refine⟨I.ok,I.os,hg,⟨λb o e n hb hx=>?_,λb o e n hb hx=>?_,λb o e n hx=>?_,λb o e hx=>?_,λb xs e=>tups b xs (I.base.tups b xs e),λb o xs e=>frzs b o xs (I.base.frzs b o xs e),λb ps e=>?_⟩,?_,λx c e=>?_,?_,λx c e=>?_,λp hp=>?_,hok,I.len⟩
 ·exact keep b o (neL b o e) hb (neC b o e hx) (I.base.keep b o e n hb hx) (I.base.free b o e n hx)
 ·obtain⟨sl,e1⟩:=I.base.slot b o e n hb hx
  obtain⟨sl',e2⟩:=slot b _ (neL b o e) hb (neC b o e hx) e1 (I.base.free b o e n hx)
  exact⟨sl',e2⟩
 ·obtain⟨o',e1⟩:=I.base.there b o e hx
  exact free b o' (neC b o e hx) e1 (I.base.free b o e n hx)
 ·obtain⟨o',e1⟩:=I.base.there b o e hx
  exact there b o' (neC b o e hx) e1
 ·obtain⟨m1,e1⟩:=I.base.tbls b ps e
  obtain⟨m2,e2⟩:=tbls b _ e1
  exact⟨m1++m2,by rw[e2,Array.append_assoc]⟩
 ·obtain⟨m,hn,hl⟩:=I.loc
  refine⟨m,ns m hn,λi x v e1 e2 e3=>?_⟩
  obtain⟨u,r,l⟩:=hl i x v e1 e2 e3
  refine⟨u,r,?_⟩
  rcases l with l | ⟨k,c,e,z⟩
  ·exact .inl l
  ·exact .inr ⟨k,c,e,cellK x c e _ z⟩
 ·obtain⟨v,z⟩:=I.cell x c e
  exact⟨v,cellK x c e v z⟩
 ·obtain⟨m,⟨o,_,_,ho,_⟩,_⟩:=I.loc
  exact free _ o (λz=>(hch _ z).2.1 rfl) ho I.free
 ·obtain⟨v,o,ho,hd⟩:=I.cell x c e
  exact free c o (λz=>(hch c z).2.2.1 x c e rfl) ho (I.freeC x c e)
 ·obtain⟨e,n,ne,nf,d⟩:=I.pin p hp
  have nch:p.1∉ch:=λz=>(hch p.1 z).2.2.2 p hp rfl
  exact⟨keep p.1 p.2 ne nf nch e n,free p.1 p.2 nch e n,ne,nf,d⟩
theorem Inv.un {t':Nat}(I:Inv X pins σ H s) (u:Un X.fs [] H H' s.heap h') (hok:HOk X.prog X.w H' h'):Inv X pins σ H' { s with heap:=h',toks:=t' }:=by
 obtain⟨m,⟨o,es,ep,ho,r⟩,_⟩:=id I.loc
 obtain⟨sl,hL⟩:=u.any ho I.free (by simp)
 exact I.step (g':=s.gens) (d':=s.drawn) (ch:=[]) (λ_ z=>nomatch z) (λb o _ hb _ e n=>u.keep b o e n hb (by simp)) (λb o _ hb _ e n=>u.slot b o e n hb (by simp)) (λb o _ e n=>u.free b o e n (by simp)) (λb o _ e=>u.there b o e (by simp)) u.tups u.frzs u.tbls (λm' hm=>by
  obtain⟨o',es',ep',ho',r'⟩:=hm
  rw[ho]at ho';cases ho'
  exact⟨_,es',ep',hL,r'⟩) hok I.bare
theorem Inv.call {g':Array GenState}{t':Nat}{d':Drawn}{ch:List Addr}(I:Inv X pins σ H s) (u:Un (frs X.stack) ch H H' s.heap h') (hok:HOk X.prog X.w H' h') (hg:AllBare g')
  (hch:∀b∈ch,(b∈X.ex\/X.s₀.heap.objs.size<=b)/\b≠X.env.locals/\(∀x c,X.env.cells.lookup x=some c->c≠b)/\∀p∈X.pn++pins,p.1≠b) :
  Inv X pins σ H' { s with heap:=h',gens:=g',drawn:=d',toks:=t' }:=by
 obtain⟨m,⟨o,es,ep,ho,r⟩,_⟩:=id I.loc
 obtain⟨sl,hL⟩:=u.any ho I.free λz=>(hch _ z).2.1 rfl
 exact I.step (ch:=ch) hch (λb o hL hb hc e n=>u.keep b o e n (λz=>(List.mem_cons.mp (I.stkSub b z)).elim hL hb) hc) (λb o _ _ hc e n=>u.any e n hc) (λb o hc e n=>u.free b o e n hc) (λb o hc e=>u.there b o e hc) u.tups u.frzs u.tbls (λm' hm=>by
  obtain⟨o',es',ep',ho',r'⟩:=hm
  rw[ho]at ho';cases ho'
  exact⟨_,es',ep',hL,r'⟩) hok hg
theorem Inv.turned {t':Nat}{it:Addr}(I:Inv X pins σ H s) (k:∀b o,b≠it->s.heap.get? b=some o->h'.get? b=some o) (hn:H it=none) (hL:it≠X.env.locals)
  (h1:it∈X.ex\/X.s₀.heap.objs.size<=it) (h2:∀x c,X.env.cells.lookup x=some c->c≠it) (h3:∀p∈X.pn++pins,p.1≠it):Inv X pins σ H { s with heap:=h',toks:=t' }:=by
 have nit:∀b u,H b=some u->b≠it:=λb u e z=>by rw[z,hn]at e;cases e
 refine I.step (g':=s.gens) (d':=s.drawn) (ch:=[it]) (λb hb=>?_) (λb o _ _ hc e _=>k b o (λz=>hc (by simp[z])) e) (λb o _ _ hc e _=>⟨o.slots,k b o (λz=>hc (by simp[z])) e⟩) (λ_ _ _ _ n=>n)
  (λb o hc e=>⟨o,k b o (λz=>hc (by simp[z])) e⟩) (λ_ _ e=>e) (λ_ _ _ e=>e) (λb ps e=>⟨#[],by rw[e];simp⟩) (λm hm=>?_) (λb u e=>?_) I.bare
 ·have e:b=it:=by simpa using hb
  subst e
  exact⟨h1,hL,h2,h3⟩
 ·obtain⟨o,es,ep,ho,r⟩:=hm
  exact⟨o,es,ep,k _ o (Ne.symm hL) ho,r⟩
 ·refine(I.hok b u e).stay (λc v hc q=>k c v ?_ q) (λ_ q=>q) λ_ _ q=>q
  rcases hc with z | z
  ·rw[z];exact nit b u e
  ·exact nit c _ z
theorem Inv.tok (I:Inv X pins σ H s) (t:Nat):Inv X pins σ H { s with toks:=t }:=I.un (h':=s.heap) (t':=t) Un.refl I.hok
theorem Inv.kept {t':Nat}(I:Inv X pins σ H s) (k:∀b u,s.heap.get? b=some u->h'.get? b=some u):Inv X pins σ H { s with heap:=h',toks:=t' }:=I.un (Un.kept k) (I.hok.kept k)
theorem Inv.laid {a:Addr}{o:HO}{t':Nat}(I:Inv X pins σ H s) (k:∀b u,s.heap.get? b=some u->h'.get? b=some u) (hp:s.heap.objs.size<=a) (new:xC X.prog X.w (upd H a o) h' a o) :
  Inv X pins σ (upd H a o) { s with heap:=h',toks:=t' }:=I.un (Un.laid k hp (I.hok.fresh hp)) (I.hok.laid k hp new)
theorem Inv.write {x e:Addr}{o:HO}{t':Nat}(I:Inv X pins σ H s) (mu:Mut (H x)) (he:e=x\/H e=some (.own x)) (k:∀b u,b≠e->s.heap.get? b=some u->h'.get? b=some u) (heo:∃u,h'.get? e=some u)
  (new:xC X.prog X.w (upd H x o) h' x o):Inv X pins σ (upd H x o) { s with heap:=h',toks:=t' }:=I.un (Un.write mu he k heo) (I.hok.write mu he k heo new)
theorem Inv.pins_of {pins':List (Addr×Obj)} (I:Inv X pins σ H s) (h:∀p∈pins',s.heap.get? p.1=some p.2/\H p.1=none/\p.1≠X.env.locals/\p.1∉X.fs/\∀v,p.2.data≠.cell v):Inv X pins' σ H s :=
 ⟨I.ok,I.os,I.bare,I.base,I.loc,I.cell,I.free,I.freeC,λp hp=>(List.mem_append.mp hp).elim (λz=>I.pin p (List.mem_append_left _ z)) (h p),I.hok,I.len⟩
theorem Zy {N:List Str}(hN:N.Nodup){i j:Nat}{x:Str}(a:N[i]? = some x) (b:N[j]? = some x):i=j:=by
 obtain⟨h1,e1⟩:=List.getElem?_eq_some_iff.mp a
 obtain⟨h2,e2⟩:=List.getElem?_eq_some_iff.mp b
 exact(List.getElem_inj hN).mp (e1.trans e2.symm)
theorem X7 {M:Model}{A:Around}{E:Value->Shared->Prop}{i:Nat}{x:Str}{v:V}{u:Value}{Q:Unit->Shared->Prop}(I:Inv X pins σ H s) (hN:X.N.Nodup) (hi:X.N[i]? = some x) (hx:Loc X.env.scope x) (r:xf v u)
  (h:∀s',Inv X pins (σ.set i (some v)) H s'->(∃a,Heap.SameBut a s.heap s'.heap/\(a=X.env.locals\/X.env.cells.lookup x=some a))->Q () s') (hf:X.fn x=true\/X.env.scope.names.lookup x=some .local := by first | exact .inl rfl | exact .inr rfl | assumption):wpAny M A (storeName X.env x u) Q E s:=by
 obtain⟨m,hn,hl⟩:=id I.loc
 have hcls:(X.env.scope.kind == .class || (X.env.scope.kind == .module&&X.env.locals != X.env.globals))=false:=by rw[I.ok.kind];rfl
 have hiσ:i<σ.length:=by rw[I.len];exact(List.getElem?_eq_some_iff.mp hi).1
 have cne:=I.cne
 have tracked:∀{a:Addr}{h':Heap},(∃o,s.heap.get? a=some o/\H a=none)->Heap.SameBut a s.heap h'->HOk X.prog X.w H h':=λ{a h'} ha hs b ob e=>by
  obtain⟨_,_,hfree⟩:=ha
  refine(I.hok b ob e).stay (λc w' hc q=>(hs.2 c ?_).trans q) (λ_ q=>q) λ_ _ q=>q
  rintro rfl
  rcases hc with rfl | hc
  ·rw[hfree]at e;cases e
  ·rw[hfree]at hc;cases hc
 rcases hx with hk | hk
 ·refine wpAny_storeName_local hk hn (λh' hn' hs=>?_) hcls
  obtain⟨oL,_,_,hoL,_⟩:=id hn
  refine h _ ⟨I.ok,I.os,I.bare,⟨λb o e n hb hx=>?_,λb o e n hb hx=>?_,I.base.free,λb o e hx=>?_,I.base.tups,I.base.frzs,I.base.tbls⟩,⟨_,hn',λj y v' e1 e2 e3=>?_⟩,λy c e=>?_,I.free,I.freeC,λp hp=>?_,tracked ⟨oL,hoL,I.free⟩ hs,by simpa using I.len⟩ ⟨_,hs,.inl rfl⟩
  ·exact(hs.2 b (Nat.ne_of_lt (Nat.lt_of_lt_of_le (Heap.lt_size e) I.ok.above))).trans (I.base.keep b o e n hb hx)
  ·obtain⟨sl,e1⟩:=I.base.slot b o e n hb hx
   exact⟨sl,(hs.2 b (Nat.ne_of_lt (Nat.lt_of_lt_of_le (Heap.lt_size e) I.ok.above))).trans e1⟩
  ·obtain⟨o',e1⟩:=I.base.there b o e hx
   exact⟨o',(hs.2 b (Nat.ne_of_lt (Nat.lt_of_lt_of_le (Heap.lt_size e) I.ok.above))).trans e1⟩
  ·by_cases hj:j=i
   ·subst hj
    rw[hi]at e1;cases e1
    rw[List.getElem?_set_self hiσ]at e2
    cases e2
    exact⟨u,r,.inl ⟨hk,by simp⟩⟩
   ·rw[List.getElem?_set_ne (Ne.symm hj)]at e2
    obtain⟨u',r',q⟩:=hl j y v' e1 e2 e3
    refine⟨u',r',?_⟩
    rcases q with⟨k,e⟩ | ⟨k,c,e,z⟩
    ·refine .inl ⟨k,?_⟩
     have:y≠x:=λe=>hj (Zy hN e1 (e ▸ hi))
     simp[this,e]
    ·exact .inr ⟨k,c,e,z.sameBut hs (cne y c e)⟩
  ·obtain⟨w',z⟩:=I.cell y c e
   exact⟨w',z.sameBut hs (cne y c e)⟩
  ·obtain⟨e,n,ne,nf,d⟩:=I.pin p hp
   exact⟨(hs.2 p.1 ne).trans e,n,ne,nf,d⟩
 ·have hfn:X.fn x=true:=by
   rcases hf with z | z
   ·exact z
   ·rw[z]at hk;cases hk
  obtain⟨c,hc⟩:=I.ok.has x (.inl hk)
  obtain⟨w',z⟩:=I.cell x c hc
  refine wpAny_storeName_cell I.ok.kind hk hc z (λh' hc' hs=>?_)
  obtain⟨oc,hoc,hocd⟩:=id z
  refine h { s with heap:=h' } ⟨I.ok,I.os,I.bare,⟨λb o e n hb hx=>?_,λb o e n hb hx=>?_,I.base.free,λb o e hx=>?_,I.base.tups,I.base.frzs,I.base.tbls⟩,⟨m,hn.sameBut hs (Ne.symm (cne x c hc)),λj y v' e1 e2 e3=>?_⟩,λy c' e=>?_,I.free,I.freeC,λp hp=>?_,tracked ⟨oc,hoc,I.freeC x c hc⟩ hs,by simpa using I.len⟩ ⟨c,hs,.inr hc⟩
  ·exact(hs.2 b (Nat.ne_of_lt (Nat.lt_of_lt_of_le (Heap.lt_size e) (I.ok.cab x c hfn hc)))).trans (I.base.keep b o e n hb hx)
  ·obtain⟨sl,e1⟩:=I.base.slot b o e n hb hx
   exact⟨sl,(hs.2 b (Nat.ne_of_lt (Nat.lt_of_lt_of_le (Heap.lt_size e) (I.ok.cab x c hfn hc)))).trans e1⟩
  ·obtain⟨o',e1⟩:=I.base.there b o e hx
   exact⟨o',(hs.2 b (Nat.ne_of_lt (Nat.lt_of_lt_of_le (Heap.lt_size e) (I.ok.cab x c hfn hc)))).trans e1⟩
  ·by_cases hj:j=i
   ·subst hj
    rw[hi]at e1;cases e1
    rw[List.getElem?_set_self hiσ]at e2
    cases e2
    exact⟨u,r,.inr ⟨.inl hk,c,hc,hc'⟩⟩
   ·rw[List.getElem?_set_ne (Ne.symm hj)]at e2
    obtain⟨u',r',q⟩:=hl j y v' e1 e2 e3
    refine⟨u',r',?_⟩
    rcases q with q | ⟨k,c',e,z'⟩
    ·exact .inl q
    ·refine .inr ⟨k,c',e,z'.sameBut hs ?_⟩
     rintro rfl
     exact hj (Zy hN e1 (I.ok.inj _ _ _ e hc ▸ hi))
  ·by_cases hcc:c'=c
   ·subst hcc;exact⟨_,hc'⟩
   ·obtain⟨w2,z2⟩:=I.cell y c' e
    exact⟨w2,z2.sameBut hs hcc⟩
  ·obtain⟨e,n,ne,nf,d⟩:=I.pin p hp
   refine⟨(hs.2 p.1 ?_).trans e,n,ne,nf,d⟩
   intro q
   rw[q,hoc]at e
   have q':oc=p.2:=Option.some.inj e
   exact d w' (by rw[<-q'];exact hocd)
theorem vI {M:Model}{A:Around}{E:Value->Shared->Prop}{i:Nat}{x:Str}{v:V}{u:Value}{Q:Unit->Shared->Prop}(I:Inv X pins σ H s) (hN:X.N.Nodup) (hi:X.N[i]? = some x) (hx:Loc X.env.scope x) (r:xf v u)
  (h:∀s',Inv X pins (σ.set i (some v)) H s'->Q () s') (hf:X.fn x=true\/X.env.scope.names.lookup x=some .local := by first | exact .inl rfl | exact .inr rfl | assumption):wpAny M A (storeName X.env x u) Q E s :=
 X7 I hN hi hx r (λs' I' _=>h s' I') hf
theorem Inv.call' {s':Shared}{ch:List Addr}(I:Inv X pins σ H s) (ho:s'.os=s.os) (u:Un (frs X.stack) ch H H' s.heap s'.heap) (hok:HOk X.prog X.w H' s'.heap) (hg:AllBare s'.gens)
  (hch:∀b∈ch,(b∈X.ex\/X.s₀.heap.objs.size<=b)/\b≠X.env.locals/\(∀x c,X.env.cells.lookup x=some c->c≠b)/\∀p∈X.pn++pins,p.1≠b):Inv X pins σ H' s':=by
 obtain⟨h',g',d',t',o'⟩:=s'
 have e:o'=s.os:=ho
 subst e
 exact I.call (g':=g') (t':=t') (d':=d') u hok hg hch
end
abbrev XK:=Value->Option Addr->Hp->Prop
abbrev St:=List (Option V)
abbrev VK:=V->Hp->Prop
abbrev TE:=St->Hp->VK->Prop
abbrev TT:=St->Hp->(Bool->Hp->Prop)->Prop
abbrev TA:=St->Hp->(List V->Hp->Prop)->Prop
structure qS where
 nx:St->Hp->Prop
 rt:VK
 bk:St->Hp->Prop:=λ_ _=>False
 ct:St->Hp->Prop:=λ_ _=>False
abbrev TS:=qS->St->Hp->Prop
def EP (X:Cx) (pins:List (Addr×Obj)) (σ:St) (Q:VK) (u:Value) (s':Shared):Prop:=∃v H',Inv X pins σ H' s'/\xf v u/\Q v H'
def TP (X:Cx) (pins:List (Addr×Obj)) (σ:St) (Q:Bool->Hp->Prop) (b:Bool) (s':Shared):Prop:=∃H',Inv X pins σ H' s'/\Q b H'
def AP (X:Cx) (pins:List (Addr×Obj)) (σ:St) (Q:List V->Hp->Prop) (us:List Value) (s':Shared):Prop:=∃vs H',Inv X pins σ H' s'/\zS vs us/\Q vs H'
def SP (X:Cx) (pins:List (Addr×Obj)) (D:qS) (f:Flow) (s':Shared):Prop :=
 match f with
 | .next=>∃σ' H',Inv X pins σ' H' s'/\D.nx σ' H'
 | .brk=>∃σ' H',Inv X pins σ' H' s'/\D.bk σ' H'
 | .cont=>∃σ' H',Inv X pins σ' H' s'/\D.ct σ' H'
 | .ret u=>∃v σ' H',Inv X pins σ' H' s'/\xf v u/\D.rt v H'
def PE (X:Cx) (e:Expr) (t:TE):Prop :=
 ∀(pins:List (Addr×Obj)) (s:Shared) (σ:St) (H:Hp) (Q:VK),Inv X pins σ H s->t σ H Q->wpAny (model X.prog X.w) X.A (eval e X.env) (EP X pins σ Q) X.xe s
def PT (X:Cx) (e:Expr) (t:TT):Prop :=
 ∀(pins:List (Addr×Obj)) (s:Shared) (σ:St) (H:Hp) (Q:Bool->Hp->Prop),Inv X pins σ H s->t σ H Q->wpAny (model X.prog X.w) X.A (isTrue e X.env (eval e X.env)) (TP X pins σ Q) X.xe s
def PW (X:Cx) (e:Expr) (t:TT):Prop :=
 ∀(whole:Sem Value) (pins:List (Addr×Obj)) (s:Shared) (σ:St) (H:Hp) (Q:Bool->Hp->Prop),Inv X pins σ H s->t σ H Q->wpAny (model X.prog X.w) X.A (isTrue e X.env whole) (TP X pins σ Q) X.xe s
theorem PW.pt {X:Cx}{e:Expr}{t:TT}(h:PW X e t):PT X e t:=h _
def PA (X:Cx) (es:List Expr) (t:TA):Prop :=
 ∀(pos:Pos) (pins:List (Addr×Obj)) (s:Shared) (σ:St) (H:Hp) (Q:List V->Hp->Prop),Inv X pins σ H s->t σ H Q->wpAny (model X.prog X.w) X.A (spliced (backTo pos (starEach es X.env))) (AP X pins σ Q) X.xe s
def PS (X:Cx) (st:Stmt) (t:TS):Prop :=
 ∀(pins:List (Addr×Obj)) (s:Shared) (σ:St) (H:Hp) (D:qS),Inv X pins σ H s->t D σ H->wpAny (model X.prog X.w) X.A (exec st X.env) (SP X pins D) X.xe s
def PSs (X:Cx) (st:List Stmt) (t:TS):Prop :=
 ∀(pins:List (Addr×Obj)) (s:Shared) (σ:St) (H:Hp) (D:qS),Inv X pins σ H s->t D σ H->wpAny (model X.prog X.w) X.A (execs st X.env) (SP X pins D) X.xe s
theorem thn {α:Type}{t:Sem α}{Q Q':α->Shared->Prop}{M:Model}{A:Around}{E:Value->Shared->Prop}{s:Shared}(h:wpAny M A t Q E s) (hQ:∀a s,Q a s->Q' a s):wpAny M A t Q' E s:=wpAny_mono h hQ λ_ _ x=>x
end L2
namespace L2
open PySem PySem.Spec PyProof.Rows
section
variable {X:Cx}
def vk (i:Nat):TE:=λσ H Q=>∃v,σ[i]? = some (some v)/\Q v H
def tC (v:V):TE:=λ_ H Q=>Q v H
theorem zaf {i:Nat}{x:Str}{pos:Pos}(hN:X.N[i]? = some x) (hv:Vis X.env.scope x) (hd:(x == ("__debug__":Str))=false:=by decide) (hcd:(x == ("__classdict__":Str))=false:=by decide):PE X (.Name x pos) (vk i):=by
 intro pins s σ H Q I h
 obtain⟨v,e,h⟩:=h
 obtain⟨m,hn,hl⟩:=I.loc
 obtain⟨u,r,l⟩:=hl i x v hN e hv
 have fin:EP X pins σ Q u s:=⟨v,H,I,r,h⟩
 rcases l with⟨hk,hm⟩ | ⟨hk,c,hc,hcell⟩
 ·exact wpAny_Name (wpAny_loadName_local I.ok.kind hk hn hm fin) hd
 ·rcases hk with hk | hk
  ·exact wpAny_Name (wpAny_loadName_cell I.ok.kind hk hc hcell fin) hd
  ·exact wpAny_Name (wpAny_loadName_free I.ok.kind hk hc hcell fin hcd) hd
theorem ze {i j pos}:PE X (.Constant (.int i) j pos) (tC (.int i)):=λ_ _ _ H _ I h=>wpAny_Constant_int ⟨.int i,H,I.tok _,⟨_,rfl⟩,h⟩
theorem vy {b j pos}:PE X (.Constant (.bool b) j pos) (tC (.bl b)):=λ_ _ _ H _ I h=>Constant_bool ⟨.bl b,H,I,rfl,h⟩
theorem zU {j pos}:PE X (.Constant .none j pos) (tC .non):=λ_ _ _ H _ I h=>Constant_none ⟨.non,H,I,rfl,h⟩
theorem zq {x j pos}:PE X (.Constant (.str x) j pos) (tC (.str x)):=λ_ _ _ H _ I h=>Calls.Constant_str ⟨.str x,H,I.tok _,⟨_,rfl⟩,h⟩
def Gl (X:Cx) (x:Str):Prop:=X.env.kindOf x=some .globalImplicit
theorem vq {E:Value->Shared->Prop}{pins:List (Addr×Obj)}{s:Shared}{σ:St}{H:Hp}{x:Str}{u:Value}{pos:Pos}{Q:Value->Shared->Prop}(I:Inv X pins σ H s) (hg:Gl X x) (hm:X.mg x=some u) (h:Q u s)
  (hd:(x == ("__debug__":Str))=false:=by decide):wpAny (model X.prog X.w) X.A (eval (.Name x pos) X.env) Q E s :=
 Calls.Name_function_global I.ok.kind hg (Calls.loadGlobal_global (by rw[I.ok.glob];exact I.mod.glob.keeps I.bk) hm h) hd
theorem j8 {E:Value->Shared->Prop}{pins:List (Addr×Obj)}{s:Shared}{σ:St}{H:Hp}{x:Str}{u:Value}{pos:Pos}{Q:Value->Shared->Prop}(I:Inv X pins σ H s) (hg:Gl X x) (hm:X.mg x=none) (hv:bootBuiltins x=some u) (h:Q u s)
  (hn:x≠"__name__":=by decide) (hd:(x == ("__debug__":Str))=false:=by decide):wpAny (model X.prog X.w) X.A (eval (.Name x pos) X.env) Q E s:=by
 obtain⟨mb,h1,h2⟩:=I.mod.blt
 exact Calls.Name_function_global I.ok.kind hg (Calls.loadGlobal_builtin (by rw[I.ok.glob];exact I.mod.glob.keeps I.bk) hm (by rw[I.ok.blt];exact h1.keeps I.bk) ((h2 x hn).trans hv) h) hd
theorem ja {x:Str}{v:V}{u:Value}{pos:Pos}(hg:Gl X x) (hm:X.mg x=some u) (r:xf v u) (hd:(x == ("__debug__":Str))=false:=by decide):PE X (.Name x pos) (tC v) :=
 λ_ _ _ H _ I h=>vq I hg hm ⟨v,H,I,r,h⟩ hd
theorem v9 {x:Str}{v:V}{u:Value}{pos:Pos}(hg:Gl X x) (hm:X.mg x=none) (hv:bootBuiltins x=some u) (r:xf v u) (hn:x≠"__name__":=by decide) (hd:(x == ("__debug__":Str))=false:=by decide):PE X (.Name x pos) (tC v) :=
 λ_ _ _ H _ I h=>j8 I hg hm hv ⟨v,H,I,r,h⟩ hn hd
variable {a b:Expr}{ta tb:TE}{pos:Pos}
variable {tA tB':TT}{rest:List Expr}
def tAnd (t u:TT):TT:=λσ H Q=>t σ H λc H1=>if c=true then u σ H1 Q else Q false H1
def tOr (t u:TT):TT:=λσ H Q=>t σ H λc H1=>if c=true then Q true H1 else u σ H1 Q
def tNot (t:TT):TT:=λσ H Q=>t σ H λc H1=>Q (!c) H1
theorem qm (ha:PT X a tA):PW X (.BoolOp .And [a] pos) tA:=by
 intro wh pins s σ H Q I h
 refine isTrue_and (thn (ha pins s σ H Q I h) λc s1 e=>?_)
 cases c with
 | true=>exact isTrue_and_nil e
 | false=>exact e
theorem vj (ha:PT X a tA):PW X (.BoolOp .Or [a] pos) tA:=by
 intro wh pins s σ H Q I h
 refine isTrue_or (thn (ha pins s σ H Q I h) λc s1 e=>?_)
 cases c with
 | false=>exact isTrue_or_nil e
 | true=>exact e
theorem qx (ha:PT X a tA) (hb:PW X (.BoolOp .And (b::rest) pos) tB'):PW X (.BoolOp .And (a::b::rest) pos) (tAnd tA tB'):=by
 intro wh pins s σ H Q I h
 refine isTrue_and (thn (ha pins s σ H _ I h) λc s1 ⟨H1,I1,q1⟩=>?_)
 cases c with
 | true=>exact hb wh pins s1 σ H1 Q I1 q1
 | false=>exact⟨H1,I1,q1⟩
theorem qW (ha:PT X a tA) (hb:PW X (.BoolOp .Or (b::rest) pos) tB'):PW X (.BoolOp .Or (a::b::rest) pos) (tOr tA tB'):=by
 intro wh pins s σ H Q I h
 refine isTrue_or (thn (ha pins s σ H _ I h) λc s1 ⟨H1,I1,q1⟩=>?_)
 cases c with
 | true=>exact⟨H1,I1,q1⟩
 | false=>exact hb wh pins s1 σ H1 Q I1 q1
theorem xT (ha:PT X a tA):PT X (.UnaryOp .Not a pos) (tNot tA):=by
 intro pins s σ H Q I h
 exact isTrue_not (ha pins s σ H (λc H1=>Q (!c) H1) I h)
def zbr (ta tb:TE):TE:=λσ H Q=>ta σ H λx H1=>∃c,x = .bl c/\if c=true then tb σ H1 Q else Q (.bl false) H1
def tOrV (ta tb:TE):TE:=λσ H Q=>ta σ H λx H1=>∃c,x = .bl c/\if c=true then Q (.bl true) H1 else tb σ H1 Q
def zbv (ta:TE):TE:=λσ H Q=>ta σ H λx H1=>∃c,x = .bl c/\Q (.bl (!c)) H1
theorem vS {op}{t:TE}(h:PE X a t):PE X (.BoolOp op [a] pos) t:=λpins s σ H Q I hw=>BoolOp_one (h pins s σ H Q I hw)
theorem vh (ha:PE X a ta) (hb:PE X (.BoolOp .And (b::rest) pos) tb):PE X (.BoolOp .And (a::b::rest) pos) (zbr ta tb):=by
 intro pins s σ H Q I h
 refine BoolOp_and (thn (ha pins s σ H _ I h) λv s1 ⟨x,H1,I1,r1,q1⟩=>?_)
 obtain⟨c,rfl,q1⟩:=q1
 cases r1
 refine wpAny_truthy_bool ?_
 cases c with
 | true=>exact hb pins s1 σ H1 Q I1 q1
 | false=>exact⟨.bl false,H1,I1,rfl,q1⟩
theorem Je (ha:PE X a ta) (hb:PE X (.BoolOp .Or (b::rest) pos) tb):PE X (.BoolOp .Or (a::b::rest) pos) (tOrV ta tb):=by
 intro pins s σ H Q I h
 refine BoolOp_or (thn (ha pins s σ H _ I h) λv s1 ⟨x,H1,I1,r1,q1⟩=>?_)
 obtain⟨c,rfl,q1⟩:=q1
 cases r1
 refine wpAny_truthy_bool ?_
 cases c with
 | false=>exact hb pins s1 σ H1 Q I1 q1
 | true=>exact⟨.bl true,H1,I1,rfl,q1⟩
theorem zae (ha:PE X a ta):PE X (.UnaryOp .Not a pos) (zbv ta):=by
 intro pins s σ H Q I h
 refine UnaryOp_ (thn (ha pins s σ H _ I h) λv s1 ⟨x,H1,I1,r1,q1⟩=>?_)
 obtain⟨c,rfl,q1⟩:=q1
 cases r1
 exact not_of (wpAny_truthy_bool ⟨.bl (!c),H1,I1,rfl,q1⟩)
end
end L2
namespace L2
open PySem PySem.Spec PyProof.Rows
def SqL (K:PySem.W.Frag) (H:Hp) (a:Addr) (xs:List V):Prop :=
 Rd H a (.lst xs) ∨
  ∃(o:Obj) (its:Array Value) (n:Nat),K.lookup a=some o/\o.cls = .type "list"/\o.dict=none/\o.data = .seq its n/\its.size<=sizeLine/\zS xs its.toList
def SqT (K:PySem.W.Frag) (H:Hp) (a:Addr) (xs:List V):Prop :=
 Rd H a (.tup xs) ∨
  ∃(o:Obj) (its:Array Value) (n:Nat),K.lookup a=some o/\o.cls = .type "tuple"/\o.data = .seq its n/\its.size<=sizeLine/\zS xs its.toList
def absV:Value->Option V
 | .none=>some .non
 | .bool b=>some (.bl b)
 | .int i _=>some (.int i)
 | .str x _=>some (.str x)
 | .bytes b _=>some (.byt b)
 | .float b _=>some (.flt b)
 | .ref a=>some (.ref a)
 | .type n=>some (.ty n)
 | _=>none
theorem xf.abs {x:V}{u:Value}(r:xf x u):absV u=some x:=by
 cases x with
 | non=>cases r;rfl
 | bl _=>cases r;rfl
 | int _=>obtain⟨t,rfl⟩:=r;rfl
 | str _=>obtain⟨t,rfl⟩:=r;rfl
 | byt _=>obtain⟨t,rfl⟩:=r;rfl
 | flt _=>obtain⟨t,rfl⟩:=r;rfl
 | ref _=>cases r;rfl
 | ty _=>cases r;rfl
theorem xf.inj {x y:V}{u:Value}(r:xf x u) (q:xf y u):x=y:=Option.some.inj (r.abs.symm.trans q.abs)
theorem zS.inj:∀{xs ys:List V}{us:List Value},zS xs us->zS ys us->xs=ys
 | _,_,_,.nil,.nil=>rfl
 | _,_,_,.cons r t,.cons r' t'=>by rw[r.inj r',zS.inj t t']
section
variable {X:Cx}{pins:List (Addr×Obj)}{σ:St}{H:Hp}{s:Shared}{a:Addr}{xs ys:List V}
theorem SqL.of {K:PySem.W.Frag}(h:H a=some (.lst xs)):SqL K H a xs:=.inl (.inl h)
theorem SqT.of {K:PySem.W.Frag}(h:H a=some (.tup xs)):SqT K H a xs:=.inl (.inl h)
theorem Inv.list (I:Inv X pins σ H s) (h:SqL X.K H a xs):∃its:List Value,zS xs its/\PlainL s.heap a its.toArray/\xs.length<=sizeLine:=by
 rcases h with h | ⟨o,its,n,hk,hc,hd,hs,hz,r⟩
 ·obtain⟨z,its,n,r,e⟩:=h.ok I.hok
  exact⟨its,r,⟨_,n,e,rfl,rfl,rfl⟩,z⟩
 ·refine⟨its.toList,r,⟨o,n,I.kIn a o hk,hc,hd,by simpa using hs⟩,?_⟩
  have e:=r.length
  simp only[Array.length_toList]at e
  omega
theorem Inv.tuple (I:Inv X pins σ H s) (h:SqT X.K H a xs):∃its:List Value,zS xs its/\IsTup s.heap a its.toArray/\xs.length<=sizeLine:=by
 rcases h with h | ⟨o,its,n,hk,hc,hs,hz,r⟩
 ·obtain⟨z,its,r,p⟩:=h.ok I.hok
  exact⟨its,r,p,z⟩
 ·refine⟨its.toList,r,⟨o,I.kIn a o hk,hc,n,by simpa using hs⟩,?_⟩
  have e:=r.length
  simp only[Array.length_toList]at e
  omega
theorem Inv.list_inj (I:Inv X pins σ H s) (h:SqL X.K H a xs) (h':SqL X.K H a ys):xs=ys:=by
 obtain⟨its,r,⟨o,n,e,_,_,d⟩,_⟩:=I.list h
 obtain⟨its',r',⟨o',n',e',_,_,d'⟩,_⟩:=I.list h'
 rw[e]at e';cases e'
 rw[d]at d'
 injection d' with d1 _
 have:its=its':=by simpa using congrArg Array.toList d1
 subst this
 exact r.inj r'
theorem Inv.tuple_inj (I:Inv X pins σ H s) (h:SqT X.K H a xs) (h':SqT X.K H a ys):xs=ys:=by
 obtain⟨its,r,⟨o,e,_,n,d⟩,_⟩:=I.tuple h
 obtain⟨its',r',⟨o',e',_,n',d'⟩,_⟩:=I.tuple h'
 rw[e]at e';cases e'
 rw[d]at d'
 injection d' with d1 _
 have:its=its':=by simpa using congrArg Array.toList d1
 subst this
 exact r.inj r'
end
abbrev Cx.wish (X:Cx) (E:Value->Shared->Prop):Cx:={ X with xe:=E }
abbrev Cx.nox (X:Cx):Cx:=X.wish λ_ _=>False
theorem Cx.Ok.wish {X:Cx}(ok:X.Ok) (E:Value->Shared->Prop):(X.wish E).Ok :=
 ⟨ok.mod,ok.kind,ok.glob,ok.blt,ok.above,ok.inj,ok.has,ok.cab,ok.hd,ok.frames,ok.stk,ok.exf,ok.bs,ok.bsz,ok.noex,ok.exfs,ok.funs,ok.frf⟩
theorem Cx.Ok.unwish {X:Cx}{E:Value->Shared->Prop}(ok:(X.wish E).Ok):X.Ok :=
 ⟨ok.mod,ok.kind,ok.glob,ok.blt,ok.above,ok.inj,ok.has,ok.cab,ok.hd,ok.frames,ok.stk,ok.exf,ok.bs,ok.bsz,ok.noex,ok.exfs,ok.funs,ok.frf⟩
section
variable {X:Cx}{pins:List (Addr×Obj)}{σ:St}{H:Hp}{s:Shared}{E:Value->Shared->Prop}
theorem Inv.wish (I:Inv X pins σ H s) (E:Value->Shared->Prop):Inv (X.wish E) pins σ H s:=⟨I.ok.wish E,I.os,I.bare,I.base,I.loc,I.cell,I.free,I.freeC,I.pin,I.hok,I.len⟩
theorem Inv.unwish (I:Inv (X.wish E) pins σ H s):Inv X pins σ H s:=⟨I.ok.unwish,I.os,I.bare,I.base,I.loc,I.cell,I.free,I.freeC,I.pin,I.hok,I.len⟩
theorem SP.unwish {D:qS}{f:Flow}{s':Shared}(h:SP (X.wish E) pins D f s'):SP X pins D f s':=by
 cases f with
 | next=>obtain⟨σ',H',I,q⟩:=h;exact⟨σ',H',I.unwish,q⟩
 | brk=>obtain⟨σ',H',I,q⟩:=h;exact⟨σ',H',I.unwish,q⟩
 | cont=>obtain⟨σ',H',I,q⟩:=h;exact⟨σ',H',I.unwish,q⟩
 | ret u=>obtain⟨v,σ',H',I,r,q⟩:=h;exact⟨v,σ',H',I.unwish,r,q⟩
theorem PSs.nox {st:List Stmt}{t:TS}(h:PSs X.nox st t):PSs X st t:=λpins s σ H D I hw =>
 wpAny_mono (h pins s σ H D (I.wish _) hw) (λ_ _ q=>q.unwish) λ_ _ z=>False.elim z
end
section
variable {X:Cx}{st:Stmt}{rest:List Stmt}{t u:TS}{e:Expr}{te:TE}{pos:Pos}
def Q8:TS:=λD σ H=>D.nx σ H
def Zk (t u:TS):TS:=λD σ H=>t { D with nx:=u D } σ H
theorem zF:PSs X [] Q8:=λ_ _ σ H _ I h=>wpAny_execs_nil ⟨σ,H,I,h⟩
theorem zj (h1:PS X st t) (h2:PSs X rest u):PSs X (st::rest) (Zk t u):=by
 intro pins s σ H D I h
 refine wpAny_execs_cons (thn (h1 pins s σ H { D with nx:=u D } I h) λf s1 q=>?_)
 cases f with
 | next =>
  obtain⟨σ',H',I',q⟩:=q
  exact h2 pins s1 σ' H' D I' q
 | ret v=>exact q
 | brk=>exact q
 | cont=>exact q
theorem zm (h1:PS X st t):PSs X [st] t:=by
 intro pins s σ H D I h
 refine wpAny_execs_cons (thn (h1 pins s σ H D I h) λf s1 q=>?_)
 cases f with
 | next=>exact wpAny_execs_nil q
 | ret v=>exact q
 | brk=>exact q
 | cont=>exact q
theorem Inv.quiet {pins:List (Addr×Obj)}{σ:St}{H:Hp}{s:Shared}(I:Inv X pins σ H s):interactive X.env=false:=by simp[interactive,I.ok.kind]
def zbt (te:TE):TS:=λD σ H=>te σ H λ_ H1=>D.nx σ H1
theorem vC (he:PE X e te) (hs:swapsWith e none pos.line X.env=pure false:=by rfl):PS X (.Expr e pos) (zbt te):=by
 intro pins s σ H D I h
 exact wpAny_Expr_any (thn (he pins s σ H _ I h) λv s1 ⟨x,H1,I1,r1,q1⟩=>⟨σ,H1,I1,q1⟩) I.quiet hs
def X9 (te:TE):TS:=λD σ H=>te σ H D.rt
theorem zx (he:PE X e te):PS X (.Return (some e) pos) (X9 te):=by
 intro pins s σ H D I h
 exact wpAny_Return_some (thn (he pins s σ H _ I h) λv s1 ⟨x,H1,I1,r1,q1⟩=>⟨x,σ,H1,I1,r1,q1⟩)
def zbu (c:TT) (t u:TS):TS:=λD σ H=>c σ H λb H1=>if b=true then t D σ H1 else u D σ H1
theorem zQ {c:Expr}{a b:List Stmt}{tc:TT}(hc:PT X c tc) (ha:PSs X a t) (hb:PSs X b u):PS X (.If c a b pos) (zbu tc t u):=by
 intro pins s σ H D I h
 refine wpAny_If (thn (hc pins s σ H _ I h) λd s1 ⟨H1,I1,q1⟩=>?_)
 cases d with
 | true=>exact ha pins s1 σ H1 D I1 q1
 | false=>exact hb pins s1 σ H1 D I1 q1
def zaw:TS:=λ_ _ _=>False
theorem vT {sts:List Stmt}:PSs X sts zaw:=λ_ _ _ _ _ _ h=>h.elim
end
abbrev TG:=V->St->Hp->(St->Hp->Prop)->Prop
abbrev TGs:=List V->St->Hp->(St->Hp->Prop)->Prop
def PG (X:Cx) (target:Expr) (t:TG):Prop :=
 ∀(pins:List (Addr×Obj)) (s:Shared) (σ:St) (H:Hp) (v:V) (u:Value) (Q:St->Hp->Prop),Inv X pins σ H s->xf v u->t v σ H Q →
  wpAny (model X.prog X.w) X.A (assign target X.env u) (λ_ s'=>∃σ' H',Inv X pins σ' H' s'/\Q σ' H') X.xe s
def PGs (X:Cx) (ts:List Expr) (t:TGs):Prop :=
 ∀(pins:List (Addr×Obj)) (s:Shared) (σ:St) (H:Hp) (vs:List V) (us:List Value) (Q:St->Hp->Prop),Inv X pins σ H s->zS vs us->t vs σ H Q →
  wpAny (model X.prog X.w) X.A (assignInOrder ((assignEach ts X.env).map (·.2)) us) (λ_ s'=>∃σ' H',Inv X pins σ' H' s'/\Q σ' H') X.xe s
abbrev Jr:=V->V->V->Hp->(Hp->Prop)->Prop
def zaE (X:Cx) (t:Jr):Prop :=
 ∀(pins:List (Addr×Obj)) (s:Shared) (σ:St) (H:Hp) (o i v:V) (ov iv u:Value) (Q:Hp->Prop),Inv X pins σ H s->xf o ov->xf i iv->xf v u->t o i v H Q →
  wpAny (model X.prog X.w) X.A (setItem ov iv u) (λ_ s'=>∃H',Inv X pins σ H' s'/\Q H') X.xe s
section
variable {X:Cx}{pos:Pos}
def zK (i:Nat):TG:=λv σ H Q=>Q (σ.set i (some v)) H
theorem xp {i:Nat}{x:Str}(hN:X.N.Nodup) (hi:X.N[i]? = some x) (hx:Loc X.env.scope x) (hf:X.fn x=true\/X.env.scope.names.lookup x=some .local := by first | exact .inl rfl | exact .inr rfl | assumption):PG X (.Name x pos) (zK i):=by
 intro pins s σ H v u Q I r h
 exact wpAny_assign_Name (vI I hN hi hx r (λs' I'=>⟨_,H,I',h⟩) hf)
def gNil:TGs:=λvs σ H Q=>vs=[]/\Q σ H
def zaJ (t:TG) (u:TGs):TGs:=λvs σ H Q=>∃v r,vs=v::r/\t v σ H λσ' H'=>u r σ' H' Q
theorem vz:PGs X [] gNil:=by
 intro pins s σ H vs us Q I r h
 obtain⟨e,h⟩:=h
 subst e
 cases r
 exact assignInOrder_nil ⟨σ,H,I,h⟩
theorem xR {e:Expr}{es:List Expr}{t:TG}{u:TGs}(h1:PG X e t) (h2:PGs X es u)
  (hs:(assignEach (e::es) X.env).map (·.2)=assign e X.env::(assignEach es X.env).map (·.2):=by rfl):PGs X (e::es) (zaJ t u):=by
 intro pins s σ H vs us Q I r h
 obtain⟨v,vr,e1,h⟩:=h
 subst e1
 cases r with
 | cons r rr =>
  rw[hs]
  refine assignInOrder_cons (thn (h1 pins s σ H _ _ _ I r h) λ_ s1 ⟨σ1,H1,I1,q1⟩=>?_)
  exact h2 pins s1 σ1 H1 _ _ Q I1 rr q1
def gTup (K:PySem.W.Frag) (n:Nat) (t:TGs):TG:=λv σ H Q=>∃a xs,v = .ref a/\SqT K H a xs/\xs.length=n/\t xs σ H Q
theorem ZW {es:List Expr}{k:Nat}{t:TGs}{n:Nat}(hc:X.calm=true) (h:PGs X es t)
  (hn:(assignEach es X.env).length=n:=by rfl) (hst:(assignEach es X.env).findIdx? (·.1)=none:=by rfl):PG X (.Tuple es k pos) (gTup X.K n t):=by
 intro pins s σ H v u Q I r hw
 obtain⟨a,xs,e1,hq,hl,hw⟩:=hw
 subst e1
 cases r
 obtain⟨its,rv,ht,hz⟩:=I.tuple hq
 refine assign_Tuple_tuple (I.ok.hd hc) ht (by simp[hn,<-hl,rv.length]) hst λh' hx=>?_
 have I1:Inv X pins σ H { s with heap:=h' }:=I.kept (t':=s.toks) λb o e=>hx b o (Nat.ne_of_lt (Heap.lt_size e)) e
 exact h pins _ σ H xs _ Q I1 (by simpa using rv) hw
def gSub (to ti:TE) (t:Jr):TG:=λv σ H Q=>to σ H λo H1=>ti σ H1 λi H2=>t o i v H2 λH3=>Q σ H3
theorem QI {o i:Expr}{to ti:TE}{t:Jr}(ho:PE X o to) (hi:PE X i ti) (hs:zaE X t)
  (ha:∀v,assign (.Subscript o i pos) X.env v=(do
   let ov <-holding [v] (eval o X.env)
   let iv <-holding [v,ov] (eval i X.env)
   standAt pos
   holding [v,ov,iv] (setItem ov iv v)
   release [v,ov,iv] []):=by intro _;rfl):PG X (.Subscript o i pos) (gSub to ti t):=by
 intro pins s σ H v u Q I r h
 rw[ha]
 refine wpAny_bind (wpAny_holding (thn (ho pins s σ H _ I h) λov s1 ⟨x,H1,I1,r1,q1⟩=>?_))
 refine wpAny_bind (wpAny_holding (thn (hi pins s1 σ H1 _ I1 q1) λiv s2 ⟨y,H2,I2,r2,q2⟩=>?_))
 refine wpAny_bind (wpAny_standAt (wpAny_bind (wpAny_holding (thn (hs pins s2 σ H2 x y v ov iv u _ I2 r1 r2 r q2) λ_ s3 ⟨H3,I3,q3⟩=>?_))))
 exact wpAny_release ⟨σ,H3,I3,q3⟩
def X8 (te:TE) (g:TG):TS:=λD σ H=>te σ H λx H1=>g x σ H1 D.nx
theorem vi {tg e:Expr}{te:TE}{g:TG}(he:PE X e te) (hg:PG X tg g) (hs:swapsWithSole [tg] e pos.line X.env=pure false:=by rfl) (hw:swappedStores [tg] e X.env=pure none:=by rfl)
  (h1:(assignEach [tg] X.env).map (·.2)=[assign tg X.env]:=by rfl):PS X (.Assign [tg] e pos) (X8 te g):=by
 intro pins s σ H D I h
 refine wpAny_Assign_stores (thn (he pins s σ H _ I h) λv s1 ⟨x,H1,I1,r1,q1⟩=>?_) hs hw
 rw[h1]
 exact thn (hg pins s1 σ H1 x v _ I1 r1 q1) λ_ s2 q=>q
theorem zz {i:Nat}{x:Str}{e:Expr}{te:TE}{pos':Pos}(hN:X.N.Nodup) (hi:X.N[i]? = some x) (hx:Loc X.env.scope x) (he:PE X e te) (hs:swapsWith e (some (.Name x pos')) pos.line X.env=pure false:=by rfl) (hf:X.fn x=true\/X.env.scope.names.lookup x=some .local := by first | exact .inl rfl | exact .inr rfl | assumption) :
  PS X (.Assign [.Name x pos'] e pos) (X8 te (zK i)):=by
 intro pins s σ H D I h
 refine wpAny_Assign_Name (thn (he pins s σ H _ I h) λv s1 ⟨y,H1,I1,r1,q1⟩=>?_) hs
 exact vI I1 hN hi hx r1 (λs2 I2=>⟨_,H1,I2,q1⟩) hf
def tPar (i j:Nat) (ta:TA):TS:=λD σ H=>ta σ H λvs H1=>∃v w,vs=[v,w]/\D.nx ((σ.set i (some v)).set j (some w)) H1
theorem QL {i j:Nat}{x y:Str}{a b:Expr}{ta:TA}{px py pt:Pos} {kt k2 pt2} (hc:X.calm=true) (hN:X.N.Nodup) (hi:X.N[i]? = some x) (hj:X.N[j]? = some y) (hij:i≠j)
  (hx:X.env.scope.names.lookup x=some .local) (hy:X.env.scope.names.lookup y=some .local) (ha:PA X [a,b] ta)
  (hw:swappedStores [.Tuple [.Name x px,.Name y py] kt pt] (.Tuple [a,b] k2 pt2) X.env=pure (some [x,y]))
  (hs:swapsWithSole [.Tuple [.Name x px,.Name y py] kt pt] (.Tuple [a,b] k2 pt2) pos.line X.env=pure false:=by rfl) :
  PS X (.Assign [.Tuple [.Name x px,.Name y py] kt pt] (.Tuple [a,b] k2 pt2) pos) (tPar i j ta):=by
 intro pins s σ H D I h
 rw[exec_Assign_arm]
 refine wpAny_bind (wpAny_standAt ?_)
 rw[hs]
 refine wpAny_bind (wpAny_pure ?_)
 rw[if_neg (by decide)]
 refine wpAny_bind (Tuple_ (thn (ha _ pins s σ H _ I h) λus s1 ⟨vs,H1,I1,r1,q1⟩=>?_))
 obtain⟨v,w,e1,q1⟩:=q1
 subst e1
 obtain⟨u1,u2,rfl,rv,rw'⟩:∃u1 u2,us=[u1,u2]/\xf v u1/\xf w u2:=by
  cases r1 with
  | cons p q =>
   cases q with
   | cons p' q' =>
    cases q'
    exact⟨_,_,rfl,p,p'⟩
 refine wpAny_newObj_type ?_ (by show 2<=sizeLine;decide)
 have I2:Inv X pins σ H1 { s1 with heap:=s1.heap.push { cls:=.type "tuple",data:=.seq [u1,u2].toArray } }:=I1.kept (t':=s1.toks) λb o e=>Heap.get?_push_of_some _ e
 rw[hw]
 refine wpAny_bind (wpAny_pure ?_)
 show wpAny (model X.prog X.w) X.A (do rule "assign.swapped-stores";let items <-unpackItems (.ref s1.heap.objs.size) 2 none;assignInOrder [λv=>bindName X.env y v,λv=>bindName X.env x v] items.reverse;pure Flow.next) _ _ _
 refine wpAny_bind (wpAny_rule (wpAny_bind (unpackItems_tuple (items:=#[u1,u2]) (I.ok.hd hc) (IsTup.new s1.heap _) λh' hx'=>?_)))
 have I3:=I2.kept (h':=h') (t':=s1.toks) λb o e=>hx' b o (Nat.ne_of_lt (Heap.lt_size e)) e
 show wpAny _ _ (assignInOrder [λv=>bindName X.env y v,λv=>bindName X.env x v] [u2,u1] >>= λ_=>pure Flow.next) _ _ _
 refine wpAny_bind (assignInOrder_cons (wpAny_bindName (vI I3 hN hj (.inl hy) rw' (λs2 I4=>?_) (.inr hy))))
 refine assignInOrder_cons (wpAny_bindName (vI I4 hN hi (.inl hx) rv (λs3 I5=>assignInOrder_nil (wpAny_pure ?_)) (.inr hx)))
 rw[List.set_comm _ _ (Ne.symm hij)]at I5
 exact⟨_,H1,I5,q1⟩
end
section
variable {X:Cx}{pos:Pos}
def Zl (c:TT) (tb:TS):TS:=λD σ H=>∃W:Nat->St->Hp->Prop,(∃m,W m σ H)/\∀m σ H,W m σ H →
 c σ H λb H1=>if b=true then ∃N:St->Hp->Prop,(∀σ' H',N σ' H'->∃m',m'<m/\W m' σ' H')/\tb { D with nx:=N,ct:=N,bk:=D.nx } σ H1 else D.nx σ H1
theorem vD {c:Expr}{body:List Stmt}{tc:TT}{tb:TS}(hp:PassesOwn (model X.prog X.w) X.A X.env X.xe) (hc:PT X c tc) (hb:PSs X body tb):PS X (.While c body [] pos) (Zl tc tb):=by
 intro pins s σ H D I h
 obtain⟨W,⟨m0,w0⟩,turn⟩:=h
 refine wpAny_While (codeAny_whileLoop (λn s'=>∃σ' H',Inv X pins σ' H' s'/\W n σ' H') ?_ m0 ⟨σ,H,I,w0⟩)
 rintro n s1 ⟨σ1,H1,I1,w1⟩
 refine wpAny_passesOwn hp (thn (hc pins s1 σ1 H1 _ I1 (turn n σ1 H1 w1)) λb s2 ⟨H2,I2,q2⟩=>?_)
 cases b with
 | true =>
  obtain⟨N,hN,q2⟩:=q2
  rw[if_pos rfl]
  refine wpAny_passesOwn hp (thn (hb pins s2 σ1 H2 _ I2 q2) λf s3 q3=>?_)
  cases f with
  | next =>
   obtain⟨σ3,H3,I3,n3⟩:=q3
   obtain⟨m',hm,w3⟩:=hN σ3 H3 n3
   exact⟨m',hm,σ3,H3,I3,w3⟩
  | cont =>
   obtain⟨σ3,H3,I3,n3⟩:=q3
   obtain⟨m',hm,w3⟩:=hN σ3 H3 n3
   exact⟨m',hm,σ3,H3,I3,w3⟩
  | brk=>exact q3
  | ret v=>exact q3
 | false =>
  rw[if_neg Bool.false_ne_true]
  exact wpAny_execs_nil ⟨σ1,H2,I2,q2⟩
end
structure It where
 go:Nat->Hp->Prop
 yld:Nat->Hp->V->Hp->Prop
 stop:Nat->Hp->Prop
def Zn (X:Cx) (pins:List (Addr×Obj)) (H:Hp) (b:Addr):Prop :=
 H b=none/\b≠X.env.locals/\b∉X.fs/\(b∈X.ex\/X.s₀.heap.objs.size<=b)/\(∀x c,X.env.cells.lookup x=some c->c≠b)/\∀p∈X.pn++pins,p.1≠b
theorem Inv.fpOk {X:Cx}{pins:List (Addr×Obj)}{σ:St}{H H':Hp}{s:Shared}{b:Addr}(I:Inv X pins σ H s) (hb:s.heap.objs.size<=b) (hn:H' b=none):Zn X pins H' b:=by
 refine⟨hn,Nat.ne_of_gt (Nat.lt_of_lt_of_le I.lt hb),I.nofs hb,.inr (Nat.le_trans I.sz hb),λx c e z=>?_,λp hp z=>?_⟩
 ·obtain⟨v,q⟩:=I.cell x c e
  exact absurd (Nat.lt_of_lt_of_le q.lt (by rw[z];exact hb)) (Nat.lt_irrefl _)
 ·exact absurd (Nat.lt_of_lt_of_le (Heap.lt_size (I.pin p hp).1) (by rw[z];exact hb)) (Nat.lt_irrefl _)
structure Qc (P:Program) (w:World) (K:PySem.W.Frag) (tg:Expr) (J:It) (fp:List Addr) (it:Addr) (tn:Nat->Heap->Prop):Prop where
 mem:it∈fp
 obj:∀i h,tn i h->∀b∈fp,∃o,h.get? b=some o/\∀v,o.data≠.cell v
 keep:∀i h h',tn i h->(∀b∈fp,∀o,h.get? b=some o->h'.get? b=some o)->tn i h'
 item:∀(X:Cx),X.prog=P->X.w=w->X.K=K->X.calm=true->∀(i:Nat) (pins:List (Addr×Obj)) (s:Shared) (σ:St) (H:Hp) (E:Value->Shared->Prop),Inv X pins σ H s->(∀b∈fp,Zn X pins H b)->tn i s.heap->J.go i H →
  wpAny (model P w) X.A (pyNext (.ref it)) (λr s1=>∃u,r=some u ∧
   wpAny (model P w) X.A (letOwnedTupleGo tg (.ref it) u) (λ_ s2=>∃x H',Inv X pins σ H' s2/\xf x u/\J.yld i H x H'/\tn (i+1) s2.heap/\∀b∈fp,H' b=none) E s1) E s
 done:∀(X:Cx),X.prog=P->X.w=w->X.K=K->X.calm=true->∀(i:Nat) (pins:List (Addr×Obj)) (s:Shared) (σ:St) (H:Hp) (E:Value->Shared->Prop),Inv X pins σ H s->(∀b∈fp,Zn X pins H b)->tn i s.heap->J.stop i H →
  wpAny (model P w) X.A (pyNext (.ref it)) (λr s1=>r=none/\Inv X pins σ H s1) E s
 self:∀(A:Around) (i:Nat) (s:Shared) (Q:Value->Shared->Prop) (E:Value->Shared->Prop),tn i s.heap->Q (.ref it) s->wpAny (model P w) A (pyIter (.ref it)) Q E s
abbrev TI:=St->Hp->(It->Hp->Prop)->Prop
def PIE (X:Cx) (pins:List (Addr×Obj)) (σ:St) (tg:Expr) (R:It->Hp->Prop) (itv:Value) (s2:Shared):Prop :=
 ∃(it:Addr) (fp:List Addr) (tn:Nat->Heap->Prop) (J:It) (H':Hp),itv = .ref it/\Inv X pins σ H' s2/\Qc X.prog X.w X.K tg J fp it tn/\tn 0 s2.heap/\(∀b∈fp,Zn X pins H' b)/\R J H'
def PI (X:Cx) (tg iter:Expr) (wi:TI):Prop :=
 ∀(pins:List (Addr×Obj)) (s:Shared) (σ:St) (H:Hp) (R:It->Hp->Prop),Inv X pins σ H s->wi σ H R →
  wpAny (model X.prog X.w) X.A (eval iter X.env) (λv s1=>wpAny (model X.prog X.w) X.A (pyIter v) (PIE X pins σ tg R) X.xe s1) X.xe s
theorem Xg {M:Model}{A:Around}{E:Value->Shared->Prop}{s:Shared}{tg:Expr}{it:Addr}{u:Value}{o:Obj}{n:String}{vs:Array Value}{Q:Unit->Shared->Prop}(ho:s.heap.get? it=some o) (hc:o.cls = .type n) (hd:o.data = .fields vs)
  (hn:["enumerate","zip","dict_itemiterator","dict_reverseitemiterator","odict_iterator","itertools.zip_longest","itertools.pairwise"].contains n=false) (hQ:Q () s):wpAny M A (letOwnedTupleGo tg (.ref it) u) Q E s:=by
 unfold letOwnedTupleGo
 cases tg <;> first
  | exact wpAny_pure hQ
  | (cases u <;> first
    | exact wpAny_pure hQ
    | (refine wpAny_bind (wpAny_load ho ?_)
       rw[hc,hd]
       show wpAny M A (if(["enumerate","zip","dict_itemiterator","dict_reverseitemiterator","odict_iterator","itertools.zip_longest","itertools.pairwise"].contains n&&vs[0]? == some (rawInt _))=true then _ else _) Q E s
       rw[if_neg (by intro h;rw[hn,Bool.false_and]at h;cases h)]
       exact wpAny_pure hQ))
def Itl (K:PySem.W.Frag) (a:Addr):It :=
 ⟨λi H=>∃xs x,SqL K H a xs/\xs[i]? = some x,λi H x H'=>H'=H/\∀xs,SqL K H a xs->xs[i]? = some x,λi H=>∃xs,SqL K H a xs/\xs.length<=i⟩
def Itt (K:PySem.W.Frag) (a:Addr):It :=
 ⟨λi H=>∃xs x,SqT K H a xs/\xs[i]? = some x,λi H x H'=>H'=H/\∀xs,SqT K H a xs->xs[i]? = some x,λi H=>∃xs,SqT K H a xs/\xs.length<=i⟩
def Itr (lo:Int) (n:Nat):It:=⟨λi _=>i<n,λi H x H'=>H'=H/\x = .int (lo+i),λi _=>n<=i⟩
theorem Qa {P:Program}{w:World}{K:PySem.W.Frag}{tg:Expr}(a it:Addr):Qc P w K tg (Itl K a) [it] it (λi h=>h.IsListIter it a i) where
 mem:=by simp
 obj:=λi h st b hb=>by
  have e:b=it:=by simpa using hb
  subst e
  obtain⟨o,e,c,d⟩:=st
  exact⟨o,e,λv z=>by rw[d]at z;cases z⟩
 keep:=λi h h' st k=>st.at λo e=>k it (by simp) o e
 item:=by
  intro X hP hw hK hc i pins s σ H E I hf st hg
  subst hP hw hK
  obtain⟨xs,x,hq,hx⟩:=hg
  obtain⟨its,rv,p,hz⟩:=I.list hq
  obtain⟨u,hu,ru⟩:=rv.get hx
  obtain⟨f0,f1,f2,f3,f4,f5⟩:=hf it (by simp)
  refine wpAny_pyNext_list_item st p.isList (x:=u) (by simpa using hu) λh' st' sb=>?_
  have I1:Inv X pins σ H { s with heap:=h' }:=I.turned (t':=s.toks) (λb o hb e=>(sb.2 b hb).trans e) f0 f1 f3 f4 f5
  obtain⟨o,e,c,d⟩:=id st'
  exact⟨u,rfl,Xg (s:={ s with heap:=h' }) e c d (by decide) ⟨x,H,I1,ru,⟨rfl,λys hy=>by rw[I.list_inj hy hq];exact hx⟩,st',λb hb=>(hf b hb).1⟩⟩
 done:=by
  intro X hP hw hK hc i pins s σ H E I hf st hg
  subst hP hw hK
  obtain⟨xs,hq,hx⟩:=hg
  obtain⟨its,rv,p,hz⟩:=I.list hq
  obtain⟨f0,f1,f2,f3,f4,f5⟩:=hf it (by simp)
  have hl:=rv.length
  exact wpAny_pyNext_list_end (I.ok.hd hc) st p.isList (by simp;omega) λh' eb=>⟨rfl,I.turned (t':=s.toks) (λb o hb e=>eb b o hb e) f0 f1 f3 f4 f5⟩
 self:=λ_ _ _ _ _ st h=>wpAny_pyIter_listiter st h
theorem Z6 {P:Program}{w:World}{K:PySem.W.Frag}{tg:Expr}(a it:Addr):Qc P w K tg (Itt K a) [it] it (λi h=>h.IsTupleIter it a i) where
 mem:=by simp
 obj:=λi h st b hb=>by
  have e:b=it:=by simpa using hb
  subst e
  obtain⟨o,e,c,d⟩:=st
  exact⟨o,e,λv z=>by rw[d]at z;cases z⟩
 keep:=λi h h' st k=>st.at λo e=>k it (by simp) o e
 item:=by
  intro X hP hw hK hc i pins s σ H E I hf st hg
  subst hP hw hK
  obtain⟨xs,x,hq,hx⟩:=hg
  obtain⟨its,rv,p,hz⟩:=I.tuple hq
  obtain⟨u,hu,ru⟩:=rv.get hx
  obtain⟨f0,f1,f2,f3,f4,f5⟩:=hf it (by simp)
  refine wpAny_pyNext_tuple_item st (show s.heap.IsTuple a its.toArray from p) (x:=u) (by simpa using hu) λh' st' sb=>?_
  have I1:Inv X pins σ H { s with heap:=h' }:=I.turned (t':=s.toks) (λb o hb e=>(sb.2 b hb).trans e) f0 f1 f3 f4 f5
  obtain⟨o,e,c,d⟩:=id st'
  exact⟨u,rfl,Xg (s:={ s with heap:=h' }) e c d (by decide) ⟨x,H,I1,ru,⟨rfl,λys hy=>by rw[I.tuple_inj hy hq];exact hx⟩,st',λb hb=>(hf b hb).1⟩⟩
 done:=by
  intro X hP hw hK hc i pins s σ H E I hf st hg
  subst hP hw hK
  obtain⟨xs,hq,hx⟩:=hg
  obtain⟨its,rv,p,hz⟩:=I.tuple hq
  obtain⟨f0,f1,f2,f3,f4,f5⟩:=hf it (by simp)
  have hl:=rv.length
  exact wpAny_pyNext_tuple_end (I.ok.hd hc) st (show s.heap.IsTuple a its.toArray from p) (by simp;omega) λh' eb=>⟨rfl,I.turned (t':=s.toks) (λb o hb e=>eb b o hb e) f0 f1 f3 f4 f5⟩
 self:=λ_ _ _ _ _ st h=>wpAny_pyIter_tupleiter st h
theorem Z5 {P:Program}{w:World}{K:PySem.W.Frag}{tg:Expr}(it:Addr) (lo:Int) (n:Nat):Qc P w K tg (Itr lo n) [it] it (λi h=>IsRangeIter h it (lo+(i:Nat)*1) ((n:Int) - (i:Nat)) 1) where
 mem:=by simp
 obj:=λi h st b hb=>by
  have e:b=it:=by simpa using hb
  subst e
  exact⟨_,st,λv z=>by
   have z':Data.fields _=Data.cell v:=z
   cases z'⟩
 keep:=λi h h' st k=>k it (by simp) _ st
 item:=by
  intro X hP hw hK hc i pins s σ H E I hf st hg
  subst hP hw hK
  obtain⟨f0,f1,f2,f3,f4,f5⟩:=hf it (by simp)
  have W:=Walks.range (prog:=X.prog) (w:=X.w) (I.ok.hd hc) it lo 1 n
  refine W.item i s _ _ hg st λv h' tk hv st' kk=>?_
  obtain⟨t,rfl⟩:=hv
  have I1:Inv X pins σ H { s with heap:=h',toks:=tk }:=I.turned (λb o hb e=>kk b o (by simpa using hb) e) f0 f1 f3 f4 f5
  refine⟨_,rfl,Xg (s:={ s with heap:=h',toks:=tk }) (n:="range_iterator") st' rfl rfl (by decide) ⟨.int (lo+i),H,I1,⟨t,?_⟩,⟨rfl,rfl⟩,st',λb hb=>(hf b hb).1⟩⟩
  rw[Int.mul_one]
 done:=by
  intro X hP hw hK hc i pins s σ H E I hf st hg
  subst hP hw hK
  obtain⟨f0,f1,f2,f3,f4,f5⟩:=hf it (by simp)
  exact wpAny_pyNext_range_end (I.ok.hd hc) st (by have:n<=i:=hg;omega) λh' eb=>⟨rfl,I.turned (t':=s.toks) (λb o hb e=>eb b o hb e) f0 f1 f3 f4 f5⟩
 self:=λ_ _ _ _ _ st h=>wpAny_pyIter_rangeiter st h
end L2
namespace L2
open PySem PySem.Spec PyProof.Rows
section
variable {X:Cx}{tg:Expr}
def zaL (K:PySem.W.Frag) (tl:TE):TI:=λσ H R=>tl σ H λx H1=>∃a,x = .ref a/\(∃xs,SqL K H1 a xs)/\R (Itl K a) H1
def iTup (K:PySem.W.Frag) (tl:TE):TI:=λσ H R=>tl σ H λx H1=>∃a,x = .ref a/\(∃xs,SqT K H1 a xs)/\R (Itt K a) H1
theorem Xq {l:Expr}{tl:TE}(hl:PE X l tl):PI X tg l (zaL X.K tl):=by
 intro pins s σ H R I h
 refine thn (hl pins s σ H _ I h) λv s1 ⟨x,H1,I1,r1,q1⟩=>?_
 obtain⟨a,e,⟨xs,hq⟩,q⟩:=q1
 subst e
 cases r1
 obtain⟨its,rv,p,hz⟩:=I1.list hq
 refine wpAny_pyIter_list p.isList ?_
 refine⟨s1.heap.objs.size,[s1.heap.objs.size],_,_,H1,rfl,I1.kept (t':=s1.toks) λb o e=>Heap.get?_push_of_some _ e,Qa a _,⟨_,Heap.get?_push_size _ rfl,rfl,rfl⟩,λb hb=>?_,q⟩
 have e:b=s1.heap.objs.size:=by simpa using hb
 subst e
 exact I1.fpOk (Nat.le_refl _) (I1.hok.fresh (Nat.le_refl _))
theorem QK {l:Expr}{tl:TE}(hl:PE X l tl):PI X tg l (iTup X.K tl):=by
 intro pins s σ H R I h
 refine thn (hl pins s σ H _ I h) λv s1 ⟨x,H1,I1,r1,q1⟩=>?_
 obtain⟨a,e,⟨xs,hq⟩,q⟩:=q1
 subst e
 cases r1
 obtain⟨its,rv,p,hz⟩:=I1.tuple hq
 refine wpAny_pyIter_tuple (show s1.heap.IsTuple a its.toArray from p) ?_
 refine⟨s1.heap.objs.size,[s1.heap.objs.size],_,_,H1,rfl,I1.kept (t':=s1.toks) λb o e=>Heap.get?_push_of_some _ e,Z6 a _,⟨_,Heap.get?_push_size _ rfl,rfl,rfl⟩,λb hb=>?_,q⟩
 have e:b=s1.heap.objs.size:=by simpa using hb
 subst e
 exact I1.fpOk (Nat.le_refl _) (I1.hok.fresh (Nat.le_refl _))
theorem QN {pins:List (Addr×Obj)}{σ:St}{H:Hp}{s:Shared}{R:It->Hp->Prop}{E:Value->Shared->Prop}{lo hi:Int}{t u v:Tok}{tk:Nat}(I:Inv X pins σ H s) (h1 : -(2^62)<=lo) (h2:lo<2^62) (h3 : -(2^62)<=hi) (h4:hi<2^62)
  (q:R (Itr lo (hi - lo).toNat) H):wpAny (model X.prog X.w) X.A (pyIter (.ref s.heap.objs.size)) (PIE X pins σ tg R) E { s with heap:=s.heap.push { cls:=.type "range",data:=.fields #[.int lo t,.int hi u,.int 1 v] },toks:=tk }:=by
 refine wpAny_pyIter_range (IsRange.new ..) (small_one h1 h2 h3 h4) ?_
 have I1:Inv X pins σ H { s with heap:=s.heap.push { cls:=.type "range",data:=.fields #[.int lo t,.int hi u,.int 1 v] },toks:=tk }:=I.kept λb o e=>Heap.get?_push_of_some _ e
 refine⟨(s.heap.push { cls:=.type "range",data:=.fields #[.int lo t,.int hi u,.int 1 v] }).objs.size,[(s.heap.push { cls:=.type "range",data:=.fields #[.int lo t,.int hi u,.int 1 v] }).objs.size],_,_,H,rfl,
  I1.kept (t':=tk) λb o e=>Heap.get?_push_of_some _ e,Z5 _ lo (hi - lo).toNat,?_,λb hb=>?_,q⟩
 ·have e1:lo+((0:Nat):Int)*1=lo:=by simp
  have e2:(((hi - lo).toNat:Nat):Int) - ((0:Nat):Int)=Builtin.Range.rangeSize lo hi 1:=by rw[rangeSize_one];split <;> omega
  show IsRangeIter _ _ (lo+((0:Nat):Int)*1) ((((hi - lo).toNat:Nat):Int) - ((0:Nat):Int)) 1
  rw[e1,e2]
  exact Heap.get?_push_size _ rfl
 ·have e:b=(s.heap.push { cls:=.type "range",data:=.fields #[.int lo t,.int hi u,.int 1 v] }).objs.size:=by simpa using hb
  subst e
  exact I1.fpOk (Nat.le_refl _) (I1.hok.fresh (Nat.le_refl _))
def zaM (ta:TA):TI:=λσ H R=>ta σ H λvs H1=>∃j:Int,vs=[.int j] ∧ -(2^62)<=j/\j<2^62/\R (Itr 0 j.toNat) H1
theorem X2 {a:Expr}{ta:TA}{p pos:Pos}(hg:Gl X "range") (hm:X.mg "range" = none) (ha:PA X [a] ta) (hs:starEach [a] X.env=[(false,eval a X.env)]:=by rfl):PI X tg (.Call (.Name "range" p) [a] [] pos) (zaM ta):=by
 intro pins s σ H R I h
 refine Call_ (j8 I hg hm boot_range (PyProof.Rows.callWith_type1 (thn (ha pos pins s σ H _ I h) λus s1 ⟨vs,H1,I1,r1,q1⟩=>?_) hs rfl))
 obtain⟨j,e,q1,q2,q⟩:=q1
 subst e
 cases r1 with
 | cons r rr =>
  cases rr
  obtain⟨t,rfl⟩:=r
  exact call_range_1 (QN I1 (by omega) (by omega) q1 q2 (by simpa using q))
def V5 (wi:TI) (g:TG) (tb:TS):TS:=λD σ H=>wi σ H λJ H1=>∃W:Nat->Nat->St->Hp->Prop,(∃m,W 0 m σ H1)/\∀i m σ H,W i m σ H →
 (J.stop i H/\D.nx σ H)\/(J.go i H/\∃N:St->Hp->Prop,(∀σ' H',N σ' H'->∃m',m'<m/\W (i+1) m' σ' H')/\∀x H',J.yld i H x H'->g x σ H' λσ2 H2=>tb { D with nx:=N,ct:=N,bk:=D.nx } σ2 H2)
def jp (fp:List Addr) (h:Heap):List (Addr×Obj):=fp.filterMap λb=>(h.get? b).map λo=>(b,o)
theorem qN {fp:List Addr}{h:Heap}{b:Addr}{o:Obj}(hb:b∈fp) (e:h.get? b=some o):(b,o)∈jp fp h:=List.mem_filterMap.mpr ⟨b,hb,by rw[e];rfl⟩
theorem XY {fp:List Addr}{h:Heap}{p:Addr×Obj}(hp:p∈jp fp h):p.1∈fp/\h.get? p.1=some p.2:=by
 obtain⟨b,hb,e⟩:=List.mem_filterMap.mp hp
 cases q:h.get? b with
 | none=>rw[q]at e;cases e
 | some o =>
  rw[q]at e
  have e':(b,o)=p:=Option.some.inj e
  subst e'
  exact⟨hb,q⟩
theorem Inv.pinned {pins:List (Addr×Obj)}{σ:St}{H:Hp}{s:Shared}{fp:List Addr}(I:Inv X pins σ H s) (hf:∀b∈fp,Zn X pins H b) (ho:∀b∈fp,∃o,s.heap.get? b=some o/\∀v,o.data≠.cell v):Inv X (pins++jp fp s.heap) σ H s :=
 I.pins_of λp hp=>(List.mem_append.mp hp).elim (λz=>I.pin p (List.mem_append_right _ z)) λz=>by
  obtain⟨hb,e⟩:=XY z
  obtain⟨f0,f1,f2,_⟩:=hf p.1 hb
  obtain⟨o,e',d⟩:=ho p.1 hb
  rw[e]at e';cases e'
  exact⟨e,f0,f1,f2,d⟩
theorem Inv.unpinned {pins pl:List (Addr×Obj)}{σ:St}{H:Hp}{s:Shared}(I:Inv X (pins++pl) σ H s):Inv X pins σ H s:=I.pins_of λp hp=>I.pin p (List.mem_append_right _ (List.mem_append_left _ hp))
theorem jr {iter:Expr}{body:List Stmt}{wi:TI}{g:TG}{tb:TS}{pos:Pos}(hp:PassesOwn (model X.prog X.w) X.A X.env X.xe) (hc:X.calm=true) (hi:PI X tg iter wi) (hg:PG X tg g) (hb:PSs X body tb)
  (hs:∀x,foldedSetIterable iter X.env x=pure x:=by intro _;rfl):PS X (.For tg iter body [] pos) (V5 wi g tb):=by
 intro pins s σ H D I h
 refine wpAny_For (thn (hi pins s σ H _ I h) λv s1 h1=>thn h1 λitv s2 h2=>?_) hs
 obtain⟨it,fp,tn,J,H2,e,I2,T,st2,f2,W,⟨m0,w0⟩,turn⟩:=h2
 subst e
 have stat:∀{H':Hp},(∀b∈fp,H' b=none)->∀b∈fp,Zn X pins H' b:=λhn b hb=>⟨hn b hb,(f2 b hb).2⟩
 refine codeAny_forLoop_any (λn s'=>∃i σ' H',Inv X pins σ' H' s'/\tn i s'.heap/\(∀b∈fp,H' b=none)/\W i n σ' H') ?_ m0 ⟨0,σ,H2,I2,st2,λb hb=>(f2 b hb).1,w0⟩
 rintro n s3 ⟨i,σ3,H3,I3,st3,fr3,w3⟩
 rcases turn i n σ3 H3 w3 with⟨stop,qn⟩ | ⟨go,N,hN,step⟩
 ·refine wpAny_passesOwn hp (thn (T.done X rfl rfl rfl hc i pins s3 σ3 H3 X.xe I3 (stat fr3) st3 stop) λr s4 ⟨hr,I4⟩=>?_)
  subst hr
  exact wpAny_execs_nil ⟨σ3,H3,I4,qn⟩
 ·refine wpAny_passesOwn hp (thn (T.item X rfl rfl rfl hc i pins s3 σ3 H3 X.xe I3 (stat fr3) st3 go) λr s4 ⟨u,hr,h4⟩=>?_)
  subst hr
  refine wpAny_passesOwn hp (thn h4 λ_ s5 ⟨x,H5,I5,r5,y5,st5,fr5⟩=>?_)
  have I5':=I5.pinned (stat fr5) (T.obj _ _ st5)
  refine wpAny_passesOwn hp (thn (hg _ s5 σ3 H5 x u _ I5' r5 (step x H5 y5)) λ_ s6 ⟨σ6,H6,I6,q6⟩=>?_)
  refine wpAny_passesOwn hp (thn (hb _ s6 σ6 H6 _ I6 q6) λf s7 q7=>?_)
  have again:∀{σ7:St}{H7:Hp},Inv X (pins++jp fp s5.heap) σ7 H7 s7->N σ7 H7->∃m,m<n/\∃i σ' H',Inv X pins σ' H' s7/\tn i s7.heap/\(∀b∈fp,H' b=none)/\W i m σ' H':=λ{σ7 H7} I7 n7=>by
   obtain⟨m',hm,w7⟩:=hN σ7 H7 n7
   refine⟨m',hm,i+1,σ7,H7,I7.unpinned,T.keep _ _ _ st5 λb hb o e=>(I7.pin (b,o) (List.mem_append_right _ (List.mem_append_right _ (qN hb e)))).1,λb hb=>?_,w7⟩
   obtain⟨o,e,d⟩:=T.obj _ _ st5 b hb
   exact(I7.pin (b,o) (List.mem_append_right _ (List.mem_append_right _ (qN hb e)))).2.1
  cases f with
  | next=>obtain⟨σ7,H7,I7,n7⟩:=q7;exact again I7 n7
  | cont=>obtain⟨σ7,H7,I7,n7⟩:=q7;exact again I7 n7
  | brk=>obtain⟨σ7,H7,I7,q7⟩:=q7;exact⟨σ7,H7,I7.unpinned,q7⟩
  | ret v=>obtain⟨x7,σ7,H7,I7,r7,q7⟩:=q7;exact⟨x7,σ7,H7,I7.unpinned,r7,q7⟩
end
theorem Zs {K:PySem.W.Frag}{a:Addr}{xs:List V}{g:TG}{tb:TS}{D:qS}{σ:St}{H:Hp}(Pv:Nat->St->Hp->Prop) (h0:Pv 0 σ H) (hl:∀i σ H,i<=xs.length->Pv i σ H->SqL K H a xs)
  (hs:∀i x σ H,xs[i]? = some x->Pv i σ H->g x σ H λσ2 H2=>tb { D with nx:=Pv (i+1),ct:=Pv (i+1),bk:=D.nx } σ2 H2) (hd:∀σ H,Pv xs.length σ H->D.nx σ H) :
  ∃W:Nat->Nat->St->Hp->Prop,(∃m,W 0 m σ H)/\∀i m σ H,W i m σ H →
   ((Itl K a).stop i H/\D.nx σ H)\/((Itl K a).go i H/\∃N:St->Hp->Prop,(∀σ' H',N σ' H'->∃m',m'<m/\W (i+1) m' σ' H')/\∀x H',(Itl K a).yld i H x H'->g x σ H' λσ2 H2=>tb { D with nx:=N,ct:=N,bk:=D.nx } σ2 H2):=by
 refine⟨λi m σ H=>m=xs.length - i/\i<=xs.length/\Pv i σ H,⟨xs.length,by simp,Nat.zero_le _,h0⟩,?_⟩
 rintro i m σ H ⟨rfl,hi,p⟩
 have q:=hl i σ H hi p
 by_cases hlt:i<xs.length
 ·refine .inr ⟨⟨xs,xs[i],q,by simp[hlt]⟩,Pv (i+1),λσ' H' p'=>⟨xs.length - (i+1),by omega,rfl,hlt,p'⟩,λx H' y=>?_⟩
  obtain⟨e,y⟩:=y
  subst e
  exact hs i x σ _ (y xs q) p
 ·have e:i=xs.length:=by omega
  subst e
  exact .inl ⟨⟨xs,q,Nat.le_refl _⟩,hd σ H p⟩
theorem Vl {K:PySem.W.Frag}{a:Addr}{xs:List V}{g:TG}{tb:TS}{D:qS}{σ:St}{H:Hp}(Pv:Nat->St->Hp->Prop) (h0:Pv 0 σ H) (hl:∀i σ H,i<=xs.length->Pv i σ H->SqT K H a xs)
  (hs:∀i x σ H,xs[i]? = some x->Pv i σ H->g x σ H λσ2 H2=>tb { D with nx:=Pv (i+1),ct:=Pv (i+1),bk:=D.nx } σ2 H2) (hd:∀σ H,Pv xs.length σ H->D.nx σ H) :
  ∃W:Nat->Nat->St->Hp->Prop,(∃m,W 0 m σ H)/\∀i m σ H,W i m σ H →
   ((Itt K a).stop i H/\D.nx σ H)\/((Itt K a).go i H/\∃N:St->Hp->Prop,(∀σ' H',N σ' H'->∃m',m'<m/\W (i+1) m' σ' H')/\∀x H',(Itt K a).yld i H x H'->g x σ H' λσ2 H2=>tb { D with nx:=N,ct:=N,bk:=D.nx } σ2 H2):=by
 refine⟨λi m σ H=>m=xs.length - i/\i<=xs.length/\Pv i σ H,⟨xs.length,by simp,Nat.zero_le _,h0⟩,?_⟩
 rintro i m σ H ⟨rfl,hi,p⟩
 have q:=hl i σ H hi p
 by_cases hlt:i<xs.length
 ·refine .inr ⟨⟨xs,xs[i],q,by simp[hlt]⟩,Pv (i+1),λσ' H' p'=>⟨xs.length - (i+1),by omega,rfl,hlt,p'⟩,λx H' y=>?_⟩
  obtain⟨e,y⟩:=y
  subst e
  exact hs i x σ _ (y xs q) p
 ·have e:i=xs.length:=by omega
  subst e
  exact .inl ⟨⟨xs,q,Nat.le_refl _⟩,hd σ H p⟩
theorem XN {lo:Int}{n:Nat}{g:TG}{tb:TS}{D:qS}{σ:St}{H:Hp}(Pv:Nat->St->Hp->Prop) (h0:Pv 0 σ H)
  (hs:∀i σ H,i<n->Pv i σ H->g (.int (lo+i)) σ H λσ2 H2=>tb { D with nx:=Pv (i+1),ct:=Pv (i+1),bk:=D.nx } σ2 H2) (hd:∀σ H,Pv n σ H->D.nx σ H) :
  ∃W:Nat->Nat->St->Hp->Prop,(∃m,W 0 m σ H)/\∀i m σ H,W i m σ H →
   ((Itr lo n).stop i H/\D.nx σ H)\/((Itr lo n).go i H/\∃N:St->Hp->Prop,(∀σ' H',N σ' H'->∃m',m'<m/\W (i+1) m' σ' H')/\∀x H',(Itr lo n).yld i H x H'->g x σ H' λσ2 H2=>tb { D with nx:=N,ct:=N,bk:=D.nx } σ2 H2):=by
 refine⟨λi m σ H=>m=n - i/\i<=n/\Pv i σ H,⟨n,by simp,Nat.zero_le _,h0⟩,?_⟩
 rintro i m σ H ⟨rfl,hi,p⟩
 by_cases hlt:i<n
 ·refine .inr ⟨hlt,Pv (i+1),λσ' H' p'=>⟨n - (i+1),by omega,rfl,hlt,p'⟩,λx H' y=>?_⟩
  obtain⟨e,y⟩:=y
  subst e y
  exact hs i σ _ hlt p
 ·have e:i=n:=by omega
  subst e
  exact .inl ⟨Nat.le_refl _,hd σ H p⟩
theorem vL {c:TT}{tb:TS}{D:qS}{σ:St}{H:Hp}(Pv:St->Hp->Prop) (μ:St->Hp->Nat) (h0:Pv σ H)
  (hs:∀σ H,Pv σ H->c σ H λb H1=>if b=true then tb { D with nx:=λσ' H'=>Pv σ' H'/\μ σ' H'<μ σ H,ct:=λσ' H'=>Pv σ' H'/\μ σ' H'<μ σ H,bk:=D.nx } σ H1 else D.nx σ H1)
  (mono:∀σ H Q Q',(∀b H1,Q b H1->Q' b H1)->c σ H Q->c σ H Q'):Zl c tb D σ H:=by
 refine⟨λm σ H=>m=μ σ H/\Pv σ H,⟨_,rfl,h0⟩,?_⟩
 rintro m σ H ⟨rfl,p⟩
 refine mono σ H _ _ (λb H1 q=>?_) (hs σ H p)
 cases b with
 | true=>exact⟨_,λσ' H' ⟨p',l⟩=>⟨_,l,rfl,p'⟩,q⟩
 | false=>exact q
end L2
namespace L2
open PySem PySem.Spec PyProof.Rows
abbrev R2:=V->V->Hp->VK->Prop
def OpR (X:Cx) (f:Value->Value->Sem Value) (r:R2):Prop :=
 ∀(pins:List (Addr×Obj)) (s:Shared) (σ:St) (H:Hp) (x y:V) (v u:Value) (Q:VK),Inv X pins σ H s->xf x v->xf y u->r x y H Q →
  wpAny (model X.prog X.w) X.A (f v u) (EP X pins σ Q) X.xe s
def UnR (X:Cx) (f:Value->Sem Value) (r:V->Hp->VK->Prop):Prop :=
 ∀(pins:List (Addr×Obj)) (s:Shared) (σ:St) (H:Hp) (x:V) (v:Value) (Q:VK),Inv X pins σ H s->xf x v->r x H Q →
  wpAny (model X.prog X.w) X.A (f v) (EP X pins σ Q) X.xe s
def qQ (X:Cx) (f:Value) (r:List V->Hp->VK->Prop):Prop :=
 ∀(pins:List (Addr×Obj)) (s:Shared) (σ:St) (H:Hp) (xs:List V) (us:List Value) (Q:VK),Inv X pins σ H s->zS xs us->r xs H Q →
  wpAny (model X.prog X.w) X.A (call f us) (EP X pins σ Q) X.xe s
def TruR (X:Cx) (r:V->Hp->(Bool->Hp->Prop)->Prop):Prop :=
 ∀(pins:List (Addr×Obj)) (s:Shared) (σ:St) (H:Hp) (x:V) (v:Value) (Q:Bool->Hp->Prop),Inv X pins σ H s->xf x v->r x H Q →
  wpAny (model X.prog X.w) X.A (truthy v) (TP X pins σ Q) X.xe s
def tOp (r:R2) (ta tb:TE):TE:=λσ H Q=>ta σ H λx H1=>tb σ H1 λy H2=>r x y H2 Q
def tUn (r:V->Hp->VK->Prop) (ta:TE):TE:=λσ H Q=>ta σ H λx H1=>r x H1 Q
def rI (C:Int->Int->Prop) (g:Int->Int->V):R2:=λx y H Q=>∃i j,x = .int i/\y = .int j/\C i j/\Q (g i j) H
def rI0 (g:Int->Int->V):R2:=λx y H Q=>∃i j,x = .int i/\y = .int j/\Q (g i j) H
def rU (g:Int->V):V->Hp->VK->Prop:=λx H Q=>∃i,x = .int i/\Q (g i) H
section
variable {X:Cx}{a b c:Expr}{ta tb tc:TE}{pos:Pos}
theorem JF (ha:PE X a ta) (hb:PE X b tb){pins:List (Addr×Obj)}{s:Shared}{σ:St}{H:Hp}{R:V->V->Hp->Prop}(I:Inv X pins σ H s)
  (h:ta σ H λx H1=>tb σ H1 λy H2=>R x y H2){Q:Value->Shared->Prop}{f:Value->Value->Sem Value}
  (hf:∀v u s2 x y H2,Inv X pins σ H2 s2->xf x v->xf y u->R x y H2->wpAny (model X.prog X.w) X.A (f v u) Q X.xe s2) :
  wpAny (model X.prog X.w) X.A (eval a X.env) (λv s₁=>wpAny (model X.prog X.w) X.A (eval b X.env) (λu s₂=>wpAny (model X.prog X.w) X.A (f v u) Q X.xe s₂) X.xe s₁) X.xe s:=by
 refine thn (ha pins s σ H _ I h) λv s1 ⟨x,H1,I1,r1,q1⟩=>?_
 refine thn (hb pins s1 σ H1 _ I1 q1) λu s2 ⟨y,H2,I2,r2,q2⟩=>?_
 exact hf v u s2 x y H2 I2 r1 r2 q2
theorem zD {op:Operator}{r:R2}(ho:OpR X (binaryOp op) r) (ha:PE X a ta) (hb:PE X b tb):PE X (.BinOp a op b pos) (tOp r ta tb):=by
 intro pins s σ H Q I h
 exact wpAny_BinOp (JF ha hb I h λv u s2 x y H2 I2 rx ry q=>ho pins s2 σ H2 x y v u Q I2 rx ry q)
theorem v4 {op:UnaryOp}{r:V->Hp->VK->Prop}(ho:UnR X (unaryOp op) r) (ha:PE X a ta):PE X (.UnaryOp op a pos) (tUn r ta):=by
 intro pins s σ H Q I h
 exact UnaryOp_ (thn (ha pins s σ H _ I h) λv s1 ⟨x,H1,I1,r1,q1⟩=>ho pins s1 σ H1 x v Q I1 r1 q1)
theorem opI {f:Value->Value->Sem Value}{C:Int->Int->Prop}{g:Int->Int->Int}
  (rule:∀(i j:Int) (t u:Tok) (s:Shared) (Q:Value->Shared->Prop) (E:Value->Shared->Prop),C i j->Q (.int (g i j) s.toks) { s with toks:=s.toks+1 }->wpAny (model X.prog X.w) X.A (f (.int i t) (.int j u)) Q E s) :
  OpR X f (rI C λi j=>.int (g i j)):=by
 intro pins s σ H x y v u Q I rx ry h
 obtain⟨i,j,rfl,rfl,hc,q⟩:=h
 obtain⟨t,rfl⟩:=rx
 obtain⟨t',rfl⟩:=ry
 exact rule i j t t' s _ _ hc ⟨.int (g i j),H,I.tok _,⟨_,rfl⟩,q⟩
theorem zaT {f:Value->Value->Sem Value}{g:Int->Int->Int}
  (rule:∀(i j:Int) (t u:Tok) (s:Shared) (Q:Value->Shared->Prop) (E:Value->Shared->Prop),Q (.int (g i j) s.toks) { s with toks:=s.toks+1 }->wpAny (model X.prog X.w) X.A (f (.int i t) (.int j u)) Q E s) :
  OpR X f (rI0 λi j=>.int (g i j)):=by
 intro pins s σ H x y v u Q I rx ry h
 obtain⟨i,j,rfl,rfl,q⟩:=h
 obtain⟨t,rfl⟩:=rx
 obtain⟨t',rfl⟩:=ry
 exact rule i j t t' s _ _ ⟨.int (g i j),H,I.tok _,⟨_,rfl⟩,q⟩
theorem VJ {f:Value->Value->Sem Value}{g:Int->Int->Bool}
  (rule:∀(i j:Int) (t u:Tok) (s:Shared) (Q:Value->Shared->Prop) (E:Value->Shared->Prop),Q (.bool (g i j)) s->wpAny (model X.prog X.w) X.A (f (.int i t) (.int j u)) Q E s) :
  OpR X f (rI0 λi j=>.bl (g i j)):=by
 intro pins s σ H x y v u Q I rx ry h
 obtain⟨i,j,rfl,rfl,q⟩:=h
 obtain⟨t,rfl⟩:=rx
 obtain⟨t',rfl⟩:=ry
 exact rule i j t t' s _ _ ⟨.bl (g i j),H,I,rfl,q⟩
def CDiv (i j:Int):Prop:=0<j/\j<1073741824
def CPow (i j:Int):Prop:=0<=j/\j<=1000000/\i.natAbs<2^64
def Jm (i j:Int):Prop:=(-(2^64)<i/\i<2^64)\/(-(2^64)<j/\j<2^64)
theorem Jm.ok {i j:Int}(h:Jm i j):IntMulOk i j:=by
 rcases h with⟨h1,h2⟩ | ⟨h1,h2⟩
 ·exact .of_left (intBits_le_64 h1 h2)
 ·exact .of_right (intBits_le_64 h1 h2)
theorem x8:OpR X (binaryOp .Add) (rI0 λi j=>.int (i+j)):=zaT λ_ _ _ _ _ _ _ q=>add_int q
theorem jo:OpR X (binaryOp .Sub) (rI0 λi j=>.int (i - j)):=zaT λ_ _ _ _ _ _ _ q=>sub_int q
theorem ZU:OpR X (binaryOp .Mult) (rI Jm λi j=>.int (i*j)):=opI λ_ _ _ _ _ _ _ hc q=>mul_int q hc.ok
theorem Xn:OpR X (binaryOp .FloorDiv) (rI CDiv λi j=>.int (i/j)):=opI λi j _ _ _ _ _ hc q=>by
 have h1:(0:Int)<j:=hc.1
 have h2:j<1073741824:=hc.2
 exact floordiv_int (by omega) (by rw[Int.fdiv_eq_ediv_of_nonneg i (by omega)];exact q) (.inl (PyProof.noPylong_small (by omega)))
theorem qO:OpR X (binaryOp .Mod) (rI (λ_ j=>0<j) λi j=>.int (i % j)):=opI λi j _ _ _ _ _ hc q=>by
 have h1:(0:Int)<j:=hc
 exact mod_int' (by omega) (by rw[Int.fmod_eq_emod_of_nonneg i (by omega)];exact q)
theorem ZV:OpR X (binaryOp .Pow) (rI CPow λi j=>.int (i^j.toNat)):=opI λ_ _ _ _ _ _ _ hc q=>pow_int_small hc.1 hc.2.1 hc.2.2 q
theorem unI {f:Value->Sem Value}{g:Int->Int}
  (rule:∀(i:Int) (t:Tok) (s:Shared) (Q:Value->Shared->Prop) (E:Value->Shared->Prop),Q (.int (g i) s.toks) { s with toks:=s.toks+1 }->wpAny (model X.prog X.w) X.A (f (.int i t)) Q E s) :
  UnR X f (rU λi=>.int (g i)):=by
 intro pins s σ H x v Q I rx h
 obtain⟨i,rfl,q⟩:=h
 obtain⟨t,rfl⟩:=rx
 exact rule i t s _ _ ⟨.int (g i),H,I.tok _,⟨_,rfl⟩,q⟩
theorem va:UnR X (unaryOp .USub) (rU λi=>.int (-i)):=unI λ_ _ _ _ _ q=>neg_int q
end
def za3:V->V->Bool
 | .non,.non=>true | .non,.int _=>true | .int _,.non=>true | .non,.bl _=>true | .bl _,.non=>true | .non,.str _=>true | .str _,.non=>true
 | .int _,.int _=>true | .bl _,.bl _=>true | .str _,.str _=>true | .byt _,.byt _=>true
 | .int _,.str _=>true | .str _,.int _=>true | .bl _,.str _=>true | .str _,.bl _=>true
 | _,_=>false
def rEq:R2:=λx y H Q=>za3 x y=true/\Q (.bl (decide (x=y))) H
def rNe:R2:=λx y H Q=>za3 x y=true/\Q (.bl (!decide (x=y))) H
theorem xq {i j:Int}:decide (V.int i=V.int j)=(i == j):=by
 rw[Bool.eq_iff_iff]
 simp
theorem Qi {i j:Bool}:decide (V.bl i=V.bl j)=(i == j):=by
 rw[Bool.eq_iff_iff]
 simp
theorem Xc {i j:Str}:decide (V.str i=V.str j)=(i == j):=by
 rw[Bool.eq_iff_iff]
 simp
theorem Xb {i j:Array UInt8}:decide (V.byt i=V.byt j)=(i.toList == j.toList):=by
 rw[Bool.eq_iff_iff]
 cases i
 cases j
 simp
section
variable {X:Cx}{a b c:Expr}{ta tb tc:TE}{pos:Pos}
theorem zN {pins:List (Addr×Obj)}{σ:St}{H:Hp}{s:Shared}{Q:VK}{k k':Bool}(I:Inv X pins σ H s) (q:Q (.bl k) H) (e:k=k'):EP X pins σ Q (.bool k') s:=by
 subst e
 exact⟨.bl k,H,I,rfl,q⟩
theorem xU:OpR X (compareOp .Eq) rEq:=by
 intro pins s σ H x y v u Q I rx ry h
 obtain⟨hs,q⟩:=h
 cases x with
 | non =>
  cases rx
  cases y with
  | non=>cases ry;exact PySem.EqNone.eq_none_none (zN I q (by simp))
  | bl j=>cases ry;exact PySem.EqNone.eq_none_bool (zN I q (by simp))
  | int j=>obtain⟨t',rfl⟩:=ry;exact PySem.EqNone.eq_none_int (zN I q (by simp))
  | str j=>obtain⟨t',rfl⟩:=ry;exact PySem.EqNone.eq_none_str (zN I q (by simp))
  | _=>exact absurd (show false=true from hs) Bool.false_ne_true
 | bl i =>
  cases rx
  cases y with
  | non=>cases ry;exact PySem.EqNone.eq_bool_none (zN I q (by simp))
  | bl j=>cases ry;exact eq_bool (zN I q Qi)
  | str j=>obtain⟨t',rfl⟩:=ry;exact PySem.EqMixed.eq_bool_str (zN I q (by simp))
  | _=>exact absurd (show false=true from hs) Bool.false_ne_true
 | int i =>
  obtain⟨t,rfl⟩:=rx
  cases y with
  | non=>cases ry;exact PySem.EqNone.eq_int_none (zN I q (by simp))
  | int j=>obtain⟨t',rfl⟩:=ry;exact eq_int (zN I q xq)
  | str j=>obtain⟨t',rfl⟩:=ry;exact PySem.EqMixed.eq_int_str (zN I q (by simp))
  | _=>exact absurd (show false=true from hs) Bool.false_ne_true
 | str i =>
  obtain⟨t,rfl⟩:=rx
  cases y with
  | non=>cases ry;exact PySem.EqNone.eq_str_none (zN I q (by simp))
  | bl j=>cases ry;exact PySem.EqMixed.eq_str_bool (zN I q (by simp))
  | int j=>obtain⟨t',rfl⟩:=ry;exact PySem.EqMixed.eq_str_int (zN I q (by simp))
  | str j=>obtain⟨t',rfl⟩:=ry;exact eq_str (zN I q Xc)
  | _=>exact absurd (show false=true from hs) Bool.false_ne_true
 | byt i =>
  obtain⟨t,rfl⟩:=rx
  cases y with
  | byt j=>obtain⟨t',rfl⟩:=ry;exact PySem.W.eq_bytes (zN I q Xb)
  | _=>exact absurd (show false=true from hs) Bool.false_ne_true
 | _=>cases y <;> exact absurd (show false=true from hs) Bool.false_ne_true
theorem vf:OpR X (compareOp .NotEq) rNe:=by
 intro pins s σ H x y v u Q I rx ry h
 obtain⟨hs,q⟩:=h
 cases x with
 | non =>
  cases rx
  cases y with
  | non=>cases ry;exact PySem.EqNone.ne_none_none (zN I q (by simp))
  | bl j=>cases ry;exact PySem.EqNone.ne_none_bool (zN I q (by simp))
  | int j=>obtain⟨t',rfl⟩:=ry;exact PySem.EqNone.ne_none_int (zN I q (by simp))
  | str j=>obtain⟨t',rfl⟩:=ry;exact PySem.EqNone.ne_none_str (zN I q (by simp))
  | _=>exact absurd (show false=true from hs) Bool.false_ne_true
 | bl i =>
  cases rx
  cases y with
  | non=>cases ry;exact PySem.EqNone.ne_bool_none (zN I q (by simp))
  | bl j=>cases ry;exact ne_bool (zN I q (congrArg not Qi))
  | str j=>obtain⟨t',rfl⟩:=ry;exact PySem.EqMixed.ne_bool_str (zN I q (by simp))
  | _=>exact absurd (show false=true from hs) Bool.false_ne_true
 | int i =>
  obtain⟨t,rfl⟩:=rx
  cases y with
  | non=>cases ry;exact PySem.EqNone.ne_int_none (zN I q (by simp))
  | int j=>obtain⟨t',rfl⟩:=ry;exact ne_int (zN I q (congrArg not xq))
  | str j=>obtain⟨t',rfl⟩:=ry;exact PySem.EqMixed.ne_int_str (zN I q (by simp))
  | _=>exact absurd (show false=true from hs) Bool.false_ne_true
 | str i =>
  obtain⟨t,rfl⟩:=rx
  cases y with
  | non=>cases ry;exact PySem.EqNone.ne_str_none (zN I q (by simp))
  | bl j=>cases ry;exact PySem.EqMixed.ne_str_bool (zN I q (by simp))
  | int j=>obtain⟨t',rfl⟩:=ry;exact PySem.EqMixed.ne_str_int (zN I q (by simp))
  | str j=>obtain⟨t',rfl⟩:=ry;exact ne_str (zN I q (congrArg not Xc))
  | _=>exact absurd (show false=true from hs) Bool.false_ne_true
 | byt i =>
  obtain⟨t,rfl⟩:=rx
  cases y with
  | byt j=>obtain⟨t',rfl⟩:=ry;exact PySem.W.ne_bytes (zN I q (congrArg not Xb))
  | _=>exact absurd (show false=true from hs) Bool.false_ne_true
 | _=>cases y <;> exact absurd (show false=true from hs) Bool.false_ne_true
theorem v3:OpR X (compareOp .Lt) (rI0 λi j=>.bl (decide (i<j))):=VJ λ_ _ _ _ _ _ _ q=>lt_int q
theorem Jd:OpR X (compareOp .LtE) (rI0 λi j=>.bl (decide (i<=j))):=VJ λ_ _ _ _ _ _ _ q=>le_int q
theorem vx:OpR X (compareOp .Gt) (rI0 λi j=>.bl (decide (j<i))):=VJ λ_ _ _ _ _ _ _ q=>gt_int q
theorem zaU:OpR X (compareOp .GtE) (rI0 λi j=>.bl (decide (j<=i))):=VJ λ_ _ _ _ _ _ _ q=>ge_int q
theorem X1:OpR X (compareOp .In) (λx y H Q=>∃i j,x = .str i/\y = .str j/\Q (.bl (!(Builtin.Str.occurrences j i 0 j.length 1).isEmpty)) H):=by
 intro pins s σ H x y v u Q I rx ry h
 obtain⟨i,j,rfl,rfl,q⟩:=h
 obtain⟨t,rfl⟩:=rx
 obtain⟨t',rfl⟩:=ry
 exact in_str (zN I q rfl)
theorem vR:OpR X (compareOp .Is) (λx y H Q=>y = .non/\Q (.bl (decide (x = .non))) H):=by
 intro pins s σ H x y v u Q I rx ry h
 obtain⟨rfl,q⟩:=h
 cases ry
 refine is_none_gen (zN I q ?_)
 cases x <;> first
  | (cases rx;rfl)
  | (obtain⟨t,rfl⟩:=rx;rfl)
theorem v8:OpR X (compareOp .IsNot) (λx y H Q=>y = .non/\Q (.bl (!decide (x = .non))) H):=by
 intro pins s σ H x y v u Q I rx ry h
 obtain⟨rfl,q⟩:=h
 cases ry
 refine isnot_none_gen (zN I q ?_)
 cases x <;> first
  | (cases rx;rfl)
  | (obtain⟨t,rfl⟩:=rx;rfl)
theorem Zf:OpR X (compareOp .NotIn) (λx y H Q=>∃i j,x = .str i/\y = .str j/\Q (.bl (!(!(Builtin.Str.occurrences j i 0 j.length 1).isEmpty))) H):=by
 intro pins s σ H x y v u Q I rx ry h
 obtain⟨i,j,rfl,rfl,q⟩:=h
 obtain⟨t,rfl⟩:=rx
 obtain⟨t',rfl⟩:=ry
 exact notIn_str (zN I q rfl)
theorem zy (b:Expr){op:CmpOp}(h:op≠.In:=by decide) (h2:op≠.NotIn:=by decide):behindInMarks op b=false:=by
 have e1:(op == CmpOp.In)=false:=by cases op <;> first | rfl | exact absurd rfl h
 have e2:(op == CmpOp.NotIn)=false:=by cases op <;> first | rfl | exact absurd rfl h2
 cases b <;> simp[behindInMarks,e1,e2]
theorem xt {op:CmpOp}{r:R2}(ho:OpR X (compareOp op) r) (ha:PE X a ta) (hb:PE X b tb) (hm:behindInMarks op b=false):PE X (.Compare a [op] [b] pos) (tOp r ta tb):=by
 intro pins s σ H Q I h
 exact wpAny_Compare1 (JF ha hb I h λv u s2 x y H2 I2 rx ry q=>ho pins s2 σ H2 x y v u Q I2 rx ry q) hm
def Q9 (t:TE):TT:=λσ H Q=>t σ H λx H'=>∃k,x = .bl k/\Q k H'
theorem zr {op:CmpOp}{r:R2}(ho:OpR X (compareOp op) r) (ha:PE X a ta) (hb:PE X b tb) (hm:behindInMarks op b=false):PT X (.Compare a [op] [b] pos) (Q9 (tOp r ta tb)):=by
 intro pins s σ H Q I h
 refine wpAny_isTrue_Compare1 (thn (ha pins s σ H _ I h) λv s1 ⟨x,H1,I1,r1,q1⟩=>thn (hb pins s1 σ H1 _ I1 q1) λu s2 ⟨y,H2,I2,r2,q2⟩ =>
  thn (ho pins s2 σ H2 x y v u _ I2 r1 r2 q2) λc s3 ⟨z,H3,I3,r3,k,e,q3⟩=>?_) hm
 subst e
 cases r3
 exact wpAny_truthy_bool ⟨H3,I3,q3⟩
def zau (r r':R2) (ta tb tc:TE):TE:=λσ H Q=>ta σ H λx H1=>tb σ H1 λy H2=>r x y H2 λz H3=>∃k,z = .bl k ∧
 (if k=true then tc σ H3 λw' H4=>r' y w' H4 Q else Q (.bl false) H3)
theorem QM {op op':CmpOp}{r r':R2}(ho:OpR X (compareOp op) r) (ho':OpR X (compareOp op') r') (ha:PE X a ta) (hb:PE X b tb) (hc:PE X c tc)
  (hm:lastMarks [op,op'] [b,c]=false:=by with_unfolding_all rfl):PT X (.Compare a [op,op'] [b,c] pos) (Q9 (zau r r' ta tb tc)):=by
 intro pins s σ H Q I h
 refine isTrue_chain (thn (ha pins s σ H _ I h) λv s1 ⟨x,H1,I1,r1,q1⟩=>test_link (thn (hb pins s1 σ H1 _ I1 q1) λu s2 ⟨y,H2,I2,r2,q2⟩ =>
  thn (ho pins s2 σ H2 x y v u _ I2 r1 r2 q2) λd s3 ⟨z,H3,I3,r3,k,e,q3⟩=>?_)) hm
 subst e
 cases r3
 refine wpAny_truthy_bool ?_
 cases k with
 | false =>
  obtain⟨k',e',q'⟩:=q3
  cases e'
  exact ite_ff ⟨H3,I3,q'⟩
 | true =>
  refine ite_tt (test_last (thn (hc pins s3 σ H3 _ I3 q3) λw' s4 ⟨z',H4,I4,r4,q4⟩=>thn (ho' pins s4 σ H4 y z' u w' _ I4 r2 r4 q4) λd' s5 ⟨z2,H5,I5,r5,k2,e2,q5⟩=>?_))
  subst e2
  cases r5
  exact wpAny_truthy_bool ⟨H5,I5,q5⟩
def zaF (K:PySem.W.Frag) (x:V) (H:Hp) (k:Bool):Prop :=
 match x with
 | .non=>k=false
 | .bl b=>k=b
 | .int i=>k=(i != 0)
 | .str y=>y.length<=sizeLine/\k=((y.length:Int) != 0)
 | .byt y=>y.size<=sizeLine/\k=((y.size:Int) != 0)
 | .ref p=>(∃xs,SqL K H p xs/\k = !xs.isEmpty)\/(∃xs,SqT K H p xs/\k = !xs.isEmpty)\/∃kvs,H p=some (.dK kvs)/\k = !kvs.isEmpty
 | _=>False
theorem ZN {κ:Type}{kvs:List (κ×V)}{vs:List (κ×Value)} (r:KV kvs vs):(!vs.isEmpty) = !kvs.isEmpty:=by
 cases r <;> rfl
theorem jm {xs:List V}{its:List Value}(r:zS xs its):(!its.toArray.isEmpty) = !xs.isEmpty:=by
 cases r <;> simp
theorem vg:(sizeLine:Nat)<2^63:=by rw[sizeLine_eq];decide
theorem zaz:TruR X (λx H Q=>∃k,zaF X.K x H k/\Q k H):=by
 intro pins s σ H x v Q I rx h
 obtain⟨k,e,q⟩:=h
 have hl:=vg
 have hs:sizeLine=16777216:=sizeLine_eq
 cases x with
 | non =>
  cases rx
  have e':k=false:=e
  subst e'
  exact truthy_none ⟨H,I,q⟩
 | bl b =>
  cases rx
  have e':k=b:=e
  subst e'
  exact wpAny_truthy_bool ⟨H,I,q⟩
 | int i =>
  obtain⟨t,rfl⟩:=rx
  have e':k=(i != 0):=e
  subst e'
  exact PySem.P.truthy_int ⟨H,I,q⟩
 | str y =>
  obtain⟨t,rfl⟩:=rx
  obtain⟨hy,e'⟩:y.length<=sizeLine/\k=((y.length:Int) != 0):=e
  subst e'
  exact PySem.P.truthy_str (by omega) ⟨H,I.tok _,q⟩
 | byt y =>
  obtain⟨t,rfl⟩:=rx
  obtain⟨hy,e'⟩:y.size<=sizeLine/\k=((y.size:Int) != 0):=e
  subst e'
  exact PySem.W.truthy_bytes (by omega) ⟨H,I.tok _,q⟩
 | ref p =>
  cases rx
  have e':(∃xs,SqL X.K H p xs/\k = !xs.isEmpty)\/(∃xs,SqT X.K H p xs/\k = !xs.isEmpty)\/∃kvs,H p=some (.dK kvs)/\k = !kvs.isEmpty:=e
  rcases e' with⟨xs,hx,e'⟩ | ⟨xs,hx,e'⟩ | ⟨kvs,hx,e'⟩
  ·subst e'
   obtain⟨its,r,pl,hz⟩:=I.list hx
   have hlen:=r.length
   exact wpAny_truthy_list pl.isList (by simp only[List.size_toArray];omega) ⟨H,I.tok _,by rw[jm r];exact q⟩
  ·subst e'
   obtain⟨its,r,pl,hz⟩:=I.tuple hx
   have hlen:=r.length
   exact truthy_tuple pl (by simp only[List.size_toArray];omega) ⟨H,I.tok _,by rw[jm r];exact q⟩
  ·subst e'
   obtain⟨hz,hS,vs,r,m⟩:kvs.length<=sizeLine/\(p == sysModules)=false/\∃vs,KV kvs vs/\s.heap.DictOf (Zb X.prog X.w) p vs:=I.hok p _ hx
   have hlen:kvs.length=vs.length:=Paired.length r
   exact wpAny_truthy_dict hS m (by omega) ⟨H,I.tok _,by rw[ZN r];exact q⟩
 | _=>exact(show False from e).elim
theorem xi (ha:PE X a ta) (he:∀whole,isTrue a X.env whole=(do let v <-whole;standAt a.pos;holding [v] (truthy v))) :
  PT X a (λσ H Q=>ta σ H λx H'=>∃k,zaF X.K x H' k/\Q k H'):=by
 intro pins s σ H Q I h
 exact isTrue_plain (thn (ha pins s σ H _ I h) λv s1 ⟨x,H1,I1,r1,q1⟩=>zaz pins s1 σ H1 x v Q I1 r1 q1) (he _)
theorem zL:OpR X (binaryOp .Add) (λx y H Q=>∃i j,x = .str i/\y = .str j/\i.length+j.length<=sizeLine/\Q (.str (i++j)) H):=by
 intro pins s σ H x y v u Q I rx ry h
 obtain⟨i,j,rfl,rfl,hz,q⟩:=h
 obtain⟨t,rfl⟩:=rx
 obtain⟨t',rfl⟩:=ry
 exact add_str (λt' tk=>⟨.str (i++j),H,I.tok _,⟨_,rfl⟩,q⟩) hz
theorem qK {x:V}{us:List Value}(r:zS [x] us):∃u,us=[u]/\xf x u:=by
 cases r with
 | cons r1 r2=>cases r2;exact⟨_,rfl,r1⟩
theorem Jl {x y:V}{us:List Value}(r:zS [x,y] us):∃u w',us=[u,w']/\xf x u/\xf y w':=by
 cases r with
 | cons r1 r2 =>
  cases r2 with
  | cons r3 r4=>cases r4;exact⟨_,_,rfl,r1,r3⟩
theorem jj:qQ X (.builtin "abs") (λxs H Q=>∃i,xs=[.int i]/\Q (.int (if i<0 then -i else i)) H):=by
 intro pins s σ H xs us Q I r h
 obtain⟨i,rfl,q⟩:=h
 obtain⟨u,rfl,t,rfl⟩:=qK r
 exact call_abs_int λu tk=>⟨.int (if i<0 then -i else i),H,I.tok _,⟨_,rfl⟩,q⟩
theorem XM (hc:X.calm=true):qQ X (.builtin "max") (λxs H Q=>∃i j,xs=[.int i,.int j]/\Q (.int (if j>i then j else i)) H):=by
 intro pins s σ H xs us Q I r h
 obtain⟨i,j,rfl,q⟩:=h
 obtain⟨u,w',rfl,⟨t,rfl⟩,⟨t',rfl⟩⟩:=Jl r
 refine max_two_ints (I.ok.hd hc) λh' tk k=>⟨_,H,I.kept k,?_,q⟩
 by_cases hj:j>i
 ·rw[if_pos hj,if_pos hj];exact⟨_,rfl⟩
 ·rw[if_neg hj,if_neg hj];exact⟨_,rfl⟩
theorem vP:qQ X (.type "int") (λxs H Q=>(∃i,xs=[.int i]/\Q (.int i) H)\/∃k,xs=[.bl k]/\Q (.int (if k then 1 else 0)) H):=by
 intro pins s σ H xs us Q I r h
 rcases h with⟨i,rfl,q⟩ | ⟨k,rfl,q⟩
 ·obtain⟨u,rfl,t,rfl⟩:=qK r
  exact call_int_int ⟨.int i,H,I,⟨_,rfl⟩,q⟩
 ·obtain⟨u,rfl,r1⟩:=qK r
  cases r1
  exact call_int_bool ⟨.int (if k then 1 else 0),H,I.tok _,⟨_,rfl⟩,q⟩
theorem j4:qQ X (.type "str") (λxs H Q=>∃i,xs=[.int i]/\i.natAbs.log2<1920/\Q (.str (toString i)) H):=by
 intro pins s σ H xs us Q I r h
 obtain⟨i,rfl,hz,q⟩:=h
 obtain⟨u,rfl,t,rfl⟩:=qK r
 exact PySem.P.str_of_int hz ⟨.str _,H,I.tok _,⟨_,rfl⟩,q⟩
end
end L2
namespace L2
open PySem PySem.Spec PyProof.Rows
structure Jn (h:Heap) (x dx C:Addr) (mA:Str->Option Value):Prop where
 obj:h.get? x=some (PySem.W.instObj C dx)
 ns:h.Ns1 dx mA
 ne:dx≠x
theorem XT {h:Heap}{dx:Addr}{mA:Str->Option Value}(n:h.Ns1 dx mA):∃od,h.get? dx=some od/\∀name,PySem.W.lookIn name od=some (mA name):=by
 obtain⟨o,es,ep,ho,hd,hk,_,hm⟩:=n
 refine⟨o,ho,λname=>?_⟩
 have e:=hm name
 unfold nsFind findBy at e
 rw[<-Array.find?_toList]at e
 unfold PySem.W.lookIn
 rw[hd]
 dsimp only
 split
 ·rename_i y q
  rw[q]at e
  exact congrArg some e
 ·rename_i q
  rw[q]at e
  have a:es.toList.any (·.refKey)=false:=by
   rw[List.any_eq_false]
   intro y hy
   obtain⟨z,t,hkey⟩:=hk y (Array.mem_toList_iff.mp hy)
   simp[DictEntry.refKey,hkey]
  have a':¬es.toList.any (·.refKey)=true:=by rw[a];exact Bool.false_ne_true
  rw[if_neg a']
  exact congrArg some e
theorem Jn.look {h:Heap}{x dx C:Addr}{mA:Str->Option Value}(I:Jn h x dx C mA):∃od,PySem.W.InstAt h x (PySem.W.instObj C dx) C (some od)/\∀name,PySem.W.lookIn name od=some (mA name) :=
 let ⟨od,ho,hl⟩:=XT I.ns
 ⟨od,⟨I.obj,rfl,rfl,ho⟩,hl⟩
section
variable {P:Program}{w:World}{H H':Hp}{h h':Heap}{a C dx:Addr}{fs fs':List (Str×V)}
theorem Vo (hok:HOk P w H h) (e:H a=some (.ins C dx fs)):∃mA,Jn h a dx C mA/\(∀f,Jp (fs.lookup f) (mA f))/\PySem.Within mA (fs.map (·.1))/\fs.length<=1000/\H dx=some (.own a):=by
 obtain⟨d,z,ne,ob,mA,n,r,q⟩:=(show xC P w H h a (.ins C dx fs)from hok a _ e)
 exact⟨mA,⟨ob,n,ne⟩,r,q,z,d⟩
end
structure Cls (K:PySem.W.Frag) (C:Addr):Prop where
 pg:PySem.W.plainGet K C Str.empty=true
 hd:PySem.W.hasDictIn K C=true
 po:PySem.W.plainOver K C=true
 sa:PySem.W.findIn K (.ref C) "__setattr__" = some (some (.builtin "object.__setattr__"))
theorem Cls.get {K:PySem.W.Frag}{C:Addr}(c:Cls K C) (f:Str):PySem.W.plainGet K C f=true:=c.pg
section
variable {X:Cx}{pins:List (Addr×Obj)}{σ:St}{H:Hp}{s:Shared}{A:Around}{E:Value->Shared->Prop}{Q:Value->Shared->Prop}{c:Value}{b:Bool}
inductive vN (K:PySem.W.Frag) (H:Hp):V->Value->Prop where
 | non:vN K H .non (.type "NoneType")
 | bl (x:Bool):vN K H (.bl x) (.type "bool")
 | int (i:Int):vN K H (.int i) (.type "int")
 | str (x:Str):vN K H (.str x) (.type "str")
 | flt (x:UInt64):vN K H (.flt x) (.type "float")
 | lst {a:Addr}{xs:List V}(e:H a=some (.lst xs)):vN K H (.ref a) (.type "list")
 | frz {a:Addr}{o:Obj}{xs:List V}(e:H a=some (.frz o (.lst xs))):vN K H (.ref a) (.type "list")
 | tup {a:Addr}{xs:List V}(e:H a=some (.tup xs)):vN K H (.ref a) (.type "tuple")
 | dK {a:Addr}{kvs:List (Key×V)} (e:H a=some (.dK kvs)):vN K H (.ref a) (.type "dict")
 | dT {a:Addr}{kvs:List (List Key×V)} (e:H a=some (.dT kvs)):vN K H (.ref a) (.type "dict")
 | ins {a C dx:Addr}{fs:List (Str×V)} (e:H a=some (.ins C dx fs)) (cl:Cls K C) (ha:PySem.W.findIn K (.ref C) "__class__" = some (some (.builtin "object.__class__")))
   (hn:PySem.W.specialIn K (.builtin "object.__class__") "__get__" = some (some (.builtin "getset_descriptor.__get__"))) (htk:PySem.W.takesIn K (.builtin "object.__class__")=some true)
   (hm:PySem.W.mroIn K C (.type "object")=some true):vN K H (.ref a) (.ref C)
theorem XR {x:V}{u t:Value}(I:Inv X pins σ H s) (rx:xf x u) (ty:vN X.K H x t) (e:PySem.W.kitOne X.K t c=some b) (h:∀tk,Q (.bool b) { s with toks:=tk }) :
  wpAny (model X.prog X.w) A (call (.builtin "isinstance") [u,c]) Q E s:=by
 cases ty with
 | non=>cases(show u=Value.none from rx);exact PySem.W.kia_one PySem.W.kitx_none I.kIn True.intro e (λz=>nomatch z) h
 | bl y=>cases(show u=Value.bool y from rx);exact PySem.W.kia_one PySem.W.kitx_bool I.kIn True.intro e (λz=>nomatch z) h
 | int i=>obtain⟨t,q⟩:=(show ∃t,u=Value.int i t from rx);cases q;exact PySem.W.kia_one PySem.W.kitx_int I.kIn True.intro e (λz=>nomatch z) h
 | str y=>obtain⟨t,q⟩:=(show ∃t,u=Value.str y t from rx);cases q;exact PySem.W.kia_one PySem.W.kitx_str I.kIn True.intro e (λz=>nomatch z) h
 | flt y=>obtain⟨t,q⟩:=(show ∃t,u=Value.float y t from rx);cases q;exact PySem.W.kia_one PySem.W.kitx_float I.kIn True.intro e (λz=>nomatch z) h
 | @lst a xs ea =>
  cases(show u=Value.ref a from rx)
  obtain⟨_,_,n,_,h1⟩:=(show xC X.prog X.w H s.heap a (.lst xs)from I.hok a _ ea)
  exact PySem.W.kia_one PySem.W.kitx_list I.kIn ⟨_,h1,rfl⟩ e (λz=>nomatch z) h
 | @frz a ob xs ea =>
  cases(show u=Value.ref a from rx)
  obtain⟨_,_,_,n,_,h1⟩:=(show xC X.prog X.w H s.heap a (.frz ob (.lst xs))from I.hok a _ ea)
  exact PySem.W.kia_one PySem.W.kitx_list I.kIn ⟨_,h1,rfl⟩ e (λz=>nomatch z) h
 | @tup a xs ea =>
  cases(show u=Value.ref a from rx)
  obtain⟨_,_,_,p⟩:=(show xC X.prog X.w H s.heap a (.tup xs)from I.hok a _ ea)
  obtain⟨o,h1,h2,_⟩:=p
  exact PySem.W.kia_one PySem.W.kitx_tuple I.kIn ⟨o,h1,h2⟩ e (λz=>nomatch z) h
 | @dK a kvs ea =>
  cases(show u=Value.ref a from rx)
  obtain⟨_,_,vs,_,p⟩:=(show xC X.prog X.w H s.heap a (.dK kvs)from I.hok a _ ea)
  obtain⟨o,es,ep,h1,h2,_⟩:=p
  exact PySem.W.kia_one PySem.W.kitx_dict I.kIn ⟨o,h1,h2.1⟩ e (λz=>nomatch z) h
 | @dT a kvs ea =>
  cases(show u=Value.ref a from rx)
  obtain⟨_,_,xs,_,o,es,ep,h1,h2,_⟩:=(show xC X.prog X.w H s.heap a (.dT kvs)from I.hok a _ ea)
  exact PySem.W.kia_one PySem.W.kitx_dict I.kIn ⟨o,h1,h2.1⟩ e (λz=>nomatch z) h
 | @ins a C dx fs ea cl ha hn htk hm =>
  cases(show u=Value.ref a from rx)
  obtain⟨mA,O,_⟩:=Vo I.hok ea
  obtain⟨od,J,_⟩:=O.look
  exact PySem.W.kia_one (PySem.W.kitx_own (cl.get _) cl.hd ha hn htk hm) I.kIn J e (λz=>nomatch z) h
end
end L2
namespace L2
open PySem PySem.Spec PyProof.Rows
structure xk (k:Nat) (A:Around):Prop where
 hd:A.handled=none
 dp:A.depth+3*k+5<recursionLimit
 un:A.units+16*k+200<cLine
theorem xk.mono {j k:Nat}{A:Around}(r:xk k A) (h:j<=k):xk j A:=⟨r.hd,by have:=r.dp;omega,by have:=r.un;omega⟩
theorem xk.deeper {k:Nat}{A:Around}(r:xk (k+1) A) (env:Env):xk k (A.deeper env) :=
 ⟨r.hd,by have:=r.dp;show A.depth+1+3*k+5<_;omega,by have:=r.un;show A.units+3+16*k+200<_;omega⟩
theorem xk.depth {k:Nat}{A:Around}(r:xk k A):A.depth<recursionLimit:=by have:=r.dp;omega
theorem xk.units {k:Nat}{A:Around}(r:xk k A):A.units+64<cLine:=by have:=r.un;omega
def ZJ:TA:=λ_ H Q=>Q [] H
def q0 (ta:TE) (tr:TA):TA:=λσ H Q=>ta σ H λx H1=>tr σ H1 λxs H2=>Q (x::xs) H2
section
variable {X:Cx}{e:Expr}{es:List Expr}{te:TE}{t:TA}{pos:Pos}
theorem zf:PA X [] ZJ:=λ_ _ _ _ H Q I h=>Calls.spliced_nil ⟨[],H,I,.nil,h⟩
theorem zd (ha:PE X e te) (hr:PA X es t) (hs:starEach (e::es) X.env=(false,eval e X.env)::starEach es X.env:=by rfl):PA X (e::es) (q0 te t):=by
 intro pos pins s σ H Q I h
 rw[hs]
 show wpAny _ _ (spliced ((false,eval e X.env)::backTo pos (starEach es X.env))) _ _ s
 refine Calls.spliced_cons (thn (ha pins s σ H _ I h) λu s1 ⟨x,H1,I1,r1,q1⟩=>?_)
 exact thn (hr pos pins s1 σ H1 _ I1 q1) λus s2 ⟨xs,H2,I2,r2,q2⟩=>⟨x::xs,H2,I2,.cons r1 r2,q2⟩
def zay (t:TA):TE:=λσ H Q=>t σ H λxs H1=>xs.length<=sizeLine/\∀p,H1 p=none->Q (.ref p) (upd H1 p (.tup xs))
def zav (t:TA):TE:=λσ H Q=>t σ H λxs H1=>xs.length<=sizeLine/\∀p,H1 p=none->Q (.ref p) (upd H1 p (.lst xs))
theorem xz {x1} (h:PA X es t):PE X (.Tuple es x1 pos) (zay t):=by
 intro pins s σ H Q I hq
 refine wpAny_Tuple_spliced (thn (h pos pins s σ H _ I hq) λus s1 ⟨xs,H1,I1,r,z,q⟩=>⟨by rw[<-r.length];exact z,?_⟩)
 have hf:H1 s1.heap.objs.size=none:=I1.hok.fresh (Nat.le_refl _)
 refine⟨.ref s1.heap.objs.size,upd H1 s1.heap.objs.size (.tup xs),I1.laid (t':=s1.toks) (λb u e=>Heap.get?_push_of_some _ e) (Nat.le_refl _) ?_,rfl,q _ hf⟩
 exact⟨z,us,r,⟨_,Heap.get?_push_size _ rfl,rfl,_,rfl⟩⟩
theorem xF (h:PA X es t):PE X (.List es pos) (zav t):=by
 intro pins s σ H Q I hq
 refine wpAny_List_spliced (thn (h pos pins s σ H _ I hq) λus s1 ⟨xs,H1,I1,r,z,q⟩=>⟨by rw[<-r.length];exact z,?_⟩)
 have hf:H1 s1.heap.objs.size=none:=I1.hok.fresh (Nat.le_refl _)
 refine⟨.ref s1.heap.objs.size,upd H1 s1.heap.objs.size (.lst xs),I1.laid (t':=s1.toks) (λb u e=>Heap.get?_push_of_some _ e) (Nat.le_refl _) ?_,rfl,q _ hf⟩
 exact⟨z,us,0,r,Heap.get?_push_size _ rfl⟩
end
abbrev Sp:=List V->Hp->VK->XK->Prop
abbrev CXT:=List Env->Hp->Shared->XK->Value->Shared->Prop
structure Vg (P:Program) (w:World) (K:PySem.W.Frag) (mg:Str->Option Value) (base:Heap) (A:Around) (outer:List Env) (s:Shared) (H:Hp):Prop where
 frames:A.frames=some outer
 mod:Mod K mg base
 bs:∀b o,base.get? b=some o->s.heap.get? b=some o/\H b=none
 bsz:base.objs.size<=s.heap.objs.size
 funs:s.heap.FunFrames base outer
 frf:∀b∈frs outer,H b=none
 hok:HOk P w H s.heap
 bare:AllBare s.gens
def CE (outer:List Env) (P:Program) (w:World) (H:Hp) (s:Shared) (Q:VK) (u:Value) (s':Shared):Prop :=
 ∃v H',s'.os=s.os/\AllBare s'.gens/\Un (frs outer) [] H H' s.heap s'.heap/\HOk P w H' s'.heap/\xf v u/\Q v H'
def CR (CX:CXT) (outer:List Env) (P:Program) (w:World) (H:Hp) (s:Shared) (Q:VK) (E:XK) (r:Result) (s':Shared):Prop :=
 match r with
 | .ok (.ret u)=>CE outer P w H s Q u s'
 | .ok _=>False
 | .error e=>CX outer H s E e s'
structure v5 (P:Program) (w:World) (K:PySem.W.Frag) (mg:Str->Option Value) (base:Heap) (CX:CXT) (k:Nat) (f:Addr) (fd:FuncData) (ps:List Str) (sp:Sp):Prop where
 len:∀vs H Q E,sp vs H Q E->vs.length=ps.length
 run:∀(A:Around) (outer:List Env) (s:Shared) (H:Hp) (args:Args) (us:List Value) (vs:List V) (Q:VK) (E:XK),xk k A->Vg P w K mg base A outer s H->BindsTo s fd args (ps.zip us)->zS vs us->sp vs H Q E →
  codeAny (model P w) A (.call (.ref f) args) (CR CX outer P w H s Q E) s
section
variable {X:Cx}{pins:List (Addr×Obj)}{σ:St}{H:Hp}{s s':Shared}
theorem Inv.env0 (I:Inv X pins σ H s):Vg X.prog X.w X.K X.mg X.base X.A X.stack s H :=
 ⟨I.ok.frames,I.ok.mod,I.bs,Nat.le_trans I.ok.bsz I.sz,I.stack,I.stkFree,I.hok,I.bare⟩
theorem Inv.after {Q:VK}{u:Value}(I:Inv X pins σ H s) (h:CE X.stack X.prog X.w H s Q u s'):EP X pins σ Q u s':=by
 obtain⟨v,H',os,bare,un,hok,r,q⟩:=h
 obtain⟨hh,g,d,t,os'⟩:=s'
 obtain rfl:os'=s.os:=os
 exact⟨v,H',I.call (h':=hh) (g':=g) (d':=d) (t':=t) (ch:=[]) un hok bare (λb z=>absurd z (by simp)),r,q⟩
end
def Q7 (sp:Sp) (dvs:List V) (E:XK) (t:TA):TE:=λσ H Q=>t σ H λvs H1=>sp (vs++dvs) H1 Q E
def v0 (K:PySem.W.Frag) (fd:FuncData) (ps:List Str) (ds:List Value):Prop :=
 ∀(s:Shared) (us:List Value),K.In s.heap->(us++ds).length=ps.length->BindsTo s fd ⟨us,[]⟩ (ps.zip (us++ds))
theorem v0.all {K:PySem.W.Frag}{fd:FuncData}{ps:List Str}(h:∀us:List Value,us.length=ps.length->bindArgs fd ⟨us,[]⟩=pure (ps.zip us)):v0 K fd ps []:=λs us _ hl=>by
 rw[List.append_nil]at hl ⊢
 exact .of_eq (h us hl)
def ZK (CX:CXT) (X:Cx) (E:XK):Prop:=∀(pins:List (Addr×Obj)) (σ:St) (H:Hp) (s:Shared) (e:Value) (s':Shared),Inv X pins σ H s->CX X.stack H s E e s'->X.xe e s'
section
variable {X:Cx}{CX:CXT}{k:Nat}{f C:Addr}{fd:FuncData}{ps:List Str}{sp:Sp}{dvs:List V}{ds:List Value}{E:XK}{x m:Str}{p pos apos:Pos}{e o:Expr}{es:List Expr}{ta:TE}{t:TA}
theorem zai {pins:List (Addr×Obj)}{σ:St}{H:Hp}{s:Shared}{Q:VK}{us:List Value}{vs:List V}(F:v5 X.prog X.w X.K X.mg X.base CX k f fd ps sp) (hr:xk k X.A) (hb:v0 X.K fd ps ds) (hd:zS dvs ds) (hx:ZK CX X E)
  (I:Inv X pins σ H s) (r:zS vs us) (h:sp (vs++dvs) H Q E):wpAny (model X.prog X.w) X.A (call (.ref f) us) (EP X pins σ Q) X.xe s:=by
 have r2:zS (vs++dvs) (us++ds):=r.append hd
 have hl:(us++ds).length=ps.length:=by rw[<-r2.length];exact F.len _ _ _ _ h
 refine wpAny_call (codeAny_mono (F.run X.A X.stack s H ⟨us,[]⟩ (us++ds) (vs++dvs) Q E hr I.env0 (hb s us I.kIn hl) r2 h) λr s' hq=>?_)
 cases r with
 | error e=>exact hx pins σ H s e s' I hq
 | ok fl =>
  cases fl with
  | ret u=>exact I.after hq
  | next=>exact False.elim hq
  | brk=>exact False.elim hq
  | cont=>exact False.elim hq
theorem VO (F:v5 X.prog X.w X.K X.mg X.base CX k f fd ps sp) (hr:xk k X.A) (hg:Gl X x) (hm:X.mg x=some (.ref f)) (hk:PySem.W.keepIn X.K (.ref f)=true) (hb:v0 X.K fd ps ds) (hd:zS dvs ds) (hx:ZK CX X E)
  (ha:PA X (e::es) t) (hdb:(x == ("__debug__":Str))=false:=by decide) (he:starEach (e::es) X.env=(false,eval e X.env)::starEach es X.env:=by rfl) (hpl:(backTo pos (starEach es X.env)).any (·.1)=false:=by rfl) :
  PE X (.Call (.Name x p) (e::es) [] pos) (Q7 sp dvs E t):=by
 intro pins s σ H Q I h
 refine wpAny_Call_Name_kw (vq I hg hm ?_ hdb)
 refine PySem.W.callWith_K (h₀:=X.base) I.ok.mod.kin hk (thn (ha pos pins s σ H _ I h) λus s1 ⟨vs,H1,I1,r,q⟩=>⟨I1.kIn,?_⟩) he hpl
 exact zai F hr hb hd hx I1 r q
end
structure zC (N P:List Str) (sc:Scope):Prop where
 kind:sc.kind = .function
 co:sc.isCoroutine=false
 gen:sc.isGenerator=false
 nd:N.Nodup
 pre:N.take P.length=P
 par:∀x∈P,sc.names.lookup x=some .local ∨ sc.names.lookup x=some .cell
 nofree:∀y∈sc.names,y.2≠.free
theorem jP {kindOf:Str->Option NameKind}{x:Str}:∀{binds:List (Str×Value)}{m:Str->Option Value},(∀v,(x,v)∉binds)->bindL kindOf binds m x=m x
 | [],_,_=>rfl
 | (n,v)::r,m,h=>by
  unfold bindL
  rw[jP λw hw=>h w (List.mem_cons_of_mem _ hw)]
  split
  ·have:x≠n:=by rintro rfl;exact h v List.mem_cons_self
   simp[this]
  ·rfl
theorem jN {kindOf:Str->Option NameKind}{x:Str}:∀{binds:List (Str×Value)}{m:Str->Option Value},(∀v,(x,v)∉binds)->bindC kindOf binds m x=m x
 | [],_,_=>rfl
 | (n,v)::r,m,h=>by
  unfold bindC
  rw[jN λw hw=>h w (List.mem_cons_of_mem _ hw)]
  split
  ·rfl
  ·have:x≠n:=by rintro rfl;exact h v List.mem_cons_self
   simp[this]
theorem jO {kindOf:Str->Option NameKind}{x:Str}{v:Value}:∀{P:List Str}{vs:List Value}{i:Nat}{m:Str->Option Value},P.Nodup->P[i]? = some x->vs[i]? = some v->kindOf x=some .local →
  bindL kindOf (P.zip vs) m x=some v
 | [],_,_,_,_,h,_,_=>by simp at h
 | _::_,[],_,_,_,_,h,_=>by simp at h
 | p::P,w::vs,0,m,nd,h1,h2,hk=>by
  simp at h1 h2;subst h1;subst h2
  show bindL kindOf ((p,w)::P.zip vs) m p=_
  unfold bindL
  rw[jP λv hv=>(List.nodup_cons.mp nd).1 (List.of_mem_zip hv).1,if_pos hk]
  simp
 | p::P,w::vs,i+1,m,nd,h1,h2,hk=>by
  show bindL kindOf ((p,w)::P.zip vs) m x=_
  unfold bindL
  exact jO (i:=i) (List.nodup_cons.mp nd).2 (by simpa using h1) (by simpa using h2) hk
theorem jM {kindOf:Str->Option NameKind}{x:Str}{v:Value}:∀{P:List Str}{vs:List Value}{i:Nat}{m:Str->Option Value},P.Nodup->P[i]? = some x->vs[i]? = some v->kindOf x≠some .local →
  bindC kindOf (P.zip vs) m x=some v
 | [],_,_,_,_,h,_,_=>by simp at h
 | _::_,[],_,_,_,_,h,_=>by simp at h
 | p::P,w::vs,0,m,nd,h1,h2,hk=>by
  simp at h1 h2;subst h1;subst h2
  show bindC kindOf ((p,w)::P.zip vs) m p=_
  unfold bindC
  rw[jN λv hv=>(List.nodup_cons.mp nd).1 (List.of_mem_zip hv).1,if_neg hk]
  simp
 | p::P,w::vs,i+1,m,nd,h1,h2,hk=>by
  show bindC kindOf ((p,w)::P.zip vs) m x=_
  unfold bindC
  exact jM (i:=i) (List.nodup_cons.mp nd).2 (by simpa using h1) (by simpa using h2) hk
def qR (N:List Str) (vs:List V):St:=vs.map some++List.replicate (N.length - vs.length) none
def qT (CX:CXT) (P:Program) (w:World) (K:PySem.W.Frag) (mg:Str->Option Value) (base:Heap) (N:List Str) (qual:Str) (scope:Scope) (f:Addr) (cd:Value) (A:Around) (outer:List Env) (s:Shared) (H:Hp) (E:XK):Cx where
 prog:=P
 w:=w
 K:=K
 mg:=mg
 base:=base
 A:=A.deeper (envOfC qual scope s.heap.objs.size f cd)
 N:=N
 s₀:=s
 H₀:=H
 env:=envOfC qual scope s.heap.objs.size f cd
 outer:=outer
 stack:=envOfC qual scope s.heap.objs.size f cd::outer
 ex:=[]
 calm:=true
 fn:=λ_=>true
 pn:=[]
 xe:=λe s'=>wpAny (model P w) (A.deeper (envOfC qual scope s.heap.objs.size f cd)) (leaving (envOfC qual scope s.heap.objs.size f cd) e) (λ_ s''=>CX outer H s E e s'') (λe' s''=>CX outer H s E e' s'') s'
theorem Zr {sc:Scope}{n:Nat}{x:Str}(h:sc.names.lookup x=some .cell):∃c,(cellsFrom n sc.names []).lookup x=some c:=by
 have q:=PySem.W.cellsFrom_some sc.names n [] (.inl h)
 exact Option.isSome_iff_exists.mp q
theorem XQ {CX:CXT}{P:Program}{w:World}{K:PySem.W.Frag}{mg:Str->Option Value}{base:Heap}{N ps:List Str}{qual:Str}{scope:Scope}{f:Addr}{cd:Value}{A:Around}{outer:List Env}{s s1:Shared}{H:Hp}{E:XK}{us:List Value}{vs:List V}
  (S:zC N ps scope) (hd:A.handled=none) (e0:Vg P w K mg base A outer s H) (hl:vs.length=ps.length) (r:zS vs us)
  (x:InCallC s s.heap.objs.size (bindL (envOfC qual scope s.heap.objs.size f cd).kindOf (ps.zip us) λ_=>none) (cellsFrom (s.heap.objs.size+1) scope.names []) (bindC (envOfC qual scope s.heap.objs.size f cd).kindOf (ps.zip us) λ_=>none) s1) :
  Inv (qT CX P w K mg base N qual scope f cd A outer s H E) [] (qR N vs) H s1:=by
 have hpl:ps.length<=N.length:=by have:=congrArg List.length S.pre;rw[List.length_take]at this;omega
 obtain⟨h1,tk,rfl,hk⟩:=x.done
 have noA:∀b:Addr,b∉(qT CX P w K mg base N qual scope f cd A outer s H E).ex:=λb z=>absurd (show b∈([]:List Addr)from z) (by simp)
 refine⟨⟨e0.mod,S.kind,rfl,rfl,Nat.le_refl _,λy z c h1 h2=>?_,λy hy=>?_,λy c _ h=>?_,λ_=>hd,Around.frames_deeper e0.frames,.inr ⟨rfl,rfl⟩,λb z=>absurd z (noA b),e0.bs,e0.bsz,λb _ _=>noA b,λb z=>absurd z (noA b),e0.funs,e0.frf⟩,
  rfl,e0.bare,Un.kept hk,⟨_,x.toInCall.ns,λi y v h1 h2 h3=>?_⟩,λy c h=>⟨_,x.cell y c h⟩,e0.hok.fresh (Nat.le_refl _),λy c h=>?_,λp hp=>absurd (show p∈([]:List (Addr×Obj))from hp) (by simp),e0.hok.kept hk,?_⟩
 ·exact name_of_addr x.apart (PySem.mem_of_lookup h1) (PySem.mem_of_lookup h2)
 ·have hy:scope.names.lookup y=some .cell\/scope.names.lookup y=some .free:=hy
  rcases hy with hy | hy
  ·exact Zr hy
  ·exact absurd rfl (S.nofree _ (PySem.mem_of_lookup hy))
 ·exact Nat.le_of_lt (x.above y c (PySem.mem_of_lookup h))
 ·have hi:i<vs.length:=by
   unfold qR at h2
   by_cases hi:i<vs.length
   ·exact hi
   ·rw[List.getElem?_append_right (by simpa using hi)]at h2
    rw[List.getElem?_replicate]at h2
    split at h2 <;> cases h2
  have ha:vs[i]? = some v:=by
   unfold qR at h2
   rw[List.getElem?_append_left (by simpa using hi),List.getElem?_map]at h2
   cases e:vs[i]? with
   | none=>rw[e]at h2;cases h2
   | some a=>rw[e]at h2;cases h2;rfl
  obtain⟨u,hu,rv⟩:=r.get ha
  have hp:ps[i]? = some y:=by
   rw[<-S.pre,List.getElem?_take_of_lt (by omega)];exact h1
  have ndP:ps.Nodup:=by rw[<-S.pre];exact S.nd.sublist (List.take_sublist _ _)
  refine⟨u,rv,?_⟩
  rcases S.par y (List.mem_of_getElem? hp)with k | k
  ·exact .inl ⟨k,jO ndP hp hu k⟩
  ·obtain⟨c,e⟩:=Zr (n:=s.heap.objs.size+1) k
   refine .inr ⟨.inl k,c,e,?_⟩
   have q:=x.cell y c e
   rw[jM ndP hp hu (by show scope.names.lookup y≠_;rw[k];decide)]at q
   exact q
 ·exact e0.hok.fresh (Nat.le_of_lt (x.above y c (PySem.mem_of_lookup h)))
 ·unfold qR
  show _=N.length
  rw[List.length_append,List.length_map,List.length_replicate]
  omega
theorem Qq {CX:CXT}{P:Program}{w:World}{K:PySem.W.Frag}{mg:Str->Option Value}{base:Heap}{k:Nat}{f:Addr}{name qual:Str}{params:Arguments}{body:List Stmt}{scope:Scope}{dV kV doc pm cdv ct oc:Value}{an od:Option Addr}
  {osl:Array (Option Value)}{N ps:List Str}{sp:Sp}(lk:K.lookup f=some ⟨oc,od,.func (PySem.W.fnOf name qual params body scope dV kV doc pm an cdv ct),osl⟩) (hcd:PySem.W.codeIn K cdv qual=true) (S:zC N ps scope)
  (len:∀vs H Q E,sp vs H Q E->vs.length=ps.length)
  (hbody:∀(A:Around) (outer:List Env) (s:Shared) (H:Hp) (vs:List V) (Q:VK) (E:XK),xk k (A.deeper (envOfC qual scope s.heap.objs.size f cdv))->sp vs H Q E →
   ∃t,PSs (qT CX P w K mg base N qual scope f cdv A outer s H E) body t/\t { nx:=λ_ H'=>Q .non H',rt:=Q } (qR N vs) H) :
  v5 P w K mg base CX (k+1) f (PySem.W.fnOf name qual params body scope dV kV doc pm an cdv ct) ps sp:=by
 refine⟨len,λA outer s H args us vs Q E hr e0 hb r hsp=>?_⟩
 have hl:=len _ _ _ _ hsp
 have KX:K.In s.heap:=e0.mod.kin.keeps λb o e=>(e0.bs b o e).1
 have lim:s.heap.NoLimit:=e0.mod.nolimit.keeps λb o e=>(e0.bs b o e).1
 have hkind:∀y∈ps.zip us,scope.names.lookup y.1=some .local ∨ (scope.names.lookup y.1=some .cell/\((cellsFrom (s.heap.objs.size+1) scope.names []).lookup y.1).isSome=true):=λ⟨n,v⟩ hy=>by
  rcases S.par n (List.of_mem_zip hy).1 with q | q
  ·exact .inl q
  ·exact .inr ⟨q,PySem.W.cellsFrom_some _ _ _ (.inl q)⟩
 refine codeAny_call_function hr.depth (KX _ _ lk) rfl S.co S.gen rfl (PySem.W.codeRec_of KX hcd) (hb _ _ _ _ ?_)
 refine wpAny_newFunctionEnv_cells S.kind hkind λenv he s1 x=>?_
 subst he
 refine⟨lim.keeps x.toInCall.keep,codeAny_func ?_⟩
 obtain⟨t,ht,hq⟩:=hbody A outer s H vs Q E (hr.deeper _) hsp
 have I:Inv (qT CX P w K mg base N qual scope f cdv A outer s H E) [] (qR N vs) H s1:=XQ S hr.hd e0 hl r x
 refine wpAny_mono (ht [] s1 (qR N vs) H _ I hq) (λfl s' hs=>?_) λe s' hs=>hs
 have fin:∀{σ':St}{H':Hp}{v:V}{u:Value},Inv (qT CX P w K mg base N qual scope f cdv A outer s H E) [] σ' H' s'->xf v u->Q v H'->CE outer P w H s Q u s' :=
  λ{σ' H' v u} J rv q=>⟨v,H',J.os,J.bare,J.base,J.hok,rv,q⟩
 cases fl with
 | ret u =>
  obtain⟨v,σ',H',J,rv,q⟩:=hs
  exact fin J rv q
 | next =>
  obtain⟨σ',H',J,q⟩:=hs
  exact fin (v:=V.non) (u:=Value.none) J rfl q
 | brk =>
  obtain⟨_,_,_,q⟩:=hs
  exact False.elim q
 | cont =>
  obtain⟨_,_,_,q⟩:=hs
  exact False.elim q
end L2
namespace L2
open PySem PySem.Spec PyProof.Rows
section
variable {X:Cx}{x:Str}{p pos:Pos}{e:Expr}{es:List Expr}{t:TA}{id T:String}{r:List V->Hp->VK->Prop}
def tCB (r:List V->Hp->VK->Prop) (t:TA):TE:=λσ H Q=>t σ H λvs H1=>r vs H1 Q
theorem zP (hc:qQ X (.builtin id) r) (hg:Gl X x) (hm:X.mg x=none) (hv:bootBuiltins x=some (.builtin id)) (ha:PA X (e::es) t) (hn:x≠"__name__":=by decide) (hdb:(x == ("__debug__":Str))=false:=by decide)
  (he:starEach (e::es) X.env=(false,eval e X.env)::starEach es X.env:=by rfl) (hpl:(backTo pos (starEach es X.env)).any (·.1)=false:=by rfl):PE X (.Call (.Name x p) (e::es) [] pos) (tCB r t):=by
 intro pins s σ H Q I h
 refine wpAny_Call_Name_kw (j8 I hg hm hv ?_ hn hdb)
 exact PyProof.Rows.callWith_builtin1 (thn (ha pos pins s σ H _ I h) λus s1 ⟨vs,H1,I1,r1,q1⟩=>hc pins s1 σ H1 vs us Q I1 r1 q1) he hpl
theorem x9 (hc:qQ X (.type T) r) (hg:Gl X x) (hm:X.mg x=none) (hv:bootBuiltins x=some (.type T)) (ha:PA X (e::es) t) (hn:x≠"__name__":=by decide) (hdb:(x == ("__debug__":Str))=false:=by decide)
  (he:starEach (e::es) X.env=(false,eval e X.env)::starEach es X.env:=by rfl) (hpl:(backTo pos (starEach es X.env)).any (·.1)=false:=by rfl):PE X (.Call (.Name x p) (e::es) [] pos) (tCB r t):=by
 intro pins s σ H Q I h
 refine wpAny_Call_Name_kw (j8 I hg hm hv ?_ hn hdb)
 exact PyProof.Rows.callWith_type1 (thn (ha pos pins s σ H _ I h) λus s1 ⟨vs,H1,I1,r1,q1⟩=>hc pins s1 σ H1 vs us Q I1 r1 q1) he hpl
end
end L2
namespace HT
open PySem PyProof.Rows
end HT
namespace L2
open PySem PySem.Spec PyProof.Rows
abbrev TO:=St->Hp->(Option Int->Hp->Prop)->Prop
def PO (X:Cx) (e:Option Expr) (t:TO):Prop :=
 ∀(pins:List (Addr×Obj)) (s:Shared) (σ:St) (H:Hp) (Q:Option Int->Hp->Prop),Inv X pins σ H s->t σ H Q →
  wpAny (model X.prog X.w) X.A (evalPart e X.env) (λu s'=>∃o H',Inv X pins σ H' s'/\IsPart u o/\Q o H') X.xe s
def V6:TO:=λ_ H Q=>Q none H
def zbw (t:TE):TO:=λσ H Q=>t σ H λx H1=>∃i,x = .int i/\Q (some i) H1
section
variable {X:Cx}{e:Expr}{te:TE}{lo hi:Option Expr}{tl th:TO}{pos p2:Pos}
theorem vA:PO X none V6:=by
 intro pins s σ H Q I h
 rw[evalPart_none]
 exact wpAny_pure ⟨none,H,I,.none,h⟩
theorem vB (h:PE X e te):PO X (some e) (zbw te):=by
 intro pins s σ H Q I hw
 rw[evalPart_some]
 refine thn (h pins s σ H _ I hw) λu s1 ⟨x,H1,I1,r1,q1⟩=>?_
 obtain⟨i,rfl,q⟩:=q1
 obtain⟨t,rfl⟩:=r1
 exact⟨some i,H1,I1,.int i t,q⟩
def SlR (X:Cx) (r:V->Option Int->Option Int->Hp->VK->Prop):Prop :=
 ∀(pins:List (Addr×Obj)) (s:Shared) (σ:St) (H:Hp) (x:V) (v vl vu:Value) (lo hi:Option Int) (sl:Addr) (Q:VK),Inv X pins σ H s->xf x v->s.heap.IsSliceOf sl vl vu .none->IsPart vl lo->IsPart vu hi->r x lo hi H Q →
  ∃T id,typeLookup (.type T) "__getitem__" = pure (some (.builtin id))/\s.TypeIs v T/\wpAny (model X.prog X.w) X.A (getItem v (.ref sl)) (EP X pins σ Q) X.xe s
def tSl (r:V->Option Int->Option Int->Hp->VK->Prop) (te:TE) (tl th:TO):TE:=λσ H Q=>te σ H λx H1=>tl σ H1 λl H2=>th σ H2 λu H3=>r x l u H3 Q
theorem qV {r:V->Option Int->Option Int->Hp->VK->Prop}(hr:SlR X r) (he:PE X e te) (hl:PO X lo tl) (hu:PO X hi th):PE X (.Subscript e (.Slice lo hi none p2) pos) (tSl r te tl th):=by
 intro pins s σ H Q I h
 refine Subscript_ (thn (he pins s σ H _ I h) λv s1 ⟨x,H1,I1,r1,q1⟩=>?_)
 refine wpAny_Slice (thn (hl pins s1 σ H1 _ I1 q1) λvl s2 ⟨l,H2,I2,pl,q2⟩=>thn (hu pins s2 σ H2 _ I2 q2) λvu s3 ⟨u,H3,I3,pu,q3⟩=>?_)
 rw[evalPart_none]
 refine wpAny_pure ?_
 have I4:Inv X pins σ H3 { s3 with heap:=s3.heap.push { cls:=.type "slice",data:=.fields #[vl,vu,.none] } }:=I3.kept (t':=s3.toks) λb ob q=>Heap.get?_push_of_some _ q
 obtain⟨T,id,hT,ht,hg⟩:=hr pins { s3 with heap:=s3.heap.push { cls:=.type "slice",data:=.fields #[vl,vu,.none] } } σ H3 x v vl vu l u s3.heap.objs.size Q I4 r1 (Heap.IsSliceOf.new ..) pl pu q3
 show wpAny (model X.prog X.w) X.A (subscriptTail e (.Slice lo hi none p2) v (.ref s3.heap.objs.size)) (EP X pins σ Q) X.xe { s3 with heap:=s3.heap.push { cls:=.type "slice",data:=.fields #[vl,vu,.none] } }
 exact tail_any (ops:=[.ref s3.heap.objs.size,v]) ht hT hg (by with_unfolding_all rfl)
end
end L2
namespace L2
open PySem PySem.Spec PyProof.Rows
def ixN (n:Nat) (i:Int):Option Nat:=if 0<=i then(if i<n then some i.toNat else none)else if -(n:Int)<=i then some (i+n).toNat else none
def atI {α:Type}(xs:List α) (i:Int):Option α:=(ixN xs.length i).bind λj=>xs[j]?
theorem Xh {n:Nat}{i:Int}{j:Nat}(h:ixN n i=some j):seqIndex? i n=some j/\j<n ∧ -(n:Int)<=i/\i<n:=by
 unfold ixN at h
 by_cases h0:0<=i
 ·rw[if_pos h0]at h
  by_cases h1:i<n
  ·rw[if_pos h1]at h
   have e:i.toNat=j:=Option.some.inj h
   exact⟨by rw[seqIndex_of h0 h1,e],by omega,by omega,h1⟩
  ·rw[if_neg h1]at h;cases h
 ·rw[if_neg h0]at h
  by_cases h1 : -(n:Int)<=i
  ·rw[if_pos h1]at h
   have e:(i+n).toNat=j:=Option.some.inj h
   exact⟨by rw[seqIndex_neg (by omega) h1,e],by omega,h1,by omega⟩
  ·rw[if_neg h1]at h;cases h
theorem j3 {α:Type}{xs:List α}{i:Int}{v:α}(h:atI xs i=some v):∃j,seqIndex? i xs.length=some j/\xs[j]? = some v/\j<xs.length ∧ -(xs.length:Int)<=i/\i<xs.length:=by
 unfold atI at h
 cases e:ixN xs.length i with
 | none=>rw[e]at h;cases h
 | some j =>
  rw[e]at h
  obtain⟨h1,h2,h3,h4⟩:=Xh e
  exact⟨j,h1,h,h2,h3,h4⟩
theorem vn {α:Type}{xs:List α}{j:Nat}{v:α}(h:xs[j]? = some v):atI xs (j:Int)=some v:=by
 have hj:j<xs.length:=(List.getElem?_eq_some_iff.mp h).1
 have e:ixN xs.length (j:Int)=some j:=by
  unfold ixN
  rw[if_pos (by omega),if_pos (by omega)];simp
 unfold atI;rw[e];exact h
theorem Zp {α:Type}(xs:List α) (v:α):atI (xs++[v]) (-1)=some v:=by
 have hl:(xs++[v]).length=xs.length+1:=by simp
 have e:ixN (xs++[v]).length (-1)=some xs.length:=by
  unfold ixN
  rw[hl,if_neg (by decide),if_pos (by omega)]
  congr 1
  omega
 unfold atI
 rw[e]
 show (xs++[v])[xs.length]? = some v
 simp
def Vh (b:Expr):Prop:=∀o i,subscripted b false o i=operate [o,i] (getItem o i)
def IxR (X:Cx) (r:R2):Prop :=
 ∀(value slice:Expr) (pins:List (Addr×Obj)) (s:Shared) (σ:St) (H:Hp) (x y:V) (v u:Value) (Q:VK),Inv X pins σ H s->xf x v->xf y u->r x y H Q →
  subscripted slice false v u=operate [v,u] (getItem v u)->wpAny (model X.prog X.w) X.A (subscriptTail value slice v u) (EP X pins σ Q) X.xe s
def MtR (X:Cx) (id:String) (r:V->List V->Hp->VK->Prop):Prop :=
 ∀(pins:List (Addr×Obj)) (s:Shared) (σ:St) (H:Hp) (x:V) (xs:List V) (v:Value) (us:List Value) (Q:VK),Inv X pins σ H s->xf x v->zS xs us->r x xs H Q →
  wpAny (model X.prog X.w) X.A (call (.builtin id) (v::us)) (EP X pins σ Q) X.xe s
section
variable {X:Cx}{a b:Expr}{ta tb:TE}{pos:Pos}
theorem zB {r:R2}(hr:IxR X r) (ha:PE X a ta) (hb:PE X b tb) (hs:Vh b):PE X (.Subscript a b pos) (tOp r ta tb):=by
 intro pins s σ H Q I h
 exact Subscript_ (JF ha hb I h λv u s2 x y H2 I2 rx ry q=>hr a b pins s2 σ H2 x y v u Q I2 rx ry q (hs _ _))
def zaZ (K:PySem.W.Frag):R2:=λx y H Q=>∃p xs i v,x = .ref p/\y = .int i/\SqL K H p xs/\atI xs i=some v/\Q v H
def rIxT (K:PySem.W.Frag):R2:=λx y H Q=>∃p xs i v,x = .ref p/\y = .int i/\SqT K H p xs/\atI xs i=some v/\Q v H
def rIxS:R2:=λx y H Q=>∃z i c,x = .str z/\y = .int i/\z.length<=sizeLine/\atI z.cps.toList i=some c/\Q (.str ⟨#[c]⟩) H
theorem zO:IxR X (zaZ X.K):=by
 intro value slice pins s σ H x y v u Q I rx ry h hs
 obtain⟨p,xs,i,z,rfl,rfl,hq,he,q⟩:=h
 cases rx
 obtain⟨t,rfl⟩:=ry
 obtain⟨its,r,pl,hz⟩:=I.list hq
 obtain⟨j,h1,h2,h3,h4,h5⟩:=j3 he
 obtain⟨w,ew,rw'⟩:=r.get h2
 have hl:=r.length
 have hn:=vg
 have fin:EP X pins σ Q w s:=⟨z,H,I,rw',q⟩
 by_cases h0:0<=i
 ·have hj:i.toNat=j:=by
   rw[seqIndex_of h0 h5]at h1
   exact Option.some.inj h1
  exact item_listR pl.isList h0 (by omega) (by rw[hj];simpa using ew) fin hs
 ·have hj:(i+(its.toArray.size:Int)).toNat=j:=by
   rw[seqIndex_neg (by omega) h4]at h1
   rw[List.size_toArray,<-hl]
   exact Option.some.inj h1
  exact subscriptTail_builtinR (x:=w) pl.isList.typeIs slot_list_getitem.lookup
   (wpAny_getItem_list_neg (Q:=λr s'=>r=w/\EP X pins σ Q r s') pl.isList (by omega) (by rw[List.size_toArray] <;> omega) (by omega) (by rw[hj];simpa using ew) ⟨rfl,fin⟩) hs
theorem zG:IxR X (rIxT X.K):=by
 intro value slice pins s σ H x y v u Q I rx ry h hs
 obtain⟨p,xs,i,z,rfl,rfl,hq,he,q⟩:=h
 cases rx
 obtain⟨t,rfl⟩:=ry
 obtain⟨its,r,pl,hz⟩:=I.tuple hq
 obtain⟨j,h1,h2,h3,h4,h5⟩:=j3 he
 obtain⟨w,ew,rw'⟩:=r.get h2
 have hl:=r.length
 have hn:=vg
 have fin:EP X pins σ Q w s:=⟨z,H,I,rw',q⟩
 exact subscriptTail_builtinR (x:=w) pl.typeIs slot_tuple_getitem.lookup
  (getItem_tuple (j:=j) (Q:=λr s'=>r=w/\EP X pins σ Q r s') pl (by omega) (by omega) (by rw[List.size_toArray,<-hl];exact h1) (by simpa using ew) ⟨rfl,fin⟩) hs
theorem ZO:IxR X rIxS:=by
 intro value slice pins s σ H x y v u Q I rx ry h hs
 obtain⟨z,i,c,rfl,rfl,hz,he,q⟩:=h
 obtain⟨t,rfl⟩:=rx
 obtain⟨t',rfl⟩:=ry
 obtain⟨j,h1,h2,h3,h4,h5⟩:=j3 he
 have hl:z.cps.toList.length=z.length:=by simp[Str.length]
 rw[hl]at h1 h4 h5
 have hn:=vg
 exact tail_any (typeIs_str s z t) slot_str_getitem.lookup (getItem_str (c:=c) (by
  have e1:decide (i < -(2^63:Int))=false:=decide_eq_false (by omega)
  have e2:decide (i>=2^63)=false:=decide_eq_false (by omega)
  rw[e1,e2,Bool.or_false]) (by rw[h1];simpa using h2) ⟨.str ⟨#[c]⟩,H,I.tok _,⟨_,rfl⟩,q⟩) hs
theorem ZQ (its:List Value) (n j:Nat) (u:Value):Obj.mapSeq (·.setIfInBounds j u) { cls:=.type "list",data:=.seq its.toArray n } = { cls:=.type "list",data:=.seq (its.set j u).toArray n }:=by
 simp[Obj.mapSeq]
theorem Inv.lst {pins:List (Addr×Obj)}{σ:St}{H:Hp}{s:Shared}{p:Addr}{xs:List V}(I:Inv X pins σ H s) (h:H p=some (.lst xs)) :
  ∃(its:List Value) (n:Nat),zS xs its/\s.heap.get? p=some { cls:=.type "list",data:=.seq its.toArray n }/\xs.length<=sizeLine:=by
 obtain⟨z,its,n,r,e⟩:=I.hok p _ h
 exact⟨its,n,r,e,z⟩
theorem Inv.lstUpd {pins:List (Addr×Obj)}{σ:St}{H:Hp}{s:Shared}{p:Addr}{xs ys:List V}{its its':List Value}{n n':Nat}{f:Obj->Obj}(I:Inv X pins σ H s) (h:H p=some (.lst xs))
  (ho:s.heap.get? p=some { cls:=.type "list",data:=.seq its.toArray n }) (hf:f { cls:=.type "list",data:=.seq its.toArray n } = { cls:=.type "list",data:=.seq its'.toArray n' }) (r:zS ys its') (hz:ys.length<=sizeLine) (t:Nat) :
  Inv X pins σ (upd H p (.lst ys)) { s with heap:=s.heap.update p f,toks:=t }:=by
 have e:(s.heap.update p f).get? p=some { cls:=.type "list",data:=.seq its'.toArray n' }:=by
  rw[Heap.get?_update_self f ho (by rw[hf] <;> rfl),hf]
 refine I.write (x:=p) (e:=p) (by rw[h];trivial) (.inl rfl) (λb u hb q=>(Heap.get?_update_other _ _ (Ne.symm hb)).trans q) ⟨_,e⟩ ?_
 exact⟨hz,its',n',r,e⟩
def za1:V->V->V->Hp->(Hp->Prop)->Prop:=λo i v H Q=>∃p xs k j,o = .ref p/\i = .int k/\H p=some (.lst xs)/\ixN xs.length k=some j/\Q (upd H p (.lst (xs.set j v)))
theorem ZB:zaE X za1:=by
 intro pins s σ H o i v ov iv u Q I ro ri rv h
 obtain⟨p,xs,k,j,rfl,rfl,hp,hj,q⟩:=h
 cases ro
 obtain⟨t,rfl⟩:=ri
 obtain⟨its,n,r,ho,hz⟩:=I.lst hp
 obtain⟨h1,h2,h3,h4⟩:=Xh hj
 have hl:=r.length
 have hn:=vg
 have I':Inv X pins σ (upd H p (.lst (xs.set j v))) { s with heap:=s.heap.update p (Obj.mapSeq (·.setIfInBounds j u)) } :=
  I.lstUpd hp ho (ZQ its n j u) (r.set rv j) (by rw[List.length_set];exact hz) s.toks
 by_cases h0:0<=k
 ·have hk:k.toNat=j:=by
   rw[seqIndex_of h0 h4]at h1
   exact Option.some.inj h1
  exact PySem.W.ki_setAt ho h0 (by omega) (by rw[List.size_toArray,<-hl];exact h4) (by rw[hk];exact⟨_,I',q⟩)
 ·have hk:(k+(its.toArray.size:Int)).toNat=j:=by
   rw[seqIndex_neg (by omega) h3]at h1
   rw[List.size_toArray,<-hl]
   exact Option.some.inj h1
  exact PySem.W.ki_setBack ho (by omega) (by rw[List.size_toArray,<-hl];exact h3) (by omega) (by rw[hk];exact⟨_,I',q⟩)
theorem z9:qQ X (.builtin "len") (λxs H Q=>∃p ys,xs=[.ref p]/\(SqL X.K H p ys\/SqT X.K H p ys)/\Q (.int ys.length) H):=by
 intro pins s σ H xs us Q I r h
 obtain⟨p,ys,rfl,hq,q⟩:=h
 obtain⟨u,rfl,rx⟩:=qK r
 cases rx
 have hn:=vg
 rcases hq with hq | hq
 ·obtain⟨its,r',pl,hz⟩:=I.list hq
  have hlen:=r'.length
  exact Calls.call_len_list pl.isList (by simp only[List.size_toArray] <;> omega) ⟨.int ys.length,H,I.tok _,⟨s.toks+1,by rw[List.size_toArray,hlen]⟩,q⟩
 ·obtain⟨its,r',pl,hz⟩:=I.tuple hq
  have hlen:=r'.length
  exact len_tuple pl (by simp only[List.size_toArray] <;> omega) ⟨.int ys.length,H,I.tok _,⟨s.toks+1,by rw[List.size_toArray,hlen]⟩,q⟩
theorem qM:qQ X (.builtin "len") (λxs H Q=>∃z,xs=[.str z]/\z.length<=sizeLine/\Q (.int z.length) H):=by
 intro pins s σ H xs us Q I r h
 obtain⟨z,rfl,hz,q⟩:=h
 obtain⟨u,rfl,t,rfl⟩:=qK r
 have hn:=vg
 exact len_str (by omega) ⟨.int z.length,H,I.tok _,⟨_,rfl⟩,q⟩
theorem ve:qQ X (.type "tuple") (λxs H Q=>∃p ys,xs=[.ref p]/\((SqL X.K H p ys/\∀l,H l=none->Q (.ref l) (upd H l (.tup ys)))\/(SqT X.K H p ys/\Q (.ref p) H))):=by
 intro pins s σ H xs us Q I r h
 obtain⟨p,ys,rfl,h⟩:=h
 obtain⟨u,rfl,rx⟩:=qK r
 cases rx
 rcases h with⟨hq,q⟩ | ⟨hq,q⟩
 ·obtain⟨its,r',pl,hz⟩:=I.list hq
  have hlen:=r'.length
  refine call_tuple_list pl.isList (λh' kp=>?_) (by simp only[List.size_toArray] <;> omega)
  have I1:Inv X pins σ H { s with heap:=h' }:=I.kept (t':=s.toks) kp
  have I2:Inv X pins σ (upd H h'.objs.size (.tup ys)) { s with heap:=h'.push { cls:=.type "tuple",data:=.seq its.toArray } } :=
   I1.laid (t':=s.toks) (λb o e=>Heap.get?_push_of_some _ e) (Nat.le_refl _) (show xC X.prog X.w _ _ _ (.tup ys)from⟨hz,its,r',IsTup.new _ _⟩)
  exact⟨.ref h'.objs.size,_,I2,rfl,q _ (I1.hok.fresh (Nat.le_refl _))⟩
 ·obtain⟨its,r',pl,hz⟩:=I.tuple hq
  exact call_tuple_same pl ⟨.ref p,H,I,rfl,q⟩
def tyV (K:PySem.W.Frag) (T:String) (x:V) (H:Hp):Prop:=match x with
 | .str _=>T = "str"
 | .int _=>T = "int"
 | .ref p=>(T = "list"/\∃xs,SqL K H p xs)\/(T = "tuple"/\∃o,K.lookup p=some o/\o.cls = .type "tuple"/\o.dict=none) ∨
   (T = "dict"/\((∃kvs,H p=some (.dK kvs))\/∃kvs,H p=some (.dT kvs)))\/(T = "set"/\∃S n,H p=some (.set S n))
 | _=>False
theorem zaA {pins:List (Addr×Obj)}{σ:St}{H:Hp}{s:Shared}{T:String}{x:V}{v:Value}(I:Inv X pins σ H s) (r:xf x v) (ty:tyV X.K T x H) :
  s.TypeIs v T/\∀a,v = .ref a->∃ob,s.heap.get? a=some ob/\ob.dict=none:=by
 cases x with
 | str z =>
  obtain⟨t,rfl⟩:=r
  cases(show T = "str" from ty)
  exact⟨typeIs_str s z t,λ_ e=>nomatch e⟩
 | int i =>
  obtain⟨t,rfl⟩:=r
  cases(show T = "int" from ty)
  exact⟨typeIs_int s i t,λ_ e=>nomatch e⟩
 | ref p =>
  cases r
  rcases ty with⟨rfl,xs,hq⟩ | ⟨rfl,o,hk,hc,hd⟩ | ⟨rfl,hk⟩ | ⟨rfl,S,n,hk⟩
  ·obtain⟨its,_,pl,_⟩:=I.list hq
   refine⟨pl.isList.typeIs,λa e=>?_⟩
   cases e
   obtain⟨o,n,e,c,hd,_⟩:=pl
   exact⟨o,e,hd⟩
  ·refine⟨⟨o,I.kIn p o hk,hc⟩,λa e=>?_⟩
   cases e
   exact⟨o,I.kIn _ o hk,hd⟩
  ·have z:∃o,s.heap.get? p=some o/\o.ExactDict:=by
    rcases hk with⟨kvs,hk⟩ | ⟨kvs,hk⟩
    ·obtain⟨_,_,_,_,o,_,_,e,ex,_⟩:=I.hok p _ hk
     exact⟨o,e,ex⟩
    ·obtain⟨_,_,_,_,o,_,_,e,ex,_⟩:=I.hok p _ hk
     exact⟨o,e,ex⟩
   obtain⟨o,e,ex⟩:=z
   refine⟨⟨o,e,ex.1⟩,λa e2=>?_⟩
   cases e2
   exact⟨o,e,ex.2.1⟩
  ·obtain⟨o,_,_,_,e,ex,_⟩:=I.hok p _ hk
   refine⟨⟨o,e,ex.1⟩,λa e2=>?_⟩
   cases e2
   exact⟨o,e,ex.2.1⟩
 | _=>exact False.elim ty
def tBM (K:PySem.W.Frag) (T:String) (r:V->List V->Hp->VK->Prop) (to:TE) (t:TA):TE:=λσ H Q=>to σ H λx H1=>tyV K T x H1/\t σ H1 λxs H2=>r x xs H2 Q
variable {o e:Expr}{es:List Expr}{to:TE}{t:TA}{name:Str}{apos cpos:Pos}{T id:String}{r:V->List V->Hp->VK->Prop}
theorem qF (pa:PlainAttrs T) (slot:Slot T name id) (hty:typeOf (.builtin id)=pure (.type "method_descriptor")) (hm:MtR X id r) (ho:PE X o to) (ha:PA X (e::es) t)
  (hbase:attributeBase o name X.env (eval o X.env)=eval o X.env:=by rfl)
  (hfew:((backTo cpos (starEach (e::es) X.env)).all (λx=>!x.1)&&(backToKw cpos (keywordEach [] X.env)).all (λx=>x.1.isSome)
   && decide ((e::es).length+([]:List Keyword).length+(if([]:List Keyword).isEmpty then 0 else 1)<30))=true:=by rfl)
  (hline:(apos.endLine == cpos.line)=true:=by rfl) (hs:starEach (e::es) X.env=(false,eval e X.env)::starEach es X.env:=by rfl) (hplain:(backTo cpos (starEach es X.env)).any (·.1)=false:=by rfl) :
  PE X (.Call (.Attribute o name apos) (e::es) [] cpos) (tBM X.K T r to t):=by
 intro pins s σ H Q I h
 refine wpAny_Call_method_late hbase hfew hline rfl (thn (ho pins s σ H _ I h) λv s1 ⟨x,H1,I1,r1,ty,q1⟩=>?_)
 obtain⟨h1,h2⟩:=zaA I1 r1 ty
 refine⟨T,id,pa,slot,hty,h1,h2,?_⟩
 have hA:=ha cpos pins s1 σ H1 _ I1 q1
 rw[hs]at hA ⊢
 refine Calls.callWith_builtin (by show (false || (backTo cpos (starEach es X.env)).any (·.1))=false;rw[hplain] <;> rfl) (Calls.evalArgs_plain ?_)
 exact thn hA λus s2 ⟨vs,H2,I2,r2,q2⟩=>hm pins s2 σ H2 x vs v us Q I2 r1 r2 q2
end
end L2
namespace L2
open PySem PySem.Spec PyProof.Rows
def MtM (X:Cx) (id:String) (r:V->List V->Hp->VK->Prop):Prop :=
 ∀(pins:List (Addr×Obj)) (s:Shared) (σ:St) (H:Hp) (x:V) (xs:List V) (v:Value) (us:List Value) (Q:VK),Inv X pins σ H s->xf x v->zS xs us->r x xs H Q →
  wpAny (model X.prog X.w) X.A (call (.builtin id) (v::us)) (EP X pins σ Q) X.xe s
theorem zS.one:∀{x:V}{us:List Value},zS [x] us->∃u,us=[u]/\xf x u
 | _,_,.cons r .nil=>⟨_,rfl,r⟩
section
variable {X:Cx}{pins:List (Addr×Obj)}{σ:St}{H:Hp}{s:Shared}{l b:Addr}{xs ys zs:List V}
theorem Inv.lset {its its':List Value}{n:Nat}{f:Array Value->Array Value}{t':Nat}(I:Inv X pins σ H s) (hH:H l=some (.lst xs))
  (e:s.heap.get? l=some { cls:=.type "list",data:=.seq its.toArray n }) (hf:f its.toArray=its'.toArray) (hv:zS ys its') (hz:ys.length<=sizeLine) :
  Inv X pins σ (upd H l (.lst ys)) { s with heap:=s.heap.update l (Obj.mapSeq f),toks:=t' }:=by
 have q:=PySem.IsL.update e f
 rw[hf]at q
 refine I.write (x:=l) (e:=l) (by rw[hH];exact trivial) (.inl rfl) (λb' u hb hu=>(Heap.get?_update_other s.heap (Obj.mapSeq f) (Ne.symm hb)).trans hu) ⟨_,q⟩ ?_
 exact⟨hz,its',_,hv,q⟩
theorem Inv.lnew {its:List Value}{t':Nat}(I:Inv X pins σ H s) (hv:zS ys its) (hz:ys.length<=sizeLine) :
  Inv X pins σ (upd H s.heap.objs.size (.lst ys)) { s with heap:=s.heap.push { cls:=.type "list",data:=.seq its.toArray },toks:=t' } :=
 I.laid (λ_ _ q=>Heap.get?_push_of_some _ q) (Nat.le_refl _) ⟨hz,its,0,hv,Heap.get?_push_size _ rfl⟩
theorem Inv.fresh (I:Inv X pins σ H s):H s.heap.objs.size=none:=I.hok.fresh (Nat.le_refl _)
theorem Inv.lstM (I:Inv X pins σ H s) (hH:H l=some (.lst xs)):xs.length<=sizeLine/\∃(its:List Value) (n:Nat),zS xs its/\xs.length=its.length/\s.heap.get? l=some { cls:=.type "list",data:=.seq its.toArray n }:=by
 obtain⟨z,its,n,r,e⟩:=I.hok l _ hH
 exact⟨z,its,n,r,r.length,e⟩
end
section
variable {X:Cx}
def Xu:V->List V->Hp->VK->Prop:=λx vs H Q=>∃l xs y,x = .ref l/\vs=[y]/\H l=some (.lst xs)/\xs.length<sizeLine/\Q .non (upd H l (.lst (xs++[y])))
theorem qE:MtM X "list.append" Xu:=by
 intro pins s σ H x vs v us Q I rx rv h
 obtain⟨l,xs,y,rfl,rfl,hH,hz,q⟩:=h
 cases rx
 obtain⟨u,rfl,ru⟩:=rv.one
 obtain⟨z,its,n,r,hl,e⟩:=I.lstM hH
 refine call_meets F.slot_list_append ⟨_,e,rfl⟩ F.entry_list_append (F.args_list_append_2 _ _) (PySem.list_append l its.toArray n u (by rw[List.size_toArray];omega)) ⟨e,?_⟩
 refine⟨.non,_,I.lset (its':=its++[u]) hH e (by simp) (r.append (.cons ru .nil)) ?_,rfl,q⟩
 rw[List.length_append,List.length_singleton]
 omega
end
end L2
namespace Att
open PySem PySem.W PySem.Calls PyProof.Rows
theorem v6 {P:Params}{h:Heap}:∀(ns:List Int) (vs:List Value),WellAll P h vs (ns.map WData.int)->IntsAre vs ns:=by
 intro ns
 induction ns with
 | nil =>
  intro vs w
  rw[List.map_nil]at w
  cases w
  exact .nil
 | cons n ns ih =>
  intro vs w
  rw[List.map_cons]at w
  cases w with
  | cons a b =>
   cases a
   exact .cons _ _ (ih _ b)
theorem X5 {l:OpenLaw}{n:Nat}(hn:l.most=some n){P:Params}{h:Heap}{args:List WData}{vals:List Value}
  (hpre:l.row.toRowW.claim.pre args=true) (hwl:WellAll P h vals args) :
  ∃a vs ns,vals=[Value.ref a]/\args=[WData.list (ns.map WData.int)]/\h.get? a=some { cls:=.type "list",data:=.seq vs.toArray }/\IntsAre vs ns/\ns.length<=n:=by
 have hsh:WShape.hasAll [] args [.list .int]=true:=(pre_splitW hpre).1
 have hc:l.pre.holds [] { args:=args } = true:=(pre_splitW hpre).2
 obtain⟨d,r,rfl,h1,h2⟩:=hasAllW_cons hsh
 obtain rfl:=hasAllW_nil h2
 obtain⟨xs,rfl,h3⟩:=hasW_list h1
 obtain⟨ns,rfl⟩:=items_int h3
 have hlen:ns.length<=n:=by
  unfold OpenLaw.pre at hc
  have h4:(WTm.not (.lt (.lit (.int (n:Int))) (.len (.arg 0)))).holds [] { args:=[.list (ns.map .int)] } = true:=by
   have h4:=(holds_andW hc).1
   rw[hn]at h4
   exact h4
  have h5:=condW_of h4 (w_not (w_lt w_lit (w_len_list (w_arg rfl))))
  rw[List.length_map]at h5
  refine Nat.le_of_not_lt λq=>?_
  have q':(n:Int)<((ns.length:Nat):Int):=by omega
  first
   | (rw[decide_eq_true q']at h5;exact absurd h5 (by decide))
   | (simp at h5;omega)
 cases hwl with
 | cons w1 w2 =>
  cases w2
  cases w1 with
  | list ho hall=>exact⟨_,_,ns,rfl,rfl,ho,v6 ns _ hall,hlen⟩
theorem X3 (l:OpenLaw) (args:List WData):l.row.toRowW.claim.post args (.bool true) args=true :=
 postW_of (r:=l.row.toRowW) (X:=(true == true))
  (show WShape.has [] (.bool true) .bool=true by first | rfl | decide | simp[WShape.has,WShape.arms,WShape.armsAll])
  (show (WTm.eq .res (.lit (.bool true))).value [] { args:=args,res:=some (.bool true),after:=args } = some (.bool (true == true))from w_eq_bool (w_res rfl) w_lit) rfl
theorem attach_call {l:OpenLaw}{n:Nat}{q:Program}{loose:List Str}{XP:(Str->Option Value)->Heap->Prop}{YP:World->Heap->Prop}{d:DefRec}
  (hn:l.most=some n) (hdf:d.params.defaults=[])
  (call:∀(w:World) (s₀ s₁:Shared) (mg mb:Str->Option Value) (fa:Addr) (o:Obj) (pm cd doc:Value) (a:Addr) (vs:List Value) (ns:List Int),
   Ground q loose [] XP w s₀ mg mb s₁.heap->YP w s₁.heap →
   s₁.heap.get? fa=some o->o.data = .func (docDef d.name d.params d.body d.scope pm cd doc)->s₁.heap.CodeRec cd d.name->mg d.name=some (.ref fa) →
   s₁.heap.get? a=some { cls:=.type "list",data:=.seq vs.toArray }->IntsAre vs ns->ns.length<=n->s₁.gens = #[] →
   codeAny (model l.prog w) callerA (.call (.ref fa) ⟨[.ref a],[]⟩) (λr s'=>r = .ok (.ret (.bool true))/\OldK s₁.heap s'.heap/\s'.os=s₁.os/\AllBare s'.gens) s₁) :
  WalkO q loose XP YP l.row.toRowW d [] (λf vs=>PySem.call f vs):=by
 intro w s₀ s₁ mg mb G Y fa o pm cd doc dV kV ho hd hcd hD hmg hg args vals as hpre hlay hrd hwl hlo
 obtain rfl:dV = .none:=Dflts.none hD hdf
 obtain rfl:kV = .none:=Dflts.noKw hD
 obtain⟨a,vs,ns,rfl,rfl,hobj,hints,hlen⟩:=X5 hn hpre hwl
 refine enter_call (codeAny_mono (call w s₀ s₁ mg mb fa o pm cd doc a vs ns G Y ho (fd_plain hd) hcd hmg hobj hints hlen hg) λr s' hq=>?_)
 obtain⟨rfl,h2,h3,h4⟩:=hq
 exact⟨.inl ⟨.bool true,.bool true,[],rfl,λ_=>rfl,.bool true,X3 l _,λ_=>⟨List.Pairwise.nil,λ_ hm=>(nomatch hm)⟩⟩,h2,h3,h4⟩
end Att
namespace L2
open PySem PySem.Spec PyProof.Rows
theorem jZ:∀{vs:List Value}{ns:List Int},IntsAre vs ns->zS (ns.map V.int) vs
 | _,_,.nil=>.nil
 | _,_,.cons n t h=>.cons ⟨t,rfl⟩ (jZ h)
def Jo (H:Hp):Prop:=∀b,H b=none\/∃o xs,H b=some (.frz o (.lst xs))
theorem Qt {P:Program}{w:World}{K:PySem.W.Frag}{mg mb:Str->Option Value}{CX:CXT}{k:Nat}{fa a:Addr}{fd:FuncData}{x:Str}{sp:Sp}{s₁:Shared}{vs:List Value}{ns:List Int}
  (KX:K.In s₁.heap) (hns:s₁.heap.Ns mainGlobals mg) (hb:s₁.heap.Ns builtinsNs mb) (hbb:∀x:Str,x≠"__name__"->mb x=bootBuiltins x) (hlim:s₁.heap.NoLimit) (hg:s₁.gens = #[])
  (ha:s₁.heap.get? a=some { cls:=.type "list",data:=.seq vs.toArray }) (hi:IntsAre vs ns) (hl:ns.length<=sizeLine) (hr:xk k callerA)
  (F:∀base:Heap,K.In base->base.Ns mainGlobals mg->v5 P w K mg base CX k fa fd [x] sp) (hbind:∀(s:Shared) (u:Value),BindsTo s fd ⟨[u],[]⟩ [(x,u)])
  (hsp:∀H:Hp,Jo H->SqL K H a (ns.map V.int)->sp [.ref a] H (λv _=>v = .bl true) λ_ _ _=>False)
  (hCX:∀H e s',CX [] H s₁ (λ_ _ _=>False) e s'->False) :
  codeAny (model P w) callerA (.call (.ref fa) ⟨[.ref a],[]⟩) (λr s'=>r = .ok (.ret (.bool true))/\OldK s₁.heap s'.heap/\s'.os=s₁.os/\AllBare s'.gens) s₁:=by
 have rv:=jZ hi
 have lenV:=hi.length
 have core:∀H:Hp,Jo H->SqL K H a (ns.map V.int)->HOk P w H s₁.heap->(∀b,H b≠none->b=a)->(H a≠none->K.lookup a=none) →
   codeAny (model P w) callerA (.call (.ref fa) ⟨[.ref a],[]⟩) (λr s'=>r = .ok (.ret (.bool true))/\OldK s₁.heap s'.heap/\s'.os=s₁.os/\AllBare s'.gens) s₁:=by
  intro H hO hS hok hA hK
  have base_of:∀{b:Addr}{o:Obj},s₁.heap.get? b=some o->H b=none->(j6 s₁.heap H).get? b=some o:=λe n=>Qr e n
  have noA:∀{b:Addr}{o:Obj}{es:Array DictEntry}{ep:Nat},s₁.heap.get? b=some o->o.data = .dict es ep->H b=none:=λ{b o es ep} e d=>by
   cases q:H b with
   | none=>rfl
   | some u =>
    have e':b=a:=hA b (by rw[q];simp)
    subst e'
    rw[ha]at e;cases e
    have d':Data.seq vs.toArray _=Data.dict es ep:=d
    cases d'
  have nsK:∀{b:Addr}{m:Str->Option Value},s₁.heap.Ns b m->(j6 s₁.heap H).Ns b m:=λ{b m} ⟨o,es,ep,e,d,r⟩=>⟨o,es,ep,base_of e (noA e d),d,r⟩
  have hKb:K.In (j6 s₁.heap H):=λb o e=>base_of (KX b o e) (by
   cases q:H b with
   | none=>rfl
   | some u =>
    have e':b=a:=hA b (by rw[q];simp)
    subst e'
    rw[hK (by rw[q];simp)]at e;cases e)
  have hM:Mod K mg (j6 s₁.heap H):=⟨hKb,nsK hns,⟨mb,nsK hb,hbb⟩,let ⟨mc,h1,h2⟩:=hlim;⟨mc,nsK h1,h2⟩⟩
  have e0:Vg P w K mg (j6 s₁.heap H) callerA [] s₁ H:=⟨rfl,hM,λb o e=>Vr e,Nat.le_of_eq (XO _ _),trivial,λb hb=>absurd (show b∈([]:List Addr)from hb) (by simp),hok,.of_eq hg⟩
  refine codeAny_mono ((F _ hKb (nsK hns)).run callerA [] s₁ H ⟨[.ref a],[]⟩ [.ref a] [.ref a] _ _ hr e0 (hbind s₁ (.ref a)) (.cons rfl .nil) (hsp H hO hS)) λr s' h=>?_
  cases r with
  | error e=>exact(hCX H e s' h).elim
  | ok fl =>
   cases fl with
   | next=>exact False.elim h
   | brk=>exact False.elim h
   | cont=>exact False.elim h
   | ret u =>
    obtain⟨v,H',os,bare,un,hok',r',q⟩:=h
    have q':v = .bl true:=q
    subst q'
    obtain rfl:u=Value.bool true:=r'
    refine⟨rfl,OldK.of_keep λb o e=>?_,os,bare⟩
    cases q:H b with
    | none=>exact un.keep b o e q (by intro z;exact absurd (show b∈([]:List Addr)from z) (by simp)) (by simp)
    | some u =>
     rcases hO b with z | ⟨ob,xs,z⟩
     ·rw[q]at z;cases z
     ·have z2:=un.frzs b ob _ z
      obtain⟨e1,_⟩:=hok b _ z
      obtain⟨e2,_⟩:=hok' b _ z2
      rw[e]at e1;cases e1
      exact e2
 cases hk:K.lookup a with
 | some o =>
  have e:=KX a o hk
  rw[ha]at e
  cases e
  refine core (λ_=>none) (λ_=>.inl rfl) (.inr ⟨_,vs.toArray,_,hk,rfl,rfl,rfl,by rw[List.size_toArray,lenV];exact hl,by simpa using rv⟩) (λb u z=>by have z':(none:Option HO)=some u:=z;cases z') (λb z=>absurd rfl z) λz=>absurd rfl z
 | none =>
  refine core (λb=>if b=a then some (.frz { cls:=.type "list",data:=.seq vs.toArray } (.lst (ns.map V.int)))else none) (λb=>?_) (.inl (.inr ⟨{ cls:=.type "list",data:=.seq vs.toArray },if_pos rfl⟩)) (λb u z=>?_) (λb z=>?_) λ_=>hk
  ·by_cases hb:b=a
   ·exact .inr ⟨_,_,if_pos hb⟩
   ·exact .inl (if_neg hb)
  ·by_cases hb:b=a
   ·have z':=(if_pos hb).symm.trans z
    cases z'
    subst hb
    exact⟨ha,by rw[List.length_map];exact hl,vs,_,rv,ha⟩
   ·have z':=(if_neg hb).symm.trans z
    cases z'
  ·by_cases hb:b=a
   ·exact hb
   ·exact absurd (if_neg hb) z
end L2
namespace L2
open PySem PySem.Spec PyProof.Rows
theorem V7 {l:PySem.W.OpenLaw}{n k:Nat}{q:Program}{loose:List Str}{XP:(Str->Option Value)->Heap->Prop}{YP:World->Heap->Prop}{d:DefRec}{K:Params->PySem.W.Frag}{CX:World->CXT}{sp:World->Sp}{x:Str}
  (hn:l.most=some n) (hn2:n<=sizeLine) (hdf:d.params.defaults=[]) (hr:xk k callerA)
  (hY:∀(w:World) (h:Heap),YP w h->(K w.params).In h)
  (F:∀(w:World) (mg:Str->Option Value) (fa:Addr) (h:Heap),(K w.params).In h->h.Ns mainGlobals mg->mg d.name=some (.ref fa) →
   ∃fd:FuncData,(∀(s:Shared) (u:Value),BindsTo s fd ⟨[u],[]⟩ [(x,u)]) ∧
    ∀base:Heap,(K w.params).In base->base.Ns mainGlobals mg->v5 l.prog w (K w.params) mg base (CX w) k fa fd [x] (sp w))
  (hsp:∀(w:World) (H:Hp) (a:Addr) (ns:List Int),ns.length<=n->Jo H->SqL (K w.params) H a (ns.map V.int)->sp w [.ref a] H (λv _=>v = .bl true) λ_ _ _=>False)
  (hCX:∀(w:World) (H:Hp) (s:Shared) (e:Value) (s':Shared),CX w [] H s (λ_ _ _=>False) e s'->False) :
  PySem.W.WalkO q loose XP YP l.row.toRowW d [] (λf vs=>PySem.call f vs):=by
 refine Att.attach_call hn hdf λw s₀ s₁ mg mb fa o pm cd doc a vs ns G Y ho hd hcd hmg hobj hints hlen hg=>?_
 have KX:=hY w _ Y
 obtain⟨fd,hb,hF⟩:=F w mg fa _ KX G.T.g hmg
 exact Qt KX G.T.g G.T.b G.T.builtins G.T.nolimit hg hobj hints (Nat.le_trans hlen hn2) hr hF hb (λH hO hS=>hsp w H a ns hlen hO hS) λH e s'=>hCX w H s₁ e s'
end L2
namespace L2
open PySem PySem.Spec PyProof.Rows
def zA (s:Stmt):Arguments:=match s with
 | .FunctionDef _ a _ _ _ _ _ _ _ _=>a
 | _=>{ posonlyargs:=[],args:=[],vararg:=none,kwonlyargs:=[],kw_defaults:=[],kwarg:=none,defaults:=[] }
def zp (s:Stmt):List Stmt:=match s with
 | .FunctionDef _ _ b _ _ _ _ _ _ _=>b
 | _=>[]
def zk (s:Stmt):Scope:=match s with
 | .FunctionDef _ _ _ _ _ _ sc _ _ _=>sc
 | _=>{ kind:=.function,names:=[],isGenerator:=false,isCoroutine:=false }
abbrev CX0:CXT:=λ_ _ _ _ _ _=>False
abbrev E0:XK:=λ_ _ _=>False
theorem zaV {X:Cx}:ZK CX0 X E0:=λ_ _ _ _ _ _ _ h=>h.elim
structure Fun (K:PySem.W.Frag) (x qual:Str) (st:Stmt) (f:Addr) (fd:FuncData):Prop where
 ex:∃(oc:Value) (od:Option Addr) (kV doc pm:Value) (an:Option Addr) (cdv ct:Value) (osl:Array (Option Value)),
  fd=PySem.W.fnOf x qual (zA st) (zp st) (zk st) .none kV doc pm an cdv ct/\K.lookup f=some ⟨oc,od,.func fd,osl⟩/\PySem.W.codeIn K cdv qual=true
 kp:PySem.W.keepIn K (.ref f)=true
section
variable {P:Program}{w:World}{K:PySem.W.Frag}{mg:Str->Option Value}{base:Heap}
theorem Fun.ok {x qual:Str}{st:Stmt}{f:Addr}{fd:FuncData}{N ps:List Str}{k:Nat}{sp:Sp}(F:Fun K x qual st f fd) (S:zC N ps (zk st)) (len:∀vs H Q E,sp vs H Q E->vs.length=ps.length)
  (hbody:∀(cdv:Value) (A:Around) (outer:List Env) (s:Shared) (H:Hp) (vs:List V) (Q:VK) (E:XK),xk k (A.deeper (envOfC qual (zk st) s.heap.objs.size f cdv))->sp vs H Q E →
   ∃t,PSs (qT CX0 P w K mg base N qual (zk st) f cdv A outer s H E).nox (zp st) t/\t { nx:=λ_ H'=>Q .non H',rt:=Q } (qR N vs) H):v5 P w K mg base CX0 (k+1) f fd ps sp:=by
 obtain⟨oc,od,kV,doc,pm,an,cdv,ct,osl,rfl,lk,hcd⟩:=F.ex
 refine Qq lk hcd S len λA outer s H vs Q E hr hsp=>?_
 obtain⟨t,h,q⟩:=hbody cdv A outer s H vs Q E hr hsp
 exact⟨t,h.nox,q⟩
theorem JL {x qual:Str}{st:Stmt}{f:Addr}{oc:Value}{od an:Option Addr}{osl:Array (Option Value)}{kV doc pm cdv ct:Value}(l:K.lookup f=some ⟨oc,od,.func (PySem.W.fnOf x qual (zA st) (zp st) (zk st) .none kV doc pm an cdv ct),osl⟩)
  (c:PySem.W.codeIn K cdv qual=true) (k:PySem.W.keepIn K (.ref f)=true):Fun K x qual st f (PySem.W.fnOf x qual (zA st) (zp st) (zk st) .none kV doc pm an cdv ct):=⟨⟨oc,od,kV,doc,pm,an,cdv,ct,osl,rfl,l,c⟩,k⟩
end
theorem qJ {n:Nat}(h:n<=1000):n<sizeLine:=Nat.lt_of_le_of_lt h (by decide)
section
variable {X:Cx}
theorem pv (i:Nat){x:Str}{pos:Pos}(hN:X.N[i]? = some x:=by rfl) (hv:Vis X.env.scope x:=by first | exact Or.inl rfl | exact Or.inr (Or.inl rfl) | exact Or.inr (Or.inr rfl)) (hd:(x == ("__debug__":Str))=false:=by decide)
  (hcd:(x == ("__classdict__":Str))=false:=by decide):PE X (.Name x pos) (vk i):=zaf hN hv hd hcd
end
theorem zM {A B:Prop}(h:B):if false=true then A else B:=by
 rw[if_neg Bool.false_ne_true]
 exact h
theorem zT {A B:Prop}(h:A):if true=true then A else B:=by
 rw[if_pos rfl]
 exact h
theorem qU {c A B:Prop} [Decidable c] (h1:c->A) (h2:¬c->B):if c then A else B:=by
 by_cases h:c
 ·rw[if_pos h]
  exact h1 h
 ·rw[if_neg h]
  exact h2 h
def zo (H H':Hp):Prop:=∀b o,H b=some o->H' b=some o
theorem zo.refl (H:Hp):zo H H:=λ_ _ h=>h
theorem zo.trans {H H1 H2:Hp}(a:zo H H1) (b:zo H1 H2):zo H H2:=λc o h=>b c o (a c o h)
theorem zo.seq {K:PySem.W.Frag}{H H':Hp}{a:Addr}{xs:List V}(e:zo H H') (h:SqL K H a xs):SqL K H' a xs:=by
 rcases h with(h | ⟨o,h⟩) | h
 ·exact .inl (.inl (e _ _ h))
 ·exact .inl (.inr ⟨o,e _ _ h⟩)
 ·exact .inr h
end L2
set_option Elab.async false
set_option linter.all false
set_option maxRecDepth 100000
namespace L2
open PySem PySem.Spec PyProof.Rows
section
variable {prog:Program}{w:World}{A:Around}{R:Result->Shared->Prop}{s:Shared}
theorem j5 {elt target iter:Expr}{ifs:List Expr}{scope:Scope}{pos:Pos}{it acc:Value}{env:Env}(I:Nat->Shared->Prop)
  (turn:∀n s,I n s->wpAny (model prog w) A (pyNext it) (λr s₁=>match r with
   | none=>R (.ok .next) s₁
   | some v=>wpAny (model prog w) A (letOwnedTupleGo target it v) (λ_ s₀=>wpAny (model prog w) A (assign target env v) (λ_ s₂ =>
     wpAny (model prog w) A (forIn ifs true λc r=>if r=true then do let ok <-isTrue c env (eval c env);pure (ForInStep.yield ok)else pure (ForInStep.yield r)) (λok s₃ =>
      if ok=true then wpAny (model prog w) A (eval elt env) (λx s₄ =>
       wpAny (model prog w) A (call (.builtin "list.append") [acc,x]) (λ_ s₅=>∃m,m<n/\I m s₅) (λ_ _=>False) s₄) (λ_ _=>False) s₃
      else ∃m,m<n/\I m s₃) (λ_ _=>False) s₂) (λ_ _=>False) s₀) (λ_ _=>False) s₁) (λ_ _=>False) s)
  (n:Nat) (h:I n s) :
  codeAny (model prog w) A (.compLoop (.ListComp elt [⟨target,iter,ifs,0⟩] scope pos) 0 it acc env) R s:=by
 refine codeAny_loop rfl I (λn s hI=>?_) n h
 show wpAny _ A ((compTurn (.ListComp elt [⟨target,iter,ifs,0⟩] scope pos) 0 it acc env).onRaise (λx=>do noteFrame x env;theTreesLotGoes x)) _ _ s
 refine wpAny_noted ?_
 rw[compTurn_list]
 have no:∀{X:Prop},∀(e:Value) (s':Shared),(λ_ _=>False:Value->Shared->Prop) e s'->X:=λ_ _ z=>False.elim z
 refine wpAny_bind (wpAny_standAt (wpAny_bind (wpAny_mono (turn n s hI) (λr s₁ h₁=>?_) λe s'=>no e s')))
 cases r with
 | none=>exact wpAny_pure h₁
 | some v =>
  refine wpAny_bind (wpAny_mono h₁ (λ_ s₀ h₀=>?_) λe s'=>no e s')
  refine wpAny_bind (wpAny_mono h₀ (λ_ s₂ h₂=>wpAny_bind (wpAny_mono h₂ (λok s₃ h₃=>?_) λe s'=>no e s')) λe s'=>no e s')
  cases ok with
  | false=>exact wpAny_pure ⟨rfl,h₃⟩
  | true =>
   exact wpAny_bind (wpAny_bind (wpAny_mono h₃ (λx s₄ h₄=>wpAny_bind (wpAny_mono h₄ (λ_ s₅ h₅=>wpAny_pure (wpAny_pure ⟨rfl,h₅⟩)) λe s'=>no e s')) λe s'=>no e s'))
end
def x6 (X:Cx) (NB:List Str) (scope:Scope) (s3:Shared) (H3:Hp) (fp:List Addr):Cx :=
 { X with N:=NB,s₀:=s3,H₀:=H3,env:=compEnv scope s3.heap.objs.size X.env,outer:=X.stack,stack:=X.stack,ex:=fp,fn:=λ_=>true,pn:=[],xe:=λ_ _=>False }
def PTs (X:Cx) (ifs:List Expr) (t:TT):Prop :=
 ∀(pins:List (Addr×Obj)) (s:Shared) (σ:St) (H:Hp) (Q:Bool->Hp->Prop),Inv X pins σ H s->t σ H Q →
  wpAny (model X.prog X.w) X.A (forIn ifs true λc r=>if r=true then do let ok <-isTrue c X.env (eval c X.env);pure (ForInStep.yield ok)else pure (ForInStep.yield r)) (TP X pins σ Q) X.xe s
theorem Xt {X:Cx}:PTs X [] (λ_ H Q=>Q true H):=λ_ _ _ H _ I h=>wpAny_tests_nil ⟨H,I,h⟩
def zbs (n:Nat) (wi:TI) (g:TG) (tt:TT) (te:TE):TE:=λσ H Q=>wi σ H λJ H1=>∀D,H1 D=none->∃W:Nat->Nat->Hp->List V->Prop,(∃m,W 0 m (upd H1 D (.lst [])) []) ∧
 ∀i m H2 ys,W i m H2 ys->H2 D=some (.lst ys)->(J.stop i H2/\Q (.ref D) H2) ∨
  (J.go i H2/\∀σB x H3,σB.length=n->J.yld i H2 x H3->g x σB H3 λσ4 H4=>tt σ4 H4 λb H5=>if b=true then te σ4 H5 (λv H6=>H6 D=some (.lst ys)/\ys.length<sizeLine/\∃m',m'<m/\W (i+1) m' (upd H6 D (.lst (ys++[v]))) (ys++[v]))
   else H5 D=some (.lst ys)/\∃m',m'<m/\W (i+1) m' H5 ys)
theorem Xo {X:Cx}{elt tg iter:Expr}{ifs:List Expr}{scope:Scope}{pos:Pos}{NB:List Str}{wi:TI}{g:TG}{tt:TT}{te:TE}
  (hc:X.calm=true) (hfree:∀x∈scope.names,x.2≠.free) (hcell:∀x∈scope.names,x.2≠.cell) (hkind:scope.kind = .function) (hnames:∀x∈scope.names,x.2 = .local → scope.names.lookup x.1=some .local)
  (hi:PI X tg iter wi) (hb:∀s3 H3 fp,PG (x6 X NB scope s3 H3 fp) tg g/\PTs (x6 X NB scope s3 H3 fp) ifs tt/\PE (x6 X NB scope s3 H3 fp) elt te)
  (hs:∀x,foldedSetIterable iter X.env x=pure x:=by intro _;rfl) :
  PE X (.ListComp elt [⟨tg,iter,ifs,0⟩] scope pos) (zbs NB.length wi g tt te):=by
 intro pins s σ H Q I h
 refine wpAny_ListComp hfree hkind hnames (thn (hi pins s σ H _ I h) λv s1 h1=>thn h1 λitv s2 h2=>?_) hs
 obtain⟨it,fp,tn,J,H2,e,I2,T,st2,f2,q2⟩:=h2
 subst e
 have hf2:H2 s2.heap.objs.size=none:=I2.hok.fresh (Nat.le_refl _)
 obtain⟨W,⟨m0,w0⟩,turn⟩:=q2 _ hf2
 refine wpAny_newObj_type (hd:=by size_fits) ?_
 have I3:Inv X pins σ (upd H2 s2.heap.objs.size (.lst [])) { s2 with heap:=s2.heap.push { cls:=.type "list",dict:=none,data:=.seq ([]:List Value).toArray } } :=
  I2.laid (t':=s2.toks) (λb u e=>Heap.get?_push_of_some _ e) (Nat.le_refl _) ⟨by decide,[],0,.nil,Heap.get?_push_size _ rfl⟩
 generalize hD:s2.heap.objs.size=D at *
 generalize hs3:({ s2 with heap:=s2.heap.push { cls:=.type "list",dict:=none,data:=.seq ([]:List Value).toArray } }:Shared)=s3 at *
 generalize hH3:upd H2 D (.lst [])=H3 at *
 have h3D:H3 D=some (.lst []):=by rw[<-hH3];exact zn
 have fpD:∀b∈fp,b≠D:=λb hb=>by
  obtain⟨o,e,_⟩:=T.obj _ _ st2 b hb
  rw[<-hD];exact Nat.ne_of_lt (Heap.lt_size e)
 have k23:∀b u,s2.heap.get? b=some u->s3.heap.get? b=some u:=λb u e=>by rw[<-hs3];exact Heap.get?_push_of_some _ e
 have st3:tn 0 s3.heap:=T.keep _ _ _ st2 λb _ o e=>k23 b o e
 have f3:∀b∈fp,Zn X pins H3 b:=λb hb=>⟨by rw[<-hH3,zZ (fpD b hb)];exact(f2 b hb).1,(f2 b hb).2⟩
 refine wpAny_newFunctionEnv hcell (by intro y hy;simp at hy) (λh4 hns4 hsb4=>?_) hkind
 have k34:∀b u,s3.heap.get? b=some u->h4.get? b=some u:=λb u e=>hsb4.extBut b u (Nat.ne_of_lt (Heap.lt_size e)) (Heap.get?_push_of_some _ e)
 have okB:(x6 X NB scope s3 H3 fp).Ok:=by
  refine⟨I3.ok.mod,hkind,I3.ok.glob,I3.ok.blt,Nat.le_refl _,λx y c e _=>?_,λx e=>?_,λx c _ e=>?_,I3.ok.hd,I3.ok.frames,.inl rfl,λb hb=>⟨?_,λx c e=>?_⟩,I3.bs,Nat.le_trans I3.ok.bsz I3.sz,λb o e hb=>?_,λb hb z=>?_,I3.stack,I3.stkFree⟩
  ·exact absurd (show ([]:List (Str×Addr)).lookup x=some c from e) (by simp)
  ·have e':scope.names.lookup x=some .cell\/scope.names.lookup x=some .free:=e
   rcases e' with e' | e'
   ·exact absurd rfl (hcell _ (PySem.mem_of_lookup e'))
   ·exact absurd rfl (hfree _ (PySem.mem_of_lookup e'))
  ·exact absurd (show ([]:List (Str×Addr)).lookup x=some c from e) (by simp)
  ·obtain⟨o,e,_⟩:=T.obj _ _ st3 b hb
   exact Nat.ne_of_lt (Heap.lt_size e)
  ·exact absurd (show ([]:List (Str×Addr)).lookup x=some c from e) (by simp)
  ·obtain⟨_,_,_,z,_⟩:=f3 b hb
   rcases z with z | z
   ·exact I3.ok.noex b o e z
   ·exact absurd (Nat.lt_of_lt_of_le (Heap.lt_size e) (Nat.le_trans I3.ok.bsz z)) (Nat.lt_irrefl _)
  ·obtain⟨_,z1,z2,_⟩:=f3 b hb
   rcases List.mem_cons.mp (I3.stkSub b z)with e | e
   ·exact z1 e
   ·exact z2 e
 have IB:Inv (x6 X NB scope s3 H3 fp) [] (List.replicate NB.length none) H3 { s3 with heap:=h4,toks:=s3.toks+([]:List (Str×Value)).length }:=by
  refine⟨okB,rfl,I3.bare,Un.kept k34,⟨_,hns4,λi x v _ e _=>?_⟩,λx c e=>?_,I3.hok.fresh (Nat.le_refl _),λx c e=>?_,λp hp=>?_,I3.hok.kept k34,by simp[x6]⟩
  ·rw[List.getElem?_replicate]at e
   split at e <;> cases e
  ·exact absurd (show ([]:List (Str×Addr)).lookup x=some c from e) (by simp)
  ·exact absurd (show ([]:List (Str×Addr)).lookup x=some c from e) (by simp)
  ·exact absurd (show p∈([]:List (Addr×Obj))from hp) (by simp)
 have st4:tn 0 h4:=T.keep _ _ _ st3 λb _ o e=>k34 b o e
 have C_ne:∀b∈fp,b≠s3.heap.objs.size:=λb hb=>(okB.exf b hb).1
 have stat:∀{H':Hp},(∀b∈fp,H' b=none)->∀b∈fp,Zn (x6 X NB scope s3 H3 fp) [] H' b:=λhn b hb =>
  ⟨hn b hb,C_ne b hb,okB.exfs b hb,.inl hb,λx c e=>absurd (show ([]:List (Str×Addr)).lookup x=some c from e) (by simp),λp hp=>absurd (show p∈([]:List (Addr×Obj))from hp) (by simp)⟩
 obtain⟨hg,ht,he⟩:=hb s3 H3 fp
 have fin:∀{σ':St}{H':Hp}{s':Shared},Inv (x6 X NB scope s3 H3 fp) [] σ' H' s'->Q (.ref D) H' →
   ∃m,s'.heap.Ns s3.heap.objs.size m/\∀h',Heap.SameBut s3.heap.objs.size s'.heap h'->EP X pins σ Q (.ref D) { s' with heap:=h' }:=λ{σ' H' s'} J q=>by
  obtain⟨m,hm,_⟩:=J.loc
  refine⟨m,hm,λh' sb=>⟨.ref D,H',?_,rfl,q⟩⟩
  have neC:∀b o,s3.heap.get? b=some o->b≠s3.heap.objs.size:=λb o e=>Nat.ne_of_lt (Heap.lt_size e)
  have hfr:H' s3.heap.objs.size=none:=J.free
  have up:∀b o,b≠s3.heap.objs.size->s'.heap.get? b=some o->h'.get? b=some o:=λb o hb e=>(sb.2 b hb).trans e
  have hok':HOk X.prog X.w H' h':=λb ob e=>(J.hok b ob e).stay (λc w' hc q=>up c w' (by
   rintro rfl
   rcases hc with rfl | hc
   ·rw[hfr]at e;cases e
   ·rw[hfr]at hc;cases hc) q) (λ_ q=>q) λ_ _ q=>q
  have u:Un (frs X.stack) fp H3 H' s3.heap h' :=
   ⟨λb o e n hb hx=>up b o (neC b o e) (J.base.keep b o e n hb hx),λb o e n hb hx=>by
    obtain⟨sl,e'⟩:=J.base.slot b o e n hb hx
    exact⟨sl,up b _ (neC b o e) e'⟩,J.base.free,λb o e hx=>by
    obtain⟨o',e'⟩:=J.base.there b o e hx
    exact⟨o',up b _ (neC b o e) e'⟩,J.base.tups,J.base.frzs,J.base.tbls⟩
  refine I3.call' (s':={ s' with heap:=h' }) (ch:=fp) J.os u hok' J.bare λb hb=>?_
  obtain⟨z0,z1,z2,z3,z4,z5⟩:=f3 b hb
  exact⟨z3,z1,z4,z5⟩
 have loop:∀s5:Shared,s5 = { s3 with heap:=h4,toks:=s3.toks+([]:List (Str×Value)).length } →
   codeAny (model X.prog X.w) X.A (.compLoop (.ListComp elt [⟨tg,iter,ifs,0⟩] scope pos) 0 (.ref it) (.ref D) (compEnv scope s3.heap.objs.size X.env))
    (λr s'=>∃m,s'.heap.Ns s3.heap.objs.size m/\∀h',Heap.SameBut s3.heap.objs.size s'.heap h' →
     match r with | .ok _=>EP X pins σ Q (.ref D) { s' with heap:=h' } | .error x=>wpAny (model X.prog X.w) X.A (passOn "comprehension.variables-let-go" x (compEnv scope s3.heap.objs.size X.env)) (EP X pins σ Q) X.xe { s' with heap:=h' }) s5:=by
  rintro s5 rfl
  refine j5 (λn s'=>∃i σ' H' ys,Inv (x6 X NB scope s3 H3 fp) [] σ' H' s'/\tn i s'.heap/\(∀b∈fp,H' b=none)/\H' D=some (.lst ys)/\W i n H' ys) ?_ m0
   ⟨0,_,H3,[],IB,st4,λb hb=>(f3 b hb).1,h3D,by rw[<-hH3]at *;exact w0⟩
  rintro n s6 ⟨i,σ6,H6,ys,I6,st6,fr6,hD6,w6⟩
  rcases turn i n H6 ys w6 hD6 with⟨stop,qn⟩ | ⟨go,step⟩
  ·refine thn (T.done (x6 X NB scope s3 H3 fp) rfl rfl rfl hc i [] s6 σ6 H6 _ I6 (stat fr6) st6 stop) λr s7 ⟨hr,I7⟩=>?_
   subst hr
   exact fin I7 qn
  ·refine thn (T.item (x6 X NB scope s3 H3 fp) rfl rfl rfl hc i [] s6 σ6 H6 _ I6 (stat fr6) st6 go) λr s7 ⟨u,hr,h7⟩=>?_
   subst hr
   refine thn h7 λ_ s8 ⟨x,H8,I8,r8,y8,st8,fr8⟩=>?_
   have I8':=I8.pinned (stat fr8) (T.obj _ _ st8)
   have again:∀{σ9:St}{H9:Hp}{s9:Shared}{zs:List V}{m':Nat},Inv (x6 X NB scope s3 H3 fp) ([]++jp fp s8.heap) σ9 H9 s9->H9 D=some (.lst zs)->m'<n->W (i+1) m' H9 zs →
     ∃m,m<n/\∃i σ' H' ys,Inv (x6 X NB scope s3 H3 fp) [] σ' H' s9/\tn i s9.heap/\(∀b∈fp,H' b=none)/\H' D=some (.lst ys)/\W i m H' ys:=λ{σ9 H9 s9 zs m'} I9 hz hm w9=>by
    refine⟨m',hm,i+1,σ9,H9,zs,I9.unpinned,T.keep _ _ _ st8 λb hb o e=>(I9.pin (b,o) (List.mem_append_right _ (List.mem_append_right _ (qN hb e)))).1,λb hb=>?_,hz,w9⟩
    obtain⟨o,e,d⟩:=T.obj _ _ st8 b hb
    exact(I9.pin (b,o) (List.mem_append_right _ (List.mem_append_right _ (qN hb e)))).2.1
   refine thn (hg _ s8 σ6 H8 x u _ I8' r8 (step σ6 x H8 I6.len y8)) λ_ s9 ⟨σ9,H9,I9,q9⟩=>?_
   refine thn (ht _ s9 σ9 H9 _ I9 q9) λok s10 ⟨H10,I10,q10⟩=>?_
   cases ok with
   | false =>
    rw[if_neg (by decide)]at q10 ⊢
    obtain⟨hz,m',hm,w'⟩:=q10
    exact again I10 hz hm w'
   | true =>
    rw[if_pos rfl]at q10 ⊢
    refine thn (he _ s10 σ9 H10 _ I10 q10) λy s11 ⟨v,H11,I11,r11,hz,hlen,m',hm,w'⟩=>?_
    refine thn (qE _ s11 σ9 H11 (.ref D) [v] (.ref D) [y] (λ_ H12=>H12=upd H11 D (.lst (ys++[v]))) I11 rfl (.cons r11 .nil) ⟨D,ys,v,rfl,rfl,hz,hlen,rfl⟩) λ_ s12 ⟨_,H12,I12,_,e12⟩=>?_
    subst e12
    exact again I12 zn hm w'
 exact codeAny_compStart_list (loop _ rfl) (T.self X.A 0 _ _ _ st4 (loop _ rfl))
end L2
set_option Elab.async false
set_option linter.all false
set_option maxRecDepth 100000
namespace L2
open PySem PySem.Spec PyProof.Rows
mutual
inductive RdD (H:Hp):V->PyData->Prop
 | non:RdD H .non .none
 | bl (b:Bool):RdD H (.bl b) (.bool b)
 | int (i:Int):RdD H (.int i) (.int i)
 | str (x:Str):RdD H (.str x) (.str x)
 | tup {a:Addr}{xs:List V}{ds:List PyData}:H a=some (.tup xs)->vM H xs ds->RdD H (.ref a) (.tuple ds)
 | lst {a:Addr}{xs:List V}{ds:List PyData}:H a=some (.lst xs)->vM H xs ds->RdD H (.ref a) (.list ds)
inductive vM (H:Hp):List V->List PyData->Prop
 | nil:vM H [] []
 | cons {x:V}{d:PyData}{xs:List V}{ds:List PyData}:RdD H x d->vM H xs ds->vM H (x::xs) (d::ds)
end
section
variable {X:Cx}{pins:List (Addr×Obj)}{σ:St}{H:Hp}{s:Shared}
mutual
theorem RdD.reads (I:Inv X pins σ H s):∀{x:V}{d:PyData},RdD H x d->∀{u:Value},xf x u->∃as,Reads s.heap u d as
 | _,_,.non,u,r=>by cases(show u=Value.none from r);exact⟨_,.none⟩
 | _,_,.bl b,u,r=>by cases(show u=Value.bool b from r);exact⟨_,.bool b⟩
 | _,_,.int i,u,r=>by obtain⟨t,e⟩:=(show ∃t,u=Value.int i t from r);subst e;exact⟨_,.int i t⟩
 | _,_,.str x,u,r=>by obtain⟨t,e⟩:=(show ∃t,u=Value.str x t from r);subst e;exact⟨_,.str x t⟩
 | _,_,@RdD.tup _ a xs ds e h,u,r=>by
  cases(show u=Value.ref a from r)
  obtain⟨_,its,rv,o,h1,h2,n,h3⟩:=(show xC X.prog X.w H s.heap a (.tup xs)from I.hok a _ e)
  obtain⟨as,ra⟩:=vM.reads I h rv
  exact⟨_,.tuple h1 h2 h3 (by simpa using ra)⟩
 | _,_,@RdD.lst _ a xs ds e h,u,r=>by
  cases(show u=Value.ref a from r)
  obtain⟨_,its,n,rv,h1⟩:=(show xC X.prog X.w H s.heap a (.lst xs)from I.hok a _ e)
  obtain⟨as,ra⟩:=vM.reads I h rv
  exact⟨_,.list h1 rfl rfl (by simpa using ra)⟩
theorem vM.reads (I:Inv X pins σ H s):∀{xs:List V}{ds:List PyData},vM H xs ds->∀{us:List Value},zS xs us->∃as,ReadsAll s.heap us ds as
 | _,_,.nil,us,r=>by cases r;exact⟨_,.nil⟩
 | _,_,.cons h t,us,r=>by
  cases r with
  | cons r1 r2 =>
   obtain⟨a1,q1⟩:=RdD.reads I h r1
   obtain⟨a2,q2⟩:=vM.reads I t r2
   exact⟨_,.cons q1 q2⟩
end
end
def rEqD:R2:=λx y H Q=>∃d e,RdD H x d/\RdD H y e/\SeqAt.shaped d=true/\SeqAt.shaped e=true/\Q (.bl (PyData.eqv d e)) H
def rNeD:R2:=λx y H Q=>∃d e,RdD H x d/\RdD H y e/\SeqAt.shaped d=true/\SeqAt.shaped e=true/\Q (.bl (!PyData.eqv d e)) H
section
variable {X:Cx}
theorem ZT (hu:X.A.units+64<cLine):OpR X (compareOp .Eq) rEqD:=by
 intro pins s σ H x y v u Q I rx ry h
 obtain⟨d,e,hd,he,s1,s2,q⟩:=h
 obtain⟨as,r1⟩:=hd.reads I rx
 obtain⟨bs,r2⟩:=he.reads I ry
 exact eq_dataH r1 r2 s1 s2 hu ⟨.bl _,H,I,rfl,q⟩
theorem QG (hu:X.A.units+64<cLine):OpR X (compareOp .NotEq) rNeD:=by
 intro pins s σ H x y v u Q I rx ry h
 obtain⟨d,e,hd,he,s1,s2,q⟩:=h
 obtain⟨as,r1⟩:=hd.reads I rx
 obtain⟨bs,r2⟩:=he.reads I ry
 exact ne_dataH r1 r2 s1 s2 hu ⟨.bl _,H,I,rfl,q⟩
def Bd (n:Nat) (i:Int):Prop:=i.natAbs<2^n
theorem Bd.mono {m n:Nat}{i:Int}(h:Bd m i) (l:m<=n):Bd n i:=Nat.lt_of_lt_of_le h (Nat.pow_le_pow_right (by decide) l)
theorem Bd.bits {n:Nat}{i:Int}(h:Bd n i):Builtin.Int.intBits i<=n:=intBits_le_iff.mpr h
theorem Bd.of_bits {n:Nat}{i:Int}(h:Builtin.Int.intBits i<=n):Bd n i:=intBits_le_iff.mp h
theorem Bd.mul {m n:Nat}{i j:Int}(h:Bd m i) (k:Bd n j):Bd (m+n) (i*j):=.of_bits (intBits_mul_le h.bits k.bits)
theorem Bd.add {m n:Nat}{i j:Int}(h:Bd m i) (k:Bd n j):Bd (max m n+1) (i+j):=.of_bits (intBits_add_le h.bits k.bits)
theorem Bd.neg {n:Nat}{i:Int}(h:Bd n i):Bd n (-i):=by unfold Bd;rw[Int.natAbs_neg];exact h
def Qb (i j:Int):Prop:=Bd 1000000 i/\Bd 1000000 j
theorem xB:OpR X (binaryOp .Mult) (rI Qb λi j=>.int (i*j)):=opI λ_ _ _ _ _ _ _ hc q=>mul_int q (IntMulOk.of_le hc.1.bits hc.2.bits (by decide))
def zaD (i j:Int):Prop:=j≠0/\Bd 8900 j
theorem jn:OpR X (binaryOp .FloorDiv) (rI zaD λi j=>.int (i.fdiv j)):=opI λ_ j _ _ _ _ _ hc q=>floordiv_int hc.1 q (.inl (PyProof.noPylong_of_log2 (by
 have h1:j.natAbs≠0:=λz=>hc.1 (Int.natAbs_eq_zero.mp z)
 have h2:j.natAbs<2^9000:=Nat.lt_of_lt_of_le hc.2 (Nat.pow_le_pow_right (by decide) (by decide))
 exact(Nat.log2_lt h1).mpr h2)))
theorem qz:qQ X (.builtin "isinstance") (λxs H Q=>∃x t n b,xs=[x,.ty n]/\vN X.K H x t/\PySem.W.kitOne X.K t (.type n)=some b/\Q (.bl b) H):=by
 intro pins s σ H xs us Q I r h
 obtain⟨x,t,n,b,rfl,ty,e,q⟩:=h
 obtain⟨u,w',rfl,r1,r2⟩:=Jl r
 cases(show w'=Value.type n from r2)
 exact XR I r1 ty e λtk=>⟨.bl b,H,I.tok tk,rfl,q⟩
end
end L2
set_option Elab.async false
set_option linter.all false
set_option maxRecDepth 100000
namespace HT
open PySem PySem.Spec PyProof.Rows L2
end HT
namespace L2
open PySem PySem.Spec PyProof.Rows
section
variable {X:Cx}{e st:Expr}{te:TE}{pos p2:Pos}
theorem zS.rev:∀{xs:List V}{us:List Value},zS xs us->zS xs.reverse us.reverse
 | _,_,.nil=>.nil
 | _,_,.cons r t=>by rw[List.reverse_cons,List.reverse_cons];exact(zS.rev t).append (.cons r .nil)
end
end L2
namespace KM
theorem Zt {a b:Int}(ha:0<=a) (hb:0<b):Int.gcd b (a % b)=Int.gcd a b:=by
 obtain⟨m,rfl⟩:=Int.eq_ofNat_of_zero_le ha
 obtain⟨n,rfl⟩:=Int.eq_ofNat_of_zero_le (Int.le_of_lt hb)
 rw[<-Int.natCast_emod,Int.gcd_comm (m:Int)]
 show Nat.gcd n (m % n)=Nat.gcd n m
 rw[Nat.gcd_comm n (m % n)]
 exact(Nat.gcd_rec n m).symm
theorem Qj (q:Rat):(q.den:Int)≠0:=by have:=q.den_nz;omega
theorem den_pos (q:Rat):(0:Int)<q.den:=by have:=q.den_nz;omega
def dv (t b:Int):Int:=if b<0 then -(Int.gcd t b:Int)else(Int.gcd t b:Int)
theorem Vm {t b:Int}(hb:b≠0):0<Int.gcd t b:=Int.gcd_pos_of_ne_zero_right _ hb
theorem zaI {t b:Int}(hb:b≠0):dv t b≠0:=by
 have:=Vm (t:=t) hb
 unfold dv;split <;> omega
theorem JH {t b:Int}:(dv t b).natAbs=Int.gcd t b:=by
 unfold dv;split <;> omega
theorem zaH {t b:Int}(hb:b≠0):(dv t b).natAbs<=b.natAbs:=by
 rw[JH];exact Nat.le_of_dvd (by omega) (Int.gcd_dvd_natAbs_right t b)
theorem Qk {t b:Int}(hb:b≠0):t.fdiv (dv t b)=(Rat.divInt t b).num:=by
 rw[Rat.num_divInt,Int.gcd_comm b t]
 have h1:((Int.gcd t b:Nat):Int) ∣ t:=Int.gcd_dvd_left ..
 unfold dv
 split
 ·rename_i h
  rw[Int.fdiv_eq_ediv_of_dvd (Int.neg_dvd.mpr h1),Int.ediv_neg,Int.sign_eq_neg_one_of_neg h]
  rw[show (-1*t) = -t by omega,Int.neg_ediv_of_dvd h1]
 ·rename_i h
  rw[Int.fdiv_eq_ediv_of_dvd h1,Int.sign_eq_one_of_pos (by omega),Int.one_mul]
theorem JI {t b:Int}(hb:b≠0):b.fdiv (dv t b)=((Rat.divInt t b).den:Int):=by
 rw[Rat.den_divInt,if_neg hb,Int.gcd_comm b t]
 have h1:((Int.gcd t b:Nat):Int) ∣ b:=Int.gcd_dvd_right ..
 have h2:Int.gcd t b ∣ b.natAbs:=Int.gcd_dvd_natAbs_right t b
 unfold dv
 split
 ·rename_i h
  rw[Int.fdiv_eq_ediv_of_dvd (Int.neg_dvd.mpr h1),Int.ediv_neg]
  rw[Int.natCast_ediv,show ((b.natAbs:Nat):Int) = -b by omega,Int.neg_ediv_of_dvd h1]
 ·rename_i h
  rw[Int.fdiv_eq_ediv_of_dvd h1,Int.natCast_ediv,show ((b.natAbs:Nat):Int)=b by omega]
theorem JW {t b:Int}(hb:b≠0):(Rat.divInt t b).num.natAbs<=t.natAbs:=by
 rw[<-Qk hb]
 have:t.fdiv (dv t b) ∣ t:=by
  have h1:dv t b ∣ t:=by
   unfold dv;split
   ·exact Int.neg_dvd.mpr (Int.gcd_dvd_left ..)
   ·exact Int.gcd_dvd_left ..
  obtain⟨c,hc⟩:=h1
  rw[Int.fdiv_eq_ediv_of_dvd ⟨c,hc⟩]
  refine⟨dv t b,?_⟩
  exact(Int.ediv_mul_cancel ⟨c,hc⟩).symm
 by_cases h0:t=0
 ·subst h0;simp
 ·exact Nat.le_of_dvd (by omega) (Int.natAbs_dvd_natAbs.mpr this)
theorem JG {t b:Int}(hb:b≠0):(Rat.divInt t b).den<=b.natAbs:=by
 rw[Rat.den_divInt,if_neg hb];exact Nat.div_le_self _ _
theorem Xr (a b:Rat):Rat.divInt (a.num*b.den+b.num*a.den) (a.den*b.den)=a+b:=by
 rw[Rat.add_def',<-Rat.divInt_ofNat];simp
theorem Zv (a b:Rat):a.num*b.den<b.num*a.den↔a<b:=(Rat.lt_iff a b).symm
structure qu where
 pl:Rat
 sp:Rat
 wt:Int
end KM
set_option Elab.async false
set_option linter.all false
set_option maxRecDepth 100000
namespace L2
open PySem PySem.Spec PyProof.Rows
structure Cal (P:Program) (w:World) (K:PySem.W.Frag) (mg:Str->Option Value) (base:Heap) (x:Str) (k:Nat) (ps:List Str) (dvs:List V) (sp:Sp):Prop where
 ex:∃f fd ds,v5 P w K mg base CX0 k f fd ps sp/\mg x=some (.ref f)/\PySem.W.keepIn K (.ref f)=true/\v0 K fd ps ds/\zS dvs ds
theorem zI {X:Cx}{x:Str}{k:Nat}{ps:List Str}{dvs:List V}{sp:Sp}{p pos:Pos}{e:Expr}{es:List Expr}{t:TA}
  (c:Cal X.prog X.w X.K X.mg X.base x k ps dvs sp) (hr:xk k X.A) (ha:PA X (e::es) t) (hg:Gl X x:=by rfl) (hdb:(x == ("__debug__":Str))=false:=by decide)
  (he:starEach (e::es) X.env=(false,eval e X.env)::starEach es X.env:=by rfl) (hpl:(backTo pos (starEach es X.env)).any (·.1)=false:=by rfl) :
  PE X (.Call (.Name x p) (e::es) [] pos) (Q7 sp dvs E0 t):=by
 obtain⟨f,fd,ds,F,hm,hk,hb,hd⟩:=c.ex
 exact VO F hr hg hm hk hb hd zaV ha hdb he hpl
structure Df (K:PySem.W.Frag) (mg:Str->Option Value) (x:Str) (st:Stmt) (ps:List Str) (dvs:List V):Prop where
 ex:∃(f:Addr) (oc:Value) (od:Option Addr) (dV kV doc pm:Value) (an:Option Addr) (cdv ct:Value) (osl:Array (Option Value)) (ds:List Value),
  K.lookup f=some ⟨oc,od,.func (PySem.W.fnOf x x (zA st) (zp st) (zk st) dV kV doc pm an cdv ct),osl⟩/\PySem.W.codeIn K cdv x=true/\PySem.W.keepIn K (.ref f)=true/\mg x=some (.ref f) ∧
  zS dvs ds/\v0 K (PySem.W.fnOf x x (zA st) (zp st) (zk st) dV kV doc pm an cdv ct) ps ds
section
variable {P:Program}{w:World}{K:PySem.W.Frag}{mg:Str->Option Value}{base:Heap}
theorem Df.cal {x:Str}{st:Stmt}{N ps:List Str}{dvs:List V}{k:Nat}{sp:Sp}(D:Df K mg x st ps dvs) (S:zC N ps (zk st)) (len:∀vs H Q E,sp vs H Q E->vs.length=ps.length)
  (hbody:∀(f:Addr) (cdv:Value) (A:Around) (outer:List Env) (s:Shared) (H:Hp) (vs:List V) (Q:VK) (E:XK),xk k (A.deeper (envOfC x (zk st) s.heap.objs.size f cdv))->sp vs H Q E →
   ∃t,PSs (qT CX0 P w K mg base N x (zk st) f cdv A outer s H E).nox (zp st) t/\t { nx:=λ_ H'=>Q .non H',rt:=Q } (qR N vs) H):Cal P w K mg base x (k+1) ps dvs sp:=by
 obtain⟨f,oc,od,dV,kV,doc,pm,an,cdv,ct,osl,ds,lk,hcd,hk,hm,hv,hb⟩:=D.ex
 refine⟨⟨f,_,ds,Qq lk hcd S len λA outer s H vs Q E hr hsp=>?_,hm,hk,hb,hv⟩⟩
 obtain⟨t,h,q⟩:=hbody f cdv A outer s H vs Q E hr hsp
 exact⟨t,h.nox,q⟩
theorem zV {x:Str}{st:Stmt}{ps:List Str}{f:Addr}{oc:Value}{od an:Option Addr}{osl:Array (Option Value)}{dV kV doc pm cdv ct:Value}
  (l:K.lookup f=some ⟨oc,od,.func (PySem.W.fnOf x x (zA st) (zp st) (zk st) dV kV doc pm an cdv ct),osl⟩) (c:PySem.W.codeIn K cdv x=true) (k:PySem.W.keepIn K (.ref f)=true) (m:mg x=some (.ref f))
  (hb:∀us:List Value,us.length=ps.length->bindArgs (PySem.W.fnOf x x (zA st) (zp st) (zk st) dV kV doc pm an cdv ct) ⟨us,[]⟩=pure (ps.zip us)):Df K mg x st ps [] :=
 ⟨⟨f,oc,od,dV,kV,doc,pm,an,cdv,ct,osl,[],l,c,k,m,.nil,.all hb⟩⟩
end
def rp (q:Rat):List V:=[.int q.num,.int (q.den:Int)]
def zR (H:Hp) (p:Addr) (q:Rat):Prop:=H p=some (.tup (rp q))
def Sz (n:Nat) (q:Rat):Prop:=Bd n q.num/\Bd n (q.den:Int)
theorem Sz.mono {m n:Nat}{q:Rat}(h:Sz m q) (l:m<=n):Sz n q:=⟨h.1.mono l,h.2.mono l⟩
theorem Bd.of_le {n:Nat}{i j:Int}(h:i.natAbs<=j.natAbs) (b:Bd n j):Bd n i:=Nat.lt_of_le_of_lt h b
theorem Sz.divInt {n:Nat}{t b:Int}(hb:b≠0) (h1:Bd n t) (h2:Bd n b):Sz n (Rat.divInt t b) :=
 ⟨h1.of_le (KM.JW hb),h2.of_le (by have:=KM.JG (t:=t) hb;omega)⟩
theorem Sz.add {m n:Nat}{x y:Rat}(h:Sz m x) (k:Sz n y):Sz (m+n+1) (x+y):=by
 rw[<-KM.Xr]
 refine .divInt (Int.mul_ne_zero (KM.Qj x) (KM.Qj y)) ?_ ((h.2.mul k.2).mono (by omega))
 exact((h.1.mul k.2).add (k.1.mul h.2)).mono (by omega)
theorem jV (q:Rat):SeqAt.shaped (.tuple [.int q.num,.int (q.den:Int)])=true:=rfl
theorem zR.rd {H:Hp}{p:Addr}{q:Rat}(h:zR H p q):RdD H (.ref p) (.tuple [.int q.num,.int (q.den:Int)]):=.tup h (.cons (.int _) (.cons (.int _) .nil))
theorem JJ (x y:Rat):PyData.eqv (.tuple [.int x.num,.int (x.den:Int)]) (.tuple [.int y.num,.int (y.den:Int)])=decide (x=y):=by
 simp only[PyData.eqv,PyData.eqvAll,Bool.and_true]
 rw[Bool.eq_iff_iff]
 simp only[Bool.and_eq_true,beq_iff_eq,decide_eq_true_eq]
 constructor
 ·rintro ⟨h1,h2⟩;exact Rat.ext h1 (by omega)
 ·rintro rfl;exact⟨rfl,rfl⟩
def jW (C:Rat->Rat->Prop) (f:Rat->Rat->Rat):Sp:=λvs H Q _=>∃p q x y,vs=[.ref p,.ref q]/\zR H p x/\zR H q y/\C x y/\∀r H',zo H H'->zR H' r (f x y)->Q (.ref r) H'
def Sz2 (x y:Rat):Prop:=Sz 4000 x/\Sz 4000 y
theorem at0 {α:Type}(a b:α):atI [a,b] 0=some a:=rfl
theorem at1 {α:Type}(a b:α):atI [a,b] 1=some b:=rfl
theorem zo.upd {H:Hp}{p:Addr}{o:HO}(h:H p=none):zo H (upd H p o):=λb u e=>by rw[zZ (xh e h)];exact e
end L2
set_option Elab.async false
set_option linter.all false
set_option maxRecDepth 100000
namespace L2
open PySem PySem.Spec PyProof.Rows
def TrX (h B:Heap) (e:Addr) (cls a0:Value) (dct:Option Addr) (fl:Value):Prop :=
 ∃oe vs T oT ts,h.get? e=some oe/\oe.cls=cls/\oe.dict=dct/\oe.data = .fields vs/\vs[0]? = some a0/\vs[1]? = some (.ref T)/\B.get? T=none/\T≠e/\h.get? T=some oT/\oT.data = .fields ts/\ts[3]? = some fl
theorem XU (o:Obj) (f:Array Value->Array Value):(Obj.mapFields f o).dict=o.dict:=by
 unfold Obj.mapFields;split <;> rfl
section
variable {M:Model}{A:Around}{E:Value->Shared->Prop}{s:Shared}{B:Heap}{env:Env}{outer l:List Env}{L e:Addr}{oe:Obj}{vs:Array Value}{a0 cls fl:Value}{dct:Option Addr}{Q:Unit->Shared->Prop}
theorem Xd {head:Value}{hadNext:Bool}(hfr:A.frames=some (env::outer)) (hl:s.heap.FunFrames B (env::outer)) (hf:env.frame=some L) (he:s.heap.get? e=some oe) (hB:B.StaysIn s.heap) (hn:B.get? e=none) (hd:oe.data = .fields vs) (hz:1<vs.size) (h0:vs[0]? = some a0)
  (q:∀h',B.StaysIn h'->h'.FunFrames B (env::outer)->TrX h' B e oe.cls a0 oe.dict (rawInt L)->s.heap.UpToSlots h'->Q () { s with heap:=h' }) :
  wpAny M A (do let a <-frameOf env;let pl <-entryPlaceOf L hadNext;let b <-EntryCells.newEntry head a .none (rawInt L) .none pl;setField (.ref e) 1 b) Q E s:=by
 have nf:e∉(env::outer).filterMap (·.frame):=λm=>by
  obtain⟨_,o,ho,hnf⟩:=hl.mem m
  rw[he]at ho;cases ho;exact hnf vs hd
 refine wpAny_bind (wpAny_frameOf_fun hfr hl hf λg1 k1=>wpAny_bind (wpAny_entryPlaceOf λpl hpl=>?_))
 unfold EntryCells.newEntry newFields
 have e1:g1.get? e=some oe:=(k1.2.1 e nf).trans he
 have B1:B.StaysIn g1:=λb o z=>(k1.2.1 b λm=>by rw[(hl.mem m).1]at z;cases z).trans (hB b o z)
 have fr:g1.objs.size≠e:=Nat.ne_of_gt (Heap.lt_size e1)
 have d3:=Obj.data_mapFields hd (·.setIfInBounds 1 (Value.ref g1.objs.size))
 refine wpAny_bind (wpAny_newObj_type (wpAny_setField (Heap.get?_push_of_some _ e1) hd hz (q _ (λb o z=>?_) (hl.of_keeps λb o hb nn=>?_) ?_ λb o hb nn=>?_)) (hpl.sizeOk5 _ _ _ _ _))
 ·have ne:e≠b:=λr=>by rw[<-r,hn]at z;cases z
  rw[Heap.get?_update_other _ _ ne]
  exact Heap.get?_push_of_some _ (B1 b o z)
 ·obtain⟨sl,z⟩:=k1.2.2 b o hb
  have ne:e≠b:=λr=>by rw[<-r,he]at hb;cases hb;exact nn vs hd
  exact⟨{ o with slots:=sl },by rw[Heap.get?_update_other _ _ ne];exact Heap.get?_push_of_some _ z,rfl⟩
 ·refine⟨_,_,g1.objs.size,_,_,Heap.get?_update_self _ (Heap.get?_push_of_some _ e1) (Obj.isFreed_of_fields d3),Obj.cls_mapFields _ _,XU _ _,d3,?_,by simp[hz],B1.fresh,fr,(Heap.get?_update_other _ _ (Ne.symm fr)).trans (Heap.get?_push_size g1 rfl),rfl,?_⟩
  ·rw[Array.getElem?_setIfInBounds_ne (by decide)];exact h0
  ·first | (simp;done) | (rcases hpl with rfl | ⟨_,_,_,_,_,_,_,rfl⟩ <;> simp)
 ·obtain⟨sl,z⟩:=k1.2.2 b o hb
  have ne:e≠b:=λr=>by rw[<-r,he]at hb;cases hb;exact nn vs hd
  exact⟨sl,by rw[Heap.get?_update_other _ _ ne];exact Heap.get?_push_of_some _ z⟩
theorem ZR (hfr:A.frames=some (env::outer)) (hl:s.heap.FunFrames B (env::outer)) (hf:env.frame=some L) (he:s.heap.get? e=some oe) (hB:B.StaysIn s.heap) (hn:B.get? e=none) (hd:oe.data = .fields vs) (h1:vs[1]? = some .none) (h0:vs[0]? = some a0)
  (q:∀h',B.StaysIn h'->h'.FunFrames B (env::outer)->TrX h' B e oe.cls a0 oe.dict (rawInt L)->s.heap.UpToSlots h'->Q () { s with heap:=h' }):wpAny M A (noteFrame (.ref e) env) Q E s:=by
 unfold noteFrame
 simp only[hf]
 refine wpAny_bind (wpAny_field he hd h1 ?_)
 rw[if_neg (by decide)]
 exact Xd hfr hl hf he hB hn hd (Array.getElem?_eq_some_iff.mp h1).1 h0 q
theorem XW (hfr:A.frames=some (env::outer)) (hl:s.heap.FunFrames B (env::outer)) (hf:env.frame=some L) (ht:TrX s.heap B e cls a0 dct .none) (hB:B.StaysIn s.heap) (hn:B.get? e=none)
  (q:∀h',B.StaysIn h'->h'.FunFrames B (env::outer)->TrX h' B e cls a0 dct (rawInt L)->s.heap.UpToSlots h'->Q () { s with heap:=h' }):wpAny M A (noteFrame (.ref e) env) Q E s:=by
 obtain⟨oe,vs,T,oT,ts,he,rfl,rfl,hd,h0,h1,nT,Te,hT,dT,h3⟩:=ht
 unfold noteFrame
 simp only[hf]
 refine wpAny_bind (wpAny_field he hd h1 ?_)
 rw[if_pos (show (Value.ref T != Value.none)=true from by simp)]
 refine wpAny_bind (wpAny_field hT dT h3 ?_)
 rw[if_neg (show ¬((Value.none == rawInt L)=true)from by simp[rawInt])]
 have oth:∀b,b≠T->(s.heap.update T (Obj.mapFields (·.setIfInBounds 3 Value.none))).get? b=s.heap.get? b:=λb hb=>Heap.get?_update_other _ _ (Ne.symm hb)
 have nr:∀b o,s.heap.get? b=some o->(∀vs,o.data≠.fields vs)->b≠T:=λb o hb nn r=>by rw[r,hT]at hb;cases hb;exact nn ts dT
 refine wpAny_bind (wpAny_setField hT dT (Array.getElem?_eq_some_iff.mp h3).1 (Xd hfr (hl.of_keeps λb o hb nn=>⟨o,(oth b (nr b o hb nn)).trans hb,rfl⟩) hf ((oth e (Ne.symm Te)).trans he) (λb o z=>(oth b λr=>by rw[r,nT]at z;cases z).trans (hB b o z)) hn hd (Array.getElem?_eq_some_iff.mp h1).1 h0 λh' x1 x2 x3 x4=>q h' x1 x2 x3 λb o hb nn=>x4 b o ((oth b (nr b o hb nn)).trans hb) nn))
theorem Qo (hB:B.StaysIn s.heap) (hl:s.heap.FunFrames B l) (ht:TrX s.heap B e cls a0 dct fl)
  (q:∀h',B.StaysIn h'->h'.FunFrames B l->TrX h' B e cls a0 dct .none->s.heap.UpToSlots h'->Q () { s with heap:=h' }):wpAny M A (setFlight (.ref e) none) Q E s:=by
 obtain⟨oe,vs,T,oT,ts,he,hc,hdc,hd,h0,h1,nT,Te,hT,dT,h3⟩:=ht
 have z3:3<ts.size:=(Array.getElem?_eq_some_iff.mp h3).1
 have oth:∀b,b≠T->(s.heap.update T (Obj.mapFields (·.setIfInBounds 3 ((none:Option Addr).elim Value.none λf=>rawInt f)))).get? b=s.heap.get? b:=λb hb=>Heap.get?_update_other _ _ (Ne.symm hb)
 have nr:∀b o,s.heap.get? b=some o->(∀vs,o.data≠.fields vs)->b≠T:=λb o hb nn r=>by rw[r,hT]at hb;cases hb;exact nn ts dT
 unfold setFlight
 refine wpAny_bind (wpAny_field he hd h1 ?_)
 rw[if_pos (show (Value.ref T != Value.none)=true from by simp)]
 exact wpAny_setField hT dT z3 (q _ (λb o z=>(oth b λr=>by rw[r,nT]at z;cases z).trans (hB b o z)) (hl.of_keeps λb o hb nn=>⟨o,(oth b (nr b o hb nn)).trans hb,rfl⟩)
  ⟨oe,vs,T,_,_,(oth e (Ne.symm Te)).trans he,hc,hdc,hd,h0,h1,nT,Te,Heap.get?_update_self _ hT (Obj.isFreed_of_fields (Obj.data_mapFields dT _)),Obj.data_mapFields dT _,by simp[z3]⟩ λb o hb nn=>⟨o.slots,(oth b (nr b o hb nn)).trans hb⟩)
end
def FlX (B:Heap) (l:List Env) (e:Addr) (cls a0:Value) (dct:Option Addr) (h:Heap):Prop:=B.StaysIn h/\B.get? e=none/\h.FunFrames B l/\TrX h B e cls a0 dct .none
def HeX (B:Heap) (l:List Env) (e:Addr) (cls a0:Value) (dct:Option Addr) (h:Heap):Prop:=B.StaysIn h/\B.get? e=none/\h.FunFrames B l/\∃fl,TrX h B e cls a0 dct fl
section
variable {M:Model}{A:Around}{E:Value->Shared->Prop}{s:Shared}{B h:Heap}{env:Env}{outer l:List Env}{L e:Addr}{a0 cls:Value}{dct:Option Addr}{Q:Unit->Shared->Prop}
theorem FlX.held (x:FlX B l e cls a0 dct h):HeX B l e cls a0 dct h:=⟨x.1,x.2.1,x.2.2.1,_,x.2.2.2⟩
theorem FlX.there (x:FlX B l e cls a0 dct h):∃ob,h.get? e=some ob/\ob.cls=cls:=by
 obtain⟨_,_,_,oe,_,_,_,_,he,hc,_⟩:=x
 exact⟨oe,he,hc⟩
theorem FlX.first (x:FlX B l e cls a0 dct h):∃oe vs,h.get? e=some oe/\oe.cls=cls/\oe.dict=dct/\oe.data = .fields vs:=by
 obtain⟨_,_,_,oe,vs,_,_,_,he,hc,hdc,hd,_⟩:=x
 exact⟨oe,vs,he,hc,hdc,hd⟩
theorem Xi (hfr:A.frames=some (env::outer)) (hf:env.frame=some L) (x:FlX B (env::outer) e cls a0 dct s.heap) (q:∀h',HeX B (env::outer) e cls a0 dct h'->s.heap.UpToSlots h'->Q () { s with heap:=h' }):wpAny M A (noteFrame (.ref e) env) Q E s :=
 XW hfr x.2.2.1 hf x.2.2.2 x.1 x.2.1 λh' x1 x2 x3 x4=>q h' ⟨x1,x.2.1,x2,_,x3⟩ x4
theorem v7 (x:HeX B l e cls a0 dct s.heap) (q:∀h',FlX B l e cls a0 dct h'->s.heap.UpToSlots h'->Q () { s with heap:=h' }):wpAny M A (setFlight (.ref e) none) Q E s:=by
 obtain⟨x1,x2,x3,fl,x4⟩:=x
 exact Qo x1 x3 x4 λh' y1 y2 y3 y4=>q h' ⟨y1,x2,y2,y3⟩ y4
theorem Qu (hfr:A.frames=some (env::outer)) (hf:env.frame=some L) (x:FlX B (env::outer) e cls a0 dct s.heap) (q:∀h',FlX B outer e cls a0 dct h'->s.heap.UpToSlots h'->Q () { s with heap:=h' }):wpAny M A (leaving env (.ref e)) Q E s:=by
 unfold leaving
 refine wpAny_bind (Xi hfr hf x λh' y up=>v7 (s:={ s with heap:=h' }) y λh2 z up2=>?_)
 obtain⟨z1,z2,⟨_,_,z3⟩,z4⟩:=z
 exact q h2 ⟨z1,z2,z3,z4⟩ (up.trans up2)
theorem ZP {args:List Value}(hfr:A.frames=some (env::outer)) (hf:env.frame=some L) (hB:B.StaysIn h) (hl:h.FunFrames B (env::outer)) (hx:Heap.MadeExcOf h s.heap e cls args)
  (q:∀h' t,FlX B outer e cls (.ref t) none h'->s.heap.UpToSlots h'->Q () { s with heap:=h' }):wpAny M A (leaving env (.ref e)) Q E s:=by
 obtain⟨t,he,_,_⟩:=hx.there
 have hn:B.get? e=none:=by
  cases z:B.get? e with
  | none=>rfl
  | some o=>have:=hB e o z;rw[hx.new]at this;cases this
 unfold leaving
 refine wpAny_bind (ZR (a0:=.ref t) hfr (hl.of_keeps λb o hb _=>⟨o,hx.keeps b o hb,rfl⟩) hf he (λb o z=>hx.keeps b o (hB b o z)) hn rfl rfl rfl λh' x1 x2 x3 x4=>?_)
 refine v7 (s:={ s with heap:=h' }) ⟨x1,hn,x2,_,x3⟩ λh2 z up2=>?_
 obtain⟨z1,z2,⟨_,_,z3⟩,z4⟩:=z
 exact q h2 t ⟨z1,z2,z3,z4⟩ (x4.trans up2)
end
end L2
set_option Elab.async false
set_option linter.all false
set_option maxRecDepth 100000
namespace L2
open PySem PySem.Spec PyProof.Rows
structure Fly (P:Program) (w:World) (l:List Env) (H:Hp) (s:Shared) (C:Addr) (H':Hp) (a:Addr) (s':Shared) (B:Heap) (a0:Value) (dct:Option Addr):Prop where
 os:s'.os=s.os
 bare:AllBare s'.gens
 un:Un (frs l) [] H H' s.heap s'.heap
 hok:HOk P w H' s'.heap
 fly:FlX B l a (.ref C) a0 dct s'.heap
 kb:∀b o,s.heap.get? b=some o->b∉frs l->(∃o',B.get? b=some o')/\(H b=none->B.get? b=some o)
 kt:∀b u,H' b=some u->∃o,B.get? b=some o
abbrev CX1 (P:Program) (w:World):CXT:=λouter H s E e s'=>∃a C H' B a0 dct,e = .ref a/\Fly P w outer H s C H' a s' B a0 dct/\E (.ref C) dct H'
section
variable {P:Program}{w:World}{H H':Hp}{h h' B:Heap}{a:Addr}{o:HO}
theorem xC.obj (x:xC P w H h a o):∃u,h.get? a=some u:=by
 cases o with
 | lst xs=>obtain⟨_,_,_,_,e⟩:=x;exact⟨_,e⟩
 | tup xs=>obtain⟨_,_,_,ob,e,_⟩:=x;exact⟨_,e⟩
 | dK kvs=>obtain⟨_,_,_,_,o,_,_,e,_⟩:=x;exact⟨_,e⟩
 | dT kvs=>obtain⟨_,_,_,_,o,_,_,e,_⟩:=x;exact⟨_,e⟩
 | set S n=>obtain⟨o,_,_,_,e,_⟩:=x;exact⟨_,e⟩
 | ins C dx fs=>obtain⟨_,_,_,e,_⟩:=x;exact⟨_,e⟩
 | own y=>obtain⟨_,e⟩:=x;exact⟨_,e⟩
 | xd fs=>obtain⟨_,⟨_,_,_,e,_⟩,_⟩:=x;exact⟨_,e⟩
 | rng lo hi=>obtain⟨_,_,_,e⟩:=x;exact⟨_,e⟩
 | frz ob u=>obtain⟨e,_⟩:=x;exact⟨_,e⟩
 | tbl ps=>exact⟨_,(show h.get? a=some _ from x)⟩
 | met f y=>exact⟨_,(show h.get? a=some _ from x)⟩
 | ext φ=>obtain⟨_,⟨_,e⟩,_⟩:=x;exact⟨_,e⟩
theorem Qs (x:HOk P w H h) (k1:B.StaysIn h) (k2:B.StaysIn h') (kt:∀b u,H b=some u->∃o,B.get? b=some o):HOk P w H h':=λa o e =>
 (x a o e).stay (λb u hb q=>by
  have ht:∃v,H b=some v:=by
   rcases hb with rfl | hb
   ·exact⟨_,e⟩
   ·exact⟨_,hb⟩
  obtain⟨v,hv⟩:=ht
  obtain⟨ob,hob⟩:=kt b v hv
  rw[k1 b ob hob]at q;cases q;exact k2 b _ hob) (λ_ q=>q) λ_ _ q=>q
end
section
variable {P:Program}{w:World}{l:List Env}{H H':Hp}{s s':Shared}{C a:Addr}{B h':Heap}{a0:Value}{dct:Option Addr}
theorem Fly.move (F:Fly P w l H s C H' a s' B a0 dct) (fl:FlX B l a (.ref C) a0 dct h') (up:s'.heap.UpToSlots h'):Fly P w l H s C H' a { s' with heap:=h' } B a0 dct where
 os:=F.os
 bare:=F.bare
 un:={
  keep:=λb o q n hb _=>fl.1 b o ((F.kb b o q hb).2 n)
  slot:=λb o q n hb hx=>by
   obtain⟨sl,e⟩:=F.un.slot b o q n hb hx
   obtain⟨_,o',ho',hd⟩:=F.fly.2.2.1.mem hb
   have z:some o'=some { o with slots:=sl }:=ho'.symm.trans e
   cases z
   obtain⟨sl',e'⟩:=up b _ e hd
   exact⟨sl',e'⟩
  free:=F.un.free
  there:=λb o q _=>by
   by_cases hb:b∈frs l
   ·obtain⟨_,o',ho',_⟩:=fl.2.2.1.mem hb
    exact⟨o',ho'⟩
   ·obtain⟨o',ho'⟩:=(F.kb b o q hb).1
    exact⟨o',fl.1 b o' ho'⟩
  tups:=F.un.tups
  frzs:=F.un.frzs
  tbls:=F.un.tbls }
 hok:=Qs F.hok F.fly.1 fl.1 F.kt
 fly:=fl
 kb:=F.kb
 kt:=F.kt
theorem Fly.untracked (F:Fly P w l H s C H' a s' B a0 dct):H' a=none:=by
 cases q:H' a with
 | none=>rfl
 | some u =>
  obtain⟨o,e⟩:=F.kt a u q
  rw[F.fly.2.1]at e;cases e
end
section
variable {X:Cx}{pins:List (Addr×Obj)}{σ:St}{H H':Hp}{s:Shared}
theorem Inv.notfr (I:Inv X pins σ H s){b:Addr}{o:Obj}(e:X.s₀.heap.get? b=some o) (hb:b∉X.fs):b∉frs X.stack:=λz=>by
 rcases List.mem_cons.mp (I.stkSub b z)with r | r
 ·exact absurd (Nat.lt_of_lt_of_le (Heap.lt_size e) I.ok.above) (by rw[r];exact Nat.lt_irrefl _)
 ·exact hb r
theorem Qp {g:Array GenState}{d:Drawn}{t:Nat}{C a:Addr}{B h1 h':Heap}{a0:Value}{dct:Option Addr}(I:Inv X pins σ H s) (hex:X.ex=[]) (hfr:∀b∈X.fs,b∈frs X.stack) (u:Un (frs X.stack) [] H H' s.heap h1)
  (kb:∀b o,s.heap.get? b=some o->b∉frs X.stack->(∃o',B.get? b=some o')/\(H b=none->B.get? b=some o)) (kt:∀b u,H' b=some u->∃o,B.get? b=some o)
  (hok:HOk X.prog X.w H' h1) (k1:B.StaysIn h1) (hfun:h1.FunFrames B X.stack) (up:h1.UpToSlots h') (fl:FlX B X.outer a (.ref C) a0 dct h') (hg:AllBare g) :
  Fly X.prog X.w X.outer X.H₀ X.s₀ C H' a { s with heap:=h',gens:=g,drawn:=d,toks:=t } B a0 dct where
 os:=I.os
 bare:=hg
 un:={
  keep:=λb o q n hb hx=>by
   have hx':b∉X.ex:=by rw[hex];exact hx
   exact fl.1 b o ((kb b o (I.base.keep b o q n hb hx') (I.notfr q hb)).2 (I.base.free b o q n hx'))
  slot:=λb o q n hb hx=>by
   have hx':b∉X.ex:=by rw[hex];exact hx
   obtain⟨sl,e⟩:=I.base.slot b o q n hb hx'
   obtain⟨sl1,e1⟩:=u.slot b _ e (I.base.free b o q n hx') (hfr b hb) hx
   obtain⟨_,o',ho',hd⟩:=hfun.mem (hfr b hb)
   have z:=ho'.symm.trans e1
   cases z
   obtain⟨sl2,e2⟩:=up b _ e1 hd
   exact⟨sl2,e2⟩
  free:=λb o q n hx=>by
   have hx':b∉X.ex:=by rw[hex];exact hx
   obtain⟨o',e⟩:=I.base.there b o q hx'
   exact u.free b o' e (I.base.free b o q n hx') hx
  there:=λb o q hx=>by
   have hx':b∉X.ex:=by rw[hex];exact hx
   by_cases hb:b∈X.fs
   ·obtain⟨_,o',ho',_⟩:=fl.2.2.1.mem hb
    exact⟨o',ho'⟩
   ·obtain⟨o',e⟩:=I.base.there b o q hx'
    obtain⟨o2,e2⟩:=(kb b o' e (I.notfr q hb)).1
    exact⟨o2,fl.1 b o2 e2⟩
  tups:=λb xs q=>u.tups b xs (I.base.tups b xs q)
  frzs:=λb o xs q=>u.frzs b o xs (I.base.frzs b o xs q)
  tbls:=λb ps q=>by
   obtain⟨m1,e1⟩:=I.base.tbls b ps q
   obtain⟨m2,e2⟩:=u.tbls b _ e1
   exact⟨m1++m2,by rw[e2,Array.append_assoc]⟩ }
 hok:=Qs hok k1 fl.1 kt
 fly:=fl
 kb:=λb o q hb=>by
  have hx':b∉X.ex:=by rw[hex];exact List.not_mem_nil
  obtain⟨o',e⟩:=I.base.there b o q hx'
  have z:=kb b o' e (I.notfr q hb)
  exact⟨z.1,λn=>(kb b o (I.base.keep b o q n hb hx') (I.notfr q hb)).2 (I.base.free b o q n hx')⟩
 kt:=kt
end
abbrev XJ:=Addr->Option Addr->St->Hp->Prop
def Z9 (X:Cx) (J:XJ):Prop:=∀(pins:List (Addr×Obj)) (σ:St) (H:Hp) (s:Shared) (a C:Addr) (H':Hp) (s':Shared) (B:Heap) (a0:Value) (dct:Option Addr),
 Inv X pins σ H s->Fly X.prog X.w X.stack H s C H' a s' B a0 dct->J C dct σ H'->X.xe (.ref a) s'
def Zm (X:Cx) (J:XJ):Prop:=∀(pins:List (Addr×Obj)) (σ:St) (H:Hp) (s:Shared) (h':Heap) (a C:Addr) (us:List Value),
 Inv X pins σ H s->Heap.MadeExcOf s.heap h' a (.ref C) us->J C none σ H->X.xe (.ref a) { s with heap:=h' }
def EJ (E:XK):XJ:=λC d _ H'=>E (.ref C) d H'
section
variable {P:Program}{w:World}{K:PySem.W.Frag}{mg:Str->Option Value}{base:Heap}{N:List Str}{qual:Str}{scope:Scope}{f:Addr}{cd:Value}{A:Around}{outer:List Env}{s:Shared}{H:Hp}{E:XK}
theorem xm:Z9 (qT (CX1 P w) P w K mg base N qual scope f cd A outer s H E) (EJ E):=by
 intro pins σ H1 s1 a C H' s' B a0 dct I F q
 obtain⟨hh,g,d,t,os'⟩:=s'
 have e:os'=s1.os:=F.os
 subst e
 refine Qu (L:=s.heap.objs.size) I.ok.frames rfl F.fly λh' fl up=>?_
 refine⟨a,C,H',B,a0,dct,rfl,?_,q⟩
 have z:=Qp (g:=g) (d:=d) (t:=t) I rfl (λb hb=>List.mem_cons_of_mem _ hb) F.un F.kb F.kt F.hok F.fly.1 F.fly.2.2.1 up fl F.bare
 exact z
theorem xn:Zm (qT (CX1 P w) P w K mg base N qual scope f cd A outer s H E) (EJ E):=by
 intro pins σ H1 s1 h1 a C us I hx q
 have hin:∀b o,s1.heap.get? b=some o->b∉frs (qT (CX1 P w) P w K mg base N qual scope f cd A outer s H E).stack →
   (PySem.W.hideAll s1.heap (frs (qT (CX1 P w) P w K mg base N qual scope f cd A outer s H E).stack)).get? b=some o:=λb o e n=>PySem.W.hideAll_get _ e n
 have hst:(PySem.W.hideAll s1.heap (frs (qT (CX1 P w) P w K mg base N qual scope f cd A outer s H E).stack)).StaysIn s1.heap:=λb o q=>PySem.W.of_hideAll _ q
 have hff:s1.heap.FunFrames (PySem.W.hideAll s1.heap (frs (qT (CX1 P w) P w K mg base N qual scope f cd A outer s H E).stack)) (qT (CX1 P w) P w K mg base N qual scope f cd A outer s H E).stack :=
  PySem.W.funFrames_hide I.stack λenv he b hb=>List.mem_filterMap.mpr ⟨env,he,hb⟩
 refine ZP (L:=s.heap.objs.size) (h:=s1.heap) (s:={ s1 with heap:=h1 }) I.ok.frames rfl hst hff hx λh' t fl up=>?_
 have z:=Qp (g:=s1.gens) (d:=s1.drawn) (t:=s1.toks) (h1:=h1) I rfl (λb hb=>List.mem_cons_of_mem _ hb) (Un.kept hx.keeps) (λb o e n=>⟨⟨o,hin b o e n⟩,λ_=>hin b o e n⟩)
  (λb u e=>by
   obtain⟨o,ho⟩:=(I.hok b u e).obj
   exact⟨o,hin b o ho λz=>by rw[I.stkFree b z]at e;cases e⟩) (I.hok.kept hx.keeps) (λb o e=>hx.keeps b o (hst b o e)) (hff.of_keeps λb o e _=>⟨o,hx.keeps b o e,rfl⟩) up fl I.bare
 exact⟨a,C,H1,_,_,_,rfl,z,q⟩
end
def zat (sp:Sp) (dvs:List V) (J:XJ) (t:TA):TE:=λσ H Q=>t σ H λvs H1=>sp (vs++dvs) H1 Q λc d H'=>∃C,c = .ref C/\J C d σ H'
structure qC (P:Program) (w:World) (K:PySem.W.Frag) (mg:Str->Option Value) (base:Heap) (x:Str) (k:Nat) (ps:List Str) (dvs:List V) (sp:Sp):Prop where
 ex:∃f fd ds,v5 P w K mg base (CX1 P w) k f fd ps sp/\mg x=some (.ref f)/\PySem.W.keepIn K (.ref f)=true/\v0 K fd ps ds/\zS dvs ds
section
variable {X:Cx}{k:Nat}{f:Addr}{fd:FuncData}{ps:List Str}{sp:Sp}{dvs:List V}{ds:List Value}{J:XJ}{x:Str}{p pos:Pos}{e:Expr}{es:List Expr}{t:TA}
theorem VU {pins:List (Addr×Obj)}{σ:St}{H:Hp}{s:Shared}{Q:VK}{us:List Value}{vs:List V}(F:v5 X.prog X.w X.K X.mg X.base (CX1 X.prog X.w) k f fd ps sp) (hr:xk k X.A) (hb:v0 X.K fd ps ds) (hd:zS dvs ds) (hx:Z9 X J)
  (I:Inv X pins σ H s) (r:zS vs us) (h:sp (vs++dvs) H Q λc d H'=>∃C,c = .ref C/\J C d σ H'):wpAny (model X.prog X.w) X.A (call (.ref f) us) (EP X pins σ Q) X.xe s:=by
 have r2:zS (vs++dvs) (us++ds):=r.append hd
 have hl:(us++ds).length=ps.length:=by rw[<-r2.length];exact F.len _ _ _ _ h
 refine wpAny_call (codeAny_mono (F.run X.A X.stack s H ⟨us,[]⟩ (us++ds) (vs++dvs) Q _ hr I.env0 (hb s us I.kIn hl) r2 h) λr s' hq=>?_)
 cases r with
 | error e =>
  obtain⟨a,C,H',B,a0,dct,rfl,F,C',hC,q⟩:=hq
  cases hC
  exact hx pins σ H s a C H' s' B a0 dct I F q
 | ok fl =>
  cases fl with
  | ret u=>exact I.after hq
  | next=>exact False.elim hq
  | brk=>exact False.elim hq
  | cont=>exact False.elim hq
theorem qA (c:qC X.prog X.w X.K X.mg X.base x k ps dvs sp) (hr:xk k X.A) (hx:Z9 X J) (ha:PA X (e::es) t) (hg:Gl X x:=by rfl) (hdb:(x == ("__debug__":Str))=false:=by decide)
  (he:starEach (e::es) X.env=(false,eval e X.env)::starEach es X.env:=by rfl) (hpl:(backTo pos (starEach es X.env)).any (·.1)=false:=by rfl) :
  PE X (.Call (.Name x p) (e::es) [] pos) (zat sp dvs J t):=by
 obtain⟨f,fd,ds,F,hm,hk,hb,hd⟩:=c.ex
 intro pins s σ H Q I h
 refine wpAny_Call_Name_kw (vq I hg hm ?_ hdb)
 refine PySem.W.callWith_K (h₀:=X.base) I.ok.mod.kin hk (thn (ha pos pins s σ H _ I h) λus s1 ⟨vs,H1,I1,r,q⟩=>⟨I1.kIn,?_⟩) he hpl
 exact VU F hr hb hd hx I1 r q
end
section
variable {P:Program}{w:World}{K:PySem.W.Frag}{mg:Str->Option Value}{base:Heap}
theorem Df.cal1 {x:Str}{st:Stmt}{N ps:List Str}{dvs:List V}{k:Nat}{sp:Sp}(D:Df K mg x st ps dvs) (S:zC N ps (zk st)) (len:∀vs H Q E,sp vs H Q E->vs.length=ps.length)
  (hbody:∀(f:Addr) (cdv:Value) (A:Around) (outer:List Env) (s:Shared) (H:Hp) (vs:List V) (Q:VK) (E:XK),xk k (A.deeper (envOfC x (zk st) s.heap.objs.size f cdv))->sp vs H Q E →
   ∃t,PSs (qT (CX1 P w) P w K mg base N x (zk st) f cdv A outer s H E) (zp st) t/\t { nx:=λ_ H'=>Q .non H',rt:=Q } (qR N vs) H):qC P w K mg base x (k+1) ps dvs sp:=by
 obtain⟨f,oc,od,dV,kV,doc,pm,an,cdv,ct,osl,ds,lk,hcd,hk,hm,hv,hb⟩:=D.ex
 exact⟨⟨f,_,ds,Qq lk hcd S len λA outer s H vs Q E hr hsp=>hbody f cdv A outer s H vs Q E hr hsp,hm,hk,hb,hv⟩⟩
end
end L2
set_option Elab.async false
set_option linter.all false
set_option maxRecDepth 100000
namespace L2
open PySem PySem.Spec PyProof.Rows
def zax (C:Addr) (J:XJ) (t:TA):TS:=λ_ σ H=>t σ H λvs H1=>vs.length<=sizeLine/\J C none σ H1
section
variable {X:Cx}{J:XJ}{x:Str}{C:Addr}{bmB bmN:List Value}{newId Bn inN B nid initId:String}{np cpos pos:Pos}{e:Expr}{es:List Expr}{t:TA}
theorem ql (O:OwnCls x C bmB newId X.mg X.base) (Fn:ExcBaseFacts Bn newId inN bmN) (hBn:bmB.contains (.type Bn)=true) (FB:ExcBaseFacts B nid initId bmB) (hh:X.A.handled=none) (hJ:Zm X J) (ha:PA X (e::es) t)
  (hg:Gl X x:=by rfl) (hd:(x == ("__debug__":Str))=false:=by decide)
  (he:starEach (e::es) X.env=(false,eval e X.env)::starEach es X.env:=by rfl) (hpl:(backTo cpos (starEach (e::es) X.env)).any (·.1)=false:=by rfl) :
  PS X (.Raise (some (.Call (.Name x np) (e::es) [] cpos)) none pos) (zax C J t):=by
 intro pins s σ H D I h
 obtain⟨tl,N,nm,q,bs,hdct,sn,sub,ab,col,dd,k0,k1,k2,k3,k5,mN,hC,hN,hni,T⟩:=O.obj
 refine wpAny_Raise_call_subU (C:=C) (N:=N) (bm:=tl) (nm:=nm) (q:=q) (bs:=bs) (hdct:=hdct) (sn:=sn) (sub:=sub) (ab:=ab) (col:=col) (dd:=dd) (k0:=k0) (k1:=k1) (k2:=k2) (k3:=k3) (k5:=k5) Fn hBn FB (mN:=mN) (T.hasType FB.hasBase) hh hpl hni (vq I hg O.bound ⟨rfl,?_⟩ hd)
 have hw:=ha cpos pins s σ H _ I h
 rw[he]at hw ⊢
 exact Calls.evalArgs_plain (wpAny_mono hw (λvs s2 ⟨ws,H1,I1,r,z,q⟩=>⟨rfl,by rw[<-r.length];exact z,I1.bk _ _ hC,hN.keeps I1.bk,T.keeps I1.bk,λh' e hm=>hJ pins σ H1 s2 h' e C vs I1 hm q⟩) λ_ _ y=>y)
end
abbrev Cx.tried (X:Cx) (pins:List (Addr×Obj)) (W:Value->Shared->Prop):Cx:={ X with pn:=X.pn++pins,xe:=W }
abbrev Cx.suite (X:Cx) (pins:List (Addr×Obj)) (a:Addr) (oe:Obj):Cx:={ X with A:=X.A.mark (some (.ref a)),calm:=false,pn:=X.pn++(pins++[(a,oe)]),xe:=λ_ _=>False }
abbrev Cx.testing (X:Cx) (a:Addr):Cx:={ X with A:=X.A.mark (some (.ref a)),calm:=false }
section
variable {X:Cx}{pins:List (Addr×Obj)}{σ:St}{H:Hp}{s:Shared}
theorem Inv.tried (I:Inv X pins σ H s) (W:Value->Shared->Prop):Inv (X.tried pins W) [] σ H s :=
 ⟨⟨I.ok.mod,I.ok.kind,I.ok.glob,I.ok.blt,I.ok.above,I.ok.inj,I.ok.has,I.ok.cab,I.ok.hd,I.ok.frames,I.ok.stk,I.ok.exf,I.ok.bs,I.ok.bsz,I.ok.noex,I.ok.exfs,I.ok.funs,I.ok.frf⟩,
  I.os,I.bare,I.base,I.loc,I.cell,I.free,I.freeC,λp hp=>I.pin p (by rw[List.append_nil]at hp;exact hp),I.hok,I.len⟩
theorem Inv.untried {pins':List (Addr×Obj)}{W:Value->Shared->Prop}(ok:X.Ok) (I:Inv (X.tried pins W) pins' σ H s):Inv X pins σ H s :=
 ⟨ok,I.os,I.bare,I.base,I.loc,I.cell,I.free,I.freeC,λp hp=>I.pin p (List.mem_append_left _ hp),I.hok,I.len⟩
theorem Inv.test (I:Inv X pins σ H s) (a:Addr):Inv (X.testing a) pins σ H s :=
 ⟨⟨I.ok.mod,I.ok.kind,I.ok.glob,I.ok.blt,I.ok.above,I.ok.inj,I.ok.has,I.ok.cab,(λh=>nomatch h),I.ok.frames,I.ok.stk,I.ok.exf,I.ok.bs,I.ok.bsz,I.ok.noex,I.ok.exfs,I.ok.funs,I.ok.frf⟩,
  I.os,I.bare,I.base,I.loc,I.cell,I.free,I.freeC,I.pin,I.hok,I.len⟩
theorem Inv.suite {a:Addr}{oe:Obj}{vs:Array Value}(I:Inv X pins σ H s) (e:s.heap.get? a=some oe) (hd:oe.data = .fields vs) (hn:H a=none):Inv (X.suite pins a oe) [] σ H s :=
 ⟨⟨I.ok.mod,I.ok.kind,I.ok.glob,I.ok.blt,I.ok.above,I.ok.inj,I.ok.has,I.ok.cab,(λh=>nomatch h),I.ok.frames,I.ok.stk,I.ok.exf,I.ok.bs,I.ok.bsz,I.ok.noex,I.ok.exfs,I.ok.funs,I.ok.frf⟩,
  I.os,I.bare,I.base,I.loc,I.cell,I.free,I.freeC,(λp hp=>by
   rw[List.append_nil]at hp
   have hp':p∈X.pn++pins\/p∈[(a,oe)]:=by
    rcases List.mem_append.mp hp with z | z
    ·exact .inl (List.mem_append_left _ z)
    ·rcases List.mem_append.mp z with z | z
     ·exact .inl (List.mem_append_right _ z)
     ·exact .inr z
   rcases hp' with z | z
   ·exact I.pin p z
   ·obtain rfl:p=(a,oe):=by simpa using z
    refine⟨e,hn,λq=>?_,λq=>?_,λv q=>?_⟩
    ·obtain⟨m,⟨o,es,ep,ho,hd',_⟩,_⟩:=I.loc
     rw[<-show a=X.env.locals from q,e]at ho
     cases ho
     rw[hd]at hd';cases hd'
    ·obtain⟨_,o,ho,hnf⟩:=I.funs.mem q
     rw[show s.heap.get? a=some oe from e]at ho
     cases ho
     exact hnf vs hd
    ·have q':oe.data = .cell v:=q
     rw[hd]at q';cases q'),I.hok,I.len⟩
theorem Inv.unsuite {a:Addr}{oe:Obj}(ok:X.Ok) (I:Inv (X.suite pins a oe) [] σ H s):Inv X pins σ H s :=
 ⟨ok,I.os,I.bare,I.base,I.loc,I.cell,I.free,I.freeC,λp hp=>I.pin p (by
  rw[List.append_nil]
  rcases List.mem_append.mp hp with z | z
  ·exact List.mem_append_left _ z
  ·exact List.mem_append_right _ (List.mem_append_left _ z)),I.hok,I.len⟩
end
end L2
set_option Elab.async false
set_option linter.all false
set_option maxRecDepth 100000
namespace L2
open PySem PySem.Spec PyProof.Rows PySem.W
end L2
set_option Elab.async false
set_option linter.all false
set_option maxRecDepth 100000
namespace L2
open PySem PySem.Spec PyProof.Rows
end L2
set_option Elab.async false
set_option linter.all false
set_option maxRecDepth 100000
namespace L2
open PySem PySem.Spec PyProof.Rows
end L2
set_option Elab.async false
set_option linter.all false
set_option maxRecDepth 100000
namespace L2
open PySem PySem.Spec PyProof.Rows
section
variable {X:Cx}
theorem Xa:∀{bs:List Bool}{us:List Value}{i:Nat}{v:Value},zS (bs.map V.bl) us->us[i]? = some v->∃b,bs[i]? = some b/\v = .bool b
 | [],_,_,_,r,e=>by cases r;simp at e
 | b::bs,_,i,v,r,e=>by
  cases r with
  | cons h t =>
   cases i with
   | zero=>simp at e;subst e;exact⟨b,rfl,h⟩
   | succ i=>obtain⟨c,e1,e2⟩:=Xa (i:=i) t (by simpa using e);exact⟨c,by simpa using e1,e2⟩
theorem jL:∀(bs:List Bool) (k:Nat),((List.range' k bs.length).all λi=>(bs[i - k]?).getD true)=bs.all id
 | [],k=>rfl
 | b::bs,k=>by
  rw[List.length_cons,List.range'_succ,List.all_cons,List.all_cons]
  simp only[Nat.sub_self,List.getElem?_cons_zero,Option.getD_some,id]
  congr 1
  rw[<-jL bs (k+1)]
  apply Bool.eq_iff_iff.mpr
  simp only[List.all_eq_true,List.mem_range'_1]
  constructor
  ·intro h i hi
   have:=h i hi
   rw[show i - k=(i - (k+1))+1 by omega,List.getElem?_cons_succ]at this;exact this
  ·intro h i hi
   rw[show i - k=(i - (k+1))+1 by omega,List.getElem?_cons_succ];exact h i hi
theorem Qh (hc:X.calm=true):qQ X (.builtin "all") (λxs H Q=>∃(p:Addr) (bs:List Bool),xs=[.ref p]/\SqL X.K H p (bs.map V.bl)/\Q (.bl (bs.all id)) H):=by
 intro pins s σ H xs us Q I r h
 obtain⟨p,bs,rfl,hq,q⟩:=h
 obtain⟨u,rfl,ru⟩:=qK r
 cases ru
 obtain⟨its,rv,pl,_⟩:=I.list hq
 have hlt:p<s.heap.objs.size:=by obtain⟨o,n,e,_⟩:=pl;exact Heap.lt_size e
 have hl:=rv.length
 rw[List.length_map]at hl
 refine call_all_walk (wpAny_pyIter_list pl.isList ⟨s.heap.objs.size,_,_,_,_,_,λi=>(bs[i]?).getD true,rfl,Walks.list (A:=X.A.in1) (show X.A.in1.handled=none from I.ok.hd hc) s.heap.objs.size p (Nat.ne_of_lt hlt) its.toArray,
  ⟨⟨_,Heap.get?_push_size _ rfl,rfl,rfl⟩,pl.isList.push _⟩,λi v s' Q' E' hv hQ'=>?_,λh' tk k=>⟨.bl (bs.all id),H,I.kept λb o e=>k b o (by simpa using Nat.ne_of_lt (Heap.lt_size e)) (Heap.get?_push_of_some _ e),?_,q⟩⟩)
 ·obtain⟨b,e1,rfl⟩:=Xa rv (by simpa using hv)
  simp only[e1,Option.getD_some]at hQ'
  exact wpAny_pure hQ'
 ·have:=jL bs 0
  simp only[Nat.sub_zero]at this
  rw[show its.toArray.size=bs.length by simp[hl],List.range_eq_range',this];rfl
end
end L2
set_option Elab.async false
set_option linter.all false
set_option maxRecDepth 100000
namespace HT
open PySem PyProof.Rows
end HT
namespace L2
open PySem PySem.Spec PyProof.Rows
end L2
set_option Elab.async false
set_option linter.all false
set_option maxRecDepth 100000
namespace L2
open PySem PySem.Spec PyProof.Rows
section
variable {J:It}{D:Addr}{N n:Nat}{js:List Nat}{σ:St}{g:TG}{tt:TT}{te:TE}{Q:VK}{H:Hp}
theorem Vj (Pv:Nat->Hp->List V->Prop) (h0:Pv 0 (upd H D (.lst [])) []) (hgo:∀i H ys,i<N->Pv i H ys->J.go i H) (hst:∀H ys,Pv N H ys->J.stop N H)
  (hs:∀i x zs H2 H3 ys (Nx:Hp->List V->Prop),(∀H ys,Pv (i+1) H ys->Nx H ys)->i<N->zs.length=n->J.yld i H2 x H3->Pv i H2 ys->H2 D=some (.lst ys)->g x zs H3 λσ4 H4=>tt σ4 H4 λb H5 =>
   if b=true then te σ4 H5 (λv H6=>H6 D=some (.lst ys)/\ys.length<sizeLine/\Nx (upd H6 D (.lst (ys++[v]))) (ys++[v]))else H5 D=some (.lst ys)/\Nx H5 ys)
  (hd:∀H ys,Pv N H ys->H D=some (.lst ys)->Q (.ref D) H) :
  ∃W:Nat->Nat->Hp->List V->Prop,(∃m,W 0 m (upd H D (.lst [])) [])/\∀i m H2 ys,W i m H2 ys->H2 D=some (.lst ys)->(J.stop i H2/\Q (.ref D) H2) ∨
   (J.go i H2/\∀σB x H3,σB.length=n->J.yld i H2 x H3->g x σB H3 λσ4 H4=>tt σ4 H4 λb H5=>if b=true then te σ4 H5 (λv H6=>H6 D=some (.lst ys)/\ys.length<sizeLine/\∃m',m'<m/\W (i+1) m' (upd H6 D (.lst (ys++[v]))) (ys++[v]))
    else H5 D=some (.lst ys)/\∃m',m'<m/\W (i+1) m' H5 ys):=by
 refine⟨λi m H ys=>m=N - i/\i<=N/\Pv i H ys,⟨N,by simp,Nat.zero_le _,h0⟩,?_⟩
 rintro i m H2 ys ⟨rfl,hi,p⟩ hD
 by_cases hlt:i<N
 ·exact .inr ⟨hgo i H2 ys hlt p,λσB x H3 hB y=>hs i x σB H2 H3 ys (λH' ys'=>∃m',m'<N - i/\(m'=N - (i+1)/\i+1<=N/\Pv (i+1) H' ys')) (λH' ys' z=>⟨N - (i+1),by omega,rfl,hlt,z⟩) hlt hB y p hD⟩
 ·obtain rfl:i=N:=by omega
  exact .inl ⟨hst H2 ys p,hd H2 ys p hD⟩
end
end L2
set_option Elab.async false
set_option linter.all false
set_option maxRecDepth 100000
namespace L2
open PySem PySem.Spec PyProof.Rows
end L2
set_option Elab.async false
set_option linter.all false
set_option maxRecDepth 100000
namespace L2
open PySem PySem.Spec PyProof.Rows
end L2
set_option Elab.async false
set_option linter.all false
set_option maxRecDepth 100000
namespace L2
open PySem PySem.Spec PyProof.Rows
theorem szl {n:Nat}(h:n<=1000):n<=sizeLine:=Nat.le_of_lt (qJ h)
theorem qP {te:TE}{i:Nat}{u:TS}{D:qS}{σ:St}{H:Hp}(h:te σ H λv H1=>u D (σ.set i (some v)) H1):Zk (X8 te (zK i)) u D σ H:=h
theorem jE {wi:TI}{g:TG}{tb:TS}{u:TS}{D:qS}{σ:St}{H:Hp}(h:V5 wi g tb { D with nx:=u D } σ H):Zk (V5 wi g tb) u D σ H:=h
theorem ZH {c:TT}{tb:TS}{u:TS}{D:qS}{σ:St}{H:Hp}(h:Zl c tb { D with nx:=u D } σ H):Zk (Zl c tb) u D σ H:=h
end L2
set_option Elab.async false
set_option linter.all false
set_option maxRecDepth 100000
namespace L2
open PySem PySem.Spec PyProof.Rows
inductive Bx (p:Prop):Prop
 | mk (h:p):Bx p
section
variable {X:Cx}
theorem Qf:Bx (PA X [] ZJ):=⟨zf⟩
theorem xj {e:Expr}{es:List Expr}{te:TE}{t:TA}(ha:Bx (PE X e te)) (hr:Bx (PA X es t)) (hs:starEach (e::es) X.env=(false,eval e X.env)::starEach es X.env:=by rfl):Bx (PA X (e::es) (q0 te t)):=by
 obtain⟨ha⟩:=ha;obtain⟨hr⟩:=hr;exact⟨zd ha hr hs⟩
theorem Qe {es:List Expr}{t:TA}{pos:Pos}(h:Bx (PA X es t)):Bx (PE X (.List es pos) (zav t)):=by
 obtain⟨h⟩:=h;exact⟨xF h⟩
theorem Qg {i:Nat}{x:Str}{e:Expr}{te:TE}{pos pos':Pos}(hN:X.N.Nodup) (hi:X.N[i]? = some x) (hx:Loc X.env.scope x) (he:Bx (PE X e te)) (hs:swapsWith e (some (.Name x pos')) pos.line X.env=pure false:=by rfl)
  (hf:X.fn x=true\/X.env.scope.names.lookup x=some .local := by first | exact .inl rfl | exact .inr rfl | assumption):Bx (PS X (.Assign [.Name x pos'] e pos) (X8 te (zK i))):=by
 obtain⟨he⟩:=he;exact⟨zz hN hi hx he hs hf⟩
theorem vp {st:Stmt}{rest:List Stmt}{t u:TS}(h1:Bx (PS X st t)) (h2:Bx (PSs X rest u)):Bx (PSs X (st::rest) (Zk t u)):=by
 obtain⟨h1⟩:=h1;obtain⟨h2⟩:=h2;exact⟨zj h1 h2⟩
end
section
variable {P:Program}{w:World}{K:PySem.W.Frag}{mg:Str->Option Value}{base:Heap}
theorem Df.calB {x:Str}{st:Stmt}{N ps:List Str}{dvs:List V}{k:Nat}{sp:Sp}(D:Df K mg x st ps dvs) (S:zC N ps (zk st)) (len:∀vs H Q E,sp vs H Q E->vs.length=ps.length)
  (hbody:∀(f:Addr) (cdv:Value) (A:Around) (outer:List Env) (s:Shared) (H:Hp) (vs:List V) (Q:VK) (E:XK),xk k (A.deeper (envOfC x (zk st) s.heap.objs.size f cdv))->sp vs H Q E →
   ∃t,Bx (PSs (qT CX0 P w K mg base N x (zk st) f cdv A outer s H E).nox (zp st) t)/\t { nx:=λ_ H'=>Q .non H',rt:=Q } (qR N vs) H):Cal P w K mg base x (k+1) ps dvs sp :=
 D.cal S len λf cdv A outer s H vs Q E hr h=>by
  obtain⟨t,⟨p⟩,q⟩:=hbody f cdv A outer s H vs Q E hr h
  exact⟨t,p,q⟩
end
end L2
set_option Elab.async false
set_option linter.all false
set_option maxRecDepth 100000
namespace L2
open PySem PySem.Spec PyProof.Rows
abbrev zaB:List Value:=[.type "ValueError",.type "Exception",.type "BaseException",.type "object"]
end L2
set_option Elab.async false
set_option linter.all false
set_option maxRecDepth 100000
namespace L2
open PySem PySem.Spec PyProof.Rows PySem.W
end L2
set_option Elab.async false
set_option linter.all false
set_option maxRecDepth 100000
namespace L2
open PySem PySem.Spec PyProof.Rows
def xE (H H':Hp):Prop:=∀b xs,H b=some (.tup xs)->H' b=some (.tup xs)
theorem xE.of {H H':Hp}(h:zo H H'):xE H H':=λb xs e=>h b _ e
theorem xE.trans {H H1 H2:Hp}(a:xE H H1) (b:xE H1 H2):xE H H2:=λc xs e=>b c xs (a c xs e)
theorem xE.upd {H:Hp}{D:Addr}{ys:List V}{o:HO}(h:H D=some (.lst ys)):xE H (upd H D o):=λb xs e=>by rw[zZ (λz=>by subst z;rw[h]at e;cases e)];exact e
structure Jq (J:It) (H:Hp) (xs:List V):Prop where
 go:∀i H',i<xs.length->zo H H'->J.go i H'
 stop:∀H',zo H H'->J.stop xs.length H'
 yld:∀i x H2 H3,zo H H2->J.yld i H2 x H3->H3=H2/\xs[i]? = some x
theorem QV {K:PySem.W.Frag}{H:Hp}{a:Addr}{xs:List V}(h:H a=some (.tup xs)):Jq (Itt K a) H xs :=
 ⟨λi H' hi s=>⟨xs,xs[i],.of (s _ _ h),by simp[hi]⟩,λH' s=>⟨xs,.of (s _ _ h),Nat.le_refl _⟩,λi x H2 H3 s y=>⟨y.1,y.2 xs (.of (s _ _ h))⟩⟩
section
variable {J:It}{D:Addr}{n:Nat}{js:List Nat}{σ:St}{g:TG}{te:TE}{Z:Hp->Prop}{H:Hp}{xs:List V}
theorem jQ (R:Nat->V->Hp->Prop) (hR:∀i v H H',xE H H'->R i v H->R i v H') (hD:H D=none) (hJ:Jq J H xs) (hl:xs.length<sizeLine)
  (hs:∀i x zs H2 Q',xs[i]? = some x->zs.length=n->zo H H2->(∀v H6,zo H2 H6->R i v H6->Q' v H6)->g x zs H2 λσ4 H4=>te σ4 H4 Q')
  (k:∀ys H',zo H H'->H' D=some (.lst ys)->ys.length=xs.length->(∀i v,ys[i]? = some v->R i v H')->Z H') :
  ∃W:Nat->Nat->Hp->List V->Prop,(∃m,W 0 m (upd H D (.lst [])) [])/\∀i m H2 ys,W i m H2 ys->H2 D=some (.lst ys)->(J.stop i H2/\Z H2) ∨
   (J.go i H2/\∀σB x H3,σB.length=n->J.yld i H2 x H3->g x σB H3 λσ4 H4=>(λ_ H Q=>Q true H:TT) σ4 H4 λb H5=>if b=true then te σ4 H5 (λv H6=>H6 D=some (.lst ys)/\ys.length<sizeLine/\∃m',m'<m/\W (i+1) m' (upd H6 D (.lst (ys++[v]))) (ys++[v]))
    else H5 D=some (.lst ys)/\∃m',m'<m/\W (i+1) m' H5 ys):=by
 refine Vj (Q:=λ_ H=>Z H) (tt:=λ_ H Q=>Q true H) (N:=xs.length) (λi H2 ys=>zo H H2/\ys.length=i/\∀j v,ys[j]? = some v->R j v H2) ⟨zo.upd hD,rfl,λj v e=>by simp at e⟩ (λi H2 ys hi p=>hJ.go i H2 hi p.1) (λH2 ys p=>hJ.stop H2 p.1) ?_ (λH2 ys p e=>k ys H2 p.1 e p.2.1 p.2.2)
 rintro i x zs H2 H3 ys Nx hN hi hz hy ⟨s2,hyl,hyR⟩ hD2
 obtain⟨rfl,hx⟩:=hJ.yld i x H2 H3 s2 hy
 refine hs i x zs H3 _ hx hz s2 λv H6 s6 r6=>⟨s6 _ _ hD2,by omega,hN _ _ ⟨λc o e=>?_,by simp[hyl],λj u e=>?_⟩⟩
 ·rw[zZ (xh e hD)];exact s6 _ _ (s2 _ _ e)
 ·have T6:xE H6 (upd H6 D (.lst (ys++[v]))):=.upd (s6 _ _ hD2)
  by_cases hj:j<ys.length
  ·rw[List.getElem?_append_left hj]at e
   exact hR _ _ _ _ ((xE.of s6).trans T6) (hyR j u e)
  ·rw[List.getElem?_append_right (by omega)]at e
   have:j - ys.length=0:=by
    rcases Nat.eq_zero_or_pos (j - ys.length)with z | z
    ·exact z
    ·rw[List.getElem?_eq_none (by simp;omega)]at e;cases e
   rw[this]at e
   simp at e
   subst e
   rw[show j=i by omega]
   exact hR _ _ _ _ T6 r6
end
end L2
namespace L2
open PySem PySem.Spec PyProof.Rows
end L2
set_option Elab.async false
set_option linter.all false
set_option maxRecDepth 100000
namespace L2
open PySem PySem.Spec PyProof.Rows
end L2
set_option Elab.async false
set_option linter.all false
set_option maxRecDepth 100000
namespace L2
open PySem PySem.Spec PyProof.Rows
end L2
set_option Elab.async false
set_option linter.all false
set_option maxRecDepth 100000
namespace L2
open PySem PySem.Spec PyProof.Rows
end L2
set_option Elab.async false
set_option linter.all false
set_option maxRecDepth 100000
namespace L2
open PySem PySem.Spec PyProof.Rows
end L2
section
set_option maxHeartbeats 4000000
set_option Elab.async false
set_option linter.all false
set_option maxRecDepth 100000
namespace L2
open PySem PySem.Spec PyProof.Rows
end L2
end
namespace KM
theorem Qv (a b:Rat):Rat.divInt (a.num*b.den - b.num*a.den) (a.den*b.den)=a - b:=by
 rw[Rat.sub_def',<-Rat.divInt_ofNat];simp
end KM
section
set_option maxHeartbeats 8000000
set_option Elab.async false
set_option linter.all false
set_option maxRecDepth 100000
namespace L2
open PySem PySem.Spec PyProof.Rows
end L2
namespace L2
open PySem PySem.Spec PyProof.Rows
end L2
namespace L2
open PySem PySem.Spec PyProof.Rows
end L2
namespace L2
open PySem PySem.Spec PyProof.Rows
end L2
namespace L2
open PySem PySem.Spec PyProof.Rows
end L2
namespace L2
open PySem PySem.Spec PyProof.Rows
end L2
namespace L2
open PySem PySem.Spec PyProof.Rows
end L2
namespace L2
open PySem PySem.Spec PyProof.Rows
end L2
namespace L2
open PySem PySem.Spec PyProof.Rows
end L2
namespace L2
open PySem PySem.Spec PyProof.Rows
end L2
namespace L2
open PySem PySem.Spec PyProof.Rows
end L2
namespace Att
open PySem PySem.W PySem.Calls PyProof.Rows
end Att
namespace L2
open PySem PySem.Spec PyProof.Rows
end L2
namespace L2
open PySem PySem.Spec PyProof.Rows
end L2
end
section
set_option maxHeartbeats 4000000
set_option Elab.async false
set_option linter.all false
set_option maxRecDepth 100000
namespace L2
open PySem PySem.Spec PyProof.Rows PySem.Builtin.Str
section
variable {X:Cx}
theorem jS:MtR X "str.startswith" (λx vs H Q=>∃a b,x = .str a/\vs=[.str b]/\Q (.bl (Txt.startswith a b)) H):=by
 intro pins s σ H x xs v us Q I rx rs h
 obtain⟨a,b,rfl,rfl,q⟩:=h
 obtain⟨t,rfl⟩:=rx
 obtain⟨u,rfl,ru⟩:=qK rs
 obtain⟨t',rfl⟩:=ru
 exact SC.startswith ⟨.bl _,H,I,rfl,q⟩
theorem XV:MtR X "str.index" (λx vs H Q=>∃a b i rest,x = .str a/\vs=[.str b]/\occurrences a b 0 a.length 1=i::rest/\Q (.int (i:Nat)) H):=by
 intro pins s σ H x xs v us Q I rx rs h
 obtain⟨a,b,i,rest,rfl,rfl,ho,q⟩:=h
 obtain⟨t,rfl⟩:=rx
 obtain⟨u,rfl,ru⟩:=qK rs
 obtain⟨t',rfl⟩:=ru
 exact SC.index ho ⟨.int _,H,I.tok _,⟨_,rfl⟩,q⟩
theorem XL:qQ X (.type "int") (λxs H Q=>∃a n,xs=[.str a]/\PySem.intText? a=some n/\a.length<=640/\Q (.int n) H):=by
 intro pins s σ H xs us Q I r h
 obtain⟨a,n,rfl,hn,hl,q⟩:=h
 obtain⟨u,rfl,ru⟩:=qK r
 obtain⟨t,rfl⟩:=ru
 exact PySem.W.KIN.call_text hn hl ⟨.int n,H,I.tok _,⟨_,rfl⟩,q⟩
theorem jY:∀l:List (Str×Tok),zS ((l.map (·.1)).map V.str) (strValues l)
 | []=>.nil
 | (x,t)::l=>.cons ⟨t,rfl⟩ (jY l)
theorem vt:MtR X "str.split" (λx vs H Q=>∃a b,x = .str a/\vs=[.str b]/\(b.length == 0)=false/\a.length+2<=sizeLine/\∀l,H l=none->Q (.ref l) (upd H l (.lst ((Txt.split a b).map V.str)))):=by
 intro pins s σ H x xs v us Q I rx rs h
 obtain⟨a,b,rfl,rfl,hy,hz,q⟩:=h
 obtain⟨t,rfl⟩:=rx
 obtain⟨u,rfl,ru⟩:=qK rs
 obtain⟨t',rfl⟩:=ru
 have hn:(partsBetween a (occurrences a b 0 a.length (a.length+1)) b.length).length<=sizeLine:=by
  have:=StrLaws.occ_length_le a b 0 a.length (a.length+1)
  unfold partsBetween
  simp only[List.length_map,List.length_zip,List.length_cons,List.length_append,List.length_nil]
  omega
 have hx:a.length<=sizeLine:=by omega
 have fin:∀(l:List (Str×Tok)) (tk:Nat),l.map (·.1)=Txt.split a b->l.length<=sizeLine->EP X pins σ Q (.ref s.heap.objs.size) { s with heap:=s.heap.push { cls:=.type "list",data:=.seq (strValues l).toArray },toks:=tk }:=λl tk e hl=>by
  refine⟨.ref s.heap.objs.size,_,I.laid (t':=tk) (o:=.lst ((Txt.split a b).map V.str)) (λb ob q=>Heap.get?_push_of_some _ q) (Nat.le_refl _) ?_,rfl,q _ (I.hok.fresh (Nat.le_refl _))⟩
  refine⟨?_,strValues l,0,?_,Heap.get?_push_size _ rfl⟩
  ·rw[<-e,List.length_map,List.length_map];exact hl
  ·rw[<-e];exact jY l
 cases h1:(decide (a.length<b.length) || decide (strKind a<strKind b))
 ·cases hf:(occurrences a b 0 a.length (a.length+1)).isEmpty
  ·refine call_meets F.slot_str_split (typeIs_str _ _ _) F.entry_str_split (F.args_str_split_2 _ _) (meets_str_split_sep a b t t' h1 hy hf hx hn) ?_
   show wants _ _ _ { s with toks:=_,heap:=s.heap.push { cls:=.type "list",data:=.seq (strsFrom s.toks (partsBetween a (occurrences a b 0 a.length (a.length+1)) b.length)).toArray } }
   rw[strsFrom_eq]
   exact fin (numbered s.toks _) _ ((numbered_texts _ _).trans ((if_neg (ne_true_of_eq_false h1)).trans (if_neg (ne_true_of_eq_false hf))).symm) (by rw[<-List.length_map (f:=Prod.fst),numbered_texts];exact hn)
  ·exact call_meets F.slot_str_split (typeIs_str _ _ _) F.entry_str_split (F.args_str_split_2 _ _) (meets_str_split_not_found a b t t' h1 hy hf)
    (fin [(a,t)] s.toks ((if_neg (ne_true_of_eq_false h1)).trans (if_pos hf)).symm (by show 1<=sizeLine;decide))
 ·exact call_meets F.slot_str_split (typeIs_str _ _ _) F.entry_str_split (F.args_str_split_2 _ _) (meets_str_split_cannot_occur a b t t' h1)
   (fin [(a,t)] s.toks (if_pos h1).symm (by show 1<=sizeLine;decide))
theorem j1:∀{ts:List Str}{its:List Value},zS (ts.map V.str) its->∃l:List (Str×Tok),its=strValues l/\l.map (·.1)=ts
 | [],_,.nil=>⟨[],rfl,rfl⟩
 | x::ts,_,.cons ⟨t,e⟩ r=>by
  obtain⟨l,e1,e2⟩:=j1 r
  exact⟨(x,t)::l,by rw[e,e1];rfl,by rw[List.map_cons,e2]⟩
theorem Xj:MtR X "str.join" (λx vs H Q=>∃a p ts,x = .str a/\vs=[.ref p]/\SqL X.K H p (ts.map V.str)/\JoinOk a ts=true/\Q (.str (Txt.join a ts)) H):=by
 intro pins s σ H x xs v us Q I rx rs h
 obtain⟨a,p,ts,rfl,rfl,hq,hj,q⟩:=h
 obtain⟨t,rfl⟩:=rx
 obtain⟨u,rfl,ru⟩:=qK rs
 cases ru
 obtain⟨its,r,pl,hz⟩:=I.list hq
 obtain⟨l,rfl,e⟩:=j1 r
 exact SC.join pl.isList e hj λt' k=>⟨.str _,H,I.tok _,⟨_,rfl⟩,q⟩
theorem Zz {v:Value}{o:Option Int}(h:IsPart v o):∃l:Option (Int×Tok),v=partValue l/\l.map (·.1)=o:=by
 cases h with
 | none=>exact⟨none,rfl,rfl⟩
 | int i t=>exact⟨some (i,t),rfl,rfl⟩
def rSlS:V->Option Int->Option Int->Hp->VK->Prop:=λx lo hi H Q=>∃a,x = .str a/\a.length<=sizeLine/\Q (.str (Txt.slice a lo hi)) H
theorem jB:SlR X rSlS:=by
 intro pins s σ H x v vl vu lo hi sl Q I rx hs pl pu h
 obtain⟨a,rfl,hz,q⟩:=h
 obtain⟨t,rfl⟩:=rx
 obtain⟨l,rfl,el⟩:=Zz pl
 obtain⟨u,rfl,eu⟩:=Zz pu
 subst el eu
 refine⟨"str",_,F.slot_str_getitem.lookup,typeIs_str _ _ _,wpAny_getItem_str_slice (l:=l) (u:=u) (st:=none) hs rfl (post_val_or_str ⟨Nat.le_trans (Txt.slice_le a _ _) hz,λt' k=>⟨.str _,H,I.tok _,⟨_,rfl⟩,q⟩⟩)⟩
end
def Its (a:Str):It:=⟨λi _=>i<a.cps.size,λi H x H'=>H'=H/\∃c,a.cps[i]? = some c/\x = .str ⟨#[c]⟩,λi _=>a.cps.size<=i⟩
theorem Vb {P:Program}{w:World}{K:PySem.W.Frag}{tg:Expr}(a:Str) (t:Tok) (it:Addr) (ty:String) (hty:ty = "str_ascii_iterator"\/ty = "str_iterator"):Qc P w K tg (Its a) [it] it (λi h=>h.IsStrIter it ty a t i) where
 mem:=by simp
 obj:=λi h st b hb=>by
  have e:b=it:=by simpa using hb
  subst e
  obtain⟨o,e,c,d⟩:=st
  exact⟨o,e,λv z=>by rw[d]at z;cases z⟩
 keep:=λi h h' st k=>let ⟨o,e,r⟩:=st;⟨o,k it (by simp) o e,r⟩
 item:=by
  intro X hP hw hK hc i pins s σ H E I hf st hg
  subst hP hw hK
  obtain⟨f0,f1,f2,f3,f4,f5⟩:=hf it (by simp)
  have hg:i<a.cps.size:=hg
  have hx:a.cps[i]? = some a.cps[i]:=by simp[hg]
  have fin:∀(h':Heap) (tk tk':Nat),h'.IsStrIter it ty a t (i+1)->Heap.SameBut it s.heap h'->∃u,some (Value.str ⟨#[a.cps[i]]⟩ tk')=some u/\wpAny (model X.prog X.w) X.A (letOwnedTupleGo tg (.ref it) u) (λ_ s2=>∃x H',Inv X pins σ H' s2/\xf x u/\(Its a).yld i H x H'/\s2.heap.IsStrIter it ty a t (i+1)/\∀b∈[it],H' b=none) E { s with heap:=h',toks:=tk }:=λh' tk tk' st' sb=>by
   have I1:Inv X pins σ H { s with heap:=h',toks:=tk }:=I.turned (t':=tk) (λb o hb e=>(sb.2 b hb).trans e) f0 f1 f3 f4 f5
   obtain⟨o,e,c,d⟩:=id st'
   exact⟨_,rfl,Xg (s:={ s with heap:=h',toks:=tk }) e c d (by rcases hty with rfl | rfl <;> decide) ⟨.str ⟨#[a.cps[i]]⟩,H,I1,⟨_,rfl⟩,⟨rfl,_,hx,rfl⟩,st',λb hb=>(hf b hb).1⟩⟩
  rcases hty with rfl | rfl
  ·exact wpAny_pyNext_ascii_item st hx λh' st' sb=>fin h' _ _ st' sb
  ·exact wpAny_pyNext_wide_item st hx λh' st' sb=>fin h' _ _ st' sb
 done:=by
  intro X hP hw hK hc i pins s σ H E I hf st hg
  subst hP hw hK
  obtain⟨f0,f1,f2,f3,f4,f5⟩:=hf it (by simp)
  have hg:a.cps.size<=i:=hg
  have hx:a.cps[i]? = none:=by simp[hg]
  rcases hty with rfl | rfl
  ·exact wpAny_pyNext_ascii_end (I.ok.hd hc) st hx λh' eb=>⟨rfl,I.turned (t':=s.toks) (λb o hb e=>eb b o hb e) f0 f1 f3 f4 f5⟩
  ·exact wpAny_pyNext_wide_end (I.ok.hd hc) st hx λh' eb=>⟨rfl,I.turned (t':=s.toks) (λb o hb e=>eb b o hb e) f0 f1 f3 f4 f5⟩
 self:=λ_ _ _ _ _ st h=>by
  rcases hty with rfl | rfl
  ·exact wpAny_pyIter_striter_ascii st h
  ·exact wpAny_pyIter_striter_wide st h
def zaN (tl:TE):TI:=λσ H R=>tl σ H λx H1=>∃a,x = .str a/\R (Its a) H1
end L2
end
section
set_option maxHeartbeats 4000000
set_option Elab.async false
set_option linter.all false
set_option maxRecDepth 100000
namespace L2
open PySem PySem.Spec PyProof.Rows PySem.Builtin.Str
section
variable {X:Cx}{tg:Expr}
theorem QJ {l:Expr}{tl:TE}(hl:PE X l tl):PI X tg l (zaN tl):=by
 intro pins s σ H R I h
 refine thn (hl pins s σ H _ I h) λv s1 ⟨x,H1,I1,r1,q1⟩=>?_
 obtain⟨a,e,q⟩:=q1
 subst e
 obtain⟨t,rfl⟩:=r1
 have fin:∀(ty:String) (o:Obj),(ty = "str_ascii_iterator"\/ty = "str_iterator")->(s1.heap.push o).IsStrIter s1.heap.objs.size ty a t 0->PIE X pins σ tg R (.ref s1.heap.objs.size) { s1 with heap:=s1.heap.push o }:=λty o hty st=>by
  refine⟨s1.heap.objs.size,[s1.heap.objs.size],_,_,H1,rfl,I1.kept (t':=s1.toks) λb o e=>Heap.get?_push_of_some _ e,Vb a t _ ty hty,st,λb hb=>?_,q⟩
  have e:b=s1.heap.objs.size:=by simpa using hb
  subst e
  exact I1.fpOk (Nat.le_refl _) (I1.hok.fresh (Nat.le_refl _))
 cases ha:a.cps.all (· < 128)
 ·exact wpAny_pyIter_wide ha (fin _ _ (.inr rfl) ⟨_,Heap.get?_push_size _ rfl,rfl,rfl⟩)
 ·exact wpAny_pyIter_ascii ha (fin _ _ (.inl rfl) ⟨_,Heap.get?_push_size _ rfl,rfl,rfl⟩)
def tF3 (c:Str) (ta tb:TE):TE:=λσ H Q=>ta σ H λx H1=>∃u,x = .str u/\u.length<=1000/\tb σ H1 λy H2=>∃v,y = .str v/\v.length<=1000/\Q (.str (u++c++v)) H2
theorem zW (a b:Str):(a++b).length=a.length+b.length:=strLen_append a b
theorem zaW {a b:Expr}{ta tb:TE}{c:Str}{j:Nat}{p1 p2 p3 pos:Pos}(ha:PE X a ta) (hb:PE X b tb) (hc:c.length<=1000) :
  PE X (.JoinedStr [.FormattedValue a (-1) none p1,.Constant (.str c) j p2,.FormattedValue b (-1) none p3] pos) (tF3 c ta tb):=by
 intro pins s σ H Q I h
 refine JoinedStr_many (joinParts_cons (FormattedValue_plain (thn (ha pins s σ H _ I h) λv s1 ⟨x,H1,I1,r1,q1⟩=>?_)))
 obtain⟨u,rfl,lu,q1⟩:=q1
 obtain⟨t,rfl⟩:=r1
 have L:(3000:Nat)<=sizeLine:=by decide
 refine formatField_str (λt' tk=>⟨by rw[zW];show 0+_<=_;omega,joinParts_cons (Calls.Constant_str ⟨by rw[zW,zW];show 0+_+_<=_;omega,joinParts_cons (FormattedValue_plain (thn (hb pins _ σ H1 _ ((I1.tok (t:=tk)).tok (t:=tk+1)) q1) λv s2 ⟨y,H2,I2,r2,q2⟩=>?_))⟩)⟩) (by omega)
 obtain⟨v',rfl,lv,q2⟩:=q2
 obtain⟨t2,rfl⟩:=r2
 have e0:Str.empty++u=u:=by
  cases u;show Str.mk (#[]++_)=_;simp
 refine formatField_str (λt' tk=>⟨by rw[e0,zW,zW];omega,joinParts_nil (by rw[e0];exact⟨.str _,H2,(I2.tok (t:=tk)).tok (t:=tk+1),⟨_,rfl⟩,q2⟩) (by rw[e0,zW,zW];omega)⟩) (by omega)
theorem XG {a:Str}(h:(a.length == 0)=true):a = ⟨#[]⟩:=by
 cases a with
 | mk w =>
  have:w.size=0:=by simpa [Str.length]using h
  rw[Array.eq_empty_of_size_eq_zero this]
def PAp (X:Cx) (es:List Expr) (t:TA):Prop :=
 ∀(pos:Pos) (pins:List (Addr×Obj)) (s:Shared) (σ:St) (H:Hp) (Q:List V->Hp->Prop),Inv X pins σ H s->0<s.toks->t σ H Q->wpAny (model X.prog X.w) X.A (spliced (backTo pos (starEach es X.env))) (AP X pins σ Q) X.xe s
theorem PA.p {es:List Expr}{t:TA}(h:PA X es t):PAp X es t:=λpos pins s σ H Q I _ q=>h pos pins s σ H Q I q
theorem Ve {i:Nat}{x:Str}{pos:Pos}{pins:List (Addr×Obj)}{s:Shared}{σ:St}{H:Hp}{Q:Value->Shared->Prop}{v:V}(hN:X.N[i]? = some x) (hv:Vis X.env.scope x) (hd:(x == ("__debug__":Str))=false) (hcd:(x == ("__classdict__":Str))=false) (I:Inv X pins σ H s) (e:σ[i]? = some (some v)) (q:∀u,xf v u->Q u s):wpAny (model X.prog X.w) X.A (eval (.Name x pos) X.env) Q X.xe s:=by
 obtain⟨m,hn,hl⟩:=I.loc
 obtain⟨u,r,l⟩:=hl i x v hN e hv
 have fin:=q u r
 rcases l with⟨hk,hm⟩ | ⟨hk,c,hc,hcell⟩
 ·exact wpAny_Name (wpAny_loadName_local I.ok.kind hk hn hm fin) hd
 ·rcases hk with hk | hk
  ·exact wpAny_Name (wpAny_loadName_cell I.ok.kind hk hc hcell fin) hd
  ·exact wpAny_Name (wpAny_loadName_free I.ok.kind hk hc hcell fin hcd) hd
def zbq (i:Nat) (c:Str) (t:TA):TA:=λσ H Q=>∃a,σ[i]? = some (some (.str a))/\a.length+c.length<=sizeLine/\t σ H λxs H1=>Q (.str (a++c)::xs) H1
theorem VN {i:Nat}{x:Str}{c:Str}{np cp pos:Pos}{k:Nat}{es:List Expr}{t:TA}(hr:PAp X es t) (hN:X.N[i]? = some x:=by rfl) (hv:Vis X.env.scope x:=by first | exact Or.inl rfl | exact Or.inr (Or.inl rfl) | exact Or.inr (Or.inr rfl)) (hd:(x == ("__debug__":Str))=false:=by decide)
  (hcd:(x == ("__classdict__":Str))=false:=by decide) (hs:starEach (.BinOp (.Name x np) .Add (.Constant (.str c) k cp) pos::es) X.env=(false,eval (.BinOp (.Name x np) .Add (.Constant (.str c) k cp) pos) X.env)::starEach es X.env:=by rfl) :
  PA X (.BinOp (.Name x np) .Add (.Constant (.str c) k cp) pos::es) (zbq i c t):=by
 intro pos' pins s σ H Q I h
 obtain⟨a,e,hz,q⟩:=h
 rw[hs]
 refine Calls.spliced_cons (wpAny_BinOp (Ve hN hv hd hcd I e λu ru=>?_))
 obtain⟨tu,rfl⟩:=ru
 refine Calls.Constant_str (PySem.P.add_str ?_)
 have fin:∀(y:Str) (ty tk:Nat),y=a++c->0<tk->wpAny (model X.prog X.w) X.A (spliced (backTo pos' (starEach es X.env))) (λus s2=>AP X pins σ Q (.str y ty::us) s2) X.xe { s with toks:=tk }:=λy ty tk ey h0 =>
  thn (hr pos' pins _ σ H _ (I.tok (t:=tk)) h0 q) λus s2 ⟨xs,H2,I2,r2,q2⟩=>⟨.str y::xs,H2,I2,.cons ⟨_,rfl⟩ r2,by rw[ey];exact q2⟩
 by_cases z1:(a.length == 0)=true
 ·rw[if_pos z1]
  have:a = ⟨#[]⟩:=XG z1
  exact fin c _ _ (by rw[this];cases c;show _=Str.mk (#[]++_);simp) (Nat.succ_pos _)
 ·rw[if_neg z1]
  by_cases z2:(c.length == 0)=true
  ·rw[if_pos z2]
   have:c = ⟨#[]⟩:=XG z2
   exact fin a _ _ (by rw[this];cases a;show _=Str.mk (_++#[]);simp) (Nat.succ_pos _)
  ·rw[if_neg z2]
   exact⟨by rw[strLen_append];exact hz,fin _ _ _ rfl (Nat.succ_pos _)⟩
def zbx (i:Nat) (c d:Str) (t:TA):TA:=λσ H Q=>∃a,σ[i]? = some (some (.str a))/\a.length+(a.length+1)*d.length<=16777216/\t σ H λxs H1=>Q (.str (Txt.replace a c d)::xs) H1
theorem zah {i:Nat}{x:Str}{c d:Str}{np ap cp dp pos pos':Pos}{k k':Nat}{es:List Expr}{t:TA}(hr:PAp X es t) (hne:(c == d)=false) (hline:(ap.endLine == pos.line)=true) (hN:X.N[i]? = some x) (hv:Vis X.env.scope x) (hd:(x == ("__debug__":Str))=false) (hcd:(x == ("__classdict__":Str))=false)
  (hs:starEach (.Call (.Attribute (.Name x np) "replace" ap) [.Constant (.str c) k cp,.Constant (.str d) k' dp] [] pos::es) X.env=(false,eval (.Call (.Attribute (.Name x np) "replace" ap) [.Constant (.str c) k cp,.Constant (.str d) k' dp] [] pos) X.env)::starEach es X.env) :
  PAp X (.Call (.Attribute (.Name x np) "replace" ap) [.Constant (.str c) k cp,.Constant (.str d) k' dp] [] pos::es) (zbx i c d t):=by
 intro pos' pins s σ H Q I h0 h
 obtain⟨a,e,hz,q⟩:=h
 rw[hs]
 refine Calls.spliced_cons (wpAny_Call_method_late rfl rfl hline rfl (Ve hN hv hd hcd I e λu ru=>?_))
 obtain⟨tu,rfl⟩:=ru
 refine⟨"str","str.replace",PySem.F.plainAttrs_str,PySem.F.slot_str_replace,PySem.F.type_str_replace,typeIs_str _ _ _,(λ_ z=>nomatch z),?_⟩
 refine Calls.callWith_builtin rfl (Calls.evalArgs_plain (Calls.spliced_cons (Calls.Constant_str (k:=k) (pos:=cp) (Calls.spliced_cons (Calls.Constant_str (k:=k') (pos:=dp) (Calls.spliced_nil ?_))))))
 have fin:∀(ty tk:Nat),0<tk->wpAny (model X.prog X.w) X.A (spliced (backTo pos' (starEach es X.env))) (λus s2=>AP X pins σ Q (.str (Txt.replace a c d) ty::us) s2) X.xe { s with toks:=tk }:=λty tk h0 =>
  thn (hr pos' pins _ σ H _ (I.tok (t:=tk)) h0 q) λus s2 ⟨xs,H2,I2,r2,q2⟩=>⟨.str _::xs,H2,I2,.cons ⟨_,rfl⟩ r2,q2⟩
 have e24:(2:Nat)^24=16777216:=by decide
 have hl:tooLong (a.length+(occurrences a c 0 a.length (a.length+1)).length*d.length)=false:=by
  have h1:=StrLaws.occ_length_le a c 0 a.length (a.length+1)
  have h2:(occurrences a c 0 a.length (a.length+1)).length*d.length<=(a.length+1)*d.length:=Nat.mul_le_mul_right _ h1
  unfold tooLong sizeLine
  exact decide_eq_false (by omega)
 refine call_gives F.slot_str_replace (typeIs_str _ _ _) F.entry_str_replace (F.args_str_replace_3 _ _ _) (gives_str_replace a c d tu s.toks (s.toks+1) λ_=>⟨Bool.or_eq_false_iff.mpr ⟨beq_eq_false_iff_ne.mpr (Nat.ne_of_gt h0),beq_eq_false_iff_ne.mpr (Nat.succ_ne_zero _)⟩,beq_eq_false_iff_ne.mpr (Nat.ne_of_lt (Nat.lt_succ_self _)),hne,hl⟩) ?_
 have ft:=fin
 unfold Txt.replace at ft
 cases hc:((occurrences a c 0 a.length (a.length+1)).isEmpty || (c.length == 0&&d.length == 0))
 ·rw[hc]at ft
  simp only[Bool.false_eq_true,if_false]at ft ⊢
  exact⟨fits_replaced c hz,ft _ _ (by simp)⟩
 ·rw[hc]at ft
  simp only[if_true]at ft ⊢
  exact ft tu _ (by simp)
theorem QH {i:Nat}{x:Str}{c d:Str}{np ap cp dp pos:Pos}{k k':Nat}{es:List Expr}{t:TA}(hr:PAp X es t) (hne:(c == d)=false:=by decide) (hline:(ap.endLine == pos.line)=true:=by rfl) (hN:X.N[i]? = some x:=by rfl) (hv:Vis X.env.scope x:=by first | exact Or.inl rfl | exact Or.inr (Or.inl rfl) | exact Or.inr (Or.inr rfl)) (hd:(x == ("__debug__":Str))=false:=by decide) (hcd:(x == ("__classdict__":Str))=false:=by decide)
  (hs:starEach (.Call (.Attribute (.Name x np) "replace" ap) [.Constant (.str c) k cp,.Constant (.str d) k' dp] [] pos::es) X.env=(false,eval (.Call (.Attribute (.Name x np) "replace" ap) [.Constant (.str c) k cp,.Constant (.str d) k' dp] [] pos) X.env)::starEach es X.env:=by rfl) :
  PAp X (.Call (.Attribute (.Name x np) "replace" ap) [.Constant (.str c) k cp,.Constant (.str d) k' dp] [] pos::es) (zbx i c d t):=zah (pos':=pos) hr hne hline hN hv hd hcd hs
end
end L2
end
section
set_option maxHeartbeats 4000000
set_option Elab.async false
set_option linter.all false
set_option maxRecDepth 100000
namespace L2
open PySem PySem.Spec PyProof.Rows
def zbz (C:Addr) (tb:XJ->TS) (ts:TS):TS:=λD σ H=>tb (λC' _ σ' H'=>C'=C/\ts D σ' H') D σ H
section
variable {X:Cx}{x:Str}{C:Addr}{bmB:List Value}{newId:String}{np hpos pos:Pos}{body suite:List Stmt}{b₀:Stmt}{tb:XJ->TS}{ts:TS}
theorem Xs (hst:X.stack=X.env::X.outer) (hfr:X.env.frame=some X.env.locals) (O:OwnCls x C bmB newId X.mg X.base) (hbase:bmB.contains (.type "BaseException")=true)
  (hb:∀pins W J,Z9 (X.tried pins W) J->PSs (X.tried pins W) body (tb J)) (hs:∀pins a oe d vs,oe.cls = .ref C->oe.dict=d->oe.data = .fields vs->PSs (X.suite pins a oe) (b₀::suite) ts)
  (hg:Gl X x:=by rfl) (hd:(x == ("__debug__":Str))=false:=by decide) :
  PS X (.Try body [.ExceptHandler (some (.Name x np)) none (b₀::suite) hpos] [] [] pos) (zbz C tb ts):=by
 intro pins s σ H D I h
 have hb':=hb pins (λe s₁=>wpAny (model X.prog X.w) X.A (noteFrame e X.env) (λ_ s₂=>wpAny (model X.prog X.w) X.A (setFlight e none) (λ_ s₃ =>
  wpAny (model X.prog X.w) X.A (handleBy e X.env [.ExceptHandler (some (.Name x np)) none (b₀::suite) hpos]) (SP X pins D) X.xe s₃) X.xe s₂) X.xe s₁) _ ?_ [] s σ H D (I.tried _) h
 ·refine wpAny_Try_except (wpAny_mono hb' (λf s1 hf=>?_) λ_ _ z=>z)
  cases f with
  | next=>obtain⟨σ',H',I',q⟩:=hf;exact wpAny_execs_nil ⟨σ',H',I'.untried I.ok,q⟩
  | brk=>obtain⟨σ',H',I',q⟩:=hf;exact⟨σ',H',I'.untried I.ok,q⟩
  | cont=>obtain⟨σ',H',I',q⟩:=hf;exact⟨σ',H',I'.untried I.ok,q⟩
  | ret u=>obtain⟨v,σ',H',I',r,q⟩:=hf;exact⟨v,σ',H',I'.untried I.ok,r,q⟩
 ·intro pins' σ' H1 s1 a C' H' s' B a0 dct I1 F hq
  obtain⟨rfl,q⟩:=hq
  have I1:=I1.untried I.ok
  have hfrm:X.A.frames=some (X.env::X.outer):=by rw[<-hst];exact I.ok.frames
  have F:Fly X.prog X.w X.stack H1 s1 C' H' a s' B a0 dct:=F
  have Ffl:FlX B (X.env::X.outer) a (.ref C') a0 dct s'.heap:=by rw[<-hst];exact F.fly
  refine Xi hfrm hfr Ffl λh4 held up4=>?_
  refine v7 held λh5 fl5 up5=>?_
  have F5:=F.move (by rw[hst];exact fl5) (up4.trans up5)
  have I5:=I1.call' F5.os F5.un F5.hok F5.bare (λb z=>absurd z (by simp))
  obtain⟨ob,hob,hobc⟩:=fl5.there
  obtain⟨tl,N,nm,q',bs,hdct,sn,sub,ab,col,dd,k0,k1,k2,k3,k5,mN,hC,hN',hni,T⟩:=O.obj
  refine wpAny_handleBy_cons (codeAny_handlers_test (vq (X:=X.testing a) (I5.test a) hg O.bound ?_ hd)) (by intro q;cases q)
  obtain⟨hh,g,d,tk,os⟩:=s'
  refine wpAny_excMatches_sub_self (I5.bk _ _ hC) hob hobc (T.hasType hbase) (codeAny_handlers_suite ?_)
  refine v7 fl5.held λh6 fl6 up6=>?_
  have F6:=F5.move (by rw[hst];exact fl6) up6
  have I6:=I1.call' F6.os F6.un F6.hok F6.bare (λb z=>absurd z (by simp))
  obtain⟨oe,ws,hoe,hoec,hoet,hoed⟩:=fl6.first
  refine wpAny_mono (hs pins a oe dct ws hoec hoet hoed [] _ _ H' D (I6.suite hoe hoed F6.untracked) q) (λf s8 hf=>?_) λ_ _ z=>z.elim
  cases f with
  | next=>obtain⟨σ8,H8,I8,q8⟩:=hf;exact⟨_,_,I8.unsuite I.ok,q8⟩
  | brk=>obtain⟨σ8,H8,I8,q8⟩:=hf;exact⟨_,_,I8.unsuite I.ok,q8⟩
  | cont=>obtain⟨σ8,H8,I8,q8⟩:=hf;exact⟨_,_,I8.unsuite I.ok,q8⟩
  | ret u=>obtain⟨v,σ8,H8,I8,r8,q8⟩:=hf;exact⟨_,_,_,I8.unsuite I.ok,r8,q8⟩
end
end L2
end
section
set_option maxHeartbeats 4000000
set_option Elab.async false
set_option linter.all false
set_option maxRecDepth 100000
namespace L2
open PySem PySem.Spec PyProof.Rows
open MeetsSeq MeetsSeq2 MeetsSeq3 SeqRoads2 SeqAt AutoSeq1
def isN:Value->Bool
 | .none=>true
 | _=>false
theorem JM {X:Cx}{pins:List (Addr×Obj)}{σ:St}{H:Hp}{s:Shared}{x:V}{c:PyData}{u:Value}(I:Inv X pins σ H s) (h:RdD H x c) (r:xf x u):isN u=PyData.eqv c .none:=by
 cases h with
 | non=>cases(show u=Value.none from r);rfl
 | bl b=>cases(show u=Value.bool b from r);rfl
 | int i=>obtain⟨t,rfl⟩:=(show ∃t,u=Value.int i t from r);rfl
 | str x=>obtain⟨t,rfl⟩:=(show ∃t,u=Value.str x t from r);rfl
 | @tup a xs ds e h=>cases(show u=Value.ref a from r);rfl
 | @lst a xs ds e h=>cases(show u=Value.ref a from r);rfl
theorem jl {X:Cx}{pins:List (Addr×Obj)}{σ:St}{H:Hp}{s:Shared}(I:Inv X pins σ H s) (hu:X.A.units+64<cLine):∀{xs:List V}{ds:List PyData}{us:List Value},vM H xs ds->zS xs us->(∀c∈ds,c.canLay0=true)->(∀u∈us,EqAt X.A.in1 s u .none (isN u))/\us.map isN=ds.map λc=>PyData.eqv c .none
 | _,_,_,.nil,.nil,_=>⟨λu m=>(by cases m),rfl⟩
 | _,_,_,.cons (d:=d) h t,.cons r rs,hs=>by
  obtain⟨h1,h2⟩:=jl I hu t rs λc m=>hs c (List.mem_cons_of_mem _ m)
  obtain⟨as,ra⟩:=h.reads I r
  have e:=JM I h r
  refine⟨λu m=>?_,by rw[List.map_cons,List.map_cons,h2,e]⟩
  rcases List.mem_cons.mp m with rfl | m
  ·rw[e]
   exact eqAt_reads _ .none _ _ _ _ _ _ ra .none (hs _ (List.mem_cons_self ..)) rfl (by show X.A.units+1+min d.depth 0<cLine;rw[Nat.min_zero];omega)
  ·exact h1 u m
theorem vm {α:Type}(f:α->Bool) (l:List α):l.any f=(l.map f).any id:=by rw[List.any_map];rfl
def zaY (K:PySem.W.Frag):R2:=λx y H Q=>∃p xs ds,x = .non/\y = .ref p/\SqT K H p xs/\vM H xs ds/\(∀c∈ds,c.canLay0=true)/\Q (.bl (ds.any λc=>PyData.eqv c .none)) H
theorem VL {X:Cx}(hu:X.A.units+64<cLine):OpR X (compareOp .In) (zaY X.K):=by
 intro pins s σ H x y v u Q I rx ry h
 obtain⟨p,xs,ds,rfl,rfl,hp,hd,hs,q⟩:=h
 cases ry
 cases(show v=Value.none from rx)
 obtain⟨its,r,pl,hz⟩:=I.tuple hp
 obtain⟨h1,h2⟩:=jl I hu hd r hs
 refine SeqAt.in_tupleAt isN pl (λw hw=>h1 w (by simpa using hw)) ⟨.bl _,H,I,rfl,?_⟩
 rw[show its.toArray.any isN=its.any isN by simp,vm,h2,<-vm]
 exact q
def za0 (K:PySem.W.Frag):R2:=λx y H Q=>∃p xs ds,x = .non/\y = .ref p/\SqL K H p xs/\vM H xs ds/\(∀c∈ds,c.canLay0=true)/\Q (.bl (!ds.any λc=>PyData.eqv c .none)) H
theorem VM {X:Cx}(hu:X.A.units+64<cLine):OpR X (compareOp .NotIn) (za0 X.K):=by
 intro pins s σ H x y v u Q I rx ry h
 obtain⟨p,xs,ds,rfl,rfl,hp,hd,hs,q⟩:=h
 cases ry
 cases(show v=Value.none from rx)
 obtain⟨its,r,pl,hz⟩:=I.list hp
 obtain⟨h1,h2⟩:=jl I hu hd r hs
 refine SeqAt.notIn_listAt isN pl.isList (λw hw=>h1 w (by simpa using hw)) ⟨.bl _,H,I,rfl,?_⟩
 rw[show its.toArray.any isN=its.any isN by simp,vm,h2,<-vm]
 exact q
end L2
end
section
set_option maxHeartbeats 8000000
set_option Elab.async false
set_option linter.all false
set_option maxRecDepth 100000
namespace L2
open PySem PySem.Spec PyProof.Rows
section
variable {prog:Program}{w:World}{A:Around}{E:Value->Shared->Prop}{s:Shared}
theorem Zx {h h':Heap}{l a:Addr}{items:Array Value}(hl:h.IsList l items) (he:Heap.ExtBut a h h') (n:l≠a):h'.IsList l items:=by
 obtain⟨o,ho,r⟩:=hl
 exact⟨o,he l o n ho,r⟩
theorem jk {it l:Addr}{items:Array Value}(hne:l≠it):∀(n i:Nat) (s:Shared) (Q:List Value->Shared->Prop),s.heap.IsListIter it l i->s.heap.IsList l items->i+n<=items.size →
  (∀h',h'.IsListIter it l (i+n)->Heap.SameBut it s.heap h'->Q ((items.toList.drop i).take n) { s with heap:=h' })->wpAny (model prog w) A (draw (.ref it) n) Q E s
 | 0,i,s,Q,hit,_,_,hQ=>by
  show wpAny _ _ (pure []) Q E s
  exact wpAny_pure (by simpa using hQ s.heap hit (Heap.SameBut.refl ..))
 | n+1,i,s,Q,hit,ht,hle,hQ=>by
  have hlt:i<items.size:=by omega
  show wpAny _ _ (pyNext (.ref it) >>= _) Q E s
  refine wpAny_bind (wpAny_pyNext_list_item hit ht (x:=items[i]) (by simp[hlt]) λh₁ hit₁ hs₁=>?_)
  refine wpAny_bind (wpAny_holding (jk hne n (i+1) _ _ hit₁ (Zx ht hs₁.extBut hne) (by omega) λh₂ hit₂ hs₂=>wpAny_pure ?_))
  have hd:items.toList.drop i=items[i]::items.toList.drop (i+1):=by simp[List.drop_eq_getElem_cons,hlt]
  have:=hQ h₂ (by rw[show i+(n+1)=i+1+n by omega];exact hit₂) (hs₁.trans hs₂)
  rw[hd,List.take_succ_cons]at this
  exact this
theorem vK {l:Addr}{items:Array Value}{Q:List Value->Shared->Prop}(hh:A.handled=none) (ht:s.heap.IsList l items)
  (hQ:∀h',Heap.ExtBut s.heap.objs.size s.heap h'->Q items.toList { s with heap:=h' }):wpAny (model prog w) A (unpackItems (.ref l) items.size none) Q E s:=by
 have hlt:l≠s.heap.objs.size:=by obtain⟨o,ho,_⟩:=ht;exact Nat.ne_of_lt (Heap.lt_size ho)
 have pu:(s.heap.push { cls:=.type "list_iterator",data:=.fields #[.ref l,.int 0 0] }).IsList l items:=by
  obtain⟨o,ho,r⟩:=ht;exact⟨o,Heap.get?_push_of_some _ ho,r⟩
 unfold unpackItems
 refine wpAny_bind ?_
 unfold notIterableAtAll
 refine wpAny_bind (wpAny_specialOf ht.typeIs slot_list_iter.lookup ?_)
 refine wpAny_pure ?_
 simp only[Bool.false_eq_true,if_false]
 refine wpAny_bind (wpAny_holding (wpAny_pyIter_list ht ?_))
 refine wpAny_bind (wpAny_holding (jk hlt items.size 0 _ _ ⟨_,Heap.get?_push_size _ rfl,rfl,rfl⟩ pu (by omega) λh₁ hit₁ hs₁=>?_))
 have hall:List.take items.size (List.drop 0 items.toList)=items.toList:=by
  rw[List.drop_zero];exact List.take_of_length_le (by simp)
 rw[hall]
 rw[if_neg (by simp)]
 have ht₁:h₁.IsList l items:=Zx pu hs₁.extBut hlt
 refine wpAny_bind (wpAny_holding (wpAny_pyNext_list_end hh hit₁ ht₁ (by simp) λh₂ he₂=>?_))
 simp only[Option.isSome_none,Bool.false_eq_true,if_false]
 refine wpAny_pure (hQ h₂ λb o hb e=>he₂ b o hb (hs₁.extBut b o hb (Heap.get?_push_of_some _ e)))
end
section
variable {X:Cx}{pos:Pos}
def zaK (K:PySem.W.Frag) (n:Nat) (t:TGs):TG:=λv σ H Q=>∃a xs,v = .ref a/\SqL K H a xs/\xs.length=n/\t xs σ H Q
theorem Xp {es:List Expr}{k:Nat}{t:TGs}{n:Nat}(hc:X.calm=true) (h:PGs X es t)
  (hn:(assignEach es X.env).length=n:=by rfl) (hst:(assignEach es X.env).findIdx? (·.1)=none:=by rfl):PG X (.Tuple es k pos) (zaK X.K n t):=by
 intro pins s σ H v u Q I r hw
 obtain⟨a,xs,e1,hq,hl,hw⟩:=hw
 subst e1
 cases r
 obtain⟨its,rv,ht,hz⟩:=I.list hq
 rw[assign_Tuple]
 refine wpAny_bind (wpAny_standAt ?_)
 unfold unpack
 have hsz:(assignEach es X.env).length=its.toArray.size:=by simp[hn,<-hl,rv.length]
 rw[hsz,hst]
 refine wpAny_bind (wpAny_holding (vK (I.ok.hd hc) ht.isList λh' hx=>?_))
 have I1:Inv X pins σ H { s with heap:=h' }:=I.kept (t':=s.toks) λb o e=>hx b o (Nat.ne_of_lt (Heap.lt_size e)) e
 exact h pins _ σ H xs _ Q I1 (by simpa using rv) hw
end
end L2
end
section
set_option maxHeartbeats 4000000
set_option Elab.async false
set_option linter.all false
set_option maxRecDepth 100000
namespace KK
open PySem PySem.Builtin.Str PySem.NumText
def TX (l:List Nat):Str:=⟨l.toArray⟩
theorem xu (l:List Nat):(TX l).cps.toList=l:=by simp[TX]
theorem vJ (x:Str):TX x.cps.toList=x:=by cases x;simp[TX]
theorem zE (l:List Nat):(TX l).length=l.length:=by simp[TX,Str.length]
theorem xl (a b:List Nat):TX a++TX b=TX (a++b):=by show Str.mk (a.toArray++b.toArray)=Str.mk (a++b).toArray;simp
theorem Z7 {a b:List Nat}(h:TX a=TX b):a=b:=by rw[<-xu a,h,xu]
theorem jH (l:List Nat) (i j:Nat):strSub (TX l) i j=TX ((l.drop i).take (j - i)):=by
 rw[<-vJ (strSub (TX l) i j),StrLaws.strSub_toList,xu]
theorem Qd {l ys:List Nat}{k:Nat}:StrLaws.At (TX l) (TX ys) (TX l).length k↔k+ys.length<=l.length/\(l.drop k).take ys.length=ys:=by
 unfold StrLaws.At
 rw[StrLaws.subAt_eq,xu,xu,zE,zE,beq_iff_eq]
theorem vo {l ys:List Nat}{k j c:Nat}(h:StrLaws.At (TX l) (TX ys) (TX l).length k) (e:ys[j]? = some c):l[k+j]? = some c:=by
 obtain⟨_,h⟩:=Qd.mp h
 have hj:j<ys.length:=(List.getElem?_eq_some_iff.mp e).1
 rw[<-h,List.getElem?_take_of_lt hj,List.getElem?_drop]at e
 exact e
theorem vO (a ys b:List Nat):StrLaws.At (TX (a++ys++b)) (TX ys) (TX (a++ys++b)).length a.length:=by
 refine Qd.mpr ⟨by simp,?_⟩
 rw[List.append_assoc,List.drop_left,List.take_left]
theorem j7 (x:Str):1<=Builtin.Str.strKind x:=by unfold Builtin.Str.strKind;split;decide;split <;> decide
theorem ZG {x y:Str}(hy:1<=y.length) (h:∀k,¬StrLaws.At x y x.length k):Txt.split x y=[x]:=by
 obtain⟨f,hG,hn⟩:=StrLaws.occ_tight x y hy
 unfold Txt.split
 split
 ·rfl
 ·split
  ·rfl
  ·rename_i he
   exfalso
   cases ho:occurrences x y 0 x.length (x.length+1)with
   | nil=>rw[ho]at he;exact he rfl
   | cons c r=>rw[ho]at hG;exact h c hG.2.1
theorem Xm {x y:Str}{p:Nat}(hy:1<=y.length) (h:∀k,StrLaws.At x y x.length k↔k=p):occurrences x y 0 x.length (x.length+1)=[p]:=by
 obtain⟨f,hG,hn⟩:=StrLaws.occ_tight x y hy
 have hp:=(h p).mpr rfl
 cases ho:occurrences x y 0 x.length (x.length+1)with
 | nil=>rw[ho]at hG;have e:f=0:=hG;exact absurd hp (hn p (by omega))
 | cons c r =>
  rw[ho]at hG
  have ec:c=p:=(h c).mp hG.2.1
  subst ec
  cases r with
  | nil=>rfl
  | cons d r=>have ed:=(h d).mp hG.2.2.2.2.1;have:=hG.2.2.2.1;omega
theorem X6 {x y:Str}{p:Nat}(hy:1<=y.length) (hk:Builtin.Str.strKind y=1) (h:∀k,StrLaws.At x y x.length k↔k=p):Txt.split x y=[strSub x 0 p,strSub x (p+y.length) x.length]:=by
 have hp:=(h p).mpr rfl
 have ho:=Xm hy h
 have hf:¬(decide (x.length<y.length) || decide (Builtin.Str.strKind x<Builtin.Str.strKind y))=true:=by
  have h1:=hp.1
  have h2:=j7 x
  rw[hk]
  simp only[Bool.or_eq_true,decide_eq_true_eq]
  omega
 unfold Txt.split
 rw[if_neg hf,ho,if_neg (by simp),StrLaws.partsBetween_eq]
 rfl
theorem jD {x y:Str}{p q:Nat}(hy:1<=y.length) (hp:StrLaws.At x y x.length p) (hq:StrLaws.At x y x.length q) (hpq:p+y.length<=q):(Txt.split x y).length≠2\/Builtin.Str.strKind x<Builtin.Str.strKind y:=by
 obtain⟨f,hG,hn⟩:=StrLaws.occ_tight x y hy
 by_cases hk:Builtin.Str.strKind x<Builtin.Str.strKind y
 ·exact .inr hk
 refine .inl ?_
 have hf:¬(decide (x.length<y.length) || decide (Builtin.Str.strKind x<Builtin.Str.strKind y))=true:=by
  have h1:=hp.1
  simp only[Bool.or_eq_true,decide_eq_true_eq]
  omega
 unfold Txt.split
 rw[if_neg hf]
 cases ho:occurrences x y 0 x.length (x.length+1)with
 | nil=>rw[ho]at hG;have e:f=0:=hG;exact absurd hp (hn p (by omega))
 | cons c r =>
  rw[ho]at hG
  rw[if_neg (by simp),StrLaws.partsBetween_eq]
  cases r with
  | nil =>
   exfalso
   have ef:f=c+y.length:=hG.2.2.2
   have hc:c<=p:=by
    rcases Nat.lt_or_ge p c with z | z
    ·exact absurd hp (hG.2.2.1 p (Nat.zero_le _) z)
    ·exact z
   exact hn q (by omega) hq
  | cons d r =>
   show (strSub x 0 c::strSub x (c+y.length) d::StrLaws.partsFrom x y.length (d+y.length) r).length≠2
   obtain⟨z,w,e⟩:=StrLaws.partsFrom_ne x y.length (d+y.length) r
   rw[e];simp
theorem jq {a ys b:List Nat}{n j0 c:Nat}(ha:c∉a) (hb:c∉b) (hu:∀i,ys[i]? = some c->i=j0) (h:(a++ys++b)[n]? = some c):n=a.length+j0:=by
 rw[List.append_assoc]at h
 rcases Nat.lt_or_ge n a.length with z | z
 ·rw[List.getElem?_append_left z]at h;exact absurd (List.mem_of_getElem? h) ha
 ·rw[List.getElem?_append_right z]at h
  rcases Nat.lt_or_ge (n - a.length) ys.length with z2 | z2
  ·rw[List.getElem?_append_left z2]at h
   have:=hu _ h
   omega
  ·rw[List.getElem?_append_right z2]at h;exact absurd (List.mem_of_getElem? h) hb
theorem vH {a ys b:List Nat}{j0 c:Nat}(hj:ys[j0]? = some c) (hk:Builtin.Str.strKind (TX ys)=1) (ha:c∉a) (hb:c∉b) (hu:∀i,ys[i]? = some c->i=j0):Txt.split (TX (a++ys++b)) (TX ys)=[TX a,TX b]:=by
 have hl:1<=ys.length:=by have:=(List.getElem?_eq_some_iff.mp hj).1;omega
 rw[X6 (p:=a.length) (by rw[zE];exact hl) hk λk=>⟨λh=>?_,λe=>by rw[e];exact vO a ys b⟩]
 ·rw[jH,jH,zE,zE]
  have e1:((a++ys++b).drop 0).take (a.length - 0)=a:=by simp
  have e2:((a++ys++b).drop (a.length+ys.length)).take ((a++ys++b).length - (a.length+ys.length))=b:=by
   rw[show a.length+ys.length=(a++ys).length by simp,List.drop_left]
   exact List.take_of_length_le (by simp;omega)
  rw[e1,e2]
 ·have:=jq ha hb hu (vo h hj)
  omega
theorem VT {a ys b z:List Nat}{j0 c:Nat}(hj:ys[j0]? = some c) (ha:c∉a) (hb:c∉b) (hu:∀i,ys[i]? = some c->i=j0):Txt.replace (TX (a++ys++b)) (TX ys) (TX z)=TX (a++z++b):=by
 have hl:1<=ys.length:=by have:=(List.getElem?_eq_some_iff.mp hj).1;omega
 have ho:=Xm (x:=TX (a++ys++b)) (y:=TX ys) (p:=a.length) (by rw[zE];exact hl) λk=>⟨λh=>by have:=jq ha hb hu (vo h hj);omega,λe=>by rw[e];exact vO a ys b⟩
 unfold Txt.replace
 have q:((TX ys).length == 0)=false:=by rw[zE];exact beq_eq_false_iff_ne.mpr (by omega)
 rw[ho,if_neg (by rw[q];simp),StrLaws.partsBetween_eq]
 show glued (TX z) [strSub (TX (a++ys++b)) 0 a.length,strSub (TX (a++ys++b)) (a.length+(TX ys).length) (TX (a++ys++b)).length]=_
 rw[jH,jH,zE,zE]
 have e1:((a++ys++b).drop 0).take (a.length - 0)=a:=by simp
 have e2:((a++ys++b).drop (a.length+ys.length)).take ((a++ys++b).length - (a.length+ys.length))=b:=by
  rw[show a.length+ys.length=(a++ys).length by simp,List.drop_left]
  exact List.take_of_length_le (by simp;omega)
 rw[e1,e2]
 show Str.mk ((a.toArray++z.toArray)++b.toArray)=Str.mk (a++z++b).toArray
 simp
theorem qy {l ys:List Nat}{j0 c:Nat}(hj:ys[j0]? = some c) (hl:c∉l):Txt.split (TX l) (TX ys)=[TX l] :=
 ZG (by rw[zE];have:=(List.getElem?_eq_some_iff.mp hj).1;omega) λk h=>hl (List.mem_of_getElem? (vo h hj))
theorem Zj {x y p:Str}(h:Txt.split x y=[p]):p=x:=by
 have:=StrLaws.join_split x y
 rw[h]at this
 exact this
theorem ZF (x y:Str):∃p r,Txt.split x y=p::r:=by
 unfold Txt.split
 split
 ·exact⟨_,_,rfl⟩
 ·split
  ·exact⟨_,_,rfl⟩
  ·rw[StrLaws.partsBetween_eq];exact StrLaws.partsFrom_ne ..
theorem jU (l:List Nat) (a:Nat):∀m:Nat,((List.range m).map (a + ·)).filterMap (l.toArray[·]?)=(l.drop a).take m
 | 0=>by simp
 | m+1=>by
  rw[List.range_succ,List.map_append,List.filterMap_append,jU l a m,List.take_add_one,List.getElem?_drop]
  congr 1
  cases h:l[a+m]? with
  | none=>simp[h]
  | some c=>simp[h]
theorem ZC {x:Str}{lo hi:Option Int}{a b:Nat}(h:strSliceIndices lo hi 1 x.length=sliceRange a b 1) (hb:b<=x.length):Txt.slice x lo hi=TX ((x.cps.toList.drop a).take (b - a)):=by
 unfold Txt.slice
 rw[h,sliceRange_one]
 have hx:x.cps.toList.length=x.length:=by simp[Str.length]
 split
 ·rename_i hc
  have e:b - a=x.length:=by simpa using hc
  have ha:a=0\/x.length=0:=by omega
  conv=>lhs;rw[<-vJ x]
  congr 1
  rw[List.take_of_length_le (by rw[List.length_drop];omega)]
  rcases ha with rfl | z
  ·simp
  ·have:x.cps.toList=[]:=List.length_eq_zero_iff.mp (by omega)
   rw[this];simp
 ·have:=jU x.cps.toList a (b - a)
  rw[<-this]
  show Str.mk _=Str.mk _
  congr 2
theorem jC (x:Str) (i:Nat):Txt.slice x (some (i:Int)) none=TX (x.cps.toList.drop i):=by
 have hx:x.cps.toList.length=x.length:=by simp[Str.length]
 rw[ZC (a:=min i x.length) (b:=x.length) ?_ (Nat.le_refl _)]
 ·rw[List.take_of_length_le (by rw[List.length_drop];omega)]
  congr 1
  rcases Nat.le_total i x.length with z | z
  ·rw[Nat.min_eq_left z]
  ·rw[Nat.min_eq_right z,List.drop_of_length_le (by omega),List.drop_of_length_le (by omega)]
 ·unfold strSliceIndices
  simp only[show (1:Int)>0 by decide,if_true]
  congr 1
  rw[if_neg (by omega)]
  omega
theorem Z0 (x:Str) (j:Nat):Txt.slice x none (some (j:Int))=TX (x.cps.toList.take j):=by
 have hx:x.cps.toList.length=x.length:=by simp[Str.length]
 rw[ZC (a:=0) (b:=min j x.length) ?_ (Nat.min_le_right _ _)]
 ·rw[List.drop_zero,Nat.sub_zero]
  congr 1
  rcases Nat.le_total j x.length with z | z
  ·rw[Nat.min_eq_left z]
  ·rw[Nat.min_eq_right z,List.take_of_length_le (by omega),List.take_of_length_le (by omega)]
 ·unfold strSliceIndices
  simp only[show (1:Int)>0 by decide,if_true]
  congr 1
  rw[if_neg (by omega)]
  omega
theorem jF (x:Str) (c:Nat):Txt.startswith x ⟨#[c]⟩=decide (x.cps.toList.head? = some c):=by
 have hx:x.cps.toList.length=x.length:=by simp[Str.length]
 unfold Txt.startswith
 rw[StrLaws.subAt_eq]
 show (decide (0+1<=x.length)&&((x.cps.toList.drop 0).take 1 == [c]))=_
 rw[List.drop_zero,<-hx]
 cases x.cps.toList with
 | nil=>rfl
 | cons d r =>
  simp
  by_cases e:d=c
  ·simp[e]
  ·simp[e]
end KK
end
section
set_option maxHeartbeats 4000000
set_option Elab.async false
set_option linter.all false
set_option maxRecDepth 100000
namespace KK
open PySem PySem.Builtin.Str PySem.NumText
def qD (c:Nat):Bool:=decide (48<=c)&&decide (c<=57)
def x5 (l:List Nat):Bool:=decide (1<=l.length)&&decide (l.length<=300)&&l.all qD&&(decide (l=[48]) || !decide (l.head? = some 48))
def rdN (x:Str):Option Int:=if x5 x.cps.toList=true then some ((digitsVal x.cps.toList:Nat):Int)else none
def rdW (x:Str):Option Int:=if x.cps.toList.head? = some 45 then(match rdN (TX (x.cps.toList.drop 1))with | some n=>if n=0 then none else some (-n) | none=>none)else rdN x
def xQ (t u:Int):Bool:=decide (1<=u)&&decide ((Int.gcd (t.natAbs:Int) u:Nat)=1)
def rdR (x:Str):Option (Int×Int):=match Txt.split x (TX [47])with
 | [_]=>(rdW x).map λt=>(t,1)
 | [a,b]=>(match rdW a,rdN b with
  | some t,some u=>if decide (u=1)=false/\xQ t u=true then some (t,u)else none
  | _,_=>none)
 | _=>none
abbrev Wx:=Option ((Int×Int)×(Int×Int))
def xA (x:Str):Option Wx:=if x=TX [45]then some none else match Txt.split x (TX [32])with
 | [a,b]=>(match rdR a,rdR b with
  | some p,some q=>some (some (p,q))
  | _,_=>none)
 | _=>none
def okW:Wx->Wx->Bool
 | some u,some v=>decide (u.1.1*v.1.2<v.1.1*u.1.2)
 | _,_=>true
def xP (x:Str):Option (Wx×Wx):=match Txt.split x (TX [32,124,32])with
 | [a,b]=>(match xA a,xA b with
  | some u,some v=>if okW u v=true then some (u,v)else none
  | _,_=>none)
 | _=>none
def fig (n:Nat):List Nat:=(Nat.toDigits 10 n).map Char.toNat
theorem vQ {n:Nat}(h:n<10):fig n=[48+n]:=by
 unfold fig
 rw[Nat.toDigits_of_lt_base h]
 have:∀m:Nat,m<10->(Nat.digitChar m).toNat=48+m:=by decide
 show [(Nat.digitChar n).toNat]=_
 rw[this n h]
theorem ZL {n:Nat}(h:10<=n):fig n=fig (n/10)++[48+n % 10]:=by
 have hm:n % 10<10:=Nat.mod_lt n (by decide)
 have t:Nat.toDigits 10 (n/10)++Nat.toDigits 10 (n % 10)=Nat.toDigits 10 (10*(n/10)+n % 10):=Nat.toDigits_append_toDigits (by decide) (by omega) hm
 rw[Nat.div_add_mod]at t
 have:fig n=fig (n/10)++fig (n % 10):=by unfold fig;rw[<-t,List.map_append]
 rw[this,vQ hm]
theorem qw (n:Nat):(∀c∈fig n,48<=c/\c<=57)/\fig n≠[]/\digitsVal (fig n)=n/\(0<n->(fig n).head?≠some 48):=by
 induction n using Nat.strongRecOn with
 | _ n ih =>
  by_cases h:n<10
  ·rw[vQ h]
   refine⟨λc m=>?_,by simp,?_,λz=>?_⟩
   ·cases List.mem_singleton.mp m;omega
   ·show 0*10+(48+n - 48)=n;omega
   ·show some (48+n)≠some 48
    intro e;injection e with e;omega
  ·obtain⟨a1,a2,a3,a4⟩:=ih (n/10) (by omega)
   rw[ZL (by omega)]
   refine⟨λc m=>?_,by simp,?_,λ_=>?_⟩
   ·rcases List.mem_append.mp m with m | m
    ·exact a1 c m
    ·cases List.mem_singleton.mp m;omega
   ·rw[digitsVal_snoc,a3];omega
   ·rw[List.head?_append]
    have:=a4 (by omega)
    cases hf:fig (n/10)with
    | nil=>exact absurd hf a2
    | cons c r=>rw[hf]at this;simpa using this
theorem vc {n k:Nat}(hk:0<k) (h:n<10^k):(fig n).length<=k:=by
 induction k generalizing n with
 | zero=>omega
 | succ k ih =>
  by_cases z:n<10
  ·rw[vQ z];simp
  ·have hk0:0<k:=by
    rcases Nat.eq_zero_or_pos k with rfl | z2
    ·simp at h;omega
    ·exact z2
   rw[ZL (by omega),List.length_append]
   have:=ih (n:=n/10) hk0 (by rw[Nat.pow_succ]at h;omega)
   simpa using this
theorem JX {n:Nat}(h:n<10^200):x5 (fig n)=true:=by
 obtain⟨a1,a2,a3,a4⟩:=qw n
 have hl:=vc (k:=200) (by decide) h
 have h1:1<=(fig n).length:=by
  cases hf:fig n with
  | nil=>exact absurd hf a2
  | cons c r=>simp
 unfold x5
 rw[decide_eq_true h1,decide_eq_true (show (fig n).length<=300 by omega),List.all_eq_true.mpr λc m=>by unfold qD;rw[decide_eq_true (a1 c m).1,decide_eq_true (a1 c m).2];rfl]
 by_cases z:n=0
 ·subst z;rw[vQ (by decide)];rfl
 ·rw[decide_eq_false (a4 (by omega))];simp
theorem Zg {n:Nat}(h:n<10^200):rdN (TX (fig n))=some (n:Int):=by
 unfold rdN
 rw[xu,if_pos (JX h),(qw n).2.2.1]
def ntL (n:Int):List Nat:=if n<0 then 45::fig n.natAbs else fig n.natAbs
def rtL (r:Int×Int):List Nat:=if r.2=1 then ntL r.1 else ntL r.1++[47]++ntL r.2
def wtL:Wx->List Nat
 | none=>[45]
 | some (p,s)=>rtL p++[32]++rtL s
def wsL (u v:Wx):List Nat:=wtL u++[32,124,32]++wtL v
theorem Zd {n:Int}{c:Nat}(h:c∈ntL n):c=45\/(48<=c/\c<=57):=by
 unfold ntL at h
 split at h
 ·rcases List.mem_cons.mp h with e | h
  ·exact .inl e
  ·exact .inr ((qw _).1 c h)
 ·exact .inr ((qw _).1 c h)
theorem ZX {r:Int×Int}{c:Nat}(h:c∈rtL r):c=45\/(47<=c/\c<=57):=by
 unfold rtL at h
 split at h
 ·rcases Zd h with e | e <;> omega
 ·rcases List.mem_append.mp h with h | h
  ·rcases List.mem_append.mp h with h | h
   ·rcases Zd h with e | e <;> omega
   ·cases List.mem_singleton.mp h;omega
  ·rcases Zd h with e | e <;> omega
theorem zaC {u:Wx}{c:Nat}(h:c∈wtL u):c=32\/c=45\/(47<=c/\c<=57):=by
 match u,h with
 | none,h=>exact .inr (.inl (List.mem_singleton.mp h))
 | some (p,s),h =>
  rcases List.mem_append.mp h with h | h
  ·rcases List.mem_append.mp h with h | h
   ·exact .inr (ZX h)
   ·exact .inl (List.mem_singleton.mp h)
  ·exact .inr (ZX h)
theorem zaQ (n:Int):ntL n≠[]:=by
 unfold ntL
 split
 ·simp
 ·exact(qw _).2.1
theorem za2 (r:Int×Int):rtL r≠[]:=by
 unfold rtL
 split
 ·exact zaQ _
 ·simp
theorem QS {t:Int}(h:t.natAbs<10^200):rdW (TX (ntL t))=some t:=by
 unfold rdW
 rw[xu]
 by_cases z:t<0
 ·have e:ntL t=45::fig t.natAbs:=by unfold ntL;rw[if_pos z]
  rw[e,if_pos (by rfl)]
  show (match rdN (TX (fig t.natAbs))with | some n=>if n=0 then none else some (-n) | none=>none)=_
  rw[Zg h]
  show (if((t.natAbs:Nat):Int)=0 then none else some (-((t.natAbs:Nat):Int)))=some t
  rw[if_neg (by omega)]
  congr 1;omega
 ·have e:ntL t=fig t.natAbs:=by unfold ntL;rw[if_neg z]
  rw[e]
  have hd:(fig t.natAbs).head?≠some 45:=λq=>by
   have:=(qw t.natAbs).1 45 (List.mem_of_head? q)
   omega
  rw[if_neg hd,Zg h]
  congr 1;omega
structure Rx (r:Int×Int):Prop where
 lo:xQ r.1 r.2=true
 zt:r.1.natAbs<10^200
 zb:r.2.natAbs<10^200
theorem Rx.pos {r:Int×Int}(h:Rx r):1<=r.2:=by
 have:=h.lo
 unfold xQ at this
 rw[Bool.and_eq_true]at this
 exact of_decide_eq_true this.1
theorem QR {r:Int×Int}(h:Rx r):rdR (TX (rtL r))=some r:=by
 have n47:∀n:Int,47∉ntL n:=λn m=>by rcases Zd m with e | e <;> omega
 unfold rdR
 by_cases z:r.2=1
 ·have e:rtL r=ntL r.1:=by unfold rtL;rw[if_pos z]
  rw[e,qy (j0:=0) (c:=47) rfl (n47 _)]
  show (rdW (TX (ntL r.1))).map _=_
  rw[QS h.zt,<-z];rfl
 ·have e:rtL r=ntL r.1++[47]++ntL r.2:=by unfold rtL;rw[if_neg z]
  rw[e,vH (j0:=0) (c:=47) rfl (by decide +kernel) (n47 _) (n47 _) λi e=>by
   have:=(List.getElem?_eq_some_iff.mp e).1;simp at this;exact this]
  show (match rdW (TX (ntL r.1)),rdN (TX (ntL r.2))with | some t,some u=>if decide (u=1)=false/\xQ t u=true then some (t,u)else none | _,_=>none)=_
  have e2:ntL r.2=fig r.2.natAbs:=by unfold ntL;rw[if_neg (by have:=h.pos;omega)]
  rw[QS h.zt,e2,Zg h.zb]
  have e3:((r.2.natAbs:Nat):Int)=r.2:=by have:=h.pos;omega
  rw[e3]
  show (if decide (r.2=1)=false/\xQ r.1 r.2=true then some (r.1,r.2)else none)=some r
  rw[if_pos ⟨decide_eq_false z,h.lo⟩]
def Vi:Wx->Prop
 | none=>True
 | some (p,s)=>Rx p/\Rx s
theorem sg (c:Nat):∀i d,([c]:List Nat)[i]? = some d->i=0:=λi d e=>by
 have:=(List.getElem?_eq_some_iff.mp e).1;simp at this;exact this
theorem n32 (r:Int×Int):32∉rtL r:=λm=>by rcases ZX m with e | e <;> omega
theorem Xz {u:Wx}(h:Vi u):xA (TX (wtL u))=some u:=by
 unfold xA
 match u,h with
 | none,_=>exact if_pos rfl
 | some (p,s),⟨hp,hs⟩ =>
  have ne:TX (wtL (some (p,s)))≠TX [45]:=λe=>by
   have e2:rtL p++[32]++rtL s=[45]:=Z7 e
   have:(32:Nat)∈([45]:List Nat):=by rw[<-e2];simp
   simp at this
  rw[if_neg ne]
  show (match Txt.split (TX (rtL p++[32]++rtL s)) (TX [32])with | [a,b]=>(match rdR a,rdR b with | some p,some q=>some (some (p,q)) | _,_=>none) | _=>none)=_
  rw[vH (j0:=0) (c:=32) rfl (by decide +kernel) (n32 _) (n32 _) λi e=>sg _ i _ e]
  show (match rdR (TX (rtL p)),rdR (TX (rtL s))with | some p,some q=>some (some (p,q)) | _,_=>none)=_
  rw[QR hp,QR hs]
theorem vv (u:Wx):124∉wtL u:=λm=>by rcases zaC m with e | e | e <;> omega
theorem Zq:∀i,([32,124,32]:List Nat)[i]? = some 124->i=1:=λi e=>by
 match i,e with
 | 0,e=>simp at e
 | 1,_=>rfl
 | 2,e=>simp at e
 | i+3,e=>simp at e
theorem jX {a b:List Nat}(ha:124∉a) (hb:124∉b):Txt.split (TX (a++[32,124,32]++b)) (TX [32,124,32])=[TX a,TX b]:=vH (j0:=1) (c:=124) rfl (by decide +kernel) ha hb Zq
theorem XA {u v:Wx}(hu:Vi u) (hv:Vi v) (ho:okW u v=true):xP (TX (wsL u v))=some (u,v):=by
 unfold xP wsL
 rw[jX (vv u) (vv v)]
 show (match xA (TX (wtL u)),xA (TX (wtL v))with | some u,some v=>if okW u v=true then some (u,v)else none | _,_=>none)=_
 rw[Xz hu,Xz hv]
 exact if_pos ho
theorem Zh {l:List Nat}{c:Nat}(m:c∈l) (h:¬(48<=c/\c<=57)):rdN (TX l)=none:=by
 unfold rdN
 rw[xu,if_neg]
 intro e
 unfold x5 at e
 simp only[Bool.and_eq_true]at e
 have:=List.all_eq_true.mp e.1.2 c m
 unfold qD at this
 simp only[Bool.and_eq_true,decide_eq_true_eq]at this
 exact h this
theorem Xw:rdN (TX [])=none:=by unfold rdN;rw[xu];rfl
theorem Xy {l:List Nat}{c:Nat}(m:c∈l) (h:¬(48<=c/\c<=57)) (h2:c≠45):rdW (TX l)=none:=by
 unfold rdW
 rw[xu]
 split
 ·rename_i e
  cases l with
  | nil=>cases m
  | cons d r =>
   have hd:d=45:=by simpa using e
   have mr:c∈r:=by rcases List.mem_cons.mp m with z | z;exact absurd (z.trans hd) h2;exact z
   show (match rdN (TX r)with | some n=>if n=0 then none else some (-n) | none=>none)=none
   rw[Zh mr h]
 ·exact Zh m h
theorem VS {l:List Nat}{c:Nat}(m:c∈l) (h:c<45\/57<c):rdR (TX l)=none:=by
 unfold rdR
 have hj:=StrLaws.join_split (TX l) (TX [47])
 split
 ·rw[Xy m (by omega) (by omega)];rfl
 ·rename_i a b e
  rw[e]at hj
  have hm:c∈a.cps.toList\/c∈b.cps.toList:=by
   have e2:(a++TX [47]++b).cps.toList=l:=by rw[show a++TX [47]++b=TX l from hj,xu]
   rw[<-e2]at m
   have:c∈a.cps.toList++[47]++b.cps.toList:=by
    have q:(a++TX [47]++b).cps.toList=a.cps.toList++[47]++b.cps.toList:=by
     show ((a.cps++[47].toArray)++b.cps).toList=_;simp
    rw[q]at m;exact m
   rcases List.mem_append.mp this with z | z
   ·rcases List.mem_append.mp z with z | z
    ·exact .inl z
    ·cases List.mem_singleton.mp z;omega
   ·exact .inr z
  rcases hm with z | z
  ·have:rdW a=none:=by rw[<-vJ a];exact Xy z (by omega) (by omega)
   rw[this]
  ·have:rdN b=none:=by rw[<-vJ b];exact Zh z (by omega)
   rw[this]
   split
   ·rename_i h1 h2;cases h2
   ·rfl
 ·rfl
theorem VR:rdR (TX [])=none:=by
 unfold rdR
 rw[qy (j0:=0) (c:=47) rfl (by simp)]
 show (rdW (TX [])).map _=none
 have:rdW (TX [])=none:=by unfold rdW;rw[xu,if_neg (by simp)];exact Xw
 rw[this];rfl
theorem QP:rdR (TX [45])=none:=by
 unfold rdR
 rw[qy (j0:=0) (c:=47) rfl (by simp)]
 show (rdW (TX [45])).map _=none
 have:rdW (TX [45])=none:=by
  unfold rdW;rw[xu,if_pos (show ([45]:List Nat).head? = some 45 from rfl)]
  show (match rdN (TX [])with | some n=>if n=0 then none else some (-n) | none=>none)=none
  rw[Xw]
 rw[this];rfl
theorem jv {a b c:List Nat}(hn:TX (a++[32]++b++[32]++c)≠TX [45]):xA (TX (a++[32]++b++[32]++c))=none:=by
 unfold xA
 rw[if_neg hn]
 have h1:StrLaws.At (TX (a++[32]++b++[32]++c)) (TX [32]) (TX (a++[32]++b++[32]++c)).length a.length:=by
  have:=vO a [32] (b++[32]++c);simpa [List.append_assoc]using this
 have h2:StrLaws.At (TX (a++[32]++b++[32]++c)) (TX [32]) (TX (a++[32]++b++[32]++c)).length (a++[32]++b).length:=by
  have:=vO (a++[32]++b) [32] c;simpa [List.append_assoc]using this
 have:=jD (by rw[zE];decide) h1 h2 (by rw[zE];simp)
 have l2:(Txt.split (TX (a++[32]++b++[32]++c)) (TX [32])).length≠2:=by
  rcases this with z | z
  ·exact z
  ·exfalso
   have k1:Builtin.Str.strKind (TX [32])=1:=by decide +kernel
   have:=j7 (TX (a++[32]++b++[32]++c))
   omega
 split
 ·rename_i p q e;rw[e]at l2;exact absurd rfl l2
 ·rfl
theorem vw {l:List Nat}{c:Nat}(m:c∈l) (h:c≠45):TX l≠TX [45]:=λe=>by
 rw[Z7 e]at m;exact h (List.mem_singleton.mp m)
theorem jw {a b:List Nat}(ha:32∉a) (hb:32∉b) (h:rdR (TX a)=none\/rdR (TX b)=none):xA (TX (a++[32]++b))=none:=by
 unfold xA
 rw[if_neg (vw (c:=32) (by simp) (by decide)),vH (j0:=0) (c:=32) rfl (by decide +kernel) ha hb λi e=>sg _ i _ e]
 show (match rdR (TX a),rdR (TX b)with | some p,some q=>some (some (p,q)) | _,_=>none)=none
 rcases h with h | h
 ·rw[h]
 ·rw[h]
  split
  ·rename_i h1 h2;cases h2
  ·rfl
theorem jx {a b:List Nat}(ha:124∉a) (hb:124∉b) (h:xA (TX a)=none\/xA (TX b)=none):xP (TX (a++[32,124,32]++b))=none:=by
 unfold xP
 rw[jX ha hb]
 show (match xA (TX a),xA (TX b)with | some u,some v=>if okW u v=true then some (u,v)else none | _,_=>none)=none
 rcases h with h | h
 ·rw[h]
 ·rw[h]
  split
  ·rename_i h1 h2;cases h2
  ·rfl
theorem qX {x:Str}(h:(Txt.split x (TX [32,124,32])).length≠2):xP x=none:=by
 unfold xP
 split
 ·rename_i e;rw[e]at h;exact absurd rfl h
 ·rfl
theorem Jy (u v:Wx):xP (TX (wsL u v++[32]))=none:=by
 unfold wsL
 rw[List.append_assoc]
 refine jx (vv u) (λm=>?_) (.inr ?_)
 ·rcases List.mem_append.mp m with m | m
  ·exact vv v m
  ·simp at m
 ·match v with
  | none=>exact jw (a:=[45]) (b:=[]) (by simp) (by simp) (.inl QP)
  | some (p,s) =>
   have:=jv (a:=rtL p) (b:=rtL s) (c:=[]) (vw (c:=32) (by simp) (by decide))
   simpa [wtL]using this
theorem Jz (u v:Wx):xP (TX ([32]++wsL u v))=none:=by
 unfold wsL
 rw[<-List.append_assoc,<-List.append_assoc]
 refine jx (λm=>?_) (vv v) (.inl ?_)
 ·rcases List.mem_append.mp m with m | m
  ·simp at m
  ·exact vv u m
 ·match u with
  | none=>exact jw (a:=[]) (b:=[45]) (by simp) (by simp) (.inl VR)
  | some (p,s) =>
   have:=jv (a:=[]) (b:=rtL p) (c:=rtL s) (vw (c:=32) (by simp) (by decide))
   simpa [wtL]using this
theorem JA (u v:Wx):xP (TX (wsL u v++[32,124,32,45]))=none:=by
 refine qX ?_
 have h1:StrLaws.At (TX (wsL u v++[32,124,32,45])) (TX [32,124,32]) (TX (wsL u v++[32,124,32,45])).length (wtL u).length:=by
  have:=vO (wtL u) [32,124,32] (wtL v++[32,124,32,45]);simpa [wsL,List.append_assoc]using this
 have h2:StrLaws.At (TX (wsL u v++[32,124,32,45])) (TX [32,124,32]) (TX (wsL u v++[32,124,32,45])).length (wsL u v).length:=by
  have:=vO (wsL u v) [32,124,32] [45];simpa [List.append_assoc]using this
 have:=jD (by rw[zE];decide) h1 h2 (by rw[zE];unfold wsL;simp)
 rcases this with z | z
 ·exact z
 ·exfalso
  have k1:Builtin.Str.strKind (TX [32,124,32])=1:=by decide +kernel
  have:=j7 (TX (wsL u v++[32,124,32,45]))
  omega
theorem V8 (u:Wx):wtL u≠[]/\(wtL u).getLast?≠some 32:=by
 match u with
 | none=>exact⟨by simp[wtL],by decide⟩
 | some (p,s) =>
  refine⟨by simp[wtL],λe=>?_⟩
  have hs:=za2 s
  have e2:(rtL p++[32]++rtL s).getLast? = some 32:=e
  rw[List.getLast?_append]at e2
  cases hl:(rtL s).getLast? with
  | none=>exact hs (List.getLast?_eq_none_iff.mp hl)
  | some d =>
   rw[hl]at e2
   have:d=32:=by simpa using e2
   exact n32 s (this ▸ List.mem_of_getLast? hl)
theorem JB (u v:Wx):xP (TX (wtL u++[124]++wtL v))=none:=by
 refine qX ?_
 rw[ZG (by rw[zE];decide) λk h=>?_]
 ·simp
 ·have h0:=vo (j:=0) h rfl
  have h1:=vo (j:=1) h rfl
  have e:=jq (ys:=[124]) (j0:=0) (vv u) (vv v) (λi e=>sg _ i _ e) h1
  rw[Nat.add_zero]at h0 e
  rw[List.append_assoc,List.getElem?_append_left (by omega)]at h0
  have:(wtL u).getLast? = some 32:=by rw[List.getLast?_eq_getElem?,<-h0];congr 1;omega
  exact(V8 u).2 this
theorem JC (u v:Wx):xP (TX (wtL u++[32,59,32]++wtL v))=none:=by
 refine qX ?_
 rw[qy (j0:=1) (c:=124) rfl]
 ·simp
 ·intro m
  rcases List.mem_append.mp m with m | m
  ·rcases List.mem_append.mp m with m | m
   ·exact vv u m
   ·simp at m
  ·exact vv v m
theorem JD (u v:Wx):xP (TX (wsL u v++[10]))=none:=by
 unfold wsL
 rw[List.append_assoc]
 refine jx (vv u) (λm=>?_) (.inr ?_)
 ·rcases List.mem_append.mp m with m | m
  ·exact vv v m
  ·simp at m
 ·match v with
  | none =>
   show xA (TX [45,10])=none
   unfold xA
   rw[if_neg (vw (c:=10) (by simp) (by decide)),qy (j0:=0) (c:=32) rfl (by simp)]
  | some (p,s) =>
   have:=jw (a:=rtL p) (b:=rtL s++[10]) (n32 p) (λm=>by
    rcases List.mem_append.mp m with m | m
    ·exact n32 s m
    ·simp at m) (.inr (VS (c:=10) (by simp) (by omega)))
   simpa [wtL]using this
end KK
end
set_option Elab.async false
set_option linter.all false
set_option maxRecDepth 100000
namespace KK
open PySem L2
def top (i:Nat):Stmt:=PySem.Challenge.pw_clackrow_k71_whole_bounds_written_and_re.main.body.getD i (.Pass ⟨0,0,0,0⟩)
abbrev qd:Stmt:=top 4
abbrev qc:Stmt:=top 5
abbrev zX:Stmt:=top 6
abbrev qb:Stmt:=top 7
abbrev vW:Stmt:=top 8
abbrev qo:Stmt:=top 10
abbrev xr:Stmt:=top 11
abbrev xM:Stmt:=top 12
abbrev xa:Stmt:=top 16
abbrev xJ:Stmt:=top 17
abbrev x0:Stmt:=top 18
abbrev xO:Stmt:=top 19
abbrev qk:Stmt:=top 20
abbrev xx:Stmt:=top 21
abbrev xL:Stmt:=top 22
abbrev xK:Stmt:=top 23
abbrev xZ:Stmt:=top 24
abbrev xN:Stmt:=top 25
abbrev qg:Stmt:=top 27
abbrev qf:Stmt:=top 28
abbrev xH:Stmt:=top 29
abbrev qr:Stmt:=top 30
abbrev qt:Stmt:=top 31
abbrev qq:Stmt:=top 32
abbrev xW:Stmt:=top 33
abbrev xI:Stmt:=top 34
abbrev xX:Stmt:=top 35
abbrev qs:Stmt:=top 36
abbrev qi:Stmt:=top 37
abbrev xG:Stmt:=top 38
abbrev xv:Stmt:=top 39
abbrev xg:Stmt:=top 40
abbrev xb:Stmt:=top 41
abbrev xY:Stmt:=top 42
abbrev qh:Stmt:=top 43
abbrev qe:Stmt:=top 44
abbrev xc:Stmt:=top 45
abbrev xV:Stmt:=top 46
abbrev xw:Stmt:=top 47
abbrev qj:Stmt:=top 48
abbrev s_law:Stmt:=top 49
end KK
set_option Elab.async false
set_option linter.all false
set_option maxRecDepth 100000
namespace KK
open PySem L2
structure TxB (K:PySem.W.Frag) (mg:Str->Option Value):Prop where
 ii:PySem.W.kitOne K (.type "int") (.type "int")=some true
 ib:PySem.W.kitOne K (.type "int") (.type "bool")=some false
 nIs:mg "isinstance" = none
 nInt:mg "int" = none
 nBool:mg "bool" = none
 nAbs:mg "abs" = none
 nLen:mg "len" = none
 nMax:mg "max" = none
 nMin:mg "min" = none
 nRange:mg "range" = none
 nTuple:mg "tuple" = none
 nSum:mg "sum" = none
section
variable {P:Program}{w:World}{K:PySem.W.Frag}{mg:Str->Option Value}{base:Heap}
def XE:Sp:=λvs H Q _=>∃i,vs=[.int i]/\Q (.bl true) H
theorem Q4:zC ["thing"] ["thing"] (zk qd):=⟨rfl,rfl,rfl,by decide +kernel,rfl,by decide +kernel,by decide +kernel⟩
theorem QF (D:Df K mg "is_whole" qd ["thing"] []) (T:TxB K mg):Cal P w K mg base "is_whole" 1 ["thing"] [] XE:=by
 refine D.cal (k:=0) Q4 (λvs H Q E h=>by obtain⟨i,rfl,_⟩:=h;rfl) (λf cdv A outer s H vs Q E hr h=>?_)
 obtain⟨i,rfl,k⟩:=h
 refine⟨_,zm (zx (vh
  (zP qz rfl T.nIs PyProof.Rows.boot_isinstance (zd (pv 0) (zd (v9 (v:=.ty "int") (u:=.type "int") rfl T.nInt PyProof.Rows.boot_int rfl) zf)))
  (vS (zae (zP qz rfl T.nIs PyProof.Rows.boot_isinstance (zd (pv 0) (zd (v9 (v:=.ty "bool") (u:=.type "bool") rfl T.nBool (by decide +kernel) rfl) zf))))))),?_⟩
 refine⟨_,rfl,_,_,_,true,rfl,.int i,T.ii,true,rfl,zT ?_⟩
 exact⟨_,rfl,_,_,_,false,rfl,.int i,T.ib,false,rfl,k⟩
def ZD:Sp:=λvs H Q _=>∃a b:Int,vs=[.int a,.int b]/\0<=a/\0<=b/\Q (.int (Int.gcd a b:Nat)) H
theorem QW:zC ["one","other"] ["one","other"] (zk zX):=⟨rfl,rfl,rfl,by decide +kernel,rfl,by decide +kernel,by decide +kernel⟩
theorem J0 (D:Df K mg "greatest_divisor" zX ["one","other"] []):Cal P w K mg base "greatest_divisor" 1 ["one","other"] [] ZD:=by
 refine D.cal (k:=0) QW (λvs H Q E h=>by obtain⟨a,b,rfl,_⟩:=h;rfl) (λf cdv A outer s H vs Q E hr h=>?_)
 obtain⟨a,b,rfl,ha,hb,k⟩:=h
 refine⟨_,zj (vD PassesOwn.never (zr vx (pv 1) ze (zy _))
   (zm (QL (i:=0) (j:=1) rfl QW.nd rfl rfl (by decide) rfl rfl (zd (pv 1) (zd (zD qO (pv 0) (pv 1)) zf)) (by rfl))))
  (zm (zx (pv 0))),?_⟩
 refine vL (λσ H1=>H1=H/\∃x y:Int,σ=[some (.int x),some (.int y)]/\0<=x/\0<=y/\Int.gcd x y=Int.gcd a b)
  (λσ _=>match σ with | [_,some (.int y)]=>y.toNat | _=>0) ⟨rfl,a,b,rfl,ha,hb,rfl⟩ ?_ ?_
 ·rintro σ H1 ⟨rfl,x,y,rfl,hx,hy,e⟩
  refine⟨_,rfl,_,_,rfl,rfl,_,rfl,qU (λh=>?_) (λh=>?_)⟩
  ·have h':0<y:=of_decide_eq_true h
   refine⟨_,rfl,_,rfl,_,rfl,_,_,rfl,rfl,h',_,_,rfl,⟨rfl,_,_,rfl,hy,Int.emod_nonneg _ (by omega),?_⟩,?_⟩
   ·rw[KM.Zt hx h'];exact e
   ·show (x % y).toNat<y.toNat
    have:=Int.emod_lt_of_pos x h'
    omega
  ·have h':¬ 0<y:=λz=>h (decide_eq_true z)
   have:y=0:=by omega
   subst this
   refine⟨_,rfl,?_⟩
   have e2:x=(Int.gcd a b:Nat):=by rw[<-e,Int.gcd_zero_right];omega
   rw[e2];exact k
 ·rintro σ H1 Q1 Q2 hq ⟨v,e,i,j,e1,e2,k1,e3,q⟩
  exact⟨v,e,i,j,e1,e2,k1,e3,hq _ _ q⟩
theorem jg (i:Int):(if i<0 then -i else i)=(i.natAbs:Int):=by split <;> omega
end
end KK
set_option Elab.async false
set_option linter.all false
set_option maxRecDepth 100000
namespace KK
open PySem L2
section
variable {P:Program}{w:World}{K:PySem.W.Frag}{mg:Str->Option Value}{base:Heap}
theorem Bd4 {x:Rat}(h:Sz 4000 x):Bd 1000000 x.num/\Bd 1000000 (x.den:Int):=⟨h.1.mono (by decide),h.2.mono (by decide)⟩
end
end KK
section
set_option maxHeartbeats 4000000
set_option Elab.async false
set_option linter.all false
set_option maxRecDepth 100000
namespace KK
open PySem L2
def qL (H:Hp) (p:Addr):Prop:=∃a b c:Int,H p=some (.lst [.int a,.int b,.int c])
structure xD (p:Addr) (H H':Hp):Prop where
 pool:qL H' p
 keep:∀b o,H b=some o->b≠p->H' b=some o
theorem xD.trans {p:Addr}{H H1 H2:Hp}(a:xD p H H1) (b:xD p H1 H2):xD p H H2:=⟨b.pool,λc o e n=>b.keep c o (a.keep c o e n) n⟩
theorem xD.same {p:Addr}{H H1 H2:Hp}(a:xD p H H1) (b:zo H1 H2):xD p H H2:=⟨by obtain⟨x,y,z,e⟩:=a.pool;exact⟨x,y,z,b _ _ e⟩,λc o e n=>b c o (a.keep c o e n)⟩
theorem xD.pre {p:Addr}{H H1 H2:Hp}(b:xD p H1 H2) (a:zo H H1):xD p H H2:=⟨b.pool,λc o e n=>b.keep c o (a c o e) n⟩
theorem qL.new {H:Hp}{p l:Addr}{o:HO}(h:qL H p) (hl:H l=none):qL (upd H l o) p:=by obtain⟨a,b,c,e⟩:=h;exact⟨a,b,c,zo.upd hl _ _ e⟩
theorem qL.ne {H:Hp}{p l:Addr}(h:qL H p) (hl:H l=none):l≠p:=by obtain⟨a,b,c,e⟩:=h;exact(xh e hl).symm
theorem xD.tup {p a:Addr}{H H':Hp}{xs:List V}(s:xD p H H') (hp:qL H p) (h:H a=some (.tup xs)):H' a=some (.tup xs):=by
 obtain⟨_,_,_,e⟩:=hp
 exact s.keep a _ h (zaP h e (by intro z;cases z))
section
variable {P:Program}{w:World}{K:PySem.W.Frag}{mg:Str->Option Value}{base:Heap}
def Jg:Sp:=λvs H Q _=>∃c:Int,vs=[.int c]/\∀p H',H p=none->zo H H'->qL H' p->Q (.ref p) H'
theorem zaj:zC ["cell"] ["cell"] (zk qg):=⟨rfl,rfl,rfl,by decide +kernel,rfl,by decide +kernel,by decide +kernel⟩
theorem JZ (D:Df K mg "_law_pool" qg ["cell"] []) (T:TxB K mg):Cal P w K mg base "_law_pool" 1 ["cell"] [] Jg:=by
 refine D.cal (k:=0) zaj (λvs H Q E h=>by obtain⟨a,rfl,_⟩:=h;rfl) (λf cdv A outer s H vs Q E hr h=>?_)
 obtain⟨c,rfl,k⟩:=h
 refine⟨_,zm (zx (xF (zd (zP (XM rfl) (by rfl) T.nMax PyProof.Rows.boot_max (zd ze (zd (zD jo (pv 0) (zD ZV ze ze)) zf))) (zd (zD qO (pv 0) (zD ZV ze ze)) (zd ze zf))))),?_⟩
 refine⟨_,rfl,_,_,rfl,rfl,⟨by decide,by decide,by decide⟩,_,_,rfl,rfl,_,_,rfl,?_⟩
 refine⟨_,rfl,_,_,rfl,rfl,⟨by decide,by decide,by decide⟩,_,_,rfl,rfl,(by show (0:Int)<10^18;decide),(by show 3<=sizeLine;decide),λp hp=>?_⟩
 exact k p _ hp (zo.upd hp) ⟨_,_,_,zn⟩
def qY:Sp:=λvs H Q _=>∃(p:Addr) (n:Int),vs=[.ref p,.int n]/\0<n/\n<1073741824/\qL H p/\∀(d:Int) H',0<=d->d<n->xD p H H'->Q (.int d) H'
theorem je:zC ["pool","base","digit","mixed","stir"] ["pool","base"] (zk qf):=⟨rfl,rfl,rfl,by decide +kernel,rfl,by decide +kernel,by decide +kernel⟩
theorem ZI {H:Hp}{p:Addr}{a b c:Int}:xD p H (upd H p (.lst [.int a,.int b,.int c])):=⟨⟨a,b,c,zn⟩,λd o e n=>by rw[zZ n];exact e⟩
theorem VE (D:Df K mg "_law_next" qf ["pool","base"] []):Cal P w K mg base "_law_next" 1 ["pool","base"] [] qY:=by
 refine D.cal (k:=0) je (λvs H Q E h=>by obtain⟨a,b,rfl,_⟩:=h;rfl) (λf cdv A outer s H vs Q E hr h=>?_)
 obtain⟨p,n,rfl,n0,n1,⟨a,b,c,hp⟩,k⟩:=h
 refine⟨_,zj (zQ (zr vx (zB zO (pv 0) ze (λ_ _=>rfl)) ze (zy _))
   (zj (zz (i:=2) je.nd rfl (Or.inl rfl) (zD qO (zB zO (pv 0) ze (λ_ _=>rfl)) (pv 1)))
   (zj (vi (zD Xn (zB zO (pv 0) ze (λ_ _=>rfl)) (pv 1)) (QI (pv 0) ze ZB))
   (zm (zx (pv 2))))) zF)
  (zj (vi (zD x8 (zB zO (pv 0) ze (λ_ _=>rfl)) ze) (QI (pv 0) ze ZB))
  (zj (zz (i:=3) je.nd rfl (Or.inl rfl) (zD qO (zD x8 (zB zO (pv 0) ze (λ_ _=>rfl)) (zD ZU ze (zB zO (pv 0) ze (λ_ _=>rfl)))) ze))
  (zj (zz (i:=4) je.nd rfl (Or.inl rfl) (zD qO (zD ZU (zD x8 (pv 3) ze) (zD x8 (pv 3) ze)) ze))
  (zm (zx (zD qO (zD Xn (zD qO (zD ZU (pv 4) (pv 4)) ze) ze) (pv 1))))))),?_⟩
 refine⟨_,rfl,p,_,_,_,rfl,rfl,.of hp,rfl,_,_,rfl,rfl,_,rfl,qU (λh=>?_) (λh=>?_)⟩
 ·refine⟨_,rfl,p,_,_,_,rfl,rfl,.of hp,rfl,_,rfl,_,_,rfl,rfl,n0,?_⟩
  refine⟨_,rfl,p,_,_,_,rfl,rfl,.of hp,rfl,_,rfl,_,_,rfl,rfl,⟨n0,n1⟩,?_⟩
  refine⟨_,rfl,p,_,_,0,rfl,rfl,hp,rfl,?_⟩
  exact⟨_,rfl,k _ _ (Int.emod_nonneg _ (by omega)) (Int.emod_lt_of_pos _ n0) ZI⟩
 ·refine⟨_,rfl,p,_,_,_,rfl,rfl,.of hp,rfl,_,_,rfl,rfl,?_⟩
  refine⟨_,rfl,p,_,_,2,rfl,rfl,hp,rfl,?_⟩
  refine⟨_,rfl,p,_,_,_,rfl,rfl,.of zn,rfl,_,rfl,p,_,_,_,rfl,rfl,.of zn,rfl,_,_,rfl,rfl,.inl ⟨by decide,by decide⟩,_,_,rfl,rfl,_,_,rfl,rfl,(by show (0:Int)<1000000007;decide),?_⟩
  refine⟨_,rfl,_,_,rfl,rfl,_,rfl,_,_,rfl,rfl,_,_,rfl,rfl,.inl (by constructor <;> omega),_,_,rfl,rfl,(by show (0:Int)<998244353;decide),?_⟩
  refine⟨_,rfl,_,rfl,_,_,rfl,rfl,.inl (by constructor <;> omega),_,_,rfl,rfl,(by show (0:Int)<2147483647;decide),_,_,rfl,rfl,⟨by decide,by decide⟩,_,rfl,_,_,rfl,rfl,n0,?_⟩
  exact k _ _ (Int.emod_nonneg _ (by omega)) (Int.emod_lt_of_pos _ n0) ZI
end
end KK
end
section
set_option maxHeartbeats 4000000
set_option Elab.async false
set_option linter.all false
set_option maxRecDepth 100000
namespace KK
open PySem L2 KM
inductive zJ (H:Hp):List V->List qu->Prop
 | nil:zJ H [] []
 | cons {a p q:Addr}{b:qu}{vs:List V}{bs:List qu}:H a=some (.tup [.ref p,.ref q,.int b.wt])->zR H p b.pl->zR H q b.sp->zJ H vs bs->zJ H (.ref a::vs) (b::bs)
theorem zJ.mono {H H':Hp}(m:∀b xs,H b=some (.tup xs)->H' b=some (.tup xs)):∀{vs:List V}{bs:List qu},zJ H vs bs->zJ H' vs bs
 | _,_,.nil=>.nil
 | _,_,.cons h1 h2 h3 t=>.cons (m _ _ h1) (m _ _ h2) (m _ _ h3) (zJ.mono m t)
theorem zJ.same {H H':Hp}{vs:List V}{bs:List qu}(h:zJ H vs bs) (e:zo H H'):zJ H' vs bs:=h.mono λb xs z=>e b _ z
theorem zJ.length {H:Hp}:∀{vs:List V}{bs:List qu},zJ H vs bs->vs.length=bs.length
 | _,_,.nil=>rfl
 | _,_,.cons _ _ _ t=>by rw[List.length_cons,List.length_cons,zJ.length t]
theorem zJ.append {H:Hp}{us:List V}{cs:List qu}(k:zJ H us cs):∀{vs:List V}{bs:List qu},zJ H vs bs->zJ H (vs++us) (bs++cs)
 | _,_,.nil=>k
 | _,_,.cons h1 h2 h3 t=>.cons h1 h2 h3 (zJ.append k t)
theorem zJ.one {H:Hp}{a p q:Addr}{b:qu}(h1:H a=some (.tup [.ref p,.ref q,.int b.wt])) (h2:zR H p b.pl) (h3:zR H q b.sp):zJ H [.ref a] [b]:=.cons h1 h2 h3 .nil
theorem zJ.get {H:Hp}:∀{vs:List V}{bs:List qu}{i:Nat}{v:V},zJ H vs bs->vs[i]? = some v->∃(a p q:Addr) (b:qu),bs[i]? = some b/\v = .ref a/\H a=some (.tup [.ref p,.ref q,.int b.wt])/\zR H p b.pl/\zR H q b.sp
 | _,_,_,_,.nil,e=>by simp at e
 | _,_,0,_,.cons h1 h2 h3 _,e=>by
  simp at e;subst e
  exact⟨_,_,_,_,rfl,rfl,h1,h2,h3⟩
 | _,_,i+1,v,.cons _ _ _ t,e=>by
  obtain⟨a,p,q,b,e1,r⟩:=zJ.get (i:=i) t (by simpa using e)
  exact⟨a,p,q,b,by simpa using e1,r⟩
theorem zJ.last {H:Hp}{vs:List V}{bs:List qu}{b:qu}(h:zJ H vs (bs++[b])):∃(us:List V) (a p q:Addr),vs=us++[.ref a]/\H a=some (.tup [.ref p,.ref q,.int b.wt])/\zR H p b.pl/\zR H q b.sp:=by
 have hl:=h.length
 rw[List.length_append,List.length_singleton]at hl
 have hi:bs.length<vs.length:=by omega
 obtain⟨a,p,q,c,e1,e2,r⟩:=h.get (i:=bs.length) (List.getElem?_eq_getElem hi)
 rw[List.getElem?_append_right (Nat.le_refl _)]at e1
 simp at e1;subst e1
 refine⟨vs.take bs.length,a,p,q,?_,r⟩
 rw[<-e2]
 have:=List.take_append_getElem hi
 rw[this,List.take_of_length_le (by omega)]
def j9 (b c:qu):Prop:=b.pl<c.pl\/(b.pl=c.pl/\b.sp<c.sp)
theorem j9.trans {a b c:qu}(h:j9 a b) (k:j9 b c):j9 a c:=by
 unfold j9 at *
 rcases h with h | ⟨h1,h2⟩ <;> rcases k with k | ⟨k1,k2⟩
 ·exact .inl (by grind)
 ·exact .inl (by grind)
 ·exact .inl (by grind)
 ·exact .inr ⟨by grind,by grind⟩
structure jJ (bs:List qu):Prop where
 wt:∀b∈bs,1<=b.wt/\b.wt<=1000
 sz:∀b∈bs,Sz 300 b.pl/\Sz 80 b.sp
 pw:bs.Pairwise j9
theorem jJ.nil:jJ []:=⟨(λ_ h=>nomatch h),(λ_ h=>nomatch h),List.Pairwise.nil⟩
theorem jJ.snoc {bs:List qu}{b:qu}(G:jJ bs) (hw:1<=b.wt/\b.wt<=1000) (hs:Sz 300 b.pl/\Sz 80 b.sp) (h:∀cs c,bs=cs++[c]->j9 c b):jJ (bs++[b]):=by
 refine⟨λx hx=>?_,λx hx=>?_,?_⟩
 ·rcases List.mem_append.mp hx with z | z
  ·exact G.wt x z
  ·simp at z;subst z;exact hw
 ·rcases List.mem_append.mp hx with z | z
  ·exact G.sz x z
  ·simp at z;subst z;exact hs
 ·rw[List.pairwise_append]
  refine⟨G.pw,List.pairwise_singleton _ _,λx hx y hy=>?_⟩
  simp at hy;subst hy
  rcases List.eq_nil_or_concat bs with e | ⟨cs,c,e⟩
  ·subst e;exact(nomatch hx)
  ·have e':bs=cs++[c]:=by simpa using e
   have hc:=h cs c e'
   subst e'
   rcases List.mem_append.mp hx with z | z
   ·have:=(List.pairwise_append.mp G.pw).2.2 x z c (by simp)
    exact this.trans hc
   ·simp at z;subst z;exact hc
end KK
end
section
set_option maxHeartbeats 4000000
set_option Elab.async false
set_option linter.all false
set_option maxRecDepth 100000
namespace L2
open PySem PySem.Spec PyProof.Rows
section
variable {X:Cx}
theorem Ja {op:Operator}{r:R2}{a b:Expr}{ta tb:TE}{pos:Pos}(ho:OpR X (binaryOp op) r) (ha:Bx (PE X a ta)) (hb:Bx (PE X b tb)):Bx (PE X (.BinOp a op b pos) (tOp r ta tb)):=by obtain⟨ha⟩:=ha;obtain⟨hb⟩:=hb;exact⟨zD ho ha hb⟩
def zaX (K:PySem.W.Frag):R2:=λx y H Q=>∃l b xs zs,x = .ref l/\y = .ref b/\SqL K H l xs/\SqL K H b zs/\xs.length+zs.length<=sizeLine/\∀p,H p=none->Q (.ref p) (upd H p (.lst (xs++zs)))
theorem Ze:OpR X (binaryOp .Add) (zaX X.K):=by
 intro pins s σ H x y v u Q I rx ry h
 obtain⟨l,b,xs,zs,rfl,rfl,hH,hB,hz,q⟩:=h
 cases rx
 cases ry
 obtain⟨its,r,pl,z⟩:=I.list hH
 obtain⟨its2,r2,pl2,z2⟩:=I.list hB
 have e1:=r.length
 have e2:=r2.length
 obtain⟨⟨cls,dd,data,sl⟩,n,ho,hc,hdn,hd⟩:=pl
 obtain⟨⟨cls2,dd2,data2,sl2⟩,n2,ho2,hc2,hdn2,hd2⟩:=pl2
 simp only at hc hd hc2 hd2
 subst hc hd hc2 hd2
 refine concat_meets ⟨_,ho,rfl⟩ ⟨_,ho2,rfl⟩ noFill_list_add seq_list_add PySem.F.slot_list_add PySem.F.entry_list_add (PySem.F.args_list_add_2 _ _) (list_addW l b its.toArray its2.toArray n n2 dd dd2 sl sl2 (by simp only[List.size_toArray];omega)) ⟨ho,ho2,?_⟩
 have ea:its.toArray++its2.toArray=(its++its2).toArray:=by simp
 rw[ea]
 exact⟨.ref _,_,I.lnew (t':=s.toks) (r.append r2) (by rw[List.length_append];omega),rfl,q _ I.fresh⟩
end
section
variable {X:Cx}{e st:Expr}{te:TE}{pos p2:Pos}
def zby (K:PySem.W.Frag) (te ts:TE):TE:=λσ H Q=>te σ H λx H1=>ts σ H1 λy H2=>∃a xs,x = .ref a/\y = .int (-1)/\SqL K H2 a xs/\∀p,H2 p=none->Q (.ref p) (upd H2 p (.lst xs.reverse))
theorem VP {ts:TE}(he:PE X e te) (hs:PE X st ts):PE X (.Subscript e (.Slice none none (some st) p2) pos) (zby X.K te ts):=by
 intro pins s σ H Q I h
 refine Subscript_ (thn (he pins s σ H _ I h) λv s1 ⟨x,H1,I1,r1,q1⟩=>?_)
 refine wpAny_Slice ?_
 rw[evalPart_none]
 refine wpAny_pure (wpAny_pure ?_)
 rw[evalPart_some]
 refine thn (hs pins s1 σ H1 _ I1 q1) λu s3 ⟨y,H3,I3,r3,q3⟩=>?_
 obtain⟨a,xs,rfl,rfl,hx,q⟩:=q3
 cases r1
 obtain⟨t,rfl⟩:=r3
 have I4:Inv X pins σ H3 { s3 with heap:=s3.heap.push { cls:=.type "slice",data:=.fields #[.none,.none,.int (-1) t] } }:=I3.kept (t':=s3.toks) λb ob q=>Heap.get?_push_of_some _ q
 obtain⟨its,r,ht,hz⟩:=I4.list hx
 have hlen:=r.length
 show wpAny (model X.prog X.w) X.A (subscriptTail e (.Slice none none (some st) p2) (.ref a) (.ref s3.heap.objs.size)) (EP X pins σ Q) X.xe { s3 with heap:=s3.heap.push { cls:=.type "slice",data:=.fields #[.none,.none,.int (-1) t] } }
 refine tail_any (ops:=[.ref a,.ref s3.heap.objs.size]) ht.isList.typeIs slot_list_getitem.lookup (wpAny_getItem_list_slice ht.isList (Heap.IsSliceOf.new ..) .none .none (.int (-1) t) (by simp) ?_ (by rw[List.size_toArray] <;> omega)) (by with_unfolding_all rfl)
 rw[PySem.W.krv_pick]
 refine⟨.ref _,_,I4.laid (t':=s3.toks) (o:=.lst xs.reverse) (λb ob q=>Heap.get?_push_of_some _ q) (Nat.le_refl _) ?_,rfl,q _ (I4.hok.fresh (Nat.le_refl _))⟩
 exact⟨by rw[List.length_reverse];exact hz,_,0,r.rev,Heap.get?_push_size _ rfl⟩
end
theorem qC.quiet {P:Program}{w:World}{K:PySem.W.Frag}{mg:Str->Option Value}{base:Heap}{x:Str}{k:Nat}{ps:List Str}{dvs:List V}{sp sp':Sp}(c:qC P w K mg base x k ps dvs sp) (h:∀vs H Q E,sp' vs H Q E->sp vs H Q λ_ _ _=>False):Cal P w K mg base x k ps dvs sp':=by
 obtain⟨f,fd,ds,F,r⟩:=c.ex
 refine⟨⟨f,fd,ds,⟨λvs H Q E q=>F.len vs H Q _ (h vs H Q E q),λA outer s H args us vs Q E hr e0 hb hv q=>?_⟩,r⟩⟩
 refine codeAny_mono (F.run A outer s H args us vs Q _ hr e0 hb hv (h vs H Q E q)) λrr s' hq=>?_
 cases rr with
 | ok fl=>cases fl <;> exact hq
 | error e=>obtain⟨_,_,_,_,_,_,_,_,z⟩:=hq;exact z.elim
end L2
namespace KK
open PySem L2 KM
abbrev Zo (x:Str) (C:Addr) (mg:Str->Option Value) (h:Heap):Prop:=PyProof.Rows.OwnCls x C zaB "ValueError.__new__" mg h
theorem zH {D:qS}{σ:St}{H:Hp}(h:D.nx σ H):Q8 D σ H:=h
theorem qZ {t u:TS}{D:qS}{σ:St}{H:Hp}(R:St->Hp->Prop) (h2:∀σ' H',R σ' H'->u D σ' H') (h1:∀nx:St->Hp->Prop,(∀σ' H',R σ' H'->nx σ' H')->t { D with nx:=nx } σ H):Zk t u D σ H:=h1 (u D) h2
theorem xD.free {p l:Addr}{H G:Hp}(s:xD p H G) (h:G l=none):H l=none:=by
 cases hh:H l with
 | none=>rfl
 | some o =>
  by_cases e:l=p
  ·subst e;obtain⟨_,_,_,z⟩:=s.pool;rw[z]at h;cases h
  ·rw[s.keep _ _ hh e]at h;cases h
theorem xD.put {p l:Addr}{H G:Hp}(s:xD p H G) (h:H l=none) (n:l≠p) (o:HO):xD p H (upd G l o) :=
 ⟨by obtain⟨a,b,c,e⟩:=s.pool;exact⟨a,b,c,by rw[zZ (Ne.symm n)];exact e⟩,λb u e nb=>by rw[zZ (λz=>by rw[z,h]at e;cases e)];exact s.keep b u e nb⟩
theorem zY {p:Addr}{H H':Hp}(hp:qL H p) (s:xD p H H'):xE H H':=λb xs e=>s.tup hp e
theorem bdn {n:Nat}{i:Int}(h0:0<=i) (h1:i<2^n):Bd n i:=by
 unfold Bd
 have:((2^n:Nat):Int)=(2:Int)^n:=by push_cast;rfl
 omega
theorem bdz {n:Nat}{i:Int}(h0 : -(2^n)<i) (h1:i<2^n):Bd n i:=by
 unfold Bd
 have:((2^n:Nat):Int)=(2:Int)^n:=by push_cast;rfl
 omega
theorem Zw (x y:Rat):decide (x.num*(y.den:Int)<y.num*(x.den:Int))=decide (x<y):=by
 by_cases h:x<y
 ·rw[decide_eq_true h,decide_eq_true ((KM.Zv x y).mpr h)]
 ·rw[decide_eq_false h,decide_eq_false λz=>h ((KM.Zv x y).mp z)]
def RI (H:Hp) (v:V) (r:Int×Int):Prop:=∃p,v = .ref p/\H p=some (.tup [.int r.1,.int r.2])
def WI (H:Hp) (v:V):Wx->Prop
 | none=>v = .non
 | some u=>∃p a b,v = .ref p/\H p=some (.tup [a,b])/\RI H a u.1/\RI H b u.2
theorem RI.tups {H H':Hp}{v:V}{r:Int×Int}(h:RI H v r) (e:xE H H'):RI H' v r:=let ⟨p,a,b⟩:=h;⟨p,a,e _ _ b⟩
theorem WI.tups {H H':Hp}{v:V}{u:Wx}(h:WI H v u) (e:xE H H'):WI H' v u:=by
 cases u with
 | none=>exact h
 | some u=>obtain⟨p,a,b,e1,e2,e3,e4⟩:=h;exact⟨p,a,b,e1,e _ _ e2,e3.tups e,e4.tups e⟩
theorem str_int (n:Nat):(Str.ofString (toString ((n:Nat):Int)))=TX (fig n):=by
 rw[<-vJ (Str.ofString _),PySem.W.KIN.signs_num];rfl
end KK
end
section
set_option maxHeartbeats 4000000
set_option Elab.async false
set_option linter.all false
set_option maxRecDepth 100000
namespace KK
open PySem L2 KM
structure TxS (K:PySem.W.Frag) (mg:Str->Option Value):Prop where
 ss:PySem.W.kitOne K (.type "str") (.type "str")=some true
 tt:PySem.W.kitOne K (.type "tuple") (.type "tuple")=some true
 nStr:mg "str" = none
 nAll:mg "all" = none
 nList:mg "list" = none
section
variable {P:Program}{w:World}{K:PySem.W.Frag}{mg:Str->Option Value}{base:Heap}
theorem Vq {α:Type}{xs:List α}(h:xs.length=1):∃a,xs=[a]:=by
 match xs,h with
 | [a],_=>exact⟨a,rfl⟩
theorem Xf {sep:Str}(hs:sep.length<=100):∀(ts:List Str) (i:Nat),(∀t∈ts,t.length<=1000)->ts.foldl (λn t=>n+t.length+sep.length) i<=i+ts.length*1100
 | [],i,_=>by simp
 | t::ts,i,h=>by
  have:=Xf hs ts (i+t.length+sep.length) λu m=>h u (List.mem_cons_of_mem _ m)
  have h2:=h t (List.mem_cons_self ..)
  rw[List.foldl_cons,List.length_cons]
  omega
theorem Vp {sep:Str}{ts:List Str}(hs:sep.length<=100) (hn:ts.length<=100) (hl:∀t∈ts,t.length<=1000):JoinOk sep ts=true:=by
 have:=Xf hs ts 0 hl
 unfold JoinOk Builtin.Str.tooLong
 rw[Bool.not_eq_true',List.foldl_toArray]
 exact decide_eq_false (by rw[sizeLine_eq];omega)
theorem Zu (a:Str):Txt.join a []=TX []:=by cases a;rfl
theorem QY:zC ["number","pieces","rest"] ["number"] (zk xa):=⟨rfl,rfl,rfl,by decide +kernel,rfl,by decide +kernel,by decide +kernel⟩
def Jh:Sp:=λvs H Q _=>∃n:Nat,vs=[.int n]/\n<10^60/\∀H',zo H H'->Q (.str (TX (fig n))) H'
theorem XS {n:Nat}(h:n<10^60):((n:Int)).natAbs.log2<1920:=by
 have e:((n:Int)).natAbs=n:=by omega
 rw[e]
 rcases Nat.eq_zero_or_pos n with z | z
 ·subst z;decide
 ·exact(Nat.log2_lt (by omega)).mpr (Nat.lt_trans h (by decide))
theorem Jc (TS:TxS K mg){f:Addr}{cdv:Value}{A:Around}{outer:List Env}{s:Shared}{H:Hp}{Q:VK}{E:XK}{n:Nat}(hn:n<10^60) (k:∀H',zo H H'->Q (.str (TX (fig n))) H') :
  ∃t,PSs (qT CX0 P w K mg base ["number","pieces","rest"] "number_text" (zk xa) f cdv A outer s H E).nox (zp xa) t/\t { nx:=λ_ H'=>Q .non H',rt:=Q } (qR ["number","pieces","rest"] [.int (n:Int)]) H:=by
 refine⟨_,(zj (zQ (zr v3 (pv 0) ze (zy _)) vT zF)
  (zj (zz (i:=1) QY.nd rfl (Or.inl rfl) (xF zf))
  (zj (vD PassesOwn.never (zr zaU (pv 0) (zD ZV ze ze) (zy _)) vT)
  (zm (zx (zD zL (x9 j4 (by rfl) TS.nStr PyProof.Rows.boot_str (zd (pv 0) zf)) (qF PySem.F.plainAttrs_str PySem.F.slot_str_join PySem.F.type_str_join Xj zq (zd (VP (pv 1) (v4 va ze)) zf)))))))),?_⟩
 refine⟨_,rfl,_,_,rfl,rfl,_,rfl,qU (λh=>absurd (of_decide_eq_true h) (by omega)) (λ_=>?_)⟩
 refine zH ?_
 refine⟨by show 0<=sizeLine;exact Nat.zero_le _,λl hl=>?_⟩
 dsimp only[zK]
 refine ZH ?_
 refine vL (λσ H1=>σ=[some (.int (n:Int)),some (.ref l),none]/\H1=upd H l (.lst [])) (λ_ _=>0) ⟨rfl,rfl⟩ ?_ ?_
 ·rintro σ H1 ⟨rfl,rfl⟩
  refine⟨_,rfl,_,_,rfl,rfl,⟨by decide,by decide,by decide⟩,_,_,rfl,rfl,_,rfl,qU (λh=>?_) (λ_=>?_)⟩
  ·have h2:(10:Int)^60<=(n:Int):=of_decide_eq_true h
   exfalso
   have:((10^60:Nat):Int)=(10:Int)^60:=by decide
   omega
  ·refine⟨_,rfl,_,rfl,XS hn,?_⟩
   refine⟨rfl,_,rfl,_,rfl,l,[],rfl,rfl,.of zn,λp hp=>?_⟩
   refine⟨_,p,[],rfl,rfl,.of zn,by rfl,?_⟩
   refine⟨_,_,rfl,rfl,?_,?_⟩
   ·rw[Zu,str_int,zE,zE]
    have:=vc (k:=60) (by decide) hn
    show _+0<=sizeLine
    exact szl (by omega)
   ·have e:(Str.ofString (toString ((n:Nat):Int))++Txt.join (Str.ofString "") [])=TX (fig n):=by rw[Zu,str_int,xl,List.append_nil]
    rw[e]
    exact k _ ((zo.upd hl).trans (zo.upd hp))
 ·rintro σ H1 Q1 Q2 hq ⟨v,e,i,j,e1,e2,c,i2,j2,e3,e4,b,e5,q⟩
  exact⟨v,e,i,j,e1,e2,c,i2,j2,e3,e4,b,e5,hq _ _ q⟩
theorem J6 (D:Df K mg "number_text" xa ["number"] []) (TS:TxS K mg):Cal P w K mg base "number_text" 1 ["number"] [] Jh:=by
 refine D.cal (k:=0) QY (λvs H Q E h=>by obtain⟨_,rfl,_⟩:=h;rfl) (λf cdv A outer s H vs Q E hr h=>?_)
 obtain⟨n,rfl,hn,k⟩:=h
 exact Jc TS hn k
def zbe:Sp:=λvs H Q _=>∃n:Int,vs=[.int n]/\n.natAbs<10^60/\∀H',zo H H'->Q (.str (TX (ntL n))) H'
theorem zaR (D:Df K mg "number_text" xa ["number"] []) (TS:TxS K mg) (c0:Cal P w K mg base "number_text" 1 ["number"] [] Jh):Cal P w K mg base "number_text" 2 ["number"] [] zbe:=by
 refine D.cal (k:=1) QY (λvs H Q E h=>by obtain⟨_,rfl,_⟩:=h;rfl) (λf cdv A outer s H vs Q E hr h=>?_)
 obtain⟨n,rfl,hn,k⟩:=h
 by_cases n0:n<0
 case neg =>
  obtain⟨m,rfl⟩:=Int.eq_ofNat_of_zero_le (show 0<=n by omega)
  refine Jc TS (show m<10^60 by omega) λH' e=>?_
  have:=k H' e
  have e2:ntL (m:Int)=fig m:=by unfold ntL;rw[if_neg n0];rfl
  rw[e2]at this;exact this
 refine⟨_,(zj (zQ (zr v3 (pv 0) ze (zy _)) (zm (zx (zD zL zq (zI c0 hr (zd (v4 va (pv 0)) zf))))) zF) vT),?_⟩
 refine⟨_,rfl,_,_,rfl,rfl,_,rfl,qU (λh=>?_) (λh=>absurd (decide_eq_true n0) h)⟩
 refine⟨_,rfl,_,rfl,n.natAbs,congrArg (λi=>[V.int i]) (by omega),hn,λH1 s1=>?_⟩
 have e:ntL n=45::fig n.natAbs:=by unfold ntL;rw[if_pos n0]
 refine⟨_,_,rfl,rfl,?_,?_⟩
 ·rw[zE]
  have:=vc (k:=60) (by decide) hn
  show 1+_<=sizeLine
  exact szl (by omega)
 ·have e2:(Str.ofString "-"++TX (fig n.natAbs))=TX (ntL n):=by
   rw[e,show Str.ofString "-" = TX [45] by decide +kernel,xl];rfl
  rw[e2]
  exact k _ s1
theorem Q0:zC ["one","top","bottom"] ["one"] (zk xJ):=⟨rfl,rfl,rfl,by decide +kernel,rfl,by decide +kernel,by decide +kernel⟩
def Rz (r:Int×Int):Prop:=r.1.natAbs<10^60/\r.2.natAbs<10^60
theorem Zc {n:Int}(h:n.natAbs<10^60):(ntL n).length<=61:=by
 have:=vc (k:=60) (by decide) h
 unfold ntL;split
 ·simp;omega
 ·omega
theorem vV {r:Int×Int}(h:Rz r):(rtL r).length<=123:=by
 have h1:=Zc h.1
 have h2:=Zc h.2
 unfold rtL;split
 ·omega
 ·simp;omega
def zbi:Sp:=λvs H Q _=>∃v r,vs=[v]/\RI H v r/\Rz r/\∀H',zo H H'->Q (.str (TX (rtL r))) H'
theorem zaS (D:Df K mg "ratio_text" xJ ["one"] []) (cNt:Cal P w K mg base "number_text" 2 ["number"] [] zbe):Cal P w K mg base "ratio_text" 3 ["one"] [] zbi:=by
 refine D.cal (k:=2) Q0 (λvs H Q E h=>by obtain⟨_,_,rfl,_⟩:=h;rfl) (λf cdv A outer s H vs Q E hr h=>?_)
 obtain⟨v,r,rfl,⟨p,rfl,hp⟩,hz,k⟩:=h
 refine⟨_,(zj (vi (pv 0) (ZW rfl (xR (xp (i:=1) Q0.nd rfl (Or.inl rfl)) (xR (xp (i:=2) Q0.nd rfl (Or.inl rfl)) vz))))
  (zj (zQ (zr xU (pv 2) ze (zy _)) (zm (zx (zI cNt hr (zd (pv 1) zf)))) zF)
  (zm (zx (zD zL (zD zL (zI cNt hr (zd (pv 1) zf)) zq) (zI cNt hr (zd (pv 2) zf))))))),?_⟩
 refine⟨_,rfl,p,_,rfl,.of hp,rfl,_,_,rfl,_,_,rfl,rfl,?_⟩
 dsimp only
 refine⟨_,rfl,rfl,_,rfl,qU (λh=>?_) (λh=>?_)⟩
 ·have e:r.2=1:=by have:=of_decide_eq_true h;injection this
  refine⟨_,rfl,_,rfl,hz.1,λH1 s1=>?_⟩
  have e2:rtL r=ntL r.1:=by unfold rtL;rw[if_pos e]
  have:=k H1 s1
  rw[e2]at this;exact this
 ·have e:r.2≠1:=λz=>h (decide_eq_true (congrArg V.int z))
  refine⟨_,rfl,_,rfl,hz.1,λH1 s1=>?_⟩
  have l1:=Zc hz.1
  have l2:=Zc hz.2
  refine⟨_,_,rfl,rfl,?_,?_⟩
  ·rw[zE];exact szl (by show _+1<=1000;omega)
  refine⟨_,rfl,_,rfl,hz.2,λH2 s2=>?_⟩
  have e0:TX (ntL r.1)++Str.ofString "/" = TX (ntL r.1++[47]):=by rw[show Str.ofString "/" = TX [47] by decide +kernel,xl]
  refine⟨_,_,rfl,rfl,?_,?_⟩
  ·rw[e0,zE,zE];exact szl (by simp;omega)
  have e2:rtL r=ntL r.1++[47]++ntL r.2:=by unfold rtL;rw[if_neg e]
  have:=k H2 (s1.trans s2)
  rw[e2,<-xl,<-e0]at this;exact this
theorem zam:zC ["wall"] ["wall"] (zk x0):=⟨rfl,rfl,rfl,by decide +kernel,rfl,by decide +kernel,by decide +kernel⟩
def Wz:Wx->Prop
 | none=>True
 | some u=>Rz u.1/\Rz u.2
theorem vb {u:Wx}(h:Wz u):(wtL u).length<=300:=by
 cases u with
 | none=>decide
 | some u =>
  have h1:=vV h.1
  have h2:=vV h.2
  show (rtL u.1++[32]++rtL u.2).length<=300
  simp;omega
def Q6:Sp:=λvs H Q _=>∃v u,vs=[v]/\WI H v u/\Wz u/\∀H',zo H H'->Q (.str (TX (wtL u))) H'
theorem zac (D:Df K mg "wall_text" x0 ["wall"] []) (cRt:Cal P w K mg base "ratio_text" 3 ["one"] [] zbi):Cal P w K mg base "wall_text" 4 ["wall"] [] Q6:=by
 refine D.cal (k:=3) zam (λvs H Q E h=>by obtain⟨_,_,rfl,_⟩:=h;rfl) (λf cdv A outer s H vs Q E hr h=>?_)
 obtain⟨v,u,rfl,hw,hz,k⟩:=h
 refine⟨_,(zj (zQ (zr vR (pv 0) zU (zy _)) (zm (zx zq)) zF)
  (zm (zx (zaW (zI cRt hr (zd (zB zG (pv 0) ze (λ_ _=>rfl)) zf)) (zI cRt hr (zd (zB zG (pv 0) ze (λ_ _=>rfl)) zf)) (by decide))))),?_⟩
 cases u with
 | none =>
  cases(show v = .non from hw)
  refine⟨_,rfl,rfl,_,rfl,zT ?_⟩
  have e:Str.ofString "-" = TX (wtL none):=by decide +kernel
  have:=k H (zo.refl _)
  rw[<-e]at this;exact this
 | some u =>
  obtain⟨p,a,b,rfl,hp,ha,hb⟩:=hw
  refine⟨_,rfl,rfl,_,rfl,zM ?_⟩
  refine zH ?_
  refine⟨_,rfl,p,_,_,_,rfl,rfl,.of hp,rfl,a,u.1,rfl,ha,hz.1,λH1 s1=>?_⟩
  have l1:=vV hz.1
  have l2:=vV hz.2
  refine⟨_,rfl,by rw[zE];omega,_,rfl,p,_,_,_,rfl,rfl,.of (s1 _ _ hp),rfl,b,u.2,rfl,hb.tups (.of s1),hz.2,λH2 s2=>?_⟩
  refine⟨_,rfl,by rw[zE];omega,?_⟩
  have e:TX (rtL u.1)++Str.ofString " "++TX (rtL u.2)=TX (wtL (some u)):=by
   rw[show Str.ofString " " = TX [32] by decide +kernel,xl,xl];rfl
  have:=k H2 (s1.trans s2)
  rw[<-e]at this;exact this
theorem zal:zC ["walls"] ["walls"] (zk xO):=⟨rfl,rfl,rfl,by decide +kernel,rfl,by decide +kernel,by decide +kernel⟩
def WsI (H:Hp) (a:Addr) (u v:Wx):Prop:=∃x y,H a=some (.tup [x,y])/\WI H x u/\WI H y v
theorem WsI.tups {H H':Hp}{a:Addr}{u v:Wx}(h:WsI H a u v) (e:xE H H'):WsI H' a u v:=let ⟨x,y,a,b,c⟩:=h;⟨x,y,e _ _ a,b.tups e,c.tups e⟩
def Jk:Sp:=λvs H Q _=>∃a u v,vs=[.ref a]/\WsI H a u v/\Wz u/\Wz v/\∀H',zo H H'->Q (.str (TX (wsL u v))) H'
theorem zab (D:Df K mg "walls_text" xO ["walls"] []) (cWt:Cal P w K mg base "wall_text" 4 ["wall"] [] Q6):Cal P w K mg base "walls_text" 5 ["walls"] [] Jk:=by
 refine D.cal (k:=4) zal (λvs H Q E h=>by obtain⟨_,_,_,rfl,_⟩:=h;rfl) (λf cdv A outer s H vs Q E hr h=>?_)
 obtain⟨a,u,v,rfl,⟨x,y,ha,hx,hy⟩,zu,zv,k⟩:=h
 refine⟨_,(zm (zx (qF PySem.F.plainAttrs_str PySem.F.slot_str_join PySem.F.type_str_join Xj zq (zd (Xo (NB:=["wall"]) rfl (by decide +kernel) (by decide +kernel) rfl (by decide +kernel) (QK (pv 0)) (by intro _ _ _;refine⟨?_,?_,?_⟩;(exact(xp (i:=0) (show List.Nodup (["wall"]:List Str) by decide +kernel) rfl (Or.inl rfl)));(exact Xt);(exact(zI cWt hr (zd (pv 0) zf))))) zf)))),?_⟩
 refine⟨rfl,_,rfl,a,rfl,⟨_,SqT.of ha⟩,λDc hDc=>?_⟩
 refine jQ (J:=Itt K a) (g:=zK 0) (te:=Q7 Q6 [] E0 (q0 (vk 0) ZJ)) (n:=1) (xs:=[x,y]) (λi v' G=>v' = .str (TX (wtL (if i=0 then u else v)))) (λi v G G' e h=>h) hDc (QV ha) (qJ (by show 2<=1000;decide)) ?_ ?_
 ·intro i z zs G Q' hz hzs S hQ
  obtain⟨y1,rfl⟩:=Vq hzs
  have hi:i=0\/i=1:=by have:=(List.getElem?_eq_some_iff.mp hz).1;simp at this;omega
  rcases hi with rfl | rfl
  ·cases hz
   exact⟨_,rfl,x,u,rfl,hx.tups (.of S),zu,λG2 s2=>hQ _ _ s2 rfl⟩
  ·cases hz
   exact⟨_,rfl,y,v,rfl,hy.tups (.of S),zv,λG2 s2=>hQ _ _ s2 rfl⟩
 ·intro ys G S hD hyl hR
  have ey:ys=[TX (wtL u),TX (wtL v)].map V.str:=by
   match ys,hyl with
   | [c,d],_=>rw[hR 0 c rfl,hR 1 d rfl];rfl
  subst ey
  have l1:=vb zu
  have l2:=vb zv
  refine⟨_,Dc,[TX (wtL u),TX (wtL v)],rfl,rfl,.of hD,?_,?_⟩
  ·exact Vp (by decide +kernel) (by show 2<=100;decide) λt m=>by
    rcases List.mem_cons.mp m with rfl | m
    ·rw[zE];omega
    ·cases List.mem_singleton.mp m;rw[zE];omega
  ·have e:Txt.join (Str.ofString " | ") [TX (wtL u),TX (wtL v)]=TX (wsL u v):=by
    rw[show Str.ofString " | " = TX [32,124,32] by decide +kernel]
    show (TX (wtL u)++TX [32,124,32])++TX (wtL v)=_
    rw[xl,xl];rfl
   have:=k G S
   rw[<-e]at this;exact this
end
end KK
end
section
set_option maxHeartbeats 4000000
set_option Elab.async false
set_option linter.all false
set_option maxRecDepth 100000
namespace KK
open PySem L2 KM
section
variable {P:Program}{w:World}{K:PySem.W.Frag}{mg:Str->Option Value}{base:Heap}
def V4:Sp:=λvs H Q _=>∃(a:Addr) (xs:List V) (n:Int),vs=[.ref a,.int n]/\H a=some (.tup xs)/\Q (.bl (decide ((xs.length:Int)=n))) H
theorem QX:zC ["thing","many"] ["thing","many"] (zk qc):=⟨rfl,rfl,rfl,by decide +kernel,rfl,by decide +kernel,by decide +kernel⟩
theorem xq (a b:Int):decide (V.int a=V.int b)=decide (a=b):=by
 by_cases h:a=b
 ·rw[h,decide_eq_true rfl,decide_eq_true rfl]
 ·rw[decide_eq_false h,decide_eq_false (λz=>h (by injection z))]
theorem Qy (D:Df K mg "is_tuple" qc ["thing","many"] []) (T:TxB K mg) (TS:TxS K mg):Cal P w K mg base "is_tuple" 1 ["thing","many"] [] V4:=by
 refine D.cal (k:=0) QX (λvs H Q E h=>by obtain⟨_,_,_,rfl,_⟩:=h;rfl) (λf cdv A outer s H vs Q E hr h=>?_)
 obtain⟨a,xs,n,rfl,ha,k⟩:=h
 refine⟨_,(zm (zx (vh (zP qz (by rfl) T.nIs PyProof.Rows.boot_isinstance (zd (pv 0) (zd (v9 (v:=.ty "tuple") (u:=.type "tuple") (by rfl) T.nTuple PyProof.Rows.boot_tuple rfl) zf))) (vS (xt xU (zP z9 (by rfl) T.nLen PySem.boot_len (zd (pv 0) zf)) (pv 1) (zy _)))))),?_⟩
 refine⟨_,rfl,_,_,_,true,rfl,.tup ha,TS.tt,true,rfl,zT ?_⟩
 refine⟨_,rfl,a,xs,rfl,.inr (SqT.of ha),_,rfl,?_⟩
 rw[<-xq]at k
 exact⟨rfl,k⟩
def zan:Sp:=λvs H Q _=>∃(v:V) (r:Int×Int),vs=[v]/\RI H v r/\Q (.bl (xQ r.1 r.2)) H
theorem ZY:zC ["thing","top","bottom"] ["thing"] (zk qb):=⟨rfl,rfl,rfl,by decide +kernel,rfl,by decide +kernel,by decide +kernel⟩
theorem J1 (D:Df K mg "is_ratio" qb ["thing"] []) (T:TxB K mg) (cTu:Cal P w K mg base "is_tuple" 1 ["thing","many"] [] V4) (cW:Cal P w K mg base "is_whole" 1 ["thing"] [] XE) (cG:Cal P w K mg base "greatest_divisor" 1 ["one","other"] [] ZD):Cal P w K mg base "is_ratio" 2 ["thing"] [] zan:=by
 refine D.cal (k:=1) ZY (λvs H Q E h=>by obtain⟨_,_,rfl,_⟩:=h;rfl) (λf cdv A outer s H vs Q E hr h=>?_)
 obtain⟨v,r,rfl,⟨p,rfl,hp⟩,k⟩:=h
 refine⟨_,(zj (zQ (xT (xi (zI cTu hr (zd (pv 0) (zd ze zf))) λ_=>rfl)) (zm (zx vy)) zF)
  (zj (vi (pv 0) (ZW rfl (xR (xp (i:=1) ZY.nd rfl (Or.inl rfl)) (xR (xp (i:=2) ZY.nd rfl (Or.inl rfl)) vz))))
  (zj (zQ ((qW (xT (xi (zI cW hr (zd (pv 1) zf)) λ_=>rfl)) (qW (xT (xi (zI cW hr (zd (pv 2) zf)) λ_=>rfl)) (vj (zr v3 (pv 2) ze (zy _)))))).pt (zm (zx vy)) zF)
  (zm (zx (xt xU (zI cG hr (zd (zP jj (by rfl) T.nAbs PyProof.Rows.boot_abs (zd (pv 1) zf)) (zd (pv 2) zf))) ze (zy _))))))),?_⟩
 refine⟨_,rfl,p,_,_,rfl,hp,true,rfl,zM ?_⟩
 refine zH ?_
 refine⟨_,rfl,p,_,rfl,.of hp,rfl,_,_,rfl,_,_,rfl,rfl,?_⟩
 dsimp only
 refine⟨_,rfl,r.1,rfl,true,rfl,zM ?_⟩
 refine⟨_,rfl,r.2,rfl,true,rfl,zM ?_⟩
 refine⟨_,rfl,_,_,rfl,rfl,_,rfl,qU (λh=>?_) (λh=>?_)⟩
 ·have h1:r.2<1:=of_decide_eq_true h
  have e:xQ r.1 r.2=false:=by unfold xQ;rw[decide_eq_false (by omega)];rfl
  rw[e]at k;exact k
 ·have h1:¬r.2<1:=λz=>h (decide_eq_true z)
  refine zH ?_
  refine⟨_,rfl,r.1,rfl,_,rfl,_,_,rfl,(by rw[jg];omega),(by omega),rfl,?_⟩
  have e:xQ r.1 r.2=decide (V.int ((Int.gcd (if r.1<0 then -r.1 else r.1) r.2:Nat):Int)=V.int 1):=by
   unfold xQ
   rw[decide_eq_true (show 1<=r.2 by omega),xq,jg,Bool.true_and]
   by_cases c:Int.gcd (r.1.natAbs:Int) r.2=1
   ·rw[decide_eq_true c,c];rfl
   ·rw[decide_eq_false c,decide_eq_false (by omega)]
  rw[e]at k;exact k
def jK:Wx->Bool
 | none=>true
 | some u=>xQ u.1.1 u.1.2&&xQ u.2.1 u.2.2
def zba:Sp:=λvs H Q _=>∃(v:V) (u:Wx),vs=[v]/\WI H v u/\Q (.bl (jK u)) H
theorem X4:zC ["thing"] ["thing"] (zk qo):=⟨rfl,rfl,rfl,by decide +kernel,rfl,by decide +kernel,by decide +kernel⟩
theorem XZ (D:Df K mg "is_wall" qo ["thing"] []) (cTu:Cal P w K mg base "is_tuple" 1 ["thing","many"] [] V4) (cIr:Cal P w K mg base "is_ratio" 2 ["thing"] [] zan):Cal P w K mg base "is_wall" 3 ["thing"] [] zba:=by
 refine D.cal (k:=2) X4 (λvs H Q E h=>by obtain⟨_,_,rfl,_⟩:=h;rfl) (λf cdv A outer s H vs Q E hr h=>?_)
 obtain⟨v,u,rfl,hw,k⟩:=h
 have hr1:xk 1 _:=hr.mono (by decide)
 refine⟨_,(zj (zQ (zr vR (pv 0) zU (zy _)) (zm (zx vy)) zF)
  (zm (zx (vh (zI cTu hr1 (zd (pv 0) (zd ze zf))) (vh (zI cIr hr (zd (zB zG (pv 0) ze (λ_ _=>rfl)) zf)) (vS (zI cIr hr (zd (zB zG (pv 0) ze (λ_ _=>rfl)) zf)))))))),?_⟩
 cases u with
 | none=>cases(show v = .non from hw);exact⟨_,rfl,rfl,_,rfl,zT k⟩
 | some u =>
  obtain⟨p,a,b,rfl,hp,ha,hb⟩:=hw
  refine⟨_,rfl,rfl,_,rfl,zM ?_⟩
  refine zH ?_
  refine⟨_,rfl,p,_,_,rfl,hp,true,rfl,zT ?_⟩
  refine⟨_,rfl,p,_,_,_,rfl,rfl,.of hp,rfl,a,u.1,rfl,ha,_,rfl,qU (λh=>?_) (λh=>?_)⟩
  ·refine⟨_,rfl,p,_,_,_,rfl,rfl,.of hp,rfl,b,u.2,rfl,hb,?_⟩
   have e:jK (some u)=xQ u.2.1 u.2.2:=by show (_&&_)=_;rw[h];rfl
   rw[e]at k;exact k
  ·have e:jK (some u)=false:=by
    show (xQ u.1.1 u.1.2&&_)=_
    cases h2:xQ u.1.1 u.1.2
    ·rfl
    ·exact absurd h2 h
   rw[e]at k;exact k
def za9:Sp:=λvs H Q _=>∃(a:Addr) (u v:Wx),vs=[.ref a]/\WsI H a u v/\Q (.bl (jK u&&jK v)) H
theorem VV:zC ["thing"] ["thing"] (zk xr):=⟨rfl,rfl,rfl,by decide +kernel,rfl,by decide +kernel,by decide +kernel⟩
theorem Vs (D:Df K mg "is_wall_pair" xr ["thing"] []) (cTu:Cal P w K mg base "is_tuple" 1 ["thing","many"] [] V4) (cWa:Cal P w K mg base "is_wall" 3 ["thing"] [] zba):Cal P w K mg base "is_wall_pair" 4 ["thing"] [] za9:=by
 refine D.cal (k:=3) VV (λvs H Q E h=>by obtain⟨_,_,_,rfl,_⟩:=h;rfl) (λf cdv A outer s H vs Q E hr h=>?_)
 obtain⟨a,u,v,rfl,⟨x,y,ha,hx,hy⟩,k⟩:=h
 have hr1:xk 1 _:=hr.mono (by decide)
 refine⟨_,(zm (zx (vh (zI cTu hr1 (zd (pv 0) (zd ze zf))) (vh (zI cWa hr (zd (zB zG (pv 0) ze (λ_ _=>rfl)) zf)) (vS (zI cWa hr (zd (zB zG (pv 0) ze (λ_ _=>rfl)) zf))))))),?_⟩
 refine⟨_,rfl,a,_,_,rfl,ha,true,rfl,zT ?_⟩
 refine⟨_,rfl,a,_,_,_,rfl,rfl,.of ha,rfl,x,u,rfl,hx,_,rfl,qU (λh=>?_) (λh=>?_)⟩
 ·refine⟨_,rfl,a,_,_,_,rfl,rfl,.of ha,rfl,y,v,rfl,hy,?_⟩
  rw[h]at k;exact k
 ·have e:jK u=false:=by cases h2:jK u;rfl;exact absurd h2 h
  rw[e]at k;exact k
def Rm (r:Int×Int):Prop:=Bd 4000 r.1/\Bd 4000 r.2
def zbc:Sp:=λvs H Q _=>∃v u r s,vs=[v,u]/\RI H v r/\RI H u s/\Rm r/\Rm s/\Q (.bl (decide (r.1*s.2<s.1*r.2))) H
theorem V1:zC ["one","other"] ["one","other"] (zk vW):=⟨rfl,rfl,rfl,by decide +kernel,rfl,by decide +kernel,by decide +kernel⟩
theorem VF (D:Df K mg "less" vW ["one","other"] []):Cal P w K mg base "less" 1 ["one","other"] [] zbc:=by
 refine D.cal (k:=0) V1 (λvs H Q E h=>by obtain⟨_,_,_,_,rfl,_⟩:=h;rfl) (λf cdv A outer s H vs Q E hr h=>?_)
 obtain⟨v,u,x,y,rfl,⟨p,rfl,hp⟩,⟨q,rfl,hq⟩,hx,hy,k⟩:=h
 have b1:Bd 1000000 x.1:=hx.1.mono (by decide)
 have b2:Bd 1000000 x.2:=hx.2.mono (by decide)
 have b3:Bd 1000000 y.1:=hy.1.mono (by decide)
 have b4:Bd 1000000 y.2:=hy.2.mono (by decide)
 refine⟨_,(zm (zx (xt v3 (zD xB (zB zG (pv 0) ze (λ_ _=>rfl)) (zB zG (pv 1) ze (λ_ _=>rfl))) (zD xB (zB zG (pv 1) ze (λ_ _=>rfl)) (zB zG (pv 0) ze (λ_ _=>rfl))) (zy _)))),?_⟩
 refine⟨_,rfl,p,_,_,_,rfl,rfl,.of hp,at0 ..,_,rfl,q,_,_,_,rfl,rfl,.of hq,at1 ..,_,_,rfl,rfl,⟨b1,b4⟩,?_⟩
 exact⟨_,rfl,q,_,_,_,rfl,rfl,.of hq,at0 ..,_,rfl,p,_,_,_,rfl,rfl,.of hp,at1 ..,_,_,rfl,rfl,⟨b3,b2⟩,_,_,rfl,rfl,k⟩
def Wm:Wx->Prop
 | none=>True
 | some u=>Rm u.1
def zbo:Sp:=λvs H Q _=>∃(a:Addr) (u v:Wx),vs=[.ref a]/\WsI H a u v/\jK u=true/\jK v=true/\Wm u/\Wm v/\Q (.bl (okW u v)) H
theorem jA:zC ["thing","low","high"] ["thing"] (zk xM):=⟨rfl,rfl,rfl,by decide +kernel,rfl,by decide +kernel,by decide +kernel⟩
theorem QE (D:Df K mg "walls_good" xM ["thing"] []) (cWp:Cal P w K mg base "is_wall_pair" 4 ["thing"] [] za9) (cLs:Cal P w K mg base "less" 1 ["one","other"] [] zbc):Cal P w K mg base "walls_good" 5 ["thing"] [] zbo:=by
 refine D.cal (k:=4) jA (λvs H Q E h=>by obtain⟨_,_,_,rfl,_⟩:=h;rfl) (λf cdv A outer s H vs Q E hr h=>?_)
 obtain⟨a,u,v,rfl,hW,lu,lv,mu,mv,k⟩:=h
 have hr1:xk 1 _:=hr.mono (by decide)
 obtain⟨x,y,ha,hx,hy⟩:=id hW
 refine⟨_,(zj (zQ (xT (xi (zI cWp hr (zd (pv 0) zf)) λ_=>rfl)) (zm (zx vy)) zF)
  (zj (vi (pv 0) (ZW rfl (xR (xp (i:=1) jA.nd rfl (Or.inl rfl)) (xR (xp (i:=2) jA.nd rfl (Or.inl rfl)) vz))))
  (zm (zx (Je (xt vR (pv 1) zU (zy _)) (Je (xt vR (pv 2) zU (zy _)) (vS (zI cLs hr1 (zd (zB zG (pv 1) ze (λ_ _=>rfl)) (zd (zB zG (pv 2) ze (λ_ _=>rfl)) zf)))))))))),?_⟩
 refine⟨_,rfl,a,u,v,rfl,hW,_,rfl,?_⟩
 rw[lu,lv]
 refine zM ?_
 refine zH ?_
 refine⟨_,rfl,a,_,rfl,.of ha,rfl,_,_,rfl,_,_,rfl,rfl,?_⟩
 dsimp only
 cases u with
 | none=>cases(show x = .non from hx);exact⟨_,rfl,rfl,_,rfl,zT k⟩
 | some u =>
  obtain⟨p1,a1,c1,rfl,h1,r1,_⟩:=hx
  refine⟨_,rfl,rfl,_,rfl,zM ?_⟩
  cases v with
  | none=>cases(show y = .non from hy);exact⟨_,rfl,rfl,_,rfl,zT k⟩
  | some v =>
   obtain⟨p2,a2,c2,rfl,h2,r2,_⟩:=hy
   refine⟨_,rfl,rfl,_,rfl,zM ?_⟩
   exact⟨_,rfl,p1,_,_,_,rfl,rfl,.of h1,rfl,_,rfl,p2,_,_,_,rfl,rfl,.of h2,rfl,a1,a2,u.1,v.1,rfl,r1,r2,mu,mv,k⟩
end
end KK
end
section
set_option maxHeartbeats 4000000
set_option Elab.async false
set_option linter.all false
set_option maxRecDepth 100000
namespace KK
open PySem L2 KM PySem.NumText
structure TxF (mg:Str->Option Value) (tF tM:Tok):Prop where
 mF:mg "FIGURES" = some (.str "0123456789" tF)
 mM:mg "MOST_FIGURES" = some (.int 300 tM)
theorem qv (x y:Str):decide (V.str x=V.str y)=decide (x=y):=by
 by_cases h:x=y
 ·rw[h,decide_eq_true rfl,decide_eq_true rfl]
 ·rw[decide_eq_false h,decide_eq_false (λz=>h (by injection z))]
theorem XH (x:Str) (i j:Nat):(Builtin.Str.strSub x i j).length<=x.length:=by
 rw[<-vJ x,jH,zE,zE]
 simp
 omega
theorem jT (x:Str) (n:Nat):∀(cuts:List Nat) (a:Nat),∀p∈StrLaws.partsFrom x n a cuts,p.length<=x.length
 | [],a,p,m=>by cases List.mem_singleton.mp m;exact XH ..
 | c::r,a,p,m=>by
  rcases List.mem_cons.mp m with rfl | m
  ·exact XH ..
  ·exact jT x n r _ p m
theorem xy {x y p:Str}(h:p∈Txt.split x y):p.length<=x.length:=by
 unfold Txt.split at h
 split at h
 ·cases List.mem_singleton.mp h;exact Nat.le_refl _
 ·split at h
  ·cases List.mem_singleton.mp h;exact Nat.le_refl _
  ·rw[StrLaws.partsBetween_eq]at h;exact jT x _ _ _ p h
theorem qB {n:Nat}(h:n<=10000):n+2<=sizeLine:=by rw[sizeLine_eq];omega
def oI:Option Nat->V
 | none=>.non
 | some n=>.int (n:Int)
def okM (o:Option Nat) (n:Nat):Bool:=match o with
 | none=>true
 | some m=>decide (n=m)
section
variable {P:Program}{w:World}{K:PySem.W.Frag}{mg:Str->Option Value}{base:Heap}{C:Addr}{tF tM:Tok}
def V3 (C:Addr):Sp:=λvs H Q E=>∃x y o,vs=[.str x,.str y,oI o]/\(y.length == 0)=false/\x.length<=10000/\(okM o (Txt.split x y).length=true->∀l H',H l=none->zo H H'->H' l=some (.lst ((Txt.split x y).map V.str))->Q (.ref l) H')/\(okM o (Txt.split x y).length=false->∀H',zo H H'->E (.ref C) none H')
theorem QZ:zC ["thing","sign","many","parts"] ["thing","sign","many"] (zk qk):=⟨rfl,rfl,rfl,by decide +kernel,rfl,by decide +kernel,by decide +kernel⟩
theorem J7 (D:Df K mg "parts_of" qk ["thing","sign","many"] []) (T:TxB K mg) (TS:TxS K mg) (O:Zo "NoText" C mg base):qC P w K mg base "parts_of" 1 ["thing","sign","many"] [] (V3 C):=by
 refine D.cal1 (k:=0) QZ (λvs H Q E h=>by obtain⟨_,_,_,rfl,_⟩:=h;rfl) (λf cdv A outer s H vs Q E hr h=>?_)
 obtain⟨x,y,o,rfl,hy,hx,k,kE⟩:=h
 refine⟨_,(zj (zQ (xT (xi (zP qz (by rfl) T.nIs PyProof.Rows.boot_isinstance (zd (pv 0) (zd (v9 (v:=.ty "str") (u:=.type "str") (by rfl) TS.nStr PyProof.Rows.boot_str rfl) zf))) λ_=>rfl)) (zm (ql O PySem.F.excBase_ValueError (by decide +kernel) PySem.F.excBase_ValueError hr.hd xn (zd zq zf))) zF)
  (zj (zz (i:=3) QZ.nd rfl (Or.inl rfl) (qF PySem.F.plainAttrs_str PySem.F.slot_str_split PySem.F.type_str_split vt (pv 0) (zd (pv 1) zf)))
  (zj (zQ ((qx (zr v8 (pv 2) zU (zy _)) (qm (zr vf (zP z9 (by rfl) T.nLen PySem.boot_len (zd (pv 3) zf)) (pv 2) (zy _))))).pt (zm (ql O PySem.F.excBase_ValueError (by decide +kernel) PySem.F.excBase_ValueError hr.hd xn (zd zq zf))) zF)
  (zm (zx (pv 3)))))),?_⟩
 refine⟨_,rfl,_,_,_,true,rfl,.str x,TS.ss,true,rfl,zM ?_⟩
 refine zH ?_
 refine⟨_,rfl,rfl,_,rfl,x,y,rfl,rfl,hy,qB hx,λl hl=>?_⟩
 dsimp only[zK]
 have sl:zo H (upd H l (.lst ((Txt.split x y).map V.str))):=zo.upd hl
 cases o with
 | none =>
  refine⟨_,rfl,rfl,_,rfl,zM (zM ?_)⟩
  refine zH ?_
  exact⟨_,rfl,k rfl l _ hl sl zn⟩
 | some n =>
  refine⟨_,rfl,rfl,_,rfl,zT ?_⟩
  refine⟨_,rfl,l,_,rfl,.inl (.of zn),_,rfl,rfl,_,rfl,?_⟩
  rw[List.length_map,show oI (some n)=V.int (n:Int)from rfl,xq]
  by_cases c:(Txt.split x y).length=n
  ·rw[decide_eq_true (show ((Txt.split x y).length:Int)=(n:Int) by omega)]
   refine zM ?_
   refine zH ?_
   exact⟨_,rfl,k (decide_eq_true c) l _ hl sl zn⟩
  ·rw[decide_eq_false (show ¬((Txt.split x y).length:Int)=(n:Int) by omega)]
   exact zT ⟨by show 1<=sizeLine;decide,kE (decide_eq_false c) _ sl⟩
theorem QU (a:Str) (H:Hp):Jq (Its a) H (a.cps.toList.map λc=>V.str ⟨#[c]⟩) :=
 ⟨λi H' hi s=>show i<a.cps.size by simpa using hi,λH' s=>by show a.cps.size<=_;simp,λi x H2 H3 s y=>⟨y.1,by
  obtain⟨c,e1,e2⟩:=y.2
  rw[List.getElem?_map,e2]
  have:a.cps.toList[i]? = some c:=by simpa using e1
  rw[this];rfl⟩⟩
theorem Qn (c:Nat):(!(Builtin.Str.occurrences (Str.ofString "0123456789") ⟨#[c]⟩ 0 (Str.ofString "0123456789").length 1).isEmpty)=qD c:=by
 rw[StrLaws.found_one]
 have e:(Str.ofString "0123456789").cps.toList=[48,49,50,51,52,53,54,55,56,57]:=by decide +kernel
 rw[e]
 unfold qD
 by_cases h:48<=c/\c<=57
 ·rw[decide_eq_true h.1,decide_eq_true h.2,decide_eq_true]
  ·rfl
  ·simp;omega
 ·rw[decide_eq_false]
  ·by_cases h1:48<=c
   ·rw[decide_eq_true h1,decide_eq_false (by omega)];rfl
   ·rw[decide_eq_false h1];rfl
  ·simp;omega
theorem vd (x:Str):(x=Str.ofString "0")↔x.cps.toList=[48]:=by
 rw[show Str.ofString "0" = TX [48] by decide +kernel]
 constructor
 ·intro e;rw[e,xu]
 ·intro e;rw[<-vJ x,e]
def zap (C:Addr):Sp:=λvs H Q E=>∃x,vs=[.str x,.int 300]/\x.length<=10000/\(∀n,rdN x=some n->∀H',zo H H'->Q (.int n) H')/\(rdN x=none->∀H',zo H H'->E (.ref C) none H')
theorem V2:zC ["text","most"] ["text","most"] (zk xx):=⟨rfl,rfl,rfl,by decide +kernel,rfl,by decide +kernel,by decide +kernel⟩
theorem jt {x:Str}(h:x5 x.cps.toList=false):rdN x=none:=by unfold rdN;rw[h];rfl
theorem VG (D:Df K mg "read_number" xx ["text","most"] []) (T:TxB K mg) (TS:TxS K mg) (TF:TxF mg tF tM) (O:Zo "NoText" C mg base):qC P w K mg base "read_number" 1 ["text","most"] [] (zap C):=by
 refine D.cal1 (k:=0) V2 (λvs H Q E h=>by obtain⟨_,rfl,_⟩:=h;rfl) (λf cdv A outer s H vs Q E hr h=>?_)
 obtain⟨x,rfl,hx,k,kE⟩:=h
 have hxl:x.cps.toList.length=x.length:=by simp[Str.length]
 have hz:x.length<=sizeLine:=by have:=qB hx;omega
 refine⟨_,(zj (zQ (qW (xT (QM Jd Jd ze (zP qM (by rfl) T.nLen PySem.boot_len (zd (pv 0) zf)) (pv 1))) (vj (xT (xi (zP (Qh rfl) (by rfl) TS.nAll (by decide +kernel) (zd (Xo (NB:=["sign"]) rfl (by decide +kernel) (by decide +kernel) rfl (by decide +kernel) (QJ (pv 0)) (by intro _ _ _;refine⟨?_,?_,?_⟩;(exact(xp (i:=0) (show List.Nodup (["sign"]:List Str) by decide +kernel) rfl (Or.inl rfl)));(exact Xt);(exact(xt X1 (pv 0) (ja (v:=.str "0123456789") (by rfl) TF.mF ⟨_,rfl⟩) rfl)))) zf)) λ_=>rfl)))).pt (zm (ql O PySem.F.excBase_ValueError (by decide +kernel) PySem.F.excBase_ValueError hr.hd xn (zd zq zf))) zF)
  (zj (zQ ((qx (zr vf (pv 0) zq (zy _)) (qm (xi (qF PySem.F.plainAttrs_str PySem.F.slot_str_startswith PySem.F.type_str_startswith jS (pv 0) (zd zq zf)) λ_=>rfl)))).pt (zm (ql O PySem.F.excBase_ValueError (by decide +kernel) PySem.F.excBase_ValueError hr.hd xn (zd zq zf))) zF)
  (zm (zx (x9 XL (by rfl) T.nInt PyProof.Rows.boot_int (zd (pv 0) zf)))))),?_⟩
 by_cases c1:1<=x.length
 case neg =>
  refine⟨_,rfl,x,rfl,hz,_,_,rfl,rfl,_,rfl,?_⟩
  rw[decide_eq_false (show ¬(1:Int)<=(x.length:Int) by omega)]
  refine zM ⟨_,rfl,zT ⟨by show 1<=sizeLine;decide,kE (jt ?_) H (zo.refl _)⟩⟩
  unfold x5;rw[hxl,decide_eq_false c1];rfl
 refine⟨_,rfl,x,rfl,hz,_,_,rfl,rfl,_,rfl,?_⟩
 rw[decide_eq_true (show (1:Int)<=(x.length:Int) by omega)]
 refine zT ⟨_,rfl,_,_,rfl,rfl,_,rfl,?_⟩
 by_cases c2:x.length<=300
 case neg =>
  rw[decide_eq_false (show ¬(x.length:Int)<=300 by omega)]
  refine zT ⟨by show 1<=sizeLine;decide,kE (jt ?_) H (zo.refl _)⟩
  unfold x5;rw[hxl,decide_eq_true c1,decide_eq_false c2];rfl
 rw[decide_eq_true (show (x.length:Int)<=300 by omega)]
 refine zM ?_
 refine⟨_,rfl,x,rfl,λDc hDc=>?_⟩
 refine jQ (J:=Its x) (g:=zK 0) (te:=_) (n:=1) (xs:=x.cps.toList.map λc=>V.str ⟨#[c]⟩) (λi v G=>∀c,x.cps.toList[i]? = some c->v = .bl (qD c)) (λi v G G' e h=>h) hDc (QU x H) (qJ (by rw[List.length_map];omega)) ?_ ?_
 ·intro i z zs G Q' hz' hzs S hQ
  obtain⟨y1,rfl⟩:=Vq hzs
  rw[List.getElem?_map]at hz'
  obtain⟨c,ec,rfl⟩:=Option.map_eq_some_iff.mp hz'
  refine⟨_,rfl,_,_,rfl,rfl,hQ _ _ (zo.refl _) λc' e'=>?_⟩
  rw[ec]at e';cases e'
  rw[Qn]
 intro ys G S hD hyl hR
 rw[List.length_map]at hyl
 have ey:ys=(x.cps.toList.map qD).map V.bl:=by
  apply List.ext_getElem?
  intro i
  rw[List.getElem?_map,List.getElem?_map]
  cases hd:x.cps.toList[i]? with
  | none=>rw[List.getElem?_eq_none (by have:=List.getElem?_eq_none_iff.mp hd;omega)];rfl
  | some c =>
   have hi:=(List.getElem?_eq_some_iff.mp hd).1
   obtain⟨v,ev⟩:∃v,ys[i]? = some v:=⟨ys[i]'(by omega),List.getElem?_eq_getElem _⟩
   rw[ev,hR i v ev c hd];rfl
 subst ey
 have ea:(x.cps.toList.map qD).all id=x.cps.toList.all qD:=by rw[List.all_map];rfl
 refine⟨Dc,_,rfl,.of hD,_,rfl,?_⟩
 rw[ea]
 by_cases c3:x.cps.toList.all qD=true
 case neg =>
  have c3:x.cps.toList.all qD=false:=by cases h:x.cps.toList.all qD;rfl;exact absurd h c3
  rw[c3]
  refine zT ⟨by show 1<=sizeLine;decide,kE (jt ?_) G S⟩
  unfold x5;rw[c3,Bool.and_false];rfl
 rw[c3]
 refine zM ?_
 refine zH ?_
 have dg:NumText.AllDigits x.cps.toList:=λc m=>by
  have:=List.all_eq_true.mp c3 c m
  unfold qD at this
  simp only[Bool.and_eq_true,decide_eq_true_eq]at this
  exact this
 have ne:x.cps.toList≠[]:=λe=>by rw[e]at hxl;simp at hxl;omega
 have it:=intText_digits dg ne (by omega)
 refine⟨_,rfl,rfl,_,rfl,?_⟩
 rw[qv]
 by_cases c4:x.cps.toList=[48]
 ·rw[decide_eq_true ((vd x).mpr c4)]
  refine zM (zM ?_)
  refine zH ?_
  refine⟨_,rfl,x,_,rfl,it,by omega,k _ ?_ G S⟩
  unfold rdN x5
  rw[hxl,decide_eq_true c1,decide_eq_true c2,c3,decide_eq_true c4];rfl
 ·rw[decide_eq_false (λz=>c4 ((vd x).mp z))]
  refine zT ?_
  refine⟨_,rfl,rfl,x,_,rfl,rfl,_,rfl,?_⟩
  rw[show Str.ofString "0" = ⟨#[48]⟩ by decide +kernel,jF]
  by_cases c5:x.cps.toList.head? = some 48
  ·rw[decide_eq_true c5]
   refine zT ⟨by show 1<=sizeLine;decide,kE (jt ?_) G S⟩
   unfold x5;rw[decide_eq_false c4,decide_eq_true c5];simp
  ·rw[decide_eq_false c5]
   refine zM ?_
   refine zH ?_
   refine⟨_,rfl,x,_,rfl,it,by omega,k _ ?_ G S⟩
   unfold rdN x5
   rw[hxl,decide_eq_true c1,decide_eq_true c2,c3,decide_eq_false c4,decide_eq_false c5];rfl
def zbj (C:Addr):Sp:=λvs H Q E=>∃x,vs=[.str x]/\x.length<=10000/\(∀n,rdW x=some n->∀H',zo H H'->Q (.int n) H')/\(rdW x=none->∀H',zo H H'->E (.ref C) none H')
theorem Q3:zC ["text","number"] ["text"] (zk xL):=⟨rfl,rfl,rfl,by decide +kernel,rfl,by decide +kernel,by decide +kernel⟩
theorem J8 (D:Df K mg "read_whole" xL ["text"] []) (TF:TxF mg tF tM) (O:Zo "NoText" C mg base) (cRn:qC P w K mg base "read_number" 1 ["text","most"] [] (zap C)):qC P w K mg base "read_whole" 2 ["text"] [] (zbj C):=by
 refine D.cal1 (k:=1) Q3 (λvs H Q E h=>by obtain⟨_,rfl,_⟩:=h;rfl) (λf cdv A outer s H vs Q E hr1 h=>?_)
 obtain⟨x,rfl,hx,k,kE⟩:=h
 have hz:x.length<=sizeLine:=by have:=qB hx;omega
 refine⟨_,(zj (zQ (xT (xi (qF PySem.F.plainAttrs_str PySem.F.slot_str_startswith PySem.F.type_str_startswith jS (pv 0) (zd zq zf)) λ_=>rfl)) (zm (zx (qA cRn hr1 xm (zd (pv 0) (zd (ja (v:=.int 300) (by rfl) TF.mM ⟨_,rfl⟩) zf))))) zF)
  (zj (zz (i:=1) Q3.nd rfl (Or.inl rfl) (qA cRn hr1 xm (zd (qV jB (pv 0) (vB ze) vA) (zd (ja (v:=.int 300) (by rfl) TF.mM ⟨_,rfl⟩) zf))))
  (zj (zQ (zr xU (pv 1) ze (zy _)) (zm (ql O PySem.F.excBase_ValueError (by decide +kernel) PySem.F.excBase_ValueError hr1.hd xn (zd zq zf))) zF)
  (zm (zx (v4 va (pv 1))))))),?_⟩
 refine⟨_,rfl,rfl,x,_,rfl,rfl,_,rfl,?_⟩
 rw[show Str.ofString "-" = ⟨#[45]⟩ by decide +kernel,jF]
 by_cases c:x.cps.toList.head? = some 45
 ·rw[decide_eq_true c]
  refine zM ?_
  refine zH ?_
  refine⟨_,rfl,_,rfl,x,rfl,hz,?_⟩
  have es:Txt.slice x (some 1) none=TX (x.cps.toList.drop 1):=jC x 1
  rw[es]
  have eW:rdW x=match rdN (TX (x.cps.toList.drop 1))with | some n=>if n=0 then none else some (-n) | none=>none:=by unfold rdW;rw[if_pos c] <;> rfl
  have hl:(TX (x.cps.toList.drop 1)).length<=10000:=by
   rw[zE,List.length_drop];have:x.cps.toList.length=x.length:=by simp[Str.length]
   omega
  cases hn:rdN (TX (x.cps.toList.drop 1))with
  | none =>
   rw[hn]at eW
   exact⟨_,rfl,hl,λn e=>(by rw[hn]at e;cases e),λ_ H1 s1=>⟨C,rfl,kE eW H1 s1⟩⟩
  | some n =>
   rw[hn]at eW
   refine⟨_,rfl,hl,λn' e H1 s1=>?_,λe=>(by rw[hn]at e;cases e)⟩
   rw[hn]at e;cases e
   dsimp only[zK]
   refine⟨_,rfl,rfl,_,rfl,?_⟩
   rw[xq]
   by_cases c0:n=0
   ·rw[decide_eq_true c0]
    have:rdW x=none:=by rw[eW];exact if_pos c0
    exact zT ⟨by show 1<=sizeLine;decide,kE this H1 s1⟩
   ·rw[decide_eq_false c0]
    have:rdW x=some (-n):=by rw[eW];exact if_neg c0
    refine zM ?_
    refine zH ?_
    exact⟨_,rfl,_,rfl,k _ this H1 s1⟩
 ·rw[decide_eq_false c]
  have eW:rdW x=rdN x:=by unfold rdW;rw[if_neg c]
  refine zT ?_
  exact⟨_,rfl,x,rfl,hx,λn e H1 s1=>k n (eW.trans e) H1 s1,λe H1 s1=>⟨C,rfl,kE (eW.trans e) H1 s1⟩⟩
def zbh (C:Addr):Sp:=λvs H Q E=>∃x,vs=[.str x]/\x.length<=10000/\(∀r,rdR x=some r->∀v H',zo H H'->RI H' v r->Q v H')/\(rdR x=none->∀H',zo H H'->E (.ref C) none H')
theorem Zi:zC ["thing","parts","one"] ["thing"] (zk xK):=⟨rfl,rfl,rfl,by decide +kernel,rfl,by decide +kernel,by decide +kernel⟩
theorem VH (D:Df K mg "read_ratio" xK ["thing"] []) (T:TxB K mg) (TF:TxF mg tF tM) (O:Zo "NoText" C mg base) (cPs:qC P w K mg base "parts_of" 1 ["thing","sign","many"] [] (V3 C)) (cRn:qC P w K mg base "read_number" 1 ["text","most"] [] (zap C)) (cRw:qC P w K mg base "read_whole" 2 ["text"] [] (zbj C))
  (cIr:Cal P w K mg base "is_ratio" 2 ["thing"] [] zan):qC P w K mg base "read_ratio" 3 ["thing"] [] (zbh C):=by
 refine D.cal1 (k:=2) Zi (λvs H Q E h=>by obtain⟨_,rfl,_⟩:=h;rfl) (λf cdv A outer s H vs Q E hr h=>?_)
 obtain⟨x,rfl,hx,k,kE⟩:=h
 have hr1:xk 1 _:=hr.mono (by decide)
 have hr2:xk 2 _:=hr
 refine⟨_,(zj (zz (i:=1) Zi.nd rfl (Or.inl rfl) (qA cPs hr1 xm (zd (pv 0) (zd zq (zd zU zf)))))
  (zj (zQ (zr xU (zP z9 (by rfl) T.nLen PySem.boot_len (zd (pv 1) zf)) ze (zy _)) (zm (zx (xz (zd (qA cRw hr2 xm (zd (pv 0) zf)) (zd ze zf))))) zF)
  (zj (zQ (zr vx (zP z9 (by rfl) T.nLen PySem.boot_len (zd (pv 1) zf)) ze (zy _)) (zm (ql O PySem.F.excBase_ValueError (by decide +kernel) PySem.F.excBase_ValueError hr.hd xn (zd zq zf))) zF)
  (zj (zz (i:=2) Zi.nd rfl (Or.inl rfl) (xz (zd (qA cRw hr2 xm (zd (zB zO (pv 1) ze (λ_ _=>rfl)) zf)) (zd (qA cRn hr1 xm (zd (zB zO (pv 1) ze (λ_ _=>rfl)) (zd (ja (v:=.int 300) (by rfl) TF.mM ⟨_,rfl⟩) zf))) zf))))
  (zj (zQ ((qW (zr xU (zB zG (pv 2) ze (λ_ _=>rfl)) ze (zy _)) (vj (xT (xi (zI cIr hr2 (zd (pv 2) zf)) λ_=>rfl))))).pt (zm (ql O PySem.F.excBase_ValueError (by decide +kernel) PySem.F.excBase_ValueError hr.hd xn (zd zq zf))) zF)
  (zm (zx (pv 2)))))))),?_⟩
 refine⟨_,rfl,x,_,none,rfl,by decide +kernel,hx,λ_ l H1 hl s1 h1=>?_,λe=>(by cases e)⟩
 dsimp only[zK]
 rw[show Str.ofString "/" = TX [47] by decide +kernel]at h1
 have hparts:=λp (m:p∈Txt.split x (TX [47]))=>xy m
 refine⟨_,rfl,l,_,rfl,.inl (.of h1),rfl,_,rfl,?_⟩
 rw[List.length_map,xq]
 by_cases c1:(Txt.split x (TX [47])).length=1
 ·rw[decide_eq_true (show ((Txt.split x (TX [47])).length:Int)=1 by omega)]
  obtain⟨p,ep⟩:=Vq c1
  have eR:rdR x=(rdW x).map λt=>(t,1):=by unfold rdR;rw[ep]
  refine zT ?_
  refine⟨_,rfl,x,rfl,hx,λn e H2 s2=>?_,λe H2 s2=>⟨C,rfl,kE (by rw[eR,e];rfl) H2 (s1.trans s2)⟩⟩
  exact⟨by show 2<=sizeLine;decide,λq hq=>k (n,1) (by rw[eR,e];rfl) _ _ ((s1.trans s2).trans (zo.upd hq)) ⟨q,rfl,zn⟩⟩
 ·rw[decide_eq_false (show ¬((Txt.split x (TX [47])).length:Int)=1 by omega)]
  refine zM ?_
  refine zH ?_
  refine⟨_,rfl,l,_,rfl,.inl (.of h1),_,_,rfl,rfl,_,rfl,?_⟩
  rw[List.length_map]
  obtain⟨p0,r0,e0⟩:=ZF x (TX [47])
  by_cases c2:2<(Txt.split x (TX [47])).length
  ·rw[decide_eq_true (show (2:Int)<((Txt.split x (TX [47])).length:Int) by omega)]
   refine zT ⟨by show 1<=sizeLine;decide,kE ?_ H1 s1⟩
   unfold rdR
   match hs:Txt.split x (TX [47]),c1,c2 with
   | [_,_],_,c2=>simp at c2
   | [_],_,c2=>simp at c2
   | [],_,c2=>simp at c2
   | _::_::_::_,_,_=>rfl
  ·rw[decide_eq_false (show ¬(2:Int)<((Txt.split x (TX [47])).length:Int) by omega)]
   refine zM ?_
   refine zH ?_
   obtain⟨a,b,eab⟩:∃a b,Txt.split x (TX [47])=[a,b]:=by
    match hs:Txt.split x (TX [47]),c1,c2 with
    | [a,b],_,_=>exact⟨a,b,rfl⟩
    | [_],c1,_=>simp at c1
    | [],_,_=>rw[hs]at e0;cases e0
    | _::_::_::_,_,c2=>simp at c2
   have eR:rdR x=match rdW a,rdN b with | some t,some u=>(if decide (u=1)=false/\xQ t u=true then some (t,u)else none) | _,_=>none:=by unfold rdR;rw[eab] <;> rfl
   rw[eab]at h1 hparts
   have la:a.length<=10000:=Nat.le_trans (hparts a (by simp)) hx
   have lb:b.length<=10000:=Nat.le_trans (hparts b (by simp)) hx
   refine⟨_,rfl,l,_,_,_,rfl,rfl,.of h1,rfl,a,rfl,la,λt et H2 s2=>?_,λe H2 s2=>⟨C,rfl,kE (by rw[eR,e]) H2 (s1.trans s2)⟩⟩
   refine⟨_,rfl,l,_,_,_,rfl,rfl,.of (s2 _ _ h1),rfl,b,rfl,lb,λu eu H3 s3=>?_,λe H3 s3=>⟨C,rfl,kE (by rw[eR,et,e]) H3 ((s1.trans s2).trans s3)⟩⟩
   refine⟨by show 2<=sizeLine;decide,λq hq=>?_⟩
   rw[et,eu]at eR
   have eR:rdR x=(if decide (u=1)=false/\xQ t u=true then some (t,u)else none):=eR
   have s4:zo H (upd H3 q (.tup [.int t,.int u])):=((s1.trans s2).trans s3).trans (zo.upd hq)
   have h4:upd H3 q (.tup [.int t,.int u]) q=some (.tup [.int t,.int u]):=zn
   dsimp only[zK]
   generalize upd H3 q (.tup [.int t,.int u])=G at s4 h4
   refine⟨_,rfl,q,_,_,_,rfl,rfl,.of h4,rfl,rfl,_,rfl,?_⟩
   rw[xq]
   by_cases c3:u=1
   ·rw[decide_eq_true c3]
    refine zT (zT ⟨by show 1<=sizeLine;decide,kE ?_ G s4⟩)
    rw[eR,if_neg];rw[decide_eq_true c3];simp
   ·rw[decide_eq_false c3]
    refine zM ?_
    refine⟨_,rfl,_,(t,u),rfl,⟨q,rfl,h4⟩,_,rfl,?_⟩
    by_cases c4:xQ t u=true
    ·rw[show xQ (t,u).1 (t,u).2=true from c4]
     refine zM ?_
     refine zH ?_
     exact⟨_,rfl,k (t,u) (by rw[eR,if_pos ⟨decide_eq_false c3,c4⟩]) _ G s4 ⟨q,rfl,h4⟩⟩
    ·have c4':xQ t u=false:=by cases h:xQ t u;rfl;exact absurd h c4
     rw[show xQ (t,u).1 (t,u).2=false from c4']
     refine zT ⟨by show 1<=sizeLine;decide,kE ?_ G s4⟩
     rw[eR,if_neg];rw[c4'];simp
def zbp (C:Addr):Sp:=λvs H Q E=>∃x,vs=[.str x]/\x.length<=10000/\(∀u,xA x=some u->∀v H',zo H H'->WI H' v u->Q v H')/\(xA x=none->∀H',zo H H'->E (.ref C) none H')
theorem ZZ:zC ["text","place","speed"] ["text"] (zk xZ):=⟨rfl,rfl,rfl,by decide +kernel,rfl,by decide +kernel,by decide +kernel⟩
theorem Vc {x y:Str}(h:okM (some 2) (Txt.split x y).length=true):∃a b,Txt.split x y=[a,b]:=by
 have:(Txt.split x y).length=2:=of_decide_eq_true h
 match Txt.split x y,this with
 | [a,b],_=>exact⟨a,b,rfl⟩
theorem J9 (D:Df K mg "wall_read" xZ ["text"] []) (cPs:qC P w K mg base "parts_of" 1 ["thing","sign","many"] [] (V3 C)) (cRr:qC P w K mg base "read_ratio" 3 ["thing"] [] (zbh C)):qC P w K mg base "wall_read" 4 ["text"] [] (zbp C):=by
 refine D.cal1 (k:=3) ZZ (λvs H Q E h=>by obtain⟨_,rfl,_⟩:=h;rfl) (λf cdv A outer s H vs Q E hr3 h=>?_)
 obtain⟨x,rfl,hx,k,kE⟩:=h
 have hr1:xk 1 _:=hr3.mono (by decide)
 refine⟨_,(zj (zQ (zr xU (pv 0) zq (zy _)) (zm (zx zU)) zF)
  (zj (vi (qA cPs hr1 xm (zd (pv 0) (zd zq (zd ze zf)))) (Xp rfl (xR (xp (i:=1) ZZ.nd rfl (Or.inl rfl)) (xR (xp (i:=2) ZZ.nd rfl (Or.inl rfl)) vz))))
  (zm (zx (xz (zd (qA cRr hr3 xm (zd (pv 1) zf)) (zd (qA cRr hr3 xm (zd (pv 2) zf)) zf))))))),?_⟩
 refine⟨_,rfl,rfl,_,rfl,?_⟩
 rw[qv,show Str.ofString "-" = TX [45] by decide +kernel]
 by_cases c:x=TX [45]
 ·rw[decide_eq_true c]
  exact zT (k none (by unfold xA;rw[if_pos c]) .non H (zo.refl _) rfl)
 ·rw[decide_eq_false c]
  refine zM ?_
  refine zH ?_
  have eW:xA x=match Txt.split x (TX [32])with | [a,b]=>(match rdR a,rdR b with | some p,some q=>some (some (p,q)) | _,_=>none) | _=>none:=by unfold xA;rw[if_neg c] <;> rfl
  have e32:Str.ofString " " = TX [32]:=by decide +kernel
  refine⟨_,rfl,x,_,some 2,rfl,by decide +kernel,hx,λh2 l H1 hl s1 h1=>?_,λh2 H1 s1=>⟨C,rfl,kE ?_ H1 s1⟩⟩
  ·rw[e32]at h1 h2
   obtain⟨a,b,eab⟩:=Vc h2
   have la:a.length<=10000:=Nat.le_trans (xy (y:=TX [32]) (by rw[eab];simp)) hx
   have lb:b.length<=10000:=Nat.le_trans (xy (y:=TX [32]) (by rw[eab];simp)) hx
   rw[eab]at h1 eW
   refine⟨l,_,rfl,.of h1,rfl,_,_,rfl,_,_,rfl,rfl,?_⟩
   dsimp only
   refine⟨_,rfl,a,rfl,la,λp ep v1 H2 s2 r1=>?_,λe H2 s2=>⟨C,rfl,kE (by rw[eW];show (match rdR a,rdR b with | some p,some q=>some (some (p,q)) | _,_=>none)=none;rw[e]) H2 (s1.trans s2)⟩⟩
   refine⟨_,rfl,b,rfl,lb,λq eq v2 H3 s3 r2=>?_,λe H3 s3=>⟨C,rfl,kE (by rw[eW];show (match rdR a,rdR b with | some p,some q=>some (some (p,q)) | _,_=>none)=none;rw[ep,e]) H3 ((s1.trans s2).trans s3)⟩⟩
   refine⟨by show 2<=sizeLine;decide,λt ht=>k (some (p,q)) (by rw[eW];show (match rdR a,rdR b with | some p,some q=>some (some (p,q)) | _,_=>none)=_;rw[ep,eq]) _ _ (((s1.trans s2).trans s3).trans (zo.upd ht)) ⟨t,v1,v2,rfl,zn,r1.tups ((xE.of s3).trans (.of (zo.upd ht))),r2.tups (.of (zo.upd ht))⟩⟩
  ·rw[e32]at h2
   rw[eW]
   have:(Txt.split x (TX [32])).length≠2:=of_decide_eq_false h2
   split
   ·rename_i e;rw[e]at this;exact absurd rfl this
   ·rfl
end
end KK
end
section
set_option maxHeartbeats 4000000
set_option Elab.async false
set_option linter.all false
set_option maxRecDepth 100000
namespace KK
open PySem L2 KM PySem.NumText
theorem Vd:∀l:List Nat,(∀c∈l,48<=c/\c<=57)->digitsVal l<10^l.length:=by
 intro l
 generalize hn:l.length=n
 induction n generalizing l with
 | zero=>intro _;rw[List.length_eq_zero_iff.mp hn];decide
 | succ n ih =>
  intro h
  obtain⟨r,c,rfl⟩:∃r c,l=r++[c]:=by
   rcases List.eq_nil_or_concat l with e | ⟨r,c,e⟩
   ·rw[e]at hn;cases hn
   ·exact⟨r,c,by simpa using e⟩
  have hr:r.length=n:=by simpa using hn
  have:=ih r hr λd m=>h d (List.mem_append_left _ m)
  have hc:=h c (by simp)
  rw[digitsVal_snoc,Nat.pow_succ]
  omega
theorem XX {l:List Nat}(h:x5 l=true):1<=l.length/\l.length<=300/\∀c∈l,48<=c/\c<=57:=by
 unfold x5 at h
 simp only[Bool.and_eq_true,decide_eq_true_eq]at h
 refine⟨h.1.1.1,h.1.1.2,λc m=>?_⟩
 have:=List.all_eq_true.mp h.1.2 c m
 unfold qD at this
 simp only[Bool.and_eq_true,decide_eq_true_eq]at this
 exact this
theorem ju {x:Str}{n:Int}(h:rdN x=some n):0<=n/\Bd 1000 n:=by
 unfold rdN at h
 split at h
 ·rename_i c
  obtain⟨_,l3,dg⟩:=XX c
  injection h with h
  subst h
  have h1:=Vd _ dg
  have h2:(10:Nat)^x.cps.toList.length<=10^300:=Nat.pow_le_pow_right (by decide) l3
  refine⟨by omega,?_⟩
  show ((digitsVal x.cps.toList:Nat):Int).natAbs<2^1000
  have h3:(10:Nat)^300<2^1000:=by decide
  omega
 ·cases h
theorem QT {x:Str}{n:Int}(h:rdW x=some n):Bd 1000 n:=by
 unfold rdW at h
 split at h
 ·split at h
  ·rename_i m e
   split at h
   ·cases h
   ·injection h with h;subst h;exact(ju e).2.neg
  ·cases h
 ·exact(ju h).2
theorem QQ {x:Str}{r:Int×Int}(h:rdR x=some r):xQ r.1 r.2=true/\Bd 1000 r.1/\Bd 1000 r.2:=by
 unfold rdR at h
 split at h
 ·obtain⟨t,et,rfl⟩:=Option.map_eq_some_iff.mp h
  refine⟨?_,QT et,Bd.mono (m:=1) (show (1:Int).natAbs<2^1 by decide) (by decide)⟩
  unfold xQ
  rw[decide_eq_true (show (1:Int)<=1 by decide),decide_eq_true (show Int.gcd (t.natAbs:Int) 1=1 from Int.gcd_one_right ..)];rfl
 ·rename_i a b e
  split at h
  ·rename_i t u et eu
   split at h
   ·rename_i c
    injection h with h;subst h
    exact⟨c.2,QT et,(ju eu).2⟩
   ·cases h
  ·cases h
 ·cases h
theorem jb {x:Str}{u:Wx}(h:xA x=some u):jK u=true/\Wm u:=by
 unfold xA at h
 split at h
 ·injection h with h;subst h;exact⟨rfl,trivial⟩
 ·split at h
  ·split at h
   ·rename_i p q ep eq
    injection h with h;subst h
    have h1:=QQ ep
    have h2:=QQ eq
    exact⟨by show (xQ p.1 p.2&&xQ q.1 q.2)=true;rw[h1.1,h2.1];rfl,⟨h1.2.1.mono (by decide),h1.2.2.mono (by decide)⟩⟩
   ·cases h
  ·cases h
section
variable {P:Program}{w:World}{K:PySem.W.Frag}{mg:Str->Option Value}{base:Heap}{C:Addr}{tF tM:Tok}
def XF (C:Addr):Sp:=λvs H Q E=>∃x,vs=[.str x]/\x.length<=10000/\(∀u v,xP x=some (u,v)->∀a H',zo H H'->WsI H' a u v->Q (.ref a) H')/\(xP x=none->∀H',zo H H'->E (.ref C) none H')
theorem jf:zC ["thing","low","high","walls"] ["thing"] (zk xN):=⟨rfl,rfl,rfl,by decide +kernel,rfl,by decide +kernel,by decide +kernel⟩
theorem VI (D:Df K mg "walls_read" xN ["thing"] []) (O:Zo "NoText" C mg base) (cPs:qC P w K mg base "parts_of" 1 ["thing","sign","many"] [] (V3 C)) (cWr:qC P w K mg base "wall_read" 4 ["text"] [] (zbp C)) (cWg:Cal P w K mg base "walls_good" 5 ["thing"] [] zbo):qC P w K mg base "walls_read" 6 ["thing"] [] (XF C):=by
 refine D.cal1 (k:=5) jf (λvs H Q E h=>by obtain⟨_,rfl,_⟩:=h;rfl) (λf cdv A outer s H vs Q E hr h=>?_)
 obtain⟨x,rfl,hx,k,kE⟩:=h
 have hr1:xk 1 _:=hr.mono (by decide)
 have hr4:xk 4 _:=hr.mono (by decide)
 refine⟨_,(zj (vi (qA cPs hr1 xm (zd (pv 0) (zd zq (zd ze zf)))) (Xp rfl (xR (xp (i:=1) jf.nd rfl (Or.inl rfl)) (xR (xp (i:=2) jf.nd rfl (Or.inl rfl)) vz))))
  (zj (zz (i:=3) jf.nd rfl (Or.inl rfl) (xz (zd (qA cWr hr4 xm (zd (pv 1) zf)) (zd (qA cWr hr4 xm (zd (pv 2) zf)) zf))))
  (zj (zQ (xT (xi (zI cWg hr (zd (pv 3) zf)) λ_=>rfl)) (zm (ql O PySem.F.excBase_ValueError (by decide +kernel) PySem.F.excBase_ValueError hr.hd xn (zd zq zf))) zF)
  (zm (zx (pv 3)))))),?_⟩
 have eB:Str.ofString " | " = TX [32,124,32]:=by decide +kernel
 refine⟨_,rfl,x,_,some 2,rfl,by decide +kernel,hx,λh2 l H1 hl s1 h1=>?_,λh2 H1 s1=>⟨C,rfl,kE ?_ H1 s1⟩⟩
 ·rw[eB]at h1 h2
  obtain⟨a,b,eab⟩:=Vc h2
  have la:a.length<=10000:=Nat.le_trans (xy (y:=TX [32,124,32]) (by rw[eab];simp)) hx
  have lb:b.length<=10000:=Nat.le_trans (xy (y:=TX [32,124,32]) (by rw[eab];simp)) hx
  have eW:xP x=match xA a,xA b with | some u,some v=>(if okW u v=true then some (u,v)else none) | _,_=>none:=by unfold xP;rw[eab] <;> rfl
  rw[eab]at h1
  refine⟨l,_,rfl,.of h1,rfl,_,_,rfl,_,_,rfl,rfl,?_⟩
  dsimp only
  refine⟨_,rfl,a,rfl,la,λu eu v1 H2 s2 r1=>?_,λe H2 s2=>⟨C,rfl,kE (by rw[eW,e]) H2 (s1.trans s2)⟩⟩
  refine⟨_,rfl,b,rfl,lb,λv ev v2 H3 s3 r2=>?_,λe H3 s3=>⟨C,rfl,kE (by rw[eW,eu,e]) H3 ((s1.trans s2).trans s3)⟩⟩
  refine⟨by show 2<=sizeLine;decide,λt ht=>?_⟩
  have s4:=((s1.trans s2).trans s3).trans (zo.upd (o:=.tup [v1,v2]) ht)
  have hW:WsI (upd H3 t (.tup [v1,v2])) t u v:=⟨v1,v2,zn,r1.tups ((xE.of s3).trans (.of (zo.upd ht))),r2.tups (.of (zo.upd ht))⟩
  dsimp only[zK]
  generalize upd H3 t (.tup [v1,v2])=G at s4 hW
  have o1:=jb eu
  have o2:=jb ev
  rw[eu,ev]at eW
  have eW:xP x=if okW u v=true then some (u,v)else none:=eW
  refine⟨_,rfl,t,u,v,rfl,hW,o1.1,o2.1,o1.2,o2.2,_,rfl,?_⟩
  cases hk:okW u v
  ·exact zT ⟨by show 1<=sizeLine;decide,kE (by rw[eW,hk];rfl) G s4⟩
  ·refine zM ?_
   refine zH ?_
   exact⟨_,rfl,k u v (by rw[eW,hk];rfl) t G s4 hW⟩
 ·rw[eB]at h2
  exact qX (of_decide_eq_false h2)
def Jj:Sp:=λvs H Q _=>∃x u v,vs=[.str x]/\x.length<=10000/\xP x=some (u,v)/\∀a H',zo H H'->WsI H' a u v->Q (.ref a) H'
theorem zaa (c:qC P w K mg base "walls_read" 6 ["thing"] [] (XF C)):Cal P w K mg base "walls_read" 6 ["thing"] [] Jj:=by
 refine c.quiet λvs H Q E h=>?_
 obtain⟨x,u,v,rfl,hx,e,k⟩:=h
 refine⟨x,rfl,hx,λu' v' e' a H' s hw=>?_,λe'=>by rw[e]at e';cases e'⟩
 rw[e]at e';cases e'
 exact k a H' s hw
end
end KK
end
section
set_option maxHeartbeats 4000000
set_option Elab.async false
set_option linter.all false
set_option maxRecDepth 100000
namespace KK
open PySem L2 KM
theorem at6 (x:Int){d:Int}(h0:0<=d) (h1:d<6) (hx:0<=x/\x<=40):∃v:Int,atI [V.int 0,.int 1,.int 1,.int 2,.int 5,.int x] d=some (.int v)/\0<=v/\v<=40:=by
 have:d=0\/d=1\/d=2\/d=3\/d=4\/d=5:=by omega
 rcases this with rfl | rfl | rfl | rfl | rfl | rfl
 ·exact⟨_,rfl,by decide,by decide⟩
 ·exact⟨_,rfl,by decide,by decide⟩
 ·exact⟨_,rfl,by decide,by decide⟩
 ·exact⟨_,rfl,by decide,by decide⟩
 ·exact⟨_,rfl,by decide,by decide⟩
 ·exact⟨_,rfl,hx.1,hx.2⟩
theorem zaO {d:Int}(h0:0<=d) (h1:d<5):∃v:Int,atI [V.int 1,.int 2,.int 4,.int 9,.int 1000] d=some (.int v)/\1<=v/\v<=1000:=by
 have:d=0\/d=1\/d=2\/d=3\/d=4:=by omega
 rcases this with rfl | rfl | rfl | rfl | rfl
 all_goals exact⟨_,rfl,by decide,by decide⟩
theorem JV {d:Int}(h0:0<=d) (h1:d<8):∃v:Int,atI [V.int 1,.int 1,.int 1,.int 2,.int 3,.int 4,.int 6,.int 12] d=some (.int v)/\1<=v/\v<=12:=by
 have:d=0\/d=1\/d=2\/d=3\/d=4\/d=5\/d=6\/d=7:=by omega
 rcases this with rfl | rfl | rfl | rfl | rfl | rfl | rfl | rfl
 all_goals exact⟨_,rfl,by decide,by decide⟩
theorem jR {t b:Int}(ht:0<=t) (hb:0<b):0<=Rat.divInt t b:=by
 rw[Rat.divInt_eq_div]
 have h1:(0:Rat)<=(t:Rat):=by have:((0:Int):Rat)<=(t:Rat):=Rat.intCast_le_intCast.mpr ht;simpa using this
 have h2:(0:Rat)<(b:Rat):=by have:((0:Int):Rat)<(b:Rat):=Rat.intCast_lt_intCast.mpr hb;simpa using this
 rw[Rat.div_def]
 exact Rat.mul_nonneg h1 (Rat.le_of_lt (Rat.inv_pos.mpr h2))
theorem ZS {H:Hp}{a:Addr}(h:H a=some (.tup [.int 1,.int 1])):zR H a 1:=h
theorem V9 {H:Hp}{a:Addr}(h:H a=some (.tup [.int 0,.int 1])):zR H a 0:=h
theorem jG:Sz 2 (1:Rat):=⟨show (1:Int).natAbs<2^2 by decide,show ((1:Nat):Int).natAbs<2^2 by decide⟩
theorem zas:Sz 2 (0:Rat):=⟨show (0:Int).natAbs<2^2 by decide,show ((1:Nat):Int).natAbs<2^2 by decide⟩
section
variable {P:Program}{w:World}{K:PySem.W.Frag}{mg:Str->Option Value}{base:Heap}
theorem XC:zC ["one","other"] ["one","other"] (zk xH):=⟨rfl,rfl,rfl,by decide +kernel,rfl,by decide +kernel,by decide +kernel⟩
theorem Vv (D:Df K mg "_law_common" xH ["one","other"] []):Cal P w K mg base "_law_common" 1 ["one","other"] [] ZD:=by
 refine D.cal (k:=0) XC (λvs H Q E h=>by obtain⟨a,b,rfl,_⟩:=h;rfl) (λf cdv A outer s H vs Q E hr h=>?_)
 obtain⟨a,b,rfl,ha,hb,k⟩:=h
 refine⟨_,(zj (vD PassesOwn.never (zr vf (pv 1) ze (zy _)) (zm (QL (i:=0) (j:=1) rfl XC.nd rfl rfl (by decide) rfl rfl (zd (pv 1) (zd (zD qO (pv 0) (pv 1)) zf)) (by rfl))))
  (zm (zx (pv 0)))),?_⟩
 refine vL (λσ H1=>H1=H/\∃x y:Int,σ=[some (.int x),some (.int y)]/\0<=x/\0<=y/\Int.gcd x y=Int.gcd a b)
  (λσ _=>match σ with | [_,some (.int y)]=>y.toNat | _=>0) ⟨rfl,a,b,rfl,ha,hb,rfl⟩ ?_ ?_
 ·rintro σ H1 ⟨rfl,x,y,rfl,hx,hy,e⟩
  refine⟨_,rfl,rfl,_,rfl,qU (λh=>?_) (λh=>?_)⟩
  ·have hne:y≠0:=λz=>by subst z;exact absurd h (by decide)
   have h':0<y:=by omega
   refine⟨_,rfl,_,rfl,_,rfl,_,_,rfl,rfl,h',_,_,rfl,⟨rfl,_,_,rfl,hy,Int.emod_nonneg _ (by omega),?_⟩,?_⟩
   ·rw[KM.Zt hx h'];exact e
   ·show (x % y).toNat<y.toNat
    have:=Int.emod_lt_of_pos x h'
    omega
  ·have:y=0:=by
    by_cases z:y=0
    ·exact z
    ·exfalso;apply h;show (!decide (V.int y=V.int 0))=true
     rw[decide_eq_false (λq=>z (by injection q))];rfl
   subst this
   refine⟨_,rfl,?_⟩
   have e2:x=(Int.gcd a b:Nat):=by rw[<-e,Int.gcd_zero_right];omega
   rw[e2];exact k
 ·rintro σ H1 Q1 Q2 hq ⟨v,e,e1,k1,e3,q⟩
  exact⟨v,e,e1,k1,e3,hq _ _ q⟩
def vZ:Sp:=λvs H Q _=>∃t b,vs=[.int t,.int b]/\0<b/\Bd 8900 b/\∀p H',zo H H'->zR H' p (Rat.divInt t b)->Q (.ref p) H'
theorem jc:zC ["top","bottom","shared"] ["top","bottom"] (zk qr):=⟨rfl,rfl,rfl,by decide +kernel,rfl,by decide +kernel,by decide +kernel⟩
theorem Vy (D:Df K mg "_law_low" qr ["top","bottom"] []) (T:TxB K mg) (cG:Cal P w K mg base "_law_common" 1 ["one","other"] [] ZD):Cal P w K mg base "_law_low" 2 ["top","bottom"] [] vZ:=by
 refine D.cal (k:=1) jc (λvs H Q E h=>by obtain⟨a,b,rfl,_⟩:=h;rfl) (λf cdv A outer s H vs Q E hr h=>?_)
 obtain⟨t,b,rfl,hb,hz,k⟩:=h
 have hb0:b≠0:=by omega
 refine⟨_,(zj (zQ (zr v3 (pv 1) ze (zy _)) (zj (zz (i:=0) jc.nd rfl (Or.inl rfl) (zD jo ze (pv 0)))
  (zm (zz (i:=1) jc.nd rfl (Or.inl rfl) (zD jo ze (pv 1))))) zF)
  (zj (zz (i:=2) jc.nd rfl (Or.inl rfl) (zI cG hr (zd (zP jj (by rfl) T.nAbs PyProof.Rows.boot_abs (zd (pv 0) zf)) (zd (pv 1) zf))))
  (zm (zx (xz (zd (zD jn (pv 0) (pv 2)) (zd (zD jn (pv 1) (pv 2)) zf))))))),?_⟩
 refine⟨_,rfl,_,_,rfl,rfl,_,rfl,qU (λh=>absurd (of_decide_eq_true h) (by omega)) (λ_=>?_)⟩
 refine⟨_,rfl,t,rfl,_,rfl,_,_,rfl,(by rw[jg];omega),(by omega),?_⟩
 have hd:=KM.zaI (t:=t) hb0
 have hdz:Bd 8900 (KM.dv t b):=hz.of_le (KM.zaH hb0)
 have ge:((Int.gcd (if t<0 then -t else t) b:Nat):Int)=KM.dv t b:=by
  rw[jg];unfold KM.dv;rw[if_neg (show ¬b<0 by omega)];simp[Int.gcd]
 rw[ge]
 refine⟨_,rfl,_,rfl,_,_,rfl,rfl,⟨hd,hdz⟩,_,rfl,_,rfl,_,_,rfl,rfl,⟨hd,hdz⟩,?_⟩
 refine⟨by show 2<=sizeLine;decide,λp hp=>k p _ (zo.upd hp) ?_⟩
 show upd H p _ p=_
 rw[zn]
 dsimp only
 rw[KM.Qk hb0,KM.JI hb0];rfl
theorem VZ:zC ["one","other"] ["one","other"] (zk qt):=⟨rfl,rfl,rfl,by decide +kernel,rfl,by decide +kernel,by decide +kernel⟩
theorem VX:zC ["one","other"] ["one","other"] (zk qq):=⟨rfl,rfl,rfl,by decide +kernel,rfl,by decide +kernel,by decide +kernel⟩
theorem VB (D:Df K mg "_law_sum" qt ["one","other"] []) (c:Cal P w K mg base "_law_low" 2 ["top","bottom"] [] vZ):Cal P w K mg base "_law_sum" 3 ["one","other"] [] (jW Sz2 (· + ·)):=by
 refine D.cal (k:=2) VZ (λvs H Q E h=>by obtain⟨_,_,_,_,rfl,_⟩:=h;rfl) (λf cdv A outer s H vs Q E hr h=>?_)
 obtain⟨p,q,x,y,rfl,hp,hq,⟨hx,hy⟩,k⟩:=h
 have bx:=Bd4 hx
 have b_y:=Bd4 hy
 refine⟨_,(zm (zx (zI c hr (zd (zD x8 (zD xB (zB zG (pv 0) ze (λ_ _=>rfl)) (zB zG (pv 1) ze (λ_ _=>rfl))) (zD xB (zB zG (pv 1) ze (λ_ _=>rfl)) (zB zG (pv 0) ze (λ_ _=>rfl)))) (zd (zD xB (zB zG (pv 0) ze (λ_ _=>rfl)) (zB zG (pv 1) ze (λ_ _=>rfl))) zf))))),?_⟩
 refine⟨_,rfl,p,_,_,_,rfl,rfl,.of hp,at0 ..,_,rfl,q,_,_,_,rfl,rfl,.of hq,at1 ..,_,_,rfl,rfl,⟨bx.1,b_y.2⟩,_,rfl,q,_,_,_,rfl,rfl,.of hq,at0 ..,_,rfl,p,_,_,_,rfl,rfl,.of hp,at1 ..,_,_,rfl,rfl,⟨b_y.1,bx.2⟩,_,_,rfl,rfl,?_⟩
 refine⟨_,rfl,p,_,_,_,rfl,rfl,.of hp,at1 ..,_,rfl,q,_,_,_,rfl,rfl,.of hq,at1 ..,_,_,rfl,rfl,⟨bx.2,b_y.2⟩,?_⟩
 refine⟨_,_,rfl,Int.mul_pos (den_pos x) (den_pos y),(hx.2.mul hy.2).mono (by decide),λr H' e h=>k r H' e ?_⟩
 show zR H' r (x+y)
 rw[<-KM.Xr];exact h
theorem Vx (D:Df K mg "_law_gap" qq ["one","other"] []) (c:Cal P w K mg base "_law_low" 2 ["top","bottom"] [] vZ):Cal P w K mg base "_law_gap" 3 ["one","other"] [] (jW Sz2 (· - ·)):=by
 refine D.cal (k:=2) VX (λvs H Q E h=>by obtain⟨_,_,_,_,rfl,_⟩:=h;rfl) (λf cdv A outer s H vs Q E hr h=>?_)
 obtain⟨p,q,x,y,rfl,hp,hq,⟨hx,hy⟩,k⟩:=h
 have bx:=Bd4 hx
 have b_y:=Bd4 hy
 refine⟨_,(zm (zx (zI c hr (zd (zD jo (zD xB (zB zG (pv 0) ze (λ_ _=>rfl)) (zB zG (pv 1) ze (λ_ _=>rfl))) (zD xB (zB zG (pv 1) ze (λ_ _=>rfl)) (zB zG (pv 0) ze (λ_ _=>rfl)))) (zd (zD xB (zB zG (pv 0) ze (λ_ _=>rfl)) (zB zG (pv 1) ze (λ_ _=>rfl))) zf))))),?_⟩
 refine⟨_,rfl,p,_,_,_,rfl,rfl,.of hp,at0 ..,_,rfl,q,_,_,_,rfl,rfl,.of hq,at1 ..,_,_,rfl,rfl,⟨bx.1,b_y.2⟩,_,rfl,q,_,_,_,rfl,rfl,.of hq,at0 ..,_,rfl,p,_,_,_,rfl,rfl,.of hp,at1 ..,_,_,rfl,rfl,⟨b_y.1,bx.2⟩,_,_,rfl,rfl,?_⟩
 refine⟨_,rfl,p,_,_,_,rfl,rfl,.of hp,at1 ..,_,rfl,q,_,_,_,rfl,rfl,.of hq,at1 ..,_,_,rfl,rfl,⟨bx.2,b_y.2⟩,?_⟩
 refine⟨_,_,rfl,Int.mul_pos (den_pos x) (den_pos y),(hx.2.mul hy.2).mono (by decide),λr H' e h=>k r H' e ?_⟩
 show zR H' r (x - y)
 rw[<-KM.Qv];exact h
def zao:Sp:=λvs H Q _=>∃v u r s,vs=[v,u]/\RI H v r/\RI H u s/\(Bd 4000 r.1/\Bd 4000 r.2)/\(Bd 4000 s.1/\Bd 4000 s.2)/\Q (.bl (decide (r.1*s.2<s.1*r.2))) H
theorem VW:zC ["one","other"] ["one","other"] (zk xW):=⟨rfl,rfl,rfl,by decide +kernel,rfl,by decide +kernel,by decide +kernel⟩
theorem Vt (D:Df K mg "_law_below" xW ["one","other"] []):Cal P w K mg base "_law_below" 1 ["one","other"] [] zao:=by
 refine D.cal (k:=0) VW (λvs H Q E h=>by obtain⟨_,_,_,_,rfl,_⟩:=h;rfl) (λf cdv A outer s H vs Q E hr h=>?_)
 obtain⟨v,u,x,y,rfl,⟨p,rfl,hp⟩,⟨q,rfl,hq⟩,hx,hy,k⟩:=h
 have b1:Bd 1000000 x.1:=hx.1.mono (by decide)
 have b2:Bd 1000000 x.2:=hx.2.mono (by decide)
 have b3:Bd 1000000 y.1:=hy.1.mono (by decide)
 have b4:Bd 1000000 y.2:=hy.2.mono (by decide)
 refine⟨_,(zm (zx (xt v3 (zD xB (zB zG (pv 0) ze (λ_ _=>rfl)) (zB zG (pv 1) ze (λ_ _=>rfl))) (zD xB (zB zG (pv 1) ze (λ_ _=>rfl)) (zB zG (pv 0) ze (λ_ _=>rfl))) (zy _)))),?_⟩
 refine⟨_,rfl,p,_,_,_,rfl,rfl,.of hp,at0 ..,_,rfl,q,_,_,_,rfl,rfl,.of hq,at1 ..,_,_,rfl,rfl,⟨b1,b4⟩,?_⟩
 exact⟨_,rfl,q,_,_,_,rfl,rfl,.of hq,at0 ..,_,rfl,p,_,_,_,rfl,rfl,.of hp,at1 ..,_,_,rfl,rfl,⟨b3,b2⟩,_,_,rfl,rfl,k⟩
def zbn:Sp:=λvs H Q _=>∃p,vs=[.ref p]/\qL H p/\∀(d:Int) H',1<=d->d<=1000->xD p H H'->Q (.int d) H'
theorem V0:zC ["pool"] ["pool"] (zk xI):=⟨rfl,rfl,rfl,by decide +kernel,rfl,by decide +kernel,by decide +kernel⟩
theorem VD (D:Df K mg "_law_weight" xI ["pool"] []) (cN:Cal P w K mg base "_law_next" 1 ["pool","base"] [] qY):Cal P w K mg base "_law_weight" 2 ["pool"] [] zbn:=by
 refine D.cal (k:=1) V0 (λvs H Q E h=>by obtain⟨_,rfl,_⟩:=h;rfl) (λf cdv A outer s H vs Q E hr h=>?_)
 obtain⟨p,rfl,hP,k⟩:=h
 refine⟨_,(zm (zx (zD x8 ze (zI cN hr (zd (pv 0) (zd (zB zO (xF (zd ze (zd ze (zd ze (zd ze (zd ze zf)))))) (zI cN hr (zd (pv 0) (zd ze zf))) (λ_ _=>rfl)) zf)))))),?_⟩
 refine⟨_,rfl,by show 5<=sizeLine;decide,λl hl=>?_⟩
 refine⟨_,rfl,p,_,rfl,by decide,by decide,hP.new hl,λd H1 d0 d1 t1=>?_⟩
 obtain⟨m,em,m1,m2⟩:=zaO d0 d1
 refine⟨l,_,_,_,rfl,rfl,.of (t1.keep l _ zn (hP.ne hl)),em,p,m,rfl,by omega,by omega,t1.pool,λd2 H2 e0 e1 t2=>?_⟩
 exact⟨_,_,rfl,rfl,k _ H2 (by omega) (by omega) ((t1.pre (zo.upd hl)).trans t2)⟩
def zaq:Sp:=λvs H Q _=>∃p,vs=[.ref p]/\qL H p/\∀r q H',xD p H H'->zR H' r q->Sz 5 q->Q (.ref r) H'
theorem VY:zC ["pool"] ["pool"] (zk xX):=⟨rfl,rfl,rfl,by decide +kernel,rfl,by decide +kernel,by decide +kernel⟩
theorem VA (D:Df K mg "_law_small" xX ["pool"] []) (cN:Cal P w K mg base "_law_next" 1 ["pool","base"] [] qY) (cL:Cal P w K mg base "_law_low" 2 ["top","bottom"] [] vZ):Cal P w K mg base "_law_small" 3 ["pool"] [] zaq:=by
 refine D.cal (k:=2) VY (λvs H Q E h=>by obtain⟨_,rfl,_⟩:=h;rfl) (λf cdv A outer s H vs Q E hr h=>?_)
 obtain⟨p,rfl,hP,k⟩:=h
 have hr1:xk 1 _:=hr.mono (by decide)
 refine⟨_,(zm (zx (zI cL hr (zd (zD jo (zI cN hr1 (zd (pv 0) (zd ze zf))) ze) (zd (zB zO (xF (zd ze (zd ze (zd ze (zd ze (zd ze (zd ze (zd ze (zd ze zf))))))))) (zI cN hr1 (zd (pv 0) (zd ze zf))) (λ_ _=>rfl)) zf))))),?_⟩
 refine⟨_,rfl,p,_,rfl,by decide,by decide,hP,λd H1 d0 d1 t1=>⟨_,_,rfl,rfl,?_⟩⟩
 refine⟨by show 8<=sizeLine;decide,λl hl=>?_⟩
 refine⟨_,rfl,p,_,rfl,by decide,by decide,t1.pool.new hl,λd2 H2 e0 e1 t2=>?_⟩
 obtain⟨m,em,m1,m2⟩:=JV e0 e1
 refine⟨l,_,_,_,rfl,rfl,.of (t2.keep l _ zn (t1.pool.ne hl)),em,?_⟩
 have bm:Bd 5 m:=bdn (by omega) (by omega)
 refine⟨_,_,rfl,by omega,bm.mono (by decide),λr H3 s3 h3=>k r _ H3 ((t1.trans (t2.pre (zo.upd hl))).same s3) h3 (.divInt (by omega) (bdz (by omega) (by omega)) bm)⟩
end
end KK
end
section
set_option maxHeartbeats 8000000
set_option Elab.async false
set_option linter.all false
set_option maxRecDepth 100000
namespace KK
open PySem L2 KM
theorem Qw {x:Rat}:decide (V.int x.num=V.int 0)=decide (x=0):=by
 by_cases h:x=0
 ·subst h;rfl
 ·rw[decide_eq_false h,decide_eq_false (λz=>h (Rat.num_eq_zero.mp (by injection z)))]
theorem VQ {H:Hp}{p:Addr}{q:Rat}(h:zR H p q):RI H (.ref p) (q.num,(q.den:Int)):=⟨p,rfl,h⟩
theorem sz4 {n:Nat}{q:Rat}(h:Sz n q) (hn:n<=4000):Bd 4000 (q.num,(q.den:Int)).1/\Bd 4000 (q.num,(q.den:Int)).2:=⟨h.1.mono hn,h.2.mono hn⟩
section
variable {P:Program}{w:World}{K:PySem.W.Frag}{mg:Str->Option Value}{base:Heap}
def Ji:Sp:=λvs H Q _=>∃(p:Addr) (mo:Int),vs=[.ref p,.int mo]/\1<=mo/\mo<=8/\qL H p/\∀r us bs H',xD p H H'->H' r=some (.tup us)->zJ H' us bs->jJ bs->(∀b∈bs,Sz 100 b.pl/\Sz 100 b.sp)->1<=bs.length->bs.length<=8->Q (.ref r) H'
theorem xS:zC ["pool","most","place","even","weight","some","k","speed","far"] ["pool","most"] (zk qs):=⟨rfl,rfl,rfl,by decide +kernel,rfl,by decide +kernel,by decide +kernel⟩
theorem Vz (D:Df K mg "_law_row" qs ["pool","most"] []) (T:TxB K mg) (cN:Cal P w K mg base "_law_next" 1 ["pool","base"] [] qY) (cSm:Cal P w K mg base "_law_small" 3 ["pool"] [] zaq) (cWe:Cal P w K mg base "_law_weight" 2 ["pool"] [] zbn) (cL:Cal P w K mg base "_law_low" 2 ["top","bottom"] [] vZ)
  (cS:Cal P w K mg base "_law_sum" 3 ["one","other"] [] (jW Sz2 (· + ·))) (cBl:Cal P w K mg base "_law_below" 1 ["one","other"] [] zao):Cal P w K mg base "_law_row" 4 ["pool","most"] [] Ji:=by
 refine D.cal (k:=3) xS (λvs H Q E h=>by obtain⟨_,_,rfl,_⟩:=h;rfl) (λf cdv A outer s H vs Q E hr3 h=>?_)
 obtain⟨p,mo,rfl,o1,o8,hP,k⟩:=h
 have hr1:xk 1 _:=hr3.mono (by decide)
 have hr2:xk 2 _:=hr3.mono (by decide)
 refine⟨_,(zj (zz (i:=2) xS.nd rfl (Or.inl rfl) (zI cSm hr3 (zd (pv 0) zf)))
  (zj (zz (i:=3) xS.nd rfl (Or.inl rfl) (xt xU (zI cN hr1 (zd (pv 0) (zd ze zf))) ze (zy _)))
  (zj (zz (i:=4) xS.nd rfl (Or.inl rfl) (zI cWe hr2 (zd (pv 0) zf)))
  (zj (zz (i:=5) xS.nd rfl (Or.inl rfl) (xF zf))
  (zj (jr PassesOwn.never rfl (X2 rfl T.nRange (zd (zD x8 ze (zI cN hr1 (zd (pv 0) (zd (pv 1) zf)))) zf)) (xp (i:=6) xS.nd rfl (Or.inl rfl)) (zj (zz (i:=7) xS.nd rfl (Or.inl rfl) (zI cSm hr3 (zd (pv 0) zf)))
  (zj (zz (i:=8) xS.nd rfl (Or.inl rfl) (zB zO (xF (zd ze (zd ze (zd ze (zd ze (zd ze (zd (zD x8 ze (zI cN hr1 (zd (pv 0) (zd ze zf)))) zf))))))) (zI cN hr1 (zd (pv 0) (zd ze zf))) (λ_ _=>rfl)))
  (zj (zz (i:=8) xS.nd rfl (Or.inl rfl) (zI cL hr2 (zd (pv 8) (zd (zD x8 ze (zI cN hr1 (zd (pv 0) (zd ze zf)))) zf))))
  (zj (zz (i:=2) xS.nd rfl (Or.inl rfl) (zI cS hr3 (zd (pv 2) (zd (pv 8) zf))))
  (zj (zQ (qx (zr vx (pv 6) ze (zy _)) (qx (zr xU (zB zG (pv 8) ze (λ_ _=>rfl)) ze (zy _)) (qm (xT (xi (zI cBl hr1 (zd (zB zG (zB zO (pv 5) (v4 va ze) (λ_ _=>rfl)) ze (λ_ _=>rfl)) (zd (pv 7) zf))) λ_=>rfl))))).pt (zm (zz (i:=7) xS.nd rfl (Or.inl rfl) (zI cS hr3 (zd (zB zG (zB zO (pv 5) (v4 va ze) (λ_ _=>rfl)) ze (λ_ _=>rfl)) (zd (xz (zd ze (zd ze zf))) zf))))) zF)
  (zj (zQ (xT (xi (pv 3) λ_=>rfl)) (zm (zz (i:=4) xS.nd rfl (Or.inl rfl) (zI cWe hr2 (zd (pv 0) zf)))) zF)
  (zm (vC (qF PySem.F.plainAttrs_list PySem.F.slot_list_append PySem.F.type_list_append qE (pv 5) (zd (xz (zd (pv 2) (zd (pv 7) (zd (pv 4) zf)))) zf)))))))))))
  (zm (zx (x9 ve (by rfl) T.nTuple PyProof.Rows.boot_tuple (zd (pv 5) zf))))))))),?_⟩
 refine⟨_,rfl,p,rfl,hP,λpp pl G1 t1 hpp zpl=>?_⟩
 refine⟨_,rfl,p,_,rfl,by decide,by decide,t1.pool,λd2 G2 a2 b2 t2=>⟨rfl,?_⟩⟩
 refine⟨_,rfl,p,rfl,t2.pool,λwt G3 w1 w2 t3=>?_⟩
 refine⟨by show 0<=sizeLine;exact Nat.zero_le _,λlr hlr=>?_⟩
 have T3:=(t1.trans t2).trans t3
 have hrp:lr≠p:=T3.pool.ne hlr
 have hrH:=T3.free hlr
 have hpp3:zR G3 pp pl:=zY t2.pool t3 _ _ (zY t1.pool t2 _ _ hpp)
 dsimp only[zK]
 refine jE ?_
 refine⟨_,rfl,_,rfl,p,mo,rfl,by omega,by omega,T3.pool.new hlr,λdn G4 n0 n1 t4=>⟨_,_,rfl,rfl,?_⟩⟩
 refine⟨_,rfl,by omega,by omega,?_⟩
 have hlr4:G4 lr=some (.lst []):=t4.keep _ _ zn hrp
 have T4:xD p H G4:=(T3.same (zo.upd hlr)).trans t4
 have hpp4:zR G4 pp pl:=zY (T3.pool.new hlr) t4 _ _ (zo.upd hlr _ _ hpp3)
 generalize decide (V.int d2=V.int 0)=ev
 refine XN (n:=((1:Int)+dn).toNat) (lo:=0) (λi σ G=>∃pp pl wt us bs z6 z7 z8,σ=[some (.ref p),some (.int mo),some (.ref pp),some (.bl ev),some (.int wt),some (.ref lr),z6,z7,z8]/\xD p H G/\zR G pp pl/\Sz (5+7*i) pl/\1<=wt/\wt<=1000/\G lr=some (.lst us)/\zJ G us bs/\bs.length=i/\jJ bs/\(∀b∈bs,Sz 100 b.pl/\Sz 100 b.sp) ∧
   (∀cs c,bs=cs++[c]->c.pl=pl/\Sz (5+3*i) c.sp))
  ⟨pp,pl,wt,[],[],none,none,none,rfl,T4,hpp4,zpl,w1,w2,hlr4,.nil,rfl,jJ.nil,(λb m=>by cases m),λcs c e=>by simp at e⟩ ?_ ?_
 ·rintro i σ G hi ⟨pp,pl,wt,us,bs,z6,z7,z8,rfl,TG,hppG,zplG,w1,w2,hlrG,hB,hbl,hGo,hsz,hlast⟩
  have hi8:i<8:=by omega
  refine⟨_,rfl,p,rfl,TG.pool,λrs sp G5 t5 hrs zsp=>?_⟩
  have T5:=TG.trans t5
  have Tu5:=zY TG.pool t5
  refine⟨_,rfl,p,_,rfl,by decide,by decide,T5.pool,λd6 G6 a6 b6 t6=>⟨_,_,rfl,rfl,by show 6<=sizeLine;decide,λl6 hl6=>?_⟩⟩
  have T6:=T5.trans t6
  have Tu6:=zY T5.pool t6
  refine⟨_,rfl,p,_,rfl,by decide,by decide,T6.pool.new hl6,λd7 G7 a7 b7 t7=>?_⟩
  obtain⟨fv,efv,f0,f1⟩:=at6 (1+d6) a7 b7 ⟨by omega,by omega⟩
  refine⟨l6,_,_,_,rfl,rfl,.of (t7.keep l6 _ zn (T6.pool.ne hl6)),efv,?_⟩
  have T7:xD p H G7:=(T6.same (zo.upd hl6)).trans t7
  have Tu7:xE G6 G7:=(xE.of (zo.upd hl6)).trans (zY (T6.pool.new hl6) t7)
  refine⟨_,rfl,_,rfl,p,_,rfl,by decide,by decide,T7.pool,λd8 G8 a8 b8 t8=>⟨_,_,rfl,rfl,?_⟩⟩
  have T8:=T7.trans t8
  have Tu8:=zY T7.pool t8
  have bb:Bd 6 (1+d8):=bdn (by omega) (by omega)
  have bf:Bd 6 fv:=bdn (by omega) (by omega)
  refine⟨_,_,rfl,by omega,bb.mono (by decide),λrg G9 e9 hrg=>?_⟩
  have T9:=T8.same e9
  have Tu9:xE G G9:=(((Tu5.trans Tu6).trans Tu7).trans Tu8).trans (.of e9)
  obtain⟨ga,ega⟩:∃ga,ga=Rat.divInt fv (1+d8):=⟨_,rfl⟩
  have zga:Sz 6 ga:=by rw[ega];exact .divInt (by omega) bf bb
  have gnn:0<=ga:=by rw[ega];exact jR f0 (by omega)
  rw[<-ega]at hrg
  have hrs9:zR G9 rs sp:=e9 _ _ (Tu8 _ _ (Tu7 _ _ (Tu6 _ _ hrs)))
  have keepL:∀us,G lr=some (.lst us)->G9 lr=some (.lst us):=λus e=>e9 _ _ (t8.keep _ _ (t7.keep _ _ (zo.upd hl6 _ _ (t6.keep _ _ (t5.keep _ _ e hrp) hrp)) hrp) hrp)
  have hlr9:=keepL us hlrG
  dsimp only[zK]
  refine⟨_,rfl,_,rfl,pp,rg,pl,ga,rfl,Tu9 _ _ hppG,hrg,⟨zplG.mono (by omega),zga.mono (by decide)⟩,λpp' GA eA hpp'=>?_⟩
  have TA:=T9.same eA
  have TuA:xE G GA:=Tu9.trans (.of eA)
  have zpl':Sz (5+7*(i+1)) (pl+ga):=(zplG.add zga).mono (by omega)
  have hlrA:=eA _ _ hlr9
  have hrsA:zR GA rs sp:=eA _ _ hrs9
  have hrgA:zR GA rg ga:=eA _ _ hrg
  have hBA:zJ GA us bs:=hB.mono TuA
  dsimp only[zK]
  refine qZ (λσ' G'=>∃rs' sp',σ'=[some (.ref p),some (.int mo),some (.ref pp'),some (.bl ev),some (.int wt),some (.ref lr),some (.int (0+(i:Int))),some (.ref rs'),some (.ref rg)]/\xD p H G'/\xE GA G'/\G' lr=some (.lst us)/\zR G' rs' sp'/\Sz (5+3*(i+1)) sp'/\∀wt cs c,bs=cs++[c]->j9 c ⟨pl+ga,sp',wt⟩) ?_ ?_
  ·rintro σ' GB ⟨rs',sp',rfl,TB,TuB,hlrB,hrsB,zspB,hlex⟩
   refine qZ (λσ' G'=>∃wt',σ'=[some (.ref p),some (.int mo),some (.ref pp'),some (.bl ev),some (.int wt'),some (.ref lr),some (.int (0+(i:Int))),some (.ref rs'),some (.ref rg)]/\xD p H G'/\xE GB G'/\G' lr=some (.lst us)/\1<=wt'/\wt'<=1000) ?_ ?_
   ·rintro σ' GC ⟨wt',rfl,TC,TuC,hlrC,v1,v2⟩
    have hppC:zR GC pp' (pl+ga):=TuC _ _ (TuB _ _ hpp')
    have hrsC:zR GC rs' sp':=TuC _ _ hrsB
    have hBC:zJ GC us bs:=hBA.mono (TuB.trans TuC)
    refine⟨_,rfl,.inl ⟨rfl,_,SqL.of hlrC⟩,_,rfl,_,rfl,_,rfl,by show 3<=sizeLine;decide,λt ht=>?_⟩
    refine⟨lr,us,_,rfl,rfl,zo.upd ht _ _ hlrC,qJ (by rw[hB.length];omega),?_⟩
    have Tt:xE GC (upd (upd GC t (.tup [.ref pp',.ref rs',.int wt'])) lr (.lst (us++[.ref t]))):=(xE.of (zo.upd ht)).trans (.upd (zo.upd ht _ _ hlrC))
    refine⟨pp',pl+ga,wt',us++[.ref t],bs++[⟨pl+ga,sp',wt'⟩],_,_,_,rfl,(TC.same (zo.upd ht)).put hrH hrp _,Tt _ _ hppC,zpl',v1,v2,zn,?_,by simp[hbl],hGo.snoc ⟨v1,v2⟩ ⟨zpl'.mono (by omega),zspB.mono (by omega)⟩ (hlex wt'),?_,?_⟩
    ·exact zJ.append (.one (b:=⟨pl+ga,sp',wt'⟩) (xE.upd (zo.upd ht _ _ hlrC) _ _ zn) (Tt _ _ hppC) (Tt _ _ hrsC)) (hBC.mono Tt)
    ·intro b m
     rcases List.mem_append.mp m with m | m
     ·exact hsz b m
     ·cases List.mem_singleton.mp m;exact⟨zpl'.mono (by omega),zspB.mono (by omega)⟩
    ·intro cs c e
     have e2:=List.append_inj_right' e rfl
     have:c = ⟨pl+ga,sp',wt'⟩:=by injection e2 with e3;exact e3.symm
     subst this
     exact⟨rfl,zspB⟩
   ·intro nx hnx
    refine⟨_,rfl,ev,rfl,?_⟩
    cases ev with
    | true=>exact zM (hnx _ _ ⟨wt,rfl,TB,.of (zo.refl _),hlrB,w1,w2⟩)
    | false=>exact zT ⟨_,rfl,p,rfl,TB.pool,λv GC v1 v2 tC=>hnx _ _ ⟨v,rfl,TB.trans tC,zY TB.pool tC,tC.keep _ _ hlrB hrp,v1,v2⟩⟩
  ·intro nx hnx
   have zs:Sz (5+3*(i+1)) sp:=zsp.mono (by omega)
   refine⟨_,rfl,_,_,rfl,rfl,_,rfl,qU (λh=>?_) (λh=>?_)⟩
   ·have hi0:0<i:=by have z:(0:Int)<0+(i:Int):=of_decide_eq_true h
                     omega
    obtain⟨cs,c,hcs⟩:∃cs c,bs=cs++[c]:=by
     rcases List.eq_nil_or_concat bs with e | ⟨cs,c,e⟩
     ·rw[e]at hbl;simp at hbl;omega
     ·exact⟨cs,c,by simpa using e⟩
    obtain⟨hcpl,zc⟩:=hlast cs c hcs
    have hB':=hBA
    rw[hcs]at hB'
    obtain⟨us0,la,lp,lq,eus,hla,hlp,hlq⟩:=hB'.last
    have elast:atI us (-1)=some (.ref la):=by rw[eus];exact Zp _ _
    have uniq:∀cs' c',bs=cs'++[c']->c'=c:=λcs' c' e=>by
     rw[hcs]at e
     have:=List.append_inj_right' e rfl
     injection this with e3;exact e3.symm
    have le:∀(sp':Rat) (wt:Int),(ga=0->c.sp<sp')->∀cs' c',bs=cs'++[c']->j9 c' ⟨pl+ga,sp',wt⟩:=λsp' wt hx cs' c' e=>by
     have:=uniq cs' c' e
     subst this
     by_cases hg:ga=0
     ·exact .inr ⟨by show c'.pl=pl+ga;rw[hcpl,hg];grind,hx hg⟩
     ·exact .inl (by show c'.pl<pl+ga;rw[hcpl];grind)
    refine⟨_,rfl,rg,_,_,_,rfl,rfl,.of hrgA,at0 ..,rfl,_,rfl,?_⟩
    rw[Qw]
    by_cases hg:ga=0
    ·rw[decide_eq_true hg]
     refine zT ⟨_,rfl,_,rfl,lr,_,_,_,rfl,rfl,.of hlrA,elast,la,_,_,_,rfl,rfl,.of hla,rfl,_,rfl,_,_,_,_,rfl,VQ hlq,VQ hrsA,sz4 zc (by omega),sz4 zsp (by decide),_,rfl,?_⟩
     dsimp only
     rw[Zw]
     by_cases hlt:c.sp<sp
     ·rw[decide_eq_true hlt]
      exact zM (hnx _ _ ⟨rs,sp,rfl,TA,.of (zo.refl _),hlrA,hrsA,zs,λwt=>le sp wt λ_=>hlt⟩)
     ·rw[decide_eq_false hlt]
      refine zT ⟨_,rfl,_,rfl,lr,_,_,_,rfl,rfl,.of hlrA,elast,la,_,_,_,rfl,rfl,.of hla,rfl,by show 2<=sizeLine;decide,λta hta=>?_⟩
      refine⟨lq,ta,c.sp,1,rfl,zo.upd hta _ _ hlq,ZS zn,⟨zc.mono (by omega),jG.mono (by decide)⟩,λrn GB eB hrn=>?_⟩
      have sAB:zo GA GB:=(zo.upd hta).trans eB
      exact hnx _ _ ⟨rn,c.sp+1,rfl,TA.same sAB,.of sAB,sAB _ _ hlrA,hrn,(zc.add jG).mono (by omega),λwt=>le _ wt λ_=>by grind⟩
    ·rw[decide_eq_false hg]
     exact zM (zM (hnx _ _ ⟨rs,sp,rfl,TA,.of (zo.refl _),hlrA,hrsA,zs,λwt=>le sp wt λz=>absurd z hg⟩))
   ·have hi0:i=0:=by
     rcases Nat.eq_zero_or_pos i with z | z
     ·exact z
     ·exact absurd (decide_eq_true (show (0:Int)<0+(i:Int) by omega)) h
    exact zM (hnx _ _ ⟨rs,sp,rfl,TA,.of (zo.refl _),hlrA,hrsA,zs,λwt cs c e=>by rw[e]at hbl;simp at hbl;omega⟩)
 ·rintro σ G ⟨pp,pl,wt,us,bs,z6,z7,z8,rfl,TG,hppG,zplG,w1,w2,hlrG,hB,hbl,hGo,hsz,hlast⟩
  refine⟨_,rfl,lr,us,rfl,.inl ⟨.of hlrG,λr hr'=>k r us bs _ (TG.same (zo.upd hr')) zn (hB.same (zo.upd hr')) hGo hsz (by omega) (by omega)⟩⟩
end
end KK
end
section
set_option maxHeartbeats 8000000
set_option Elab.async false
set_option linter.all false
set_option maxRecDepth 100000
namespace KK
open PySem L2 KM
abbrev Wq:=Option (Rat×Rat)
def wx:Wq->Wx
 | none=>none
 | some (q,s)=>some ((q.num,(q.den:Int)),(s.num,(s.den:Int)))
def WR (H:Hp) (v:V) (u:Wq):Prop:=match u with
 | none=>v = .non
 | some (q,s)=>∃a b c,v = .ref a/\H a=some (.tup [.ref b,.ref c])/\zR H b q/\zR H c s
theorem WR.tups {H H':Hp}{v:V}{u:Wq}(h:WR H v u) (e:xE H H'):WR H' v u:=by
 cases u with
 | none=>exact h
 | some u=>obtain⟨a,b,c,e1,e2,e3,e4⟩:=h;exact⟨a,b,c,e1,e _ _ e2,e _ _ e3,e _ _ e4⟩
theorem WR.wi {H:Hp}{v:V}{u:Wq}(h:WR H v u):WI H v (wx u):=by
 cases u with
 | none=>exact h
 | some u=>obtain⟨a,b,c,e1,e2,e3,e4⟩:=h;exact⟨a,_,_,e1,e2,VQ e3,VQ e4⟩
theorem Xv (q:Rat):xQ q.num (q.den:Int)=true:=by
 unfold xQ
 have h1:(1:Int)<=(q.den:Int):=by have:=q.den_pos;omega
 have h2:Int.gcd (q.num.natAbs:Int) (q.den:Int)=1:=by
  have:=q.reduced
  unfold Nat.Coprime at this
  simpa [Int.gcd]using this
 rw[decide_eq_true h1,decide_eq_true h2];rfl
theorem ji {n:Nat}{i:Int}(h:Bd n i) (hn:n<=190):i.natAbs<10^60:=Nat.lt_of_lt_of_le h (Nat.le_trans (Nat.pow_le_pow_right (by decide) hn) (by decide))
def Wsz (u:Wq):Prop:=∀q s,u=some (q,s)->Sz 150 q/\Sz 150 s
theorem Wsz.ok {u:Wq}(h:Wsz u):Vi (wx u):=by
 cases u with
 | none=>trivial
 | some u =>
  obtain⟨q,s⟩:=u
  obtain⟨⟨a,b⟩,c,d⟩:=h q s rfl
  have f:∀i:Int,Bd 150 i->i.natAbs<10^200:=λi z=>Nat.lt_trans (ji z (by decide)) (by decide)
  exact⟨⟨Xv q,f _ a,f _ b⟩,⟨Xv s,f _ c,f _ d⟩⟩
theorem Wsz.wz {u:Wq}(h:Wsz u):Wz (wx u):=by
 cases u with
 | none=>trivial
 | some u =>
  obtain⟨q,s⟩:=u
  obtain⟨⟨a,b⟩,c,d⟩:=h q s rfl
  exact⟨⟨ji a (by decide),ji b (by decide)⟩,⟨ji c (by decide),ji d (by decide)⟩⟩
theorem JY {lo hi:Wq}(h:∀q s q' s',lo=some (q,s)->hi=some (q',s')->q<q'):okW (wx lo) (wx hi)=true:=by
 cases lo with
 | none=>cases hi <;> rfl
 | some u =>
  cases hi with
  | none=>rfl
  | some v =>
   show decide (u.1.num*(v.1.den:Int)<v.1.num*(u.1.den:Int))=true
   rw[Zw]
   exact decide_eq_true (h _ _ _ _ rfl rfl)
section
variable {P:Program}{w:World}{K:PySem.W.Frag}{mg:Str->Option Value}{base:Heap}
def zbk:Sp:=λvs H Q _=>∃(p bl pp qp:Addr) (b:qu) (sg:Int) (st:Bool),vs=[.ref p,.ref bl,.int sg,.bl st]/\qL H p/\H bl=some (.tup [.ref pp,.ref qp,.int b.wt])/\zR H pp b.pl/\zR H qp b.sp/\Sz 100 b.pl/\Sz 100 b.sp/\(sg=1\/sg = -1) ∧
 ∀v u H',xD p H H'->WR H' v u->(∀q s,u=some (q,s)->Sz 120 q/\Sz 120 s/\(sg=1->b.pl<=q)/\(sg = -1->q<=b.pl))->Q v H'
theorem qI:zC ["pool","ball","sign","still","speed","far","into"] ["pool","ball","sign","still"] (zk qi):=⟨rfl,rfl,rfl,by decide +kernel,rfl,by decide +kernel,by decide +kernel⟩
theorem QC (D:Df K mg "_law_side" qi ["pool","ball","sign","still"] []) (cN:Cal P w K mg base "_law_next" 1 ["pool","base"] [] qY) (cSm:Cal P w K mg base "_law_small" 3 ["pool"] [] zaq) (cL:Cal P w K mg base "_law_low" 2 ["top","bottom"] [] vZ)
  (cS:Cal P w K mg base "_law_sum" 3 ["one","other"] [] (jW Sz2 (· + ·))) (cGa:Cal P w K mg base "_law_gap" 3 ["one","other"] [] (jW Sz2 (· - ·))):Cal P w K mg base "_law_side" 4 ["pool","ball","sign","still"] [] zbk:=by
 refine D.cal (k:=3) qI (λvs H Q E h=>by obtain⟨_,_,_,_,_,_,_,rfl,_⟩:=h;rfl) (λf cdv A outer s H vs Q E hr3 h=>?_)
 obtain⟨p,bl,pp,qp,b,sg,st,rfl,hP,hbl,hpp,hqp,zpl,zsp,hsg,k⟩:=h
 have hr1:xk 1 _:=hr3.mono (by decide)
 have hr2:xk 2 _:=hr3.mono (by decide)
 refine⟨_,(zj (zQ (zr xU (zI cN hr1 (zd (pv 0) (zd ze zf))) ze (zy _)) (zm (zx zU)) zF)
  (zj (zz (i:=4) qI.nd rfl (Or.inl rfl) (xz (zd ze (zd ze zf))))
  (zj (zQ (xT (xi (pv 3) λ_=>rfl)) (zm (zz (i:=4) qI.nd rfl (Or.inl rfl) (zI cSm hr3 (zd (pv 0) zf)))) zF)
  (zj (zz (i:=5) qI.nd rfl (Or.inl rfl) (zI cL hr2 (zd (zI cN hr1 (zd (pv 0) (zd ze zf))) (zd (zD x8 ze (zI cN hr1 (zd (pv 0) (zd ze zf)))) zf))))
  (zj (zz (i:=6) qI.nd rfl (Or.inl rfl) (zI cGa hr3 (zd (zB zG (pv 1) ze (λ_ _=>rfl)) (zd (pv 4) zf))))
  (zj (zQ ((qx (zr xU (zB zG (pv 5) ze (λ_ _=>rfl)) ze (zy _)) (qm (zr vx (zD xB (zB zG (pv 6) ze (λ_ _=>rfl)) (pv 2)) ze (zy _))))).pt (zm (zz (i:=5) qI.nd rfl (Or.inl rfl) (xz (zd ze (zd ze zf))))) zF)
  (zm (zx (xz (zd (zI cS hr3 (zd (zB zG (pv 1) ze (λ_ _=>rfl)) (zd (xz (zd (zD xB (pv 2) (zB zG (pv 5) ze (λ_ _=>rfl))) (zd (zB zG (pv 5) ze (λ_ _=>rfl)) zf))) zf))) (zd (pv 4) zf))))))))))),?_⟩
 refine⟨_,rfl,p,_,rfl,by decide,by decide,hP,λd1 G1 a1 b1 t1=>⟨rfl,_,rfl,qU (λ_=>?_) (λ_=>?_)⟩⟩
 ·exact k .non none G1 t1 rfl (λq s e=>by cases e)
 refine zH ?_
 have Tu1:=zY hP t1
 refine⟨by show 2<=sizeLine;decide,λt2 h2=>?_⟩
 have s2:=zo.upd (o:=.tup [.int 0,.int 1]) h2
 have z2:zR (upd G1 t2 (.tup [.int 0,.int 1])) t2 0:=V9 zn
 dsimp only[zK]
 generalize upd G1 t2 (.tup [.int 0,.int 1])=G2 at s2 z2
 have T2:=t1.same s2
 have Tu2:xE H G2:=Tu1.trans (.of s2)
 refine qZ (λσ' G'=>∃rs sp,σ'=[some (.ref p),some (.ref bl),some (.int sg),some (.bl st),some (.ref rs),none,none]/\xD p H G'/\xE H G'/\zR G' rs sp/\Sz 5 sp) ?_ ?_
 ·rintro σ' G3 ⟨rs,sp,rfl,T3,Tu3,hrs,zs⟩
  refine⟨_,rfl,p,_,rfl,by decide,by decide,T3.pool,λd4 G4 a4 b4 t4=>?_⟩
  refine⟨_,rfl,p,_,rfl,by decide,by decide,t4.pool,λd5 G5 a5 b5 t5=>⟨_,_,rfl,rfl,?_⟩⟩
  have bb:Bd 5 (1+d5):=bdn (by omega) (by omega)
  have bf:Bd 5 d4:=bdn (by omega) (by omega)
  refine⟨_,_,rfl,by omega,bb.mono (by decide),λrf G6 e6 hrf=>?_⟩
  obtain⟨fa,efa⟩:∃fa,fa=Rat.divInt d4 (1+d5):=⟨_,rfl⟩
  have zfa:Sz 5 fa:=by rw[efa];exact .divInt (by omega) bf bb
  have fnn:0<=fa:=by rw[efa];exact jR (by omega) (by omega)
  rw[<-efa]at hrf
  have T6:=((T3.trans t4).trans t5).same e6
  have Tu36:xE G3 G6:=((zY T3.pool t4).trans (zY t4.pool t5)).trans (.of e6)
  have Tu6:=Tu3.trans Tu36
  have hbl6:=Tu6 _ _ hbl
  dsimp only[zK]
  refine⟨_,rfl,bl,_,_,_,rfl,rfl,.of hbl6,rfl,_,rfl,qp,rs,b.sp,sp,rfl,Tu6 _ _ hqp,Tu36 _ _ hrs,⟨zsp.mono (by decide),zs.mono (by decide)⟩,λri G7 e7 hri=>?_⟩
  have T7:=T6.same e7
  have Tu7:xE H G7:=Tu6.trans (.of e7)
  have hrf7:zR G7 rf fa:=e7 _ _ hrf
  have hrs7:zR G7 rs sp:=e7 _ _ (Tu36 _ _ hrs)
  dsimp only[zK]
  refine qZ (λσ' G'=>∃rf fa,σ'=[some (.ref p),some (.ref bl),some (.int sg),some (.bl st),some (.ref rs),some (.ref rf),some (.ref ri)]/\zo G7 G'/\zR G' rf fa/\Sz 5 fa/\0<=fa) ?_ ?_
  ·rintro σ' G8 ⟨rf,fa,rfl,s8,hrf8,zfa,fnn⟩
   have hbl8:=s8 _ _ (Tu7 _ _ hbl)
   have bsg:Bd 1000000 sg:=Bd.mono (m:=2) (bdz (by rcases hsg with rfl | rfl <;> decide) (by rcases hsg with rfl | rfl <;> decide)) (by decide)
   refine⟨_,rfl,bl,_,_,_,rfl,rfl,.of hbl8,rfl,_,rfl,_,rfl,rf,_,_,_,rfl,rfl,.of hrf8,at0 ..,_,_,rfl,rfl,⟨bsg,zfa.1.mono (by decide)⟩,_,rfl,rf,_,_,_,rfl,rfl,.of hrf8,at1 ..,by show 2<=sizeLine;decide,λt9 h9=>?_⟩
   have s9:=zo.upd (o:=.tup [.int (sg*fa.num),.int (fa.den:Int)]) h9
   have r9:∃g:Rat,zR (upd G8 t9 (.tup [.int (sg*fa.num),.int (fa.den:Int)])) t9 g/\Sz 5 g/\(sg=1->0<=g)/\(sg = -1->g<=0):=by
    rcases hsg with rfl | rfl
    ·exact⟨fa,by show upd _ _ _ _=_;rw[zn,Int.one_mul];rfl,zfa,λ_=>fnn,λz=>by cases z⟩
    ·refine⟨-fa,?_,⟨?_,?_⟩,λz=>(by cases z),λ_=>by grind⟩
     ·show upd _ _ _ _=_
      rw[zn]
      show some (HO.tup [V.int (-1*fa.num),V.int (fa.den:Int)])=some (HO.tup [V.int (-fa).num,V.int ((-fa).den:Int)])
      rw[Rat.neg_num,Rat.neg_den,Int.neg_one_mul]
     ·rw[Rat.neg_num];exact zfa.1.neg
     ·rw[Rat.neg_den];exact zfa.2
   dsimp only
   generalize upd G8 t9 (.tup [.int (sg*fa.num),.int (fa.den:Int)])=G9 at s9 r9
   obtain⟨g,hg,zg,gp,gm⟩:=r9
   have s79:=s8.trans s9
   refine⟨pp,t9,b.pl,g,rfl,s79 _ _ (Tu7 _ _ hpp),hg,⟨zpl.mono (by decide),zg.mono (by decide)⟩,λrq GA eA hrq=>?_⟩
   have s7A:=s79.trans eA
   refine⟨_,rfl,by show 2<=sizeLine;decide,λtw htw=>?_⟩
   have sW:=zo.upd (o:=.tup [.ref rq,.ref rs]) htw
   refine k _ (some (b.pl+g,sp)) _ ((T7.same s7A).same sW) ⟨tw,rq,rs,rfl,zn,sW _ _ hrq,sW _ _ (s7A _ _ hrs7)⟩ λq s e=>?_
   cases e
   exact⟨(zpl.add zg).mono (by decide),zs.mono (by decide),λz=>by have:=gp z;grind,λz=>by have:=gm z;grind⟩
  ·intro nx hnx
   have fin:nx [some (.ref p),some (.ref bl),some (.int sg),some (.bl st),some (.ref rs),some (.ref rf),some (.ref ri)] G7:=hnx _ _ ⟨rf,fa,rfl,zo.refl _,hrf7,zfa,fnn⟩
   have zi:Sz 4000 (b.sp - sp):=by
    have h1:Sz 120 (b.sp + -sp):=(zsp.add (y := -sp) (n:=5) ⟨by rw[Rat.neg_num];exact zs.1.neg,by rw[Rat.neg_den];exact zs.2⟩).mono (by decide)
    rw[<-Rat.sub_eq_add_neg]at h1
    exact h1.mono (by decide)
   have bsg:Bd 1000000 sg:=Bd.mono (m:=2) (bdz (by rcases hsg with rfl | rfl <;> decide) (by rcases hsg with rfl | rfl <;> decide)) (by decide)
   refine⟨_,rfl,rf,_,_,_,rfl,rfl,.of hrf7,at0 ..,rfl,_,rfl,qU (λ_=>?_) (λ_=>zM fin)⟩
   refine⟨_,rfl,ri,_,_,_,rfl,rfl,.of hri,at0 ..,_,rfl,_,_,rfl,rfl,⟨zi.1.mono (by decide),bsg⟩,_,_,rfl,rfl,_,rfl,qU (λ_=>?_) (λ_=>fin)⟩
   exact⟨by show 2<=sizeLine;decide,λto ho=>hnx _ _ ⟨to,1,rfl,zo.upd ho,ZS zn,jG.mono (by decide),by decide⟩⟩
 ·intro nx hnx
  refine⟨_,rfl,st,rfl,?_⟩
  cases st with
  | true=>exact zM (hnx _ _ ⟨t2,0,rfl,T2,Tu2,z2,zas.mono (by decide)⟩)
  | false=>exact zT ⟨_,rfl,p,rfl,T2.pool,λrs sp G3 t3 hrs zs=>hnx _ _ ⟨rs,sp,rfl,T2.trans t3,Tu2.trans (zY T2.pool t3),hrs,zs⟩⟩
def za7:Sp:=λvs H Q _=>∃(p r:Addr) (us:List V) (bs:List qu),vs=[.ref p,.ref r]/\qL H p/\H r=some (.tup us)/\zJ H us bs/\jJ bs/\(∀b∈bs,Sz 100 b.pl/\Sz 100 b.sp)/\1<=bs.length ∧
 ∀a lo hi H',xD p H H'->WsI H' a (wx lo) (wx hi)->Wsz lo->Wsz hi->okW (wx lo) (wx hi)=true->Q (.ref a) H'
theorem vE:zC ["pool","row","still","low","high"] ["pool","row"] (zk xG):=⟨rfl,rfl,rfl,by decide +kernel,rfl,by decide +kernel,by decide +kernel⟩
theorem ZM {bs:List qu}(G:jJ bs){b c:qu}(h0:bs[0]? = some b){cs:List qu}(hl:bs=cs++[c]):b.pl<=c.pl:=by
 subst hl
 cases cs with
 | nil=>cases h0;exact Rat.le_refl
 | cons d cs =>
  have:d=b:=by simpa using h0
  subst this
  have:=(List.pairwise_append.mp G.pw).2.2 d (List.mem_cons_self ..) c (by simp)
  rcases this with h | h
  ·grind
  ·grind
theorem Vu (D:Df K mg "_law_bounds" xG ["pool","row"] []) (cN:Cal P w K mg base "_law_next" 1 ["pool","base"] [] qY) (cSi:Cal P w K mg base "_law_side" 4 ["pool","ball","sign","still"] [] zbk)
  (cS:Cal P w K mg base "_law_sum" 3 ["one","other"] [] (jW Sz2 (· + ·))):Cal P w K mg base "_law_bounds" 5 ["pool","row"] [] za7:=by
 refine D.cal (k:=4) vE (λvs H Q E h=>by obtain⟨_,_,_,_,rfl,_⟩:=h;rfl) (λf cdv A outer s H vs Q E hr h=>?_)
 obtain⟨p,r,us,bs,rfl,hP,hr0,hB,hGo,hsz,hb1,k⟩:=h
 have hr1:xk 1 _:=hr.mono (by decide)
 have hr3:xk 3 _:=hr.mono (by decide)
 have hu:=hr.units
 have hl:=hB.length
 obtain⟨u0,e0⟩:∃u0,us[0]? = some u0:=⟨us[0]'(by omega),List.getElem?_eq_getElem _⟩
 obtain⟨ba,pa,qa,b,eb,rfl,hba,hpa,hqa⟩:=hB.get e0
 obtain⟨cs,c,hcs⟩:∃cs c,bs=cs++[c]:=by
  rcases List.eq_nil_or_concat bs with e | ⟨cs,c,e⟩
  ·rw[e]at hb1;simp at hb1
  ·exact⟨cs,c,by simpa using e⟩
 have hB':=hB
 rw[hcs]at hB'
 obtain⟨us0,la,lp,lq,eus,hla,hlp,hlq⟩:=hB'.last
 have elast:atI us (-1)=some (.ref la):=by rw[eus];exact Zp _ _
 have efirst:atI us 0=some (.ref ba):=vn e0
 have hbc:=ZM hGo eb hcs
 have zb:=hsz b (List.mem_of_getElem? eb)
 have zc:=hsz c (by rw[hcs];simp)
 refine⟨_,(zj (zz (i:=2) vE.nd rfl (Or.inl rfl) (xt vx (zI cN hr1 (zd (pv 0) (zd ze zf))) ze (zy _)))
  (zj (zz (i:=3) vE.nd rfl (Or.inl rfl) (zI cSi hr (zd (pv 0) (zd (zB zG (pv 1) ze (λ_ _=>rfl)) (zd (v4 va ze) (zd (pv 2) zf))))))
  (zj (zz (i:=4) vE.nd rfl (Or.inl rfl) (zI cSi hr (zd (pv 0) (zd (zB zG (pv 1) (v4 va ze) (λ_ _=>rfl)) (zd ze (zd (pv 2) zf))))))
  (zj (zQ (qx (zr v8 (pv 3) zU (zy _)) (qx (zr v8 (pv 4) zU (zy _)) (qm (zr (ZT hu) (zB zG (pv 3) ze (λ_ _=>rfl)) (zB zG (pv 4) ze (λ_ _=>rfl)) (zy _))))).pt (zm (zz (i:=4) vE.nd rfl (Or.inl rfl) (xz (zd (zI cS hr3 (zd (zB zG (pv 4) ze (λ_ _=>rfl)) (zd (xz (zd ze (zd ze zf))) zf))) (zd (zB zG (pv 4) ze (λ_ _=>rfl)) zf))))) zF)
  (zm (zx (xz (zd (pv 3) (zd (pv 4) zf))))))))),?_⟩
 refine⟨_,rfl,p,_,rfl,by decide,by decide,hP,λd1 G1 a1 b1 t1=>⟨_,_,rfl,rfl,?_⟩⟩
 have Tu1:=zY hP t1
 dsimp only[zK]
 refine⟨_,rfl,_,rfl,r,_,_,_,rfl,rfl,.of (Tu1 _ _ hr0),efirst,_,rfl,_,rfl,p,ba,pa,qa,b,-1,_,rfl,t1.pool,Tu1 _ _ hba,Tu1 _ _ hpa,Tu1 _ _ hqa,zb.1,zb.2,.inr rfl,λv1 lo G2 t2 w1 o1=>?_⟩
 have Tu2:=Tu1.trans (zY t1.pool t2)
 dsimp only[zK]
 refine⟨_,rfl,_,rfl,_,rfl,r,_,_,_,rfl,rfl,.of (Tu2 _ _ hr0),elast,_,rfl,p,la,lp,lq,c,1,_,rfl,t2.pool,Tu2 _ _ hla,Tu2 _ _ hlp,Tu2 _ _ hlq,zc.1,zc.2,.inl rfl,λv2 hi G3 t3 w2 o2=>?_⟩
 have T3:=(t1.trans t2).trans t3
 have Tu23:=zY t2.pool t3
 have w1':=w1.tups Tu23
 dsimp only[zK]
 have fin:∀(v2:V) (hi:Wq) (G:Hp) (D:qS),D.rt=Q->zo G3 G->WR G v2 hi->(∀q s,hi=some (q,s)->Sz 130 q/\Sz 130 s)->(∀q s q' s',lo=some (q,s)->hi=some (q',s')->q<q')->X9 (zay (q0 (vk 3) (q0 (vk 4) ZJ))) D [some (.ref p),some (.ref r),some (.bl (decide (0<d1))),some v1,some v2] G:=by
  intro v2 hi G D hD sG w2 zh hlt
  refine⟨_,rfl,_,rfl,by show 2<=sizeLine;decide,λt ht=>?_⟩
  rw[hD]
  have sW:=zo.upd (o:=.tup [v1,v2]) ht
  refine k t lo hi _ ((T3.same sG).same sW) ⟨v1,v2,zn,(w1'.tups (.of (sG.trans sW))).wi,(w2.tups (.of sW)).wi⟩ (λq s e=>⟨(o1 q s e).1.mono (by decide),(o1 q s e).2.1.mono (by decide)⟩) (λq s e=>⟨(zh q s e).1.mono (by decide),(zh q s e).2.mono (by decide)⟩) (JY hlt)
 have zh:∀q s,hi=some (q,s)->Sz 130 q/\Sz 130 s:=λq s e=>⟨(o2 q s e).1.mono (by decide),(o2 q s e).2.1.mono (by decide)⟩
 cases lo with
 | none =>
  cases(show v1 = .non from w1)
  refine⟨_,rfl,rfl,_,rfl,zM (zM ?_)⟩
  refine zH ?_
  exact fin v2 hi G3 _ rfl (zo.refl _) w2 zh (λq s q' s' e=>by cases e)
 | some lo =>
  obtain⟨a1,b1,c1,rfl,h1,h2,h3⟩:=w1'
  refine⟨_,rfl,rfl,_,rfl,zT ?_⟩
  cases hi with
  | none =>
   cases(show v2 = .non from w2)
   refine⟨_,rfl,rfl,_,rfl,zM (zM ?_)⟩
   refine zH ?_
   exact fin .non none G3 _ rfl (zo.refl _) rfl zh (λq s q' s' _ e=>by cases e)
  | some hi =>
   obtain⟨a2,b2,c2,rfl,g1,g2,g3⟩:=w2
   obtain⟨q1,s1⟩:=lo
   obtain⟨q2,s2⟩:=hi
   have o1':=o1 q1 s1 rfl
   have o2':=o2 q2 s2 rfl
   have le12:q1<=q2:=by have x1:=o1'.2.2.2 rfl;have x2:=o2'.2.2.1 rfl;grind
   refine⟨_,rfl,rfl,_,rfl,zT ?_⟩
   refine⟨_,rfl,a1,_,_,_,rfl,rfl,.of h1,rfl,_,rfl,a2,_,_,_,rfl,rfl,.of g1,rfl,_,_,zR.rd h2,zR.rd g2,jV _,jV _,_,rfl,?_⟩
   rw[JJ]
   by_cases c12:q1=q2
   ·rw[decide_eq_true c12]
    refine zT ⟨_,rfl,a2,_,_,_,rfl,rfl,.of g1,rfl,by show 2<=sizeLine;decide,λto ho=>?_⟩
    have sO:=zo.upd (o:=.tup [.int 1,.int 1]) ho
    refine⟨b2,to,q2,1,rfl,sO _ _ g2,ZS zn,⟨o2'.1.mono (by decide),jG.mono (by decide)⟩,λrn G4 e4 hrn=>?_⟩
    have s34:=sO.trans e4
    refine⟨_,rfl,a2,_,_,_,rfl,rfl,.of (s34 _ _ g1),rfl,by show 2<=sizeLine;decide,λtw htw=>?_⟩
    have sW:=zo.upd (o:=.tup [.ref rn,.ref c2]) htw
    refine fin (.ref tw) (some (q2+1,s2)) _ _ rfl (s34.trans sW) ⟨tw,rn,c2,rfl,zn,sW _ _ hrn,sW _ _ (s34 _ _ g3)⟩ (λq s e=>by cases e;exact⟨(o2'.1.add jG).mono (by decide),o2'.2.1.mono (by decide)⟩) (λq s q' s' e e'=>by cases e;cases e';rw[c12];grind)
   ·rw[decide_eq_false c12]
    refine zM ?_
    refine zH ?_
    exact fin (.ref a2) (some (q2,s2)) G3 _ rfl (zo.refl _) ⟨a2,b2,c2,rfl,g1,g2,g3⟩ zh (λq s q' s' e e'=>by cases e;cases e';grind)
end
end KK
end
section
set_option maxHeartbeats 8000000
set_option Elab.async false
set_option linter.all false
set_option maxRecDepth 100000
namespace KK
open PySem L2 KM PySem.NumText
theorem JE (m:Nat):atI (Str.ofString "0123456789").cps.toList (((m:Int)) % 10)=some (48+m % 10):=by
 have e:(Str.ofString "0123456789").cps.toList=[48,49,50,51,52,53,54,55,56,57]:=by decide +kernel
 rw[e,show ((m:Int)) % 10=((m % 10:Nat):Int) by omega]
 have h:m % 10<10:=Nat.mod_lt _ (by decide)
 generalize m % 10=r at h
 have:r=0\/r=1\/r=2\/r=3\/r=4\/r=5\/r=6\/r=7\/r=8\/r=9:=by omega
 rcases this with rfl | rfl | rfl | rfl | rfl | rfl | rfl | rfl | rfl | rfl <;> rfl
theorem JK (m:Nat):((m:Int)).fdiv 10=((m/10:Nat):Int):=by
 rw[Int.fdiv_eq_ediv_of_nonneg _ (by decide)];omega
section
variable {P:Program}{w:World}{K:PySem.W.Frag}{mg:Str->Option Value}{base:Heap}
def za8:Sp:=λvs H Q _=>∃n:Int,vs=[.int n]/\n.natAbs<10^300/\∀H',zo H H'->Q (.str (TX (ntL n))) H'
theorem vF:zC ["number","text","rest"] ["number"] (zk xv):=⟨rfl,rfl,rfl,by decide +kernel,rfl,by decide +kernel,by decide +kernel⟩
theorem Vw (D:Df K mg "_law_figures" xv ["number"] []) (T:TxB K mg):Cal P w K mg base "_law_figures" 1 ["number"] [] za8:=by
 refine D.cal (k:=0) vF (λvs H Q E h=>by obtain⟨_,rfl,_⟩:=h;rfl) (λf cdv A outer s H vs Q E hr h=>?_)
 obtain⟨n,rfl,hn,k⟩:=h
 refine⟨_,(zj (zz (i:=1) vF.nd rfl (Or.inl rfl) zq)
  (zj (zz (i:=2) vF.nd rfl (Or.inl rfl) (zP jj (by rfl) T.nAbs PyProof.Rows.boot_abs (zd (pv 0) zf)))
  (zj (vD PassesOwn.never (zr vx (pv 2) ze (zy _)) (zj (zz (i:=1) vF.nd rfl (Or.inl rfl) (zD zL (zB ZO zq (zD qO (pv 2) ze) (λ_ _=>rfl)) (pv 1)))
  (zm (zz (i:=2) vF.nd rfl (Or.inl rfl) (zD jn (pv 2) ze)))))
  (zm (zx (zD zL (zB zO (xF (zd zq (zd zq zf))) (x9 vP (by rfl) T.nInt PyProof.Rows.boot_int (zd (xt v3 (pv 0) ze (zy _)) zf)) (λ_ _=>rfl)) (zB zO (xF (zd zq (zd (pv 1) zf))) (x9 vP (by rfl) T.nInt PyProof.Rows.boot_int (zd (xt vf (pv 0) ze (zy _)) zf)) (λ_ _=>rfl)))))))),?_⟩
 refine qP ?_
 refine⟨_,rfl,n,rfl,?_⟩
 dsimp only[zK]
 refine ZH ?_
 obtain⟨N,hN⟩:∃N,N=n.natAbs:=⟨_,rfl⟩
 have lN:=vc (k:=300) (by decide) (hN ▸ hn)
 refine vL (λσ H1=>H1=H/\∃(m:Nat) (t:List Nat),σ=[some (.int n),some (.str (TX t)),some (.int (m:Int))]/\(m=0->t=if N=0 then []else fig N)/\(0<m->0<N/\fig N=fig m++t))
  (λσ _=>match σ with | [_,_,some (.int y)]=>y.toNat | _=>0) ⟨rfl,N,[],?_,λe=>by rw[if_pos e],λh=>⟨h,by rw[List.append_nil]⟩⟩ ?_ ?_
 ·rw[jg,<-hN];rfl
 ·rintro σ H1 ⟨rfl,m,t,rfl,h0,h1⟩
  refine⟨_,rfl,_,_,rfl,rfl,_,rfl,qU (λh=>?_) (λh=>?_)⟩
  ·have m0:0<m:=by have z:(0:Int)<(m:Int):=of_decide_eq_true h
                   omega
   obtain⟨N0,eN⟩:=h1 m0
   have lt:t.length+1<=300:=by
    have e2:=congrArg List.length eN
    rw[List.length_append]at e2
    have:1<=(fig m).length:=by
     cases hf:fig m with
     | nil=>exact absurd hf (qw m).2.1
     | cons c r=>simp
    omega
   refine⟨_,rfl,_,_,rfl,rfl,(by show (0:Int)<10;decide),_,_,_,rfl,rfl,szl (by decide),JE m,_,rfl,_,_,rfl,rfl,?_,?_⟩
   ·rw[zE];exact szl (by show 1+_<=1000;omega)
   dsimp only[zK]
   refine⟨_,rfl,_,_,rfl,rfl,⟨by decide,Bd.mono (m:=5) (show (10:Int).natAbs<2^5 by decide) (by decide)⟩,?_⟩
   have e3:(⟨#[48+m % 10]⟩:Str)++TX t=TX ((48+m % 10)::t):=by
    show TX [48+m % 10]++TX t=_
    rw[xl];rfl
   dsimp only[zK]
   rw[e3,JK]
   refine⟨⟨rfl,m/10,(48+m % 10)::t,rfl,λe=>?_,λh=>⟨N0,?_⟩⟩,?_⟩
   ·rw[if_neg (by omega),eN,vQ (by omega)]
    show (48+m % 10)::t=(48+m)::t
    rw[Nat.mod_eq_of_lt (by omega)]
   ·rw[eN,ZL (by omega),List.append_assoc];rfl
   ·show ((m/10:Nat):Int).toNat<((m:Nat):Int).toNat
    omega
  ·have m0:m=0:=by
    rcases Nat.eq_zero_or_pos m with z | z
    ·exact z
    ·exact absurd (decide_eq_true (show (0:Int)<(m:Int) by omega)) h
   have et:=h0 m0
   refine⟨by show 2<=sizeLine;decide,λl1 hl1=>?_⟩
   refine⟨_,rfl,_,_,rfl,rfl,.inr ⟨_,rfl,?_⟩⟩
   have s1:=zo.upd (o:=.lst [.str (Str.ofString ""),.str (Str.ofString "-")]) hl1
   obtain⟨g,eg,hg⟩:∃g:List Nat,atI [V.str (Str.ofString ""),.str (Str.ofString "-")] (if decide (n<0)=true then 1 else 0)=some (.str (TX g))/\g=if n<0 then [45]else []:=by
    by_cases c:n<0
    ·rw[decide_eq_true c,if_pos rfl,if_pos c];exact⟨[45],by show some (V.str (Str.ofString "-"))=_;rw[show Str.ofString "-" = TX [45] by decide +kernel],rfl⟩
    ·rw[decide_eq_false c,if_neg (by decide),if_neg c];exact⟨[],by show some (V.str (Str.ofString ""))=_;rw[show Str.ofString "" = TX [] by decide +kernel],rfl⟩
   refine⟨l1,_,_,_,rfl,rfl,.of zn,eg,?_⟩
   refine⟨_,rfl,by show 2<=sizeLine;decide,λl2 hl2=>?_⟩
   refine⟨_,rfl,rfl,.inr ⟨_,rfl,?_⟩⟩
   have s2:=zo.upd (o:=.lst [.str (Str.ofString "0"),.str (TX t)]) hl2
   obtain⟨g2,eg2,hg2⟩:∃g2:List Nat,atI [V.str (Str.ofString "0"),.str (TX t)] (if(!decide (V.int n=V.int 0))=true then 1 else 0)=some (.str (TX g2))/\g2=fig N:=by
    by_cases c:n=0
    ·rw[decide_eq_true (congrArg V.int c)]
     refine⟨[48],by show some (V.str (Str.ofString "0"))=_;rw[show Str.ofString "0" = TX [48] by decide +kernel],?_⟩
     rw[show N=0 by omega,vQ (by decide)]
    ·rw[decide_eq_false (λz=>c (by injection z))]
     exact⟨t,rfl,by rw[et,if_neg (by omega)]⟩
   refine⟨l2,_,_,_,rfl,rfl,.of zn,eg2,_,_,rfl,rfl,?_,?_⟩
   ·rw[zE,zE,hg2]
    have:g.length<=1:=by rw[hg];split <;> decide
    exact szl (by omega)
   ·have:=k _ (s1.trans s2)
    have e4:TX g++TX g2=TX (ntL n):=by
     rw[xl,hg2,hg,hN]
     unfold ntL
     by_cases c:n<0
     ·rw[if_pos c,if_pos c];rfl
     ·rw[if_neg c,if_neg c];rfl
    rw[e4];exact this
 ·rintro σ H1 Q1 Q2 hq ⟨v,e,i,j,e1,e2,b,e3,q⟩
  exact⟨v,e,i,j,e1,e2,b,e3,hq _ _ q⟩
def R3 (r:Int×Int):Prop:=r.1.natAbs<10^300/\r.2.natAbs<10^300
theorem Rz.r3 {r:Int×Int}(h:Rz r):R3 r:=⟨Nat.lt_trans h.1 (by decide),Nat.lt_trans h.2 (by decide)⟩
theorem Xk {n:Int}(h:n.natAbs<10^300):(ntL n).length<=301:=by
 have:=vc (k:=300) (by decide) h
 unfold ntL;split
 ·simp;omega
 ·omega
def zbd:Sp:=λvs H Q _=>∃v r,vs=[v]/\RI H v r/\R3 r/\∀H',zo H H'->Q (.str (TX (rtL r))) H'
theorem zak:zC ["one"] ["one"] (zk xg):=⟨rfl,rfl,rfl,by decide +kernel,rfl,by decide +kernel,by decide +kernel⟩
theorem J5 (D:Df K mg "_law_ratio_text" xg ["one"] []) (cFi:Cal P w K mg base "_law_figures" 1 ["number"] [] za8):Cal P w K mg base "_law_ratio_text" 2 ["one"] [] zbd:=by
 refine D.cal (k:=1) zak (λvs H Q E h=>by obtain⟨_,_,rfl,_⟩:=h;rfl) (λf cdv A outer s H vs Q E hr h=>?_)
 obtain⟨v,r,rfl,⟨p,rfl,hp⟩,hz,k⟩:=h
 refine⟨_,(zj (zQ (zr xU (zB zG (pv 0) ze (λ_ _=>rfl)) ze (zy _)) (zm (zx (zI cFi hr (zd (zB zG (pv 0) ze (λ_ _=>rfl)) zf)))) zF)
  (zm (zx (zD zL (zD zL (zI cFi hr (zd (zB zG (pv 0) ze (λ_ _=>rfl)) zf)) zq) (zI cFi hr (zd (zB zG (pv 0) ze (λ_ _=>rfl)) zf)))))),?_⟩
 refine⟨_,rfl,p,_,_,_,rfl,rfl,.of hp,at1 ..,rfl,_,rfl,qU (λh=>?_) (λh=>?_)⟩
 ·have e:r.2=1:=by have:=of_decide_eq_true h;injection this
  refine⟨_,rfl,p,_,_,_,rfl,rfl,.of hp,at0 ..,_,rfl,hz.1,λH1 s1=>?_⟩
  have e2:rtL r=ntL r.1:=by unfold rtL;rw[if_pos e]
  have:=k H1 s1
  rw[e2]at this;exact this
 ·have e:r.2≠1:=λz=>h (decide_eq_true (congrArg V.int z))
  refine zH ?_
  refine⟨_,rfl,p,_,_,_,rfl,rfl,.of hp,at0 ..,_,rfl,hz.1,λH1 s1=>?_⟩
  have l1:=Xk hz.1
  have l2:=Xk hz.2
  have hp1:=s1 _ _ hp
  refine⟨_,_,rfl,rfl,?_,?_⟩
  ·rw[zE];exact szl (by show _+1<=1000;omega)
  refine⟨_,rfl,p,_,_,_,rfl,rfl,.of hp1,at1 ..,_,rfl,hz.2,λH2 s2=>?_⟩
  have e0:TX (ntL r.1)++Str.ofString "/" = TX (ntL r.1++[47]):=by rw[show Str.ofString "/" = TX [47] by decide +kernel,xl]
  refine⟨_,_,rfl,rfl,?_,?_⟩
  ·rw[e0,zE,zE];exact szl (by simp;omega)
  have e2:rtL r=ntL r.1++[47]++ntL r.2:=by unfold rtL;rw[if_neg e]
  have:=k H2 (s1.trans s2)
  rw[e2,<-xl,<-e0]at this;exact this
def Q5:Sp:=λvs H Q _=>∃a u v,vs=[.ref a]/\WsI H a u v/\Wz u/\Wz v/\∀H',zo H H'->Q (.str (TX (wsL u v))) H'
theorem jz:zC ["walls","some","one","text"] ["walls"] (zk xb):=⟨rfl,rfl,rfl,by decide +kernel,rfl,by decide +kernel,by decide +kernel⟩
theorem J3 (D:Df K mg "_law_bounds_text" xb ["walls"] []) (cLt:Cal P w K mg base "_law_ratio_text" 2 ["one"] [] zbd):Cal P w K mg base "_law_bounds_text" 3 ["walls"] [] Q5:=by
 refine D.cal (k:=2) jz (λvs H Q E h=>by obtain⟨_,_,_,rfl,_⟩:=h;rfl) (λf cdv A outer s H vs Q E hr h=>?_)
 obtain⟨a,u,v,rfl,⟨x,y,ha,hx,hy⟩,zu,zv,k⟩:=h
 refine⟨_,(zj (zz (i:=1) jz.nd rfl (Or.inl rfl) (xF zf))
  (zj (jr PassesOwn.never rfl (QK (pv 0)) (xp (i:=2) jz.nd rfl (Or.inl rfl)) (zj (zz (i:=3) jz.nd rfl (Or.inl rfl) zq)
  (zj (zQ (zr v8 (pv 2) zU (zy _)) (zm (zz (i:=3) jz.nd rfl (Or.inl rfl) (zD zL (zD zL (zI cLt hr (zd (zB zG (pv 2) ze (λ_ _=>rfl)) zf)) zq) (zI cLt hr (zd (zB zG (pv 2) ze (λ_ _=>rfl)) zf))))) zF)
  (zm (vC (qF PySem.F.plainAttrs_list PySem.F.slot_list_append PySem.F.type_list_append qE (pv 1) (zd (pv 3) zf)))))))
  (zm (zx (zD zL (zD zL (zB zO (pv 1) ze (λ_ _=>rfl)) zq) (zB zO (pv 1) ze (λ_ _=>rfl))))))),?_⟩
 refine⟨by show 0<=sizeLine;exact Nat.zero_le _,λl hl=>?_⟩
 dsimp only[zK]
 refine jE ?_
 refine⟨_,rfl,a,rfl,⟨_,SqT.of (zo.upd hl _ _ ha)⟩,?_⟩
 refine Vl (xs:=[x,y]) (λi σ G=>∃z2 z3,σ=[some (.ref a),some (.ref l),z2,z3]/\zo H G/\G l=some (.lst ((([TX (wtL u),TX (wtL v)]:List Str).take i).map V.str)))
  ⟨none,none,rfl,zo.upd hl,zn⟩ (λi σ G _ ⟨_,_,_,s,_⟩=>SqT.of (s _ _ ha)) ?_ ?_
 ·rintro i z σ G hz ⟨z2,z3,rfl,sG,hG⟩
  have hi:i<2:=(List.getElem?_eq_some_iff.mp hz).1
  obtain⟨wv,hw,zw,eT⟩:∃wv:Wx,WI H z wv/\Wz wv/\([TX (wtL u),TX (wtL v)]:List Str)[i]? = some (TX (wtL wv)):=by
   have:i=0\/i=1:=by omega
   rcases this with rfl | rfl
   ·cases hz;exact⟨u,hx,zu,rfl⟩
   ·cases hz;exact⟨v,hy,zv,rfl⟩
  dsimp only[zK]
  refine qP ?_
  dsimp only[tC]
  refine qZ (λσ' G'=>σ'=[some (.ref a),some (.ref l),some z,some (.str (TX (wtL wv)))]/\zo G G') ?_ ?_
  ·rintro σ' G1 ⟨rfl,s1⟩
   have hG1:=s1 _ _ hG
   refine⟨_,rfl,.inl ⟨rfl,_,SqL.of hG1⟩,_,rfl,l,_,_,rfl,rfl,hG1,qJ (by simp;omega),?_⟩
   refine⟨_,_,rfl,λb o e=>?_,?_⟩
   ·rw[zZ (xh e hl)];exact s1 _ _ (sG _ _ e)
   ·rw[zn,List.take_add_one,eT,List.map_append];rfl
  ·intro nx hnx
   cases wv with
   | none =>
    cases(show z = .non from hw)
    refine⟨_,rfl,rfl,_,rfl,zM (hnx _ _ ⟨?_,zo.refl _⟩)⟩
    show [some (V.ref a),some (.ref l),some .non,some (.str (Str.ofString "-"))]=_
    rw[show Str.ofString "-" = TX [45] by decide +kernel];rfl
   | some wv =>
    obtain⟨p,a1,b1,rfl,hp,h1,h2⟩:=hw
    have l1:=vV zw.1
    have l2:=vV zw.2
    have eS:Str.ofString " " = TX [32]:=by decide +kernel
    refine⟨_,rfl,rfl,_,rfl,zT ?_⟩
    refine⟨_,rfl,p,_,_,_,rfl,rfl,.of (sG _ _ hp),rfl,a1,_,rfl,h1.tups (.of sG),zw.1.r3,λG1 s1=>?_⟩
    refine⟨_,_,rfl,rfl,?_,?_⟩
    ·rw[zE];exact szl (by show _+1<=1000;omega)
    have s01:=sG.trans s1
    refine⟨_,rfl,p,_,_,_,rfl,rfl,.of (s01 _ _ hp),rfl,b1,_,rfl,h2.tups (.of s01),zw.2.r3,λG2 s2=>?_⟩
    refine⟨_,_,rfl,rfl,?_,?_⟩
    ·rw[eS,xl,zE,zE];exact szl (by simp;omega)
    refine hnx _ _ ⟨?_,s1.trans s2⟩
    show [some (V.ref a),some (.ref l),some (.ref p),some (.str (TX (rtL wv.1)++Str.ofString " "++TX (rtL wv.2)))]=_
    rw[eS,xl,xl];rfl
 ·rintro σ G ⟨z2,z3,rfl,sG,hG⟩
  have hG:G l=some (.lst [.str (TX (wtL u)),.str (TX (wtL v))]):=hG
  have l1:=vb zu
  have l2:=vb zv
  have eS:Str.ofString " | " = TX [32,124,32]:=by decide +kernel
  refine⟨_,rfl,l,_,_,_,rfl,rfl,.of hG,rfl,_,_,rfl,rfl,?_,?_⟩
  ·rw[eS,zE,zE];exact szl (by simp;omega)
  refine⟨_,rfl,l,_,_,_,rfl,rfl,.of hG,rfl,_,_,rfl,rfl,?_,?_⟩
  ·rw[eS,xl,zE,zE];exact szl (by simp;omega)
  have:=k G sG
  have e:TX (wtL u)++Str.ofString " | "++TX (wtL v)=TX (wsL u v):=by rw[eS,xl,xl];rfl
  rw[e];exact this
end
end KK
end
section
set_option maxHeartbeats 8000000
set_option Elab.async false
set_option linter.all false
set_option maxRecDepth 100000
namespace L2
open PySem PySem.Spec PyProof.Rows
theorem Vk {a:Str}{g:TG}{tb:TS}{D:qS}{σ:St}{H:Hp}(Pv:Nat->St->Hp->Prop) (h0:Pv 0 σ H)
  (hs:∀i c σ H,a.cps.toList[i]? = some c->Pv i σ H->g (.str ⟨#[c]⟩) σ H λσ2 H2=>tb { D with nx:=Pv (i+1),ct:=Pv (i+1),bk:=D.nx } σ2 H2) (hd:∀σ H,Pv a.cps.toList.length σ H->D.nx σ H) :
  ∃W:Nat->Nat->St->Hp->Prop,(∃m,W 0 m σ H)/\∀i m σ H,W i m σ H →
   ((Its a).stop i H/\D.nx σ H)\/((Its a).go i H/\∃N:St->Hp->Prop,(∀σ' H',N σ' H'->∃m',m'<m/\W (i+1) m' σ' H')/\∀x H',(Its a).yld i H x H'->g x σ H' λσ2 H2=>tb { D with nx:=N,ct:=N,bk:=D.nx } σ2 H2):=by
 refine⟨λi m σ H=>m=a.cps.toList.length - i/\i<=a.cps.toList.length/\Pv i σ H,⟨_,rfl,Nat.zero_le _,h0⟩,?_⟩
 rintro i m σ H ⟨rfl,hi,p⟩
 by_cases hlt:i<a.cps.toList.length
 ·refine .inr ⟨show i<a.cps.size by simpa using hlt,Pv (i+1),λσ' H' p'=>⟨_,by omega,rfl,hlt,p'⟩,λx H' y=>?_⟩
  obtain⟨e,c,ec,ex⟩:=y
  subst e ex
  exact hs i c σ _ (by simpa using ec) p
 ·have e:i=a.cps.toList.length:=by omega
  subst e
  exact .inl ⟨show a.cps.size<=_ by simp,hd σ H p⟩
end L2
namespace KK
open PySem L2 KM PySem.NumText
def oV:Option Int->V
 | none=>.non
 | some n=>.int n
theorem sidx {c:Nat}(h:qD c=true):∃rest,Builtin.Str.occurrences (Str.ofString "0123456789") ⟨#[c]⟩ 0 (Str.ofString "0123456789").length 1=(c - 48)::rest:=by
 unfold qD at h
 simp only[Bool.and_eq_true,decide_eq_true_eq]at h
 have:c=48\/c=49\/c=50\/c=51\/c=52\/c=53\/c=54\/c=55\/c=56\/c=57:=by omega
 rcases this with rfl | rfl | rfl | rfl | rfl | rfl | rfl | rfl | rfl | rfl
 all_goals exact⟨[],by decide +kernel⟩
theorem zar {x:Str}:decide (V.str x=V.str (Str.ofString ""))=decide (x.cps.toList=[]):=by
 rw[qv,show Str.ofString "" = TX [] by decide +kernel]
 by_cases h:x.cps.toList=[]
 ·rw[decide_eq_true h,decide_eq_true (by rw[<-vJ x,h])]
 ·rw[decide_eq_false h,decide_eq_false (λz=>h (by rw[z,xu]))]
theorem at_0 {l:List Nat}{c:Nat}{r:List Nat}(h:l=c::r):atI l 0=some c:=by subst h;exact vn (j:=0) rfl
theorem Va {l:List Nat}{i c:Nat}(e:l[i]? = some c):digitsVal (l.take (i+1))=digitsVal (l.take i)*10+(c - 48):=by
 rw[List.take_add_one,e]
 exact digitsVal_snoc _ _
section
variable {P:Program}{w:World}{K:PySem.W.Frag}{mg:Str->Option Value}{base:Heap}
def zbm:Sp:=λvs H Q _=>∃x,vs=[.str x]/\x.length<=10000/\Q (oV (rdN x)) H
theorem jd:zC ["text","found","sign"] ["text"] (zk xY):=⟨rfl,rfl,rfl,by decide +kernel,rfl,by decide +kernel,by decide +kernel⟩
theorem VC (D:Df K mg "_law_value" xY ["text"] []) (T:TxB K mg):Cal P w K mg base "_law_value" 1 ["text"] [] zbm:=by
 refine D.cal (k:=0) jd (λvs H Q E h=>by obtain⟨_,rfl,_⟩:=h;rfl) (λf cdv A outer s H vs Q E hr h=>?_)
 obtain⟨x,rfl,hx,k⟩:=h
 have hxl:x.cps.toList.length=x.length:=by simp[Str.length]
 have hz:x.length<=sizeLine:=by have:=qB hx;omega
 have no:x5 x.cps.toList=false->Q .non H:=λh=>by rw[jt h]at k;exact k
 refine⟨_,(zj (zQ ((qW (zr xU (pv 0) zq (zy _)) (qW (zr vx (zP qM (by rfl) T.nLen PySem.boot_len (zd (pv 0) zf)) ze (zy _)) (vj ((qx (zr xU (zB ZO (pv 0) ze (λ_ _=>rfl)) zq (zy _)) (qm (zr vf (pv 0) zq (zy _))))).pt)))).pt (zm (zx zU)) zF)
  (zj (zz (i:=1) jd.nd rfl (Or.inl rfl) ze)
  (zj (jr PassesOwn.never rfl (QJ (pv 0)) (xp (i:=2) jd.nd rfl (Or.inl rfl)) (zj (zQ (zr Zf (pv 2) zq rfl) (zm (zx zU)) zF)
  (zm (zz (i:=1) jd.nd rfl (Or.inl rfl) (zD x8 (zD xB (pv 1) ze) (qF PySem.F.plainAttrs_str PySem.F.slot_str_index PySem.F.type_str_index XV zq (zd (pv 2) zf)))))))
  (zm (zx (pv 1)))))),?_⟩
 refine⟨_,rfl,rfl,_,rfl,?_⟩
 rw[zar]
 by_cases c1:x.cps.toList=[]
 ·rw[decide_eq_true c1]
  refine zT (zT (no ?_))
  unfold x5;rw[c1];rfl
 rw[decide_eq_false c1]
 refine zM ?_
 refine⟨_,rfl,x,rfl,hz,_,_,rfl,rfl,_,rfl,?_⟩
 have h1:1<=x.length:=by
  rw[<-hxl]
  cases hl:x.cps.toList with
  | nil=>exact absurd hl c1
  | cons c r=>simp
 by_cases c2:x.length<=300
 case neg =>
  rw[decide_eq_true (show (300:Int)<(x.length:Int) by omega)]
  refine zT (zT (no ?_))
  unfold x5;rw[hxl,decide_eq_false c2];simp
 rw[decide_eq_false (show ¬(300:Int)<(x.length:Int) by omega)]
 refine zM ?_
 obtain⟨c0,r0,el⟩:∃c0 r0,x.cps.toList=c0::r0:=by
  cases hl:x.cps.toList with
  | nil=>exact absurd hl c1
  | cons c r=>exact⟨c,r,rfl⟩
 refine⟨_,rfl,x,0,c0,rfl,rfl,hz,at_0 el,rfl,_,rfl,?_⟩
 have ec:decide (V.str ⟨#[c0]⟩=V.str (Str.ofString "0"))=decide (c0=48):=by
  rw[qv,show Str.ofString "0" = ⟨#[48]⟩ by decide +kernel]
  by_cases z:c0=48
  ·rw[z,decide_eq_true rfl,decide_eq_true rfl]
  ·rw[decide_eq_false z,decide_eq_false (λq=>z (by injection q with q;simpa using q))]
 rw[ec]
 have hh:x.cps.toList.head? = some c0:=by rw[el];rfl
 have loop:∀D:qS,D.rt=Q->(decide (x.cps.toList=[48]) || !decide (x.cps.toList.head? = some 48))=true →
   Zk (X8 (tC (.int 0)) (zK 1)) (Zk (V5 (zaN (vk 0)) (zK 2) (Zk (zbu (Q9 (tOp (λx y H Q=>∃i j,x = .str i/\y = .str j/\Q (.bl (!(!(Builtin.Str.occurrences j i 0 j.length 1).isEmpty))) H) (vk 2) (tC (.str (Str.ofString "0123456789"))))) (X9 (tC .non)) Q8)
    (X8 (tOp (rI0 λi j=>.int (i+j)) (tOp (rI Qb λi j=>.int (i*j)) (vk 1) (tC (.int 10))) (tBM K "str" (λx vs H Q=>∃a b i rest,x = .str a/\vs=[.str b]/\Builtin.Str.occurrences a b 0 a.length 1=i::rest/\Q (.int (i:Nat)) H) (tC (.str (Str.ofString "0123456789"))) (q0 (vk 2) ZJ))) (zK 1)))) (X9 (vk 1))) D [some (.str x),none,none] H:=by
  intro D hD hlast
  refine qP ?_
  dsimp only[tC]
  refine jE ?_
  refine⟨_,rfl,x,rfl,?_⟩
  refine Vk (a:=x) (λi σ G=>G=H/\∃z2,σ=[some (.str x),some (.int ((digitsVal (x.cps.toList.take i):Nat):Int)),z2]/\∀c∈x.cps.toList.take i,48<=c/\c<=57) ⟨rfl,none,rfl,λc m=>by simp at m⟩ ?_ ?_
  ·rintro i c σ G hc ⟨rfl,z2,rfl,hd⟩
   have hi:=(List.getElem?_eq_some_iff.mp hc).1
   dsimp only[zK]
   refine⟨_,rfl,_,_,rfl,rfl,_,rfl,?_⟩
   rw[Qn]
   cases hdc:qD c
   ·refine zT ?_
    show D.rt .non G
    rw[hD]
    refine no ?_
    unfold x5
    have:x.cps.toList.all qD=false:=by
     cases hA:x.cps.toList.all qD
     ·rfl
     ·rw[List.all_eq_true.mp hA c (List.mem_of_getElem? hc)]at hdc;cases hdc
    rw[this,Bool.and_false];rfl
   ·refine zM ?_
    refine zH ?_
    obtain⟨rest,eo⟩:=sidx hdc
    have hv:=Vd _ hd
    have hv2:digitsVal (x.cps.toList.take i)<10^300:=Nat.lt_of_lt_of_le hv (Nat.pow_le_pow_right (by decide) (by rw[List.length_take];omega))
    have bv:Bd 1000000 ((digitsVal (x.cps.toList.take i):Nat):Int):=by
     have h3:(10:Nat)^300<2^1000:=by decide
     exact Bd.mono (m:=1000) (show ((digitsVal (x.cps.toList.take i):Nat):Int).natAbs<2^1000 by omega) (by decide)
    refine⟨_,rfl,_,_,rfl,rfl,⟨bv,Bd.mono (m:=5) (show (10:Int).natAbs<2^5 by decide) (by decide)⟩,?_⟩
    refine⟨rfl,_,rfl,_,_,_,_,rfl,rfl,eo,_,_,rfl,rfl,?_⟩
    dsimp only[zK]
    refine⟨rfl,some (.str ⟨#[c]⟩),?_,λd m=>?_⟩
    ·rw[Va hc]
     show [some (V.str x),some (V.int (((digitsVal (x.cps.toList.take i):Nat):Int)*10+((c - 48:Nat):Int))),_]=_
     rw[Int.natCast_add,Int.natCast_mul];rfl
    ·rw[List.take_add_one,hc]at m
     rcases List.mem_append.mp m with m | m
     ·exact hd d m
     ·cases List.mem_singleton.mp m
      unfold qD at hdc
      simp only[Bool.and_eq_true,decide_eq_true_eq]at hdc
      exact hdc
  ·rintro σ G ⟨rfl,z2,rfl,hd⟩
   rw[List.take_of_length_le (Nat.le_refl _)]at hd ⊢
   refine⟨_,rfl,?_⟩
   show D.rt _ G
   rw[hD]
   have e:rdN x=some ((digitsVal x.cps.toList:Nat):Int):=by
    unfold rdN x5
    rw[hxl,decide_eq_true h1,decide_eq_true c2,List.all_eq_true.mpr λc m=>by unfold qD;rw[decide_eq_true (hd c m).1,decide_eq_true (hd c m).2];rfl,hlast];rfl
   rw[e]at k;exact k
 by_cases c3:c0=48
 ·rw[decide_eq_true c3]
  refine zT ⟨_,rfl,rfl,_,rfl,?_⟩
  rw[qv]
  by_cases c4:x.cps.toList=[48]
  ·rw[decide_eq_true ((vd x).mpr c4)]
   refine zM ?_
   refine zH ?_
   exact loop _ rfl (by rw[decide_eq_true c4];rfl)
  ·rw[decide_eq_false (λz=>c4 ((vd x).mp z))]
   refine zT (no ?_)
   unfold x5;rw[decide_eq_false c4,hh,c3];simp
 ·rw[decide_eq_false c3]
  refine zM (zM ?_)
  refine zH ?_
  exact loop _ rfl (by rw[hh,decide_eq_false (λz=>c3 (Option.some.inj z))];simp)
def ORI (H:Hp) (v:V):Option (Int×Int)->Prop
 | none=>v = .non
 | some r=>RI H v r
def dsh (a:Str):Int:=if a.cps.toList.head? = some 45 then 1 else 0
def Z4 (a:Str):Option Int:=rdN (TX (a.cps.toList.drop (dsh a).toNat))
theorem zag (a:Str):rdW a=match Z4 a with | none=>none | some n=>if dsh a=1/\n=0 then none else some (if dsh a=1 then -n else n):=by
 unfold rdW Z4 dsh
 by_cases h:a.cps.toList.head? = some 45
 ·rw[if_pos h,if_pos h]
  show _=match rdN (TX (a.cps.toList.drop 1))with | none=>none | some n=>_
  cases rdN (TX (a.cps.toList.drop 1))with
  | none=>rfl
  | some n=>by_cases z:n=0 <;> simp[z]
 ·rw[if_neg h,if_neg h]
  show _=match rdN (TX (a.cps.toList.drop 0))with | none=>none | some n=>_
  rw[List.drop_zero,vJ]
  cases rdN a with
  | none=>rfl
  | some n=>simp
theorem za4:Str.ofString "/" = TX [47]:=by decide +kernel
theorem QO {x a:Str}(h:Txt.split x (TX [47])=[a]):rdR x=(rdW a).map λt=>(t,1):=by
 have:a=x:=Zj h
 unfold rdR;rw[h,this]
theorem Xx {x a b:Str}(h:Txt.split x (TX [47])=[a,b]):rdR x=(rdW a).bind λt=>(rdN b).bind λu=>if decide (u=1)=false/\xQ t u=true then some (t,u)else none:=by
 unfold rdR;rw[h]
 show (match rdW a,rdN b with | some t,some u=>_ | _,_=>none)=_
 cases rdW a with
 | none=>rfl
 | some t=>cases rdN b <;> rfl
theorem Jf {x a b c:Str}{r:List Str}(h:Txt.split x (TX [47])=a::b::c::r):rdR x=none:=by unfold rdR;rw[h]
def zbb:Sp:=λvs H Q _=>∃x,vs=[.str x]/\x.length<=10000/\∀v H',zo H H'->ORI H' v (rdR x)->Q v H'
theorem qH:zC ["text","parts","dash","top","bottom"] ["text"] (zk qh):=⟨rfl,rfl,rfl,by decide +kernel,rfl,by decide +kernel,by decide +kernel⟩
theorem Vn (a:Str):decide (V.str (Txt.slice a none (some 1))=V.str (Str.ofString "-"))=decide (a.cps.toList.head? = some 45):=by
 have:=Z0 a 1
 rw[show Txt.slice a none (some 1)=TX (a.cps.toList.take 1)from this,qv,show Str.ofString "-" = TX [45] by decide +kernel]
 cases hl:a.cps.toList with
 | nil=>rfl
 | cons c r =>
  by_cases z:c=45
  ·subst z;rw[decide_eq_true (show TX (List.take 1 (45::r))=TX [45]from rfl),decide_eq_true (show (45::r).head? = some 45 from rfl)]
  ·rw[decide_eq_false (λq=>z (by have:=Z7 q;simpa using this)),decide_eq_false (λq=>z (by simpa using q))]
theorem Za {t n u:Int}(hn:0<=n) (ht:t.natAbs=n.natAbs):(decide (u=1)=false/\xQ t u=true)↔¬(u<2)/\Int.gcd n u=1:=by
 unfold xQ
 have e:(t.natAbs:Int)=n:=by omega
 rw[e]
 simp only[Bool.and_eq_true,decide_eq_true_eq,decide_eq_false_iff_not]
 constructor
 ·rintro ⟨h1,h2,h3⟩;exact⟨by omega,h3⟩
 ·rintro ⟨h1,h2⟩;exact⟨by omega,by omega,h2⟩
theorem QA (D:Df K mg "_law_read" qh ["text"] []) (T:TxB K mg) (cVa:Cal P w K mg base "_law_value" 1 ["text"] [] zbm) (cG:Cal P w K mg base "_law_common" 1 ["one","other"] [] ZD):Cal P w K mg base "_law_read" 2 ["text"] [] zbb:=by
 refine D.cal (k:=1) qH (λvs H Q E h=>by obtain⟨_,rfl,_⟩:=h;rfl) (λf cdv A outer s H vs Q E hr h=>?_)
 obtain⟨x,rfl,hx,k⟩:=h
 refine⟨_,(zj (zz (i:=1) qH.nd rfl (Or.inl rfl) (qF PySem.F.plainAttrs_str PySem.F.slot_str_split PySem.F.type_str_split vt (pv 0) (zd zq zf)))
  (zj (zz (i:=2) qH.nd rfl (Or.inl rfl) (x9 vP (by rfl) T.nInt PyProof.Rows.boot_int (zd (xt xU (qV jB (zB zO (pv 1) ze (λ_ _=>rfl)) vA (vB ze)) zq (zy _)) zf)))
  (zj (zz (i:=3) qH.nd rfl (Or.inl rfl) (zI cVa hr (zd (qV jB (zB zO (pv 1) ze (λ_ _=>rfl)) (vB (pv 2)) vA) zf)))
  (zj (zz (i:=4) qH.nd rfl (Or.inl rfl) ze)
  (zj (zQ (zr xU (zP z9 (by rfl) T.nLen PySem.boot_len (zd (pv 1) zf)) ze (zy _)) (zm (zz (i:=4) qH.nd rfl (Or.inl rfl) (zI cVa hr (zd (zB zO (pv 1) ze (λ_ _=>rfl)) zf)))) zF)
  (zj (zQ ((qW (zr vR (pv 3) zU (zy _)) (qW (zr vR (pv 4) zU (zy _)) (qW (zr vx (zP z9 (by rfl) T.nLen PySem.boot_len (zd (pv 1) zf)) ze (zy _)) (vj ((qx (zr xU (pv 2) ze (zy _)) (qm (zr xU (pv 3) ze (zy _))))).pt))))).pt (zm (zx zU)) zF)
  (zj (zQ ((qx (zr xU (zP z9 (by rfl) T.nLen PySem.boot_len (zd (pv 1) zf)) ze (zy _)) (qm ((qW (zr v3 (pv 4) ze (zy _)) (vj (zr vf (zI cG hr (zd (pv 3) (zd (pv 4) zf))) ze (zy _))))).pt))).pt (zm (zx zU)) zF)
  (zm (zx (xz (zd (zD xB (pv 3) (zB zO (xF (zd ze (zd (v4 va ze) zf))) (pv 2) (λ_ _=>rfl))) (zd (pv 4) zf)))))))))))),?_⟩
 refine⟨_,rfl,rfl,x,_,rfl,rfl,by decide +kernel,qB hx,λl hl=>?_⟩
 dsimp only[zK]
 rw[za4]
 obtain⟨a,r,es⟩:=ZF x (TX [47])
 have sl:zo H (upd H l (.lst ((Txt.split x (TX [47])).map V.str))):=zo.upd hl
 have hG:upd H l (.lst ((Txt.split x (TX [47])).map V.str)) l=some (.lst ((Txt.split x (TX [47])).map V.str)):=zn
 generalize upd H l (.lst ((Txt.split x (TX [47])).map V.str))=G at sl hG
 have la:a.length<=10000:=Nat.le_trans (xy (y:=TX [47]) (by rw[es];simp)) hx
 have za:a.length<=sizeLine:=by have:=qB la;omega
 have at0':atI ((Txt.split x (TX [47])).map V.str) 0=some (.str a):=by rw[es];exact vn (j:=0) rfl
 refine⟨_,rfl,l,_,_,_,rfl,rfl,.of hG,at0',_,rfl,a,rfl,za,rfl,.inr ⟨_,rfl,?_⟩⟩
 rw[Vn]
 have ed:(if decide (a.cps.toList.head? = some 45)=true then(1:Int)else 0)=dsh a:=by
  unfold dsh
  by_cases z:a.cps.toList.head? = some 45
  ·rw[decide_eq_true z,if_pos rfl,if_pos z]
  ·rw[decide_eq_false z,if_neg (by decide),if_neg z]
 rw[ed]
 dsimp only[zK]
 have d01:dsh a=0\/dsh a=1:=by unfold dsh;split;exact .inr rfl;exact .inl rfl
 refine⟨_,rfl,l,_,_,_,rfl,rfl,.of hG,at0',_,rfl,_,rfl,a,rfl,za,?_⟩
 have esl:Txt.slice a (some (dsh a)) none=TX (a.cps.toList.drop (dsh a).toNat):=by
  have:=jC a (dsh a).toNat
  rw[show (((dsh a).toNat:Nat):Int)=dsh a by omega]at this;exact this
 rw[esl]
 refine⟨_,rfl,by rw[zE,List.length_drop];have:a.cps.toList.length=a.length:=by simp[Str.length]
                 omega,?_⟩
 dsimp only[zK]
 refine qP ?_
 dsimp only[tC]
 have eT:rdN (TX (a.cps.toList.drop (dsh a).toNat))=Z4 a:=rfl
 rw[eT]
 have eW:=zag a
 refine qZ (λσ' G'=>G'=G/\∃o2:Option Int,σ'=[some (.str x),some (.ref l),some (.int (dsh a)),some (oV (Z4 a)),some (oV o2)]/\(∀b,r=[b]->o2=rdN b)/\(r.length≠1->o2=some 1)) ?_ ?_
 ·rintro σ' G' ⟨rfl,o2,rfl,ho1,ho2⟩
  have hlen:(((Txt.split x (TX [47])).map V.str).length:Int)=1+(r.length:Int):=by rw[List.length_map,es,List.length_cons];omega
  have fin:rdR x=none->Q .non G':=λe=>k .non G' sl (by rw[e];rfl)
  have wn:Z4 a=none->rdR x=none:=λh=>by
   rw[h]at eW
   match r,es with
   | [],es=>rw[QO es,eW];rfl
   | [b],es=>rw[Xx es,eW];rfl
   | b::c::r,es=>exact Jf es
  refine qZ (λσ'' G''=>G''=G'/\∃n u:Int,Z4 a=some n/\o2=some u/\σ''=[some (.str x),some (.ref l),some (.int (dsh a)),some (.int n),some (.int u)]/\r.length<=1/\¬(dsh a=1/\n=0)) ?_ ?_
  ·rintro σ'' G'' ⟨rfl,n,u,ht,ho,rfl,hr1,hz0⟩
   rw[ht]at eW
   have eW:rdW a=some (if dsh a=1 then -n else n):=eW.trans (if_neg hz0)
   obtain⟨hn0,hnb⟩:=ju ht
   have out:rdR x=some (if dsh a=1 then -n else n,u)->X9 (zay (q0 (tOp (rI Qb λi j=>.int (i*j)) (vk 3) (tOp (zaZ K) (zav (q0 (tC (.int 1)) (q0 (tUn (rU λi=>.int (-i)) (tC (.int 1))) ZJ))) (vk 2))) (q0 (vk 4) ZJ))) { nx:=λ_ H'=>Q .non H',rt:=Q } [some (.str x),some (.ref l),some (.int (dsh a)),some (.int n),some (.int u)] G'':=λe=>by
    refine⟨_,rfl,_,rfl,by show 2<=sizeLine;decide,λl2 hl2=>?_⟩
    have s2:=zo.upd (o:=.lst [.int 1,.int (-1)]) hl2
    have em:∃m:Int,atI [V.int 1,.int (-1)] (dsh a)=some (.int m)/\n*m=(if dsh a=1 then -n else n)/\Bd 1000000 m:=by
     rcases d01 with z | z <;> rw[z]
     ·exact⟨1,rfl,by rw[if_neg (by decide),Int.mul_one],Bd.mono (m:=1) (show (1:Int).natAbs<2^1 by decide) (by decide)⟩
     ·exact⟨-1,rfl,by rw[if_pos rfl,Int.mul_neg,Int.mul_one],Bd.mono (m:=1) (show (-1:Int).natAbs<2^1 by decide) (by decide)⟩
    obtain⟨m,em,en,bm⟩:=em
    refine⟨_,rfl,l2,_,_,_,rfl,rfl,.of zn,em,_,_,rfl,rfl,⟨hnb.mono (by decide),bm⟩,_,rfl,by show 2<=sizeLine;decide,λt ht'=>?_⟩
    refine k _ _ ((sl.trans s2).trans (zo.upd ht')) ?_
    rw[e]
    refine⟨t,rfl,?_⟩
    rw[zn,<-en]
   refine⟨_,rfl,l,_,rfl,.inl (.of hG),rfl,_,rfl,?_⟩
   rw[hlen,xq]
   match r,es,hr1,ho1,ho2 with
   | [],es,_,_,ho2 =>
    have hu1:u=1:=by have:=ho2 (by simp);rw[ho]at this;injection this
    rw[decide_eq_false (by simp)]
    refine zM (zM ?_)
    refine zH ?_
    subst hu1
    exact out (by rw[QO es,eW];rfl)
   | [b],es,_,ho1,_ =>
    have eb:rdN b=some u:=(ho1 b rfl).symm.trans ho
    have hub:=ju eb
    rw[decide_eq_true (by simp)]
    refine zT ?_
    have eR:rdR x=if decide (u=1)=false/\xQ (if dsh a=1 then -n else n) u=true then some (if dsh a=1 then -n else n,u)else none:=by rw[Xx es,eW,eb];rfl
    have hab:(if dsh a=1 then -n else n).natAbs=n.natAbs:=by split <;> omega
    refine⟨_,rfl,_,_,rfl,rfl,_,rfl,?_⟩
    by_cases c2:u<2
    ·rw[decide_eq_true c2]
     refine zT (zT (fin ?_))
     rw[eR,if_neg]
     intro z
     exact((Za hn0 hab).mp z).1 c2
    ·rw[decide_eq_false c2]
     refine zM ⟨_,rfl,_,rfl,n,u,rfl,hn0,hub.1,rfl,_,rfl,?_⟩
     rw[xq]
     by_cases cg:Int.gcd n u=1
     ·rw[decide_eq_true (show ((Int.gcd n u:Nat):Int)=1 by omega)]
      refine zM ?_
      refine zH ?_
      exact out (by rw[eR,if_pos ((Za hn0 hab).mpr ⟨c2,cg⟩)])
     ·rw[decide_eq_false (show ¬((Int.gcd n u:Nat):Int)=1 by omega)]
      refine zT (fin ?_)
      rw[eR,if_neg]
      intro z
      exact cg ((Za hn0 hab).mp z).2
  ·intro nx hnx
   cases ht:Z4 a with
   | none=>exact⟨_,rfl,rfl,_,rfl,zT (zT (fin (wn ht)))⟩
   | some n =>
    rw[ht]at eW
    refine⟨_,rfl,rfl,_,rfl,zM ?_⟩
    cases ho:o2 with
    | none =>
     have:∃b,r=[b]:=by
      match r,ho2 with
      | [],h=>rw[h (by simp)]at ho;cases ho
      | [b],_=>exact⟨b,rfl⟩
      | b::c::r,h=>rw[h (by simp)]at ho;cases ho
     obtain⟨b,rfl⟩:=this
     have e2:=ho1 b rfl
     refine⟨_,rfl,rfl,_,rfl,zT (zT (fin ?_))⟩
     rw[Xx es,<-e2,ho]
     cases rdW a <;> rfl
    | some u =>
     refine⟨_,rfl,rfl,_,rfl,zM ?_⟩
     refine⟨_,rfl,l,_,rfl,.inl (.of hG),_,_,rfl,rfl,_,rfl,?_⟩
     rw[hlen]
     by_cases c3:2<=r.length
     ·rw[decide_eq_true (show (2:Int)<1+(r.length:Int) by omega)]
      refine zT (zT (fin ?_))
      match r,es,c3 with
      | b::c::r,es,_=>exact Jf es
     rw[decide_eq_false (show ¬(2:Int)<1+(r.length:Int) by omega)]
     refine zM ?_
     have eW:rdW a=if dsh a=1/\n=0 then none else some (if dsh a=1 then -n else n):=eW
     have wz:dsh a=1/\n=0->rdR x=none:=λh=>by
      rw[if_pos h]at eW
      match r,es,c3 with
      | [],es,_=>rw[QO es,eW];rfl
      | [b],es,_=>rw[Xx es,eW];rfl
      | b::c::r,_,c3=>simp at c3
     refine⟨_,rfl,rfl,_,rfl,?_⟩
     rw[xq]
     by_cases cd:dsh a=1
     ·rw[decide_eq_true cd]
      refine zT ⟨_,rfl,rfl,_,rfl,?_⟩
      rw[show oV (some n)=V.int n from rfl,xq]
      by_cases cn:n=0
      ·rw[decide_eq_true cn];exact zT (fin (wz ⟨cd,cn⟩))
      ·rw[decide_eq_false cn];exact zM (hnx _ _ ⟨rfl,n,u,ht,ho,rfl,by omega,λz=>cn z.2⟩)
     ·rw[decide_eq_false cd]
      exact zM (zM (hnx _ _ ⟨rfl,n,u,ht,ho,rfl,by omega,λz=>cd z.1⟩))
 ·intro nx hnx
  have hlen:(((Txt.split x (TX [47])).map V.str).length:Int)=1+(r.length:Int):=by rw[List.length_map,es,List.length_cons];omega
  refine⟨_,rfl,l,_,rfl,.inl (.of hG),rfl,_,rfl,?_⟩
  rw[hlen,xq]
  by_cases c:r.length=1
  ·obtain⟨b,rfl⟩:=Vq c
   rw[decide_eq_true (by simp)]
   have lb:b.length<=10000:=Nat.le_trans (xy (y:=TX [47]) (by rw[es];simp)) hx
   refine zT ⟨_,rfl,l,_,_,_,rfl,rfl,.of hG,(by rw[es];exact vn (j:=1) rfl),b,rfl,lb,?_⟩
   exact hnx _ _ ⟨rfl,rdN b,rfl,λb' e=>by cases e;rfl,λz=>absurd rfl z⟩
  ·rw[decide_eq_false (show ¬(1+(r.length:Int))=2 by omega)]
   exact zM (hnx _ _ ⟨rfl,some 1,rfl,λb e=>absurd (by rw[e];rfl) c,λ_=>rfl⟩)
end
end KK
end
section
set_option maxHeartbeats 8000000
set_option Elab.async false
set_option linter.all false
set_option maxRecDepth 100000
namespace KK
open PySem L2 KM PySem.NumText
theorem jh {α:Type}{xs:List α}{d:Int}(h0:0<=d) (h1:d<(xs.length:Int)):∃v,atI xs d=some v/\v∈xs:=by
 have hl:d.toNat<xs.length:=by omega
 refine⟨xs[d.toNat],?_,List.getElem_mem _⟩
 have:=vn (List.getElem?_eq_getElem hl)
 rw[show ((d.toNat:Nat):Int)=d by omega]at this;exact this
theorem ZE (x y:Str):(Txt.split x y).length<=x.length+2:=by
 unfold Txt.split
 split
 ·simp
 ·split
  ·simp
  ·have:=StrLaws.occ_length_le x y 0 x.length (x.length+1)
   unfold Builtin.Str.partsBetween
   simp only[List.length_map,List.length_zip,List.length_cons,List.length_append,List.length_nil]
   omega
theorem zaG (a b:PyData):([a,b].any λc=>PyData.eqv c .none)=(PyData.eqv a .none || PyData.eqv b .none):=by simp
theorem vU {x p:Str}(m:p∈Txt.split x (TX [32,124,32])) (h:xA p=none):xP x=none:=by
 unfold xP
 split
 ·rename_i a b e
  rw[e]at m
  rcases List.mem_cons.mp m with rfl | m
  ·rw[h]
  ·cases List.mem_singleton.mp m
   rw[h]
   split
   ·rename_i h1 h2;cases h2
   ·rfl
 ·rfl
def rD (r:Int×Int):PyData:=.tuple [.int r.1,.int r.2]
def wD:Wx->PyData
 | none=>.none
 | some u=>.tuple [rD u.1,rD u.2]
theorem RI.rd {H:Hp}{v:V}{r:Int×Int}(h:RI H v r):RdD H v (rD r):=by obtain⟨p,rfl,e⟩:=h;exact .tup e (.cons (.int _) (.cons (.int _) .nil))
theorem WI.rd {H:Hp}{v:V}{u:Wx}(h:WI H v u):RdD H v (wD u):=by
 cases u with
 | none=>cases(show v = .non from h);exact .non
 | some u=>obtain⟨p,a,b,rfl,e,h1,h2⟩:=h;exact .tup e (.cons h1.rd (.cons h2.rd .nil))
theorem Vf (u:Wx):(wD u).canLay0=true:=by cases u <;> rfl
theorem XI (u:Wx):PyData.eqv (wD u) .none=u.isNone:=by cases u <;> rfl
def oD:Option (Int×Int)->PyData
 | none=>.none
 | some r=>rD r
theorem ORI.rd {H:Hp}{v:V}{o:Option (Int×Int)} (h:ORI H v o):RdD H v (oD o):=by
 cases o with
 | none=>cases(show v = .non from h);exact .non
 | some r=>exact RI.rd h
theorem Qx (o:Option (Int×Int)):(oD o).canLay0=true:=by cases o <;> rfl
theorem Xl (o:Option (Int×Int)):PyData.eqv (oD o) .none=o.isNone:=by cases o <;> rfl
theorem ORI.tups {H H':Hp}{v:V}{o:Option (Int×Int)} (h:ORI H v o) (e:xE H H'):ORI H' v o:=by
 cases o with
 | none=>exact h
 | some r=>exact RI.tups h e
section
variable {P:Program}{w:World}{K:PySem.W.Frag}{mg:Str->Option Value}{base:Heap}
def za6:Sp:=λvs H Q _=>∃x p,vs=[.str x,.ref p]/\x.length<=4000/\qL H p/\∀y H',xD p H H'->y.length<=9000->Q (.str y) H'
theorem jy:zC ["text","pool","at","sign"] ["text","pool"] (zk qe):=⟨rfl,rfl,rfl,by decide +kernel,rfl,by decide +kernel,by decide +kernel⟩
theorem Qz (D:Df K mg "_law_bent" qe ["text","pool"] []) (T:TxB K mg) (cN:Cal P w K mg base "_law_next" 1 ["pool","base"] [] qY):Cal P w K mg base "_law_bent" 2 ["text","pool"] [] za6:=by
 refine D.cal (k:=1) jy (λvs H Q E h=>by obtain⟨_,_,rfl,_⟩:=h;rfl) (λf cdv A outer s H vs Q E hr h=>?_)
 obtain⟨x,p,rfl,hx,hP,k⟩:=h
 have hz:x.length<=sizeLine:=by rw[sizeLine_eq];omega
 refine⟨_,(zj (zz (i:=2) jy.nd rfl (Or.inl rfl) (zI cN hr (zd (pv 1) (zd (zD x8 (zP qM (by rfl) T.nLen PySem.boot_len (zd (pv 0) zf)) ze) zf))))
  (zj (zz (i:=3) jy.nd rfl (Or.inl rfl) (zB ZO zq (zI cN hr (zd (pv 1) (zd ze zf))) (λ_ _=>rfl)))
  (zm (zx (zD zL (zD zL (qV jB (pv 0) vA (vB (pv 2))) (zB zO (xF (zd zq (zd (pv 3) (zd (pv 3) zf)))) (zI cN hr (zd (pv 1) (zd ze zf))) (λ_ _=>rfl))) (qV jB (pv 0) (vB (zD x8 (pv 2) (zI cN hr (zd (pv 1) (zd ze zf))))) vA)))))),?_⟩
 refine⟨_,rfl,_,rfl,x,rfl,hz,_,_,rfl,rfl,p,_,rfl,by omega,by omega,hP,λd1 G1 a1 b1 t1=>?_⟩
 dsimp only[zK]
 refine⟨_,rfl,p,_,rfl,by decide,by decide,t1.pool,λd2 G2 a2 b2 t2=>?_⟩
 have e21:(Str.ofString "0123456789-/ ;|+._a\t\n").cps.toList.length=21:=by decide +kernel
 obtain⟨c,ec,_⟩:=jh (xs:=(Str.ofString "0123456789-/ ;|+._a\t\n").cps.toList) a2 (by rw[e21];exact b2)
 refine⟨_,_,c,rfl,rfl,szl (by decide +kernel),ec,?_⟩
 dsimp only[zK]
 have T2:=t1.trans t2
 refine⟨_,rfl,_,rfl,_,rfl,x,rfl,hz,?_⟩
 have l1:=Txt.slice_le x none (some d1)
 refine⟨_,rfl,_,rfl,by show 3<=sizeLine;decide,λl hl=>?_⟩
 refine⟨_,rfl,p,_,rfl,by decide,by decide,T2.pool.new hl,λd3 G3 a3 b3 t3=>?_⟩
 obtain⟨v,ev,mv⟩:=jh (xs:=[V.str (Str.ofString ""),.str ⟨#[c]⟩,.str ⟨#[c]⟩]) a3 b3
 obtain⟨g,rfl,hg⟩:∃g:Str,v = .str g/\g.length<=1:=by
  simp only[List.mem_cons,List.not_mem_nil,or_false]at mv
  rcases mv with rfl | rfl | rfl
  ·exact⟨_,rfl,by decide +kernel⟩
  ·exact⟨_,rfl,Nat.le_refl _⟩
  ·exact⟨_,rfl,Nat.le_refl _⟩
 refine⟨l,_,_,_,rfl,rfl,.of (t3.keep l _ zn (T2.pool.ne hl)),ev,_,_,rfl,rfl,by rw[sizeLine_eq];omega,?_⟩
 have T3:xD p H G3:=(T2.same (zo.upd hl)).trans t3
 refine⟨_,rfl,_,rfl,_,rfl,p,_,rfl,by decide,by decide,T3.pool,λd4 G4 a4 b4 t4=>⟨_,_,rfl,rfl,_,rfl,x,rfl,hz,?_⟩⟩
 have l2:=Txt.slice_le x (some (d1+d4)) none
 have e1:(Txt.slice x none (some d1)++g).length=(Txt.slice x none (some d1)).length+g.length:=zW _ _
 refine⟨_,_,rfl,rfl,by rw[e1,sizeLine_eq];omega,k _ G4 (T3.trans t4) ?_⟩
 rw[zW,e1];omega
def zbf:Sp:=λvs H Q _=>∃x,vs=[.str x]/\x.length<=10000/\∀o H',zo H H'->(match xP x with | none=>o = .non | some uv=>∃a,o = .ref a/\WsI H' a uv.1 uv.2)->Q o H'
theorem vY:zC ["text","found","part","words","wall"] ["text"] (zk xc):=⟨rfl,rfl,rfl,by decide +kernel,rfl,by decide +kernel,by decide +kernel⟩
theorem J4 (D:Df K mg "_law_read_bounds" xc ["text"] []) (T:TxB K mg) (cRd:Cal P w K mg base "_law_read" 2 ["text"] [] zbb) (cBl:Cal P w K mg base "_law_below" 1 ["one","other"] [] zao):Cal P w K mg base "_law_read_bounds" 3 ["text"] [] zbf:=by
 refine D.cal (k:=2) vY (λvs H Q E h=>by obtain⟨_,rfl,_⟩:=h;rfl) (λf cdv A outer s H vs Q E hr h=>?_)
 obtain⟨x,rfl,hx,k⟩:=h
 have hr1:xk 1 _:=hr.mono (by decide)
 have hu:=hr.units
 refine⟨_,(zj (zz (i:=1) vY.nd rfl (Or.inl rfl) (xF zf))
  (zj (jr PassesOwn.never rfl (Xq (qF PySem.F.plainAttrs_str PySem.F.slot_str_split PySem.F.type_str_split vt (pv 0) (zd zq zf))) (xp (i:=2) vY.nd rfl (Or.inl rfl)) (zj (zz (i:=3) vY.nd rfl (Or.inl rfl) (qF PySem.F.plainAttrs_str PySem.F.slot_str_split PySem.F.type_str_split vt (pv 2) (zd zq zf)))
  (zj (zz (i:=4) vY.nd rfl (Or.inl rfl) zU)
  (zj (zQ (zr vf (pv 2) zq (zy _)) (zj (zQ (zr vf (zP z9 (by rfl) T.nLen PySem.boot_len (zd (pv 3) zf)) ze (zy _)) (zm (zx zU)) zF)
  (zj (zz (i:=4) vY.nd rfl (Or.inl rfl) (xz (zd (zI cRd hr (zd (zB zO (pv 3) ze (λ_ _=>rfl)) zf)) (zd (zI cRd hr (zd (zB zO (pv 3) ze (λ_ _=>rfl)) zf)) zf))))
  (zm (zQ (zr (VL hu) zU (pv 4) rfl) (zm (zx zU)) zF)))) zF)
  (zm (vC (qF PySem.F.plainAttrs_list PySem.F.slot_list_append PySem.F.type_list_append qE (pv 1) (zd (pv 4) zf))))))))
  (zj (zQ (zr vf (zP z9 (by rfl) T.nLen PySem.boot_len (zd (pv 1) zf)) ze (zy _)) (zm (zx zU)) zF)
  (zj (zQ (qx (zr (VM hu) zU (pv 1) rfl) (qm (xT (xi (zI cBl hr1 (zd (zB zG (zB zO (pv 1) ze (λ_ _=>rfl)) ze (λ_ _=>rfl)) (zd (zB zG (zB zO (pv 1) ze (λ_ _=>rfl)) ze (λ_ _=>rfl)) zf))) λ_=>rfl)))).pt (zm (zx zU)) zF)
  (zm (zx (x9 ve (by rfl) T.nTuple PyProof.Rows.boot_tuple (zd (pv 1) zf)))))))),?_⟩
 refine⟨by show 0<=sizeLine;exact Nat.zero_le _,λlf hlf=>?_⟩
 dsimp only[zK]
 refine jE ?_
 have eB:Str.ofString " | " = TX [32,124,32]:=by decide +kernel
 refine⟨_,rfl,rfl,x,_,rfl,rfl,by decide +kernel,qB hx,λls hls=>?_⟩
 rw[eB]
 obtain⟨ps,eps⟩:∃ps,ps=Txt.split x (TX [32,124,32]):=⟨_,rfl⟩
 have hpl:∀p∈ps,p.length<=10000:=λp m=>Nat.le_trans (xy (y:=TX [32,124,32]) (by rw[<-eps];exact m)) hx
 rw[<-eps]
 have nfs:lf≠ls:=λz=>by rw[<-z,zn]at hls;cases hls
 have hlsH:H ls=none:=by rw[zZ (Ne.symm nfs)]at hls;exact hls
 have fin:∀G,zo H G->xP x=none->Q .non G:=λG s e=>k .non G s (by rw[e])
 refine⟨ls,rfl,⟨_,SqL.of zn⟩,?_⟩
 refine Zs (xs:=ps.map V.str) (λi σ G=>∃(z2 z3 z4:Option V) (vs:List V) (us:List Wx),σ=[some (.str x),some (.ref lf),z2,z3,z4]/\zo H G/\G ls=some (.lst (ps.map V.str))/\G lf=some (.lst vs)/\vs.length=i/\(ps.take i).map xA=us.map some/\∀(j:Nat) (v:V),vs[j]? = some v->∃u,us[j]? = some u/\WI G v u)
  ⟨none,none,none,[],[],rfl,(zo.upd hlf).trans (zo.upd hls),zn,by rw[zZ nfs];exact zn,rfl,rfl,λj v e=>by simp at e⟩ (λi σ G _ ⟨_,_,_,_,_,_,_,h,_⟩=>SqL.of h) ?_ ?_
 ·rintro i z σ G hz ⟨z2,z3,z4,vs,us,rfl,sG,hls',hlf',hvl,hus,hW⟩
  rw[List.getElem?_map]at hz
  obtain⟨p,ep,rfl⟩:=Option.map_eq_some_iff.mp hz
  have mp:p∈ps:=List.mem_of_getElem? ep
  have lp:=hpl p mp
  have hips:i<ps.length:=(List.getElem?_eq_some_iff.mp ep).1
  dsimp only[zK]
  refine⟨_,rfl,rfl,p,_,rfl,rfl,by decide +kernel,qB lp,λlw hlw=>?_⟩
  rw[show Str.ofString " " = TX [32] by decide +kernel]
  have s1:zo G (upd G lw (.lst ((Txt.split p (TX [32])).map V.str))):=zo.upd hlw
  have hw1:upd G lw (.lst ((Txt.split p (TX [32])).map V.str)) lw=some (.lst ((Txt.split p (TX [32])).map V.str)):=zn
  dsimp only[zK]
  generalize upd G lw (.lst ((Txt.split p (TX [32])).map V.str))=G1 at s1 hw1
  refine qP ?_
  dsimp only[tC]
  have s01:=sG.trans s1
  refine qZ (λσ' G'=>∃v u,σ'=[some (.str x),some (.ref lf),some (.str p),some (.ref lw),some v]/\zo G1 G'/\xA p=some u/\WI G' v u) ?_ ?_
  ·rintro σ' G2 ⟨v,u,rfl,s2,eu,hv⟩
   have s12:=s1.trans s2
   have hlf2:=s12 _ _ hlf'
   have hlen:=Nat.lt_of_lt_of_le hips (Nat.le_refl _)
   have hps1:ps.length<=10002:=by rw[eps];exact Nat.le_trans (ZE _ _) (by omega)
   refine⟨_,rfl,.inl ⟨rfl,_,SqL.of hlf2⟩,_,rfl,lf,_,_,rfl,rfl,hlf2,by rw[sizeLine_eq,hvl];omega,?_⟩
   have Tu:xE G2 (upd G2 lf (.lst (vs++[v]))):=.upd hlf2
   refine⟨_,_,_,vs++[v],us++[u],rfl,λb o e=>?_,?_,zn,by simp[hvl],?_,λj w ew=>?_⟩
   ·rw[zZ (xh e hlf)];exact s12 _ _ (sG _ _ e)
   ·rw[zZ (Ne.symm nfs)];exact s12 _ _ hls'
   ·rw[List.take_add_one,ep,List.map_append,List.map_append,hus]
    show _++[xA p]=_++[some u]
    rw[eu]
   ·have hul:us.length=vs.length:=by
     have:=congrArg List.length hus
     rw[List.length_map,List.length_map,List.length_take]at this
     omega
    by_cases hj:j<vs.length
    ·rw[List.getElem?_append_left hj]at ew
     obtain⟨u',e1,e2⟩:=hW j w ew
     exact⟨u',by rw[List.getElem?_append_left (by omega)];exact e1,e2.tups ((xE.of s12).trans Tu)⟩
    ·rw[List.getElem?_append_right (by omega)]at ew
     have e0:j - vs.length=0:=by
      rcases Nat.eq_zero_or_pos (j - vs.length)with z | z
      ·exact z
      ·rw[List.getElem?_eq_none (by simp;omega)]at ew;cases ew
     rw[e0]at ew
     cases ew
     exact⟨u,by rw[List.getElem?_append_right (by omega),hul,e0];rfl,hv.tups Tu⟩
  ·intro nx hnx
   refine⟨_,rfl,rfl,_,rfl,?_⟩
   rw[qv,show Str.ofString "-" = TX [45] by decide +kernel]
   by_cases c:p=TX [45]
   ·rw[decide_eq_true c]
    refine zM (hnx _ _ ⟨.non,none,rfl,zo.refl _,by unfold xA;rw[if_pos c],rfl⟩)
   rw[decide_eq_false c]
   refine zT ?_
   have eW:xA p=match Txt.split p (TX [32])with | [a,b]=>(match rdR a,rdR b with | some p,some q=>some (some (p,q)) | _,_=>none) | _=>none:=by unfold xA;rw[if_neg c] <;> rfl
   refine⟨_,rfl,lw,_,rfl,.inl (.of hw1),rfl,_,rfl,?_⟩
   rw[List.length_map,xq]
   by_cases c2:(Txt.split p (TX [32])).length=2
   case neg =>
    rw[decide_eq_false (show ¬((Txt.split p (TX [32])).length:Int)=2 by omega)]
    refine zT (fin G1 s01 (vU (by rw[<-eps];exact mp) ?_))
    rw[eW]
    split
    ·rename_i e;rw[e]at c2;exact absurd rfl c2
    ·rfl
   rw[decide_eq_true (show ((Txt.split p (TX [32])).length:Int)=2 by omega)]
   refine zM ?_
   refine zH ?_
   obtain⟨a,b,eab⟩:∃a b,Txt.split p (TX [32])=[a,b]:=by
    match hs:Txt.split p (TX [32]),c2 with
    | [a,b],_=>exact⟨a,b,rfl⟩
   have la:a.length<=10000:=Nat.le_trans (xy (y:=TX [32]) (by rw[eab];simp)) lp
   have lb:b.length<=10000:=Nat.le_trans (xy (y:=TX [32]) (by rw[eab];simp)) lp
   rw[eab]at hw1 eW
   have eW:xA p=match rdR a,rdR b with | some p,some q=>some (some (p,q)) | _,_=>none:=eW
   refine⟨_,rfl,lw,_,_,_,rfl,rfl,.of hw1,rfl,a,rfl,la,λv1 G2 s2 r1=>?_⟩
   refine⟨_,rfl,lw,_,_,_,rfl,rfl,.of (s2 _ _ hw1),rfl,b,rfl,lb,λv2 G3 s3 r2=>?_⟩
   refine⟨by show 2<=sizeLine;decide,λt ht=>?_⟩
   have s4:=zo.upd (o:=.tup [v1,v2]) ht
   have h4:upd G3 t (.tup [v1,v2]) t=some (.tup [v1,v2]):=zn
   dsimp only[zK]
   generalize upd G3 t (.tup [v1,v2])=G4 at s4 h4
   have r1':=r1.tups ((xE.of s3).trans (.of s4))
   have r2':=r2.tups (.of s4)
   have s14:=(s2.trans s3).trans s4
   refine⟨_,rfl,t,_,[oD (rdR a),oD (rdR b)],rfl,rfl,.of h4,.cons r1'.rd (.cons r2'.rd .nil),λc m=>?_,_,rfl,?_⟩
   ·rcases List.mem_cons.mp m with rfl | m
    ·exact Qx _
    ·cases List.mem_singleton.mp m;exact Qx _
   rw[zaG,Xl,Xl]
   cases ha:rdR a with
   | none =>
    refine zT (fin G4 (s01.trans s14) (vU (by rw[<-eps];exact mp) ?_))
    rw[eW,ha]
   | some q1 =>
    cases hb:rdR b with
    | none =>
     refine zT (fin G4 (s01.trans s14) (vU (by rw[<-eps];exact mp) ?_))
     rw[eW,ha,hb]
    | some q2 =>
     rw[ha]at r1'
     rw[hb]at r2'
     exact zM (hnx _ _ ⟨.ref t,some (q1,q2),rfl,s14,by rw[eW,ha,hb],⟨t,v1,v2,rfl,h4,r1',r2'⟩⟩)
 ·rintro σ G ⟨z2,z3,z4,vs,us,rfl,sG,hls',hlf',hvl,hus,hW⟩
  rw[List.length_map]at hvl
  rw[List.length_map,List.take_of_length_le (Nat.le_refl _)]at hus
  refine⟨_,rfl,lf,_,rfl,.inl (.of hlf'),rfl,_,rfl,?_⟩
  rw[hvl,xq]
  by_cases c2:ps.length=2
  case neg =>
   rw[decide_eq_false (show ¬(ps.length:Int)=2 by omega)]
   exact zT (fin G sG (qX (by rw[<-eps];exact c2)))
  rw[decide_eq_true (show (ps.length:Int)=2 by omega)]
  refine zM ?_
  refine zH ?_
  obtain⟨a,b,rfl⟩:∃a b,ps=[a,b]:=by
   match ps,c2 with
   | [a,b],_=>exact⟨a,b,rfl⟩
  obtain⟨v1,v2,rfl⟩:∃v1 v2,vs=[v1,v2]:=by
   match vs,hvl with
   | [a,b],_=>exact⟨a,b,rfl⟩
  obtain⟨u1,u2,rfl⟩:∃u1 u2,us=[u1,u2]:=by
   have hl:=congrArg List.length hus
   rw[List.length_map,List.length_map]at hl
   match us,hl with
   | [a,b],_=>exact⟨a,b,rfl⟩
  have e1:xA a=some u1:=by injection hus
  have e2:xA b=some u2:=by injection hus with _ h;injection h
  obtain⟨u1',ee,w1⟩:=hW 0 v1 rfl
  cases ee
  obtain⟨u2',ee,w2⟩:=hW 1 v2 rfl
  cases ee
  have eW:xP x=if okW u1 u2=true then some (u1,u2)else none:=by
   unfold xP;rw[<-eps]
   show (match xA a,xA b with | some u,some v=>if okW u v=true then some (u,v)else none | _,_=>none)=_
   rw[e1,e2]
  refine⟨_,rfl,lf,_,[wD u1,wD u2],rfl,rfl,.of hlf',.cons w1.rd (.cons w2.rd .nil),λc m=>?_,_,rfl,?_⟩
  ·rcases List.mem_cons.mp m with rfl | m
   ·exact Vf _
   ·cases List.mem_singleton.mp m;exact Vf _
  rw[zaG,XI,XI]
  have good:okW u1 u2=true->∀D:qS,D.rt=Q->X9 (tCB (λxs H_1 Q=>∃p ys,xs=[V.ref p]/\((SqL K H_1 p ys/\∀(l:Addr),H_1 l=none->Q (V.ref l) (upd H_1 l (HO.tup ys)))\/SqT K H_1 p ys/\Q (V.ref p) H_1)) (q0 (vk 1) ZJ)) D [some (.str x),some (.ref lf),z2,z3,z4] G:=λho D hD=>by
   refine⟨_,rfl,lf,_,rfl,.inl ⟨.of hlf',λr hr=>?_⟩⟩
   rw[hD]
   refine k _ _ (sG.trans (zo.upd hr)) ?_
   rw[eW,if_pos ho]
   exact⟨r,rfl,v1,v2,zn,w1.tups (.of (zo.upd hr)),w2.tups (.of (zo.upd hr))⟩
  cases u1 with
  | none=>exact zM (zM (zH (good (by cases u2 <;> rfl) _ rfl)))
  | some u1 =>
   cases u2 with
   | none=>exact zM (zM (zH (good rfl _ rfl)))
   | some u2 =>
    obtain⟨p1,a1,c1,rfl,h1,r1,_⟩:=w1
    obtain⟨p2,a2,c2,rfl,h2,r2,_⟩:=w2
    have m1:=(jb e1).2
    have m2:=(jb e2).2
    refine zT ⟨_,rfl,lf,_,_,_,rfl,rfl,.of hlf',rfl,p1,_,_,_,rfl,rfl,.of h1,rfl,_,rfl,lf,_,_,_,rfl,rfl,.of hlf',rfl,p2,_,_,_,rfl,rfl,.of h2,rfl,a1,a2,u1.1,u2.1,rfl,r1,r2,m1,m2,_,rfl,?_⟩
    rw[show decide (u1.1.1*u2.1.2<u2.1.1*u1.1.2)=okW (some u1) (some u2)from rfl]
    cases ho:okW (some u1) (some u2)
    ·refine zT (fin G sG ?_)
     rw[eW,ho];rfl
    ·exact zM (zH (good ho _ rfl))
end
end KK
end
section
set_option maxHeartbeats 8000000
set_option Elab.async false
set_option linter.all false
set_option maxRecDepth 100000
namespace L2
open PySem
theorem toK {X:Cx}{K:PySem.W.Frag}{e:Expr}{f:PySem.W.Frag->TE}(hK:X.K=K) (h:PE X e (f X.K)):PE X e (f K):=by subst hK;exact h
end L2
namespace KK
open PySem L2 KM PySem.NumText
theorem isN {o:Option (Wx×Wx)} (h:o.isNone=true):o=none:=by cases o;rfl;cases h
def am1:List Str:=["","-","|"]
def am2:List Str:=[" | ","- |","| -","- | - ","--","1 2 | 1 3","2 0 | 1 0","1 | -","- | 1 2 3","- | 1  2"]
def am3:List Str:=["1 2 | 01 3","x 1 | -","- | 2/4 1","- | 1 -0","0 0 | -1/2 0","- - | -","None | -"]
theorem Jw:∀t∈am1++am2++am3,xP t=none:=by
 have:(am1++am2++am3).all (λt=>(xP t).isNone)=true:=by decide +kernel
 exact λt m=>isN (List.all_eq_true.mp this t m)
theorem Jx:∀t∈am1++am2++am3,t.length<=10000:=by
 have:(am1++am2++am3).all (λt=>decide (t.length<=10000))=true:=by decide +kernel
 exact λt m=>of_decide_eq_true (List.all_eq_true.mp this t m)
theorem Z8 {u v:Wx}(hu:Wz u) (hv:Wz v):(wsL u v).length<=603:=by
 have:=vb hu
 have:=vb hv
 unfold wsL;simp;omega
def Jt (u v:Wx):List Str:=[TX (wsL u v)++Str.ofString " ",Str.ofString " "++TX (wsL u v),TX (wsL u v)++Str.ofString " | -",Txt.replace (TX (wsL u v)) (Str.ofString " | ") (Str.ofString "|"),Txt.replace (TX (wsL u v)) (Str.ofString " | ") (Str.ofString " ; "),Str.ofString "",Str.ofString "-",Str.ofString "|"]
def Ju (u v:Wx):List Str:=[Str.ofString "1 2 | 01 3",Str.ofString "x 1 | -",Str.ofString "- | 2/4 1",Str.ofString "- | 1 -0",TX (wsL u v)++Str.ofString "\n",Str.ofString "0 0 | -1/2 0",Str.ofString "- - | -",Str.ofString "None | -"]
def amL (u v:Wx):List Str:=Jt u v++am2++Ju u v
theorem XB (u v:Wx) (z:List Nat):Txt.replace (TX (wsL u v)) (TX [32,124,32]) (TX z)=TX (wtL u++z++wtL v):=VT (j0:=1) (c:=124) rfl (vv u) (vv v) Zq
theorem Jv {u v:Wx}(hu:Wz u) (hv:Wz v):∀t∈amL u v,xP t=none/\t.length<=10000:=by
 intro t m
 have lw:=Z8 hu hv
 have l1:=vb hu
 have l2:=vb hv
 have c1:∀t∈am1++am2++am3,xP t=none/\t.length<=10000:=λt m=>⟨Jw t m,Jx t m⟩
 have e0:Str.ofString " | " = TX [32,124,32]:=by decide +kernel
 unfold amL at m
 rcases List.mem_append.mp m with m | m
 ·rcases List.mem_append.mp m with m | m
  ·rcases List.mem_cons.mp m with rfl | m
   ·rw[show Str.ofString " " = TX [32] by decide +kernel,xl];exact⟨Jy u v,by rw[zE];simp;omega⟩
   rcases List.mem_cons.mp m with rfl | m
   ·rw[show Str.ofString " " = TX [32] by decide +kernel,xl];exact⟨Jz u v,by rw[zE];simp;omega⟩
   rcases List.mem_cons.mp m with rfl | m
   ·rw[show Str.ofString " | -" = TX [32,124,32,45] by decide +kernel,xl];exact⟨JA u v,by rw[zE];simp;omega⟩
   rcases List.mem_cons.mp m with rfl | m
   ·rw[e0,show Str.ofString "|" = TX [124] by decide +kernel,XB];exact⟨JB u v,by rw[zE];simp;omega⟩
   rcases List.mem_cons.mp m with rfl | m
   ·rw[e0,show Str.ofString " ; " = TX [32,59,32] by decide +kernel,XB];exact⟨JC u v,by rw[zE];simp;omega⟩
   ·exact c1 t (List.mem_append_left _ (List.mem_append_left _ m))
  ·exact c1 t (List.mem_append_left _ (List.mem_append_right _ m))
 ·have:t∈am3\/t=TX (wsL u v)++Str.ofString "\n":=by
   simp only[List.mem_cons,List.not_mem_nil,or_false,am3,Ju]at m ⊢
   rcases m with h | h | h | h | h | h | h | h <;> simp[h]
  rcases this with h | rfl
  ·exact c1 t (List.mem_append_right _ h)
  ·rw[show Str.ofString "\n" = TX [10] by decide +kernel,xl];exact⟨JD u v,by rw[zE];simp;omega⟩
section
variable {P:Program}{w:World}{K:PySem.W.Frag}{mg:Str->Option Value}{base:Heap}{C:Addr}
def za5:Sp:=λvs H Q _=>∃a p u v,vs=[.ref a,.ref p]/\WsI H a u v/\Wz u/\Wz v/\qL H p/\∀t H',xD p H H'->xP t=none->t.length<=10000->Q (.str t) H'
theorem qG:zC ["walls","pool","text","some"] ["walls","pool"] (zk xV):=⟨rfl,rfl,rfl,by decide +kernel,rfl,by decide +kernel,by decide +kernel⟩
theorem X0 (D:Df K mg "_law_amiss" xV ["walls","pool"] []) (T:TxB K mg) (cN:Cal P w K mg base "_law_next" 1 ["pool","base"] [] qY) (cBt:Cal P w K mg base "_law_bounds_text" 3 ["walls"] [] Q5):Cal P w K mg base "_law_amiss" 4 ["walls","pool"] [] za5:=by
 refine D.calB (k:=3) qG (λvs H Q E h=>by obtain⟨_,_,_,_,rfl,_⟩:=h;rfl) (λf cdv A outer s H vs Q E hr3 h=>?_)
 obtain⟨a,p,u,v,rfl,hW,zu,zv,hP,k⟩:=h
 have hr1:xk 1 _:=hr3.mono (by decide)
 have lw:=Z8 zu zv
 refine⟨_,(vp (Bx.mk (zz (i:=2) qG.nd rfl (Or.inl rfl) (zI cBt hr3 (zd (pv 0) zf))))
  (vp (Bx.mk (zz (i:=3) qG.nd rfl (Or.inl rfl) (xF (zd (zD zL (pv 2) zq) (zd (zD zL zq (pv 2)) (VN (i:=2) (QH (i:=2) (QH (i:=2) (PA.p (zd zq (zd zq (zd zq zf))))))))))))
  (vp (Qg (i:=3) qG.nd rfl (Or.inl rfl) (Ja Ze (Bx.mk (pv 3)) (Qe (xj (Bx.mk zq) (xj (Bx.mk zq) (xj (Bx.mk zq) (xj (Bx.mk zq) (xj (Bx.mk zq) (xj (Bx.mk zq) (xj (Bx.mk zq) (xj (Bx.mk zq) (xj (Bx.mk zq) (xj (Bx.mk zq) Qf)))))))))))))
  (vp (Qg (i:=3) qG.nd rfl (Or.inl rfl) (Ja Ze (Bx.mk (pv 3)) (Qe (xj (Bx.mk zq) (xj (Bx.mk zq) (xj (Bx.mk zq) (xj (Bx.mk zq) (xj (Bx.mk (zD zL (pv 2) zq)) (xj (Bx.mk zq) (xj (Bx.mk zq) (xj (Bx.mk zq) Qf)))))))))))
  (Bx.mk (zm (zx (zB zO (pv 3) (zI cN hr1 (zd (pv 1) (zd (zP z9 (by rfl) T.nLen PySem.boot_len (zd (pv 3) zf)) zf))) (λ_ _=>rfl))))))))),?_⟩
 refine⟨_,rfl,a,u,v,rfl,hW,zu,zv,λH1 s1=>?_⟩
 dsimp only[zK]
 have z1:∀n:Nat,n<=10->(TX (wsL u v)).length+n<=sizeLine:=λn hn=>by rw[zE,sizeLine_eq];omega
 have z2:∀n:Nat,n<=10->n+(TX (wsL u v)).length<=sizeLine:=λn hn=>by rw[zE,sizeLine_eq];omega
 have z3:∀n:Nat,n<=10->(TX (wsL u v)).length+((TX (wsL u v)).length+1)*n<=16777216:=λn hn=>by
  rw[zE]
  have:((wsL u v).length+1)*n<=604*10:=Nat.mul_le_mul (by omega) hn
  omega
 refine qP ?_
 refine⟨_,rfl,_,_,rfl,rfl,z1 _ (by decide),_,rfl,_,_,rfl,rfl,z2 _ (by decide),TX (wsL u v),rfl,z1 _ (by decide),TX (wsL u v),rfl,z3 _ (by decide),TX (wsL u v),rfl,z3 _ (by decide),by show 8<=sizeLine;decide,λl1 hl1=>?_⟩
 dsimp only
 refine qP ?_
 refine⟨_,rfl,by show 10<=sizeLine;decide,λl2 hl2=>?_⟩
 refine⟨l1,l2,(Jt u v).map V.str,am2.map V.str,rfl,rfl,.of (zo.upd hl2 _ _ zn),.of zn,by show 8+10<=sizeLine;decide,λl3 hl3=>?_⟩
 dsimp only
 refine qP ?_
 refine⟨_,rfl,_,rfl,_,_,rfl,rfl,z1 _ (by decide),by show 8<=sizeLine;decide,λl4 hl4=>?_⟩
 refine⟨l3,l4,((Jt u v)++am2).map V.str,(Ju u v).map V.str,rfl,rfl,.of (zo.upd hl4 _ _ zn),.of zn,by show 18+8<=sizeLine;decide,λl5 hl5=>?_⟩
 have hP1:qL H1 p:=by obtain⟨x,y,z,e⟩:=hP;exact⟨x,y,z,s1 _ _ e⟩
 have n5:l5≠p:=qL.ne ((((hP1.new hl1).new hl2).new hl3).new hl4) hl5
 refine⟨_,rfl,_,rfl,_,rfl,l5,(amL u v).map V.str,rfl,.inl (.of zn),p,26,rfl,by decide,by decide,((((hP1.new hl1).new hl2).new hl3).new hl4).new hl5,λd G a0 b0 t5=>?_⟩
 obtain⟨r,er,mr⟩:=jh (xs:=(amL u v).map V.str) a0 b0
 obtain⟨t,mt,rfl⟩:=List.mem_map.mp mr
 obtain⟨o1,o2⟩:=Jv zu zv t mt
 refine⟨l5,(amL u v).map V.str,_,_,rfl,rfl,.of (t5.keep l5 _ zn n5),er,k t G ?_ o1 o2⟩
 exact t5.pre (((((s1.trans (zo.upd hl1)).trans (zo.upd hl2)).trans (zo.upd hl3)).trans (zo.upd hl4)).trans (zo.upd hl5))
def zbg:Sp:=λvs H Q _=>∃x,vs=[.str x]/\x.length<=10000/\xP x=none/\∀H',zo H H'->Q (.bl true) H'
theorem ZA:zC ["thing","signs"] ["thing"] (zk xw):=⟨rfl,rfl,rfl,by decide +kernel,rfl,by decide +kernel,by decide +kernel⟩
theorem QB (D:Df K mg "_law_refused" xw ["thing"] []) (O:Zo "NoText" C mg base) (cWs:qC P w K mg base "walls_read" 6 ["thing"] [] (XF C)):Cal P w K mg base "_law_refused" 7 ["thing"] [] zbg:=by
 refine D.cal (k:=6) ZA (λvs H Q E h=>by obtain⟨_,rfl,_⟩:=h;rfl) (λf cdv A outer s H vs Q E hr h=>?_)
 obtain⟨x,rfl,hx,hn,k⟩:=h
 have hu:=hr.units
 refine⟨_,(zj (zz (i:=1) ZA.nd rfl (Or.inl rfl) (xF zf))
  (zj (Xs (C:=C) rfl rfl O (by decide +kernel) (λpins W J hJ=>(zm (vC (qA cWs hr hJ (zd (pv 0) zf))))) (λpins a oe d vs hc hdd hdt=>(zm (vC (toK (K:=K) (f:=λK=>tBM K "list" Xu (vk 1) _) rfl (qF PySem.F.plainAttrs_list PySem.F.slot_list_append PySem.F.type_list_append qE (pv 1) (zd vy zf)))))))
  (zm (zx (xt (ZT hu) (pv 1) (xF (zd vy zf)) (zy _)))))),?_⟩
 refine⟨by show 0<=sizeLine;exact Nat.zero_le _,λl hl=>?_⟩
 dsimp only[zK]
 refine⟨_,rfl,x,rfl,hx,λu v e=>(by rw[hn]at e;cases e),λ_ H1 s1=>⟨C,rfl,rfl,?_⟩⟩
 have h1:=s1 l _ zn
 refine⟨_,rfl,.inl ⟨rfl,_,SqL.of h1⟩,l,_,_,rfl,rfl,h1,by show 0<sizeLine;decide,?_⟩
 refine⟨_,rfl,by show 1<=sizeLine;decide,λl2 hl2=>?_⟩
 have n2:l2≠l:=λz=>by rw[z,zn]at hl2;cases hl2
 refine⟨.list [.bool true],.list [.bool true],.lst (zo.upd hl2 _ _ zn) (.cons (.bl true) .nil),.lst zn (.cons (.bl true) .nil),rfl,rfl,?_⟩
 refine k _ λb o e=>?_
 refine zo.upd hl2 _ _ ?_
 rw[zZ (xh e hl)]
 exact s1 _ _ (zo.upd hl _ _ e)
def zbl:Sp:=λvs H Q _=>∃x,vs=[.str x]/\x.length<=10000/\∀o H',zo H H'->(match xP x with | none=>o = .non | some uv=>∃a,o = .ref a/\WsI H' a uv.1 uv.2)->Q o H'
theorem vG:zC ["text","found"] ["text"] (zk qj):=⟨rfl,rfl,rfl,by decide +kernel,rfl,by decide +kernel,by decide +kernel⟩
theorem QD (D:Df K mg "_law_told" qj ["text"] []) (O:Zo "NoText" C mg base) (cWs:qC P w K mg base "walls_read" 6 ["thing"] [] (XF C)):Cal P w K mg base "_law_told" 7 ["text"] [] zbl:=by
 refine D.cal (k:=6) vG (λvs H Q E h=>by obtain⟨_,rfl,_⟩:=h;rfl) (λf cdv A outer s H vs Q E hr h=>?_)
 obtain⟨x,rfl,hx,k⟩:=h
 refine⟨_,(zj (zz (i:=1) vG.nd rfl (Or.inl rfl) zU)
  (zj (Xs (C:=C) rfl rfl O (by decide +kernel) (λpins W J hJ=>(zm (zz (i:=1) vG.nd rfl (Or.inl rfl) (qA cWs hr hJ (zd (pv 0) zf))))) (λpins a oe d vs hc hdd hdt=>(zm (zz (i:=1) vG.nd rfl (Or.inl rfl) zU))))
  (zm (zx (pv 1))))),?_⟩
 refine qP ?_
 dsimp only[tC]
 refine⟨_,rfl,x,rfl,hx,λu v e a H1 s1 hW=>⟨_,rfl,k _ H1 s1 (by rw[e];exact⟨a,rfl,hW⟩)⟩,λe H1 s1=>⟨C,rfl,rfl,⟨_,rfl,k _ H1 s1 (by rw[e])⟩⟩⟩
theorem Ql (r:Int×Int):PyData.eqv (rD r) (rD r)=true:=by simp[rD,PyData.eqv,PyData.eqvAll]
theorem Qm (u:Wx):PyData.eqv (wD u) (wD u)=true:=by
 cases u with
 | none=>rfl
 | some u =>
  show (PyData.eqv (rD u.1) (rD u.1)&&(PyData.eqv (rD u.2) (rD u.2)&&true))=true
  rw[Ql,Ql];rfl
def wsD (u v:Wx):PyData:=.tuple [wD u,wD v]
theorem Xe (u v:Wx):PyData.eqv (wsD u v) (wsD u v)=true:=by
 show (PyData.eqv (wD u) (wD u)&&(PyData.eqv (wD v) (wD v)&&true))=true
 rw[Qm,Qm];rfl
theorem WsI.rd {H:Hp}{a:Addr}{u v:Wx}(h:WsI H a u v):RdD H (.ref a) (wsD u v):=by obtain⟨x,y,e,h1,h2⟩:=h;exact .tup e (.cons h1.rd (.cons h2.rd .nil))
theorem jI (u v:Wx):SeqAt.shaped (wsD u v)=true:=by
 cases u <;> cases v <;> rfl
def XD (K:PySem.W.Frag):Sp:=λvs H Q _=>∃(a:Addr) (ns:List Int),vs=[.ref a]/\SqL K H a (ns.map V.int)/\ns.length<=63/\∀H',Q (.bl true) H'
theorem vX:zC ["script","cell","pool","walls","text","bent"] ["script"] (zk s_law):=⟨rfl,rfl,rfl,by decide +kernel,rfl,by decide +kernel,by decide +kernel⟩
theorem J2 {fl:Addr}{fdl:FuncData}(D:Fun K "law" "law" s_law fl fdl) (T:TxB K mg) (cD:Cal P w K mg base "_law_pool" 1 ["cell"] [] Jg) (cRo:Cal P w K mg base "_law_row" 4 ["pool","most"] [] Ji) (cBo:Cal P w K mg base "_law_bounds" 5 ["pool","row"] [] za7) (cBt:Cal P w K mg base "_law_bounds_text" 3 ["walls"] [] Q5)
  (cWt:Cal P w K mg base "walls_text" 5 ["walls"] [] Jk) (cWq:Cal P w K mg base "walls_read" 6 ["thing"] [] Jj) (cRf:Cal P w K mg base "_law_refused" 7 ["thing"] [] zbg) (cAm:Cal P w K mg base "_law_amiss" 4 ["walls","pool"] [] za5) (cBe:Cal P w K mg base "_law_bent" 2 ["text","pool"] [] za6)
  (cTo:Cal P w K mg base "_law_told" 7 ["text"] [] zbl) (cRb:Cal P w K mg base "_law_read_bounds" 3 ["text"] [] zbf):v5 P w K mg base CX0 8 fl fdl ["script"] (XD K):=by
 refine D.ok (k:=7) vX (λvs H Q E h=>by obtain⟨a,us,rfl,_⟩:=h;rfl) (λcdv A outer s H vs Q E hr h=>?_)
 obtain⟨a,ns,rfl,hS,hlen,k⟩:=h
 have hr1:xk 1 _:=hr.mono (by decide)
 have hr2:xk 2 _:=hr.mono (by decide)
 have hr3:xk 3 _:=hr.mono (by decide)
 have hr4:xk 4 _:=hr.mono (by decide)
 have hr5:xk 5 _:=hr.mono (by decide)
 have hr6:xk 6 _:=hr.mono (by decide)
 have hu:=hr.units
 refine⟨_,(zj (jr PassesOwn.never rfl (Xq (zD Ze (xF (zd ze zf)) (pv 0))) (xp (i:=1) vX.nd rfl (Or.inl rfl)) (zj (zz (i:=2) vX.nd rfl (Or.inl rfl) (zI cD hr1 (zd (pv 1) zf)))
  (zj (zz (i:=3) vX.nd rfl (Or.inl rfl) (zI cBo hr5 (zd (pv 2) (zd (zI cRo hr4 (zd (pv 2) (zd ze zf))) zf))))
  (zj (zz (i:=4) vX.nd rfl (Or.inl rfl) (zI cBt hr3 (zd (pv 3) zf)))
  (zj (zQ (qW (zr vf (zI cWt hr5 (zd (pv 3) zf)) (pv 4) (zy _)) (vj (zr (QG hu) (zI cWq hr6 (zd (pv 4) zf)) (pv 3) (zy _)))).pt (zm (zx vy)) zF)
  (zj (zQ (xT (xi (zI cRf hr (zd (zI cAm hr4 (zd (pv 3) (zd (pv 2) zf))) zf)) λ_=>rfl)) (zm (zx vy)) zF)
  (zj (zz (i:=5) vX.nd rfl (Or.inl rfl) (zI cBe hr2 (zd (pv 4) (zd (pv 2) zf))))
  (zm (zQ (zr (QG hu) (zI cTo hr (zd (pv 5) zf)) (zI cRb hr3 (zd (pv 5) zf)) (zy _)) (zm (zx vy)) zF)))))))))
  (zm (zx (vh (xt (ZT hu) (zI cWq hr6 (zd zq zf)) (xz (zd zU (zd zU zf))) (zy _)) (vS (xt xU (zI cWt hr5 (zd (xz (zd zU (zd zU zf))) zf)) zq (zy _))))))),?_⟩
 refine jE ?_
 refine⟨by show 1<=sizeLine;decide,λp0 hp0=>?_⟩
 refine⟨_,rfl,p0,a,_,_,rfl,rfl,SqL.of zn,(zo.upd hp0).seq hS,szl (by simp only[List.length_map,List.length_cons,List.length_nil];omega),λp1 hp1=>?_⟩
 have S1:=(zo.upd (o:=.lst [.int 0]) hp0).trans (zo.upd (o:=.lst ([.int 0]++ns.map V.int)) hp1)
 have e1:upd (upd H p0 (.lst [.int 0])) p1 (.lst ([.int 0]++ns.map V.int)) p1=some (.lst ((0::ns).map V.int)):=zn
 generalize upd (upd H p0 (.lst [.int 0])) p1 (.lst ([.int 0]++ns.map V.int))=G1 at S1 e1
 refine⟨p1,rfl,⟨_,SqL.of e1⟩,?_⟩
 refine Zs (xs:=(0::ns).map V.int) (λi σ G=>∃z1 z2 z3 z4 z5,σ=[some (.ref a),z1,z2,z3,z4,z5]/\zo G1 G) ⟨_,_,_,_,_,rfl,zo.refl _⟩ (λi σ G _ ⟨_,_,_,_,_,_,s⟩=>SqL.of (s _ _ e1)) ?_ ?_
 ·rintro i z σ G hz ⟨z1,z2,z3,z4,z5,rfl,sG⟩
  rw[List.getElem?_map]at hz
  obtain⟨c,ec,rfl⟩:=Option.map_eq_some_iff.mp hz
  dsimp only[zK]
  refine⟨_,rfl,c,rfl,λp G2 hp s2 hP=>?_⟩
  have keep:∀G',xD p G2 G'->zo G1 G':=λG' t b o e=>t.keep b o (s2 _ _ (sG _ _ e)) (λz=>by rw[<-z,sG _ _ e]at hp;cases hp)
  dsimp only[zK]
  refine⟨_,rfl,_,rfl,p,3,rfl,by decide,by decide,hP,λr us bs G3 t3 hr0 hB hGo hz n1 n8=>?_⟩
  refine⟨p,r,us,bs,rfl,t3.pool,hr0,hB,hGo,hz,n1,λwa lo hi G4 t4 hW zl zh hok=>?_⟩
  dsimp only[zK]
  have T4:=t3.trans t4
  refine⟨_,rfl,wa,_,_,rfl,hW,zl.wz,zh.wz,λG5 s5=>?_⟩
  have hW5:=hW.tups (.of s5)
  have lw:=Z8 zl.wz zh.wz
  dsimp only[zK]
  refine⟨_,rfl,wa,_,_,rfl,hW5,zl.wz,zh.wz,λG6 s6=>?_⟩
  have hW6:=hW5.tups (.of s6)
  refine⟨_,rfl,rfl,_,rfl,?_⟩
  rw[decide_eq_true rfl]
  refine zM ?_
  refine⟨_,rfl,_,_,_,rfl,by rw[zE];omega,XA zl.ok zh.ok hok,λwb G7 s7 hWb=>?_⟩
  have hW7:=hW6.tups (.of s7)
  refine⟨_,rfl,_,_,hWb.rd,hW7.rd,jI _ _,jI _ _,_,rfl,?_⟩
  rw[Xe]
  refine zM ?_
  refine zH ?_
  have T7:=((T4.same s5).same s6).same s7
  refine⟨_,rfl,_,rfl,wa,p,_,_,rfl,hW7,zl.wz,zh.wz,T7.pool,λt G8 t8 hn ht=>?_⟩
  refine⟨_,rfl,ht,hn,λG9 s9=>⟨_,rfl,zM ?_⟩⟩
  refine zH ?_
  have T9:=(T7.trans t8).same s9
  refine⟨_,rfl,_,rfl,_,p,rfl,by rw[zE];omega,T9.pool,λy GA tA hy=>?_⟩
  dsimp only[zK]
  refine⟨_,rfl,y,rfl,by omega,λo GB sB ho=>?_⟩
  refine⟨_,rfl,y,rfl,by omega,λo' GC sC ho'=>?_⟩
  have TC:=((T9.trans tA).same sB).same sC
  have fin:∃z1 z2 z3 z4 z5,[some (V.ref a),some (.int c),some (.ref p),some (.ref wa),some (.str (TX (wsL (wx lo) (wx hi)))),some (.str y)]=[some (V.ref a),z1,z2,z3,z4,z5]/\zo G1 GC:=⟨_,_,_,_,_,rfl,keep _ TC⟩
  cases hr:xP y with
  | none =>
   rw[hr]at ho ho'
   cases(show o = .non from ho)
   cases(show o' = .non from ho')
   exact⟨.none,.none,.non,.non,rfl,rfl,_,rfl,zM fin⟩
  | some uv =>
   rw[hr]at ho ho'
   obtain⟨a1,rfl,w1⟩:=ho
   obtain⟨a2,rfl,w2⟩:=ho'
   refine⟨_,_,(w1.tups (.of sC)).rd,w2.rd,jI _ _,jI _ _,_,rfl,?_⟩
   rw[Xe]
   exact zM fin
 ·rintro σ G ⟨z1,z2,z3,z4,z5,rfl,sG⟩
  have eT:Str.ofString "- | -" = TX (wsL none none):=by decide +kernel
  have eR:xP (Str.ofString "- | -")=some (none,none):=by rw[eT];exact XA trivial trivial rfl
  refine⟨_,_,_,rfl,by decide +kernel,eR,λwb G7 s7 hWb=>?_⟩
  refine⟨by show 2<=sizeLine;decide,λt ht=>?_⟩
  refine⟨_,_,(hWb.tups (.of (zo.upd ht))).rd,.tup zn (.cons .non (.cons .non .nil)),jI _ _,rfl,_,rfl,zT ?_⟩
  refine⟨by show 2<=sizeLine;decide,λt2 ht2=>?_⟩
  refine⟨t2,none,none,rfl,⟨.non,.non,zn,rfl,rfl⟩,trivial,trivial,λG8 s8=>⟨rfl,?_⟩⟩
  rw[<-eT,decide_eq_true rfl]
  exact k _
end
end KK
end
section
set_option maxHeartbeats 8000000
set_option Elab.async false
set_option linter.all false
set_option maxRecDepth 100000
namespace KK
open PySem L2 KM PySem.W
theorem zad {K:Frag}{h:Heap}{mg:Str->Option Value}{x:Str}{C:Addr}(X:K.In h) (G:h.Ns mainGlobals mg) (e:nsIn K mainGlobals x=some (some (.ref C))) (q:excIn K C zaB "ValueError.__new__" = true):Zo x C mg h:=by
 unfold excIn at q
 split at q
 case h_2=>cases q
 case h_1 dd cd sl ho =>
  split at q
  case h_2=>cases q
  case h_1 C' bm k0 k1 k2 k3 n k5 hm hs =>
   obtain⟨cnm,cbs,cmro,cns,cqn,chd,csn,csub,cab,ccol,cdel⟩:=cd
   obtain⟨sll⟩:=sl
   simp only at hm hs q
   subst hm;subst hs
   simp only[Bool.and_eq_true,beq_iff_eq,Bool.not_eq_true']at q
   obtain⟨⟨⟨⟨⟨eC,en⟩,ed⟩,et⟩,eo⟩,ei⟩:=q
   subst eC;subst en;subst ed
   exact⟨mg_of X G e,bm,cns,cnm,cqn,cbs,chd,csn,csub,cab,ccol,dd,k0,k1,k2,k3,k5,_,X _ _ ho,.of_isNs (isNs_of_in X eo),nsMap_none_of_in X eo ei,tail_of_in X et⟩
end KK
end
set_option linter.all false
def PySem.W.Fast.tw11504138079451291890:Nat:=0
def PySem.W.Fast.tw4766914799522442456:Nat:=0
def PySem.W.Fast.tw8291223905468094911:Nat:=0
def PySem.W.Fast.tw10958810443013422973:Nat:=0
def PySem.W.Fast.tw2280585115235701528:Nat:=0
def PySem.W.Fast.tw18427807171774583594:Nat:=0
def PySem.W.Fast.tw18276574880684030143:Nat:=0
def PySem.W.Fast.tw3967384828416176167:Nat:=0
def PySem.W.Fast.tw1417286460244821307:Nat:=0
def PySem.W.Fast.tw17160304364574323298:Nat:=0
def PySem.W.Fast.tw3786398196258168577:Nat:=0
def PySem.W.Fast.tw15373583575628267339:Nat:=0
def PySem.W.Fast.tw7533481229531508311:Nat:=0
section
set_option maxHeartbeats 8000000
set_option Elab.async false
set_option linter.all false
set_option maxRecDepth 100000
namespace KK
open PySem L2 KM
theorem JS (K:PySem.W.Frag):PySem.W.kitOne K (.type "int") (.type "int")=some true:=by
 unfold PySem.W.kitOne;rw[if_pos (by decide +kernel)]
theorem JR (K:PySem.W.Frag):PySem.W.kitOne K (.type "int") (.type "bool")=some false:=by
 with_unfolding_all rfl
theorem JT (K:PySem.W.Frag):PySem.W.kitOne K (.type "str") (.type "str")=some true:=by
 unfold PySem.W.kitOne;rw[if_pos (by decide +kernel)]
theorem JU (K:PySem.W.Frag):PySem.W.kitOne K (.type "tuple") (.type "tuple")=some true:=by
 unfold PySem.W.kitOne;rw[if_pos (by decide +kernel)]
theorem Js {l:PySem.W.OpenLaw}{w:World}{K:PySem.W.Frag}{h:Heap}{mg:Str->Option Value}{fa:Addr}(X:K.In h) (G:h.Ns mainGlobals mg) (hfa:mg "law" = some (.ref fa))
  {f0:Addr}{od0 an0:Option Addr}{sl0:Array (Option Value)}{oc0 kV0 dc0 pm0 cd0 ct0:Value}
  (a0:PySem.W.nsIn K mainGlobals "is_whole" = some (some (.ref f0))) (l0:K.lookup f0=some ⟨oc0,od0,.func (PySem.W.fnOf "is_whole" "is_whole" (zA qd) (zp qd) (zk qd) .none kV0 dc0 pm0 an0 cd0 ct0),sl0⟩) (c0:PySem.W.codeIn K cd0 "is_whole" = true) (k0:PySem.W.keepIn K (.ref f0)=true)
  {f1:Addr}{od1 an1:Option Addr}{sl1:Array (Option Value)}{oc1 kV1 dc1 pm1 cd1 ct1:Value}
  (a1:PySem.W.nsIn K mainGlobals "is_tuple" = some (some (.ref f1))) (l1:K.lookup f1=some ⟨oc1,od1,.func (PySem.W.fnOf "is_tuple" "is_tuple" (zA qc) (zp qc) (zk qc) .none kV1 dc1 pm1 an1 cd1 ct1),sl1⟩) (c1:PySem.W.codeIn K cd1 "is_tuple" = true) (k1:PySem.W.keepIn K (.ref f1)=true)
  {f2:Addr}{od2 an2:Option Addr}{sl2:Array (Option Value)}{oc2 kV2 dc2 pm2 cd2 ct2:Value}
  (a2:PySem.W.nsIn K mainGlobals "greatest_divisor" = some (some (.ref f2))) (l2:K.lookup f2=some ⟨oc2,od2,.func (PySem.W.fnOf "greatest_divisor" "greatest_divisor" (zA zX) (zp zX) (zk zX) .none kV2 dc2 pm2 an2 cd2 ct2),sl2⟩) (c2:PySem.W.codeIn K cd2 "greatest_divisor" = true) (k2:PySem.W.keepIn K (.ref f2)=true)
  {f3:Addr}{od3 an3:Option Addr}{sl3:Array (Option Value)}{oc3 kV3 dc3 pm3 cd3 ct3:Value}
  (a3:PySem.W.nsIn K mainGlobals "is_ratio" = some (some (.ref f3))) (l3:K.lookup f3=some ⟨oc3,od3,.func (PySem.W.fnOf "is_ratio" "is_ratio" (zA qb) (zp qb) (zk qb) .none kV3 dc3 pm3 an3 cd3 ct3),sl3⟩) (c3:PySem.W.codeIn K cd3 "is_ratio" = true) (k3:PySem.W.keepIn K (.ref f3)=true)
  {f4:Addr}{od4 an4:Option Addr}{sl4:Array (Option Value)}{oc4 kV4 dc4 pm4 cd4 ct4:Value}
  (a4:PySem.W.nsIn K mainGlobals "less" = some (some (.ref f4))) (l4:K.lookup f4=some ⟨oc4,od4,.func (PySem.W.fnOf "less" "less" (zA vW) (zp vW) (zk vW) .none kV4 dc4 pm4 an4 cd4 ct4),sl4⟩) (c4:PySem.W.codeIn K cd4 "less" = true) (k4:PySem.W.keepIn K (.ref f4)=true)
  {f5:Addr}{od5 an5:Option Addr}{sl5:Array (Option Value)}{oc5 kV5 dc5 pm5 cd5 ct5:Value}
  (a5:PySem.W.nsIn K mainGlobals "is_wall" = some (some (.ref f5))) (l5:K.lookup f5=some ⟨oc5,od5,.func (PySem.W.fnOf "is_wall" "is_wall" (zA qo) (zp qo) (zk qo) .none kV5 dc5 pm5 an5 cd5 ct5),sl5⟩) (c5:PySem.W.codeIn K cd5 "is_wall" = true) (k5:PySem.W.keepIn K (.ref f5)=true)
  {f6:Addr}{od6 an6:Option Addr}{sl6:Array (Option Value)}{oc6 kV6 dc6 pm6 cd6 ct6:Value}
  (a6:PySem.W.nsIn K mainGlobals "is_wall_pair" = some (some (.ref f6))) (l6:K.lookup f6=some ⟨oc6,od6,.func (PySem.W.fnOf "is_wall_pair" "is_wall_pair" (zA xr) (zp xr) (zk xr) .none kV6 dc6 pm6 an6 cd6 ct6),sl6⟩) (c6:PySem.W.codeIn K cd6 "is_wall_pair" = true) (k6:PySem.W.keepIn K (.ref f6)=true)
  {f7:Addr}{od7 an7:Option Addr}{sl7:Array (Option Value)}{oc7 kV7 dc7 pm7 cd7 ct7:Value}
  (a7:PySem.W.nsIn K mainGlobals "walls_good" = some (some (.ref f7))) (l7:K.lookup f7=some ⟨oc7,od7,.func (PySem.W.fnOf "walls_good" "walls_good" (zA xM) (zp xM) (zk xM) .none kV7 dc7 pm7 an7 cd7 ct7),sl7⟩) (c7:PySem.W.codeIn K cd7 "walls_good" = true) (k7:PySem.W.keepIn K (.ref f7)=true)
  {f8:Addr}{od8 an8:Option Addr}{sl8:Array (Option Value)}{oc8 kV8 dc8 pm8 cd8 ct8:Value}
  (a8:PySem.W.nsIn K mainGlobals "number_text" = some (some (.ref f8))) (l8:K.lookup f8=some ⟨oc8,od8,.func (PySem.W.fnOf "number_text" "number_text" (zA xa) (zp xa) (zk xa) .none kV8 dc8 pm8 an8 cd8 ct8),sl8⟩) (c8:PySem.W.codeIn K cd8 "number_text" = true) (k8:PySem.W.keepIn K (.ref f8)=true)
  {f9:Addr}{od9 an9:Option Addr}{sl9:Array (Option Value)}{oc9 kV9 dc9 pm9 cd9 ct9:Value}
  (a9:PySem.W.nsIn K mainGlobals "ratio_text" = some (some (.ref f9))) (l9:K.lookup f9=some ⟨oc9,od9,.func (PySem.W.fnOf "ratio_text" "ratio_text" (zA xJ) (zp xJ) (zk xJ) .none kV9 dc9 pm9 an9 cd9 ct9),sl9⟩) (c9:PySem.W.codeIn K cd9 "ratio_text" = true) (k9:PySem.W.keepIn K (.ref f9)=true)
  {f10:Addr}{od10 an10:Option Addr}{sl10:Array (Option Value)}{oc10 kV10 dc10 pm10 cd10 ct10:Value}
  (a10:PySem.W.nsIn K mainGlobals "wall_text" = some (some (.ref f10))) (l10:K.lookup f10=some ⟨oc10,od10,.func (PySem.W.fnOf "wall_text" "wall_text" (zA x0) (zp x0) (zk x0) .none kV10 dc10 pm10 an10 cd10 ct10),sl10⟩) (c10:PySem.W.codeIn K cd10 "wall_text" = true) (k10:PySem.W.keepIn K (.ref f10)=true)
  {f11:Addr}{od11 an11:Option Addr}{sl11:Array (Option Value)}{oc11 kV11 dc11 pm11 cd11 ct11:Value}
  (a11:PySem.W.nsIn K mainGlobals "walls_text" = some (some (.ref f11))) (l11:K.lookup f11=some ⟨oc11,od11,.func (PySem.W.fnOf "walls_text" "walls_text" (zA xO) (zp xO) (zk xO) .none kV11 dc11 pm11 an11 cd11 ct11),sl11⟩) (c11:PySem.W.codeIn K cd11 "walls_text" = true) (k11:PySem.W.keepIn K (.ref f11)=true)
  {f12:Addr}{od12 an12:Option Addr}{sl12:Array (Option Value)}{oc12 kV12 dc12 pm12 cd12 ct12:Value}
  (a12:PySem.W.nsIn K mainGlobals "parts_of" = some (some (.ref f12))) (l12:K.lookup f12=some ⟨oc12,od12,.func (PySem.W.fnOf "parts_of" "parts_of" (zA qk) (zp qk) (zk qk) .none kV12 dc12 pm12 an12 cd12 ct12),sl12⟩) (c12:PySem.W.codeIn K cd12 "parts_of" = true) (k12:PySem.W.keepIn K (.ref f12)=true)
  {f13:Addr}{od13 an13:Option Addr}{sl13:Array (Option Value)}{oc13 kV13 dc13 pm13 cd13 ct13:Value}
  (a13:PySem.W.nsIn K mainGlobals "read_number" = some (some (.ref f13))) (l13:K.lookup f13=some ⟨oc13,od13,.func (PySem.W.fnOf "read_number" "read_number" (zA xx) (zp xx) (zk xx) .none kV13 dc13 pm13 an13 cd13 ct13),sl13⟩) (c13:PySem.W.codeIn K cd13 "read_number" = true) (k13:PySem.W.keepIn K (.ref f13)=true)
  {f14:Addr}{od14 an14:Option Addr}{sl14:Array (Option Value)}{oc14 kV14 dc14 pm14 cd14 ct14:Value}
  (a14:PySem.W.nsIn K mainGlobals "read_whole" = some (some (.ref f14))) (l14:K.lookup f14=some ⟨oc14,od14,.func (PySem.W.fnOf "read_whole" "read_whole" (zA xL) (zp xL) (zk xL) .none kV14 dc14 pm14 an14 cd14 ct14),sl14⟩) (c14:PySem.W.codeIn K cd14 "read_whole" = true) (k14:PySem.W.keepIn K (.ref f14)=true)
  {f15:Addr}{od15 an15:Option Addr}{sl15:Array (Option Value)}{oc15 kV15 dc15 pm15 cd15 ct15:Value}
  (a15:PySem.W.nsIn K mainGlobals "read_ratio" = some (some (.ref f15))) (l15:K.lookup f15=some ⟨oc15,od15,.func (PySem.W.fnOf "read_ratio" "read_ratio" (zA xK) (zp xK) (zk xK) .none kV15 dc15 pm15 an15 cd15 ct15),sl15⟩) (c15:PySem.W.codeIn K cd15 "read_ratio" = true) (k15:PySem.W.keepIn K (.ref f15)=true)
  {f16:Addr}{od16 an16:Option Addr}{sl16:Array (Option Value)}{oc16 kV16 dc16 pm16 cd16 ct16:Value}
  (a16:PySem.W.nsIn K mainGlobals "wall_read" = some (some (.ref f16))) (l16:K.lookup f16=some ⟨oc16,od16,.func (PySem.W.fnOf "wall_read" "wall_read" (zA xZ) (zp xZ) (zk xZ) .none kV16 dc16 pm16 an16 cd16 ct16),sl16⟩) (c16:PySem.W.codeIn K cd16 "wall_read" = true) (k16:PySem.W.keepIn K (.ref f16)=true)
  {f17:Addr}{od17 an17:Option Addr}{sl17:Array (Option Value)}{oc17 kV17 dc17 pm17 cd17 ct17:Value}
  (a17:PySem.W.nsIn K mainGlobals "walls_read" = some (some (.ref f17))) (l17:K.lookup f17=some ⟨oc17,od17,.func (PySem.W.fnOf "walls_read" "walls_read" (zA xN) (zp xN) (zk xN) .none kV17 dc17 pm17 an17 cd17 ct17),sl17⟩) (c17:PySem.W.codeIn K cd17 "walls_read" = true) (k17:PySem.W.keepIn K (.ref f17)=true)
  {f18:Addr}{od18 an18:Option Addr}{sl18:Array (Option Value)}{oc18 kV18 dc18 pm18 cd18 ct18:Value}
  (a18:PySem.W.nsIn K mainGlobals "_law_pool" = some (some (.ref f18))) (l18:K.lookup f18=some ⟨oc18,od18,.func (PySem.W.fnOf "_law_pool" "_law_pool" (zA qg) (zp qg) (zk qg) .none kV18 dc18 pm18 an18 cd18 ct18),sl18⟩) (c18:PySem.W.codeIn K cd18 "_law_pool" = true) (k18:PySem.W.keepIn K (.ref f18)=true)
  {f19:Addr}{od19 an19:Option Addr}{sl19:Array (Option Value)}{oc19 kV19 dc19 pm19 cd19 ct19:Value}
  (a19:PySem.W.nsIn K mainGlobals "_law_next" = some (some (.ref f19))) (l19:K.lookup f19=some ⟨oc19,od19,.func (PySem.W.fnOf "_law_next" "_law_next" (zA qf) (zp qf) (zk qf) .none kV19 dc19 pm19 an19 cd19 ct19),sl19⟩) (c19:PySem.W.codeIn K cd19 "_law_next" = true) (k19:PySem.W.keepIn K (.ref f19)=true)
  {f20:Addr}{od20 an20:Option Addr}{sl20:Array (Option Value)}{oc20 kV20 dc20 pm20 cd20 ct20:Value}
  (a20:PySem.W.nsIn K mainGlobals "_law_common" = some (some (.ref f20))) (l20:K.lookup f20=some ⟨oc20,od20,.func (PySem.W.fnOf "_law_common" "_law_common" (zA xH) (zp xH) (zk xH) .none kV20 dc20 pm20 an20 cd20 ct20),sl20⟩) (c20:PySem.W.codeIn K cd20 "_law_common" = true) (k20:PySem.W.keepIn K (.ref f20)=true)
  {f21:Addr}{od21 an21:Option Addr}{sl21:Array (Option Value)}{oc21 kV21 dc21 pm21 cd21 ct21:Value}
  (a21:PySem.W.nsIn K mainGlobals "_law_low" = some (some (.ref f21))) (l21:K.lookup f21=some ⟨oc21,od21,.func (PySem.W.fnOf "_law_low" "_law_low" (zA qr) (zp qr) (zk qr) .none kV21 dc21 pm21 an21 cd21 ct21),sl21⟩) (c21:PySem.W.codeIn K cd21 "_law_low" = true) (k21:PySem.W.keepIn K (.ref f21)=true)
  {f22:Addr}{od22 an22:Option Addr}{sl22:Array (Option Value)}{oc22 kV22 dc22 pm22 cd22 ct22:Value}
  (a22:PySem.W.nsIn K mainGlobals "_law_sum" = some (some (.ref f22))) (l22:K.lookup f22=some ⟨oc22,od22,.func (PySem.W.fnOf "_law_sum" "_law_sum" (zA qt) (zp qt) (zk qt) .none kV22 dc22 pm22 an22 cd22 ct22),sl22⟩) (c22:PySem.W.codeIn K cd22 "_law_sum" = true) (k22:PySem.W.keepIn K (.ref f22)=true)
  {f23:Addr}{od23 an23:Option Addr}{sl23:Array (Option Value)}{oc23 kV23 dc23 pm23 cd23 ct23:Value}
  (a23:PySem.W.nsIn K mainGlobals "_law_gap" = some (some (.ref f23))) (l23:K.lookup f23=some ⟨oc23,od23,.func (PySem.W.fnOf "_law_gap" "_law_gap" (zA qq) (zp qq) (zk qq) .none kV23 dc23 pm23 an23 cd23 ct23),sl23⟩) (c23:PySem.W.codeIn K cd23 "_law_gap" = true) (k23:PySem.W.keepIn K (.ref f23)=true)
  {f24:Addr}{od24 an24:Option Addr}{sl24:Array (Option Value)}{oc24 kV24 dc24 pm24 cd24 ct24:Value}
  (a24:PySem.W.nsIn K mainGlobals "_law_below" = some (some (.ref f24))) (l24:K.lookup f24=some ⟨oc24,od24,.func (PySem.W.fnOf "_law_below" "_law_below" (zA xW) (zp xW) (zk xW) .none kV24 dc24 pm24 an24 cd24 ct24),sl24⟩) (c24:PySem.W.codeIn K cd24 "_law_below" = true) (k24:PySem.W.keepIn K (.ref f24)=true)
  {f25:Addr}{od25 an25:Option Addr}{sl25:Array (Option Value)}{oc25 kV25 dc25 pm25 cd25 ct25:Value}
  (a25:PySem.W.nsIn K mainGlobals "_law_weight" = some (some (.ref f25))) (l25:K.lookup f25=some ⟨oc25,od25,.func (PySem.W.fnOf "_law_weight" "_law_weight" (zA xI) (zp xI) (zk xI) .none kV25 dc25 pm25 an25 cd25 ct25),sl25⟩) (c25:PySem.W.codeIn K cd25 "_law_weight" = true) (k25:PySem.W.keepIn K (.ref f25)=true)
  {f26:Addr}{od26 an26:Option Addr}{sl26:Array (Option Value)}{oc26 kV26 dc26 pm26 cd26 ct26:Value}
  (a26:PySem.W.nsIn K mainGlobals "_law_small" = some (some (.ref f26))) (l26:K.lookup f26=some ⟨oc26,od26,.func (PySem.W.fnOf "_law_small" "_law_small" (zA xX) (zp xX) (zk xX) .none kV26 dc26 pm26 an26 cd26 ct26),sl26⟩) (c26:PySem.W.codeIn K cd26 "_law_small" = true) (k26:PySem.W.keepIn K (.ref f26)=true)
  {f27:Addr}{od27 an27:Option Addr}{sl27:Array (Option Value)}{oc27 kV27 dc27 pm27 cd27 ct27:Value}
  (a27:PySem.W.nsIn K mainGlobals "_law_row" = some (some (.ref f27))) (l27:K.lookup f27=some ⟨oc27,od27,.func (PySem.W.fnOf "_law_row" "_law_row" (zA qs) (zp qs) (zk qs) .none kV27 dc27 pm27 an27 cd27 ct27),sl27⟩) (c27:PySem.W.codeIn K cd27 "_law_row" = true) (k27:PySem.W.keepIn K (.ref f27)=true)
  {f28:Addr}{od28 an28:Option Addr}{sl28:Array (Option Value)}{oc28 kV28 dc28 pm28 cd28 ct28:Value}
  (a28:PySem.W.nsIn K mainGlobals "_law_side" = some (some (.ref f28))) (l28:K.lookup f28=some ⟨oc28,od28,.func (PySem.W.fnOf "_law_side" "_law_side" (zA qi) (zp qi) (zk qi) .none kV28 dc28 pm28 an28 cd28 ct28),sl28⟩) (c28:PySem.W.codeIn K cd28 "_law_side" = true) (k28:PySem.W.keepIn K (.ref f28)=true)
  {f29:Addr}{od29 an29:Option Addr}{sl29:Array (Option Value)}{oc29 kV29 dc29 pm29 cd29 ct29:Value}
  (a29:PySem.W.nsIn K mainGlobals "_law_bounds" = some (some (.ref f29))) (l29:K.lookup f29=some ⟨oc29,od29,.func (PySem.W.fnOf "_law_bounds" "_law_bounds" (zA xG) (zp xG) (zk xG) .none kV29 dc29 pm29 an29 cd29 ct29),sl29⟩) (c29:PySem.W.codeIn K cd29 "_law_bounds" = true) (k29:PySem.W.keepIn K (.ref f29)=true)
  {f30:Addr}{od30 an30:Option Addr}{sl30:Array (Option Value)}{oc30 kV30 dc30 pm30 cd30 ct30:Value}
  (a30:PySem.W.nsIn K mainGlobals "_law_figures" = some (some (.ref f30))) (l30:K.lookup f30=some ⟨oc30,od30,.func (PySem.W.fnOf "_law_figures" "_law_figures" (zA xv) (zp xv) (zk xv) .none kV30 dc30 pm30 an30 cd30 ct30),sl30⟩) (c30:PySem.W.codeIn K cd30 "_law_figures" = true) (k30:PySem.W.keepIn K (.ref f30)=true)
  {f31:Addr}{od31 an31:Option Addr}{sl31:Array (Option Value)}{oc31 kV31 dc31 pm31 cd31 ct31:Value}
  (a31:PySem.W.nsIn K mainGlobals "_law_ratio_text" = some (some (.ref f31))) (l31:K.lookup f31=some ⟨oc31,od31,.func (PySem.W.fnOf "_law_ratio_text" "_law_ratio_text" (zA xg) (zp xg) (zk xg) .none kV31 dc31 pm31 an31 cd31 ct31),sl31⟩) (c31:PySem.W.codeIn K cd31 "_law_ratio_text" = true) (k31:PySem.W.keepIn K (.ref f31)=true)
  {f32:Addr}{od32 an32:Option Addr}{sl32:Array (Option Value)}{oc32 kV32 dc32 pm32 cd32 ct32:Value}
  (a32:PySem.W.nsIn K mainGlobals "_law_bounds_text" = some (some (.ref f32))) (l32:K.lookup f32=some ⟨oc32,od32,.func (PySem.W.fnOf "_law_bounds_text" "_law_bounds_text" (zA xb) (zp xb) (zk xb) .none kV32 dc32 pm32 an32 cd32 ct32),sl32⟩) (c32:PySem.W.codeIn K cd32 "_law_bounds_text" = true) (k32:PySem.W.keepIn K (.ref f32)=true)
  {f33:Addr}{od33 an33:Option Addr}{sl33:Array (Option Value)}{oc33 kV33 dc33 pm33 cd33 ct33:Value}
  (a33:PySem.W.nsIn K mainGlobals "_law_value" = some (some (.ref f33))) (l33:K.lookup f33=some ⟨oc33,od33,.func (PySem.W.fnOf "_law_value" "_law_value" (zA xY) (zp xY) (zk xY) .none kV33 dc33 pm33 an33 cd33 ct33),sl33⟩) (c33:PySem.W.codeIn K cd33 "_law_value" = true) (k33:PySem.W.keepIn K (.ref f33)=true)
  {f34:Addr}{od34 an34:Option Addr}{sl34:Array (Option Value)}{oc34 kV34 dc34 pm34 cd34 ct34:Value}
  (a34:PySem.W.nsIn K mainGlobals "_law_read" = some (some (.ref f34))) (l34:K.lookup f34=some ⟨oc34,od34,.func (PySem.W.fnOf "_law_read" "_law_read" (zA qh) (zp qh) (zk qh) .none kV34 dc34 pm34 an34 cd34 ct34),sl34⟩) (c34:PySem.W.codeIn K cd34 "_law_read" = true) (k34:PySem.W.keepIn K (.ref f34)=true)
  {f35:Addr}{od35 an35:Option Addr}{sl35:Array (Option Value)}{oc35 kV35 dc35 pm35 cd35 ct35:Value}
  (a35:PySem.W.nsIn K mainGlobals "_law_bent" = some (some (.ref f35))) (l35:K.lookup f35=some ⟨oc35,od35,.func (PySem.W.fnOf "_law_bent" "_law_bent" (zA qe) (zp qe) (zk qe) .none kV35 dc35 pm35 an35 cd35 ct35),sl35⟩) (c35:PySem.W.codeIn K cd35 "_law_bent" = true) (k35:PySem.W.keepIn K (.ref f35)=true)
  {f36:Addr}{od36 an36:Option Addr}{sl36:Array (Option Value)}{oc36 kV36 dc36 pm36 cd36 ct36:Value}
  (a36:PySem.W.nsIn K mainGlobals "_law_read_bounds" = some (some (.ref f36))) (l36:K.lookup f36=some ⟨oc36,od36,.func (PySem.W.fnOf "_law_read_bounds" "_law_read_bounds" (zA xc) (zp xc) (zk xc) .none kV36 dc36 pm36 an36 cd36 ct36),sl36⟩) (c36:PySem.W.codeIn K cd36 "_law_read_bounds" = true) (k36:PySem.W.keepIn K (.ref f36)=true)
  {f37:Addr}{od37 an37:Option Addr}{sl37:Array (Option Value)}{oc37 kV37 dc37 pm37 cd37 ct37:Value}
  (a37:PySem.W.nsIn K mainGlobals "_law_amiss" = some (some (.ref f37))) (l37:K.lookup f37=some ⟨oc37,od37,.func (PySem.W.fnOf "_law_amiss" "_law_amiss" (zA xV) (zp xV) (zk xV) .none kV37 dc37 pm37 an37 cd37 ct37),sl37⟩) (c37:PySem.W.codeIn K cd37 "_law_amiss" = true) (k37:PySem.W.keepIn K (.ref f37)=true)
  {f38:Addr}{od38 an38:Option Addr}{sl38:Array (Option Value)}{oc38 kV38 dc38 pm38 cd38 ct38:Value}
  (a38:PySem.W.nsIn K mainGlobals "_law_refused" = some (some (.ref f38))) (l38:K.lookup f38=some ⟨oc38,od38,.func (PySem.W.fnOf "_law_refused" "_law_refused" (zA xw) (zp xw) (zk xw) .none kV38 dc38 pm38 an38 cd38 ct38),sl38⟩) (c38:PySem.W.codeIn K cd38 "_law_refused" = true) (k38:PySem.W.keepIn K (.ref f38)=true)
  {f39:Addr}{od39 an39:Option Addr}{sl39:Array (Option Value)}{oc39 kV39 dc39 pm39 cd39 ct39:Value}
  (a39:PySem.W.nsIn K mainGlobals "_law_told" = some (some (.ref f39))) (l39:K.lookup f39=some ⟨oc39,od39,.func (PySem.W.fnOf "_law_told" "_law_told" (zA qj) (zp qj) (zk qj) .none kV39 dc39 pm39 an39 cd39 ct39),sl39⟩) (c39:PySem.W.codeIn K cd39 "_law_told" = true) (k39:PySem.W.keepIn K (.ref f39)=true)
  {f40:Addr}{od40 an40:Option Addr}{sl40:Array (Option Value)}{oc40 kV40 dc40 pm40 cd40 ct40:Value}
  (a40:PySem.W.nsIn K mainGlobals "law" = some (some (.ref f40))) (l40:K.lookup f40=some ⟨oc40,od40,.func (PySem.W.fnOf "law" "law" (zA s_law) (zp s_law) (zk s_law) .none kV40 dc40 pm40 an40 cd40 ct40),sl40⟩) (c40:PySem.W.codeIn K cd40 "law" = true) (k40:PySem.W.keepIn K (.ref f40)=true)
  (z_isinstance:PySem.W.nsIn K mainGlobals "isinstance" = some none)
  (z_int:PySem.W.nsIn K mainGlobals "int" = some none)
  (z_bool:PySem.W.nsIn K mainGlobals "bool" = some none)
  (z_abs:PySem.W.nsIn K mainGlobals "abs" = some none)
  (z_len:PySem.W.nsIn K mainGlobals "len" = some none)
  (z_max:PySem.W.nsIn K mainGlobals "max" = some none)
  (z_min:PySem.W.nsIn K mainGlobals "min" = some none)
  (z_range:PySem.W.nsIn K mainGlobals "range" = some none)
  (z_tuple:PySem.W.nsIn K mainGlobals "tuple" = some none)
  (z_sum:PySem.W.nsIn K mainGlobals "sum" = some none)
  (z_str:PySem.W.nsIn K mainGlobals "str" = some none)
  (z_all:PySem.W.nsIn K mainGlobals "all" = some none)
  (z_list:PySem.W.nsIn K mainGlobals "list" = some none)
  {C_NoText:Addr}(a_NoText:PySem.W.nsIn K mainGlobals "NoText" = some (some (.ref C_NoText))) (x_NoText:PySem.W.excIn K C_NoText zaB "ValueError.__new__" = true)
  {tk_FIGURES:Tok}(v_FIGURES:PySem.W.nsIn K mainGlobals "FIGURES" = some (some (.str "0123456789" tk_FIGURES)))
  {tk_MOST_FIGURES:Tok}(v_MOST_FIGURES:PySem.W.nsIn K mainGlobals "MOST_FIGURES" = some (some (.int 300 tk_MOST_FIGURES))) :
  ∃fd:FuncData,(∀(s:Shared) (v:Value),BindsTo s fd ⟨[v],[]⟩ [("script",v)])/\∀base:Heap,K.In base->base.Ns mainGlobals mg->v5 l.prog w K mg base CX0 8 fa fd ["script"] (XD K):=by
 have e:=hfa.symm.trans (PySem.W.mg_of X G a40)
 cases e
 have d_is_whole:Df K mg "is_whole" qd ["thing"] []:=zV l0 c0 k0 (PySem.W.mg_of X G a0) λus hl=>match us,hl with | [_],_=>rfl
 have d_is_tuple:Df K mg "is_tuple" qc ["thing","many"] []:=zV l1 c1 k1 (PySem.W.mg_of X G a1) λus hl=>match us,hl with | [_,_],_=>rfl
 have d_greatest_divisor:Df K mg "greatest_divisor" zX ["one","other"] []:=zV l2 c2 k2 (PySem.W.mg_of X G a2) λus hl=>match us,hl with | [_,_],_=>rfl
 have d_is_ratio:Df K mg "is_ratio" qb ["thing"] []:=zV l3 c3 k3 (PySem.W.mg_of X G a3) λus hl=>match us,hl with | [_],_=>rfl
 have d_less:Df K mg "less" vW ["one","other"] []:=zV l4 c4 k4 (PySem.W.mg_of X G a4) λus hl=>match us,hl with | [_,_],_=>rfl
 have d_is_wall:Df K mg "is_wall" qo ["thing"] []:=zV l5 c5 k5 (PySem.W.mg_of X G a5) λus hl=>match us,hl with | [_],_=>rfl
 have d_is_wall_pair:Df K mg "is_wall_pair" xr ["thing"] []:=zV l6 c6 k6 (PySem.W.mg_of X G a6) λus hl=>match us,hl with | [_],_=>rfl
 have d_walls_good:Df K mg "walls_good" xM ["thing"] []:=zV l7 c7 k7 (PySem.W.mg_of X G a7) λus hl=>match us,hl with | [_],_=>rfl
 have d_number_text:Df K mg "number_text" xa ["number"] []:=zV l8 c8 k8 (PySem.W.mg_of X G a8) λus hl=>match us,hl with | [_],_=>rfl
 have d_ratio_text:Df K mg "ratio_text" xJ ["one"] []:=zV l9 c9 k9 (PySem.W.mg_of X G a9) λus hl=>match us,hl with | [_],_=>rfl
 have d_wall_text:Df K mg "wall_text" x0 ["wall"] []:=zV l10 c10 k10 (PySem.W.mg_of X G a10) λus hl=>match us,hl with | [_],_=>rfl
 have d_walls_text:Df K mg "walls_text" xO ["walls"] []:=zV l11 c11 k11 (PySem.W.mg_of X G a11) λus hl=>match us,hl with | [_],_=>rfl
 have d_parts_of:Df K mg "parts_of" qk ["thing","sign","many"] []:=zV l12 c12 k12 (PySem.W.mg_of X G a12) λus hl=>match us,hl with | [_,_,_],_=>rfl
 have d_read_number:Df K mg "read_number" xx ["text","most"] []:=zV l13 c13 k13 (PySem.W.mg_of X G a13) λus hl=>match us,hl with | [_,_],_=>rfl
 have d_read_whole:Df K mg "read_whole" xL ["text"] []:=zV l14 c14 k14 (PySem.W.mg_of X G a14) λus hl=>match us,hl with | [_],_=>rfl
 have d_read_ratio:Df K mg "read_ratio" xK ["thing"] []:=zV l15 c15 k15 (PySem.W.mg_of X G a15) λus hl=>match us,hl with | [_],_=>rfl
 have d_wall_read:Df K mg "wall_read" xZ ["text"] []:=zV l16 c16 k16 (PySem.W.mg_of X G a16) λus hl=>match us,hl with | [_],_=>rfl
 have d_walls_read:Df K mg "walls_read" xN ["thing"] []:=zV l17 c17 k17 (PySem.W.mg_of X G a17) λus hl=>match us,hl with | [_],_=>rfl
 have d_law_pool:Df K mg "_law_pool" qg ["cell"] []:=zV l18 c18 k18 (PySem.W.mg_of X G a18) λus hl=>match us,hl with | [_],_=>rfl
 have d_law_next:Df K mg "_law_next" qf ["pool","base"] []:=zV l19 c19 k19 (PySem.W.mg_of X G a19) λus hl=>match us,hl with | [_,_],_=>rfl
 have d_law_common:Df K mg "_law_common" xH ["one","other"] []:=zV l20 c20 k20 (PySem.W.mg_of X G a20) λus hl=>match us,hl with | [_,_],_=>rfl
 have d_law_low:Df K mg "_law_low" qr ["top","bottom"] []:=zV l21 c21 k21 (PySem.W.mg_of X G a21) λus hl=>match us,hl with | [_,_],_=>rfl
 have d_law_sum:Df K mg "_law_sum" qt ["one","other"] []:=zV l22 c22 k22 (PySem.W.mg_of X G a22) λus hl=>match us,hl with | [_,_],_=>rfl
 have d_law_gap:Df K mg "_law_gap" qq ["one","other"] []:=zV l23 c23 k23 (PySem.W.mg_of X G a23) λus hl=>match us,hl with | [_,_],_=>rfl
 have d_law_below:Df K mg "_law_below" xW ["one","other"] []:=zV l24 c24 k24 (PySem.W.mg_of X G a24) λus hl=>match us,hl with | [_,_],_=>rfl
 have d_law_weight:Df K mg "_law_weight" xI ["pool"] []:=zV l25 c25 k25 (PySem.W.mg_of X G a25) λus hl=>match us,hl with | [_],_=>rfl
 have d_law_small:Df K mg "_law_small" xX ["pool"] []:=zV l26 c26 k26 (PySem.W.mg_of X G a26) λus hl=>match us,hl with | [_],_=>rfl
 have d_law_row:Df K mg "_law_row" qs ["pool","most"] []:=zV l27 c27 k27 (PySem.W.mg_of X G a27) λus hl=>match us,hl with | [_,_],_=>rfl
 have d_law_side:Df K mg "_law_side" qi ["pool","ball","sign","still"] []:=zV l28 c28 k28 (PySem.W.mg_of X G a28) λus hl=>match us,hl with | [_,_,_,_],_=>rfl
 have d_law_bounds:Df K mg "_law_bounds" xG ["pool","row"] []:=zV l29 c29 k29 (PySem.W.mg_of X G a29) λus hl=>match us,hl with | [_,_],_=>rfl
 have d_law_figures:Df K mg "_law_figures" xv ["number"] []:=zV l30 c30 k30 (PySem.W.mg_of X G a30) λus hl=>match us,hl with | [_],_=>rfl
 have d_law_ratio_text:Df K mg "_law_ratio_text" xg ["one"] []:=zV l31 c31 k31 (PySem.W.mg_of X G a31) λus hl=>match us,hl with | [_],_=>rfl
 have d_law_bounds_text:Df K mg "_law_bounds_text" xb ["walls"] []:=zV l32 c32 k32 (PySem.W.mg_of X G a32) λus hl=>match us,hl with | [_],_=>rfl
 have d_law_value:Df K mg "_law_value" xY ["text"] []:=zV l33 c33 k33 (PySem.W.mg_of X G a33) λus hl=>match us,hl with | [_],_=>rfl
 have d_law_read:Df K mg "_law_read" qh ["text"] []:=zV l34 c34 k34 (PySem.W.mg_of X G a34) λus hl=>match us,hl with | [_],_=>rfl
 have d_law_bent:Df K mg "_law_bent" qe ["text","pool"] []:=zV l35 c35 k35 (PySem.W.mg_of X G a35) λus hl=>match us,hl with | [_,_],_=>rfl
 have d_law_read_bounds:Df K mg "_law_read_bounds" xc ["text"] []:=zV l36 c36 k36 (PySem.W.mg_of X G a36) λus hl=>match us,hl with | [_],_=>rfl
 have d_law_amiss:Df K mg "_law_amiss" xV ["walls","pool"] []:=zV l37 c37 k37 (PySem.W.mg_of X G a37) λus hl=>match us,hl with | [_,_],_=>rfl
 have d_law_refused:Df K mg "_law_refused" xw ["thing"] []:=zV l38 c38 k38 (PySem.W.mg_of X G a38) λus hl=>match us,hl with | [_],_=>rfl
 have d_law_told:Df K mg "_law_told" qj ["text"] []:=zV l39 c39 k39 (PySem.W.mg_of X G a39) λus hl=>match us,hl with | [_],_=>rfl
 have T:TxB K mg:=⟨JS K,JR K,PySem.W.mg_none_of X G z_isinstance,PySem.W.mg_none_of X G z_int,PySem.W.mg_none_of X G z_bool,PySem.W.mg_none_of X G z_abs,PySem.W.mg_none_of X G z_len,PySem.W.mg_none_of X G z_max,PySem.W.mg_none_of X G z_min,PySem.W.mg_none_of X G z_range,PySem.W.mg_none_of X G z_tuple,PySem.W.mg_none_of X G z_sum⟩
 have F:=JL (st:=s_law) l40 c40 k40
 refine⟨PySem.W.fnOf "law" "law" (zA s_law) (zp s_law) (zk s_law) .none kV40 dc40 pm40 an40 cd40 ct40,λs v=>.of_eq rfl,λbase hKb hGb=>?_⟩
 have TS:TxS K mg:=⟨JT K,JU K,PySem.W.mg_none_of X G z_str,PySem.W.mg_none_of X G z_all,PySem.W.mg_none_of X G z_list⟩
 have TF:TxF mg tk_FIGURES tk_MOST_FIGURES:=⟨PySem.W.mg_of X G v_FIGURES,PySem.W.mg_of X G v_MOST_FIGURES⟩
 have O:=zad hKb hGb a_NoText x_NoText
 have cW:=QF (P:=l.prog) (w:=w) (base:=base) d_is_whole T
 have cG:=J0 (P:=l.prog) (w:=w) (base:=base) d_greatest_divisor
 have cTu:=Qy (P:=l.prog) (w:=w) (base:=base) d_is_tuple T TS
 have cIr:=J1 d_is_ratio T cTu cW cG
 have cWa:=XZ d_is_wall cTu cIr
 have cWp:=Vs d_is_wall_pair cTu cWa
 have cLs:=VF (P:=l.prog) (w:=w) (base:=base) d_less
 have cWg:=QE d_walls_good cWp cLs
 have c0:=J6 (P:=l.prog) (w:=w) (base:=base) d_number_text TS
 have cNt:=zaR d_number_text TS c0
 have cRt:=zaS d_ratio_text cNt
 have cWx:=zac d_wall_text cRt
 have cWt:=zab d_walls_text cWx
 have cPs:=J7 (P:=l.prog) (w:=w) d_parts_of T TS O
 have cRn:=VG (P:=l.prog) (w:=w) d_read_number T TS TF O
 have cRw:=J8 d_read_whole TF O cRn
 have cRr:=VH d_read_ratio T TF O cPs cRn cRw cIr
 have cWr:=J9 d_wall_read cPs cRr
 have cWs:=VI d_walls_read O cPs cWr cWg
 have cWq:=zaa cWs
 have cD:=JZ (P:=l.prog) (w:=w) (base:=base) d_law_pool T
 have cN:=VE (P:=l.prog) (w:=w) (base:=base) d_law_next
 have cC:=Vv (P:=l.prog) (w:=w) (base:=base) d_law_common
 have cL:=Vy d_law_low T cC
 have cS:=VB d_law_sum cL
 have cGa:=Vx d_law_gap cL
 have cBl:=Vt (P:=l.prog) (w:=w) (base:=base) d_law_below
 have cWe:=VD d_law_weight cN
 have cSm:=VA d_law_small cN cL
 have cRo:=Vz d_law_row T cN cSm cWe cL cS cBl
 have cSi:=QC d_law_side cN cSm cL cS cGa
 have cBo:=Vu d_law_bounds cN cSi cS
 have cFi:=Vw (P:=l.prog) (w:=w) (base:=base) d_law_figures T
 have cLt:=J5 d_law_ratio_text cFi
 have cBt:=J3 d_law_bounds_text cLt
 have cVa:=VC (P:=l.prog) (w:=w) (base:=base) d_law_value T
 have cRd:=QA d_law_read T cVa cC
 have cRb:=J4 d_law_read_bounds T cRd cBl
 have cBe:=Qz d_law_bent T cN
 have cAm:=X0 d_law_amiss T cN cBt
 have cRf:=QB d_law_refused O cWs
 have cTo:=QD d_law_told O cWs
 exact J2 F T cD cRo cBo cBt cWt cWq cRf cAm cBe cTo cRb
theorem walk {l:PySem.W.OpenLaw}{q:Program}{loose:List Str}{XP:(Str->Option Value)->Heap->Prop}{YP:World->Heap->Prop}{d:DefRec}{K:Params->PySem.W.Frag}(hn:l.most=some 63) (hdf:d.params.defaults=[])
  (hY:∀(w:World) (h:Heap),YP w h->(K w.params).In h)
  (F:∀(w:World) (mg:Str->Option Value) (fa:Addr) (h:Heap),(K w.params).In h->h.Ns mainGlobals mg->mg d.name=some (.ref fa) →
   ∃fd:FuncData,(∀(s:Shared) (u:Value),BindsTo s fd ⟨[u],[]⟩ [("script",u)])/\∀base:Heap,(K w.params).In base->base.Ns mainGlobals mg->v5 l.prog w (K w.params) mg base CX0 8 fa fd ["script"] (XD (K w.params))) :
  PySem.W.WalkO q loose XP YP l.row.toRowW d [] (λf vs=>PySem.call f vs) :=
 L2.V7 (n:=63) (k:=8) (x:="script") (CX:=λ_=>CX0) (sp:=λw=>XD (K w.params)) hn (by decide) hdf ⟨rfl,by decide,by decide⟩ hY F (λ_ _ a ns hl _ hS=>⟨a,ns,rfl,hS,hl,λ_=>rfl⟩) λ_ _ _ _ _ z=>z
end KK
open PySem PySem.W PyProof.Rows
set_option maxRecDepth 100000 in
set_option maxHeartbeats 0 in
theorem PySem.Challenge.cw_clackrow_k71_whole_bounds_written_and_re_holds : PySem.Challenge.rw_clackrow_k71_whole_bounds_written_and_re.Holds := by
 w_on;o_law;k_head;(case hw=>w_witness2)
 k_fill
 refine KK.walk (l:=PySem.Challenge.rw_clackrow_k71_whole_bounds_written_and_re) rfl rfl (λw h Y=>PySem.W.kIn_of Y) ?F
 case F =>
  intro w mg fa h KX G hmg
  refine' KK.Js KX G hmg ?a0 ?l0 ?c0 ?k0 ?a1 ?l1 ?c1 ?k1 ?a2 ?l2 ?c2 ?k2 ?a3 ?l3 ?c3 ?k3 ?a4 ?l4 ?c4 ?k4 ?a5 ?l5 ?c5 ?k5 ?a6 ?l6 ?c6 ?k6 ?a7 ?l7 ?c7 ?k7 ?a8 ?l8 ?c8 ?k8 ?a9 ?l9 ?c9 ?k9 ?a10 ?l10 ?c10 ?k10 ?a11 ?l11 ?c11 ?k11 ?a12 ?l12 ?c12 ?k12 ?a13 ?l13 ?c13 ?k13 ?a14 ?l14 ?c14 ?k14 ?a15 ?l15 ?c15 ?k15 ?a16 ?l16 ?c16 ?k16 ?a17 ?l17 ?c17 ?k17 ?a18 ?l18 ?c18 ?k18 ?a19 ?l19 ?c19 ?k19 ?a20 ?l20 ?c20 ?k20 ?a21 ?l21 ?c21 ?k21 ?a22 ?l22 ?c22 ?k22 ?a23 ?l23 ?c23 ?k23 ?a24 ?l24 ?c24 ?k24 ?a25 ?l25 ?c25 ?k25 ?a26 ?l26 ?c26 ?k26 ?a27 ?l27 ?c27 ?k27 ?a28 ?l28 ?c28 ?k28 ?a29 ?l29 ?c29 ?k29 ?a30 ?l30 ?c30 ?k30 ?a31 ?l31 ?c31 ?k31 ?a32 ?l32 ?c32 ?k32 ?a33 ?l33 ?c33 ?k33 ?a34 ?l34 ?c34 ?k34 ?a35 ?l35 ?c35 ?k35 ?a36 ?l36 ?c36 ?k36 ?a37 ?l37 ?c37 ?k37 ?a38 ?l38 ?c38 ?k38 ?a39 ?l39 ?c39 ?k39 ?a40 ?l40 ?c40 ?k40 ?z_isinstance ?z_int ?z_bool ?z_abs ?z_len ?z_max ?z_min ?z_range ?z_tuple ?z_sum ?z_str ?z_all ?z_list ?a_NoText ?x_NoText ?v_FIGURES ?v_MOST_FIGURES
  (case a0=>k_is)
  (case l0=>k_is)
  (case c0=>k_is)
  (case k0=>k_is)
  (case a1=>k_is)
  (case l1=>k_is)
  (case c1=>k_is)
  (case k1=>k_is)
  (case a2=>k_is)
  (case l2=>k_is)
  (case c2=>k_is)
  (case k2=>k_is)
  (case a3=>k_is)
  (case l3=>k_is)
  (case c3=>k_is)
  (case k3=>k_is)
  (case a4=>k_is)
  (case l4=>k_is)
  (case c4=>k_is)
  (case k4=>k_is)
  (case a5=>k_is)
  (case l5=>k_is)
  (case c5=>k_is)
  (case k5=>k_is)
  (case a6=>k_is)
  (case l6=>k_is)
  (case c6=>k_is)
  (case k6=>k_is)
  (case a7=>k_is)
  (case l7=>k_is)
  (case c7=>k_is)
  (case k7=>k_is)
  (case a8=>k_is)
  (case l8=>k_is)
  (case c8=>k_is)
  (case k8=>k_is)
  (case a9=>k_is)
  (case l9=>k_is)
  (case c9=>k_is)
  (case k9=>k_is)
  (case a10=>k_is)
  (case l10=>k_is)
  (case c10=>k_is)
  (case k10=>k_is)
  (case a11=>k_is)
  (case l11=>k_is)
  (case c11=>k_is)
  (case k11=>k_is)
  (case a12=>k_is)
  (case l12=>k_is)
  (case c12=>k_is)
  (case k12=>k_is)
  (case a13=>k_is)
  (case l13=>k_is)
  (case c13=>k_is)
  (case k13=>k_is)
  (case a14=>k_is)
  (case l14=>k_is)
  (case c14=>k_is)
  (case k14=>k_is)
  (case a15=>k_is)
  (case l15=>k_is)
  (case c15=>k_is)
  (case k15=>k_is)
  (case a16=>k_is)
  (case l16=>k_is)
  (case c16=>k_is)
  (case k16=>k_is)
  (case a17=>k_is)
  (case l17=>k_is)
  (case c17=>k_is)
  (case k17=>k_is)
  (case a18=>k_is)
  (case l18=>k_is)
  (case c18=>k_is)
  (case k18=>k_is)
  (case a19=>k_is)
  (case l19=>k_is)
  (case c19=>k_is)
  (case k19=>k_is)
  (case a20=>k_is)
  (case l20=>k_is)
  (case c20=>k_is)
  (case k20=>k_is)
  (case a21=>k_is)
  (case l21=>k_is)
  (case c21=>k_is)
  (case k21=>k_is)
  (case a22=>k_is)
  (case l22=>k_is)
  (case c22=>k_is)
  (case k22=>k_is)
  (case a23=>k_is)
  (case l23=>k_is)
  (case c23=>k_is)
  (case k23=>k_is)
  (case a24=>k_is)
  (case l24=>k_is)
  (case c24=>k_is)
  (case k24=>k_is)
  (case a25=>k_is)
  (case l25=>k_is)
  (case c25=>k_is)
  (case k25=>k_is)
  (case a26=>k_is)
  (case l26=>k_is)
  (case c26=>k_is)
  (case k26=>k_is)
  (case a27=>k_is)
  (case l27=>k_is)
  (case c27=>k_is)
  (case k27=>k_is)
  (case a28=>k_is)
  (case l28=>k_is)
  (case c28=>k_is)
  (case k28=>k_is)
  (case a29=>k_is)
  (case l29=>k_is)
  (case c29=>k_is)
  (case k29=>k_is)
  (case a30=>k_is)
  (case l30=>k_is)
  (case c30=>k_is)
  (case k30=>k_is)
  (case a31=>k_is)
  (case l31=>k_is)
  (case c31=>k_is)
  (case k31=>k_is)
  (case a32=>k_is)
  (case l32=>k_is)
  (case c32=>k_is)
  (case k32=>k_is)
  (case a33=>k_is)
  (case l33=>k_is)
  (case c33=>k_is)
  (case k33=>k_is)
  (case a34=>k_is)
  (case l34=>k_is)
  (case c34=>k_is)
  (case k34=>k_is)
  (case a35=>k_is)
  (case l35=>k_is)
  (case c35=>k_is)
  (case k35=>k_is)
  (case a36=>k_is)
  (case l36=>k_is)
  (case c36=>k_is)
  (case k36=>k_is)
  (case a37=>k_is)
  (case l37=>k_is)
  (case c37=>k_is)
  (case k37=>k_is)
  (case a38=>k_is)
  (case l38=>k_is)
  (case c38=>k_is)
  (case k38=>k_is)
  (case a39=>k_is)
  (case l39=>k_is)
  (case c39=>k_is)
  (case k39=>k_is)
  (case a40=>k_is)
  (case l40=>k_is)
  (case c40=>k_is)
  (case k40=>k_is)
  (case z_isinstance=>k_is)
  (case z_int=>k_is)
  (case z_bool=>k_is)
  (case z_abs=>k_is)
  (case z_len=>k_is)
  (case z_max=>k_is)
  (case z_min=>k_is)
  (case z_range=>k_is)
  (case z_tuple=>k_is)
  (case z_sum=>k_is)
  (case z_str=>k_is)
  (case z_all=>k_is)
  (case z_list=>k_is)
  (case a_NoText=>k_is)
  (case x_NoText=>k_exc)
  (case v_FIGURES=>k_is)
  (case v_MOST_FIGURES=>k_is)
end
