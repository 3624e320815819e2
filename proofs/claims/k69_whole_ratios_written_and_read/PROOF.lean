import PyProof.Rows.All
import Wide.All
import OpenK.AllK
import Wide.FinOn
import Lean
import PyProof.EqAt
import PyProof.EqKinds
import PyProof.TupleCall
import PyProof.CompFree
import PyProof.Rows.SumAny
import PyProof.ZipIter
import PyProof.ConsumeWalk
import PySem.Challenge.RW_clackrow_k69_whole_ratios_written_and_re
import KE.KIntText
import PyProof.StrCalls2
import PyProof.StrBlockH
import PyProof.StrCalls6
import PyProof.StrWalks
import PyProof.Rows.FStr
import PyProof.Rows.RuleDivmod
import PyProof.Rows.RuleB_pow
import PyProof.StrOps2
import PyProof.StrCalls
import PyProof.StrLawsTight
import PyProof.StrBlock
import PyProof.StrLawsIn
set_option Elab.async false
set_option linter.all false
set_option maxRecDepth 100000
namespace L2
open PySem PySem.Spec PyProof.Rows
abbrev Key:=Sum Int Str
def Jp:Key->Value->Bool
 | .inl k,v=>Value.isInt k v
 | .inr x,v=>Value.isStrOf x v
def keyH (w:World):Key->Int
 | .inl k=>hashInt k
 | .inr x=>hashStr w x
theorem xf:∀{k:Key}{v:Value},Jp k v=true->(∃i t,k=Sum.inl i/\v=Value.int i t)\/(∃x t,k=Sum.inr x/\v=Value.str x t)
 | .inl i,v,h=>by
  obtain⟨t,e⟩:=Value.isInt_shape (k:=i) (v:=v) h
  exact .inl ⟨i,t,rfl,e⟩
 | .inr x,v,h=>by
  obtain⟨t,e⟩:=Value.isStrOf_shape (x:=x) (v:=v) h
  exact .inr ⟨x,t,rfl,e⟩
theorem J3 (a b:Int):decide ((Sum.inl a:Key)=Sum.inl b)=(a == b):=by
 by_cases e:a=b
 ·subst e;simp
 ·have h:¬(Sum.inl a:Key)=Sum.inl b:=λq=>e (Sum.inl.inj q)
  rw[decide_eq_false h]
  exact(beq_eq_false_iff_ne.mpr e).symm
theorem J6 (a b:Str):decide ((Sum.inr a:Key)=Sum.inr b)=decide (a=b):=by
 by_cases e:a=b
 ·subst e;simp
 ·have h:¬(Sum.inr a:Key)=Sum.inr b:=λq=>e (Sum.inr.inj q)
  rw[decide_eq_false h,decide_eq_false e]
theorem J4 (a:Int) (b:Str):decide ((Sum.inl a:Key)=Sum.inr b)=false:=decide_eq_false (λq=>nomatch q)
theorem J5 (a:Str) (b:Int):decide ((Sum.inr a:Key)=Sum.inl b)=false:=decide_eq_false (λq=>nomatch q)
def j5 (prog:Program) (w:World):PySem.KeyKind prog w Key where
 is:=Jp
 hash:=keyH w
 inj:=λv a b ha hb=>by
  rcases xf ha with⟨i,t,rfl,rfl⟩ | ⟨x,t,rfl,rfl⟩
  ·rcases xf hb with⟨j,u,rfl,e⟩ | ⟨y,u,rfl,e⟩
   ·injection e with e1 _;rw[e1]
   ·exact nomatch e
  ·rcases xf hb with⟨j,u,rfl,e⟩ | ⟨y,u,rfl,e⟩
   ·exact nomatch e
   ·injection e with e1 _;rw[e1]
 byValue:=λk v h=>by
  rcases xf h with⟨i,t,rfl,rfl⟩ | ⟨x,t,rfl,rfl⟩ <;> rfl
 pyHash:=λhv h=>by
  rcases xf hv with⟨i,t,rfl,rfl⟩ | ⟨x,t,rfl,rfl⟩
  ·exact wpAny_pyHash_int h
  ·exact wpAny_pyHash_str h
 eqBool:=λhu hv h=>by
  rcases xf hu with⟨i,t,rfl,rfl⟩ | ⟨x,t,rfl,rfl⟩
  ·rcases xf hv with⟨j,u,rfl,rfl⟩ | ⟨y,u,rfl,rfl⟩
   ·rw[J3]at h;exact wpAny_eqBool_int h
   ·rw[J4]at h;exact SeqAt.EqAt.int_str i t y u _ _ _ _ h
  ·rcases xf hv with⟨j,u,rfl,rfl⟩ | ⟨y,u,rfl,rfl⟩
   ·rw[J5]at h;exact SeqAt.EqAt.str_int x t j u _ _ _ _ h
   ·rw[J6]at h;exact wpAny_eqBool_str h
 «strs»:=λk x t v h=>by
  rcases xf h with⟨i,u,rfl,e⟩ | ⟨y,u,rfl,e⟩
  ·exact nomatch e
  ·injection e with e1 _
   subst e1
   cases v <;> rfl
end L2
namespace L2
open PySem PySem.Spec PyProof.Rows
inductive V where
 | non | bl (b:Bool) | int (i:Int) | str (x:Str) | byt (b:Array UInt8) | flt (b:UInt64) | ref (a:Addr) | ty (n:String)
 deriving DecidableEq
def xc:V->Value->Prop
 | .non,u=>u=Value.none
 | .bl b,u=>u=Value.bool b
 | .int i,u=>∃t,u=Value.int i t
 | .str x,u=>∃t,u=Value.str x t
 | .byt b,u=>∃t,u=Value.bytes b t
 | .flt b,u=>∃t,u=Value.float b t
 | .ref a,u=>u=Value.ref a
 | .ty n,u=>u=Value.type n
abbrev zM:List V->List Value->Prop:=Paired xc
theorem zM.length {xs:List V}{us:List Value}(r:zM xs us):xs.length=us.length:=Paired.length r
theorem zM.get:∀{xs:List V}{us:List Value}{i:Nat}{x:V},zM xs us->xs[i]? = some x->∃u,us[i]? = some u/\xc x u
 | _,_,_,_,.nil,e=>by simp at e
 | _,_,0,_,.cons r _,e=>by simp at e;subst e;exact⟨_,rfl,r⟩
 | _,_,i+1,x,.cons _ t,e=>by
  obtain⟨u,h1,h2⟩:=zM.get (i:=i) (x:=x) t (by simpa using e)
  exact⟨u,by simpa using h1,h2⟩
theorem zM.set {x:V}{u:Value}(r:xc x u):∀{xs:List V}{us:List Value}(i:Nat),zM xs us->zM (xs.set i x) (us.set i u)
 | _,_,_,.nil=>.nil
 | _,_,0,.cons _ t=>.cons r t
 | _,_,i+1,.cons q t=>.cons q (zM.set r i t)
theorem zM.append:∀{xs ys:List V}{us ws:List Value},zM xs us->zM ys ws->zM (xs++ys) (us++ws)
 | _,_,_,_,.nil,s=>s
 | _,_,_,_,.cons r t,s=>.cons r (zM.append t s)
def JL:Option V->Option Value->Prop
 | some v,some u=>xc v u
 | none,none=>True
 | _,_=>False
def KV {κ:Type}:List (κ×V)->List (κ×Value)->Prop:=Paired λ(p:κ×V) (q:κ×Value)=>p.1=q.1/\xc p.2 q.2
def kV:Key->V
 | .inl i=>.int i
 | .inr x=>.str x
inductive HO where
 | lst (xs:List V)
 | tup (xs:List V)
 | dK (kvs:List (Key×V)) | dT (kvs:List (List Key×V))
 | set (S:Int->Bool) (n:Nat)
 | ins (C dx:Addr) (fs:List (Str×V))
 | own (x:Addr)
 | xd (fs:List (Str×V))
 | met (f x:Addr)
 | rng (lo hi:Int)
 | frz (o:Obj) (u:HO)
 | tbl (ps:Array Value)
 | ext (φ:Heap->Prop)
abbrev Hp:=Addr->Option HO
def upd (H:Hp) (a:Addr) (o:HO):Hp:=λb=>if b=a then some o else H b
theorem zi {H:Hp}{a:Addr}{o:HO}:upd H a o a=some o:=by unfold upd;rw[if_pos rfl]
theorem zX {H:Hp}{a b:Addr}{o:HO}(h:b≠a):upd H a o b=H b:=by unfold upd;rw[if_neg h]
theorem Jq {H:Hp}{a b:Addr}{o u:HO}(h:H a=some o) (h':H b=some u) (d:o≠u):a≠b:=by
 intro e;subst e;rw[h]at h';exact d (Option.some.inj h')
theorem z9 {H:Hp}{a b:Addr}{o:HO}(h:H a=some o) (h':H b=none):a≠b:=by
 intro e;subst e;rw[h]at h';cases h'
section
variable (P:Program) (w:World)
def xy (H:Hp) (h:Heap) (a:Addr):HO->Prop
 | .lst xs=>xs.length<=sizeLine/\∃(its:List Value) (n:Nat),zM xs its/\h.get? a=some { cls:=.type "list",data:=.seq its.toArray n }
 | .tup xs=>xs.length<=sizeLine/\∃its:List Value,zM xs its/\IsTup h a its.toArray
 | .dK kvs=>kvs.length<=sizeLine/\(a == sysModules)=false/\∃vs,KV kvs vs/\h.DictOf (j5 P w) a vs
 | .dT kvs=>kvs.length<=sizeLine/\(a == sysModules)=false/\∃xs:List (List Key×Addr×Value),
   Paired (λ(p:List Key×V) (q:List Key×Addr×Value)=>p.1=q.1/\H q.2.1=some (.tup (p.1.map kV))/\xc p.2 q.2.2) kvs xs ∧
   ∃o es ep,h.get? a=some o/\o.ExactDict/\o.data = .dict es ep/\es.toList=xs.map (entryOfKey (tupleKind (j5 P w)))/\(xs.map (·.1)).Nodup
 | .set S n=>h.SetOf (intKind P w) a S n
 | .ins C dx fs=>H dx=some (.own a)/\fs.length<=1000/\dx≠a/\h.get? a=some (PySem.W.instObj C dx) ∧
   ∃mA,h.Ns1 dx mA/\(∀f,JL (fs.lookup f) (mA f))/\PySem.Within mA (fs.map (·.1))
 | .own _=>∃o,h.get? a=some o
 | .xd fs=>∃mA,h.Ns1 a mA/\∀f,JL (fs.lookup f) (mA f)
 | .rng lo hi=>∃t u v,h.get? a=some { cls:=.type "range",data:=.fields #[.int lo t,.int hi u,.int 1 v] }
 | .frz o u=>h.get? a=some o/\xy H h a u
 | .tbl ps=>h.get? a=some { cls:=.none,data:=.fields ps }
 | .met f x=>h.get? a=some (PySem.W.methodObj (.ref f) (.ref x))
 | .ext φ=>φ h/\(∃o,h.get? a=some o)/\∀h1 h2:Heap,φ h1->(∀o,h1.get? a=some o->h2.get? a=some o)->φ h2
def HOk (H:Hp) (h:Heap):Prop:=∀a o,H a=some o->xy P w H h a o
end
section
variable {P:Program}{w:World}{H H':Hp}{h h':Heap}{a:Addr}{o:HO}
theorem xy.lt (x:xy P w H h a o):a<h.objs.size:=by
 cases o with
 | lst xs=>obtain⟨_,_,_,_,e⟩:=x;exact Heap.lt_size e
 | tup xs=>obtain⟨_,_,_,p⟩:=x;exact p.lt
 | dK kvs=>obtain⟨_,_,_,_,o,_,_,e,_⟩:=x;exact Heap.lt_size e
 | dT kvs=>obtain⟨_,_,_,_,o,_,_,e,_⟩:=x;exact Heap.lt_size e
 | set S n=>obtain⟨o,_,_,_,e,_⟩:=x;exact Heap.lt_size e
 | ins C dx fs=>obtain⟨_,_,_,e,_⟩:=x;exact Heap.lt_size e
 | own y=>obtain⟨_,e⟩:=x;exact Heap.lt_size e
 | xd fs=>obtain⟨_,⟨_,_,_,e,_⟩,_⟩:=x;exact Heap.lt_size e
 | rng lo hi=>obtain⟨_,_,_,e⟩:=x;exact Heap.lt_size e
 | frz ob u=>obtain⟨e,_⟩:=x;exact Heap.lt_size e
 | tbl ps=>exact Heap.lt_size (show h.get? a=some _ from x)
 | met f y=>exact Heap.lt_size (show h.get? a=some _ from x)
 | ext φ=>obtain⟨_,⟨_,e⟩,_⟩:=x;exact Heap.lt_size e
theorem Paired.mapP {α β:Type}{F G:α->β->Prop}:∀{l₁:List α}{l₂:List β},Paired F l₁ l₂->(∀a b,F a b->G a b)->Paired G l₁ l₂
 | _,_,.nil,_=>.nil
 | _,_,.cons r t,f=>.cons (f _ _ r) (Paired.mapP t f)
theorem xy.stay (x:xy P w H h a o) (k:∀b u,(b=a\/H b=some (.own a))->h.get? b=some u->h'.get? b=some u)
  (ho:∀b,H b=some (.own a)->H' b=some (.own a)) (ht:∀b xs,H b=some (.tup xs)->H' b=some (.tup xs)):xy P w H' h' a o:=by
 induction o with
 | lst xs=>obtain⟨z,its,n,r,e⟩:=x;exact⟨z,its,n,r,k _ _ (.inl rfl) e⟩
 | tup xs=>obtain⟨z,its,r,ob,e,c⟩:=x;exact⟨z,its,r,ob,k _ _ (.inl rfl) e,c⟩
 | dK kvs=>obtain⟨z,y,vs,r,ob,es,ep,e,c⟩:=x;exact⟨z,y,vs,r,ob,es,ep,k _ _ (.inl rfl) e,c⟩
 | dT kvs =>
  obtain⟨z,y,xs,r,ob,es,ep,e,c⟩:=x
  exact⟨z,y,xs,Paired.mapP r λp q z=>⟨z.1,ht _ _ z.2.1,z.2.2⟩,ob,es,ep,k _ _ (.inl rfl) e,c⟩
 | set S n=>obtain⟨ob,es,ep,t,e,c⟩:=x;exact⟨ob,es,ep,t,k _ _ (.inl rfl) e,c⟩
 | ins C dx fs =>
  obtain⟨d,z,ne,e,mA,⟨od,es,ep,e2,c⟩,r⟩:=x
  exact⟨ho _ d,z,ne,k _ _ (.inl rfl) e,mA,⟨od,es,ep,k _ _ (.inr d) e2,c⟩,r⟩
 | own y=>obtain⟨ob,e⟩:=x;exact⟨ob,k _ _ (.inl rfl) e⟩
 | xd fs=>obtain⟨mA,⟨od,es,ep,e,c⟩,r⟩:=x;exact⟨mA,⟨od,es,ep,k _ _ (.inl rfl) e,c⟩,r⟩
 | rng lo hi=>obtain⟨t,u,v,e⟩:=x;exact⟨t,u,v,k _ _ (.inl rfl) e⟩
 | frz ob u ih=>obtain⟨e,q⟩:=x;exact⟨k _ _ (.inl rfl) e,ih q⟩
 | tbl ps =>
  have e:h.get? a=some { cls:=.none,data:=.fields ps }:=x
  show h'.get? a=some { cls:=.none,data:=.fields ps }
  exact k a _ (.inl rfl) e
 | met f y =>
  have e:h.get? a=some (PySem.W.methodObj (.ref f) (.ref y)):=x
  show h'.get? a=some (PySem.W.methodObj (.ref f) (.ref y))
  exact k a _ (.inl rfl) e
 | ext φ=>obtain⟨p,⟨o,e⟩,st⟩:=x;exact⟨st _ _ p λo q=>k _ _ (.inl rfl) q,⟨o,k _ _ (.inl rfl) e⟩,st⟩
theorem HOk.lt (x:HOk P w H h) (e:H a=some o):a<h.objs.size:=(x a o e).lt
theorem HOk.fresh (x:HOk P w H h) (e:h.objs.size<=a):H a=none:=by
 cases q:H a with
 | none=>rfl
 | some u=>exact absurd (Nat.lt_of_lt_of_le (x.lt q) e) (Nat.lt_irrefl _)
theorem HOk.kept (x:HOk P w H h) (k:∀b u,h.get? b=some u->h'.get? b=some u):HOk P w H h':=λa o e =>
 (x a o e).stay (λb u _ q=>k b u q) (λ_ q=>q) λ_ _ q=>q
theorem HOk.laid (x:HOk P w H h) (k:∀b u,h.get? b=some u->h'.get? b=some u) (hp:h.objs.size<=a) (new:xy P w (upd H a o) h' a o):HOk P w (upd H a o) h':=λb u e=>by
 have hn:=x.fresh hp
 by_cases hb:b=a
 ·subst hb;rw[zi]at e;cases e;exact new
 ·rw[zX hb]at e
  exact(x b u e).stay (λc v _ q=>k c v q) (λc q=>by rw[zX (z9 q hn)];exact q) λc xs q=>by rw[zX (z9 q hn)];exact q
end
def Rd (H:Hp) (a:Addr) (u:HO):Prop:=H a=some u\/∃o,H a=some (.frz o u)
theorem Rd.ok {P:Program}{w:World}{H:Hp}{h:Heap}{a:Addr}{u:HO}(r:Rd H a u) (x:HOk P w H h):xy P w H h a u:=by
 rcases r with r | ⟨o,r⟩
 ·exact x a u r
 ·obtain⟨_,q⟩:=x a _ r
  exact q
def Mut:Option HO->Prop
 | some (.lst _)=>True
 | some (.dK _)=>True
 | some (.dT _)=>True
 | some (.set _ _)=>True
 | some (.ins _ _ _)=>True
 | some (.ext _)=>True
 | _=>False
section
variable {P:Program}{w:World}{H:Hp}{h h':Heap}{x e:Addr}{o':HO}
theorem HOk.write (ok:HOk P w H h) (mu:Mut (H x)) (he:e=x\/H e=some (.own x)) (k:∀b u,b≠e->h.get? b=some u->h'.get? b=some u) (heo:∃u,h'.get? e=some u)
  (new:xy P w (upd H x o') h' x o'):HOk P w (upd H x o') h':=λb u q=>by
 have nown:∀c y,H c=some (.own y)->c≠x:=λc y r z=>by subst z;rw[r]at mu;exact mu
 have ntup:∀c xs,H c=some (.tup xs)->c≠x:=λc xs r z=>by subst z;rw[r]at mu;exact mu
 by_cases hb:b=x
 ·subst hb;rw[zi]at q;cases q;exact new
 ·rw[zX hb]at q
  by_cases hbe:b=e
  ·have q':H b=some (.own x):=by
    rcases he with z | z
    ·exact absurd (hbe.trans z) hb
    ·rw[hbe];exact z
   rw[q]at q';cases q'
   obtain⟨v,hv⟩:=heo
   exact⟨v,by rw[hbe];exact hv⟩
  ·refine(ok b u q).stay (λc v hc r=>k c v ?_ r) (λc r=>by rw[zX (nown c b r)];exact r) λc xs r=>by rw[zX (ntup c xs r)];exact r
   rcases hc with rfl | hc
   ·exact hbe
   ·rintro rfl
    rcases he with z | z
    ·exact nown c b hc z
    ·rw[hc]at z;cases z;exact hb rfl
end
structure Un (fs ex:List Addr) (H H':Hp) (h h':Heap):Prop where
 keep:∀b o,h.get? b=some o->H b=none->b∉fs->b∉ex->h'.get? b=some o
 slot:∀b o,h.get? b=some o->H b=none->b∈fs->b∉ex->∃sl,h'.get? b=some { o with slots:=sl }
 free:∀b o,h.get? b=some o->H b=none->b∉ex->H' b=none
 there:∀b o,h.get? b=some o->b∉ex->∃o',h'.get? b=some o'
 tups:∀b xs,H b=some (.tup xs)->H' b=some (.tup xs)
 frzs:∀b o u,H b=some (.frz o u)->H' b=some (.frz o u)
 tbls:∀b ps,H b=some (.tbl ps)->∃more,H' b=some (.tbl (ps++more))
section
variable {fs fs' ex ex':List Addr}{H H1 H2:Hp}{h h1 h2 h':Heap}{a x e:Addr}{o:HO}
theorem Un.any (u:Un fs ex H H1 h h1){b:Addr}{ob:Obj}(q:h.get? b=some ob) (n:H b=none) (hx:b∉ex):∃sl,h1.get? b=some { ob with slots:=sl }:=by
 by_cases hb:b∈fs
 ·exact u.slot b ob q n hb hx
 ·exact⟨ob.slots,u.keep b ob q n hb hx⟩
theorem Un.kept (k:∀b u,h.get? b=some u->h'.get? b=some u):Un fs ex H H h h' :=
 ⟨λb ob q _ _ _=>k b ob q,λb ob q _ _ _=>⟨ob.slots,k b ob q⟩,λ_ _ _ n _=>n,λb ob q _=>⟨ob,k b ob q⟩,λ_ _ q=>q,λ_ _ _ q=>q,λ_ ps q=>⟨#[],by rw[q];simp⟩⟩
theorem Un.refl:Un fs ex H H h h:=Un.kept λ_ _ q=>q
theorem Un.laid (k:∀b u,h.get? b=some u->h'.get? b=some u) (hp:h.objs.size<=a) (hn:H a=none):Un fs ex H (upd H a o) h h' where
 keep:=λb u q _ _ _=>k b u q
 slot:=λb u q _ _ _=>⟨u.slots,k b u q⟩
 free:=λb u q n _=>by rw[zX (Nat.ne_of_lt (Nat.lt_of_lt_of_le (Heap.lt_size q) hp))];exact n
 there:=λb u q _=>⟨u,k b u q⟩
 tups:=λb xs q=>by rw[zX (z9 q hn)];exact q
 frzs:=λb u xs q=>by rw[zX (z9 q hn)];exact q
 tbls:=λb ps q=>⟨#[],by rw[zX (z9 q hn),q];simp⟩
theorem Un.write (mu:Mut (H x)) (he:e=x\/H e=some (.own x)) (k:∀b u,b≠e->h.get? b=some u->h'.get? b=some u) (heo:∃u,h'.get? e=some u):Un fs ex H (upd H x o) h h':=by
 have hx:∀b,H b=none->b≠x:=λb n z=>by subst z;rw[n]at mu;exact mu
 have hb:∀b,H b=none->b≠e:=λb n z=>by
  subst z
  rcases he with r | r
  ·exact hx b n r
  ·rw[n]at r;cases r
 have hm:∀b u,H b=some u->¬Mut (some u)->b≠x:=λb u q nm z=>by subst z;rw[q]at mu;exact nm mu
 refine⟨λb u q n _ _=>k b u (hb b n) q,λb u q n _ _=>⟨u.slots,k b u (hb b n) q⟩,λb u q n _=>by rw[zX (hx b n)];exact n,λb u q _=>?_,
  λb xs q=>by rw[zX (hm b _ q λz=>z)];exact q,λb u xs q=>by rw[zX (hm b _ q λz=>z)];exact q,λb ps q=>⟨#[],by rw[zX (hm b _ q λz=>z),q];simp⟩⟩
 by_cases hbe:b=e
 ·subst hbe;exact heo
 ·exact⟨u,k b u hbe q⟩
end
def trk (h:Heap) (H:Hp):List Addr:=(List.range h.objs.size).filter λa=>(H a).isSome
def jZ (h:Heap) (H:Hp):Heap:=PySem.W.hideAll h (trk h H)
theorem XO (h:Heap) (H:Hp):(jZ h H).objs.size=h.objs.size:=PySem.W.hideAll_size _ _
theorem Qt {h:Heap}{H:Hp}{b:Addr}{o:Obj}(e:h.get? b=some o) (n:H b=none):(jZ h H).get? b=some o :=
 PySem.W.hideAll_get _ e λhm=>by
  have q:(H b).isSome=true:=(List.mem_filter.mp hm).2
  rw[n]at q;simp at q
theorem VN {h:Heap}{H:Hp}{b:Addr}{o:Obj}(e:(jZ h H).get? b=some o):h.get? b=some o/\H b=none:=by
 have e':h.get? b=some o:=PySem.W.of_hideAll (trk h H) e
 refine⟨e',?_⟩
 cases q:H b with
 | none=>rfl
 | some x =>
  have hm:b∈trk h H:=List.mem_filter.mpr ⟨List.mem_range.mpr (Heap.lt_size e'),by simp[q]⟩
  have z:(jZ h H).get? b=none:=PySem.W.hideAll_none (trk h H) hm
  rw[z]at e;cases e
end L2
namespace L2
open PySem PySem.Spec PyProof.Rows
structure Mod (K:PySem.W.Frag) (mg:Str->Option Value) (base:Heap):Prop where
 kin:K.In base
 glob:base.Ns mainGlobals mg
 blt:∃mb,base.Ns builtinsNs mb/\∀x:Str,x≠"__name__"->mb x=bootBuiltins x
 nolimit:base.NoLimit
structure Cx where
 prog:Program
 w:World
 K:PySem.W.Frag
 mg:Str->Option Value
 base:Heap
 A:Around
 N:List Str
 s₀:Shared
 H₀:Hp
 env:Env
 outer:List Env
 stack:List Env
 ex:List Addr
 fn:Str->Bool
 calm:Bool
 pn:List (Addr×Obj)
 xe:Value->Shared->Prop
def frs (l:List Env):List Addr:=l.filterMap (·.frame)
abbrev Cx.fs (X:Cx):List Addr:=frs X.outer
def Vis (sc:Scope) (x:Str):Prop:=sc.names.lookup x=some .local ∨ sc.names.lookup x=some .cell\/sc.names.lookup x=some .free
def Loc (sc:Scope) (x:Str):Prop:=sc.names.lookup x=some .local ∨ sc.names.lookup x=some .cell
def Look (env:Env) (h:Heap) (m:Str->Option Value) (x:Str) (u:Value):Prop :=
 (env.kindOf x=some .local ∧ m x=some u)\/((env.kindOf x=some .cell\/env.kindOf x=some .free)/\∃c,env.cells.lookup x=some c/\h.IsCell c (some u))
structure Cx.Ok (X:Cx):Prop where
 mod:Mod X.K X.mg X.base
 kind:X.env.scope.kind = .function
 glob:X.env.globals=mainGlobals
 blt:X.env.builtins=builtinsNs
 above:X.s₀.heap.objs.size<=X.env.locals
 inj:∀x y c,X.env.cells.lookup x=some c->X.env.cells.lookup y=some c->x=y
 has:∀x,(X.env.kindOf x=some .cell\/X.env.kindOf x=some .free)->∃c,X.env.cells.lookup x=some c
 cab:∀x c,X.fn x=true->X.env.cells.lookup x=some c->X.s₀.heap.objs.size<=c
 hd:X.calm=true->X.A.handled=none
 frames:X.A.frames=some X.stack
 stk:X.stack=X.outer\/(X.stack=X.env::X.outer/\X.env.frame=some X.env.locals)
 exf:∀b∈X.ex,b≠X.env.locals/\∀x c,X.env.cells.lookup x=some c->c≠b
 bs:∀b o,X.base.get? b=some o->X.s₀.heap.get? b=some o/\X.H₀ b=none
 bsz:X.base.objs.size<=X.s₀.heap.objs.size
 noex:∀b o,X.base.get? b=some o->b∉X.ex
 exfs:∀b∈X.ex,b∉X.fs
 funs:X.s₀.heap.FunFrames X.base X.outer
 frf:∀b∈X.fs,X.H₀ b=none
structure Inv (X:Cx) (pins:List (Addr×Obj)) (σ:List (Option V)) (H:Hp) (s:Shared):Prop where
 ok:X.Ok
 os:s.os=X.s₀.os
 bare:AllBare s.gens
 base:Un X.fs X.ex X.H₀ H X.s₀.heap s.heap
 loc:∃m,s.heap.Ns X.env.locals m/\∀(i:Nat) (x:Str) (v:V),X.N[i]? = some x->σ[i]? = some (some v)->Vis X.env.scope x->∃u,xc v u/\Look X.env s.heap m x u
 cell:∀x c,X.env.cells.lookup x=some c->∃v,s.heap.IsCell c v
 free:H X.env.locals=none
 freeC:∀x c,X.env.cells.lookup x=some c->H c=none
 pin:∀p∈X.pn++pins,s.heap.get? p.1=some p.2/\H p.1=none/\p.1≠X.env.locals/\p.1∉X.fs/\∀v,p.2.data≠.cell v
 hok:HOk X.prog X.w H s.heap
 len:σ.length=X.N.length
section
variable {X:Cx}{pins:List (Addr×Obj)}{σ:List (Option V)}{H H':Hp}{s:Shared}{h':Heap}
theorem Cx.Ok.nofr (ok:X.Ok){b:Addr}{o:Obj}(e:X.base.get? b=some o):b∉X.fs:=λhb=>by
 have:=(ok.funs.mem hb).1
 rw[e]at this;cases this
theorem Inv.bs (I:Inv X pins σ H s):∀b o,X.base.get? b=some o->s.heap.get? b=some o/\H b=none:=λb o e =>
 ⟨I.base.keep b o (I.ok.bs b o e).1 (I.ok.bs b o e).2 (I.ok.nofr e) (I.ok.noex b o e),I.base.free b o (I.ok.bs b o e).1 (I.ok.bs b o e).2 (I.ok.noex b o e)⟩
theorem Inv.bk (I:Inv X pins σ H s):∀b o,X.base.get? b=some o->s.heap.get? b=some o:=λb o e=>(I.bs b o e).1
theorem Inv.mod (I:Inv X pins σ H s):Mod X.K X.mg X.base:=I.ok.mod
theorem Inv.kIn (I:Inv X pins σ H s):X.K.In s.heap:=I.ok.mod.kin.keeps I.bk
theorem Inv.lt (I:Inv X pins σ H s):X.env.locals<s.heap.objs.size:=let ⟨_,hn,_⟩:=I.loc;hn.lt
theorem Inv.sz (I:Inv X pins σ H s):X.s₀.heap.objs.size<=s.heap.objs.size:=Nat.le_trans I.ok.above (Nat.le_of_lt I.lt)
theorem Inv.nofs (I:Inv X pins σ H s){a:Addr}(h:s.heap.objs.size<=a):a∉X.fs:=λhb=>by
 obtain⟨_,o,ho,_⟩:=I.ok.funs.mem hb
 exact absurd (Nat.lt_of_lt_of_le (Heap.lt_size ho) (Nat.le_trans I.sz h)) (Nat.lt_irrefl _)
theorem Inv.cne (I:Inv X pins σ H s):∀x c,X.env.cells.lookup x=some c->c≠X.env.locals:=λx c e z=>by
 obtain⟨v,o,ho,hd⟩:=I.cell x c e
 obtain⟨m,⟨o',es,ep,ho',hd',_⟩,_⟩:=I.loc
 rw[z,ho']at ho;cases ho;rw[hd']at hd;cases hd
theorem Inv.funs (I:Inv X pins σ H s):s.heap.FunFrames X.base X.outer:=by
 have all:∀(l:List Env),(∀b∈frs l,b∈X.fs)->X.s₀.heap.FunFrames X.base l->s.heap.FunFrames X.base l:=by
  intro l
  induction l with
  | nil=>intro _ _;trivial
  | cons env r ih =>
   intro hs hl
   obtain⟨hk,⟨L,o,hf,hn,ho,hd⟩,hr⟩:=hl
   have hL:L∈X.fs:=hs L (by unfold frs;rw[List.filterMap_cons,hf];exact List.mem_cons_self)
   obtain⟨sl,e⟩:=I.base.slot L o ho (I.ok.frf L hL) hL λz=>I.ok.exfs L z hL
   exact⟨hk,⟨L,_,hf,hn,e,hd⟩,ih (λb hb=>hs b (by unfold frs;rw[List.filterMap_cons,hf];exact List.mem_cons_of_mem _ hb)) hr⟩
 exact all X.outer (λ_ hb=>hb) I.ok.funs
theorem Inv.stack (I:Inv X pins σ H s):s.heap.FunFrames X.base X.stack:=by
 rcases I.ok.stk with e | ⟨e,hf⟩
 ·rw[e];exact I.funs
 ·rw[e]
  obtain⟨m,hn,_⟩:=I.loc
  refine .cons (by rw[I.ok.kind];decide) hf hn ?_ I.funs
  exact Heap.get?_none_of_le (Nat.le_trans I.ok.bsz I.ok.above)
theorem Inv.stkSub (I:Inv X pins σ H s):∀b∈frs X.stack,b∈X.env.locals::X.fs:=λb hb=>by
 rcases I.ok.stk with e | ⟨e,hf⟩
 ·rw[e]at hb;exact List.mem_cons_of_mem _ hb
 ·rw[e]at hb
  unfold frs at hb
  rw[List.filterMap_cons,hf]at hb
  exact hb
theorem Inv.stkFree (I:Inv X pins σ H s):∀b∈frs X.stack,H b=none:=λb hb=>by
 rcases List.mem_cons.mp (I.stkSub b hb)with e | hb
 ·rw[e];exact I.free
 ·obtain⟨_,o,ho,_⟩:=I.ok.funs.mem hb
  exact I.base.free b o ho (I.ok.frf b hb) λz=>I.ok.exfs b z hb
theorem Inv.step {g':Array GenState}{t':Nat}{d':Drawn}{ch:List Addr}(I:Inv X pins σ H s)
  (hch:∀b∈ch,(b∈X.ex\/X.s₀.heap.objs.size<=b)/\b≠X.env.locals/\(∀x c,X.env.cells.lookup x=some c->c≠b)/\∀p∈X.pn++pins,p.1≠b)
  (keep:∀b o,b≠X.env.locals->b∉X.fs->b∉ch->s.heap.get? b=some o->H b=none->h'.get? b=some o)
  (slot:∀b o,b≠X.env.locals->b∈X.fs->b∉ch->s.heap.get? b=some o->H b=none->∃sl,h'.get? b=some { o with slots:=sl }) (free:∀b o,b∉ch->s.heap.get? b=some o->H b=none->H' b=none)
  (there:∀b o,b∉ch->s.heap.get? b=some o->∃o',h'.get? b=some o')
  (tups:∀b xs,H b=some (.tup xs)->H' b=some (.tup xs)) (frzs:∀b o u,H b=some (.frz o u)->H' b=some (.frz o u)) (tbls:∀b ps,H b=some (.tbl ps)->∃more,H' b=some (.tbl (ps++more)))
  (ns:∀m,s.heap.Ns X.env.locals m->h'.Ns X.env.locals m) (hok:HOk X.prog X.w H' h') (hg:AllBare g') :
  Inv X pins σ H' { s with heap:=h',gens:=g',drawn:=d',toks:=t' }:=by
 have neL:∀b o,X.s₀.heap.get? b=some o->b≠X.env.locals:=λb o e=>Nat.ne_of_lt (Nat.lt_of_lt_of_le (Heap.lt_size e) I.ok.above)
 have neC:∀b o,X.s₀.heap.get? b=some o->b∉X.ex->b∉ch:=λb o e hx hb=>by
  rcases(hch b hb).1 with z | z
  ·exact hx z
  ·exact absurd (Nat.lt_of_lt_of_le (Heap.lt_size e) z) (Nat.lt_irrefl _)
 have cellK:∀x c,X.env.cells.lookup x=some c->∀v,s.heap.IsCell c v->h'.IsCell c v:=λx c e v ⟨o,ho,hd⟩=>by
  have nch:c∉ch:=λz=>(hch c z).2.2.1 x c e rfl
  by_cases hc:c∈X.fs
  ·obtain⟨sl,q⟩:=slot c o (I.cne x c e) hc nch ho (I.freeC x c e)
   exact⟨_,q,hd⟩
  ·exact⟨o,keep c o (I.cne x c e) hc nch ho (I.freeC x c e),hd⟩
 refine⟨I.ok,I.os,hg,⟨λb o e n hb hx=>?_,λb o e n hb hx=>?_,λb o e n hx=>?_,λb o e hx=>?_,λb xs e=>tups b xs (I.base.tups b xs e),λb o xs e=>frzs b o xs (I.base.frzs b o xs e),λb ps e=>?_⟩,?_,λx c e=>?_,?_,λx c e=>?_,λp hp=>?_,hok,I.len⟩
 ·exact keep b o (neL b o e) hb (neC b o e hx) (I.base.keep b o e n hb hx) (I.base.free b o e n hx)
 ·obtain⟨sl,e1⟩:=I.base.slot b o e n hb hx
  obtain⟨sl',e2⟩:=slot b _ (neL b o e) hb (neC b o e hx) e1 (I.base.free b o e n hx)
  exact⟨sl',e2⟩
 ·obtain⟨o',e1⟩:=I.base.there b o e hx
  exact free b o' (neC b o e hx) e1 (I.base.free b o e n hx)
 ·obtain⟨o',e1⟩:=I.base.there b o e hx
  exact there b o' (neC b o e hx) e1
 ·obtain⟨m1,e1⟩:=I.base.tbls b ps e
  obtain⟨m2,e2⟩:=tbls b _ e1
  exact⟨m1++m2,by rw[e2,Array.append_assoc]⟩
 ·obtain⟨m,hn,hl⟩:=I.loc
  refine⟨m,ns m hn,λi x v e1 e2 e3=>?_⟩
  obtain⟨u,r,l⟩:=hl i x v e1 e2 e3
  refine⟨u,r,?_⟩
  rcases l with l | ⟨k,c,e,z⟩
  ·exact .inl l
  ·exact .inr ⟨k,c,e,cellK x c e _ z⟩
 ·obtain⟨v,z⟩:=I.cell x c e
  exact⟨v,cellK x c e v z⟩
 ·obtain⟨m,⟨o,_,_,ho,_⟩,_⟩:=I.loc
  exact free _ o (λz=>(hch _ z).2.1 rfl) ho I.free
 ·obtain⟨v,o,ho,hd⟩:=I.cell x c e
  exact free c o (λz=>(hch c z).2.2.1 x c e rfl) ho (I.freeC x c e)
 ·obtain⟨e,n,ne,nf,d⟩:=I.pin p hp
  have nch:p.1∉ch:=λz=>(hch p.1 z).2.2.2 p hp rfl
  exact⟨keep p.1 p.2 ne nf nch e n,free p.1 p.2 nch e n,ne,nf,d⟩
theorem Inv.un {t':Nat}(I:Inv X pins σ H s) (u:Un X.fs [] H H' s.heap h') (hok:HOk X.prog X.w H' h'):Inv X pins σ H' { s with heap:=h',toks:=t' }:=by
 obtain⟨m,⟨o,es,ep,ho,r⟩,_⟩:=id I.loc
 obtain⟨sl,hL⟩:=u.any ho I.free (by simp)
 exact I.step (g':=s.gens) (d':=s.drawn) (ch:=[]) (λ_ z=>nomatch z) (λb o _ hb _ e n=>u.keep b o e n hb (by simp)) (λb o _ hb _ e n=>u.slot b o e n hb (by simp)) (λb o _ e n=>u.free b o e n (by simp)) (λb o _ e=>u.there b o e (by simp)) u.tups u.frzs u.tbls (λm' hm=>by
  obtain⟨o',es',ep',ho',r'⟩:=hm
  rw[ho]at ho';cases ho'
  exact⟨_,es',ep',hL,r'⟩) hok I.bare
theorem Inv.call {g':Array GenState}{t':Nat}{d':Drawn}{ch:List Addr}(I:Inv X pins σ H s) (u:Un (frs X.stack) ch H H' s.heap h') (hok:HOk X.prog X.w H' h') (hg:AllBare g')
  (hch:∀b∈ch,(b∈X.ex\/X.s₀.heap.objs.size<=b)/\b≠X.env.locals/\(∀x c,X.env.cells.lookup x=some c->c≠b)/\∀p∈X.pn++pins,p.1≠b) :
  Inv X pins σ H' { s with heap:=h',gens:=g',drawn:=d',toks:=t' }:=by
 obtain⟨m,⟨o,es,ep,ho,r⟩,_⟩:=id I.loc
 obtain⟨sl,hL⟩:=u.any ho I.free λz=>(hch _ z).2.1 rfl
 exact I.step (ch:=ch) hch (λb o hL hb hc e n=>u.keep b o e n (λz=>(List.mem_cons.mp (I.stkSub b z)).elim hL hb) hc) (λb o _ _ hc e n=>u.any e n hc) (λb o hc e n=>u.free b o e n hc) (λb o hc e=>u.there b o e hc) u.tups u.frzs u.tbls (λm' hm=>by
  obtain⟨o',es',ep',ho',r'⟩:=hm
  rw[ho]at ho';cases ho'
  exact⟨_,es',ep',hL,r'⟩) hok hg
theorem Inv.turned {t':Nat}{it:Addr}(I:Inv X pins σ H s) (k:∀b o,b≠it->s.heap.get? b=some o->h'.get? b=some o) (hn:H it=none) (hL:it≠X.env.locals)
  (h1:it∈X.ex\/X.s₀.heap.objs.size<=it) (h2:∀x c,X.env.cells.lookup x=some c->c≠it) (h3:∀p∈X.pn++pins,p.1≠it):Inv X pins σ H { s with heap:=h',toks:=t' }:=by
 have nit:∀b u,H b=some u->b≠it:=λb u e z=>by rw[z,hn]at e;cases e
 refine I.step (g':=s.gens) (d':=s.drawn) (ch:=[it]) (λb hb=>?_) (λb o _ _ hc e _=>k b o (λz=>hc (by simp[z])) e) (λb o _ _ hc e _=>⟨o.slots,k b o (λz=>hc (by simp[z])) e⟩) (λ_ _ _ _ n=>n)
  (λb o hc e=>⟨o,k b o (λz=>hc (by simp[z])) e⟩) (λ_ _ e=>e) (λ_ _ _ e=>e) (λb ps e=>⟨#[],by rw[e];simp⟩) (λm hm=>?_) (λb u e=>?_) I.bare
 ·have e:b=it:=by simpa using hb
  subst e
  exact⟨h1,hL,h2,h3⟩
 ·obtain⟨o,es,ep,ho,r⟩:=hm
  exact⟨o,es,ep,k _ o (Ne.symm hL) ho,r⟩
 ·refine(I.hok b u e).stay (λc v hc q=>k c v ?_ q) (λ_ q=>q) λ_ _ q=>q
  rcases hc with z | z
  ·rw[z];exact nit b u e
  ·exact nit c _ z
theorem Inv.tok (I:Inv X pins σ H s) (t:Nat):Inv X pins σ H { s with toks:=t }:=I.un (h':=s.heap) (t':=t) Un.refl I.hok
theorem Inv.kept {t':Nat}(I:Inv X pins σ H s) (k:∀b u,s.heap.get? b=some u->h'.get? b=some u):Inv X pins σ H { s with heap:=h',toks:=t' }:=I.un (Un.kept k) (I.hok.kept k)
theorem Inv.laid {a:Addr}{o:HO}{t':Nat}(I:Inv X pins σ H s) (k:∀b u,s.heap.get? b=some u->h'.get? b=some u) (hp:s.heap.objs.size<=a) (new:xy X.prog X.w (upd H a o) h' a o) :
  Inv X pins σ (upd H a o) { s with heap:=h',toks:=t' }:=I.un (Un.laid k hp (I.hok.fresh hp)) (I.hok.laid k hp new)
theorem Inv.write {x e:Addr}{o:HO}{t':Nat}(I:Inv X pins σ H s) (mu:Mut (H x)) (he:e=x\/H e=some (.own x)) (k:∀b u,b≠e->s.heap.get? b=some u->h'.get? b=some u) (heo:∃u,h'.get? e=some u)
  (new:xy X.prog X.w (upd H x o) h' x o):Inv X pins σ (upd H x o) { s with heap:=h',toks:=t' }:=I.un (Un.write mu he k heo) (I.hok.write mu he k heo new)
theorem Inv.pins_of {pins':List (Addr×Obj)} (I:Inv X pins σ H s) (h:∀p∈pins',s.heap.get? p.1=some p.2/\H p.1=none/\p.1≠X.env.locals/\p.1∉X.fs/\∀v,p.2.data≠.cell v):Inv X pins' σ H s :=
 ⟨I.ok,I.os,I.bare,I.base,I.loc,I.cell,I.free,I.freeC,λp hp=>(List.mem_append.mp hp).elim (λz=>I.pin p (List.mem_append_left _ z)) (h p),I.hok,I.len⟩
theorem Zr {N:List Str}(hN:N.Nodup){i j:Nat}{x:Str}(a:N[i]? = some x) (b:N[j]? = some x):i=j:=by
 obtain⟨h1,e1⟩:=List.getElem?_eq_some_iff.mp a
 obtain⟨h2,e2⟩:=List.getElem?_eq_some_iff.mp b
 exact(List.getElem_inj hN).mp (e1.trans e2.symm)
theorem Qa {M:Model}{A:Around}{E:Value->Shared->Prop}{i:Nat}{x:Str}{v:V}{u:Value}{Q:Unit->Shared->Prop}(I:Inv X pins σ H s) (hN:X.N.Nodup) (hi:X.N[i]? = some x) (hx:Loc X.env.scope x) (r:xc v u)
  (h:∀s',Inv X pins (σ.set i (some v)) H s'->(∃a,Heap.SameBut a s.heap s'.heap/\(a=X.env.locals\/X.env.cells.lookup x=some a))->Q () s') (hf:X.fn x=true\/X.env.scope.names.lookup x=some .local := by first | exact .inl rfl | exact .inr rfl | assumption):wpAny M A (storeName X.env x u) Q E s:=by
 obtain⟨m,hn,hl⟩:=id I.loc
 have hcls:(X.env.scope.kind == .class || (X.env.scope.kind == .module&&X.env.locals != X.env.globals))=false:=by rw[I.ok.kind];rfl
 have hiσ:i<σ.length:=by rw[I.len];exact(List.getElem?_eq_some_iff.mp hi).1
 have cne:=I.cne
 have tracked:∀{a:Addr}{h':Heap},(∃o,s.heap.get? a=some o/\H a=none)->Heap.SameBut a s.heap h'->HOk X.prog X.w H h':=λ{a h'} ha hs b ob e=>by
  obtain⟨_,_,hfree⟩:=ha
  refine(I.hok b ob e).stay (λc w' hc q=>(hs.2 c ?_).trans q) (λ_ q=>q) λ_ _ q=>q
  rintro rfl
  rcases hc with rfl | hc
  ·rw[hfree]at e;cases e
  ·rw[hfree]at hc;cases hc
 rcases hx with hk | hk
 ·refine wpAny_storeName_local hk hn (λh' hn' hs=>?_) hcls
  obtain⟨oL,_,_,hoL,_⟩:=id hn
  refine h _ ⟨I.ok,I.os,I.bare,⟨λb o e n hb hx=>?_,λb o e n hb hx=>?_,I.base.free,λb o e hx=>?_,I.base.tups,I.base.frzs,I.base.tbls⟩,⟨_,hn',λj y v' e1 e2 e3=>?_⟩,λy c e=>?_,I.free,I.freeC,λp hp=>?_,tracked ⟨oL,hoL,I.free⟩ hs,by simpa using I.len⟩ ⟨_,hs,.inl rfl⟩
  ·exact(hs.2 b (Nat.ne_of_lt (Nat.lt_of_lt_of_le (Heap.lt_size e) I.ok.above))).trans (I.base.keep b o e n hb hx)
  ·obtain⟨sl,e1⟩:=I.base.slot b o e n hb hx
   exact⟨sl,(hs.2 b (Nat.ne_of_lt (Nat.lt_of_lt_of_le (Heap.lt_size e) I.ok.above))).trans e1⟩
  ·obtain⟨o',e1⟩:=I.base.there b o e hx
   exact⟨o',(hs.2 b (Nat.ne_of_lt (Nat.lt_of_lt_of_le (Heap.lt_size e) I.ok.above))).trans e1⟩
  ·by_cases hj:j=i
   ·subst hj
    rw[hi]at e1;cases e1
    rw[List.getElem?_set_self hiσ]at e2
    cases e2
    exact⟨u,r,.inl ⟨hk,by simp⟩⟩
   ·rw[List.getElem?_set_ne (Ne.symm hj)]at e2
    obtain⟨u',r',q⟩:=hl j y v' e1 e2 e3
    refine⟨u',r',?_⟩
    rcases q with⟨k,e⟩ | ⟨k,c,e,z⟩
    ·refine .inl ⟨k,?_⟩
     have:y≠x:=λe=>hj (Zr hN e1 (e ▸ hi))
     simp[this,e]
    ·exact .inr ⟨k,c,e,z.sameBut hs (cne y c e)⟩
  ·obtain⟨w',z⟩:=I.cell y c e
   exact⟨w',z.sameBut hs (cne y c e)⟩
  ·obtain⟨e,n,ne,nf,d⟩:=I.pin p hp
   exact⟨(hs.2 p.1 ne).trans e,n,ne,nf,d⟩
 ·have hfn:X.fn x=true:=by
   rcases hf with z | z
   ·exact z
   ·rw[z]at hk;cases hk
  obtain⟨c,hc⟩:=I.ok.has x (.inl hk)
  obtain⟨w',z⟩:=I.cell x c hc
  refine wpAny_storeName_cell I.ok.kind hk hc z (λh' hc' hs=>?_)
  obtain⟨oc,hoc,hocd⟩:=id z
  refine h { s with heap:=h' } ⟨I.ok,I.os,I.bare,⟨λb o e n hb hx=>?_,λb o e n hb hx=>?_,I.base.free,λb o e hx=>?_,I.base.tups,I.base.frzs,I.base.tbls⟩,⟨m,hn.sameBut hs (Ne.symm (cne x c hc)),λj y v' e1 e2 e3=>?_⟩,λy c' e=>?_,I.free,I.freeC,λp hp=>?_,tracked ⟨oc,hoc,I.freeC x c hc⟩ hs,by simpa using I.len⟩ ⟨c,hs,.inr hc⟩
  ·exact(hs.2 b (Nat.ne_of_lt (Nat.lt_of_lt_of_le (Heap.lt_size e) (I.ok.cab x c hfn hc)))).trans (I.base.keep b o e n hb hx)
  ·obtain⟨sl,e1⟩:=I.base.slot b o e n hb hx
   exact⟨sl,(hs.2 b (Nat.ne_of_lt (Nat.lt_of_lt_of_le (Heap.lt_size e) (I.ok.cab x c hfn hc)))).trans e1⟩
  ·obtain⟨o',e1⟩:=I.base.there b o e hx
   exact⟨o',(hs.2 b (Nat.ne_of_lt (Nat.lt_of_lt_of_le (Heap.lt_size e) (I.ok.cab x c hfn hc)))).trans e1⟩
  ·by_cases hj:j=i
   ·subst hj
    rw[hi]at e1;cases e1
    rw[List.getElem?_set_self hiσ]at e2
    cases e2
    exact⟨u,r,.inr ⟨.inl hk,c,hc,hc'⟩⟩
   ·rw[List.getElem?_set_ne (Ne.symm hj)]at e2
    obtain⟨u',r',q⟩:=hl j y v' e1 e2 e3
    refine⟨u',r',?_⟩
    rcases q with q | ⟨k,c',e,z'⟩
    ·exact .inl q
    ·refine .inr ⟨k,c',e,z'.sameBut hs ?_⟩
     rintro rfl
     exact hj (Zr hN e1 (I.ok.inj _ _ _ e hc ▸ hi))
  ·by_cases hcc:c'=c
   ·subst hcc;exact⟨_,hc'⟩
   ·obtain⟨w2,z2⟩:=I.cell y c' e
    exact⟨w2,z2.sameBut hs hcc⟩
  ·obtain⟨e,n,ne,nf,d⟩:=I.pin p hp
   refine⟨(hs.2 p.1 ?_).trans e,n,ne,nf,d⟩
   intro q
   rw[q,hoc]at e
   have q':oc=p.2:=Option.some.inj e
   exact d w' (by rw[<-q'];exact hocd)
theorem vL {M:Model}{A:Around}{E:Value->Shared->Prop}{i:Nat}{x:Str}{v:V}{u:Value}{Q:Unit->Shared->Prop}(I:Inv X pins σ H s) (hN:X.N.Nodup) (hi:X.N[i]? = some x) (hx:Loc X.env.scope x) (r:xc v u)
  (h:∀s',Inv X pins (σ.set i (some v)) H s'->Q () s') (hf:X.fn x=true\/X.env.scope.names.lookup x=some .local := by first | exact .inl rfl | exact .inr rfl | assumption):wpAny M A (storeName X.env x u) Q E s :=
 Qa I hN hi hx r (λs' I' _=>h s' I') hf
theorem Inv.call' {s':Shared}{ch:List Addr}(I:Inv X pins σ H s) (ho:s'.os=s.os) (u:Un (frs X.stack) ch H H' s.heap s'.heap) (hok:HOk X.prog X.w H' s'.heap) (hg:AllBare s'.gens)
  (hch:∀b∈ch,(b∈X.ex\/X.s₀.heap.objs.size<=b)/\b≠X.env.locals/\(∀x c,X.env.cells.lookup x=some c->c≠b)/\∀p∈X.pn++pins,p.1≠b):Inv X pins σ H' s':=by
 obtain⟨h',g',d',t',o'⟩:=s'
 have e:o'=s.os:=ho
 subst e
 exact I.call (g':=g') (t':=t') (d':=d') u hok hg hch
end
abbrev XK:=Value->Option Addr->Hp->Prop
abbrev St:=List (Option V)
abbrev VK:=V->Hp->Prop
abbrev TE:=St->Hp->VK->Prop
abbrev TT:=St->Hp->(Bool->Hp->Prop)->Prop
abbrev TA:=St->Hp->(List V->Hp->Prop)->Prop
structure vg where
 nx:St->Hp->Prop
 rt:VK
 bk:St->Hp->Prop:=λ_ _=>False
 ct:St->Hp->Prop:=λ_ _=>False
abbrev TS:=vg->St->Hp->Prop
def EP (X:Cx) (pins:List (Addr×Obj)) (σ:St) (Q:VK) (u:Value) (s':Shared):Prop:=∃v H',Inv X pins σ H' s'/\xc v u/\Q v H'
def TP (X:Cx) (pins:List (Addr×Obj)) (σ:St) (Q:Bool->Hp->Prop) (b:Bool) (s':Shared):Prop:=∃H',Inv X pins σ H' s'/\Q b H'
def AP (X:Cx) (pins:List (Addr×Obj)) (σ:St) (Q:List V->Hp->Prop) (us:List Value) (s':Shared):Prop:=∃vs H',Inv X pins σ H' s'/\zM vs us/\Q vs H'
def SP (X:Cx) (pins:List (Addr×Obj)) (D:vg) (f:Flow) (s':Shared):Prop :=
 match f with
 | .next=>∃σ' H',Inv X pins σ' H' s'/\D.nx σ' H'
 | .brk=>∃σ' H',Inv X pins σ' H' s'/\D.bk σ' H'
 | .cont=>∃σ' H',Inv X pins σ' H' s'/\D.ct σ' H'
 | .ret u=>∃v σ' H',Inv X pins σ' H' s'/\xc v u/\D.rt v H'
def PE (X:Cx) (e:Expr) (t:TE):Prop :=
 ∀(pins:List (Addr×Obj)) (s:Shared) (σ:St) (H:Hp) (Q:VK),Inv X pins σ H s->t σ H Q->wpAny (model X.prog X.w) X.A (eval e X.env) (EP X pins σ Q) X.xe s
def PT (X:Cx) (e:Expr) (t:TT):Prop :=
 ∀(pins:List (Addr×Obj)) (s:Shared) (σ:St) (H:Hp) (Q:Bool->Hp->Prop),Inv X pins σ H s->t σ H Q->wpAny (model X.prog X.w) X.A (isTrue e X.env (eval e X.env)) (TP X pins σ Q) X.xe s
def PW (X:Cx) (e:Expr) (t:TT):Prop :=
 ∀(whole:Sem Value) (pins:List (Addr×Obj)) (s:Shared) (σ:St) (H:Hp) (Q:Bool->Hp->Prop),Inv X pins σ H s->t σ H Q->wpAny (model X.prog X.w) X.A (isTrue e X.env whole) (TP X pins σ Q) X.xe s
theorem PW.pt {X:Cx}{e:Expr}{t:TT}(h:PW X e t):PT X e t:=h _
def PA (X:Cx) (es:List Expr) (t:TA):Prop :=
 ∀(pos:Pos) (pins:List (Addr×Obj)) (s:Shared) (σ:St) (H:Hp) (Q:List V->Hp->Prop),Inv X pins σ H s->t σ H Q->wpAny (model X.prog X.w) X.A (spliced (backTo pos (starEach es X.env))) (AP X pins σ Q) X.xe s
def PS (X:Cx) (st:Stmt) (t:TS):Prop :=
 ∀(pins:List (Addr×Obj)) (s:Shared) (σ:St) (H:Hp) (D:vg),Inv X pins σ H s->t D σ H->wpAny (model X.prog X.w) X.A (exec st X.env) (SP X pins D) X.xe s
def PSs (X:Cx) (st:List Stmt) (t:TS):Prop :=
 ∀(pins:List (Addr×Obj)) (s:Shared) (σ:St) (H:Hp) (D:vg),Inv X pins σ H s->t D σ H->wpAny (model X.prog X.w) X.A (execs st X.env) (SP X pins D) X.xe s
theorem thn {α:Type}{t:Sem α}{Q Q':α->Shared->Prop}{M:Model}{A:Around}{E:Value->Shared->Prop}{s:Shared}(h:wpAny M A t Q E s) (hQ:∀a s,Q a s->Q' a s):wpAny M A t Q' E s:=wpAny_mono h hQ λ_ _ x=>x
end L2
namespace L2
open PySem PySem.Spec PyProof.Rows
section
variable {X:Cx}
def ve (i:Nat):TE:=λσ H Q=>∃v,σ[i]? = some (some v)/\Q v H
def tC (v:V):TE:=λ_ H Q=>Q v H
theorem zau {i:Nat}{x:Str}{pos:Pos}(hN:X.N[i]? = some x) (hv:Vis X.env.scope x) (hd:(x == ("__debug__":Str))=false:=by decide) (hcd:(x == ("__classdict__":Str))=false:=by decide):PE X (.Name x pos) (ve i):=by
 intro pins s σ H Q I h
 obtain⟨v,e,h⟩:=h
 obtain⟨m,hn,hl⟩:=I.loc
 obtain⟨u,r,l⟩:=hl i x v hN e hv
 have fin:EP X pins σ Q u s:=⟨v,H,I,r,h⟩
 rcases l with⟨hk,hm⟩ | ⟨hk,c,hc,hcell⟩
 ·exact wpAny_Name (wpAny_loadName_local I.ok.kind hk hn hm fin) hd
 ·rcases hk with hk | hk
  ·exact wpAny_Name (wpAny_loadName_cell I.ok.kind hk hc hcell fin) hd
  ·exact wpAny_Name (wpAny_loadName_free I.ok.kind hk hc hcell fin hcd) hd
theorem ze {i j pos}:PE X (.Constant (.int i) j pos) (tC (.int i)):=λ_ _ _ H _ I h=>wpAny_Constant_int ⟨.int i,H,I.tok _,⟨_,rfl⟩,h⟩
theorem qm {b j pos}:PE X (.Constant (.bool b) j pos) (tC (.bl b)):=λ_ _ _ H _ I h=>Constant_bool ⟨.bl b,H,I,rfl,h⟩
theorem xq {j pos}:PE X (.Constant .none j pos) (tC .non):=λ_ _ _ H _ I h=>Constant_none ⟨.non,H,I,rfl,h⟩
theorem zj {x j pos}:PE X (.Constant (.str x) j pos) (tC (.str x)):=λ_ _ _ H _ I h=>Calls.Constant_str ⟨.str x,H,I.tok _,⟨_,rfl⟩,h⟩
def Gl (X:Cx) (x:Str):Prop:=X.env.kindOf x=some .globalImplicit
theorem vy {E:Value->Shared->Prop}{pins:List (Addr×Obj)}{s:Shared}{σ:St}{H:Hp}{x:Str}{u:Value}{pos:Pos}{Q:Value->Shared->Prop}(I:Inv X pins σ H s) (hg:Gl X x) (hm:X.mg x=some u) (h:Q u s)
  (hd:(x == ("__debug__":Str))=false:=by decide):wpAny (model X.prog X.w) X.A (eval (.Name x pos) X.env) Q E s :=
 Calls.Name_function_global I.ok.kind hg (Calls.loadGlobal_global (by rw[I.ok.glob];exact I.mod.glob.keeps I.bk) hm h) hd
theorem j3 {E:Value->Shared->Prop}{pins:List (Addr×Obj)}{s:Shared}{σ:St}{H:Hp}{x:Str}{u:Value}{pos:Pos}{Q:Value->Shared->Prop}(I:Inv X pins σ H s) (hg:Gl X x) (hm:X.mg x=none) (hv:bootBuiltins x=some u) (h:Q u s)
  (hn:x≠"__name__":=by decide) (hd:(x == ("__debug__":Str))=false:=by decide):wpAny (model X.prog X.w) X.A (eval (.Name x pos) X.env) Q E s:=by
 obtain⟨mb,h1,h2⟩:=I.mod.blt
 exact Calls.Name_function_global I.ok.kind hg (Calls.loadGlobal_builtin (by rw[I.ok.glob];exact I.mod.glob.keeps I.bk) hm (by rw[I.ok.blt];exact h1.keeps I.bk) ((h2 x hn).trans hv) h) hd
theorem vC {x:Str}{v:V}{u:Value}{pos:Pos}(hg:Gl X x) (hm:X.mg x=some u) (r:xc v u) (hd:(x == ("__debug__":Str))=false:=by decide):PE X (.Name x pos) (tC v) :=
 λ_ _ _ H _ I h=>vy I hg hm ⟨v,H,I,r,h⟩ hd
theorem vB {x:Str}{v:V}{u:Value}{pos:Pos}(hg:Gl X x) (hm:X.mg x=none) (hv:bootBuiltins x=some u) (r:xc v u) (hn:x≠"__name__":=by decide) (hd:(x == ("__debug__":Str))=false:=by decide):PE X (.Name x pos) (tC v) :=
 λ_ _ _ H _ I h=>j3 I hg hm hv ⟨v,H,I,r,h⟩ hn hd
variable {a b:Expr}{ta tb:TE}{pos:Pos}
variable {tA tB':TT}{rest:List Expr}
def tAnd (t u:TT):TT:=λσ H Q=>t σ H λc H1=>if c=true then u σ H1 Q else Q false H1
def tOr (t u:TT):TT:=λσ H Q=>t σ H λc H1=>if c=true then Q true H1 else u σ H1 Q
def tNot (t:TT):TT:=λσ H Q=>t σ H λc H1=>Q (!c) H1
theorem qW (ha:PT X a tA):PW X (.BoolOp .And [a] pos) tA:=by
 intro wh pins s σ H Q I h
 refine isTrue_and (thn (ha pins s σ H Q I h) λc s1 e=>?_)
 cases c with
 | true=>exact isTrue_and_nil e
 | false=>exact e
theorem qK (ha:PT X a tA):PW X (.BoolOp .Or [a] pos) tA:=by
 intro wh pins s σ H Q I h
 refine isTrue_or (thn (ha pins s σ H Q I h) λc s1 e=>?_)
 cases c with
 | false=>exact isTrue_or_nil e
 | true=>exact e
theorem vT (ha:PT X a tA) (hb:PW X (.BoolOp .And (b::rest) pos) tB'):PW X (.BoolOp .And (a::b::rest) pos) (tAnd tA tB'):=by
 intro wh pins s σ H Q I h
 refine isTrue_and (thn (ha pins s σ H _ I h) λc s1 ⟨H1,I1,q1⟩=>?_)
 cases c with
 | true=>exact hb wh pins s1 σ H1 Q I1 q1
 | false=>exact⟨H1,I1,q1⟩
theorem qq (ha:PT X a tA) (hb:PW X (.BoolOp .Or (b::rest) pos) tB'):PW X (.BoolOp .Or (a::b::rest) pos) (tOr tA tB'):=by
 intro wh pins s σ H Q I h
 refine isTrue_or (thn (ha pins s σ H _ I h) λc s1 ⟨H1,I1,q1⟩=>?_)
 cases c with
 | true=>exact⟨H1,I1,q1⟩
 | false=>exact hb wh pins s1 σ H1 Q I1 q1
theorem xJ (ha:PT X a tA):PT X (.UnaryOp .Not a pos) (tNot tA):=by
 intro pins s σ H Q I h
 exact isTrue_not (ha pins s σ H (λc H1=>Q (!c) H1) I h)
def zbh (ta tb:TE):TE:=λσ H Q=>ta σ H λx H1=>∃c,x = .bl c/\if c=true then tb σ H1 Q else Q (.bl false) H1
def tOrV (ta tb:TE):TE:=λσ H Q=>ta σ H λx H1=>∃c,x = .bl c/\if c=true then Q (.bl true) H1 else tb σ H1 Q
def zbk (ta:TE):TE:=λσ H Q=>ta σ H λx H1=>∃c,x = .bl c/\Q (.bl (!c)) H1
theorem jm {op}{t:TE}(h:PE X a t):PE X (.BoolOp op [a] pos) t:=λpins s σ H Q I hw=>BoolOp_one (h pins s σ H Q I hw)
theorem vS (ha:PE X a ta) (hb:PE X (.BoolOp .And (b::rest) pos) tb):PE X (.BoolOp .And (a::b::rest) pos) (zbh ta tb):=by
 intro pins s σ H Q I h
 refine BoolOp_and (thn (ha pins s σ H _ I h) λv s1 ⟨x,H1,I1,r1,q1⟩=>?_)
 obtain⟨c,rfl,q1⟩:=q1
 cases r1
 refine wpAny_truthy_bool ?_
 cases c with
 | true=>exact hb pins s1 σ H1 Q I1 q1
 | false=>exact⟨.bl false,H1,I1,rfl,q1⟩
theorem Ju (ha:PE X a ta) (hb:PE X (.BoolOp .Or (b::rest) pos) tb):PE X (.BoolOp .Or (a::b::rest) pos) (tOrV ta tb):=by
 intro pins s σ H Q I h
 refine BoolOp_or (thn (ha pins s σ H _ I h) λv s1 ⟨x,H1,I1,r1,q1⟩=>?_)
 obtain⟨c,rfl,q1⟩:=q1
 cases r1
 refine wpAny_truthy_bool ?_
 cases c with
 | false=>exact hb pins s1 σ H1 Q I1 q1
 | true=>exact⟨.bl true,H1,I1,rfl,q1⟩
theorem zat (ha:PE X a ta):PE X (.UnaryOp .Not a pos) (zbk ta):=by
 intro pins s σ H Q I h
 refine UnaryOp_ (thn (ha pins s σ H _ I h) λv s1 ⟨x,H1,I1,r1,q1⟩=>?_)
 obtain⟨c,rfl,q1⟩:=q1
 cases r1
 exact not_of (wpAny_truthy_bool ⟨.bl (!c),H1,I1,rfl,q1⟩)
end
end L2
namespace L2
open PySem PySem.Spec PyProof.Rows
def SqL (K:PySem.W.Frag) (H:Hp) (a:Addr) (xs:List V):Prop :=
 Rd H a (.lst xs) ∨
  ∃(o:Obj) (its:Array Value) (n:Nat),K.lookup a=some o/\o.cls = .type "list"/\o.dict=none/\o.data = .seq its n/\its.size<=sizeLine/\zM xs its.toList
def SqT (K:PySem.W.Frag) (H:Hp) (a:Addr) (xs:List V):Prop :=
 Rd H a (.tup xs) ∨
  ∃(o:Obj) (its:Array Value) (n:Nat),K.lookup a=some o/\o.cls = .type "tuple"/\o.data = .seq its n/\its.size<=sizeLine/\zM xs its.toList
def absV:Value->Option V
 | .none=>some .non
 | .bool b=>some (.bl b)
 | .int i _=>some (.int i)
 | .str x _=>some (.str x)
 | .bytes b _=>some (.byt b)
 | .float b _=>some (.flt b)
 | .ref a=>some (.ref a)
 | .type n=>some (.ty n)
 | _=>none
theorem xc.abs {x:V}{u:Value}(r:xc x u):absV u=some x:=by
 cases x with
 | non=>cases r;rfl
 | bl _=>cases r;rfl
 | int _=>obtain⟨t,rfl⟩:=r;rfl
 | str _=>obtain⟨t,rfl⟩:=r;rfl
 | byt _=>obtain⟨t,rfl⟩:=r;rfl
 | flt _=>obtain⟨t,rfl⟩:=r;rfl
 | ref _=>cases r;rfl
 | ty _=>cases r;rfl
theorem xc.inj {x y:V}{u:Value}(r:xc x u) (q:xc y u):x=y:=Option.some.inj (r.abs.symm.trans q.abs)
theorem zM.inj:∀{xs ys:List V}{us:List Value},zM xs us->zM ys us->xs=ys
 | _,_,_,.nil,.nil=>rfl
 | _,_,_,.cons r t,.cons r' t'=>by rw[r.inj r',zM.inj t t']
section
variable {X:Cx}{pins:List (Addr×Obj)}{σ:St}{H:Hp}{s:Shared}{a:Addr}{xs ys:List V}
theorem SqL.of {K:PySem.W.Frag}(h:H a=some (.lst xs)):SqL K H a xs:=.inl (.inl h)
theorem SqT.of {K:PySem.W.Frag}(h:H a=some (.tup xs)):SqT K H a xs:=.inl (.inl h)
theorem Inv.list (I:Inv X pins σ H s) (h:SqL X.K H a xs):∃its:List Value,zM xs its/\PlainL s.heap a its.toArray/\xs.length<=sizeLine:=by
 rcases h with h | ⟨o,its,n,hk,hc,hd,hs,hz,r⟩
 ·obtain⟨z,its,n,r,e⟩:=h.ok I.hok
  exact⟨its,r,⟨_,n,e,rfl,rfl,rfl⟩,z⟩
 ·refine⟨its.toList,r,⟨o,n,I.kIn a o hk,hc,hd,by simpa using hs⟩,?_⟩
  have e:=r.length
  simp only[Array.length_toList]at e
  omega
theorem Inv.tuple (I:Inv X pins σ H s) (h:SqT X.K H a xs):∃its:List Value,zM xs its/\IsTup s.heap a its.toArray/\xs.length<=sizeLine:=by
 rcases h with h | ⟨o,its,n,hk,hc,hs,hz,r⟩
 ·obtain⟨z,its,r,p⟩:=h.ok I.hok
  exact⟨its,r,p,z⟩
 ·refine⟨its.toList,r,⟨o,I.kIn a o hk,hc,n,by simpa using hs⟩,?_⟩
  have e:=r.length
  simp only[Array.length_toList]at e
  omega
theorem Inv.list_inj (I:Inv X pins σ H s) (h:SqL X.K H a xs) (h':SqL X.K H a ys):xs=ys:=by
 obtain⟨its,r,⟨o,n,e,_,_,d⟩,_⟩:=I.list h
 obtain⟨its',r',⟨o',n',e',_,_,d'⟩,_⟩:=I.list h'
 rw[e]at e';cases e'
 rw[d]at d'
 injection d' with d1 _
 have:its=its':=by simpa using congrArg Array.toList d1
 subst this
 exact r.inj r'
end
abbrev Cx.wish (X:Cx) (E:Value->Shared->Prop):Cx:={ X with xe:=E }
abbrev Cx.nox (X:Cx):Cx:=X.wish λ_ _=>False
theorem Cx.Ok.wish {X:Cx}(ok:X.Ok) (E:Value->Shared->Prop):(X.wish E).Ok :=
 ⟨ok.mod,ok.kind,ok.glob,ok.blt,ok.above,ok.inj,ok.has,ok.cab,ok.hd,ok.frames,ok.stk,ok.exf,ok.bs,ok.bsz,ok.noex,ok.exfs,ok.funs,ok.frf⟩
theorem Cx.Ok.unwish {X:Cx}{E:Value->Shared->Prop}(ok:(X.wish E).Ok):X.Ok :=
 ⟨ok.mod,ok.kind,ok.glob,ok.blt,ok.above,ok.inj,ok.has,ok.cab,ok.hd,ok.frames,ok.stk,ok.exf,ok.bs,ok.bsz,ok.noex,ok.exfs,ok.funs,ok.frf⟩
section
variable {X:Cx}{pins:List (Addr×Obj)}{σ:St}{H:Hp}{s:Shared}{E:Value->Shared->Prop}
theorem Inv.wish (I:Inv X pins σ H s) (E:Value->Shared->Prop):Inv (X.wish E) pins σ H s:=⟨I.ok.wish E,I.os,I.bare,I.base,I.loc,I.cell,I.free,I.freeC,I.pin,I.hok,I.len⟩
theorem Inv.unwish (I:Inv (X.wish E) pins σ H s):Inv X pins σ H s:=⟨I.ok.unwish,I.os,I.bare,I.base,I.loc,I.cell,I.free,I.freeC,I.pin,I.hok,I.len⟩
theorem SP.unwish {D:vg}{f:Flow}{s':Shared}(h:SP (X.wish E) pins D f s'):SP X pins D f s':=by
 cases f with
 | next=>obtain⟨σ',H',I,q⟩:=h;exact⟨σ',H',I.unwish,q⟩
 | brk=>obtain⟨σ',H',I,q⟩:=h;exact⟨σ',H',I.unwish,q⟩
 | cont=>obtain⟨σ',H',I,q⟩:=h;exact⟨σ',H',I.unwish,q⟩
 | ret u=>obtain⟨v,σ',H',I,r,q⟩:=h;exact⟨v,σ',H',I.unwish,r,q⟩
theorem PSs.nox {st:List Stmt}{t:TS}(h:PSs X.nox st t):PSs X st t:=λpins s σ H D I hw =>
 wpAny_mono (h pins s σ H D (I.wish _) hw) (λ_ _ q=>q.unwish) λ_ _ z=>False.elim z
end
section
variable {X:Cx}{st:Stmt}{rest:List Stmt}{t u:TS}{e:Expr}{te:TE}{pos:Pos}
def Vl:TS:=λD σ H=>D.nx σ H
def jD (t u:TS):TS:=λD σ H=>t { D with nx:=u D } σ H
theorem zy:PSs X [] Vl:=λ_ _ σ H _ I h=>wpAny_execs_nil ⟨σ,H,I,h⟩
theorem zg (h1:PS X st t) (h2:PSs X rest u):PSs X (st::rest) (jD t u):=by
 intro pins s σ H D I h
 refine wpAny_execs_cons (thn (h1 pins s σ H { D with nx:=u D } I h) λf s1 q=>?_)
 cases f with
 | next =>
  obtain⟨σ',H',I',q⟩:=q
  exact h2 pins s1 σ' H' D I' q
 | ret v=>exact q
 | brk=>exact q
 | cont=>exact q
theorem zh (h1:PS X st t):PSs X [st] t:=by
 intro pins s σ H D I h
 refine wpAny_execs_cons (thn (h1 pins s σ H D I h) λf s1 q=>?_)
 cases f with
 | next=>exact wpAny_execs_nil q
 | ret v=>exact q
 | brk=>exact q
 | cont=>exact q
theorem Inv.quiet {pins:List (Addr×Obj)}{σ:St}{H:Hp}{s:Shared}(I:Inv X pins σ H s):interactive X.env=false:=by simp[interactive,I.ok.kind]
def JH (te:TE):TS:=λD σ H=>te σ H λ_ H1=>D.nx σ H1
theorem qe (he:PE X e te) (hs:swapsWith e none pos.line X.env=pure false:=by rfl):PS X (.Expr e pos) (JH te):=by
 intro pins s σ H D I h
 exact wpAny_Expr_any (thn (he pins s σ H _ I h) λv s1 ⟨x,H1,I1,r1,q1⟩=>⟨σ,H1,I1,q1⟩) I.quiet hs
def Vm (te:TE):TS:=λD σ H=>te σ H D.rt
theorem zu (he:PE X e te):PS X (.Return (some e) pos) (Vm te):=by
 intro pins s σ H D I h
 exact wpAny_Return_some (thn (he pins s σ H _ I h) λv s1 ⟨x,H1,I1,r1,q1⟩=>⟨x,σ,H1,I1,r1,q1⟩)
def zbj (c:TT) (t u:TS):TS:=λD σ H=>c σ H λb H1=>if b=true then t D σ H1 else u D σ H1
theorem zO {c:Expr}{a b:List Stmt}{tc:TT}(hc:PT X c tc) (ha:PSs X a t) (hb:PSs X b u):PS X (.If c a b pos) (zbj tc t u):=by
 intro pins s σ H D I h
 refine wpAny_If (thn (hc pins s σ H _ I h) λd s1 ⟨H1,I1,q1⟩=>?_)
 cases d with
 | true=>exact ha pins s1 σ H1 D I1 q1
 | false=>exact hb pins s1 σ H1 D I1 q1
def zaF:TS:=λ_ _ _=>False
theorem qj {sts:List Stmt}:PSs X sts zaF:=λ_ _ _ _ _ _ h=>h.elim
end
abbrev TG:=V->St->Hp->(St->Hp->Prop)->Prop
abbrev TGs:=List V->St->Hp->(St->Hp->Prop)->Prop
def PG (X:Cx) (target:Expr) (t:TG):Prop :=
 ∀(pins:List (Addr×Obj)) (s:Shared) (σ:St) (H:Hp) (v:V) (u:Value) (Q:St->Hp->Prop),Inv X pins σ H s->xc v u->t v σ H Q →
  wpAny (model X.prog X.w) X.A (assign target X.env u) (λ_ s'=>∃σ' H',Inv X pins σ' H' s'/\Q σ' H') X.xe s
def PGs (X:Cx) (ts:List Expr) (t:TGs):Prop :=
 ∀(pins:List (Addr×Obj)) (s:Shared) (σ:St) (H:Hp) (vs:List V) (us:List Value) (Q:St->Hp->Prop),Inv X pins σ H s->zM vs us->t vs σ H Q →
  wpAny (model X.prog X.w) X.A (assignInOrder ((assignEach ts X.env).map (·.2)) us) (λ_ s'=>∃σ' H',Inv X pins σ' H' s'/\Q σ' H') X.xe s
abbrev JN:=V->V->V->Hp->(Hp->Prop)->Prop
def zaN (X:Cx) (t:JN):Prop :=
 ∀(pins:List (Addr×Obj)) (s:Shared) (σ:St) (H:Hp) (o i v:V) (ov iv u:Value) (Q:Hp->Prop),Inv X pins σ H s->xc o ov->xc i iv->xc v u->t o i v H Q →
  wpAny (model X.prog X.w) X.A (setItem ov iv u) (λ_ s'=>∃H',Inv X pins σ H' s'/\Q H') X.xe s
section
variable {X:Cx}{pos:Pos}
def zL (i:Nat):TG:=λv σ H Q=>Q (σ.set i (some v)) H
theorem zJ {i:Nat}{x:Str}(hN:X.N.Nodup) (hi:X.N[i]? = some x) (hx:Loc X.env.scope x) (hf:X.fn x=true\/X.env.scope.names.lookup x=some .local := by first | exact .inl rfl | exact .inr rfl | assumption):PG X (.Name x pos) (zL i):=by
 intro pins s σ H v u Q I r h
 exact wpAny_assign_Name (vL I hN hi hx r (λs' I'=>⟨_,H,I',h⟩) hf)
def gNil:TGs:=λvs σ H Q=>vs=[]/\Q σ H
def zaR (t:TG) (u:TGs):TGs:=λvs σ H Q=>∃v r,vs=v::r/\t v σ H λσ' H'=>u r σ' H' Q
theorem qp:PGs X [] gNil:=by
 intro pins s σ H vs us Q I r h
 obtain⟨e,h⟩:=h
 subst e
 cases r
 exact assignInOrder_nil ⟨σ,H,I,h⟩
theorem zV {e:Expr}{es:List Expr}{t:TG}{u:TGs}(h1:PG X e t) (h2:PGs X es u)
  (hs:(assignEach (e::es) X.env).map (·.2)=assign e X.env::(assignEach es X.env).map (·.2):=by rfl):PGs X (e::es) (zaR t u):=by
 intro pins s σ H vs us Q I r h
 obtain⟨v,vr,e1,h⟩:=h
 subst e1
 cases r with
 | cons r rr =>
  rw[hs]
  refine assignInOrder_cons (thn (h1 pins s σ H _ _ _ I r h) λ_ s1 ⟨σ1,H1,I1,q1⟩=>?_)
  exact h2 pins s1 σ1 H1 _ _ Q I1 rr q1
def gTup (K:PySem.W.Frag) (n:Nat) (t:TGs):TG:=λv σ H Q=>∃a xs,v = .ref a/\SqT K H a xs/\xs.length=n/\t xs σ H Q
theorem j9 {es:List Expr}{k:Nat}{t:TGs}{n:Nat}(hc:X.calm=true) (h:PGs X es t)
  (hn:(assignEach es X.env).length=n:=by rfl) (hst:(assignEach es X.env).findIdx? (·.1)=none:=by rfl):PG X (.Tuple es k pos) (gTup X.K n t):=by
 intro pins s σ H v u Q I r hw
 obtain⟨a,xs,e1,hq,hl,hw⟩:=hw
 subst e1
 cases r
 obtain⟨its,rv,ht,hz⟩:=I.tuple hq
 refine assign_Tuple_tuple (I.ok.hd hc) ht (by simp[hn,<-hl,rv.length]) hst λh' hx=>?_
 have I1:Inv X pins σ H { s with heap:=h' }:=I.kept (t':=s.toks) λb o e=>hx b o (Nat.ne_of_lt (Heap.lt_size e)) e
 exact h pins _ σ H xs _ Q I1 (by simpa using rv) hw
def gSub (to ti:TE) (t:JN):TG:=λv σ H Q=>to σ H λo H1=>ti σ H1 λi H2=>t o i v H2 λH3=>Q σ H3
theorem QS {o i:Expr}{to ti:TE}{t:JN}(ho:PE X o to) (hi:PE X i ti) (hs:zaN X t)
  (ha:∀v,assign (.Subscript o i pos) X.env v=(do
   let ov <-holding [v] (eval o X.env)
   let iv <-holding [v,ov] (eval i X.env)
   standAt pos
   holding [v,ov,iv] (setItem ov iv v)
   release [v,ov,iv] []):=by intro _;rfl):PG X (.Subscript o i pos) (gSub to ti t):=by
 intro pins s σ H v u Q I r h
 rw[ha]
 refine wpAny_bind (wpAny_holding (thn (ho pins s σ H _ I h) λov s1 ⟨x,H1,I1,r1,q1⟩=>?_))
 refine wpAny_bind (wpAny_holding (thn (hi pins s1 σ H1 _ I1 q1) λiv s2 ⟨y,H2,I2,r2,q2⟩=>?_))
 refine wpAny_bind (wpAny_standAt (wpAny_bind (wpAny_holding (thn (hs pins s2 σ H2 x y v ov iv u _ I2 r1 r2 r q2) λ_ s3 ⟨H3,I3,q3⟩=>?_))))
 exact wpAny_release ⟨σ,H3,I3,q3⟩
def Qc (te:TE) (g:TG):TS:=λD σ H=>te σ H λx H1=>g x σ H1 D.nx
theorem qy {tg e:Expr}{te:TE}{g:TG}(he:PE X e te) (hg:PG X tg g) (hs:swapsWithSole [tg] e pos.line X.env=pure false:=by rfl) (hw:swappedStores [tg] e X.env=pure none:=by rfl)
  (h1:(assignEach [tg] X.env).map (·.2)=[assign tg X.env]:=by rfl):PS X (.Assign [tg] e pos) (Qc te g):=by
 intro pins s σ H D I h
 refine wpAny_Assign_stores (thn (he pins s σ H _ I h) λv s1 ⟨x,H1,I1,r1,q1⟩=>?_) hs hw
 rw[h1]
 exact thn (hg pins s1 σ H1 x v _ I1 r1 q1) λ_ s2 q=>q
theorem zx {i:Nat}{x:Str}{e:Expr}{te:TE}{pos':Pos}(hN:X.N.Nodup) (hi:X.N[i]? = some x) (hx:Loc X.env.scope x) (he:PE X e te) (hs:swapsWith e (some (.Name x pos')) pos.line X.env=pure false:=by rfl) (hf:X.fn x=true\/X.env.scope.names.lookup x=some .local := by first | exact .inl rfl | exact .inr rfl | assumption) :
  PS X (.Assign [.Name x pos'] e pos) (Qc te (zL i)):=by
 intro pins s σ H D I h
 refine wpAny_Assign_Name (thn (he pins s σ H _ I h) λv s1 ⟨y,H1,I1,r1,q1⟩=>?_) hs
 exact vL I1 hN hi hx r1 (λs2 I2=>⟨_,H1,I2,q1⟩) hf
def tPar (i j:Nat) (ta:TA):TS:=λD σ H=>ta σ H λvs H1=>∃v w,vs=[v,w]/\D.nx ((σ.set i (some v)).set j (some w)) H1
theorem QV {i j:Nat}{x y:Str}{a b:Expr}{ta:TA}{px py pt:Pos} {kt k2 pt2} (hc:X.calm=true) (hN:X.N.Nodup) (hi:X.N[i]? = some x) (hj:X.N[j]? = some y) (hij:i≠j)
  (hx:X.env.scope.names.lookup x=some .local) (hy:X.env.scope.names.lookup y=some .local) (ha:PA X [a,b] ta)
  (hw:swappedStores [.Tuple [.Name x px,.Name y py] kt pt] (.Tuple [a,b] k2 pt2) X.env=pure (some [x,y]))
  (hs:swapsWithSole [.Tuple [.Name x px,.Name y py] kt pt] (.Tuple [a,b] k2 pt2) pos.line X.env=pure false:=by rfl) :
  PS X (.Assign [.Tuple [.Name x px,.Name y py] kt pt] (.Tuple [a,b] k2 pt2) pos) (tPar i j ta):=by
 intro pins s σ H D I h
 rw[exec_Assign_arm]
 refine wpAny_bind (wpAny_standAt ?_)
 rw[hs]
 refine wpAny_bind (wpAny_pure ?_)
 rw[if_neg (by decide)]
 refine wpAny_bind (Tuple_ (thn (ha _ pins s σ H _ I h) λus s1 ⟨vs,H1,I1,r1,q1⟩=>?_))
 obtain⟨v,w,e1,q1⟩:=q1
 subst e1
 obtain⟨u1,u2,rfl,rv,rw'⟩:∃u1 u2,us=[u1,u2]/\xc v u1/\xc w u2:=by
  cases r1 with
  | cons p q =>
   cases q with
   | cons p' q' =>
    cases q'
    exact⟨_,_,rfl,p,p'⟩
 refine wpAny_newObj_type ?_ (by show 2<=sizeLine;decide)
 have I2:Inv X pins σ H1 { s1 with heap:=s1.heap.push { cls:=.type "tuple",data:=.seq [u1,u2].toArray } }:=I1.kept (t':=s1.toks) λb o e=>Heap.get?_push_of_some _ e
 rw[hw]
 refine wpAny_bind (wpAny_pure ?_)
 show wpAny (model X.prog X.w) X.A (do rule "assign.swapped-stores";let items <-unpackItems (.ref s1.heap.objs.size) 2 none;assignInOrder [λv=>bindName X.env y v,λv=>bindName X.env x v] items.reverse;pure Flow.next) _ _ _
 refine wpAny_bind (wpAny_rule (wpAny_bind (unpackItems_tuple (items:=#[u1,u2]) (I.ok.hd hc) (IsTup.new s1.heap _) λh' hx'=>?_)))
 have I3:=I2.kept (h':=h') (t':=s1.toks) λb o e=>hx' b o (Nat.ne_of_lt (Heap.lt_size e)) e
 show wpAny _ _ (assignInOrder [λv=>bindName X.env y v,λv=>bindName X.env x v] [u2,u1] >>= λ_=>pure Flow.next) _ _ _
 refine wpAny_bind (assignInOrder_cons (wpAny_bindName (vL I3 hN hj (.inl hy) rw' (λs2 I4=>?_) (.inr hy))))
 refine assignInOrder_cons (wpAny_bindName (vL I4 hN hi (.inl hx) rv (λs3 I5=>assignInOrder_nil (wpAny_pure ?_)) (.inr hx)))
 rw[List.set_comm _ _ (Ne.symm hij)]at I5
 exact⟨_,H1,I5,q1⟩
end
section
variable {X:Cx}{pos:Pos}
def Zh (c:TT) (tb:TS):TS:=λD σ H=>∃W:Nat->St->Hp->Prop,(∃m,W m σ H)/\∀m σ H,W m σ H →
 c σ H λb H1=>if b=true then ∃N:St->Hp->Prop,(∀σ' H',N σ' H'->∃m',m'<m/\W m' σ' H')/\tb { D with nx:=N,ct:=N,bk:=D.nx } σ H1 else D.nx σ H1
theorem vF {c:Expr}{body:List Stmt}{tc:TT}{tb:TS}(hp:PassesOwn (model X.prog X.w) X.A X.env X.xe) (hc:PT X c tc) (hb:PSs X body tb):PS X (.While c body [] pos) (Zh tc tb):=by
 intro pins s σ H D I h
 obtain⟨W,⟨m0,w0⟩,turn⟩:=h
 refine wpAny_While (codeAny_whileLoop (λn s'=>∃σ' H',Inv X pins σ' H' s'/\W n σ' H') ?_ m0 ⟨σ,H,I,w0⟩)
 rintro n s1 ⟨σ1,H1,I1,w1⟩
 refine wpAny_passesOwn hp (thn (hc pins s1 σ1 H1 _ I1 (turn n σ1 H1 w1)) λb s2 ⟨H2,I2,q2⟩=>?_)
 cases b with
 | true =>
  obtain⟨N,hN,q2⟩:=q2
  rw[if_pos rfl]
  refine wpAny_passesOwn hp (thn (hb pins s2 σ1 H2 _ I2 q2) λf s3 q3=>?_)
  cases f with
  | next =>
   obtain⟨σ3,H3,I3,n3⟩:=q3
   obtain⟨m',hm,w3⟩:=hN σ3 H3 n3
   exact⟨m',hm,σ3,H3,I3,w3⟩
  | cont =>
   obtain⟨σ3,H3,I3,n3⟩:=q3
   obtain⟨m',hm,w3⟩:=hN σ3 H3 n3
   exact⟨m',hm,σ3,H3,I3,w3⟩
  | brk=>exact q3
  | ret v=>exact q3
 | false =>
  rw[if_neg Bool.false_ne_true]
  exact wpAny_execs_nil ⟨σ1,H2,I2,q2⟩
end
structure It where
 go:Nat->Hp->Prop
 yld:Nat->Hp->V->Hp->Prop
 stop:Nat->Hp->Prop
def vP (X:Cx) (pins:List (Addr×Obj)) (H:Hp) (b:Addr):Prop :=
 H b=none/\b≠X.env.locals/\b∉X.fs/\(b∈X.ex\/X.s₀.heap.objs.size<=b)/\(∀x c,X.env.cells.lookup x=some c->c≠b)/\∀p∈X.pn++pins,p.1≠b
theorem Inv.fpOk {X:Cx}{pins:List (Addr×Obj)}{σ:St}{H H':Hp}{s:Shared}{b:Addr}(I:Inv X pins σ H s) (hb:s.heap.objs.size<=b) (hn:H' b=none):vP X pins H' b:=by
 refine⟨hn,Nat.ne_of_gt (Nat.lt_of_lt_of_le I.lt hb),I.nofs hb,.inr (Nat.le_trans I.sz hb),λx c e z=>?_,λp hp z=>?_⟩
 ·obtain⟨v,q⟩:=I.cell x c e
  exact absurd (Nat.lt_of_lt_of_le q.lt (by rw[z];exact hb)) (Nat.lt_irrefl _)
 ·exact absurd (Nat.lt_of_lt_of_le (Heap.lt_size (I.pin p hp).1) (by rw[z];exact hb)) (Nat.lt_irrefl _)
structure Vx (P:Program) (w:World) (K:PySem.W.Frag) (tg:Expr) (J:It) (fp:List Addr) (it:Addr) (tn:Nat->Heap->Prop):Prop where
 mem:it∈fp
 obj:∀i h,tn i h->∀b∈fp,∃o,h.get? b=some o/\∀v,o.data≠.cell v
 keep:∀i h h',tn i h->(∀b∈fp,∀o,h.get? b=some o->h'.get? b=some o)->tn i h'
 item:∀(X:Cx),X.prog=P->X.w=w->X.K=K->X.calm=true->∀(i:Nat) (pins:List (Addr×Obj)) (s:Shared) (σ:St) (H:Hp) (E:Value->Shared->Prop),Inv X pins σ H s->(∀b∈fp,vP X pins H b)->tn i s.heap->J.go i H →
  wpAny (model P w) X.A (pyNext (.ref it)) (λr s1=>∃u,r=some u ∧
   wpAny (model P w) X.A (letOwnedTupleGo tg (.ref it) u) (λ_ s2=>∃x H',Inv X pins σ H' s2/\xc x u/\J.yld i H x H'/\tn (i+1) s2.heap/\∀b∈fp,H' b=none) E s1) E s
 done:∀(X:Cx),X.prog=P->X.w=w->X.K=K->X.calm=true->∀(i:Nat) (pins:List (Addr×Obj)) (s:Shared) (σ:St) (H:Hp) (E:Value->Shared->Prop),Inv X pins σ H s->(∀b∈fp,vP X pins H b)->tn i s.heap->J.stop i H →
  wpAny (model P w) X.A (pyNext (.ref it)) (λr s1=>r=none/\Inv X pins σ H s1) E s
 self:∀(A:Around) (i:Nat) (s:Shared) (Q:Value->Shared->Prop) (E:Value->Shared->Prop),tn i s.heap->Q (.ref it) s->wpAny (model P w) A (pyIter (.ref it)) Q E s
abbrev TI:=St->Hp->(It->Hp->Prop)->Prop
def PIE (X:Cx) (pins:List (Addr×Obj)) (σ:St) (tg:Expr) (R:It->Hp->Prop) (itv:Value) (s2:Shared):Prop :=
 ∃(it:Addr) (fp:List Addr) (tn:Nat->Heap->Prop) (J:It) (H':Hp),itv = .ref it/\Inv X pins σ H' s2/\Vx X.prog X.w X.K tg J fp it tn/\tn 0 s2.heap/\(∀b∈fp,vP X pins H' b)/\R J H'
def PI (X:Cx) (tg iter:Expr) (wi:TI):Prop :=
 ∀(pins:List (Addr×Obj)) (s:Shared) (σ:St) (H:Hp) (R:It->Hp->Prop),Inv X pins σ H s->wi σ H R →
  wpAny (model X.prog X.w) X.A (eval iter X.env) (λv s1=>wpAny (model X.prog X.w) X.A (pyIter v) (PIE X pins σ tg R) X.xe s1) X.xe s
theorem Qr {M:Model}{A:Around}{E:Value->Shared->Prop}{s:Shared}{tg:Expr}{it:Addr}{u:Value}{o:Obj}{n:String}{vs:Array Value}{Q:Unit->Shared->Prop}(ho:s.heap.get? it=some o) (hc:o.cls = .type n) (hd:o.data = .fields vs)
  (hn:["enumerate","zip","dict_itemiterator","dict_reverseitemiterator","odict_iterator","itertools.zip_longest","itertools.pairwise"].contains n=false) (hQ:Q () s):wpAny M A (letOwnedTupleGo tg (.ref it) u) Q E s:=by
 unfold letOwnedTupleGo
 cases tg <;> first
  | exact wpAny_pure hQ
  | (cases u <;> first
    | exact wpAny_pure hQ
    | (refine wpAny_bind (wpAny_load ho ?_)
       rw[hc,hd]
       show wpAny M A (if(["enumerate","zip","dict_itemiterator","dict_reverseitemiterator","odict_iterator","itertools.zip_longest","itertools.pairwise"].contains n&&vs[0]? == some (rawInt _))=true then _ else _) Q E s
       rw[if_neg (by intro h;rw[hn,Bool.false_and]at h;cases h)]
       exact wpAny_pure hQ))
def Itl (K:PySem.W.Frag) (a:Addr):It :=
 ⟨λi H=>∃xs x,SqL K H a xs/\xs[i]? = some x,λi H x H'=>H'=H/\∀xs,SqL K H a xs->xs[i]? = some x,λi H=>∃xs,SqL K H a xs/\xs.length<=i⟩
def Itr (lo:Int) (n:Nat):It:=⟨λi _=>i<n,λi H x H'=>H'=H/\x = .int (lo+i),λi _=>n<=i⟩
theorem Qd {P:Program}{w:World}{K:PySem.W.Frag}{tg:Expr}(a it:Addr):Vx P w K tg (Itl K a) [it] it (λi h=>h.IsListIter it a i) where
 mem:=by simp
 obj:=λi h st b hb=>by
  have e:b=it:=by simpa using hb
  subst e
  obtain⟨o,e,c,d⟩:=st
  exact⟨o,e,λv z=>by rw[d]at z;cases z⟩
 keep:=λi h h' st k=>st.at λo e=>k it (by simp) o e
 item:=by
  intro X hP hw hK hc i pins s σ H E I hf st hg
  subst hP hw hK
  obtain⟨xs,x,hq,hx⟩:=hg
  obtain⟨its,rv,p,hz⟩:=I.list hq
  obtain⟨u,hu,ru⟩:=rv.get hx
  obtain⟨f0,f1,f2,f3,f4,f5⟩:=hf it (by simp)
  refine wpAny_pyNext_list_item st p.isList (x:=u) (by simpa using hu) λh' st' sb=>?_
  have I1:Inv X pins σ H { s with heap:=h' }:=I.turned (t':=s.toks) (λb o hb e=>(sb.2 b hb).trans e) f0 f1 f3 f4 f5
  obtain⟨o,e,c,d⟩:=id st'
  exact⟨u,rfl,Qr (s:={ s with heap:=h' }) e c d (by decide) ⟨x,H,I1,ru,⟨rfl,λys hy=>by rw[I.list_inj hy hq];exact hx⟩,st',λb hb=>(hf b hb).1⟩⟩
 done:=by
  intro X hP hw hK hc i pins s σ H E I hf st hg
  subst hP hw hK
  obtain⟨xs,hq,hx⟩:=hg
  obtain⟨its,rv,p,hz⟩:=I.list hq
  obtain⟨f0,f1,f2,f3,f4,f5⟩:=hf it (by simp)
  have hl:=rv.length
  exact wpAny_pyNext_list_end (I.ok.hd hc) st p.isList (by simp;omega) λh' eb=>⟨rfl,I.turned (t':=s.toks) (λb o hb e=>eb b o hb e) f0 f1 f3 f4 f5⟩
 self:=λ_ _ _ _ _ st h=>wpAny_pyIter_listiter st h
theorem Xc {P:Program}{w:World}{K:PySem.W.Frag}{tg:Expr}(it:Addr) (lo:Int) (n:Nat):Vx P w K tg (Itr lo n) [it] it (λi h=>IsRangeIter h it (lo+(i:Nat)*1) ((n:Int) - (i:Nat)) 1) where
 mem:=by simp
 obj:=λi h st b hb=>by
  have e:b=it:=by simpa using hb
  subst e
  exact⟨_,st,λv z=>by
   have z':Data.fields _=Data.cell v:=z
   cases z'⟩
 keep:=λi h h' st k=>k it (by simp) _ st
 item:=by
  intro X hP hw hK hc i pins s σ H E I hf st hg
  subst hP hw hK
  obtain⟨f0,f1,f2,f3,f4,f5⟩:=hf it (by simp)
  have W:=Walks.range (prog:=X.prog) (w:=X.w) (I.ok.hd hc) it lo 1 n
  refine W.item i s _ _ hg st λv h' tk hv st' kk=>?_
  obtain⟨t,rfl⟩:=hv
  have I1:Inv X pins σ H { s with heap:=h',toks:=tk }:=I.turned (λb o hb e=>kk b o (by simpa using hb) e) f0 f1 f3 f4 f5
  refine⟨_,rfl,Qr (s:={ s with heap:=h',toks:=tk }) (n:="range_iterator") st' rfl rfl (by decide) ⟨.int (lo+i),H,I1,⟨t,?_⟩,⟨rfl,rfl⟩,st',λb hb=>(hf b hb).1⟩⟩
  rw[Int.mul_one]
 done:=by
  intro X hP hw hK hc i pins s σ H E I hf st hg
  subst hP hw hK
  obtain⟨f0,f1,f2,f3,f4,f5⟩:=hf it (by simp)
  exact wpAny_pyNext_range_end (I.ok.hd hc) st (by have:n<=i:=hg;omega) λh' eb=>⟨rfl,I.turned (t':=s.toks) (λb o hb e=>eb b o hb e) f0 f1 f3 f4 f5⟩
 self:=λ_ _ _ _ _ st h=>wpAny_pyIter_rangeiter st h
end L2
namespace L2
open PySem PySem.Spec PyProof.Rows
section
variable {X:Cx}{tg:Expr}
def zaT (K:PySem.W.Frag) (tl:TE):TI:=λσ H R=>tl σ H λx H1=>∃a,x = .ref a/\(∃xs,SqL K H1 a xs)/\R (Itl K a) H1
theorem v0 {l:Expr}{tl:TE}(hl:PE X l tl):PI X tg l (zaT X.K tl):=by
 intro pins s σ H R I h
 refine thn (hl pins s σ H _ I h) λv s1 ⟨x,H1,I1,r1,q1⟩=>?_
 obtain⟨a,e,⟨xs,hq⟩,q⟩:=q1
 subst e
 cases r1
 obtain⟨its,rv,p,hz⟩:=I1.list hq
 refine wpAny_pyIter_list p.isList ?_
 refine⟨s1.heap.objs.size,[s1.heap.objs.size],_,_,H1,rfl,I1.kept (t':=s1.toks) λb o e=>Heap.get?_push_of_some _ e,Qd a _,⟨_,Heap.get?_push_size _ rfl,rfl,rfl⟩,λb hb=>?_,q⟩
 have e:b=s1.heap.objs.size:=by simpa using hb
 subst e
 exact I1.fpOk (Nat.le_refl _) (I1.hok.fresh (Nat.le_refl _))
theorem QX {pins:List (Addr×Obj)}{σ:St}{H:Hp}{s:Shared}{R:It->Hp->Prop}{E:Value->Shared->Prop}{lo hi:Int}{t u v:Tok}{tk:Nat}(I:Inv X pins σ H s) (h1 : -(2^62)<=lo) (h2:lo<2^62) (h3 : -(2^62)<=hi) (h4:hi<2^62)
  (q:R (Itr lo (hi - lo).toNat) H):wpAny (model X.prog X.w) X.A (pyIter (.ref s.heap.objs.size)) (PIE X pins σ tg R) E { s with heap:=s.heap.push { cls:=.type "range",data:=.fields #[.int lo t,.int hi u,.int 1 v] },toks:=tk }:=by
 refine wpAny_pyIter_range (IsRange.new ..) (small_one h1 h2 h3 h4) ?_
 have I1:Inv X pins σ H { s with heap:=s.heap.push { cls:=.type "range",data:=.fields #[.int lo t,.int hi u,.int 1 v] },toks:=tk }:=I.kept λb o e=>Heap.get?_push_of_some _ e
 refine⟨(s.heap.push { cls:=.type "range",data:=.fields #[.int lo t,.int hi u,.int 1 v] }).objs.size,[(s.heap.push { cls:=.type "range",data:=.fields #[.int lo t,.int hi u,.int 1 v] }).objs.size],_,_,H,rfl,
  I1.kept (t':=tk) λb o e=>Heap.get?_push_of_some _ e,Xc _ lo (hi - lo).toNat,?_,λb hb=>?_,q⟩
 ·have e1:lo+((0:Nat):Int)*1=lo:=by simp
  have e2:(((hi - lo).toNat:Nat):Int) - ((0:Nat):Int)=Builtin.Range.rangeSize lo hi 1:=by rw[rangeSize_one];split <;> omega
  show IsRangeIter _ _ (lo+((0:Nat):Int)*1) ((((hi - lo).toNat:Nat):Int) - ((0:Nat):Int)) 1
  rw[e1,e2]
  exact Heap.get?_push_size _ rfl
 ·have e:b=(s.heap.push { cls:=.type "range",data:=.fields #[.int lo t,.int hi u,.int 1 v] }).objs.size:=by simpa using hb
  subst e
  exact I1.fpOk (Nat.le_refl _) (I1.hok.fresh (Nat.le_refl _))
def zaU (ta:TA):TI:=λσ H R=>ta σ H λvs H1=>∃j:Int,vs=[.int j] ∧ -(2^62)<=j/\j<2^62/\R (Itr 0 j.toNat) H1
theorem XZ {a:Expr}{ta:TA}{p pos:Pos}(hg:Gl X "range") (hm:X.mg "range" = none) (ha:PA X [a] ta) (hs:starEach [a] X.env=[(false,eval a X.env)]:=by rfl):PI X tg (.Call (.Name "range" p) [a] [] pos) (zaU ta):=by
 intro pins s σ H R I h
 refine Call_ (j3 I hg hm boot_range (PyProof.Rows.callWith_type1 (thn (ha pos pins s σ H _ I h) λus s1 ⟨vs,H1,I1,r1,q1⟩=>?_) hs rfl))
 obtain⟨j,e,q1,q2,q⟩:=q1
 subst e
 cases r1 with
 | cons r rr =>
  cases rr
  obtain⟨t,rfl⟩:=r
  exact call_range_1 (QX I1 (by omega) (by omega) q1 q2 (by simpa using q))
def Jj (wi:TI) (g:TG) (tb:TS):TS:=λD σ H=>wi σ H λJ H1=>∃W:Nat->Nat->St->Hp->Prop,(∃m,W 0 m σ H1)/\∀i m σ H,W i m σ H →
 (J.stop i H/\D.nx σ H)\/(J.go i H/\∃N:St->Hp->Prop,(∀σ' H',N σ' H'->∃m',m'<m/\W (i+1) m' σ' H')/\∀x H',J.yld i H x H'->g x σ H' λσ2 H2=>tb { D with nx:=N,ct:=N,bk:=D.nx } σ2 H2)
def vn (fp:List Addr) (h:Heap):List (Addr×Obj):=fp.filterMap λb=>(h.get? b).map λo=>(b,o)
theorem xz {fp:List Addr}{h:Heap}{b:Addr}{o:Obj}(hb:b∈fp) (e:h.get? b=some o):(b,o)∈vn fp h:=List.mem_filterMap.mpr ⟨b,hb,by rw[e];rfl⟩
theorem XW {fp:List Addr}{h:Heap}{p:Addr×Obj}(hp:p∈vn fp h):p.1∈fp/\h.get? p.1=some p.2:=by
 obtain⟨b,hb,e⟩:=List.mem_filterMap.mp hp
 cases q:h.get? b with
 | none=>rw[q]at e;cases e
 | some o =>
  rw[q]at e
  have e':(b,o)=p:=Option.some.inj e
  subst e'
  exact⟨hb,q⟩
theorem Inv.pinned {pins:List (Addr×Obj)}{σ:St}{H:Hp}{s:Shared}{fp:List Addr}(I:Inv X pins σ H s) (hf:∀b∈fp,vP X pins H b) (ho:∀b∈fp,∃o,s.heap.get? b=some o/\∀v,o.data≠.cell v):Inv X (pins++vn fp s.heap) σ H s :=
 I.pins_of λp hp=>(List.mem_append.mp hp).elim (λz=>I.pin p (List.mem_append_right _ z)) λz=>by
  obtain⟨hb,e⟩:=XW z
  obtain⟨f0,f1,f2,_⟩:=hf p.1 hb
  obtain⟨o,e',d⟩:=ho p.1 hb
  rw[e]at e';cases e'
  exact⟨e,f0,f1,f2,d⟩
theorem Inv.unpinned {pins pl:List (Addr×Obj)}{σ:St}{H:Hp}{s:Shared}(I:Inv X (pins++pl) σ H s):Inv X pins σ H s:=I.pins_of λp hp=>I.pin p (List.mem_append_right _ (List.mem_append_left _ hp))
theorem ZW {iter:Expr}{body:List Stmt}{wi:TI}{g:TG}{tb:TS}{pos:Pos}(hp:PassesOwn (model X.prog X.w) X.A X.env X.xe) (hc:X.calm=true) (hi:PI X tg iter wi) (hg:PG X tg g) (hb:PSs X body tb)
  (hs:∀x,foldedSetIterable iter X.env x=pure x:=by intro _;rfl):PS X (.For tg iter body [] pos) (Jj wi g tb):=by
 intro pins s σ H D I h
 refine wpAny_For (thn (hi pins s σ H _ I h) λv s1 h1=>thn h1 λitv s2 h2=>?_) hs
 obtain⟨it,fp,tn,J,H2,e,I2,T,st2,f2,W,⟨m0,w0⟩,turn⟩:=h2
 subst e
 have stat:∀{H':Hp},(∀b∈fp,H' b=none)->∀b∈fp,vP X pins H' b:=λhn b hb=>⟨hn b hb,(f2 b hb).2⟩
 refine codeAny_forLoop_any (λn s'=>∃i σ' H',Inv X pins σ' H' s'/\tn i s'.heap/\(∀b∈fp,H' b=none)/\W i n σ' H') ?_ m0 ⟨0,σ,H2,I2,st2,λb hb=>(f2 b hb).1,w0⟩
 rintro n s3 ⟨i,σ3,H3,I3,st3,fr3,w3⟩
 rcases turn i n σ3 H3 w3 with⟨stop,qn⟩ | ⟨go,N,hN,step⟩
 ·refine wpAny_passesOwn hp (thn (T.done X rfl rfl rfl hc i pins s3 σ3 H3 X.xe I3 (stat fr3) st3 stop) λr s4 ⟨hr,I4⟩=>?_)
  subst hr
  exact wpAny_execs_nil ⟨σ3,H3,I4,qn⟩
 ·refine wpAny_passesOwn hp (thn (T.item X rfl rfl rfl hc i pins s3 σ3 H3 X.xe I3 (stat fr3) st3 go) λr s4 ⟨u,hr,h4⟩=>?_)
  subst hr
  refine wpAny_passesOwn hp (thn h4 λ_ s5 ⟨x,H5,I5,r5,y5,st5,fr5⟩=>?_)
  have I5':=I5.pinned (stat fr5) (T.obj _ _ st5)
  refine wpAny_passesOwn hp (thn (hg _ s5 σ3 H5 x u _ I5' r5 (step x H5 y5)) λ_ s6 ⟨σ6,H6,I6,q6⟩=>?_)
  refine wpAny_passesOwn hp (thn (hb _ s6 σ6 H6 _ I6 q6) λf s7 q7=>?_)
  have again:∀{σ7:St}{H7:Hp},Inv X (pins++vn fp s5.heap) σ7 H7 s7->N σ7 H7->∃m,m<n/\∃i σ' H',Inv X pins σ' H' s7/\tn i s7.heap/\(∀b∈fp,H' b=none)/\W i m σ' H':=λ{σ7 H7} I7 n7=>by
   obtain⟨m',hm,w7⟩:=hN σ7 H7 n7
   refine⟨m',hm,i+1,σ7,H7,I7.unpinned,T.keep _ _ _ st5 λb hb o e=>(I7.pin (b,o) (List.mem_append_right _ (List.mem_append_right _ (xz hb e)))).1,λb hb=>?_,w7⟩
   obtain⟨o,e,d⟩:=T.obj _ _ st5 b hb
   exact(I7.pin (b,o) (List.mem_append_right _ (List.mem_append_right _ (xz hb e)))).2.1
  cases f with
  | next=>obtain⟨σ7,H7,I7,n7⟩:=q7;exact again I7 n7
  | cont=>obtain⟨σ7,H7,I7,n7⟩:=q7;exact again I7 n7
  | brk=>obtain⟨σ7,H7,I7,q7⟩:=q7;exact⟨σ7,H7,I7.unpinned,q7⟩
  | ret v=>obtain⟨x7,σ7,H7,I7,r7,q7⟩:=q7;exact⟨x7,σ7,H7,I7.unpinned,r7,q7⟩
end
theorem Zo {K:PySem.W.Frag}{a:Addr}{xs:List V}{g:TG}{tb:TS}{D:vg}{σ:St}{H:Hp}(Pv:Nat->St->Hp->Prop) (h0:Pv 0 σ H) (hl:∀i σ H,i<=xs.length->Pv i σ H->SqL K H a xs)
  (hs:∀i x σ H,xs[i]? = some x->Pv i σ H->g x σ H λσ2 H2=>tb { D with nx:=Pv (i+1),ct:=Pv (i+1),bk:=D.nx } σ2 H2) (hd:∀σ H,Pv xs.length σ H->D.nx σ H) :
  ∃W:Nat->Nat->St->Hp->Prop,(∃m,W 0 m σ H)/\∀i m σ H,W i m σ H →
   ((Itl K a).stop i H/\D.nx σ H)\/((Itl K a).go i H/\∃N:St->Hp->Prop,(∀σ' H',N σ' H'->∃m',m'<m/\W (i+1) m' σ' H')/\∀x H',(Itl K a).yld i H x H'->g x σ H' λσ2 H2=>tb { D with nx:=N,ct:=N,bk:=D.nx } σ2 H2):=by
 refine⟨λi m σ H=>m=xs.length - i/\i<=xs.length/\Pv i σ H,⟨xs.length,by simp,Nat.zero_le _,h0⟩,?_⟩
 rintro i m σ H ⟨rfl,hi,p⟩
 have q:=hl i σ H hi p
 by_cases hlt:i<xs.length
 ·refine .inr ⟨⟨xs,xs[i],q,by simp[hlt]⟩,Pv (i+1),λσ' H' p'=>⟨xs.length - (i+1),by omega,rfl,hlt,p'⟩,λx H' y=>?_⟩
  obtain⟨e,y⟩:=y
  subst e
  exact hs i x σ _ (y xs q) p
 ·have e:i=xs.length:=by omega
  subst e
  exact .inl ⟨⟨xs,q,Nat.le_refl _⟩,hd σ H p⟩
theorem vN {c:TT}{tb:TS}{D:vg}{σ:St}{H:Hp}(Pv:St->Hp->Prop) (μ:St->Hp->Nat) (h0:Pv σ H)
  (hs:∀σ H,Pv σ H->c σ H λb H1=>if b=true then tb { D with nx:=λσ' H'=>Pv σ' H'/\μ σ' H'<μ σ H,ct:=λσ' H'=>Pv σ' H'/\μ σ' H'<μ σ H,bk:=D.nx } σ H1 else D.nx σ H1)
  (mono:∀σ H Q Q',(∀b H1,Q b H1->Q' b H1)->c σ H Q->c σ H Q'):Zh c tb D σ H:=by
 refine⟨λm σ H=>m=μ σ H/\Pv σ H,⟨_,rfl,h0⟩,?_⟩
 rintro m σ H ⟨rfl,p⟩
 refine mono σ H _ _ (λb H1 q=>?_) (hs σ H p)
 cases b with
 | true=>exact⟨_,λσ' H' ⟨p',l⟩=>⟨_,l,rfl,p'⟩,q⟩
 | false=>exact q
end L2
namespace L2
open PySem PySem.Spec PyProof.Rows
abbrev R2:=V->V->Hp->VK->Prop
def OpR (X:Cx) (f:Value->Value->Sem Value) (r:R2):Prop :=
 ∀(pins:List (Addr×Obj)) (s:Shared) (σ:St) (H:Hp) (x y:V) (v u:Value) (Q:VK),Inv X pins σ H s->xc x v->xc y u->r x y H Q →
  wpAny (model X.prog X.w) X.A (f v u) (EP X pins σ Q) X.xe s
def UnR (X:Cx) (f:Value->Sem Value) (r:V->Hp->VK->Prop):Prop :=
 ∀(pins:List (Addr×Obj)) (s:Shared) (σ:St) (H:Hp) (x:V) (v:Value) (Q:VK),Inv X pins σ H s->xc x v->r x H Q →
  wpAny (model X.prog X.w) X.A (f v) (EP X pins σ Q) X.xe s
def qA (X:Cx) (f:Value) (r:List V->Hp->VK->Prop):Prop :=
 ∀(pins:List (Addr×Obj)) (s:Shared) (σ:St) (H:Hp) (xs:List V) (us:List Value) (Q:VK),Inv X pins σ H s->zM xs us->r xs H Q →
  wpAny (model X.prog X.w) X.A (call f us) (EP X pins σ Q) X.xe s
def TruR (X:Cx) (r:V->Hp->(Bool->Hp->Prop)->Prop):Prop :=
 ∀(pins:List (Addr×Obj)) (s:Shared) (σ:St) (H:Hp) (x:V) (v:Value) (Q:Bool->Hp->Prop),Inv X pins σ H s->xc x v->r x H Q →
  wpAny (model X.prog X.w) X.A (truthy v) (TP X pins σ Q) X.xe s
def tOp (r:R2) (ta tb:TE):TE:=λσ H Q=>ta σ H λx H1=>tb σ H1 λy H2=>r x y H2 Q
def tUn (r:V->Hp->VK->Prop) (ta:TE):TE:=λσ H Q=>ta σ H λx H1=>r x H1 Q
def rI (C:Int->Int->Prop) (g:Int->Int->V):R2:=λx y H Q=>∃i j,x = .int i/\y = .int j/\C i j/\Q (g i j) H
def rI0 (g:Int->Int->V):R2:=λx y H Q=>∃i j,x = .int i/\y = .int j/\Q (g i j) H
def rU (g:Int->V):V->Hp->VK->Prop:=λx H Q=>∃i,x = .int i/\Q (g i) H
section
variable {X:Cx}{a b c:Expr}{ta tb tc:TE}{pos:Pos}
theorem JS (ha:PE X a ta) (hb:PE X b tb){pins:List (Addr×Obj)}{s:Shared}{σ:St}{H:Hp}{R:V->V->Hp->Prop}(I:Inv X pins σ H s)
  (h:ta σ H λx H1=>tb σ H1 λy H2=>R x y H2){Q:Value->Shared->Prop}{f:Value->Value->Sem Value}
  (hf:∀v u s2 x y H2,Inv X pins σ H2 s2->xc x v->xc y u->R x y H2->wpAny (model X.prog X.w) X.A (f v u) Q X.xe s2) :
  wpAny (model X.prog X.w) X.A (eval a X.env) (λv s₁=>wpAny (model X.prog X.w) X.A (eval b X.env) (λu s₂=>wpAny (model X.prog X.w) X.A (f v u) Q X.xe s₂) X.xe s₁) X.xe s:=by
 refine thn (ha pins s σ H _ I h) λv s1 ⟨x,H1,I1,r1,q1⟩=>?_
 refine thn (hb pins s1 σ H1 _ I1 q1) λu s2 ⟨y,H2,I2,r2,q2⟩=>?_
 exact hf v u s2 x y H2 I2 r1 r2 q2
theorem zm {op:Operator}{r:R2}(ho:OpR X (binaryOp op) r) (ha:PE X a ta) (hb:PE X b tb):PE X (.BinOp a op b pos) (tOp r ta tb):=by
 intro pins s σ H Q I h
 exact wpAny_BinOp (JS ha hb I h λv u s2 x y H2 I2 rx ry q=>ho pins s2 σ H2 x y v u Q I2 rx ry q)
theorem Xt {op:UnaryOp}{r:V->Hp->VK->Prop}(ho:UnR X (unaryOp op) r) (ha:PE X a ta):PE X (.UnaryOp op a pos) (tUn r ta):=by
 intro pins s σ H Q I h
 exact UnaryOp_ (thn (ha pins s σ H _ I h) λv s1 ⟨x,H1,I1,r1,q1⟩=>ho pins s1 σ H1 x v Q I1 r1 q1)
theorem opI {f:Value->Value->Sem Value}{C:Int->Int->Prop}{g:Int->Int->Int}
  (rule:∀(i j:Int) (t u:Tok) (s:Shared) (Q:Value->Shared->Prop) (E:Value->Shared->Prop),C i j->Q (.int (g i j) s.toks) { s with toks:=s.toks+1 }->wpAny (model X.prog X.w) X.A (f (.int i t) (.int j u)) Q E s) :
  OpR X f (rI C λi j=>.int (g i j)):=by
 intro pins s σ H x y v u Q I rx ry h
 obtain⟨i,j,rfl,rfl,hc,q⟩:=h
 obtain⟨t,rfl⟩:=rx
 obtain⟨t',rfl⟩:=ry
 exact rule i j t t' s _ _ hc ⟨.int (g i j),H,I.tok _,⟨_,rfl⟩,q⟩
theorem zaW {f:Value->Value->Sem Value}{g:Int->Int->Int}
  (rule:∀(i j:Int) (t u:Tok) (s:Shared) (Q:Value->Shared->Prop) (E:Value->Shared->Prop),Q (.int (g i j) s.toks) { s with toks:=s.toks+1 }->wpAny (model X.prog X.w) X.A (f (.int i t) (.int j u)) Q E s) :
  OpR X f (rI0 λi j=>.int (g i j)):=by
 intro pins s σ H x y v u Q I rx ry h
 obtain⟨i,j,rfl,rfl,q⟩:=h
 obtain⟨t,rfl⟩:=rx
 obtain⟨t',rfl⟩:=ry
 exact rule i j t t' s _ _ ⟨.int (g i j),H,I.tok _,⟨_,rfl⟩,q⟩
theorem V4 {f:Value->Value->Sem Value}{g:Int->Int->Bool}
  (rule:∀(i j:Int) (t u:Tok) (s:Shared) (Q:Value->Shared->Prop) (E:Value->Shared->Prop),Q (.bool (g i j)) s->wpAny (model X.prog X.w) X.A (f (.int i t) (.int j u)) Q E s) :
  OpR X f (rI0 λi j=>.bl (g i j)):=by
 intro pins s σ H x y v u Q I rx ry h
 obtain⟨i,j,rfl,rfl,q⟩:=h
 obtain⟨t,rfl⟩:=rx
 obtain⟨t',rfl⟩:=ry
 exact rule i j t t' s _ _ ⟨.bl (g i j),H,I,rfl,q⟩
def CDiv (i j:Int):Prop:=0<j/\j<1073741824
def CPow (i j:Int):Prop:=0<=j/\j<=1000000/\i.natAbs<2^64
def JI (i j:Int):Prop:=(-(2^64)<i/\i<2^64)\/(-(2^64)<j/\j<2^64)
theorem JI.ok {i j:Int}(h:JI i j):IntMulOk i j:=by
 rcases h with⟨h1,h2⟩ | ⟨h1,h2⟩
 ·exact .of_left (intBits_le_64 h1 h2)
 ·exact .of_right (intBits_le_64 h1 h2)
theorem qR:OpR X (binaryOp .Add) (rI0 λi j=>.int (i+j)):=zaW λ_ _ _ _ _ _ _ q=>add_int q
theorem vm:OpR X (binaryOp .Sub) (rI0 λi j=>.int (i - j)):=zaW λ_ _ _ _ _ _ _ q=>sub_int q
theorem ZU:OpR X (binaryOp .Mult) (rI JI λi j=>.int (i*j)):=opI λ_ _ _ _ _ _ _ hc q=>mul_int q hc.ok
theorem V5:OpR X (binaryOp .FloorDiv) (rI CDiv λi j=>.int (i/j)):=opI λi j _ _ _ _ _ hc q=>by
 have h1:(0:Int)<j:=hc.1
 have h2:j<1073741824:=hc.2
 exact floordiv_int (by omega) (by rw[Int.fdiv_eq_ediv_of_nonneg i (by omega)];exact q) (.inl (PyProof.noPylong_small (by omega)))
theorem qH:OpR X (binaryOp .Mod) (rI (λ_ j=>0<j) λi j=>.int (i % j)):=opI λi j _ _ _ _ _ hc q=>by
 have h1:(0:Int)<j:=hc
 exact mod_int' (by omega) (by rw[Int.fmod_eq_emod_of_nonneg i (by omega)];exact q)
theorem qJ:OpR X (binaryOp .Pow) (rI CPow λi j=>.int (i^j.toNat)):=opI λ_ _ _ _ _ _ _ hc q=>pow_int_small hc.1 hc.2.1 hc.2.2 q
theorem unI {f:Value->Sem Value}{g:Int->Int}
  (rule:∀(i:Int) (t:Tok) (s:Shared) (Q:Value->Shared->Prop) (E:Value->Shared->Prop),Q (.int (g i) s.toks) { s with toks:=s.toks+1 }->wpAny (model X.prog X.w) X.A (f (.int i t)) Q E s) :
  UnR X f (rU λi=>.int (g i)):=by
 intro pins s σ H x v Q I rx h
 obtain⟨i,rfl,q⟩:=h
 obtain⟨t,rfl⟩:=rx
 exact rule i t s _ _ ⟨.int (g i),H,I.tok _,⟨_,rfl⟩,q⟩
theorem Zi:UnR X (unaryOp .USub) (rU λi=>.int (-i)):=unI λ_ _ _ _ _ q=>neg_int q
end
def za5:V->V->Bool
 | .non,.non=>true | .non,.int _=>true | .int _,.non=>true | .non,.bl _=>true | .bl _,.non=>true | .non,.str _=>true | .str _,.non=>true
 | .int _,.int _=>true | .bl _,.bl _=>true | .str _,.str _=>true | .byt _,.byt _=>true
 | .int _,.str _=>true | .str _,.int _=>true | .bl _,.str _=>true | .str _,.bl _=>true
 | _,_=>false
def rEq:R2:=λx y H Q=>za5 x y=true/\Q (.bl (decide (x=y))) H
def rNe:R2:=λx y H Q=>za5 x y=true/\Q (.bl (!decide (x=y))) H
theorem xi {i j:Int}:decide (V.int i=V.int j)=(i == j):=by
 rw[Bool.eq_iff_iff]
 simp
theorem Qk {i j:Bool}:decide (V.bl i=V.bl j)=(i == j):=by
 rw[Bool.eq_iff_iff]
 simp
theorem Xi {i j:Str}:decide (V.str i=V.str j)=(i == j):=by
 rw[Bool.eq_iff_iff]
 simp
theorem Xh {i j:Array UInt8}:decide (V.byt i=V.byt j)=(i.toList == j.toList):=by
 rw[Bool.eq_iff_iff]
 cases i
 cases j
 simp
section
variable {X:Cx}{a b c:Expr}{ta tb tc:TE}{pos:Pos}
theorem zF {pins:List (Addr×Obj)}{σ:St}{H:Hp}{s:Shared}{Q:VK}{k k':Bool}(I:Inv X pins σ H s) (q:Q (.bl k) H) (e:k=k'):EP X pins σ Q (.bool k') s:=by
 subst e
 exact⟨.bl k,H,I,rfl,q⟩
theorem xO:OpR X (compareOp .Eq) rEq:=by
 intro pins s σ H x y v u Q I rx ry h
 obtain⟨hs,q⟩:=h
 cases x with
 | non =>
  cases rx
  cases y with
  | non=>cases ry;exact PySem.EqNone.eq_none_none (zF I q (by simp))
  | bl j=>cases ry;exact PySem.EqNone.eq_none_bool (zF I q (by simp))
  | int j=>obtain⟨t',rfl⟩:=ry;exact PySem.EqNone.eq_none_int (zF I q (by simp))
  | str j=>obtain⟨t',rfl⟩:=ry;exact PySem.EqNone.eq_none_str (zF I q (by simp))
  | _=>exact absurd (show false=true from hs) Bool.false_ne_true
 | bl i =>
  cases rx
  cases y with
  | non=>cases ry;exact PySem.EqNone.eq_bool_none (zF I q (by simp))
  | bl j=>cases ry;exact eq_bool (zF I q Qk)
  | str j=>obtain⟨t',rfl⟩:=ry;exact PySem.EqMixed.eq_bool_str (zF I q (by simp))
  | _=>exact absurd (show false=true from hs) Bool.false_ne_true
 | int i =>
  obtain⟨t,rfl⟩:=rx
  cases y with
  | non=>cases ry;exact PySem.EqNone.eq_int_none (zF I q (by simp))
  | int j=>obtain⟨t',rfl⟩:=ry;exact eq_int (zF I q xi)
  | str j=>obtain⟨t',rfl⟩:=ry;exact PySem.EqMixed.eq_int_str (zF I q (by simp))
  | _=>exact absurd (show false=true from hs) Bool.false_ne_true
 | str i =>
  obtain⟨t,rfl⟩:=rx
  cases y with
  | non=>cases ry;exact PySem.EqNone.eq_str_none (zF I q (by simp))
  | bl j=>cases ry;exact PySem.EqMixed.eq_str_bool (zF I q (by simp))
  | int j=>obtain⟨t',rfl⟩:=ry;exact PySem.EqMixed.eq_str_int (zF I q (by simp))
  | str j=>obtain⟨t',rfl⟩:=ry;exact eq_str (zF I q Xi)
  | _=>exact absurd (show false=true from hs) Bool.false_ne_true
 | byt i =>
  obtain⟨t,rfl⟩:=rx
  cases y with
  | byt j=>obtain⟨t',rfl⟩:=ry;exact PySem.W.eq_bytes (zF I q Xh)
  | _=>exact absurd (show false=true from hs) Bool.false_ne_true
 | _=>cases y <;> exact absurd (show false=true from hs) Bool.false_ne_true
theorem vA:OpR X (compareOp .NotEq) rNe:=by
 intro pins s σ H x y v u Q I rx ry h
 obtain⟨hs,q⟩:=h
 cases x with
 | non =>
  cases rx
  cases y with
  | non=>cases ry;exact PySem.EqNone.ne_none_none (zF I q (by simp))
  | bl j=>cases ry;exact PySem.EqNone.ne_none_bool (zF I q (by simp))
  | int j=>obtain⟨t',rfl⟩:=ry;exact PySem.EqNone.ne_none_int (zF I q (by simp))
  | str j=>obtain⟨t',rfl⟩:=ry;exact PySem.EqNone.ne_none_str (zF I q (by simp))
  | _=>exact absurd (show false=true from hs) Bool.false_ne_true
 | bl i =>
  cases rx
  cases y with
  | non=>cases ry;exact PySem.EqNone.ne_bool_none (zF I q (by simp))
  | bl j=>cases ry;exact ne_bool (zF I q (congrArg not Qk))
  | str j=>obtain⟨t',rfl⟩:=ry;exact PySem.EqMixed.ne_bool_str (zF I q (by simp))
  | _=>exact absurd (show false=true from hs) Bool.false_ne_true
 | int i =>
  obtain⟨t,rfl⟩:=rx
  cases y with
  | non=>cases ry;exact PySem.EqNone.ne_int_none (zF I q (by simp))
  | int j=>obtain⟨t',rfl⟩:=ry;exact ne_int (zF I q (congrArg not xi))
  | str j=>obtain⟨t',rfl⟩:=ry;exact PySem.EqMixed.ne_int_str (zF I q (by simp))
  | _=>exact absurd (show false=true from hs) Bool.false_ne_true
 | str i =>
  obtain⟨t,rfl⟩:=rx
  cases y with
  | non=>cases ry;exact PySem.EqNone.ne_str_none (zF I q (by simp))
  | bl j=>cases ry;exact PySem.EqMixed.ne_str_bool (zF I q (by simp))
  | int j=>obtain⟨t',rfl⟩:=ry;exact PySem.EqMixed.ne_str_int (zF I q (by simp))
  | str j=>obtain⟨t',rfl⟩:=ry;exact ne_str (zF I q (congrArg not Xi))
  | _=>exact absurd (show false=true from hs) Bool.false_ne_true
 | byt i =>
  obtain⟨t,rfl⟩:=rx
  cases y with
  | byt j=>obtain⟨t',rfl⟩:=ry;exact PySem.W.ne_bytes (zF I q (congrArg not Xh))
  | _=>exact absurd (show false=true from hs) Bool.false_ne_true
 | _=>cases y <;> exact absurd (show false=true from hs) Bool.false_ne_true
theorem jl:OpR X (compareOp .Lt) (rI0 λi j=>.bl (decide (i<j))):=V4 λ_ _ _ _ _ _ _ q=>lt_int q
theorem Jt:OpR X (compareOp .LtE) (rI0 λi j=>.bl (decide (i<=j))):=V4 λ_ _ _ _ _ _ _ q=>le_int q
theorem jQ:OpR X (compareOp .Gt) (rI0 λi j=>.bl (decide (j<i))):=V4 λ_ _ _ _ _ _ _ q=>gt_int q
theorem zaX:OpR X (compareOp .GtE) (rI0 λi j=>.bl (decide (j<=i))):=V4 λ_ _ _ _ _ _ _ q=>ge_int q
theorem XY:OpR X (compareOp .In) (λx y H Q=>∃i j,x = .str i/\y = .str j/\Q (.bl (!(Builtin.Str.occurrences j i 0 j.length 1).isEmpty)) H):=by
 intro pins s σ H x y v u Q I rx ry h
 obtain⟨i,j,rfl,rfl,q⟩:=h
 obtain⟨t,rfl⟩:=rx
 obtain⟨t',rfl⟩:=ry
 exact in_str (zF I q rfl)
theorem jk:OpR X (compareOp .Is) (λx y H Q=>y = .non/\Q (.bl (decide (x = .non))) H):=by
 intro pins s σ H x y v u Q I rx ry h
 obtain⟨rfl,q⟩:=h
 cases ry
 refine is_none_gen (zF I q ?_)
 cases x <;> first
  | (cases rx;rfl)
  | (obtain⟨t,rfl⟩:=rx;rfl)
theorem Xq:OpR X (compareOp .IsNot) (λx y H Q=>y = .non/\Q (.bl (!decide (x = .non))) H):=by
 intro pins s σ H x y v u Q I rx ry h
 obtain⟨rfl,q⟩:=h
 cases ry
 refine isnot_none_gen (zF I q ?_)
 cases x <;> first
  | (cases rx;rfl)
  | (obtain⟨t,rfl⟩:=rx;rfl)
theorem j8:OpR X (compareOp .NotIn) (λx y H Q=>∃i j,x = .str i/\y = .str j/\Q (.bl (!(!(Builtin.Str.occurrences j i 0 j.length 1).isEmpty))) H):=by
 intro pins s σ H x y v u Q I rx ry h
 obtain⟨i,j,rfl,rfl,q⟩:=h
 obtain⟨t,rfl⟩:=rx
 obtain⟨t',rfl⟩:=ry
 exact notIn_str (zF I q rfl)
theorem zr (b:Expr){op:CmpOp}(h:op≠.In:=by decide) (h2:op≠.NotIn:=by decide):behindInMarks op b=false:=by
 have e1:(op == CmpOp.In)=false:=by cases op <;> first | rfl | exact absurd rfl h
 have e2:(op == CmpOp.NotIn)=false:=by cases op <;> first | rfl | exact absurd rfl h2
 cases b <;> simp[behindInMarks,e1,e2]
theorem xV {op:CmpOp}{r:R2}(ho:OpR X (compareOp op) r) (ha:PE X a ta) (hb:PE X b tb) (hm:behindInMarks op b=false):PE X (.Compare a [op] [b] pos) (tOp r ta tb):=by
 intro pins s σ H Q I h
 exact wpAny_Compare1 (JS ha hb I h λv u s2 x y H2 I2 rx ry q=>ho pins s2 σ H2 x y v u Q I2 rx ry q) hm
def Vn (t:TE):TT:=λσ H Q=>t σ H λx H'=>∃k,x = .bl k/\Q k H'
theorem zp {op:CmpOp}{r:R2}(ho:OpR X (compareOp op) r) (ha:PE X a ta) (hb:PE X b tb) (hm:behindInMarks op b=false):PT X (.Compare a [op] [b] pos) (Vn (tOp r ta tb)):=by
 intro pins s σ H Q I h
 refine wpAny_isTrue_Compare1 (thn (ha pins s σ H _ I h) λv s1 ⟨x,H1,I1,r1,q1⟩=>thn (hb pins s1 σ H1 _ I1 q1) λu s2 ⟨y,H2,I2,r2,q2⟩ =>
  thn (ho pins s2 σ H2 x y v u _ I2 r1 r2 q2) λc s3 ⟨z,H3,I3,r3,k,e,q3⟩=>?_) hm
 subst e
 cases r3
 exact wpAny_truthy_bool ⟨H3,I3,q3⟩
def zaD (r r':R2) (ta tb tc:TE):TE:=λσ H Q=>ta σ H λx H1=>tb σ H1 λy H2=>r x y H2 λz H3=>∃k,z = .bl k ∧
 (if k=true then tc σ H3 λw' H4=>r' y w' H4 Q else Q (.bl false) H3)
theorem QW {op op':CmpOp}{r r':R2}(ho:OpR X (compareOp op) r) (ho':OpR X (compareOp op') r') (ha:PE X a ta) (hb:PE X b tb) (hc:PE X c tc)
  (hm:lastMarks [op,op'] [b,c]=false:=by with_unfolding_all rfl):PT X (.Compare a [op,op'] [b,c] pos) (Vn (zaD r r' ta tb tc)):=by
 intro pins s σ H Q I h
 refine isTrue_chain (thn (ha pins s σ H _ I h) λv s1 ⟨x,H1,I1,r1,q1⟩=>test_link (thn (hb pins s1 σ H1 _ I1 q1) λu s2 ⟨y,H2,I2,r2,q2⟩ =>
  thn (ho pins s2 σ H2 x y v u _ I2 r1 r2 q2) λd s3 ⟨z,H3,I3,r3,k,e,q3⟩=>?_)) hm
 subst e
 cases r3
 refine wpAny_truthy_bool ?_
 cases k with
 | false =>
  obtain⟨k',e',q'⟩:=q3
  cases e'
  exact ite_ff ⟨H3,I3,q'⟩
 | true =>
  refine ite_tt (test_last (thn (hc pins s3 σ H3 _ I3 q3) λw' s4 ⟨z',H4,I4,r4,q4⟩=>thn (ho' pins s4 σ H4 y z' u w' _ I4 r2 r4 q4) λd' s5 ⟨z2,H5,I5,r5,k2,e2,q5⟩=>?_))
  subst e2
  cases r5
  exact wpAny_truthy_bool ⟨H5,I5,q5⟩
def zaO (K:PySem.W.Frag) (x:V) (H:Hp) (k:Bool):Prop :=
 match x with
 | .non=>k=false
 | .bl b=>k=b
 | .int i=>k=(i != 0)
 | .str y=>y.length<=sizeLine/\k=((y.length:Int) != 0)
 | .byt y=>y.size<=sizeLine/\k=((y.size:Int) != 0)
 | .ref p=>(∃xs,SqL K H p xs/\k = !xs.isEmpty)\/(∃xs,SqT K H p xs/\k = !xs.isEmpty)\/∃kvs,H p=some (.dK kvs)/\k = !kvs.isEmpty
 | _=>False
theorem ZO {κ:Type}{kvs:List (κ×V)}{vs:List (κ×Value)} (r:KV kvs vs):(!vs.isEmpty) = !kvs.isEmpty:=by
 cases r <;> rfl
theorem jh {xs:List V}{its:List Value}(r:zM xs its):(!its.toArray.isEmpty) = !xs.isEmpty:=by
 cases r <;> simp
theorem vi:(sizeLine:Nat)<2^63:=by rw[sizeLine_eq];decide
theorem zaH:TruR X (λx H Q=>∃k,zaO X.K x H k/\Q k H):=by
 intro pins s σ H x v Q I rx h
 obtain⟨k,e,q⟩:=h
 have hl:=vi
 have hs:sizeLine=16777216:=sizeLine_eq
 cases x with
 | non =>
  cases rx
  have e':k=false:=e
  subst e'
  exact truthy_none ⟨H,I,q⟩
 | bl b =>
  cases rx
  have e':k=b:=e
  subst e'
  exact wpAny_truthy_bool ⟨H,I,q⟩
 | int i =>
  obtain⟨t,rfl⟩:=rx
  have e':k=(i != 0):=e
  subst e'
  exact PySem.P.truthy_int ⟨H,I,q⟩
 | str y =>
  obtain⟨t,rfl⟩:=rx
  obtain⟨hy,e'⟩:y.length<=sizeLine/\k=((y.length:Int) != 0):=e
  subst e'
  exact PySem.P.truthy_str (by omega) ⟨H,I.tok _,q⟩
 | byt y =>
  obtain⟨t,rfl⟩:=rx
  obtain⟨hy,e'⟩:y.size<=sizeLine/\k=((y.size:Int) != 0):=e
  subst e'
  exact PySem.W.truthy_bytes (by omega) ⟨H,I.tok _,q⟩
 | ref p =>
  cases rx
  have e':(∃xs,SqL X.K H p xs/\k = !xs.isEmpty)\/(∃xs,SqT X.K H p xs/\k = !xs.isEmpty)\/∃kvs,H p=some (.dK kvs)/\k = !kvs.isEmpty:=e
  rcases e' with⟨xs,hx,e'⟩ | ⟨xs,hx,e'⟩ | ⟨kvs,hx,e'⟩
  ·subst e'
   obtain⟨its,r,pl,hz⟩:=I.list hx
   have hlen:=r.length
   exact wpAny_truthy_list pl.isList (by simp only[List.size_toArray];omega) ⟨H,I.tok _,by rw[jh r];exact q⟩
  ·subst e'
   obtain⟨its,r,pl,hz⟩:=I.tuple hx
   have hlen:=r.length
   exact truthy_tuple pl (by simp only[List.size_toArray];omega) ⟨H,I.tok _,by rw[jh r];exact q⟩
  ·subst e'
   obtain⟨hz,hS,vs,r,m⟩:kvs.length<=sizeLine/\(p == sysModules)=false/\∃vs,KV kvs vs/\s.heap.DictOf (j5 X.prog X.w) p vs:=I.hok p _ hx
   have hlen:kvs.length=vs.length:=Paired.length r
   exact wpAny_truthy_dict hS m (by omega) ⟨H,I.tok _,by rw[ZO r];exact q⟩
 | _=>exact(show False from e).elim
theorem xa (ha:PE X a ta) (he:∀whole,isTrue a X.env whole=(do let v <-whole;standAt a.pos;holding [v] (truthy v))) :
  PT X a (λσ H Q=>ta σ H λx H'=>∃k,zaO X.K x H' k/\Q k H'):=by
 intro pins s σ H Q I h
 exact isTrue_plain (thn (ha pins s σ H _ I h) λv s1 ⟨x,H1,I1,r1,q1⟩=>zaH pins s1 σ H1 x v Q I1 r1 q1) (he _)
theorem zk:OpR X (binaryOp .Add) (λx y H Q=>∃i j,x = .str i/\y = .str j/\i.length+j.length<=sizeLine/\Q (.str (i++j)) H):=by
 intro pins s σ H x y v u Q I rx ry h
 obtain⟨i,j,rfl,rfl,hz,q⟩:=h
 obtain⟨t,rfl⟩:=rx
 obtain⟨t',rfl⟩:=ry
 exact add_str (λt' tk=>⟨.str (i++j),H,I.tok _,⟨_,rfl⟩,q⟩) hz
theorem qv {x:V}{us:List Value}(r:zM [x] us):∃u,us=[u]/\xc x u:=by
 cases r with
 | cons r1 r2=>cases r2;exact⟨_,rfl,r1⟩
theorem Vt {x y:V}{us:List Value}(r:zM [x,y] us):∃u w',us=[u,w']/\xc x u/\xc y w':=by
 cases r with
 | cons r1 r2 =>
  cases r2 with
  | cons r3 r4=>cases r4;exact⟨_,_,rfl,r1,r3⟩
theorem vt:qA X (.builtin "abs") (λxs H Q=>∃i,xs=[.int i]/\Q (.int (if i<0 then -i else i)) H):=by
 intro pins s σ H xs us Q I r h
 obtain⟨i,rfl,q⟩:=h
 obtain⟨u,rfl,t,rfl⟩:=qv r
 exact call_abs_int λu tk=>⟨.int (if i<0 then -i else i),H,I.tok _,⟨_,rfl⟩,q⟩
theorem XI (hc:X.calm=true):qA X (.builtin "max") (λxs H Q=>∃i j,xs=[.int i,.int j]/\Q (.int (if j>i then j else i)) H):=by
 intro pins s σ H xs us Q I r h
 obtain⟨i,j,rfl,q⟩:=h
 obtain⟨u,w',rfl,⟨t,rfl⟩,⟨t',rfl⟩⟩:=Vt r
 refine max_two_ints (I.ok.hd hc) λh' tk k=>⟨_,H,I.kept k,?_,q⟩
 by_cases hj:j>i
 ·rw[if_pos hj,if_pos hj];exact⟨_,rfl⟩
 ·rw[if_neg hj,if_neg hj];exact⟨_,rfl⟩
theorem vR:qA X (.type "int") (λxs H Q=>(∃i,xs=[.int i]/\Q (.int i) H)\/∃k,xs=[.bl k]/\Q (.int (if k then 1 else 0)) H):=by
 intro pins s σ H xs us Q I r h
 rcases h with⟨i,rfl,q⟩ | ⟨k,rfl,q⟩
 ·obtain⟨u,rfl,t,rfl⟩:=qv r
  exact call_int_int ⟨.int i,H,I,⟨_,rfl⟩,q⟩
 ·obtain⟨u,rfl,r1⟩:=qv r
  cases r1
  exact call_int_bool ⟨.int (if k then 1 else 0),H,I.tok _,⟨_,rfl⟩,q⟩
theorem vv:qA X (.type "str") (λxs H Q=>∃i,xs=[.int i]/\i.natAbs.log2<1920/\Q (.str (toString i)) H):=by
 intro pins s σ H xs us Q I r h
 obtain⟨i,rfl,hz,q⟩:=h
 obtain⟨u,rfl,t,rfl⟩:=qv r
 exact PySem.P.str_of_int hz ⟨.str _,H,I.tok _,⟨_,rfl⟩,q⟩
end
end L2
namespace L2
open PySem PySem.Spec PyProof.Rows
structure JJ (h:Heap) (x dx C:Addr) (mA:Str->Option Value):Prop where
 obj:h.get? x=some (PySem.W.instObj C dx)
 ns:h.Ns1 dx mA
 ne:dx≠x
theorem XS {h:Heap}{dx:Addr}{mA:Str->Option Value}(n:h.Ns1 dx mA):∃od,h.get? dx=some od/\∀name,PySem.W.lookIn name od=some (mA name):=by
 obtain⟨o,es,ep,ho,hd,hk,_,hm⟩:=n
 refine⟨o,ho,λname=>?_⟩
 have e:=hm name
 unfold nsFind findBy at e
 rw[<-Array.find?_toList]at e
 unfold PySem.W.lookIn
 rw[hd]
 dsimp only
 split
 ·rename_i y q
  rw[q]at e
  exact congrArg some e
 ·rename_i q
  rw[q]at e
  have a:es.toList.any (·.refKey)=false:=by
   rw[List.any_eq_false]
   intro y hy
   obtain⟨z,t,hkey⟩:=hk y (Array.mem_toList_iff.mp hy)
   simp[DictEntry.refKey,hkey]
  have a':¬es.toList.any (·.refKey)=true:=by rw[a];exact Bool.false_ne_true
  rw[if_neg a']
  exact congrArg some e
theorem JJ.look {h:Heap}{x dx C:Addr}{mA:Str->Option Value}(I:JJ h x dx C mA):∃od,PySem.W.InstAt h x (PySem.W.instObj C dx) C (some od)/\∀name,PySem.W.lookIn name od=some (mA name) :=
 let ⟨od,ho,hl⟩:=XS I.ns
 ⟨od,⟨I.obj,rfl,rfl,ho⟩,hl⟩
section
variable {P:Program}{w:World}{H H':Hp}{h h':Heap}{a C dx:Addr}{fs fs':List (Str×V)}
theorem VE (hok:HOk P w H h) (e:H a=some (.ins C dx fs)):∃mA,JJ h a dx C mA/\(∀f,JL (fs.lookup f) (mA f))/\PySem.Within mA (fs.map (·.1))/\fs.length<=1000/\H dx=some (.own a):=by
 obtain⟨d,z,ne,ob,mA,n,r,q⟩:=(show xy P w H h a (.ins C dx fs)from hok a _ e)
 exact⟨mA,⟨ob,n,ne⟩,r,q,z,d⟩
end
structure Cls (K:PySem.W.Frag) (C:Addr):Prop where
 pg:PySem.W.plainGet K C Str.empty=true
 hd:PySem.W.hasDictIn K C=true
 po:PySem.W.plainOver K C=true
 sa:PySem.W.findIn K (.ref C) "__setattr__" = some (some (.builtin "object.__setattr__"))
theorem Cls.get {K:PySem.W.Frag}{C:Addr}(c:Cls K C) (f:Str):PySem.W.plainGet K C f=true:=c.pg
section
variable {X:Cx}{pins:List (Addr×Obj)}{σ:St}{H:Hp}{s:Shared}{A:Around}{E:Value->Shared->Prop}{Q:Value->Shared->Prop}{c:Value}{b:Bool}
inductive vq (K:PySem.W.Frag) (H:Hp):V->Value->Prop where
 | non:vq K H .non (.type "NoneType")
 | bl (x:Bool):vq K H (.bl x) (.type "bool")
 | int (i:Int):vq K H (.int i) (.type "int")
 | str (x:Str):vq K H (.str x) (.type "str")
 | flt (x:UInt64):vq K H (.flt x) (.type "float")
 | lst {a:Addr}{xs:List V}(e:H a=some (.lst xs)):vq K H (.ref a) (.type "list")
 | frz {a:Addr}{o:Obj}{xs:List V}(e:H a=some (.frz o (.lst xs))):vq K H (.ref a) (.type "list")
 | tup {a:Addr}{xs:List V}(e:H a=some (.tup xs)):vq K H (.ref a) (.type "tuple")
 | dK {a:Addr}{kvs:List (Key×V)} (e:H a=some (.dK kvs)):vq K H (.ref a) (.type "dict")
 | dT {a:Addr}{kvs:List (List Key×V)} (e:H a=some (.dT kvs)):vq K H (.ref a) (.type "dict")
 | ins {a C dx:Addr}{fs:List (Str×V)} (e:H a=some (.ins C dx fs)) (cl:Cls K C) (ha:PySem.W.findIn K (.ref C) "__class__" = some (some (.builtin "object.__class__")))
   (hn:PySem.W.specialIn K (.builtin "object.__class__") "__get__" = some (some (.builtin "getset_descriptor.__get__"))) (htk:PySem.W.takesIn K (.builtin "object.__class__")=some true)
   (hm:PySem.W.mroIn K C (.type "object")=some true):vq K H (.ref a) (.ref C)
theorem XR {x:V}{u t:Value}(I:Inv X pins σ H s) (rx:xc x u) (ty:vq X.K H x t) (e:PySem.W.kitOne X.K t c=some b) (h:∀tk,Q (.bool b) { s with toks:=tk }) :
  wpAny (model X.prog X.w) A (call (.builtin "isinstance") [u,c]) Q E s:=by
 cases ty with
 | non=>cases(show u=Value.none from rx);exact PySem.W.kia_one PySem.W.kitx_none I.kIn True.intro e (λz=>nomatch z) h
 | bl y=>cases(show u=Value.bool y from rx);exact PySem.W.kia_one PySem.W.kitx_bool I.kIn True.intro e (λz=>nomatch z) h
 | int i=>obtain⟨t,q⟩:=(show ∃t,u=Value.int i t from rx);cases q;exact PySem.W.kia_one PySem.W.kitx_int I.kIn True.intro e (λz=>nomatch z) h
 | str y=>obtain⟨t,q⟩:=(show ∃t,u=Value.str y t from rx);cases q;exact PySem.W.kia_one PySem.W.kitx_str I.kIn True.intro e (λz=>nomatch z) h
 | flt y=>obtain⟨t,q⟩:=(show ∃t,u=Value.float y t from rx);cases q;exact PySem.W.kia_one PySem.W.kitx_float I.kIn True.intro e (λz=>nomatch z) h
 | @lst a xs ea =>
  cases(show u=Value.ref a from rx)
  obtain⟨_,_,n,_,h1⟩:=(show xy X.prog X.w H s.heap a (.lst xs)from I.hok a _ ea)
  exact PySem.W.kia_one PySem.W.kitx_list I.kIn ⟨_,h1,rfl⟩ e (λz=>nomatch z) h
 | @frz a ob xs ea =>
  cases(show u=Value.ref a from rx)
  obtain⟨_,_,_,n,_,h1⟩:=(show xy X.prog X.w H s.heap a (.frz ob (.lst xs))from I.hok a _ ea)
  exact PySem.W.kia_one PySem.W.kitx_list I.kIn ⟨_,h1,rfl⟩ e (λz=>nomatch z) h
 | @tup a xs ea =>
  cases(show u=Value.ref a from rx)
  obtain⟨_,_,_,p⟩:=(show xy X.prog X.w H s.heap a (.tup xs)from I.hok a _ ea)
  obtain⟨o,h1,h2,_⟩:=p
  exact PySem.W.kia_one PySem.W.kitx_tuple I.kIn ⟨o,h1,h2⟩ e (λz=>nomatch z) h
 | @dK a kvs ea =>
  cases(show u=Value.ref a from rx)
  obtain⟨_,_,vs,_,p⟩:=(show xy X.prog X.w H s.heap a (.dK kvs)from I.hok a _ ea)
  obtain⟨o,es,ep,h1,h2,_⟩:=p
  exact PySem.W.kia_one PySem.W.kitx_dict I.kIn ⟨o,h1,h2.1⟩ e (λz=>nomatch z) h
 | @dT a kvs ea =>
  cases(show u=Value.ref a from rx)
  obtain⟨_,_,xs,_,o,es,ep,h1,h2,_⟩:=(show xy X.prog X.w H s.heap a (.dT kvs)from I.hok a _ ea)
  exact PySem.W.kia_one PySem.W.kitx_dict I.kIn ⟨o,h1,h2.1⟩ e (λz=>nomatch z) h
 | @ins a C dx fs ea cl ha hn htk hm =>
  cases(show u=Value.ref a from rx)
  obtain⟨mA,O,_⟩:=VE I.hok ea
  obtain⟨od,J,_⟩:=O.look
  exact PySem.W.kia_one (PySem.W.kitx_own (cl.get _) cl.hd ha hn htk hm) I.kIn J e (λz=>nomatch z) h
end
end L2
namespace L2
open PySem PySem.Spec PyProof.Rows
structure xh (k:Nat) (A:Around):Prop where
 hd:A.handled=none
 dp:A.depth+3*k+5<recursionLimit
 un:A.units+16*k+200<cLine
theorem xh.mono {j k:Nat}{A:Around}(r:xh k A) (h:j<=k):xh j A:=⟨r.hd,by have:=r.dp;omega,by have:=r.un;omega⟩
theorem xh.deeper {k:Nat}{A:Around}(r:xh (k+1) A) (env:Env):xh k (A.deeper env) :=
 ⟨r.hd,by have:=r.dp;show A.depth+1+3*k+5<_;omega,by have:=r.un;show A.units+3+16*k+200<_;omega⟩
theorem xh.depth {k:Nat}{A:Around}(r:xh k A):A.depth<recursionLimit:=by have:=r.dp;omega
theorem xh.units {k:Nat}{A:Around}(r:xh k A):A.units+64<cLine:=by have:=r.un;omega
def Zg:TA:=λ_ H Q=>Q [] H
def qU (ta:TE) (tr:TA):TA:=λσ H Q=>ta σ H λx H1=>tr σ H1 λxs H2=>Q (x::xs) H2
section
variable {X:Cx}{e:Expr}{es:List Expr}{te:TE}{t:TA}{pos:Pos}
theorem zd:PA X [] Zg:=λ_ _ _ _ H Q I h=>Calls.spliced_nil ⟨[],H,I,.nil,h⟩
theorem zc (ha:PE X e te) (hr:PA X es t) (hs:starEach (e::es) X.env=(false,eval e X.env)::starEach es X.env:=by rfl):PA X (e::es) (qU te t):=by
 intro pos pins s σ H Q I h
 rw[hs]
 show wpAny _ _ (spliced ((false,eval e X.env)::backTo pos (starEach es X.env))) _ _ s
 refine Calls.spliced_cons (thn (ha pins s σ H _ I h) λu s1 ⟨x,H1,I1,r1,q1⟩=>?_)
 exact thn (hr pos pins s1 σ H1 _ I1 q1) λus s2 ⟨xs,H2,I2,r2,q2⟩=>⟨x::xs,H2,I2,.cons r1 r2,q2⟩
def zbo (t:TA):TE:=λσ H Q=>t σ H λxs H1=>xs.length<=sizeLine/\∀p,H1 p=none->Q (.ref p) (upd H1 p (.tup xs))
def Jk (t:TA):TE:=λσ H Q=>t σ H λxs H1=>xs.length<=sizeLine/\∀p,H1 p=none->Q (.ref p) (upd H1 p (.lst xs))
theorem qc {x1} (h:PA X es t):PE X (.Tuple es x1 pos) (zbo t):=by
 intro pins s σ H Q I hq
 refine wpAny_Tuple_spliced (thn (h pos pins s σ H _ I hq) λus s1 ⟨xs,H1,I1,r,z,q⟩=>⟨by rw[<-r.length];exact z,?_⟩)
 have hf:H1 s1.heap.objs.size=none:=I1.hok.fresh (Nat.le_refl _)
 refine⟨.ref s1.heap.objs.size,upd H1 s1.heap.objs.size (.tup xs),I1.laid (t':=s1.toks) (λb u e=>Heap.get?_push_of_some _ e) (Nat.le_refl _) ?_,rfl,q _ hf⟩
 exact⟨z,us,r,⟨_,Heap.get?_push_size _ rfl,rfl,_,rfl⟩⟩
theorem xE (h:PA X es t):PE X (.List es pos) (Jk t):=by
 intro pins s σ H Q I hq
 refine wpAny_List_spliced (thn (h pos pins s σ H _ I hq) λus s1 ⟨xs,H1,I1,r,z,q⟩=>⟨by rw[<-r.length];exact z,?_⟩)
 have hf:H1 s1.heap.objs.size=none:=I1.hok.fresh (Nat.le_refl _)
 refine⟨.ref s1.heap.objs.size,upd H1 s1.heap.objs.size (.lst xs),I1.laid (t':=s1.toks) (λb u e=>Heap.get?_push_of_some _ e) (Nat.le_refl _) ?_,rfl,q _ hf⟩
 exact⟨z,us,0,r,Heap.get?_push_size _ rfl⟩
end
abbrev Sp:=List V->Hp->VK->XK->Prop
abbrev CXT:=List Env->Hp->Shared->XK->Value->Shared->Prop
structure Vv (P:Program) (w:World) (K:PySem.W.Frag) (mg:Str->Option Value) (base:Heap) (A:Around) (outer:List Env) (s:Shared) (H:Hp):Prop where
 frames:A.frames=some outer
 mod:Mod K mg base
 bs:∀b o,base.get? b=some o->s.heap.get? b=some o/\H b=none
 bsz:base.objs.size<=s.heap.objs.size
 funs:s.heap.FunFrames base outer
 frf:∀b∈frs outer,H b=none
 hok:HOk P w H s.heap
 bare:AllBare s.gens
def CE (outer:List Env) (P:Program) (w:World) (H:Hp) (s:Shared) (Q:VK) (u:Value) (s':Shared):Prop :=
 ∃v H',s'.os=s.os/\AllBare s'.gens/\Un (frs outer) [] H H' s.heap s'.heap/\HOk P w H' s'.heap/\xc v u/\Q v H'
def CR (CX:CXT) (outer:List Env) (P:Program) (w:World) (H:Hp) (s:Shared) (Q:VK) (E:XK) (r:Result) (s':Shared):Prop :=
 match r with
 | .ok (.ret u)=>CE outer P w H s Q u s'
 | .ok _=>False
 | .error e=>CX outer H s E e s'
structure vh (P:Program) (w:World) (K:PySem.W.Frag) (mg:Str->Option Value) (base:Heap) (CX:CXT) (k:Nat) (f:Addr) (fd:FuncData) (ps:List Str) (sp:Sp):Prop where
 len:∀vs H Q E,sp vs H Q E->vs.length=ps.length
 run:∀(A:Around) (outer:List Env) (s:Shared) (H:Hp) (args:Args) (us:List Value) (vs:List V) (Q:VK) (E:XK),xh k A->Vv P w K mg base A outer s H->BindsTo s fd args (ps.zip us)->zM vs us->sp vs H Q E →
  codeAny (model P w) A (.call (.ref f) args) (CR CX outer P w H s Q E) s
theorem vh.imp {P:Program}{w:World}{K:PySem.W.Frag}{mg:Str->Option Value}{base:Heap}{CX:CXT}{k:Nat}{f:Addr}{fd:FuncData}{ps:List Str}{sp sp':Sp}(F:vh P w K mg base CX k f fd ps sp)
  (h:∀vs H Q E,sp' vs H Q E->sp vs H Q E):vh P w K mg base CX k f fd ps sp' :=
 ⟨λvs H Q E q=>F.len vs H Q E (h _ _ _ _ q),λA outer s H args us vs Q E hr he hb hv hs=>F.run A outer s H args us vs Q E hr he hb hv (h _ _ _ _ hs)⟩
section
variable {X:Cx}{pins:List (Addr×Obj)}{σ:St}{H:Hp}{s s':Shared}
theorem Inv.env0 (I:Inv X pins σ H s):Vv X.prog X.w X.K X.mg X.base X.A X.stack s H :=
 ⟨I.ok.frames,I.ok.mod,I.bs,Nat.le_trans I.ok.bsz I.sz,I.stack,I.stkFree,I.hok,I.bare⟩
theorem Inv.after {Q:VK}{u:Value}(I:Inv X pins σ H s) (h:CE X.stack X.prog X.w H s Q u s'):EP X pins σ Q u s':=by
 obtain⟨v,H',os,bare,un,hok,r,q⟩:=h
 obtain⟨hh,g,d,t,os'⟩:=s'
 obtain rfl:os'=s.os:=os
 exact⟨v,H',I.call (h':=hh) (g':=g) (d':=d) (t':=t) (ch:=[]) un hok bare (λb z=>absurd z (by simp)),r,q⟩
end
def JG (sp:Sp) (dvs:List V) (E:XK) (t:TA):TE:=λσ H Q=>t σ H λvs H1=>sp (vs++dvs) H1 Q E
def vW (K:PySem.W.Frag) (fd:FuncData) (ps:List Str) (ds:List Value):Prop :=
 ∀(s:Shared) (us:List Value),K.In s.heap->(us++ds).length=ps.length->BindsTo s fd ⟨us,[]⟩ (ps.zip (us++ds))
theorem vW.all {K:PySem.W.Frag}{fd:FuncData}{ps:List Str}(h:∀us:List Value,us.length=ps.length->bindArgs fd ⟨us,[]⟩=pure (ps.zip us)):vW K fd ps []:=λs us _ hl=>by
 rw[List.append_nil]at hl ⊢
 exact .of_eq (h us hl)
def ZI (CX:CXT) (X:Cx) (E:XK):Prop:=∀(pins:List (Addr×Obj)) (σ:St) (H:Hp) (s:Shared) (e:Value) (s':Shared),Inv X pins σ H s->CX X.stack H s E e s'->X.xe e s'
section
variable {X:Cx}{CX:CXT}{k:Nat}{f C:Addr}{fd:FuncData}{ps:List Str}{sp:Sp}{dvs:List V}{ds:List Value}{E:XK}{x m:Str}{p pos apos:Pos}{e o:Expr}{es:List Expr}{ta:TE}{t:TA}
theorem zax {pins:List (Addr×Obj)}{σ:St}{H:Hp}{s:Shared}{Q:VK}{us:List Value}{vs:List V}(F:vh X.prog X.w X.K X.mg X.base CX k f fd ps sp) (hr:xh k X.A) (hb:vW X.K fd ps ds) (hd:zM dvs ds) (hx:ZI CX X E)
  (I:Inv X pins σ H s) (r:zM vs us) (h:sp (vs++dvs) H Q E):wpAny (model X.prog X.w) X.A (call (.ref f) us) (EP X pins σ Q) X.xe s:=by
 have r2:zM (vs++dvs) (us++ds):=r.append hd
 have hl:(us++ds).length=ps.length:=by rw[<-r2.length];exact F.len _ _ _ _ h
 refine wpAny_call (codeAny_mono (F.run X.A X.stack s H ⟨us,[]⟩ (us++ds) (vs++dvs) Q E hr I.env0 (hb s us I.kIn hl) r2 h) λr s' hq=>?_)
 cases r with
 | error e=>exact hx pins σ H s e s' I hq
 | ok fl =>
  cases fl with
  | ret u=>exact I.after hq
  | next=>exact False.elim hq
  | brk=>exact False.elim hq
  | cont=>exact False.elim hq
theorem V7 (F:vh X.prog X.w X.K X.mg X.base CX k f fd ps sp) (hr:xh k X.A) (hg:Gl X x) (hm:X.mg x=some (.ref f)) (hk:PySem.W.keepIn X.K (.ref f)=true) (hb:vW X.K fd ps ds) (hd:zM dvs ds) (hx:ZI CX X E)
  (ha:PA X (e::es) t) (hdb:(x == ("__debug__":Str))=false:=by decide) (he:starEach (e::es) X.env=(false,eval e X.env)::starEach es X.env:=by rfl) (hpl:(backTo pos (starEach es X.env)).any (·.1)=false:=by rfl) :
  PE X (.Call (.Name x p) (e::es) [] pos) (JG sp dvs E t):=by
 intro pins s σ H Q I h
 refine wpAny_Call_Name_kw (vy I hg hm ?_ hdb)
 refine PySem.W.callWith_K (h₀:=X.base) I.ok.mod.kin hk (thn (ha pos pins s σ H _ I h) λus s1 ⟨vs,H1,I1,r,q⟩=>⟨I1.kIn,?_⟩) he hpl
 exact zax F hr hb hd hx I1 r q
end
structure zw (N P:List Str) (sc:Scope):Prop where
 kind:sc.kind = .function
 co:sc.isCoroutine=false
 gen:sc.isGenerator=false
 nd:N.Nodup
 pre:N.take P.length=P
 par:∀x∈P,sc.names.lookup x=some .local ∨ sc.names.lookup x=some .cell
 nofree:∀y∈sc.names,y.2≠.free
theorem jJ {kindOf:Str->Option NameKind}{x:Str}:∀{binds:List (Str×Value)}{m:Str->Option Value},(∀v,(x,v)∉binds)->bindL kindOf binds m x=m x
 | [],_,_=>rfl
 | (n,v)::r,m,h=>by
  unfold bindL
  rw[jJ λw hw=>h w (List.mem_cons_of_mem _ hw)]
  split
  ·have:x≠n:=by rintro rfl;exact h v List.mem_cons_self
   simp[this]
  ·rfl
theorem jH {kindOf:Str->Option NameKind}{x:Str}:∀{binds:List (Str×Value)}{m:Str->Option Value},(∀v,(x,v)∉binds)->bindC kindOf binds m x=m x
 | [],_,_=>rfl
 | (n,v)::r,m,h=>by
  unfold bindC
  rw[jH λw hw=>h w (List.mem_cons_of_mem _ hw)]
  split
  ·rfl
  ·have:x≠n:=by rintro rfl;exact h v List.mem_cons_self
   simp[this]
theorem jI {kindOf:Str->Option NameKind}{x:Str}{v:Value}:∀{P:List Str}{vs:List Value}{i:Nat}{m:Str->Option Value},P.Nodup->P[i]? = some x->vs[i]? = some v->kindOf x=some .local →
  bindL kindOf (P.zip vs) m x=some v
 | [],_,_,_,_,h,_,_=>by simp at h
 | _::_,[],_,_,_,_,h,_=>by simp at h
 | p::P,w::vs,0,m,nd,h1,h2,hk=>by
  simp at h1 h2;subst h1;subst h2
  show bindL kindOf ((p,w)::P.zip vs) m p=_
  unfold bindL
  rw[jJ λv hv=>(List.nodup_cons.mp nd).1 (List.of_mem_zip hv).1,if_pos hk]
  simp
 | p::P,w::vs,i+1,m,nd,h1,h2,hk=>by
  show bindL kindOf ((p,w)::P.zip vs) m x=_
  unfold bindL
  exact jI (i:=i) (List.nodup_cons.mp nd).2 (by simpa using h1) (by simpa using h2) hk
theorem jG {kindOf:Str->Option NameKind}{x:Str}{v:Value}:∀{P:List Str}{vs:List Value}{i:Nat}{m:Str->Option Value},P.Nodup->P[i]? = some x->vs[i]? = some v->kindOf x≠some .local →
  bindC kindOf (P.zip vs) m x=some v
 | [],_,_,_,_,h,_,_=>by simp at h
 | _::_,[],_,_,_,_,h,_=>by simp at h
 | p::P,w::vs,0,m,nd,h1,h2,hk=>by
  simp at h1 h2;subst h1;subst h2
  show bindC kindOf ((p,w)::P.zip vs) m p=_
  unfold bindC
  rw[jH λv hv=>(List.nodup_cons.mp nd).1 (List.of_mem_zip hv).1,if_neg hk]
  simp
 | p::P,w::vs,i+1,m,nd,h1,h2,hk=>by
  show bindC kindOf ((p,w)::P.zip vs) m x=_
  unfold bindC
  exact jG (i:=i) (List.nodup_cons.mp nd).2 (by simpa using h1) (by simpa using h2) hk
def qO (N:List Str) (vs:List V):St:=vs.map some++List.replicate (N.length - vs.length) none
def xI (CX:CXT) (P:Program) (w:World) (K:PySem.W.Frag) (mg:Str->Option Value) (base:Heap) (N:List Str) (qual:Str) (scope:Scope) (f:Addr) (cd:Value) (A:Around) (outer:List Env) (s:Shared) (H:Hp) (E:XK):Cx where
 prog:=P
 w:=w
 K:=K
 mg:=mg
 base:=base
 A:=A.deeper (envOfC qual scope s.heap.objs.size f cd)
 N:=N
 s₀:=s
 H₀:=H
 env:=envOfC qual scope s.heap.objs.size f cd
 outer:=outer
 stack:=envOfC qual scope s.heap.objs.size f cd::outer
 ex:=[]
 calm:=true
 fn:=λ_=>true
 pn:=[]
 xe:=λe s'=>wpAny (model P w) (A.deeper (envOfC qual scope s.heap.objs.size f cd)) (leaving (envOfC qual scope s.heap.objs.size f cd) e) (λ_ s''=>CX outer H s E e s'') (λe' s''=>CX outer H s E e' s'') s'
theorem Zl {sc:Scope}{n:Nat}{x:Str}(h:sc.names.lookup x=some .cell):∃c,(cellsFrom n sc.names []).lookup x=some c:=by
 have q:=PySem.W.cellsFrom_some sc.names n [] (.inl h)
 exact Option.isSome_iff_exists.mp q
theorem XQ {CX:CXT}{P:Program}{w:World}{K:PySem.W.Frag}{mg:Str->Option Value}{base:Heap}{N ps:List Str}{qual:Str}{scope:Scope}{f:Addr}{cd:Value}{A:Around}{outer:List Env}{s s1:Shared}{H:Hp}{E:XK}{us:List Value}{vs:List V}
  (S:zw N ps scope) (hd:A.handled=none) (e0:Vv P w K mg base A outer s H) (hl:vs.length=ps.length) (r:zM vs us)
  (x:InCallC s s.heap.objs.size (bindL (envOfC qual scope s.heap.objs.size f cd).kindOf (ps.zip us) λ_=>none) (cellsFrom (s.heap.objs.size+1) scope.names []) (bindC (envOfC qual scope s.heap.objs.size f cd).kindOf (ps.zip us) λ_=>none) s1) :
  Inv (xI CX P w K mg base N qual scope f cd A outer s H E) [] (qO N vs) H s1:=by
 have hpl:ps.length<=N.length:=by have:=congrArg List.length S.pre;rw[List.length_take]at this;omega
 obtain⟨h1,tk,rfl,hk⟩:=x.done
 have noA:∀b:Addr,b∉(xI CX P w K mg base N qual scope f cd A outer s H E).ex:=λb z=>absurd (show b∈([]:List Addr)from z) (by simp)
 refine⟨⟨e0.mod,S.kind,rfl,rfl,Nat.le_refl _,λy z c h1 h2=>?_,λy hy=>?_,λy c _ h=>?_,λ_=>hd,Around.frames_deeper e0.frames,.inr ⟨rfl,rfl⟩,λb z=>absurd z (noA b),e0.bs,e0.bsz,λb _ _=>noA b,λb z=>absurd z (noA b),e0.funs,e0.frf⟩,
  rfl,e0.bare,Un.kept hk,⟨_,x.toInCall.ns,λi y v h1 h2 h3=>?_⟩,λy c h=>⟨_,x.cell y c h⟩,e0.hok.fresh (Nat.le_refl _),λy c h=>?_,λp hp=>absurd (show p∈([]:List (Addr×Obj))from hp) (by simp),e0.hok.kept hk,?_⟩
 ·exact name_of_addr x.apart (PySem.mem_of_lookup h1) (PySem.mem_of_lookup h2)
 ·have hy:scope.names.lookup y=some .cell\/scope.names.lookup y=some .free:=hy
  rcases hy with hy | hy
  ·exact Zl hy
  ·exact absurd rfl (S.nofree _ (PySem.mem_of_lookup hy))
 ·exact Nat.le_of_lt (x.above y c (PySem.mem_of_lookup h))
 ·have hi:i<vs.length:=by
   unfold qO at h2
   by_cases hi:i<vs.length
   ·exact hi
   ·rw[List.getElem?_append_right (by simpa using hi)]at h2
    rw[List.getElem?_replicate]at h2
    split at h2 <;> cases h2
  have ha:vs[i]? = some v:=by
   unfold qO at h2
   rw[List.getElem?_append_left (by simpa using hi),List.getElem?_map]at h2
   cases e:vs[i]? with
   | none=>rw[e]at h2;cases h2
   | some a=>rw[e]at h2;cases h2;rfl
  obtain⟨u,hu,rv⟩:=r.get ha
  have hp:ps[i]? = some y:=by
   rw[<-S.pre,List.getElem?_take_of_lt (by omega)];exact h1
  have ndP:ps.Nodup:=by rw[<-S.pre];exact S.nd.sublist (List.take_sublist _ _)
  refine⟨u,rv,?_⟩
  rcases S.par y (List.mem_of_getElem? hp)with k | k
  ·exact .inl ⟨k,jI ndP hp hu k⟩
  ·obtain⟨c,e⟩:=Zl (n:=s.heap.objs.size+1) k
   refine .inr ⟨.inl k,c,e,?_⟩
   have q:=x.cell y c e
   rw[jG ndP hp hu (by show scope.names.lookup y≠_;rw[k];decide)]at q
   exact q
 ·exact e0.hok.fresh (Nat.le_of_lt (x.above y c (PySem.mem_of_lookup h)))
 ·unfold qO
  show _=N.length
  rw[List.length_append,List.length_map,List.length_replicate]
  omega
theorem Qp {CX:CXT}{P:Program}{w:World}{K:PySem.W.Frag}{mg:Str->Option Value}{base:Heap}{k:Nat}{f:Addr}{name qual:Str}{params:Arguments}{body:List Stmt}{scope:Scope}{dV kV doc pm cdv ct oc:Value}{an od:Option Addr}
  {osl:Array (Option Value)}{N ps:List Str}{sp:Sp}(lk:K.lookup f=some ⟨oc,od,.func (PySem.W.fnOf name qual params body scope dV kV doc pm an cdv ct),osl⟩) (hcd:PySem.W.codeIn K cdv qual=true) (S:zw N ps scope)
  (len:∀vs H Q E,sp vs H Q E->vs.length=ps.length)
  (hbody:∀(A:Around) (outer:List Env) (s:Shared) (H:Hp) (vs:List V) (Q:VK) (E:XK),xh k (A.deeper (envOfC qual scope s.heap.objs.size f cdv))->sp vs H Q E →
   ∃t,PSs (xI CX P w K mg base N qual scope f cdv A outer s H E) body t/\t { nx:=λ_ H'=>Q .non H',rt:=Q } (qO N vs) H) :
  vh P w K mg base CX (k+1) f (PySem.W.fnOf name qual params body scope dV kV doc pm an cdv ct) ps sp:=by
 refine⟨len,λA outer s H args us vs Q E hr e0 hb r hsp=>?_⟩
 have hl:=len _ _ _ _ hsp
 have KX:K.In s.heap:=e0.mod.kin.keeps λb o e=>(e0.bs b o e).1
 have lim:s.heap.NoLimit:=e0.mod.nolimit.keeps λb o e=>(e0.bs b o e).1
 have hkind:∀y∈ps.zip us,scope.names.lookup y.1=some .local ∨ (scope.names.lookup y.1=some .cell/\((cellsFrom (s.heap.objs.size+1) scope.names []).lookup y.1).isSome=true):=λ⟨n,v⟩ hy=>by
  rcases S.par n (List.of_mem_zip hy).1 with q | q
  ·exact .inl q
  ·exact .inr ⟨q,PySem.W.cellsFrom_some _ _ _ (.inl q)⟩
 refine codeAny_call_function hr.depth (KX _ _ lk) rfl S.co S.gen rfl (PySem.W.codeRec_of KX hcd) (hb _ _ _ _ ?_)
 refine wpAny_newFunctionEnv_cells S.kind hkind λenv he s1 x=>?_
 subst he
 refine⟨lim.keeps x.toInCall.keep,codeAny_func ?_⟩
 obtain⟨t,ht,hq⟩:=hbody A outer s H vs Q E (hr.deeper _) hsp
 have I:Inv (xI CX P w K mg base N qual scope f cdv A outer s H E) [] (qO N vs) H s1:=XQ S hr.hd e0 hl r x
 refine wpAny_mono (ht [] s1 (qO N vs) H _ I hq) (λfl s' hs=>?_) λe s' hs=>hs
 have fin:∀{σ':St}{H':Hp}{v:V}{u:Value},Inv (xI CX P w K mg base N qual scope f cdv A outer s H E) [] σ' H' s'->xc v u->Q v H'->CE outer P w H s Q u s' :=
  λ{σ' H' v u} J rv q=>⟨v,H',J.os,J.bare,J.base,J.hok,rv,q⟩
 cases fl with
 | ret u =>
  obtain⟨v,σ',H',J,rv,q⟩:=hs
  exact fin J rv q
 | next =>
  obtain⟨σ',H',J,q⟩:=hs
  exact fin (v:=V.non) (u:=Value.none) J rfl q
 | brk =>
  obtain⟨_,_,_,q⟩:=hs
  exact False.elim q
 | cont =>
  obtain⟨_,_,_,q⟩:=hs
  exact False.elim q
end L2
namespace L2
open PySem PySem.Spec PyProof.Rows
section
variable {X:Cx}{x:Str}{p pos:Pos}{e:Expr}{es:List Expr}{t:TA}{id T:String}{r:List V->Hp->VK->Prop}
def tCB (r:List V->Hp->VK->Prop) (t:TA):TE:=λσ H Q=>t σ H λvs H1=>r vs H1 Q
theorem zB (hc:qA X (.builtin id) r) (hg:Gl X x) (hm:X.mg x=none) (hv:bootBuiltins x=some (.builtin id)) (ha:PA X (e::es) t) (hn:x≠"__name__":=by decide) (hdb:(x == ("__debug__":Str))=false:=by decide)
  (he:starEach (e::es) X.env=(false,eval e X.env)::starEach es X.env:=by rfl) (hpl:(backTo pos (starEach es X.env)).any (·.1)=false:=by rfl):PE X (.Call (.Name x p) (e::es) [] pos) (tCB r t):=by
 intro pins s σ H Q I h
 refine wpAny_Call_Name_kw (j3 I hg hm hv ?_ hn hdb)
 exact PyProof.Rows.callWith_builtin1 (thn (ha pos pins s σ H _ I h) λus s1 ⟨vs,H1,I1,r1,q1⟩=>hc pins s1 σ H1 vs us Q I1 r1 q1) he hpl
theorem xP (hc:qA X (.type T) r) (hg:Gl X x) (hm:X.mg x=none) (hv:bootBuiltins x=some (.type T)) (ha:PA X (e::es) t) (hn:x≠"__name__":=by decide) (hdb:(x == ("__debug__":Str))=false:=by decide)
  (he:starEach (e::es) X.env=(false,eval e X.env)::starEach es X.env:=by rfl) (hpl:(backTo pos (starEach es X.env)).any (·.1)=false:=by rfl):PE X (.Call (.Name x p) (e::es) [] pos) (tCB r t):=by
 intro pins s σ H Q I h
 refine wpAny_Call_Name_kw (j3 I hg hm hv ?_ hn hdb)
 exact PyProof.Rows.callWith_type1 (thn (ha pos pins s σ H _ I h) λus s1 ⟨vs,H1,I1,r1,q1⟩=>hc pins s1 σ H1 vs us Q I1 r1 q1) he hpl
end
end L2
namespace HT
open PySem PyProof.Rows
end HT
namespace L2
open PySem PySem.Spec PyProof.Rows
abbrev TO:=St->Hp->(Option Int->Hp->Prop)->Prop
def PO (X:Cx) (e:Option Expr) (t:TO):Prop :=
 ∀(pins:List (Addr×Obj)) (s:Shared) (σ:St) (H:Hp) (Q:Option Int->Hp->Prop),Inv X pins σ H s->t σ H Q →
  wpAny (model X.prog X.w) X.A (evalPart e X.env) (λu s'=>∃o H',Inv X pins σ H' s'/\IsPart u o/\Q o H') X.xe s
def Jl:TO:=λ_ H Q=>Q none H
def zbl (t:TE):TO:=λσ H Q=>t σ H λx H1=>∃i,x = .int i/\Q (some i) H1
section
variable {X:Cx}{e:Expr}{te:TE}{lo hi:Option Expr}{tl th:TO}{pos p2:Pos}
theorem vD:PO X none Jl:=by
 intro pins s σ H Q I h
 rw[evalPart_none]
 exact wpAny_pure ⟨none,H,I,.none,h⟩
theorem vE (h:PE X e te):PO X (some e) (zbl te):=by
 intro pins s σ H Q I hw
 rw[evalPart_some]
 refine thn (h pins s σ H _ I hw) λu s1 ⟨x,H1,I1,r1,q1⟩=>?_
 obtain⟨i,rfl,q⟩:=q1
 obtain⟨t,rfl⟩:=r1
 exact⟨some i,H1,I1,.int i t,q⟩
def SlR (X:Cx) (r:V->Option Int->Option Int->Hp->VK->Prop):Prop :=
 ∀(pins:List (Addr×Obj)) (s:Shared) (σ:St) (H:Hp) (x:V) (v vl vu:Value) (lo hi:Option Int) (sl:Addr) (Q:VK),Inv X pins σ H s->xc x v->s.heap.IsSliceOf sl vl vu .none->IsPart vl lo->IsPart vu hi->r x lo hi H Q →
  ∃T id,typeLookup (.type T) "__getitem__" = pure (some (.builtin id))/\s.TypeIs v T/\wpAny (model X.prog X.w) X.A (getItem v (.ref sl)) (EP X pins σ Q) X.xe s
def tSl (r:V->Option Int->Option Int->Hp->VK->Prop) (te:TE) (tl th:TO):TE:=λσ H Q=>te σ H λx H1=>tl σ H1 λl H2=>th σ H2 λu H3=>r x l u H3 Q
theorem qT {r:V->Option Int->Option Int->Hp->VK->Prop}(hr:SlR X r) (he:PE X e te) (hl:PO X lo tl) (hu:PO X hi th):PE X (.Subscript e (.Slice lo hi none p2) pos) (tSl r te tl th):=by
 intro pins s σ H Q I h
 refine Subscript_ (thn (he pins s σ H _ I h) λv s1 ⟨x,H1,I1,r1,q1⟩=>?_)
 refine wpAny_Slice (thn (hl pins s1 σ H1 _ I1 q1) λvl s2 ⟨l,H2,I2,pl,q2⟩=>thn (hu pins s2 σ H2 _ I2 q2) λvu s3 ⟨u,H3,I3,pu,q3⟩=>?_)
 rw[evalPart_none]
 refine wpAny_pure ?_
 have I4:Inv X pins σ H3 { s3 with heap:=s3.heap.push { cls:=.type "slice",data:=.fields #[vl,vu,.none] } }:=I3.kept (t':=s3.toks) λb ob q=>Heap.get?_push_of_some _ q
 obtain⟨T,id,hT,ht,hg⟩:=hr pins { s3 with heap:=s3.heap.push { cls:=.type "slice",data:=.fields #[vl,vu,.none] } } σ H3 x v vl vu l u s3.heap.objs.size Q I4 r1 (Heap.IsSliceOf.new ..) pl pu q3
 show wpAny (model X.prog X.w) X.A (subscriptTail e (.Slice lo hi none p2) v (.ref s3.heap.objs.size)) (EP X pins σ Q) X.xe { s3 with heap:=s3.heap.push { cls:=.type "slice",data:=.fields #[vl,vu,.none] } }
 exact tail_any (ops:=[.ref s3.heap.objs.size,v]) ht hT hg (by with_unfolding_all rfl)
end
end L2
namespace L2
open PySem PySem.Spec PyProof.Rows
def ixN (n:Nat) (i:Int):Option Nat:=if 0<=i then(if i<n then some i.toNat else none)else if -(n:Int)<=i then some (i+n).toNat else none
def atI {α:Type}(xs:List α) (i:Int):Option α:=(ixN xs.length i).bind λj=>xs[j]?
theorem Xm {n:Nat}{i:Int}{j:Nat}(h:ixN n i=some j):seqIndex? i n=some j/\j<n ∧ -(n:Int)<=i/\i<n:=by
 unfold ixN at h
 by_cases h0:0<=i
 ·rw[if_pos h0]at h
  by_cases h1:i<n
  ·rw[if_pos h1]at h
   have e:i.toNat=j:=Option.some.inj h
   exact⟨by rw[seqIndex_of h0 h1,e],by omega,by omega,h1⟩
  ·rw[if_neg h1]at h;cases h
 ·rw[if_neg h0]at h
  by_cases h1 : -(n:Int)<=i
  ·rw[if_pos h1]at h
   have e:(i+n).toNat=j:=Option.some.inj h
   exact⟨by rw[seqIndex_neg (by omega) h1,e],by omega,h1,by omega⟩
  ·rw[if_neg h1]at h;cases h
theorem jX {α:Type}{xs:List α}{i:Int}{v:α}(h:atI xs i=some v):∃j,seqIndex? i xs.length=some j/\xs[j]? = some v/\j<xs.length ∧ -(xs.length:Int)<=i/\i<xs.length:=by
 unfold atI at h
 cases e:ixN xs.length i with
 | none=>rw[e]at h;cases h
 | some j =>
  rw[e]at h
  obtain⟨h1,h2,h3,h4⟩:=Xm e
  exact⟨j,h1,h,h2,h3,h4⟩
theorem vY {α:Type}{xs:List α}{j:Nat}{v:α}(h:xs[j]? = some v):atI xs (j:Int)=some v:=by
 have hj:j<xs.length:=(List.getElem?_eq_some_iff.mp h).1
 have e:ixN xs.length (j:Int)=some j:=by
  unfold ixN
  rw[if_pos (by omega),if_pos (by omega)];simp
 unfold atI;rw[e];exact h
def Vw (b:Expr):Prop:=∀o i,subscripted b false o i=operate [o,i] (getItem o i)
def IxR (X:Cx) (r:R2):Prop :=
 ∀(value slice:Expr) (pins:List (Addr×Obj)) (s:Shared) (σ:St) (H:Hp) (x y:V) (v u:Value) (Q:VK),Inv X pins σ H s->xc x v->xc y u->r x y H Q →
  subscripted slice false v u=operate [v,u] (getItem v u)->wpAny (model X.prog X.w) X.A (subscriptTail value slice v u) (EP X pins σ Q) X.xe s
def MtR (X:Cx) (id:String) (r:V->List V->Hp->VK->Prop):Prop :=
 ∀(pins:List (Addr×Obj)) (s:Shared) (σ:St) (H:Hp) (x:V) (xs:List V) (v:Value) (us:List Value) (Q:VK),Inv X pins σ H s->xc x v->zM xs us->r x xs H Q →
  wpAny (model X.prog X.w) X.A (call (.builtin id) (v::us)) (EP X pins σ Q) X.xe s
section
variable {X:Cx}{a b:Expr}{ta tb:TE}{pos:Pos}
theorem zH {r:R2}(hr:IxR X r) (ha:PE X a ta) (hb:PE X b tb) (hs:Vw b):PE X (.Subscript a b pos) (tOp r ta tb):=by
 intro pins s σ H Q I h
 exact Subscript_ (JS ha hb I h λv u s2 x y H2 I2 rx ry q=>hr a b pins s2 σ H2 x y v u Q I2 rx ry q (hs _ _))
def za1 (K:PySem.W.Frag):R2:=λx y H Q=>∃p xs i v,x = .ref p/\y = .int i/\SqL K H p xs/\atI xs i=some v/\Q v H
def rIxT (K:PySem.W.Frag):R2:=λx y H Q=>∃p xs i v,x = .ref p/\y = .int i/\SqT K H p xs/\atI xs i=some v/\Q v H
def rIxS:R2:=λx y H Q=>∃z i c,x = .str z/\y = .int i/\z.length<=sizeLine/\atI z.cps.toList i=some c/\Q (.str ⟨#[c]⟩) H
theorem xb:IxR X (za1 X.K):=by
 intro value slice pins s σ H x y v u Q I rx ry h hs
 obtain⟨p,xs,i,z,rfl,rfl,hq,he,q⟩:=h
 cases rx
 obtain⟨t,rfl⟩:=ry
 obtain⟨its,r,pl,hz⟩:=I.list hq
 obtain⟨j,h1,h2,h3,h4,h5⟩:=jX he
 obtain⟨w,ew,rw'⟩:=r.get h2
 have hl:=r.length
 have hn:=vi
 have fin:EP X pins σ Q w s:=⟨z,H,I,rw',q⟩
 by_cases h0:0<=i
 ·have hj:i.toNat=j:=by
   rw[seqIndex_of h0 h5]at h1
   exact Option.some.inj h1
  exact item_listR pl.isList h0 (by omega) (by rw[hj];simpa using ew) fin hs
 ·have hj:(i+(its.toArray.size:Int)).toNat=j:=by
   rw[seqIndex_neg (by omega) h4]at h1
   rw[List.size_toArray,<-hl]
   exact Option.some.inj h1
  exact subscriptTail_builtinR (x:=w) pl.isList.typeIs slot_list_getitem.lookup
   (wpAny_getItem_list_neg (Q:=λr s'=>r=w/\EP X pins σ Q r s') pl.isList (by omega) (by rw[List.size_toArray] <;> omega) (by omega) (by rw[hj];simpa using ew) ⟨rfl,fin⟩) hs
theorem xk:IxR X (rIxT X.K):=by
 intro value slice pins s σ H x y v u Q I rx ry h hs
 obtain⟨p,xs,i,z,rfl,rfl,hq,he,q⟩:=h
 cases rx
 obtain⟨t,rfl⟩:=ry
 obtain⟨its,r,pl,hz⟩:=I.tuple hq
 obtain⟨j,h1,h2,h3,h4,h5⟩:=jX he
 obtain⟨w,ew,rw'⟩:=r.get h2
 have hl:=r.length
 have hn:=vi
 have fin:EP X pins σ Q w s:=⟨z,H,I,rw',q⟩
 exact subscriptTail_builtinR (x:=w) pl.typeIs slot_tuple_getitem.lookup
  (getItem_tuple (j:=j) (Q:=λr s'=>r=w/\EP X pins σ Q r s') pl (by omega) (by omega) (by rw[List.size_toArray,<-hl];exact h1) (by simpa using ew) ⟨rfl,fin⟩) hs
theorem ZP:IxR X rIxS:=by
 intro value slice pins s σ H x y v u Q I rx ry h hs
 obtain⟨z,i,c,rfl,rfl,hz,he,q⟩:=h
 obtain⟨t,rfl⟩:=rx
 obtain⟨t',rfl⟩:=ry
 obtain⟨j,h1,h2,h3,h4,h5⟩:=jX he
 have hl:z.cps.toList.length=z.length:=by simp[Str.length]
 rw[hl]at h1 h4 h5
 have hn:=vi
 exact tail_any (typeIs_str s z t) slot_str_getitem.lookup (getItem_str (c:=c) (by
  have e1:decide (i < -(2^63:Int))=false:=decide_eq_false (by omega)
  have e2:decide (i>=2^63)=false:=decide_eq_false (by omega)
  rw[e1,e2,Bool.or_false]) (by rw[h1];simpa using h2) ⟨.str ⟨#[c]⟩,H,I.tok _,⟨_,rfl⟩,q⟩) hs
theorem ZR (its:List Value) (n j:Nat) (u:Value):Obj.mapSeq (·.setIfInBounds j u) { cls:=.type "list",data:=.seq its.toArray n } = { cls:=.type "list",data:=.seq (its.set j u).toArray n }:=by
 simp[Obj.mapSeq]
theorem Inv.lst {pins:List (Addr×Obj)}{σ:St}{H:Hp}{s:Shared}{p:Addr}{xs:List V}(I:Inv X pins σ H s) (h:H p=some (.lst xs)) :
  ∃(its:List Value) (n:Nat),zM xs its/\s.heap.get? p=some { cls:=.type "list",data:=.seq its.toArray n }/\xs.length<=sizeLine:=by
 obtain⟨z,its,n,r,e⟩:=I.hok p _ h
 exact⟨its,n,r,e,z⟩
theorem Inv.lstUpd {pins:List (Addr×Obj)}{σ:St}{H:Hp}{s:Shared}{p:Addr}{xs ys:List V}{its its':List Value}{n n':Nat}{f:Obj->Obj}(I:Inv X pins σ H s) (h:H p=some (.lst xs))
  (ho:s.heap.get? p=some { cls:=.type "list",data:=.seq its.toArray n }) (hf:f { cls:=.type "list",data:=.seq its.toArray n } = { cls:=.type "list",data:=.seq its'.toArray n' }) (r:zM ys its') (hz:ys.length<=sizeLine) (t:Nat) :
  Inv X pins σ (upd H p (.lst ys)) { s with heap:=s.heap.update p f,toks:=t }:=by
 have e:(s.heap.update p f).get? p=some { cls:=.type "list",data:=.seq its'.toArray n' }:=by
  rw[Heap.get?_update_self f ho (by rw[hf] <;> rfl),hf]
 refine I.write (x:=p) (e:=p) (by rw[h];trivial) (.inl rfl) (λb u hb q=>(Heap.get?_update_other _ _ (Ne.symm hb)).trans q) ⟨_,e⟩ ?_
 exact⟨hz,its',n',r,e⟩
def za2:V->V->V->Hp->(Hp->Prop)->Prop:=λo i v H Q=>∃p xs k j,o = .ref p/\i = .int k/\H p=some (.lst xs)/\ixN xs.length k=some j/\Q (upd H p (.lst (xs.set j v)))
theorem ZC:zaN X za2:=by
 intro pins s σ H o i v ov iv u Q I ro ri rv h
 obtain⟨p,xs,k,j,rfl,rfl,hp,hj,q⟩:=h
 cases ro
 obtain⟨t,rfl⟩:=ri
 obtain⟨its,n,r,ho,hz⟩:=I.lst hp
 obtain⟨h1,h2,h3,h4⟩:=Xm hj
 have hl:=r.length
 have hn:=vi
 have I':Inv X pins σ (upd H p (.lst (xs.set j v))) { s with heap:=s.heap.update p (Obj.mapSeq (·.setIfInBounds j u)) } :=
  I.lstUpd hp ho (ZR its n j u) (r.set rv j) (by rw[List.length_set];exact hz) s.toks
 by_cases h0:0<=k
 ·have hk:k.toNat=j:=by
   rw[seqIndex_of h0 h4]at h1
   exact Option.some.inj h1
  exact PySem.W.ki_setAt ho h0 (by omega) (by rw[List.size_toArray,<-hl];exact h4) (by rw[hk];exact⟨_,I',q⟩)
 ·have hk:(k+(its.toArray.size:Int)).toNat=j:=by
   rw[seqIndex_neg (by omega) h3]at h1
   rw[List.size_toArray,<-hl]
   exact Option.some.inj h1
  exact PySem.W.ki_setBack ho (by omega) (by rw[List.size_toArray,<-hl];exact h3) (by omega) (by rw[hk];exact⟨_,I',q⟩)
theorem zW:qA X (.builtin "len") (λxs H Q=>∃p ys,xs=[.ref p]/\(SqL X.K H p ys\/SqT X.K H p ys)/\Q (.int ys.length) H):=by
 intro pins s σ H xs us Q I r h
 obtain⟨p,ys,rfl,hq,q⟩:=h
 obtain⟨u,rfl,rx⟩:=qv r
 cases rx
 have hn:=vi
 rcases hq with hq | hq
 ·obtain⟨its,r',pl,hz⟩:=I.list hq
  have hlen:=r'.length
  exact Calls.call_len_list pl.isList (by simp only[List.size_toArray] <;> omega) ⟨.int ys.length,H,I.tok _,⟨s.toks+1,by rw[List.size_toArray,hlen]⟩,q⟩
 ·obtain⟨its,r',pl,hz⟩:=I.tuple hq
  have hlen:=r'.length
  exact len_tuple pl (by simp only[List.size_toArray] <;> omega) ⟨.int ys.length,H,I.tok _,⟨s.toks+1,by rw[List.size_toArray,hlen]⟩,q⟩
theorem qF:qA X (.builtin "len") (λxs H Q=>∃z,xs=[.str z]/\z.length<=sizeLine/\Q (.int z.length) H):=by
 intro pins s σ H xs us Q I r h
 obtain⟨z,rfl,hz,q⟩:=h
 obtain⟨u,rfl,t,rfl⟩:=qv r
 have hn:=vi
 exact len_str (by omega) ⟨.int z.length,H,I.tok _,⟨_,rfl⟩,q⟩
theorem vf:qA X (.type "tuple") (λxs H Q=>∃p ys,xs=[.ref p]/\((SqL X.K H p ys/\∀l,H l=none->Q (.ref l) (upd H l (.tup ys)))\/(SqT X.K H p ys/\Q (.ref p) H))):=by
 intro pins s σ H xs us Q I r h
 obtain⟨p,ys,rfl,h⟩:=h
 obtain⟨u,rfl,rx⟩:=qv r
 cases rx
 rcases h with⟨hq,q⟩ | ⟨hq,q⟩
 ·obtain⟨its,r',pl,hz⟩:=I.list hq
  have hlen:=r'.length
  refine call_tuple_list pl.isList (λh' kp=>?_) (by simp only[List.size_toArray] <;> omega)
  have I1:Inv X pins σ H { s with heap:=h' }:=I.kept (t':=s.toks) kp
  have I2:Inv X pins σ (upd H h'.objs.size (.tup ys)) { s with heap:=h'.push { cls:=.type "tuple",data:=.seq its.toArray } } :=
   I1.laid (t':=s.toks) (λb o e=>Heap.get?_push_of_some _ e) (Nat.le_refl _) (show xy X.prog X.w _ _ _ (.tup ys)from⟨hz,its,r',IsTup.new _ _⟩)
  exact⟨.ref h'.objs.size,_,I2,rfl,q _ (I1.hok.fresh (Nat.le_refl _))⟩
 ·obtain⟨its,r',pl,hz⟩:=I.tuple hq
  exact call_tuple_same pl ⟨.ref p,H,I,rfl,q⟩
def tyV (K:PySem.W.Frag) (T:String) (x:V) (H:Hp):Prop:=match x with
 | .str _=>T = "str"
 | .int _=>T = "int"
 | .ref p=>(T = "list"/\∃xs,SqL K H p xs)\/(T = "tuple"/\∃o,K.lookup p=some o/\o.cls = .type "tuple"/\o.dict=none) ∨
   (T = "dict"/\((∃kvs,H p=some (.dK kvs))\/∃kvs,H p=some (.dT kvs)))\/(T = "set"/\∃S n,H p=some (.set S n))
 | _=>False
theorem zaI {pins:List (Addr×Obj)}{σ:St}{H:Hp}{s:Shared}{T:String}{x:V}{v:Value}(I:Inv X pins σ H s) (r:xc x v) (ty:tyV X.K T x H) :
  s.TypeIs v T/\∀a,v = .ref a->∃ob,s.heap.get? a=some ob/\ob.dict=none:=by
 cases x with
 | str z =>
  obtain⟨t,rfl⟩:=r
  cases(show T = "str" from ty)
  exact⟨typeIs_str s z t,λ_ e=>nomatch e⟩
 | int i =>
  obtain⟨t,rfl⟩:=r
  cases(show T = "int" from ty)
  exact⟨typeIs_int s i t,λ_ e=>nomatch e⟩
 | ref p =>
  cases r
  rcases ty with⟨rfl,xs,hq⟩ | ⟨rfl,o,hk,hc,hd⟩ | ⟨rfl,hk⟩ | ⟨rfl,S,n,hk⟩
  ·obtain⟨its,_,pl,_⟩:=I.list hq
   refine⟨pl.isList.typeIs,λa e=>?_⟩
   cases e
   obtain⟨o,n,e,c,hd,_⟩:=pl
   exact⟨o,e,hd⟩
  ·refine⟨⟨o,I.kIn p o hk,hc⟩,λa e=>?_⟩
   cases e
   exact⟨o,I.kIn _ o hk,hd⟩
  ·have z:∃o,s.heap.get? p=some o/\o.ExactDict:=by
    rcases hk with⟨kvs,hk⟩ | ⟨kvs,hk⟩
    ·obtain⟨_,_,_,_,o,_,_,e,ex,_⟩:=I.hok p _ hk
     exact⟨o,e,ex⟩
    ·obtain⟨_,_,_,_,o,_,_,e,ex,_⟩:=I.hok p _ hk
     exact⟨o,e,ex⟩
   obtain⟨o,e,ex⟩:=z
   refine⟨⟨o,e,ex.1⟩,λa e2=>?_⟩
   cases e2
   exact⟨o,e,ex.2.1⟩
  ·obtain⟨o,_,_,_,e,ex,_⟩:=I.hok p _ hk
   refine⟨⟨o,e,ex.1⟩,λa e2=>?_⟩
   cases e2
   exact⟨o,e,ex.2.1⟩
 | _=>exact False.elim ty
def tBM (K:PySem.W.Frag) (T:String) (r:V->List V->Hp->VK->Prop) (to:TE) (t:TA):TE:=λσ H Q=>to σ H λx H1=>tyV K T x H1/\t σ H1 λxs H2=>r x xs H2 Q
variable {o e:Expr}{es:List Expr}{to:TE}{t:TA}{name:Str}{apos cpos:Pos}{T id:String}{r:V->List V->Hp->VK->Prop}
theorem qS (pa:PlainAttrs T) (slot:Slot T name id) (hty:typeOf (.builtin id)=pure (.type "method_descriptor")) (hm:MtR X id r) (ho:PE X o to) (ha:PA X (e::es) t)
  (hbase:attributeBase o name X.env (eval o X.env)=eval o X.env:=by rfl)
  (hfew:((backTo cpos (starEach (e::es) X.env)).all (λx=>!x.1)&&(backToKw cpos (keywordEach [] X.env)).all (λx=>x.1.isSome)
   && decide ((e::es).length+([]:List Keyword).length+(if([]:List Keyword).isEmpty then 0 else 1)<30))=true:=by rfl)
  (hline:(apos.endLine == cpos.line)=true:=by rfl) (hs:starEach (e::es) X.env=(false,eval e X.env)::starEach es X.env:=by rfl) (hplain:(backTo cpos (starEach es X.env)).any (·.1)=false:=by rfl) :
  PE X (.Call (.Attribute o name apos) (e::es) [] cpos) (tBM X.K T r to t):=by
 intro pins s σ H Q I h
 refine wpAny_Call_method_late hbase hfew hline rfl (thn (ho pins s σ H _ I h) λv s1 ⟨x,H1,I1,r1,ty,q1⟩=>?_)
 obtain⟨h1,h2⟩:=zaI I1 r1 ty
 refine⟨T,id,pa,slot,hty,h1,h2,?_⟩
 have hA:=ha cpos pins s1 σ H1 _ I1 q1
 rw[hs]at hA ⊢
 refine Calls.callWith_builtin (by show (false || (backTo cpos (starEach es X.env)).any (·.1))=false;rw[hplain] <;> rfl) (Calls.evalArgs_plain ?_)
 exact thn hA λus s2 ⟨vs,H2,I2,r2,q2⟩=>hm pins s2 σ H2 x vs v us Q I2 r1 r2 q2
end
end L2
namespace L2
open PySem PySem.Spec PyProof.Rows
def MtM (X:Cx) (id:String) (r:V->List V->Hp->VK->Prop):Prop :=
 ∀(pins:List (Addr×Obj)) (s:Shared) (σ:St) (H:Hp) (x:V) (xs:List V) (v:Value) (us:List Value) (Q:VK),Inv X pins σ H s->xc x v->zM xs us->r x xs H Q →
  wpAny (model X.prog X.w) X.A (call (.builtin id) (v::us)) (EP X pins σ Q) X.xe s
theorem zM.one:∀{x:V}{us:List Value},zM [x] us->∃u,us=[u]/\xc x u
 | _,_,.cons r .nil=>⟨_,rfl,r⟩
section
variable {X:Cx}{pins:List (Addr×Obj)}{σ:St}{H:Hp}{s:Shared}{l b:Addr}{xs ys zs:List V}
theorem Inv.lset {its its':List Value}{n:Nat}{f:Array Value->Array Value}{t':Nat}(I:Inv X pins σ H s) (hH:H l=some (.lst xs))
  (e:s.heap.get? l=some { cls:=.type "list",data:=.seq its.toArray n }) (hf:f its.toArray=its'.toArray) (hv:zM ys its') (hz:ys.length<=sizeLine) :
  Inv X pins σ (upd H l (.lst ys)) { s with heap:=s.heap.update l (Obj.mapSeq f),toks:=t' }:=by
 have q:=PySem.IsL.update e f
 rw[hf]at q
 refine I.write (x:=l) (e:=l) (by rw[hH];exact trivial) (.inl rfl) (λb' u hb hu=>(Heap.get?_update_other s.heap (Obj.mapSeq f) (Ne.symm hb)).trans hu) ⟨_,q⟩ ?_
 exact⟨hz,its',_,hv,q⟩
theorem Inv.lnew {its:List Value}{t':Nat}(I:Inv X pins σ H s) (hv:zM ys its) (hz:ys.length<=sizeLine) :
  Inv X pins σ (upd H s.heap.objs.size (.lst ys)) { s with heap:=s.heap.push { cls:=.type "list",data:=.seq its.toArray },toks:=t' } :=
 I.laid (λ_ _ q=>Heap.get?_push_of_some _ q) (Nat.le_refl _) ⟨hz,its,0,hv,Heap.get?_push_size _ rfl⟩
theorem Inv.fresh (I:Inv X pins σ H s):H s.heap.objs.size=none:=I.hok.fresh (Nat.le_refl _)
theorem Inv.lstM (I:Inv X pins σ H s) (hH:H l=some (.lst xs)):xs.length<=sizeLine/\∃(its:List Value) (n:Nat),zM xs its/\xs.length=its.length/\s.heap.get? l=some { cls:=.type "list",data:=.seq its.toArray n }:=by
 obtain⟨z,its,n,r,e⟩:=I.hok l _ hH
 exact⟨z,its,n,r,r.length,e⟩
end
section
variable {X:Cx}
def v4:V->List V->Hp->VK->Prop:=λx vs H Q=>∃l xs y,x = .ref l/\vs=[y]/\H l=some (.lst xs)/\xs.length<sizeLine/\Q .non (upd H l (.lst (xs++[y])))
theorem qi:MtM X "list.append" v4:=by
 intro pins s σ H x vs v us Q I rx rv h
 obtain⟨l,xs,y,rfl,rfl,hH,hz,q⟩:=h
 cases rx
 obtain⟨u,rfl,ru⟩:=rv.one
 obtain⟨z,its,n,r,hl,e⟩:=I.lstM hH
 refine call_meets F.slot_list_append ⟨_,e,rfl⟩ F.entry_list_append (F.args_list_append_2 _ _) (PySem.list_append l its.toArray n u (by rw[List.size_toArray];omega)) ⟨e,?_⟩
 refine⟨.non,_,I.lset (its':=its++[u]) hH e (by simp) (r.append (.cons ru .nil)) ?_,rfl,q⟩
 rw[List.length_append,List.length_singleton]
 omega
end
end L2
namespace Att
open PySem PySem.W PySem.Calls PyProof.Rows
theorem vX {P:Params}{h:Heap}:∀(ns:List Int) (vs:List Value),WellAll P h vs (ns.map WData.int)->IntsAre vs ns:=by
 intro ns
 induction ns with
 | nil =>
  intro vs w
  rw[List.map_nil]at w
  cases w
  exact .nil
 | cons n ns ih =>
  intro vs w
  rw[List.map_cons]at w
  cases w with
  | cons a b =>
   cases a
   exact .cons _ _ (ih _ b)
theorem X4 {l:OpenLaw}{n:Nat}(hn:l.most=some n){P:Params}{h:Heap}{args:List WData}{vals:List Value}
  (hpre:l.row.toRowW.claim.pre args=true) (hwl:WellAll P h vals args) :
  ∃a vs ns,vals=[Value.ref a]/\args=[WData.list (ns.map WData.int)]/\h.get? a=some { cls:=.type "list",data:=.seq vs.toArray }/\IntsAre vs ns/\ns.length<=n:=by
 have hsh:WShape.hasAll [] args [.list .int]=true:=(pre_splitW hpre).1
 have hc:l.pre.holds [] { args:=args } = true:=(pre_splitW hpre).2
 obtain⟨d,r,rfl,h1,h2⟩:=hasAllW_cons hsh
 obtain rfl:=hasAllW_nil h2
 obtain⟨xs,rfl,h3⟩:=hasW_list h1
 obtain⟨ns,rfl⟩:=items_int h3
 have hlen:ns.length<=n:=by
  unfold OpenLaw.pre at hc
  have h4:(WTm.not (.lt (.lit (.int (n:Int))) (.len (.arg 0)))).holds [] { args:=[.list (ns.map .int)] } = true:=by
   have h4:=(holds_andW hc).1
   rw[hn]at h4
   exact h4
  have h5:=condW_of h4 (w_not (w_lt w_lit (w_len_list (w_arg rfl))))
  rw[List.length_map]at h5
  refine Nat.le_of_not_lt λq=>?_
  have q':(n:Int)<((ns.length:Nat):Int):=by omega
  first
   | (rw[decide_eq_true q']at h5;exact absurd h5 (by decide))
   | (simp at h5;omega)
 cases hwl with
 | cons w1 w2 =>
  cases w2
  cases w1 with
  | list ho hall=>exact⟨_,_,ns,rfl,rfl,ho,vX ns _ hall,hlen⟩
theorem X0 (l:OpenLaw) (args:List WData):l.row.toRowW.claim.post args (.bool true) args=true :=
 postW_of (r:=l.row.toRowW) (X:=(true == true))
  (show WShape.has [] (.bool true) .bool=true by first | rfl | decide | simp[WShape.has,WShape.arms,WShape.armsAll])
  (show (WTm.eq .res (.lit (.bool true))).value [] { args:=args,res:=some (.bool true),after:=args } = some (.bool (true == true))from w_eq_bool (w_res rfl) w_lit) rfl
theorem attach_call {l:OpenLaw}{n:Nat}{q:Program}{loose:List Str}{XP:(Str->Option Value)->Heap->Prop}{YP:World->Heap->Prop}{d:DefRec}
  (hn:l.most=some n) (hdf:d.params.defaults=[])
  (call:∀(w:World) (s₀ s₁:Shared) (mg mb:Str->Option Value) (fa:Addr) (o:Obj) (pm cd doc:Value) (a:Addr) (vs:List Value) (ns:List Int),
   Ground q loose [] XP w s₀ mg mb s₁.heap->YP w s₁.heap →
   s₁.heap.get? fa=some o->o.data = .func (docDef d.name d.params d.body d.scope pm cd doc)->s₁.heap.CodeRec cd d.name->mg d.name=some (.ref fa) →
   s₁.heap.get? a=some { cls:=.type "list",data:=.seq vs.toArray }->IntsAre vs ns->ns.length<=n->s₁.gens = #[] →
   codeAny (model l.prog w) callerA (.call (.ref fa) ⟨[.ref a],[]⟩) (λr s'=>r = .ok (.ret (.bool true))/\OldK s₁.heap s'.heap/\s'.os=s₁.os/\AllBare s'.gens) s₁) :
  WalkO q loose XP YP l.row.toRowW d [] (λf vs=>PySem.call f vs):=by
 intro w s₀ s₁ mg mb G Y fa o pm cd doc dV kV ho hd hcd hD hmg hg args vals as hpre hlay hrd hwl hlo
 obtain rfl:dV = .none:=Dflts.none hD hdf
 obtain rfl:kV = .none:=Dflts.noKw hD
 obtain⟨a,vs,ns,rfl,rfl,hobj,hints,hlen⟩:=X4 hn hpre hwl
 refine enter_call (codeAny_mono (call w s₀ s₁ mg mb fa o pm cd doc a vs ns G Y ho (fd_plain hd) hcd hmg hobj hints hlen hg) λr s' hq=>?_)
 obtain⟨rfl,h2,h3,h4⟩:=hq
 exact⟨.inl ⟨.bool true,.bool true,[],rfl,λ_=>rfl,.bool true,X0 l _,λ_=>⟨List.Pairwise.nil,λ_ hm=>(nomatch hm)⟩⟩,h2,h3,h4⟩
end Att
namespace L2
open PySem PySem.Spec PyProof.Rows
theorem jU:∀{vs:List Value}{ns:List Int},IntsAre vs ns->zM (ns.map V.int) vs
 | _,_,.nil=>.nil
 | _,_,.cons n t h=>.cons ⟨t,rfl⟩ (jU h)
def JK (H:Hp):Prop:=∀b,H b=none\/∃o xs,H b=some (.frz o (.lst xs))
theorem Qz {P:Program}{w:World}{K:PySem.W.Frag}{mg mb:Str->Option Value}{CX:CXT}{k:Nat}{fa a:Addr}{fd:FuncData}{x:Str}{sp:Sp}{s₁:Shared}{vs:List Value}{ns:List Int}
  (KX:K.In s₁.heap) (hns:s₁.heap.Ns mainGlobals mg) (hb:s₁.heap.Ns builtinsNs mb) (hbb:∀x:Str,x≠"__name__"->mb x=bootBuiltins x) (hlim:s₁.heap.NoLimit) (hg:s₁.gens = #[])
  (ha:s₁.heap.get? a=some { cls:=.type "list",data:=.seq vs.toArray }) (hi:IntsAre vs ns) (hl:ns.length<=sizeLine) (hr:xh k callerA)
  (F:∀base:Heap,K.In base->base.Ns mainGlobals mg->vh P w K mg base CX k fa fd [x] sp) (hbind:∀(s:Shared) (u:Value),BindsTo s fd ⟨[u],[]⟩ [(x,u)])
  (hsp:∀H:Hp,JK H->SqL K H a (ns.map V.int)->sp [.ref a] H (λv _=>v = .bl true) λ_ _ _=>False)
  (hCX:∀H e s',CX [] H s₁ (λ_ _ _=>False) e s'->False) :
  codeAny (model P w) callerA (.call (.ref fa) ⟨[.ref a],[]⟩) (λr s'=>r = .ok (.ret (.bool true))/\OldK s₁.heap s'.heap/\s'.os=s₁.os/\AllBare s'.gens) s₁:=by
 have rv:=jU hi
 have lenV:=hi.length
 have core:∀H:Hp,JK H->SqL K H a (ns.map V.int)->HOk P w H s₁.heap->(∀b,H b≠none->b=a)->(H a≠none->K.lookup a=none) →
   codeAny (model P w) callerA (.call (.ref fa) ⟨[.ref a],[]⟩) (λr s'=>r = .ok (.ret (.bool true))/\OldK s₁.heap s'.heap/\s'.os=s₁.os/\AllBare s'.gens) s₁:=by
  intro H hO hS hok hA hK
  have base_of:∀{b:Addr}{o:Obj},s₁.heap.get? b=some o->H b=none->(jZ s₁.heap H).get? b=some o:=λe n=>Qt e n
  have noA:∀{b:Addr}{o:Obj}{es:Array DictEntry}{ep:Nat},s₁.heap.get? b=some o->o.data = .dict es ep->H b=none:=λ{b o es ep} e d=>by
   cases q:H b with
   | none=>rfl
   | some u =>
    have e':b=a:=hA b (by rw[q];simp)
    subst e'
    rw[ha]at e;cases e
    have d':Data.seq vs.toArray _=Data.dict es ep:=d
    cases d'
  have nsK:∀{b:Addr}{m:Str->Option Value},s₁.heap.Ns b m->(jZ s₁.heap H).Ns b m:=λ{b m} ⟨o,es,ep,e,d,r⟩=>⟨o,es,ep,base_of e (noA e d),d,r⟩
  have hKb:K.In (jZ s₁.heap H):=λb o e=>base_of (KX b o e) (by
   cases q:H b with
   | none=>rfl
   | some u =>
    have e':b=a:=hA b (by rw[q];simp)
    subst e'
    rw[hK (by rw[q];simp)]at e;cases e)
  have hM:Mod K mg (jZ s₁.heap H):=⟨hKb,nsK hns,⟨mb,nsK hb,hbb⟩,let ⟨mc,h1,h2⟩:=hlim;⟨mc,nsK h1,h2⟩⟩
  have e0:Vv P w K mg (jZ s₁.heap H) callerA [] s₁ H:=⟨rfl,hM,λb o e=>VN e,Nat.le_of_eq (XO _ _),trivial,λb hb=>absurd (show b∈([]:List Addr)from hb) (by simp),hok,.of_eq hg⟩
  refine codeAny_mono ((F _ hKb (nsK hns)).run callerA [] s₁ H ⟨[.ref a],[]⟩ [.ref a] [.ref a] _ _ hr e0 (hbind s₁ (.ref a)) (.cons rfl .nil) (hsp H hO hS)) λr s' h=>?_
  cases r with
  | error e=>exact(hCX H e s' h).elim
  | ok fl =>
   cases fl with
   | next=>exact False.elim h
   | brk=>exact False.elim h
   | cont=>exact False.elim h
   | ret u =>
    obtain⟨v,H',os,bare,un,hok',r',q⟩:=h
    have q':v = .bl true:=q
    subst q'
    obtain rfl:u=Value.bool true:=r'
    refine⟨rfl,OldK.of_keep λb o e=>?_,os,bare⟩
    cases q:H b with
    | none=>exact un.keep b o e q (by intro z;exact absurd (show b∈([]:List Addr)from z) (by simp)) (by simp)
    | some u =>
     rcases hO b with z | ⟨ob,xs,z⟩
     ·rw[q]at z;cases z
     ·have z2:=un.frzs b ob _ z
      obtain⟨e1,_⟩:=hok b _ z
      obtain⟨e2,_⟩:=hok' b _ z2
      rw[e]at e1;cases e1
      exact e2
 cases hk:K.lookup a with
 | some o =>
  have e:=KX a o hk
  rw[ha]at e
  cases e
  refine core (λ_=>none) (λ_=>.inl rfl) (.inr ⟨_,vs.toArray,_,hk,rfl,rfl,rfl,by rw[List.size_toArray,lenV];exact hl,by simpa using rv⟩) (λb u z=>by have z':(none:Option HO)=some u:=z;cases z') (λb z=>absurd rfl z) λz=>absurd rfl z
 | none =>
  refine core (λb=>if b=a then some (.frz { cls:=.type "list",data:=.seq vs.toArray } (.lst (ns.map V.int)))else none) (λb=>?_) (.inl (.inr ⟨{ cls:=.type "list",data:=.seq vs.toArray },if_pos rfl⟩)) (λb u z=>?_) (λb z=>?_) λ_=>hk
  ·by_cases hb:b=a
   ·exact .inr ⟨_,_,if_pos hb⟩
   ·exact .inl (if_neg hb)
  ·by_cases hb:b=a
   ·have z':=(if_pos hb).symm.trans z
    cases z'
    subst hb
    exact⟨ha,by rw[List.length_map];exact hl,vs,_,rv,ha⟩
   ·have z':=(if_neg hb).symm.trans z
    cases z'
  ·by_cases hb:b=a
   ·exact hb
   ·exact absurd (if_neg hb) z
end L2
namespace L2
open PySem PySem.Spec PyProof.Rows
theorem Jm {l:PySem.W.OpenLaw}{n k:Nat}{q:Program}{loose:List Str}{XP:(Str->Option Value)->Heap->Prop}{YP:World->Heap->Prop}{d:DefRec}{K:Params->PySem.W.Frag}{CX:World->CXT}{sp:World->Sp}{x:Str}
  (hn:l.most=some n) (hn2:n<=sizeLine) (hdf:d.params.defaults=[]) (hr:xh k callerA)
  (hY:∀(w:World) (h:Heap),YP w h->(K w.params).In h)
  (F:∀(w:World) (mg:Str->Option Value) (fa:Addr) (h:Heap),(K w.params).In h->h.Ns mainGlobals mg->mg d.name=some (.ref fa) →
   ∃fd:FuncData,(∀(s:Shared) (u:Value),BindsTo s fd ⟨[u],[]⟩ [(x,u)]) ∧
    ∀base:Heap,(K w.params).In base->base.Ns mainGlobals mg->vh l.prog w (K w.params) mg base (CX w) k fa fd [x] (sp w))
  (hsp:∀(w:World) (H:Hp) (a:Addr) (ns:List Int),ns.length<=n->JK H->SqL (K w.params) H a (ns.map V.int)->sp w [.ref a] H (λv _=>v = .bl true) λ_ _ _=>False)
  (hCX:∀(w:World) (H:Hp) (s:Shared) (e:Value) (s':Shared),CX w [] H s (λ_ _ _=>False) e s'->False) :
  PySem.W.WalkO q loose XP YP l.row.toRowW d [] (λf vs=>PySem.call f vs):=by
 refine Att.attach_call hn hdf λw s₀ s₁ mg mb fa o pm cd doc a vs ns G Y ho hd hcd hmg hobj hints hlen hg=>?_
 have KX:=hY w _ Y
 obtain⟨fd,hb,hF⟩:=F w mg fa _ KX G.T.g hmg
 exact Qz KX G.T.g G.T.b G.T.builtins G.T.nolimit hg hobj hints (Nat.le_trans hlen hn2) hr hF hb (λH hO hS=>hsp w H a ns hlen hO hS) λH e s'=>hCX w H s₁ e s'
end L2
namespace L2
open PySem PySem.Spec PyProof.Rows
def zn (s:Stmt):Arguments:=match s with
 | .FunctionDef _ a _ _ _ _ _ _ _ _=>a
 | _=>{ posonlyargs:=[],args:=[],vararg:=none,kwonlyargs:=[],kw_defaults:=[],kwarg:=none,defaults:=[] }
def zl (s:Stmt):List Stmt:=match s with
 | .FunctionDef _ _ b _ _ _ _ _ _ _=>b
 | _=>[]
def zf (s:Stmt):Scope:=match s with
 | .FunctionDef _ _ _ _ _ _ sc _ _ _=>sc
 | _=>{ kind:=.function,names:=[],isGenerator:=false,isCoroutine:=false }
abbrev CX0:CXT:=λ_ _ _ _ _ _=>False
abbrev E0:XK:=λ_ _ _=>False
theorem zaY {X:Cx}:ZI CX0 X E0:=λ_ _ _ _ _ _ _ h=>h.elim
structure Fun (K:PySem.W.Frag) (x qual:Str) (st:Stmt) (f:Addr) (fd:FuncData):Prop where
 ex:∃(oc:Value) (od:Option Addr) (kV doc pm:Value) (an:Option Addr) (cdv ct:Value) (osl:Array (Option Value)),
  fd=PySem.W.fnOf x qual (zn st) (zl st) (zf st) .none kV doc pm an cdv ct/\K.lookup f=some ⟨oc,od,.func fd,osl⟩/\PySem.W.codeIn K cdv qual=true
 kp:PySem.W.keepIn K (.ref f)=true
section
variable {P:Program}{w:World}{K:PySem.W.Frag}{mg:Str->Option Value}{base:Heap}
theorem Fun.ok {x qual:Str}{st:Stmt}{f:Addr}{fd:FuncData}{N ps:List Str}{k:Nat}{sp:Sp}(F:Fun K x qual st f fd) (S:zw N ps (zf st)) (len:∀vs H Q E,sp vs H Q E->vs.length=ps.length)
  (hbody:∀(cdv:Value) (A:Around) (outer:List Env) (s:Shared) (H:Hp) (vs:List V) (Q:VK) (E:XK),xh k (A.deeper (envOfC qual (zf st) s.heap.objs.size f cdv))->sp vs H Q E →
   ∃t,PSs (xI CX0 P w K mg base N qual (zf st) f cdv A outer s H E).nox (zl st) t/\t { nx:=λ_ H'=>Q .non H',rt:=Q } (qO N vs) H):vh P w K mg base CX0 (k+1) f fd ps sp:=by
 obtain⟨oc,od,kV,doc,pm,an,cdv,ct,osl,rfl,lk,hcd⟩:=F.ex
 refine Qp lk hcd S len λA outer s H vs Q E hr hsp=>?_
 obtain⟨t,h,q⟩:=hbody cdv A outer s H vs Q E hr hsp
 exact⟨t,h.nox,q⟩
theorem JY {x qual:Str}{st:Stmt}{f:Addr}{oc:Value}{od an:Option Addr}{osl:Array (Option Value)}{kV doc pm cdv ct:Value}(l:K.lookup f=some ⟨oc,od,.func (PySem.W.fnOf x qual (zn st) (zl st) (zf st) .none kV doc pm an cdv ct),osl⟩)
  (c:PySem.W.codeIn K cdv qual=true) (k:PySem.W.keepIn K (.ref f)=true):Fun K x qual st f (PySem.W.fnOf x qual (zn st) (zl st) (zf st) .none kV doc pm an cdv ct):=⟨⟨oc,od,kV,doc,pm,an,cdv,ct,osl,rfl,l,c⟩,k⟩
end
theorem va {n:Nat}(h:n<=1000):n<sizeLine:=Nat.lt_of_le_of_lt h (by decide)
section
variable {X:Cx}
theorem pv (i:Nat){x:Str}{pos:Pos}(hN:X.N[i]? = some x:=by rfl) (hv:Vis X.env.scope x:=by first | exact Or.inl rfl | exact Or.inr (Or.inl rfl) | exact Or.inr (Or.inr rfl)) (hd:(x == ("__debug__":Str))=false:=by decide)
  (hcd:(x == ("__classdict__":Str))=false:=by decide):PE X (.Name x pos) (ve i):=zau hN hv hd hcd
end
theorem zU {A B:Prop}(h:B):if false=true then A else B:=by
 rw[if_neg Bool.false_ne_true]
 exact h
theorem zY {A B:Prop}(h:A):if true=true then A else B:=by
 rw[if_pos rfl]
 exact h
theorem vd {c A B:Prop} [Decidable c] (h1:c->A) (h2:¬c->B):if c then A else B:=by
 by_cases h:c
 ·rw[if_pos h]
  exact h1 h
 ·rw[if_neg h]
  exact h2 h
def zo (H H':Hp):Prop:=∀b o,H b=some o->H' b=some o
theorem zo.refl (H:Hp):zo H H:=λ_ _ h=>h
theorem zo.trans {H H1 H2:Hp}(a:zo H H1) (b:zo H1 H2):zo H H2:=λc o h=>b c o (a c o h)
theorem zo.seq {K:PySem.W.Frag}{H H':Hp}{a:Addr}{xs:List V}(e:zo H H') (h:SqL K H a xs):SqL K H' a xs:=by
 rcases h with(h | ⟨o,h⟩) | h
 ·exact .inl (.inl (e _ _ h))
 ·exact .inl (.inr ⟨o,e _ _ h⟩)
 ·exact .inr h
end L2
set_option Elab.async false
set_option linter.all false
set_option maxRecDepth 100000
namespace L2
open PySem PySem.Spec PyProof.Rows
section
variable {prog:Program}{w:World}{A:Around}{R:Result->Shared->Prop}{s:Shared}
theorem vw {elt target iter:Expr}{ifs:List Expr}{scope:Scope}{pos:Pos}{it acc:Value}{env:Env}(I:Nat->Shared->Prop)
  (turn:∀n s,I n s->wpAny (model prog w) A (pyNext it) (λr s₁=>match r with
   | none=>R (.ok .next) s₁
   | some v=>wpAny (model prog w) A (letOwnedTupleGo target it v) (λ_ s₀=>wpAny (model prog w) A (assign target env v) (λ_ s₂ =>
     wpAny (model prog w) A (forIn ifs true λc r=>if r=true then do let ok <-isTrue c env (eval c env);pure (ForInStep.yield ok)else pure (ForInStep.yield r)) (λok s₃ =>
      if ok=true then wpAny (model prog w) A (eval elt env) (λx s₄ =>
       wpAny (model prog w) A (call (.builtin "list.append") [acc,x]) (λ_ s₅=>∃m,m<n/\I m s₅) (λ_ _=>False) s₄) (λ_ _=>False) s₃
      else ∃m,m<n/\I m s₃) (λ_ _=>False) s₂) (λ_ _=>False) s₀) (λ_ _=>False) s₁) (λ_ _=>False) s)
  (n:Nat) (h:I n s) :
  codeAny (model prog w) A (.compLoop (.ListComp elt [⟨target,iter,ifs,0⟩] scope pos) 0 it acc env) R s:=by
 refine codeAny_loop rfl I (λn s hI=>?_) n h
 show wpAny _ A ((compTurn (.ListComp elt [⟨target,iter,ifs,0⟩] scope pos) 0 it acc env).onRaise (λx=>do noteFrame x env;theTreesLotGoes x)) _ _ s
 refine wpAny_noted ?_
 rw[compTurn_list]
 have no:∀{X:Prop},∀(e:Value) (s':Shared),(λ_ _=>False:Value->Shared->Prop) e s'->X:=λ_ _ z=>False.elim z
 refine wpAny_bind (wpAny_standAt (wpAny_bind (wpAny_mono (turn n s hI) (λr s₁ h₁=>?_) λe s'=>no e s')))
 cases r with
 | none=>exact wpAny_pure h₁
 | some v =>
  refine wpAny_bind (wpAny_mono h₁ (λ_ s₀ h₀=>?_) λe s'=>no e s')
  refine wpAny_bind (wpAny_mono h₀ (λ_ s₂ h₂=>wpAny_bind (wpAny_mono h₂ (λok s₃ h₃=>?_) λe s'=>no e s')) λe s'=>no e s')
  cases ok with
  | false=>exact wpAny_pure ⟨rfl,h₃⟩
  | true =>
   exact wpAny_bind (wpAny_bind (wpAny_mono h₃ (λx s₄ h₄=>wpAny_bind (wpAny_mono h₄ (λ_ s₅ h₅=>wpAny_pure (wpAny_pure ⟨rfl,h₅⟩)) λe s'=>no e s')) λe s'=>no e s'))
end
def xH (X:Cx) (NB:List Str) (scope:Scope) (s3:Shared) (H3:Hp) (fp:List Addr):Cx :=
 { X with N:=NB,s₀:=s3,H₀:=H3,env:=compEnv scope s3.heap.objs.size X.env,outer:=X.stack,stack:=X.stack,ex:=fp,fn:=λ_=>true,pn:=[],xe:=λ_ _=>False }
def PTs (X:Cx) (ifs:List Expr) (t:TT):Prop :=
 ∀(pins:List (Addr×Obj)) (s:Shared) (σ:St) (H:Hp) (Q:Bool->Hp->Prop),Inv X pins σ H s->t σ H Q →
  wpAny (model X.prog X.w) X.A (forIn ifs true λc r=>if r=true then do let ok <-isTrue c X.env (eval c X.env);pure (ForInStep.yield ok)else pure (ForInStep.yield r)) (TP X pins σ Q) X.xe s
theorem v3 {X:Cx}:PTs X [] (λ_ H Q=>Q true H):=λ_ _ _ H _ I h=>wpAny_tests_nil ⟨H,I,h⟩
def zbi (n:Nat) (wi:TI) (g:TG) (tt:TT) (te:TE):TE:=λσ H Q=>wi σ H λJ H1=>∀D,H1 D=none->∃W:Nat->Nat->Hp->List V->Prop,(∃m,W 0 m (upd H1 D (.lst [])) []) ∧
 ∀i m H2 ys,W i m H2 ys->H2 D=some (.lst ys)->(J.stop i H2/\Q (.ref D) H2) ∨
  (J.go i H2/\∀σB x H3,σB.length=n->J.yld i H2 x H3->g x σB H3 λσ4 H4=>tt σ4 H4 λb H5=>if b=true then te σ4 H5 (λv H6=>H6 D=some (.lst ys)/\ys.length<sizeLine/\∃m',m'<m/\W (i+1) m' (upd H6 D (.lst (ys++[v]))) (ys++[v]))
   else H5 D=some (.lst ys)/\∃m',m'<m/\W (i+1) m' H5 ys)
theorem V8 {X:Cx}{elt tg iter:Expr}{ifs:List Expr}{scope:Scope}{pos:Pos}{NB:List Str}{wi:TI}{g:TG}{tt:TT}{te:TE}
  (hc:X.calm=true) (hfree:∀x∈scope.names,x.2≠.free) (hcell:∀x∈scope.names,x.2≠.cell) (hkind:scope.kind = .function) (hnames:∀x∈scope.names,x.2 = .local → scope.names.lookup x.1=some .local)
  (hi:PI X tg iter wi) (hb:∀s3 H3 fp,PG (xH X NB scope s3 H3 fp) tg g/\PTs (xH X NB scope s3 H3 fp) ifs tt/\PE (xH X NB scope s3 H3 fp) elt te)
  (hs:∀x,foldedSetIterable iter X.env x=pure x:=by intro _;rfl) :
  PE X (.ListComp elt [⟨tg,iter,ifs,0⟩] scope pos) (zbi NB.length wi g tt te):=by
 intro pins s σ H Q I h
 refine wpAny_ListComp hfree hkind hnames (thn (hi pins s σ H _ I h) λv s1 h1=>thn h1 λitv s2 h2=>?_) hs
 obtain⟨it,fp,tn,J,H2,e,I2,T,st2,f2,q2⟩:=h2
 subst e
 have hf2:H2 s2.heap.objs.size=none:=I2.hok.fresh (Nat.le_refl _)
 obtain⟨W,⟨m0,w0⟩,turn⟩:=q2 _ hf2
 refine wpAny_newObj_type (hd:=by size_fits) ?_
 have I3:Inv X pins σ (upd H2 s2.heap.objs.size (.lst [])) { s2 with heap:=s2.heap.push { cls:=.type "list",dict:=none,data:=.seq ([]:List Value).toArray } } :=
  I2.laid (t':=s2.toks) (λb u e=>Heap.get?_push_of_some _ e) (Nat.le_refl _) ⟨by decide,[],0,.nil,Heap.get?_push_size _ rfl⟩
 generalize hD:s2.heap.objs.size=D at *
 generalize hs3:({ s2 with heap:=s2.heap.push { cls:=.type "list",dict:=none,data:=.seq ([]:List Value).toArray } }:Shared)=s3 at *
 generalize hH3:upd H2 D (.lst [])=H3 at *
 have h3D:H3 D=some (.lst []):=by rw[<-hH3];exact zi
 have fpD:∀b∈fp,b≠D:=λb hb=>by
  obtain⟨o,e,_⟩:=T.obj _ _ st2 b hb
  rw[<-hD];exact Nat.ne_of_lt (Heap.lt_size e)
 have k23:∀b u,s2.heap.get? b=some u->s3.heap.get? b=some u:=λb u e=>by rw[<-hs3];exact Heap.get?_push_of_some _ e
 have st3:tn 0 s3.heap:=T.keep _ _ _ st2 λb _ o e=>k23 b o e
 have f3:∀b∈fp,vP X pins H3 b:=λb hb=>⟨by rw[<-hH3,zX (fpD b hb)];exact(f2 b hb).1,(f2 b hb).2⟩
 refine wpAny_newFunctionEnv hcell (by intro y hy;simp at hy) (λh4 hns4 hsb4=>?_) hkind
 have k34:∀b u,s3.heap.get? b=some u->h4.get? b=some u:=λb u e=>hsb4.extBut b u (Nat.ne_of_lt (Heap.lt_size e)) (Heap.get?_push_of_some _ e)
 have okB:(xH X NB scope s3 H3 fp).Ok:=by
  refine⟨I3.ok.mod,hkind,I3.ok.glob,I3.ok.blt,Nat.le_refl _,λx y c e _=>?_,λx e=>?_,λx c _ e=>?_,I3.ok.hd,I3.ok.frames,.inl rfl,λb hb=>⟨?_,λx c e=>?_⟩,I3.bs,Nat.le_trans I3.ok.bsz I3.sz,λb o e hb=>?_,λb hb z=>?_,I3.stack,I3.stkFree⟩
  ·exact absurd (show ([]:List (Str×Addr)).lookup x=some c from e) (by simp)
  ·have e':scope.names.lookup x=some .cell\/scope.names.lookup x=some .free:=e
   rcases e' with e' | e'
   ·exact absurd rfl (hcell _ (PySem.mem_of_lookup e'))
   ·exact absurd rfl (hfree _ (PySem.mem_of_lookup e'))
  ·exact absurd (show ([]:List (Str×Addr)).lookup x=some c from e) (by simp)
  ·obtain⟨o,e,_⟩:=T.obj _ _ st3 b hb
   exact Nat.ne_of_lt (Heap.lt_size e)
  ·exact absurd (show ([]:List (Str×Addr)).lookup x=some c from e) (by simp)
  ·obtain⟨_,_,_,z,_⟩:=f3 b hb
   rcases z with z | z
   ·exact I3.ok.noex b o e z
   ·exact absurd (Nat.lt_of_lt_of_le (Heap.lt_size e) (Nat.le_trans I3.ok.bsz z)) (Nat.lt_irrefl _)
  ·obtain⟨_,z1,z2,_⟩:=f3 b hb
   rcases List.mem_cons.mp (I3.stkSub b z)with e | e
   ·exact z1 e
   ·exact z2 e
 have IB:Inv (xH X NB scope s3 H3 fp) [] (List.replicate NB.length none) H3 { s3 with heap:=h4,toks:=s3.toks+([]:List (Str×Value)).length }:=by
  refine⟨okB,rfl,I3.bare,Un.kept k34,⟨_,hns4,λi x v _ e _=>?_⟩,λx c e=>?_,I3.hok.fresh (Nat.le_refl _),λx c e=>?_,λp hp=>?_,I3.hok.kept k34,by simp[xH]⟩
  ·rw[List.getElem?_replicate]at e
   split at e <;> cases e
  ·exact absurd (show ([]:List (Str×Addr)).lookup x=some c from e) (by simp)
  ·exact absurd (show ([]:List (Str×Addr)).lookup x=some c from e) (by simp)
  ·exact absurd (show p∈([]:List (Addr×Obj))from hp) (by simp)
 have st4:tn 0 h4:=T.keep _ _ _ st3 λb _ o e=>k34 b o e
 have C_ne:∀b∈fp,b≠s3.heap.objs.size:=λb hb=>(okB.exf b hb).1
 have stat:∀{H':Hp},(∀b∈fp,H' b=none)->∀b∈fp,vP (xH X NB scope s3 H3 fp) [] H' b:=λhn b hb =>
  ⟨hn b hb,C_ne b hb,okB.exfs b hb,.inl hb,λx c e=>absurd (show ([]:List (Str×Addr)).lookup x=some c from e) (by simp),λp hp=>absurd (show p∈([]:List (Addr×Obj))from hp) (by simp)⟩
 obtain⟨hg,ht,he⟩:=hb s3 H3 fp
 have fin:∀{σ':St}{H':Hp}{s':Shared},Inv (xH X NB scope s3 H3 fp) [] σ' H' s'->Q (.ref D) H' →
   ∃m,s'.heap.Ns s3.heap.objs.size m/\∀h',Heap.SameBut s3.heap.objs.size s'.heap h'->EP X pins σ Q (.ref D) { s' with heap:=h' }:=λ{σ' H' s'} J q=>by
  obtain⟨m,hm,_⟩:=J.loc
  refine⟨m,hm,λh' sb=>⟨.ref D,H',?_,rfl,q⟩⟩
  have neC:∀b o,s3.heap.get? b=some o->b≠s3.heap.objs.size:=λb o e=>Nat.ne_of_lt (Heap.lt_size e)
  have hfr:H' s3.heap.objs.size=none:=J.free
  have up:∀b o,b≠s3.heap.objs.size->s'.heap.get? b=some o->h'.get? b=some o:=λb o hb e=>(sb.2 b hb).trans e
  have hok':HOk X.prog X.w H' h':=λb ob e=>(J.hok b ob e).stay (λc w' hc q=>up c w' (by
   rintro rfl
   rcases hc with rfl | hc
   ·rw[hfr]at e;cases e
   ·rw[hfr]at hc;cases hc) q) (λ_ q=>q) λ_ _ q=>q
  have u:Un (frs X.stack) fp H3 H' s3.heap h' :=
   ⟨λb o e n hb hx=>up b o (neC b o e) (J.base.keep b o e n hb hx),λb o e n hb hx=>by
    obtain⟨sl,e'⟩:=J.base.slot b o e n hb hx
    exact⟨sl,up b _ (neC b o e) e'⟩,J.base.free,λb o e hx=>by
    obtain⟨o',e'⟩:=J.base.there b o e hx
    exact⟨o',up b _ (neC b o e) e'⟩,J.base.tups,J.base.frzs,J.base.tbls⟩
  refine I3.call' (s':={ s' with heap:=h' }) (ch:=fp) J.os u hok' J.bare λb hb=>?_
  obtain⟨z0,z1,z2,z3,z4,z5⟩:=f3 b hb
  exact⟨z3,z1,z4,z5⟩
 have loop:∀s5:Shared,s5 = { s3 with heap:=h4,toks:=s3.toks+([]:List (Str×Value)).length } →
   codeAny (model X.prog X.w) X.A (.compLoop (.ListComp elt [⟨tg,iter,ifs,0⟩] scope pos) 0 (.ref it) (.ref D) (compEnv scope s3.heap.objs.size X.env))
    (λr s'=>∃m,s'.heap.Ns s3.heap.objs.size m/\∀h',Heap.SameBut s3.heap.objs.size s'.heap h' →
     match r with | .ok _=>EP X pins σ Q (.ref D) { s' with heap:=h' } | .error x=>wpAny (model X.prog X.w) X.A (passOn "comprehension.variables-let-go" x (compEnv scope s3.heap.objs.size X.env)) (EP X pins σ Q) X.xe { s' with heap:=h' }) s5:=by
  rintro s5 rfl
  refine vw (λn s'=>∃i σ' H' ys,Inv (xH X NB scope s3 H3 fp) [] σ' H' s'/\tn i s'.heap/\(∀b∈fp,H' b=none)/\H' D=some (.lst ys)/\W i n H' ys) ?_ m0
   ⟨0,_,H3,[],IB,st4,λb hb=>(f3 b hb).1,h3D,by rw[<-hH3]at *;exact w0⟩
  rintro n s6 ⟨i,σ6,H6,ys,I6,st6,fr6,hD6,w6⟩
  rcases turn i n H6 ys w6 hD6 with⟨stop,qn⟩ | ⟨go,step⟩
  ·refine thn (T.done (xH X NB scope s3 H3 fp) rfl rfl rfl hc i [] s6 σ6 H6 _ I6 (stat fr6) st6 stop) λr s7 ⟨hr,I7⟩=>?_
   subst hr
   exact fin I7 qn
  ·refine thn (T.item (xH X NB scope s3 H3 fp) rfl rfl rfl hc i [] s6 σ6 H6 _ I6 (stat fr6) st6 go) λr s7 ⟨u,hr,h7⟩=>?_
   subst hr
   refine thn h7 λ_ s8 ⟨x,H8,I8,r8,y8,st8,fr8⟩=>?_
   have I8':=I8.pinned (stat fr8) (T.obj _ _ st8)
   have again:∀{σ9:St}{H9:Hp}{s9:Shared}{zs:List V}{m':Nat},Inv (xH X NB scope s3 H3 fp) ([]++vn fp s8.heap) σ9 H9 s9->H9 D=some (.lst zs)->m'<n->W (i+1) m' H9 zs →
     ∃m,m<n/\∃i σ' H' ys,Inv (xH X NB scope s3 H3 fp) [] σ' H' s9/\tn i s9.heap/\(∀b∈fp,H' b=none)/\H' D=some (.lst ys)/\W i m H' ys:=λ{σ9 H9 s9 zs m'} I9 hz hm w9=>by
    refine⟨m',hm,i+1,σ9,H9,zs,I9.unpinned,T.keep _ _ _ st8 λb hb o e=>(I9.pin (b,o) (List.mem_append_right _ (List.mem_append_right _ (xz hb e)))).1,λb hb=>?_,hz,w9⟩
    obtain⟨o,e,d⟩:=T.obj _ _ st8 b hb
    exact(I9.pin (b,o) (List.mem_append_right _ (List.mem_append_right _ (xz hb e)))).2.1
   refine thn (hg _ s8 σ6 H8 x u _ I8' r8 (step σ6 x H8 I6.len y8)) λ_ s9 ⟨σ9,H9,I9,q9⟩=>?_
   refine thn (ht _ s9 σ9 H9 _ I9 q9) λok s10 ⟨H10,I10,q10⟩=>?_
   cases ok with
   | false =>
    rw[if_neg (by decide)]at q10 ⊢
    obtain⟨hz,m',hm,w'⟩:=q10
    exact again I10 hz hm w'
   | true =>
    rw[if_pos rfl]at q10 ⊢
    refine thn (he _ s10 σ9 H10 _ I10 q10) λy s11 ⟨v,H11,I11,r11,hz,hlen,m',hm,w'⟩=>?_
    refine thn (qi _ s11 σ9 H11 (.ref D) [v] (.ref D) [y] (λ_ H12=>H12=upd H11 D (.lst (ys++[v]))) I11 rfl (.cons r11 .nil) ⟨D,ys,v,rfl,rfl,hz,hlen,rfl⟩) λ_ s12 ⟨_,H12,I12,_,e12⟩=>?_
    subst e12
    exact again I12 zi hm w'
 exact codeAny_compStart_list (loop _ rfl) (T.self X.A 0 _ _ _ st4 (loop _ rfl))
end L2
set_option Elab.async false
set_option linter.all false
set_option maxRecDepth 100000
namespace L2
open PySem PySem.Spec PyProof.Rows
mutual
inductive RdD (H:Hp):V->PyData->Prop
 | non:RdD H .non .none
 | bl (b:Bool):RdD H (.bl b) (.bool b)
 | int (i:Int):RdD H (.int i) (.int i)
 | str (x:Str):RdD H (.str x) (.str x)
 | tup {a:Addr}{xs:List V}{ds:List PyData}:H a=some (.tup xs)->jz H xs ds->RdD H (.ref a) (.tuple ds)
 | lst {a:Addr}{xs:List V}{ds:List PyData}:H a=some (.lst xs)->jz H xs ds->RdD H (.ref a) (.list ds)
inductive jz (H:Hp):List V->List PyData->Prop
 | nil:jz H [] []
 | cons {x:V}{d:PyData}{xs:List V}{ds:List PyData}:RdD H x d->jz H xs ds->jz H (x::xs) (d::ds)
end
section
variable {X:Cx}{pins:List (Addr×Obj)}{σ:St}{H:Hp}{s:Shared}
mutual
theorem RdD.reads (I:Inv X pins σ H s):∀{x:V}{d:PyData},RdD H x d->∀{u:Value},xc x u->∃as,Reads s.heap u d as
 | _,_,.non,u,r=>by cases(show u=Value.none from r);exact⟨_,.none⟩
 | _,_,.bl b,u,r=>by cases(show u=Value.bool b from r);exact⟨_,.bool b⟩
 | _,_,.int i,u,r=>by obtain⟨t,e⟩:=(show ∃t,u=Value.int i t from r);subst e;exact⟨_,.int i t⟩
 | _,_,.str x,u,r=>by obtain⟨t,e⟩:=(show ∃t,u=Value.str x t from r);subst e;exact⟨_,.str x t⟩
 | _,_,@RdD.tup _ a xs ds e h,u,r=>by
  cases(show u=Value.ref a from r)
  obtain⟨_,its,rv,o,h1,h2,n,h3⟩:=(show xy X.prog X.w H s.heap a (.tup xs)from I.hok a _ e)
  obtain⟨as,ra⟩:=jz.reads I h rv
  exact⟨_,.tuple h1 h2 h3 (by simpa using ra)⟩
 | _,_,@RdD.lst _ a xs ds e h,u,r=>by
  cases(show u=Value.ref a from r)
  obtain⟨_,its,n,rv,h1⟩:=(show xy X.prog X.w H s.heap a (.lst xs)from I.hok a _ e)
  obtain⟨as,ra⟩:=jz.reads I h rv
  exact⟨_,.list h1 rfl rfl (by simpa using ra)⟩
theorem jz.reads (I:Inv X pins σ H s):∀{xs:List V}{ds:List PyData},jz H xs ds->∀{us:List Value},zM xs us->∃as,ReadsAll s.heap us ds as
 | _,_,.nil,us,r=>by cases r;exact⟨_,.nil⟩
 | _,_,.cons h t,us,r=>by
  cases r with
  | cons r1 r2 =>
   obtain⟨a1,q1⟩:=RdD.reads I h r1
   obtain⟨a2,q2⟩:=jz.reads I t r2
   exact⟨_,.cons q1 q2⟩
end
end
def za0:R2:=λx y H Q=>∃d e,RdD H x d/\RdD H y e/\SeqAt.shaped d=true/\SeqAt.shaped e=true/\Q (.bl (PyData.eqv d e)) H
def rNeD:R2:=λx y H Q=>∃d e,RdD H x d/\RdD H y e/\SeqAt.shaped d=true/\SeqAt.shaped e=true/\Q (.bl (!PyData.eqv d e)) H
section
variable {X:Cx}
theorem QO (hu:X.A.units+64<cLine):OpR X (compareOp .Eq) za0:=by
 intro pins s σ H x y v u Q I rx ry h
 obtain⟨d,e,hd,he,s1,s2,q⟩:=h
 obtain⟨as,r1⟩:=hd.reads I rx
 obtain⟨bs,r2⟩:=he.reads I ry
 exact eq_dataH r1 r2 s1 s2 hu ⟨.bl _,H,I,rfl,q⟩
theorem ZV (hu:X.A.units+64<cLine):OpR X (compareOp .NotEq) rNeD:=by
 intro pins s σ H x y v u Q I rx ry h
 obtain⟨d,e,hd,he,s1,s2,q⟩:=h
 obtain⟨as,r1⟩:=hd.reads I rx
 obtain⟨bs,r2⟩:=he.reads I ry
 exact ne_dataH r1 r2 s1 s2 hu ⟨.bl _,H,I,rfl,q⟩
def Bd (n:Nat) (i:Int):Prop:=i.natAbs<2^n
theorem Bd.mono {m n:Nat}{i:Int}(h:Bd m i) (l:m<=n):Bd n i:=Nat.lt_of_lt_of_le h (Nat.pow_le_pow_right (by decide) l)
theorem Bd.bits {n:Nat}{i:Int}(h:Bd n i):Builtin.Int.intBits i<=n:=intBits_le_iff.mpr h
theorem Bd.neg {n:Nat}{i:Int}(h:Bd n i):Bd n (-i):=by unfold Bd;rw[Int.natAbs_neg];exact h
def Qg (i j:Int):Prop:=Bd 1000000 i/\Bd 1000000 j
theorem qI:OpR X (binaryOp .Mult) (rI Qg λi j=>.int (i*j)):=opI λ_ _ _ _ _ _ _ hc q=>mul_int q (IntMulOk.of_le hc.1.bits hc.2.bits (by decide))
def zaL (i j:Int):Prop:=j≠0/\Bd 8900 j
theorem vz:OpR X (binaryOp .FloorDiv) (rI zaL λi j=>.int (i.fdiv j)):=opI λ_ j _ _ _ _ _ hc q=>floordiv_int hc.1 q (.inl (PyProof.noPylong_of_log2 (by
 have h1:j.natAbs≠0:=λz=>hc.1 (Int.natAbs_eq_zero.mp z)
 have h2:j.natAbs<2^9000:=Nat.lt_of_lt_of_le hc.2 (Nat.pow_le_pow_right (by decide) (by decide))
 exact(Nat.log2_lt h1).mpr h2)))
theorem x9:qA X (.builtin "isinstance") (λxs H Q=>∃x t n b,xs=[x,.ty n]/\vq X.K H x t/\PySem.W.kitOne X.K t (.type n)=some b/\Q (.bl b) H):=by
 intro pins s σ H xs us Q I r h
 obtain⟨x,t,n,b,rfl,ty,e,q⟩:=h
 obtain⟨u,w',rfl,r1,r2⟩:=Vt r
 cases(show w'=Value.type n from r2)
 exact XR I r1 ty e λtk=>⟨.bl b,H,I.tok tk,rfl,q⟩
end
end L2
set_option Elab.async false
set_option linter.all false
set_option maxRecDepth 100000
namespace HT
open PySem PySem.Spec PyProof.Rows L2
end HT
namespace L2
open PySem PySem.Spec PyProof.Rows
section
variable {X:Cx}{e st:Expr}{te:TE}{pos p2:Pos}
theorem zM.rev:∀{xs:List V}{us:List Value},zM xs us->zM xs.reverse us.reverse
 | _,_,.nil=>.nil
 | _,_,.cons r t=>by rw[List.reverse_cons,List.reverse_cons];exact(zM.rev t).append (.cons r .nil)
end
end L2
namespace KM
theorem Zp {a b:Int}(ha:0<=a) (hb:0<b):Int.gcd b (a % b)=Int.gcd a b:=by
 obtain⟨m,rfl⟩:=Int.eq_ofNat_of_zero_le ha
 obtain⟨n,rfl⟩:=Int.eq_ofNat_of_zero_le (Int.le_of_lt hb)
 rw[<-Int.natCast_emod,Int.gcd_comm (m:Int)]
 show Nat.gcd n (m % n)=Nat.gcd n m
 rw[Nat.gcd_comm n (m % n)]
 exact(Nat.gcd_rec n m).symm
def dv (t b:Int):Int:=if b<0 then -(Int.gcd t b:Int)else(Int.gcd t b:Int)
theorem VC {t b:Int}(hb:b≠0):0<Int.gcd t b:=Int.gcd_pos_of_ne_zero_right _ hb
theorem zaQ {t b:Int}(hb:b≠0):dv t b≠0:=by
 have:=VC (t:=t) hb
 unfold dv;split <;> omega
theorem JV {t b:Int}:(dv t b).natAbs=Int.gcd t b:=by
 unfold dv;split <;> omega
theorem zaP {t b:Int}(hb:b≠0):(dv t b).natAbs<=b.natAbs:=by
 rw[JV];exact Nat.le_of_dvd (by omega) (Int.gcd_dvd_natAbs_right t b)
theorem Ql {t b:Int}(hb:b≠0):t.fdiv (dv t b)=(Rat.divInt t b).num:=by
 rw[Rat.num_divInt,Int.gcd_comm b t]
 have h1:((Int.gcd t b:Nat):Int) ∣ t:=Int.gcd_dvd_left ..
 unfold dv
 split
 ·rename_i h
  rw[Int.fdiv_eq_ediv_of_dvd (Int.neg_dvd.mpr h1),Int.ediv_neg,Int.sign_eq_neg_one_of_neg h]
  rw[show (-1*t) = -t by omega,Int.neg_ediv_of_dvd h1]
 ·rename_i h
  rw[Int.fdiv_eq_ediv_of_dvd h1,Int.sign_eq_one_of_pos (by omega),Int.one_mul]
theorem JW {t b:Int}(hb:b≠0):b.fdiv (dv t b)=((Rat.divInt t b).den:Int):=by
 rw[Rat.den_divInt,if_neg hb,Int.gcd_comm b t]
 have h1:((Int.gcd t b:Nat):Int) ∣ b:=Int.gcd_dvd_right ..
 have h2:Int.gcd t b ∣ b.natAbs:=Int.gcd_dvd_natAbs_right t b
 unfold dv
 split
 ·rename_i h
  rw[Int.fdiv_eq_ediv_of_dvd (Int.neg_dvd.mpr h1),Int.ediv_neg]
  rw[Int.natCast_ediv,show ((b.natAbs:Nat):Int) = -b by omega,Int.neg_ediv_of_dvd h1]
 ·rename_i h
  rw[Int.fdiv_eq_ediv_of_dvd h1,Int.natCast_ediv,show ((b.natAbs:Nat):Int)=b by omega]
theorem zad {t b:Int}(hb:b≠0):(Rat.divInt t b).num.natAbs<=t.natAbs:=by
 rw[<-Ql hb]
 have:t.fdiv (dv t b) ∣ t:=by
  have h1:dv t b ∣ t:=by
   unfold dv;split
   ·exact Int.neg_dvd.mpr (Int.gcd_dvd_left ..)
   ·exact Int.gcd_dvd_left ..
  obtain⟨c,hc⟩:=h1
  rw[Int.fdiv_eq_ediv_of_dvd ⟨c,hc⟩]
  refine⟨dv t b,?_⟩
  exact(Int.ediv_mul_cancel ⟨c,hc⟩).symm
 by_cases h0:t=0
 ·subst h0;simp
 ·exact Nat.le_of_dvd (by omega) (Int.natAbs_dvd_natAbs.mpr this)
theorem JT {t b:Int}(hb:b≠0):(Rat.divInt t b).den<=b.natAbs:=by
 rw[Rat.den_divInt,if_neg hb];exact Nat.div_le_self _ _
end KM
set_option Elab.async false
set_option linter.all false
set_option maxRecDepth 100000
namespace L2
open PySem PySem.Spec PyProof.Rows
structure Cal (P:Program) (w:World) (K:PySem.W.Frag) (mg:Str->Option Value) (base:Heap) (x:Str) (k:Nat) (ps:List Str) (dvs:List V) (sp:Sp):Prop where
 ex:∃f fd ds,vh P w K mg base CX0 k f fd ps sp/\mg x=some (.ref f)/\PySem.W.keepIn K (.ref f)=true/\vW K fd ps ds/\zM dvs ds
theorem Cal.imp {P:Program}{w:World}{K:PySem.W.Frag}{mg:Str->Option Value}{base:Heap}{x:Str}{k:Nat}{ps:List Str}{dvs:List V}{sp sp':Sp}(c:Cal P w K mg base x k ps dvs sp) (h:∀vs H Q E,sp' vs H Q E->sp vs H Q E):Cal P w K mg base x k ps dvs sp':=by
 obtain⟨f,fd,ds,F,r⟩:=c.ex
 exact⟨⟨f,fd,ds,F.imp h,r⟩⟩
theorem zK {X:Cx}{x:Str}{k:Nat}{ps:List Str}{dvs:List V}{sp:Sp}{p pos:Pos}{e:Expr}{es:List Expr}{t:TA}
  (c:Cal X.prog X.w X.K X.mg X.base x k ps dvs sp) (hr:xh k X.A) (ha:PA X (e::es) t) (hg:Gl X x:=by rfl) (hdb:(x == ("__debug__":Str))=false:=by decide)
  (he:starEach (e::es) X.env=(false,eval e X.env)::starEach es X.env:=by rfl) (hpl:(backTo pos (starEach es X.env)).any (·.1)=false:=by rfl) :
  PE X (.Call (.Name x p) (e::es) [] pos) (JG sp dvs E0 t):=by
 obtain⟨f,fd,ds,F,hm,hk,hb,hd⟩:=c.ex
 exact V7 F hr hg hm hk hb hd zaY ha hdb he hpl
structure Df (K:PySem.W.Frag) (mg:Str->Option Value) (x:Str) (st:Stmt) (ps:List Str) (dvs:List V):Prop where
 ex:∃(f:Addr) (oc:Value) (od:Option Addr) (dV kV doc pm:Value) (an:Option Addr) (cdv ct:Value) (osl:Array (Option Value)) (ds:List Value),
  K.lookup f=some ⟨oc,od,.func (PySem.W.fnOf x x (zn st) (zl st) (zf st) dV kV doc pm an cdv ct),osl⟩/\PySem.W.codeIn K cdv x=true/\PySem.W.keepIn K (.ref f)=true/\mg x=some (.ref f) ∧
  zM dvs ds/\vW K (PySem.W.fnOf x x (zn st) (zl st) (zf st) dV kV doc pm an cdv ct) ps ds
section
variable {P:Program}{w:World}{K:PySem.W.Frag}{mg:Str->Option Value}{base:Heap}
theorem Df.cal {x:Str}{st:Stmt}{N ps:List Str}{dvs:List V}{k:Nat}{sp:Sp}(D:Df K mg x st ps dvs) (S:zw N ps (zf st)) (len:∀vs H Q E,sp vs H Q E->vs.length=ps.length)
  (hbody:∀(f:Addr) (cdv:Value) (A:Around) (outer:List Env) (s:Shared) (H:Hp) (vs:List V) (Q:VK) (E:XK),xh k (A.deeper (envOfC x (zf st) s.heap.objs.size f cdv))->sp vs H Q E →
   ∃t,PSs (xI CX0 P w K mg base N x (zf st) f cdv A outer s H E).nox (zl st) t/\t { nx:=λ_ H'=>Q .non H',rt:=Q } (qO N vs) H):Cal P w K mg base x (k+1) ps dvs sp:=by
 obtain⟨f,oc,od,dV,kV,doc,pm,an,cdv,ct,osl,ds,lk,hcd,hk,hm,hv,hb⟩:=D.ex
 refine⟨⟨f,_,ds,Qp lk hcd S len λA outer s H vs Q E hr hsp=>?_,hm,hk,hb,hv⟩⟩
 obtain⟨t,h,q⟩:=hbody f cdv A outer s H vs Q E hr hsp
 exact⟨t,h.nox,q⟩
theorem zN {x:Str}{st:Stmt}{ps:List Str}{f:Addr}{oc:Value}{od an:Option Addr}{osl:Array (Option Value)}{dV kV doc pm cdv ct:Value}
  (l:K.lookup f=some ⟨oc,od,.func (PySem.W.fnOf x x (zn st) (zl st) (zf st) dV kV doc pm an cdv ct),osl⟩) (c:PySem.W.codeIn K cdv x=true) (k:PySem.W.keepIn K (.ref f)=true) (m:mg x=some (.ref f))
  (hb:∀us:List Value,us.length=ps.length->bindArgs (PySem.W.fnOf x x (zn st) (zl st) (zf st) dV kV doc pm an cdv ct) ⟨us,[]⟩=pure (ps.zip us)):Df K mg x st ps [] :=
 ⟨⟨f,oc,od,dV,kV,doc,pm,an,cdv,ct,osl,[],l,c,k,m,.nil,.all hb⟩⟩
end
def rp (q:Rat):List V:=[.int q.num,.int (q.den:Int)]
def Jn (H:Hp) (p:Addr) (q:Rat):Prop:=H p=some (.tup (rp q))
def Sz (n:Nat) (q:Rat):Prop:=Bd n q.num/\Bd n (q.den:Int)
theorem Bd.of_le {n:Nat}{i j:Int}(h:i.natAbs<=j.natAbs) (b:Bd n j):Bd n i:=Nat.lt_of_le_of_lt h b
theorem Sz.divInt {n:Nat}{t b:Int}(hb:b≠0) (h1:Bd n t) (h2:Bd n b):Sz n (Rat.divInt t b) :=
 ⟨h1.of_le (KM.zad hb),h2.of_le (by have:=KM.JT (t:=t) hb;omega)⟩
theorem at0 {α:Type}(a b:α):atI [a,b] 0=some a:=rfl
theorem at1 {α:Type}(a b:α):atI [a,b] 1=some b:=rfl
theorem zo.upd {H:Hp}{p:Addr}{o:HO}(h:H p=none):zo H (upd H p o):=λb u e=>by rw[zX (z9 e h)];exact e
end L2
set_option Elab.async false
set_option linter.all false
set_option maxRecDepth 100000
namespace L2
open PySem PySem.Spec PyProof.Rows
def TrX (h B:Heap) (e:Addr) (cls a0:Value) (dct:Option Addr) (fl:Value):Prop :=
 ∃oe vs T oT ts,h.get? e=some oe/\oe.cls=cls/\oe.dict=dct/\oe.data = .fields vs/\vs[0]? = some a0/\vs[1]? = some (.ref T)/\B.get? T=none/\T≠e/\h.get? T=some oT/\oT.data = .fields ts/\ts[3]? = some fl
theorem XT (o:Obj) (f:Array Value->Array Value):(Obj.mapFields f o).dict=o.dict:=by
 unfold Obj.mapFields;split <;> rfl
section
variable {M:Model}{A:Around}{E:Value->Shared->Prop}{s:Shared}{B:Heap}{env:Env}{outer l:List Env}{L e:Addr}{oe:Obj}{vs:Array Value}{a0 cls fl:Value}{dct:Option Addr}{Q:Unit->Shared->Prop}
theorem Xj {head:Value}{hadNext:Bool}(hfr:A.frames=some (env::outer)) (hl:s.heap.FunFrames B (env::outer)) (hf:env.frame=some L) (he:s.heap.get? e=some oe) (hB:B.StaysIn s.heap) (hn:B.get? e=none) (hd:oe.data = .fields vs) (hz:1<vs.size) (h0:vs[0]? = some a0)
  (q:∀h',B.StaysIn h'->h'.FunFrames B (env::outer)->TrX h' B e oe.cls a0 oe.dict (rawInt L)->s.heap.UpToSlots h'->Q () { s with heap:=h' }) :
  wpAny M A (do let a <-frameOf env;let pl <-entryPlaceOf L hadNext;let b <-EntryCells.newEntry head a .none (rawInt L) .none pl;setField (.ref e) 1 b) Q E s:=by
 have nf:e∉(env::outer).filterMap (·.frame):=λm=>by
  obtain⟨_,o,ho,hnf⟩:=hl.mem m
  rw[he]at ho;cases ho;exact hnf vs hd
 refine wpAny_bind (wpAny_frameOf_fun hfr hl hf λg1 k1=>wpAny_bind (wpAny_entryPlaceOf λpl hpl=>?_))
 unfold EntryCells.newEntry newFields
 have e1:g1.get? e=some oe:=(k1.2.1 e nf).trans he
 have B1:B.StaysIn g1:=λb o z=>(k1.2.1 b λm=>by rw[(hl.mem m).1]at z;cases z).trans (hB b o z)
 have fr:g1.objs.size≠e:=Nat.ne_of_gt (Heap.lt_size e1)
 have d3:=Obj.data_mapFields hd (·.setIfInBounds 1 (Value.ref g1.objs.size))
 refine wpAny_bind (wpAny_newObj_type (wpAny_setField (Heap.get?_push_of_some _ e1) hd hz (q _ (λb o z=>?_) (hl.of_keeps λb o hb nn=>?_) ?_ λb o hb nn=>?_)) (hpl.sizeOk5 _ _ _ _ _))
 ·have ne:e≠b:=λr=>by rw[<-r,hn]at z;cases z
  rw[Heap.get?_update_other _ _ ne]
  exact Heap.get?_push_of_some _ (B1 b o z)
 ·obtain⟨sl,z⟩:=k1.2.2 b o hb
  have ne:e≠b:=λr=>by rw[<-r,he]at hb;cases hb;exact nn vs hd
  exact⟨{ o with slots:=sl },by rw[Heap.get?_update_other _ _ ne];exact Heap.get?_push_of_some _ z,rfl⟩
 ·refine⟨_,_,g1.objs.size,_,_,Heap.get?_update_self _ (Heap.get?_push_of_some _ e1) (Obj.isFreed_of_fields d3),Obj.cls_mapFields _ _,XT _ _,d3,?_,by simp[hz],B1.fresh,fr,(Heap.get?_update_other _ _ (Ne.symm fr)).trans (Heap.get?_push_size g1 rfl),rfl,?_⟩
  ·rw[Array.getElem?_setIfInBounds_ne (by decide)];exact h0
  ·first | (simp;done) | (rcases hpl with rfl | ⟨_,_,_,_,_,_,_,rfl⟩ <;> simp)
 ·obtain⟨sl,z⟩:=k1.2.2 b o hb
  have ne:e≠b:=λr=>by rw[<-r,he]at hb;cases hb;exact nn vs hd
  exact⟨sl,by rw[Heap.get?_update_other _ _ ne];exact Heap.get?_push_of_some _ z⟩
theorem ZS (hfr:A.frames=some (env::outer)) (hl:s.heap.FunFrames B (env::outer)) (hf:env.frame=some L) (he:s.heap.get? e=some oe) (hB:B.StaysIn s.heap) (hn:B.get? e=none) (hd:oe.data = .fields vs) (h1:vs[1]? = some .none) (h0:vs[0]? = some a0)
  (q:∀h',B.StaysIn h'->h'.FunFrames B (env::outer)->TrX h' B e oe.cls a0 oe.dict (rawInt L)->s.heap.UpToSlots h'->Q () { s with heap:=h' }):wpAny M A (noteFrame (.ref e) env) Q E s:=by
 unfold noteFrame
 simp only[hf]
 refine wpAny_bind (wpAny_field he hd h1 ?_)
 rw[if_neg (by decide)]
 exact Xj hfr hl hf he hB hn hd (Array.getElem?_eq_some_iff.mp h1).1 h0 q
theorem jP (hfr:A.frames=some (env::outer)) (hl:s.heap.FunFrames B (env::outer)) (hf:env.frame=some L) (ht:TrX s.heap B e cls a0 dct .none) (hB:B.StaysIn s.heap) (hn:B.get? e=none)
  (q:∀h',B.StaysIn h'->h'.FunFrames B (env::outer)->TrX h' B e cls a0 dct (rawInt L)->s.heap.UpToSlots h'->Q () { s with heap:=h' }):wpAny M A (noteFrame (.ref e) env) Q E s:=by
 obtain⟨oe,vs,T,oT,ts,he,rfl,rfl,hd,h0,h1,nT,Te,hT,dT,h3⟩:=ht
 unfold noteFrame
 simp only[hf]
 refine wpAny_bind (wpAny_field he hd h1 ?_)
 rw[if_pos (show (Value.ref T != Value.none)=true from by simp)]
 refine wpAny_bind (wpAny_field hT dT h3 ?_)
 rw[if_neg (show ¬((Value.none == rawInt L)=true)from by simp[rawInt])]
 have oth:∀b,b≠T->(s.heap.update T (Obj.mapFields (·.setIfInBounds 3 Value.none))).get? b=s.heap.get? b:=λb hb=>Heap.get?_update_other _ _ (Ne.symm hb)
 have nr:∀b o,s.heap.get? b=some o->(∀vs,o.data≠.fields vs)->b≠T:=λb o hb nn r=>by rw[r,hT]at hb;cases hb;exact nn ts dT
 refine wpAny_bind (wpAny_setField hT dT (Array.getElem?_eq_some_iff.mp h3).1 (Xj hfr (hl.of_keeps λb o hb nn=>⟨o,(oth b (nr b o hb nn)).trans hb,rfl⟩) hf ((oth e (Ne.symm Te)).trans he) (λb o z=>(oth b λr=>by rw[r,nT]at z;cases z).trans (hB b o z)) hn hd (Array.getElem?_eq_some_iff.mp h1).1 h0 λh' x1 x2 x3 x4=>q h' x1 x2 x3 λb o hb nn=>x4 b o ((oth b (nr b o hb nn)).trans hb) nn))
theorem Qn (hB:B.StaysIn s.heap) (hl:s.heap.FunFrames B l) (ht:TrX s.heap B e cls a0 dct fl)
  (q:∀h',B.StaysIn h'->h'.FunFrames B l->TrX h' B e cls a0 dct .none->s.heap.UpToSlots h'->Q () { s with heap:=h' }):wpAny M A (setFlight (.ref e) none) Q E s:=by
 obtain⟨oe,vs,T,oT,ts,he,hc,hdc,hd,h0,h1,nT,Te,hT,dT,h3⟩:=ht
 have z3:3<ts.size:=(Array.getElem?_eq_some_iff.mp h3).1
 have oth:∀b,b≠T->(s.heap.update T (Obj.mapFields (·.setIfInBounds 3 ((none:Option Addr).elim Value.none λf=>rawInt f)))).get? b=s.heap.get? b:=λb hb=>Heap.get?_update_other _ _ (Ne.symm hb)
 have nr:∀b o,s.heap.get? b=some o->(∀vs,o.data≠.fields vs)->b≠T:=λb o hb nn r=>by rw[r,hT]at hb;cases hb;exact nn ts dT
 unfold setFlight
 refine wpAny_bind (wpAny_field he hd h1 ?_)
 rw[if_pos (show (Value.ref T != Value.none)=true from by simp)]
 exact wpAny_setField hT dT z3 (q _ (λb o z=>(oth b λr=>by rw[r,nT]at z;cases z).trans (hB b o z)) (hl.of_keeps λb o hb nn=>⟨o,(oth b (nr b o hb nn)).trans hb,rfl⟩)
  ⟨oe,vs,T,_,_,(oth e (Ne.symm Te)).trans he,hc,hdc,hd,h0,h1,nT,Te,Heap.get?_update_self _ hT (Obj.isFreed_of_fields (Obj.data_mapFields dT _)),Obj.data_mapFields dT _,by simp[z3]⟩ λb o hb nn=>⟨o.slots,(oth b (nr b o hb nn)).trans hb⟩)
end
def FlX (B:Heap) (l:List Env) (e:Addr) (cls a0:Value) (dct:Option Addr) (h:Heap):Prop:=B.StaysIn h/\B.get? e=none/\h.FunFrames B l/\TrX h B e cls a0 dct .none
def HeX (B:Heap) (l:List Env) (e:Addr) (cls a0:Value) (dct:Option Addr) (h:Heap):Prop:=B.StaysIn h/\B.get? e=none/\h.FunFrames B l/\∃fl,TrX h B e cls a0 dct fl
section
variable {M:Model}{A:Around}{E:Value->Shared->Prop}{s:Shared}{B h:Heap}{env:Env}{outer l:List Env}{L e:Addr}{a0 cls:Value}{dct:Option Addr}{Q:Unit->Shared->Prop}
theorem FlX.held (x:FlX B l e cls a0 dct h):HeX B l e cls a0 dct h:=⟨x.1,x.2.1,x.2.2.1,_,x.2.2.2⟩
theorem FlX.there (x:FlX B l e cls a0 dct h):∃ob,h.get? e=some ob/\ob.cls=cls:=by
 obtain⟨_,_,_,oe,_,_,_,_,he,hc,_⟩:=x
 exact⟨oe,he,hc⟩
theorem FlX.first (x:FlX B l e cls a0 dct h):∃oe vs,h.get? e=some oe/\oe.cls=cls/\oe.dict=dct/\oe.data = .fields vs:=by
 obtain⟨_,_,_,oe,vs,_,_,_,he,hc,hdc,hd,_⟩:=x
 exact⟨oe,vs,he,hc,hdc,hd⟩
theorem Xo (hfr:A.frames=some (env::outer)) (hf:env.frame=some L) (x:FlX B (env::outer) e cls a0 dct s.heap) (q:∀h',HeX B (env::outer) e cls a0 dct h'->s.heap.UpToSlots h'->Q () { s with heap:=h' }):wpAny M A (noteFrame (.ref e) env) Q E s :=
 jP hfr x.2.2.1 hf x.2.2.2 x.1 x.2.1 λh' x1 x2 x3 x4=>q h' ⟨x1,x.2.1,x2,_,x3⟩ x4
theorem vx (x:HeX B l e cls a0 dct s.heap) (q:∀h',FlX B l e cls a0 dct h'->s.heap.UpToSlots h'->Q () { s with heap:=h' }):wpAny M A (setFlight (.ref e) none) Q E s:=by
 obtain⟨x1,x2,x3,fl,x4⟩:=x
 exact Qn x1 x3 x4 λh' y1 y2 y3 y4=>q h' ⟨y1,x2,y2,y3⟩ y4
theorem QB (hfr:A.frames=some (env::outer)) (hf:env.frame=some L) (x:FlX B (env::outer) e cls a0 dct s.heap) (q:∀h',FlX B outer e cls a0 dct h'->s.heap.UpToSlots h'->Q () { s with heap:=h' }):wpAny M A (leaving env (.ref e)) Q E s:=by
 unfold leaving
 refine wpAny_bind (Xo hfr hf x λh' y up=>vx (s:={ s with heap:=h' }) y λh2 z up2=>?_)
 obtain⟨z1,z2,⟨_,_,z3⟩,z4⟩:=z
 exact q h2 ⟨z1,z2,z3,z4⟩ (up.trans up2)
theorem ZQ {args:List Value}(hfr:A.frames=some (env::outer)) (hf:env.frame=some L) (hB:B.StaysIn h) (hl:h.FunFrames B (env::outer)) (hx:Heap.MadeExcOf h s.heap e cls args)
  (q:∀h' t,FlX B outer e cls (.ref t) none h'->s.heap.UpToSlots h'->Q () { s with heap:=h' }):wpAny M A (leaving env (.ref e)) Q E s:=by
 obtain⟨t,he,_,_⟩:=hx.there
 have hn:B.get? e=none:=by
  cases z:B.get? e with
  | none=>rfl
  | some o=>have:=hB e o z;rw[hx.new]at this;cases this
 unfold leaving
 refine wpAny_bind (ZS (a0:=.ref t) hfr (hl.of_keeps λb o hb _=>⟨o,hx.keeps b o hb,rfl⟩) hf he (λb o z=>hx.keeps b o (hB b o z)) hn rfl rfl rfl λh' x1 x2 x3 x4=>?_)
 refine vx (s:={ s with heap:=h' }) ⟨x1,hn,x2,_,x3⟩ λh2 z up2=>?_
 obtain⟨z1,z2,⟨_,_,z3⟩,z4⟩:=z
 exact q h2 t ⟨z1,z2,z3,z4⟩ (x4.trans up2)
end
end L2
set_option Elab.async false
set_option linter.all false
set_option maxRecDepth 100000
namespace L2
open PySem PySem.Spec PyProof.Rows
structure Fly (P:Program) (w:World) (l:List Env) (H:Hp) (s:Shared) (C:Addr) (H':Hp) (a:Addr) (s':Shared) (B:Heap) (a0:Value) (dct:Option Addr):Prop where
 os:s'.os=s.os
 bare:AllBare s'.gens
 un:Un (frs l) [] H H' s.heap s'.heap
 hok:HOk P w H' s'.heap
 fly:FlX B l a (.ref C) a0 dct s'.heap
 kb:∀b o,s.heap.get? b=some o->b∉frs l->(∃o',B.get? b=some o')/\(H b=none->B.get? b=some o)
 kt:∀b u,H' b=some u->∃o,B.get? b=some o
abbrev CX1 (P:Program) (w:World):CXT:=λouter H s E e s'=>∃a C H' B a0 dct,e = .ref a/\Fly P w outer H s C H' a s' B a0 dct/\E (.ref C) dct H'
section
variable {P:Program}{w:World}{H H':Hp}{h h' B:Heap}{a:Addr}{o:HO}
theorem xy.obj (x:xy P w H h a o):∃u,h.get? a=some u:=by
 cases o with
 | lst xs=>obtain⟨_,_,_,_,e⟩:=x;exact⟨_,e⟩
 | tup xs=>obtain⟨_,_,_,ob,e,_⟩:=x;exact⟨_,e⟩
 | dK kvs=>obtain⟨_,_,_,_,o,_,_,e,_⟩:=x;exact⟨_,e⟩
 | dT kvs=>obtain⟨_,_,_,_,o,_,_,e,_⟩:=x;exact⟨_,e⟩
 | set S n=>obtain⟨o,_,_,_,e,_⟩:=x;exact⟨_,e⟩
 | ins C dx fs=>obtain⟨_,_,_,e,_⟩:=x;exact⟨_,e⟩
 | own y=>obtain⟨_,e⟩:=x;exact⟨_,e⟩
 | xd fs=>obtain⟨_,⟨_,_,_,e,_⟩,_⟩:=x;exact⟨_,e⟩
 | rng lo hi=>obtain⟨_,_,_,e⟩:=x;exact⟨_,e⟩
 | frz ob u=>obtain⟨e,_⟩:=x;exact⟨_,e⟩
 | tbl ps=>exact⟨_,(show h.get? a=some _ from x)⟩
 | met f y=>exact⟨_,(show h.get? a=some _ from x)⟩
 | ext φ=>obtain⟨_,⟨_,e⟩,_⟩:=x;exact⟨_,e⟩
theorem j1 (x:HOk P w H h) (k1:B.StaysIn h) (k2:B.StaysIn h') (kt:∀b u,H b=some u->∃o,B.get? b=some o):HOk P w H h':=λa o e =>
 (x a o e).stay (λb u hb q=>by
  have ht:∃v,H b=some v:=by
   rcases hb with rfl | hb
   ·exact⟨_,e⟩
   ·exact⟨_,hb⟩
  obtain⟨v,hv⟩:=ht
  obtain⟨ob,hob⟩:=kt b v hv
  rw[k1 b ob hob]at q;cases q;exact k2 b _ hob) (λ_ q=>q) λ_ _ q=>q
end
section
variable {P:Program}{w:World}{l:List Env}{H H':Hp}{s s':Shared}{C a:Addr}{B h':Heap}{a0:Value}{dct:Option Addr}
theorem Fly.move (F:Fly P w l H s C H' a s' B a0 dct) (fl:FlX B l a (.ref C) a0 dct h') (up:s'.heap.UpToSlots h'):Fly P w l H s C H' a { s' with heap:=h' } B a0 dct where
 os:=F.os
 bare:=F.bare
 un:={
  keep:=λb o q n hb _=>fl.1 b o ((F.kb b o q hb).2 n)
  slot:=λb o q n hb hx=>by
   obtain⟨sl,e⟩:=F.un.slot b o q n hb hx
   obtain⟨_,o',ho',hd⟩:=F.fly.2.2.1.mem hb
   have z:some o'=some { o with slots:=sl }:=ho'.symm.trans e
   cases z
   obtain⟨sl',e'⟩:=up b _ e hd
   exact⟨sl',e'⟩
  free:=F.un.free
  there:=λb o q _=>by
   by_cases hb:b∈frs l
   ·obtain⟨_,o',ho',_⟩:=fl.2.2.1.mem hb
    exact⟨o',ho'⟩
   ·obtain⟨o',ho'⟩:=(F.kb b o q hb).1
    exact⟨o',fl.1 b o' ho'⟩
  tups:=F.un.tups
  frzs:=F.un.frzs
  tbls:=F.un.tbls }
 hok:=j1 F.hok F.fly.1 fl.1 F.kt
 fly:=fl
 kb:=F.kb
 kt:=F.kt
theorem Fly.untracked (F:Fly P w l H s C H' a s' B a0 dct):H' a=none:=by
 cases q:H' a with
 | none=>rfl
 | some u =>
  obtain⟨o,e⟩:=F.kt a u q
  rw[F.fly.2.1]at e;cases e
end
section
variable {X:Cx}{pins:List (Addr×Obj)}{σ:St}{H H':Hp}{s:Shared}
theorem Inv.notfr (I:Inv X pins σ H s){b:Addr}{o:Obj}(e:X.s₀.heap.get? b=some o) (hb:b∉X.fs):b∉frs X.stack:=λz=>by
 rcases List.mem_cons.mp (I.stkSub b z)with r | r
 ·exact absurd (Nat.lt_of_lt_of_le (Heap.lt_size e) I.ok.above) (by rw[r];exact Nat.lt_irrefl _)
 ·exact hb r
theorem Qo {g:Array GenState}{d:Drawn}{t:Nat}{C a:Addr}{B h1 h':Heap}{a0:Value}{dct:Option Addr}(I:Inv X pins σ H s) (hex:X.ex=[]) (hfr:∀b∈X.fs,b∈frs X.stack) (u:Un (frs X.stack) [] H H' s.heap h1)
  (kb:∀b o,s.heap.get? b=some o->b∉frs X.stack->(∃o',B.get? b=some o')/\(H b=none->B.get? b=some o)) (kt:∀b u,H' b=some u->∃o,B.get? b=some o)
  (hok:HOk X.prog X.w H' h1) (k1:B.StaysIn h1) (hfun:h1.FunFrames B X.stack) (up:h1.UpToSlots h') (fl:FlX B X.outer a (.ref C) a0 dct h') (hg:AllBare g) :
  Fly X.prog X.w X.outer X.H₀ X.s₀ C H' a { s with heap:=h',gens:=g,drawn:=d,toks:=t } B a0 dct where
 os:=I.os
 bare:=hg
 un:={
  keep:=λb o q n hb hx=>by
   have hx':b∉X.ex:=by rw[hex];exact hx
   exact fl.1 b o ((kb b o (I.base.keep b o q n hb hx') (I.notfr q hb)).2 (I.base.free b o q n hx'))
  slot:=λb o q n hb hx=>by
   have hx':b∉X.ex:=by rw[hex];exact hx
   obtain⟨sl,e⟩:=I.base.slot b o q n hb hx'
   obtain⟨sl1,e1⟩:=u.slot b _ e (I.base.free b o q n hx') (hfr b hb) hx
   obtain⟨_,o',ho',hd⟩:=hfun.mem (hfr b hb)
   have z:=ho'.symm.trans e1
   cases z
   obtain⟨sl2,e2⟩:=up b _ e1 hd
   exact⟨sl2,e2⟩
  free:=λb o q n hx=>by
   have hx':b∉X.ex:=by rw[hex];exact hx
   obtain⟨o',e⟩:=I.base.there b o q hx'
   exact u.free b o' e (I.base.free b o q n hx') hx
  there:=λb o q hx=>by
   have hx':b∉X.ex:=by rw[hex];exact hx
   by_cases hb:b∈X.fs
   ·obtain⟨_,o',ho',_⟩:=fl.2.2.1.mem hb
    exact⟨o',ho'⟩
   ·obtain⟨o',e⟩:=I.base.there b o q hx'
    obtain⟨o2,e2⟩:=(kb b o' e (I.notfr q hb)).1
    exact⟨o2,fl.1 b o2 e2⟩
  tups:=λb xs q=>u.tups b xs (I.base.tups b xs q)
  frzs:=λb o xs q=>u.frzs b o xs (I.base.frzs b o xs q)
  tbls:=λb ps q=>by
   obtain⟨m1,e1⟩:=I.base.tbls b ps q
   obtain⟨m2,e2⟩:=u.tbls b _ e1
   exact⟨m1++m2,by rw[e2,Array.append_assoc]⟩ }
 hok:=j1 hok k1 fl.1 kt
 fly:=fl
 kb:=λb o q hb=>by
  have hx':b∉X.ex:=by rw[hex];exact List.not_mem_nil
  obtain⟨o',e⟩:=I.base.there b o q hx'
  have z:=kb b o' e (I.notfr q hb)
  exact⟨z.1,λn=>(kb b o (I.base.keep b o q n hb hx') (I.notfr q hb)).2 (I.base.free b o q n hx')⟩
 kt:=kt
end
abbrev XJ:=Addr->Option Addr->St->Hp->Prop
def jE (X:Cx) (J:XJ):Prop:=∀(pins:List (Addr×Obj)) (σ:St) (H:Hp) (s:Shared) (a C:Addr) (H':Hp) (s':Shared) (B:Heap) (a0:Value) (dct:Option Addr),
 Inv X pins σ H s->Fly X.prog X.w X.stack H s C H' a s' B a0 dct->J C dct σ H'->X.xe (.ref a) s'
def Zj (X:Cx) (J:XJ):Prop:=∀(pins:List (Addr×Obj)) (σ:St) (H:Hp) (s:Shared) (h':Heap) (a C:Addr) (us:List Value),
 Inv X pins σ H s->Heap.MadeExcOf s.heap h' a (.ref C) us->J C none σ H->X.xe (.ref a) { s with heap:=h' }
def EJ (E:XK):XJ:=λC d _ H'=>E (.ref C) d H'
section
variable {P:Program}{w:World}{K:PySem.W.Frag}{mg:Str->Option Value}{base:Heap}{N:List Str}{qual:Str}{scope:Scope}{f:Addr}{cd:Value}{A:Around}{outer:List Env}{s:Shared}{H:Hp}{E:XK}
theorem zC:jE (xI (CX1 P w) P w K mg base N qual scope f cd A outer s H E) (EJ E):=by
 intro pins σ H1 s1 a C H' s' B a0 dct I F q
 obtain⟨hh,g,d,t,os'⟩:=s'
 have e:os'=s1.os:=F.os
 subst e
 refine QB (L:=s.heap.objs.size) I.ok.frames rfl F.fly λh' fl up=>?_
 refine⟨a,C,H',B,a0,dct,rfl,?_,q⟩
 have z:=Qo (g:=g) (d:=d) (t:=t) I rfl (λb hb=>List.mem_cons_of_mem _ hb) F.un F.kb F.kt F.hok F.fly.1 F.fly.2.2.1 up fl F.bare
 exact z
theorem zQ:Zj (xI (CX1 P w) P w K mg base N qual scope f cd A outer s H E) (EJ E):=by
 intro pins σ H1 s1 h1 a C us I hx q
 have hin:∀b o,s1.heap.get? b=some o->b∉frs (xI (CX1 P w) P w K mg base N qual scope f cd A outer s H E).stack →
   (PySem.W.hideAll s1.heap (frs (xI (CX1 P w) P w K mg base N qual scope f cd A outer s H E).stack)).get? b=some o:=λb o e n=>PySem.W.hideAll_get _ e n
 have hst:(PySem.W.hideAll s1.heap (frs (xI (CX1 P w) P w K mg base N qual scope f cd A outer s H E).stack)).StaysIn s1.heap:=λb o q=>PySem.W.of_hideAll _ q
 have hff:s1.heap.FunFrames (PySem.W.hideAll s1.heap (frs (xI (CX1 P w) P w K mg base N qual scope f cd A outer s H E).stack)) (xI (CX1 P w) P w K mg base N qual scope f cd A outer s H E).stack :=
  PySem.W.funFrames_hide I.stack λenv he b hb=>List.mem_filterMap.mpr ⟨env,he,hb⟩
 refine ZQ (L:=s.heap.objs.size) (h:=s1.heap) (s:={ s1 with heap:=h1 }) I.ok.frames rfl hst hff hx λh' t fl up=>?_
 have z:=Qo (g:=s1.gens) (d:=s1.drawn) (t:=s1.toks) (h1:=h1) I rfl (λb hb=>List.mem_cons_of_mem _ hb) (Un.kept hx.keeps) (λb o e n=>⟨⟨o,hin b o e n⟩,λ_=>hin b o e n⟩)
  (λb u e=>by
   obtain⟨o,ho⟩:=(I.hok b u e).obj
   exact⟨o,hin b o ho λz=>by rw[I.stkFree b z]at e;cases e⟩) (I.hok.kept hx.keeps) (λb o e=>hx.keeps b o (hst b o e)) (hff.of_keeps λb o e _=>⟨o,hx.keeps b o e,rfl⟩) up fl I.bare
 exact⟨a,C,H1,_,_,_,rfl,z,q⟩
end
def Xa (sp:Sp) (dvs:List V) (J:XJ) (t:TA):TE:=λσ H Q=>t σ H λvs H1=>sp (vs++dvs) H1 Q λc d H'=>∃C,c = .ref C/\J C d σ H'
structure xj (P:Program) (w:World) (K:PySem.W.Frag) (mg:Str->Option Value) (base:Heap) (x:Str) (k:Nat) (ps:List Str) (dvs:List V) (sp:Sp):Prop where
 ex:∃f fd ds,vh P w K mg base (CX1 P w) k f fd ps sp/\mg x=some (.ref f)/\PySem.W.keepIn K (.ref f)=true/\vW K fd ps ds/\zM dvs ds
section
variable {X:Cx}{k:Nat}{f:Addr}{fd:FuncData}{ps:List Str}{sp:Sp}{dvs:List V}{ds:List Value}{J:XJ}{x:Str}{p pos:Pos}{e:Expr}{es:List Expr}{t:TA}
theorem Jb {pins:List (Addr×Obj)}{σ:St}{H:Hp}{s:Shared}{Q:VK}{us:List Value}{vs:List V}(F:vh X.prog X.w X.K X.mg X.base (CX1 X.prog X.w) k f fd ps sp) (hr:xh k X.A) (hb:vW X.K fd ps ds) (hd:zM dvs ds) (hx:jE X J)
  (I:Inv X pins σ H s) (r:zM vs us) (h:sp (vs++dvs) H Q λc d H'=>∃C,c = .ref C/\J C d σ H'):wpAny (model X.prog X.w) X.A (call (.ref f) us) (EP X pins σ Q) X.xe s:=by
 have r2:zM (vs++dvs) (us++ds):=r.append hd
 have hl:(us++ds).length=ps.length:=by rw[<-r2.length];exact F.len _ _ _ _ h
 refine wpAny_call (codeAny_mono (F.run X.A X.stack s H ⟨us,[]⟩ (us++ds) (vs++dvs) Q _ hr I.env0 (hb s us I.kIn hl) r2 h) λr s' hq=>?_)
 cases r with
 | error e =>
  obtain⟨a,C,H',B,a0,dct,rfl,F,C',hC,q⟩:=hq
  cases hC
  exact hx pins σ H s a C H' s' B a0 dct I F q
 | ok fl =>
  cases fl with
  | ret u=>exact I.after hq
  | next=>exact False.elim hq
  | brk=>exact False.elim hq
  | cont=>exact False.elim hq
theorem xg (c:xj X.prog X.w X.K X.mg X.base x k ps dvs sp) (hr:xh k X.A) (hx:jE X J) (ha:PA X (e::es) t) (hg:Gl X x:=by rfl) (hdb:(x == ("__debug__":Str))=false:=by decide)
  (he:starEach (e::es) X.env=(false,eval e X.env)::starEach es X.env:=by rfl) (hpl:(backTo pos (starEach es X.env)).any (·.1)=false:=by rfl) :
  PE X (.Call (.Name x p) (e::es) [] pos) (Xa sp dvs J t):=by
 obtain⟨f,fd,ds,F,hm,hk,hb,hd⟩:=c.ex
 intro pins s σ H Q I h
 refine wpAny_Call_Name_kw (vy I hg hm ?_ hdb)
 refine PySem.W.callWith_K (h₀:=X.base) I.ok.mod.kin hk (thn (ha pos pins s σ H _ I h) λus s1 ⟨vs,H1,I1,r,q⟩=>⟨I1.kIn,?_⟩) he hpl
 exact Jb F hr hb hd hx I1 r q
end
section
variable {P:Program}{w:World}{K:PySem.W.Frag}{mg:Str->Option Value}{base:Heap}
theorem Df.cal1 {x:Str}{st:Stmt}{N ps:List Str}{dvs:List V}{k:Nat}{sp:Sp}(D:Df K mg x st ps dvs) (S:zw N ps (zf st)) (len:∀vs H Q E,sp vs H Q E->vs.length=ps.length)
  (hbody:∀(f:Addr) (cdv:Value) (A:Around) (outer:List Env) (s:Shared) (H:Hp) (vs:List V) (Q:VK) (E:XK),xh k (A.deeper (envOfC x (zf st) s.heap.objs.size f cdv))->sp vs H Q E →
   ∃t,PSs (xI (CX1 P w) P w K mg base N x (zf st) f cdv A outer s H E) (zl st) t/\t { nx:=λ_ H'=>Q .non H',rt:=Q } (qO N vs) H):xj P w K mg base x (k+1) ps dvs sp:=by
 obtain⟨f,oc,od,dV,kV,doc,pm,an,cdv,ct,osl,ds,lk,hcd,hk,hm,hv,hb⟩:=D.ex
 exact⟨⟨f,_,ds,Qp lk hcd S len λA outer s H vs Q E hr hsp=>hbody f cdv A outer s H vs Q E hr hsp,hm,hk,hb,hv⟩⟩
end
end L2
set_option Elab.async false
set_option linter.all false
set_option maxRecDepth 100000
namespace L2
open PySem PySem.Spec PyProof.Rows
def zaG (C:Addr) (J:XJ) (t:TA):TS:=λ_ σ H=>t σ H λvs H1=>vs.length<=sizeLine/\J C none σ H1
section
variable {X:Cx}{J:XJ}{x:Str}{C:Addr}{bmB bmN:List Value}{newId Bn inN B nid initId:String}{np cpos pos:Pos}{e:Expr}{es:List Expr}{t:TA}
theorem xG (O:OwnCls x C bmB newId X.mg X.base) (Fn:ExcBaseFacts Bn newId inN bmN) (hBn:bmB.contains (.type Bn)=true) (FB:ExcBaseFacts B nid initId bmB) (hh:X.A.handled=none) (hJ:Zj X J) (ha:PA X (e::es) t)
  (hg:Gl X x:=by rfl) (hd:(x == ("__debug__":Str))=false:=by decide)
  (he:starEach (e::es) X.env=(false,eval e X.env)::starEach es X.env:=by rfl) (hpl:(backTo cpos (starEach (e::es) X.env)).any (·.1)=false:=by rfl) :
  PS X (.Raise (some (.Call (.Name x np) (e::es) [] cpos)) none pos) (zaG C J t):=by
 intro pins s σ H D I h
 obtain⟨tl,N,nm,q,bs,hdct,sn,sub,ab,col,dd,k0,k1,k2,k3,k5,mN,hC,hN,hni,T⟩:=O.obj
 refine wpAny_Raise_call_subU (C:=C) (N:=N) (bm:=tl) (nm:=nm) (q:=q) (bs:=bs) (hdct:=hdct) (sn:=sn) (sub:=sub) (ab:=ab) (col:=col) (dd:=dd) (k0:=k0) (k1:=k1) (k2:=k2) (k3:=k3) (k5:=k5) Fn hBn FB (mN:=mN) (T.hasType FB.hasBase) hh hpl hni (vy I hg O.bound ⟨rfl,?_⟩ hd)
 have hw:=ha cpos pins s σ H _ I h
 rw[he]at hw ⊢
 exact Calls.evalArgs_plain (wpAny_mono hw (λvs s2 ⟨ws,H1,I1,r,z,q⟩=>⟨rfl,by rw[<-r.length];exact z,I1.bk _ _ hC,hN.keeps I1.bk,T.keeps I1.bk,λh' e hm=>hJ pins σ H1 s2 h' e C vs I1 hm q⟩) λ_ _ y=>y)
end
abbrev Cx.tried (X:Cx) (pins:List (Addr×Obj)) (W:Value->Shared->Prop):Cx:={ X with pn:=X.pn++pins,xe:=W }
abbrev Cx.suite (X:Cx) (pins:List (Addr×Obj)) (a:Addr) (oe:Obj):Cx:={ X with A:=X.A.mark (some (.ref a)),calm:=false,pn:=X.pn++(pins++[(a,oe)]),xe:=λ_ _=>False }
abbrev Cx.testing (X:Cx) (a:Addr):Cx:={ X with A:=X.A.mark (some (.ref a)),calm:=false }
section
variable {X:Cx}{pins:List (Addr×Obj)}{σ:St}{H:Hp}{s:Shared}
theorem Inv.tried (I:Inv X pins σ H s) (W:Value->Shared->Prop):Inv (X.tried pins W) [] σ H s :=
 ⟨⟨I.ok.mod,I.ok.kind,I.ok.glob,I.ok.blt,I.ok.above,I.ok.inj,I.ok.has,I.ok.cab,I.ok.hd,I.ok.frames,I.ok.stk,I.ok.exf,I.ok.bs,I.ok.bsz,I.ok.noex,I.ok.exfs,I.ok.funs,I.ok.frf⟩,
  I.os,I.bare,I.base,I.loc,I.cell,I.free,I.freeC,λp hp=>I.pin p (by rw[List.append_nil]at hp;exact hp),I.hok,I.len⟩
theorem Inv.untried {pins':List (Addr×Obj)}{W:Value->Shared->Prop}(ok:X.Ok) (I:Inv (X.tried pins W) pins' σ H s):Inv X pins σ H s :=
 ⟨ok,I.os,I.bare,I.base,I.loc,I.cell,I.free,I.freeC,λp hp=>I.pin p (List.mem_append_left _ hp),I.hok,I.len⟩
theorem Inv.test (I:Inv X pins σ H s) (a:Addr):Inv (X.testing a) pins σ H s :=
 ⟨⟨I.ok.mod,I.ok.kind,I.ok.glob,I.ok.blt,I.ok.above,I.ok.inj,I.ok.has,I.ok.cab,(λh=>nomatch h),I.ok.frames,I.ok.stk,I.ok.exf,I.ok.bs,I.ok.bsz,I.ok.noex,I.ok.exfs,I.ok.funs,I.ok.frf⟩,
  I.os,I.bare,I.base,I.loc,I.cell,I.free,I.freeC,I.pin,I.hok,I.len⟩
theorem Inv.suite {a:Addr}{oe:Obj}{vs:Array Value}(I:Inv X pins σ H s) (e:s.heap.get? a=some oe) (hd:oe.data = .fields vs) (hn:H a=none):Inv (X.suite pins a oe) [] σ H s :=
 ⟨⟨I.ok.mod,I.ok.kind,I.ok.glob,I.ok.blt,I.ok.above,I.ok.inj,I.ok.has,I.ok.cab,(λh=>nomatch h),I.ok.frames,I.ok.stk,I.ok.exf,I.ok.bs,I.ok.bsz,I.ok.noex,I.ok.exfs,I.ok.funs,I.ok.frf⟩,
  I.os,I.bare,I.base,I.loc,I.cell,I.free,I.freeC,(λp hp=>by
   rw[List.append_nil]at hp
   have hp':p∈X.pn++pins\/p∈[(a,oe)]:=by
    rcases List.mem_append.mp hp with z | z
    ·exact .inl (List.mem_append_left _ z)
    ·rcases List.mem_append.mp z with z | z
     ·exact .inl (List.mem_append_right _ z)
     ·exact .inr z
   rcases hp' with z | z
   ·exact I.pin p z
   ·obtain rfl:p=(a,oe):=by simpa using z
    refine⟨e,hn,λq=>?_,λq=>?_,λv q=>?_⟩
    ·obtain⟨m,⟨o,es,ep,ho,hd',_⟩,_⟩:=I.loc
     rw[<-show a=X.env.locals from q,e]at ho
     cases ho
     rw[hd]at hd';cases hd'
    ·obtain⟨_,o,ho,hnf⟩:=I.funs.mem q
     rw[show s.heap.get? a=some oe from e]at ho
     cases ho
     exact hnf vs hd
    ·have q':oe.data = .cell v:=q
     rw[hd]at q';cases q'),I.hok,I.len⟩
theorem Inv.unsuite {a:Addr}{oe:Obj}(ok:X.Ok) (I:Inv (X.suite pins a oe) [] σ H s):Inv X pins σ H s :=
 ⟨ok,I.os,I.bare,I.base,I.loc,I.cell,I.free,I.freeC,λp hp=>I.pin p (by
  rw[List.append_nil]
  rcases List.mem_append.mp hp with z | z
  ·exact List.mem_append_left _ z
  ·exact List.mem_append_right _ (List.mem_append_left _ z)),I.hok,I.len⟩
end
end L2
set_option Elab.async false
set_option linter.all false
set_option maxRecDepth 100000
namespace L2
open PySem PySem.Spec PyProof.Rows PySem.W
end L2
set_option Elab.async false
set_option linter.all false
set_option maxRecDepth 100000
namespace L2
open PySem PySem.Spec PyProof.Rows
def vc (σ:St) (js:List Nat):St:=js.map λj=>(σ[j]?).getD none
inductive vO (X:Cx) (scope:Scope) (cl:List (Str×Addr)):List Str->List Nat->Prop
 | nil:vO X scope cl [] []
 | cons {x:Str}{j:Nat}{r:List Str}{js:List Nat}:X.N[j]? = some x->X.env.kindOf x=some .cell->(relabel scope X.env).names.lookup x=some .cell->(∃c,cl.lookup x=some c)->vO X scope cl r js->vO X scope cl (x::r) (j::js)
section
variable {X:Cx}{scope:Scope}{cl:List (Str×Addr)}
theorem vO.length:∀{r:List Str}{js:List Nat},vO X scope cl r js->r.length=js.length
 | _,_,.nil=>rfl
 | _,_,.cons _ _ _ _ t=>by rw[List.length_cons,List.length_cons,vO.length t]
theorem vO.get:∀{r:List Str}{js:List Nat}{k:Nat}{x:Str},vO X scope cl r js->r[k]? = some x->∃j,js[k]? = some j/\X.N[j]? = some x/\X.env.kindOf x=some .cell/\(relabel scope X.env).names.lookup x=some .cell/\∃c,cl.lookup x=some c
 | _,_,_,_,.nil,e=>by simp at e
 | _,_,0,_,.cons h1 h2 h3 h4 _,e=>by
  simp at e;subst e
  exact⟨_,rfl,h1,h2,h3,h4⟩
 | _,_,k+1,x,.cons _ _ _ _ t,e=>by
  obtain⟨j,r⟩:=vO.get (k:=k) t (by simpa using e)
  exact⟨j,by simpa using r⟩
theorem vO.has {r:List Str}{js:List Nat}(h:vO X scope cl r js){x:Str}(hx:x∈r):∃c,cl.lookup x=some c:=by
 obtain⟨k,hk⟩:=List.getElem?_of_mem hx
 obtain⟨_,_,_,_,_,z⟩:=h.get hk
 exact z
end
def xn (X:Cx) (NB FR:List Str) (scope:Scope) (cl:List (Str×Addr)) (s3:Shared) (H3:Hp) (fp:List Addr):Cx :=
 { X with N:=NB++FR,s₀:=s3,H₀:=H3,env:=compEnvC scope cl s3.heap.objs.size X.env,outer:=X.stack,stack:=X.stack,ex:=fp,fn:=λ_=>false,pn:=[],xe:=λ_ _=>False }
def Vk (n:Nat) (js:List Nat) (wi:TI) (g:TG) (tt:TT) (te:TE):TE:=λσ H Q=>wi σ H λJ H1=>∀D,H1 D=none->∃W:Nat->Nat->Hp->List V->Prop,(∃m,W 0 m (upd H1 D (.lst [])) []) ∧
 ∀i m H2 ys,W i m H2 ys->H2 D=some (.lst ys)->(J.stop i H2/\Q (.ref D) H2) ∨
  (J.go i H2/\∀zs x H3,zs.length=n->J.yld i H2 x H3->g x (zs++vc σ js) H3 λσ4 H4=>σ4.drop n=vc σ js/\tt σ4 H4 λb H5 =>
   if b=true then te σ4 H5 (λv H6=>H6 D=some (.lst ys)/\ys.length<sizeLine/\∃m',m'<m/\W (i+1) m' (upd H6 D (.lst (ys++[v]))) (ys++[v]))
   else H5 D=some (.lst ys)/\∃m',m'<m/\W (i+1) m' H5 ys)
theorem ZA {scope:Scope}{env:Env}{FR:List Str}{x:Str}(h:(relabel scope env).names.all (λy=>!(y.2 == .cell || y.2 == .free) || FR.contains y.1)=true)
  (e:(relabel scope env).names.lookup x=some .cell\/(relabel scope env).names.lookup x=some .free):x∈FR:=by
 have key:∀k:NameKind,(k == .cell || k == .free)=true->(x,k)∈(relabel scope env).names->x∈FR:=λk hk hm=>by
  have z:=List.all_eq_true.mp h _ hm
  simp only[hk,Bool.not_true,Bool.false_or,List.contains_iff_mem]at z
  exact z
 rcases e with e | e
 ·exact key .cell rfl (PySem.mem_of_lookup e)
 ·exact key .free rfl (PySem.mem_of_lookup e)
theorem XM {X:Cx}{elt tg iter:Expr}{ifs:List Expr}{scope:Scope}{cl:List (Str×Addr)}{pos:Pos}{NB FR:List Str}{js:List Nat}{wi:TI}{g:TG}{tt:TT}{te:TE}{Q:VK}{RR:Value->Addr->Result->Shared->Prop}
  {pins:List (Addr×Obj)}{s:Shared}{σ:St}{H:Hp}(hc:X.calm=true) (hcl:∀x c,cl.lookup x=some c->X.env.cells.lookup x=some c) (hcap:vO X scope cl FR js)
  (hnm:(relabel scope X.env).names.all (λy=>!(y.2 == .cell || y.2 == .free) || FR.contains y.1)=true) (hcell:∀x∈scope.names,x.2≠.cell) (hkind:scope.kind = .function)
  (hi:PI X tg iter wi) (hb:∀s3 H3 fp,PG (xn X NB FR scope cl s3 H3 fp) tg g/\PTs (xn X NB FR scope cl s3 H3 fp) ifs tt/\PE (xn X NB FR scope cl s3 H3 fp) elt te)
  (I:Inv X pins σ H s) (h:Vk NB.length js wi g tt te σ H Q)
  (hRR:∀D C H' s',Inv X pins σ H' s'->vP X pins H' C->(∃m,s'.heap.Ns C m)->Q (.ref D) H'->RR (.ref D) C (.ok .next) s') :
  wpAny (model X.prog X.w) X.A (eval iter X.env) (λv s1=>wpAny (model X.prog X.w) X.A (pyIter v) (λit s2=>wpAny (model X.prog X.w) X.A (newList []) (λacc s3 =>
   wpAny (model X.prog X.w) X.A (newFunctionEnv scope X.env.globals cl [] X.env.qual none .none (some X.env)) (λcenv s4 =>
    codeAny (model X.prog X.w) X.A (.compStart (.ListComp elt [⟨tg,iter,ifs,0⟩] scope pos) 0 it acc { cenv with scope:=relabel scope X.env }) (RR acc cenv.locals) s4) X.xe s3) X.xe s2) X.xe s1) X.xe s:=by
 refine thn (hi pins s σ H _ I h) λv s1 h1=>thn h1 λitv s2 h2=>?_
 obtain⟨it,fp,tn,J,H2,e,I2,T,st2,f2,q2⟩:=h2
 subst e
 have hf2:H2 s2.heap.objs.size=none:=I2.hok.fresh (Nat.le_refl _)
 obtain⟨W,⟨m0,w0⟩,turn⟩:=q2 _ hf2
 refine wpAny_newObj_type (hd:=by size_fits) ?_
 have I3:Inv X pins σ (upd H2 s2.heap.objs.size (.lst [])) { s2 with heap:=s2.heap.push { cls:=.type "list",dict:=none,data:=.seq ([]:List Value).toArray } } :=
  I2.laid (t':=s2.toks) (λb u e=>Heap.get?_push_of_some _ e) (Nat.le_refl _) ⟨by decide,[],0,.nil,Heap.get?_push_size _ rfl⟩
 generalize hD:s2.heap.objs.size=D at *
 generalize hs3:({ s2 with heap:=s2.heap.push { cls:=.type "list",dict:=none,data:=.seq ([]:List Value).toArray } }:Shared)=s3 at *
 generalize hH3:upd H2 D (.lst [])=H3 at *
 have h3D:H3 D=some (.lst []):=by rw[<-hH3];exact zi
 have fpD:∀b∈fp,b≠D:=λb hb=>by
  obtain⟨o,e,_⟩:=T.obj _ _ st2 b hb
  rw[<-hD];exact Nat.ne_of_lt (Heap.lt_size e)
 have k23:∀b u,s2.heap.get? b=some u->s3.heap.get? b=some u:=λb u e=>by rw[<-hs3];exact Heap.get?_push_of_some _ e
 have st3:tn 0 s3.heap:=T.keep _ _ _ st2 λb _ o e=>k23 b o e
 have f3:∀b∈fp,vP X pins H3 b:=λb hb=>⟨by rw[<-hH3,zX (fpD b hb)];exact(f2 b hb).1,(f2 b hb).2⟩
 refine wpAny_newFunctionEnv hcell (by intro y hy;simp at hy) (λh4 hns4 hsb4=>?_) hkind
 have k34:∀b u,s3.heap.get? b=some u->h4.get? b=some u:=λb u e=>hsb4.extBut b u (Nat.ne_of_lt (Heap.lt_size e)) (Heap.get?_push_of_some _ e)
 have okB:(xn X NB FR scope cl s3 H3 fp).Ok:=by
  refine⟨I3.ok.mod,hkind,I3.ok.glob,I3.ok.blt,Nat.le_refl _,λx y c e1 e2=>I3.ok.inj x y c (hcl _ _ e1) (hcl _ _ e2),λx e=>hcap.has (ZA hnm e),(λx c e=>nomatch e),I3.ok.hd,I3.ok.frames,.inl rfl,λb hb=>⟨?_,λx c e=>?_⟩,I3.bs,Nat.le_trans I3.ok.bsz I3.sz,λb o e hb=>?_,λb hb z=>?_,I3.stack,I3.stkFree⟩
  ·obtain⟨o,e,_⟩:=T.obj _ _ st3 b hb
   exact Nat.ne_of_lt (Heap.lt_size e)
  ·exact(f3 b hb).2.2.2.2.1 x c (hcl _ _ e)
  ·obtain⟨_,_,_,z,_⟩:=f3 b hb
   rcases z with z | z
   ·exact I3.ok.noex b o e z
   ·exact absurd (Nat.lt_of_lt_of_le (Heap.lt_size e) (Nat.le_trans I3.ok.bsz z)) (Nat.lt_irrefl _)
  ·obtain⟨_,z1,z2,_⟩:=f3 b hb
   rcases List.mem_cons.mp (I3.stkSub b z)with e | e
   ·exact z1 e
   ·exact z2 e
 have IB:Inv (xn X NB FR scope cl s3 H3 fp) [] (List.replicate NB.length none++vc σ js) H3 { s3 with heap:=h4,toks:=s3.toks+([]:List (Str×Value)).length }:=by
  refine⟨okB,rfl,I3.bare,Un.kept k34,⟨_,hns4,λi x v e1 e2 e3=>?_⟩,λx c e=>?_,I3.hok.fresh (Nat.le_refl _),λx c e=>I3.freeC x c (hcl _ _ e),λp hp=>?_,I3.hok.kept k34,?_⟩
  ·by_cases hi:i<NB.length
   ·rw[List.getElem?_append_left (by simpa using hi),List.getElem?_replicate,if_pos hi]at e2
    cases e2
   ·have e1':FR[i - NB.length]? = some x:=by
     have z:(NB++FR)[i]? = some x:=e1
     rw[List.getElem?_append_right (by omega)]at z;exact z
    rw[List.getElem?_append_right (by simp;omega),List.length_replicate]at e2
    obtain⟨j,hj,hN,hk,hb',c,hc'⟩:=hcap.get e1'
    have e2':σ[j]? = some (some v):=by
     unfold vc at e2
     rw[List.getElem?_map,hj]at e2
     simp only[Option.map_some,Option.some.injEq]at e2
     cases hσ:σ[j]? with
     | none=>rw[hσ]at e2;cases e2
     | some o=>rw[hσ]at e2;simp only[Option.getD_some]at e2;rw[e2]
    obtain⟨m,hn,hl⟩:=I3.loc
    obtain⟨u,ru,lu⟩:=hl j x v hN e2' (.inr (.inl hk))
    refine⟨u,ru,.inr ⟨.inl hb',c,hc',?_⟩⟩
    rcases lu with⟨z,_⟩ | ⟨_,c',z,q⟩
    ·rw[hk]at z;cases z
    ·rw[hcl _ _ hc']at z;cases z
     obtain⟨o,ho,hd⟩:=q
     exact⟨o,k34 _ _ ho,hd⟩
  ·obtain⟨v,o,ho,hd⟩:=I3.cell x c (hcl _ _ e)
   exact⟨v,o,k34 _ _ ho,hd⟩
  ·exact absurd (show p∈([]:List (Addr×Obj))from hp) (by simp)
  ·show _=(NB++FR).length
   rw[List.length_append,List.length_append,List.length_replicate,hcap.length]
   unfold vc;rw[List.length_map]
 have st4:tn 0 h4:=T.keep _ _ _ st3 λb _ o e=>k34 b o e
 have stat:∀{H':Hp},(∀b∈fp,H' b=none)->∀b∈fp,vP (xn X NB FR scope cl s3 H3 fp) [] H' b:=λhn b hb =>
  ⟨hn b hb,(okB.exf b hb).1,okB.exfs b hb,.inl hb,λx c e=>(f3 b hb).2.2.2.2.1 x c (hcl _ _ e),λp hp=>absurd (show p∈([]:List (Addr×Obj))from hp) (by simp)⟩
 obtain⟨hg,ht,he⟩:=hb s3 H3 fp
 have fin:∀{σ':St}{H':Hp}{s':Shared},Inv (xn X NB FR scope cl s3 H3 fp) [] σ' H' s'->Q (.ref D) H'->RR (.ref D) s3.heap.objs.size (.ok .next) s':=λ{σ' H' s'} J q=>by
  have hm:∃m,s'.heap.Ns s3.heap.objs.size m:=by
   obtain⟨m,hm,_⟩:=J.loc
   exact⟨m,hm⟩
  refine hRR D _ H' s' (I3.call' (ch:=fp) J.os J.base J.hok J.bare λb hb=>?_) (I3.fpOk (Nat.le_refl _) J.free) hm q
  obtain⟨_,z1,z2,z3,z4,z5⟩:=f3 b hb
  exact⟨z3,z1,z4,z5⟩
 have loop:∀s5:Shared,s5 = { s3 with heap:=h4,toks:=s3.toks+([]:List (Str×Value)).length } →
   codeAny (model X.prog X.w) X.A (.compLoop (.ListComp elt [⟨tg,iter,ifs,0⟩] scope pos) 0 (.ref it) (.ref D) (compEnvC scope cl s3.heap.objs.size X.env)) (RR (.ref D) s3.heap.objs.size) s5:=by
  rintro s5 rfl
  refine vw (λn s'=>∃i zs H' ys,zs.length=NB.length/\Inv (xn X NB FR scope cl s3 H3 fp) [] (zs++vc σ js) H' s'/\tn i s'.heap/\(∀b∈fp,H' b=none)/\H' D=some (.lst ys)/\W i n H' ys) ?_ m0
   ⟨0,_,H3,[],List.length_replicate,IB,st4,λb hb=>(f3 b hb).1,h3D,by rw[<-hH3]at *;exact w0⟩
  rintro n s6 ⟨i,zs,H6,ys,hzs,I6,st6,fr6,hD6,w6⟩
  rcases turn i n H6 ys w6 hD6 with⟨stop,qn⟩ | ⟨go,step⟩
  ·refine thn (T.done (xn X NB FR scope cl s3 H3 fp) rfl rfl rfl hc i [] s6 _ H6 _ I6 (stat fr6) st6 stop) λr s7 ⟨hr,I7⟩=>?_
   subst hr
   exact fin I7 qn
  ·refine thn (T.item (xn X NB FR scope cl s3 H3 fp) rfl rfl rfl hc i [] s6 _ H6 _ I6 (stat fr6) st6 go) λr s7 ⟨u,hr,h7⟩=>?_
   subst hr
   refine thn h7 λ_ s8 ⟨x,H8,I8,r8,y8,st8,fr8⟩=>?_
   have I8':=I8.pinned (stat fr8) (T.obj _ _ st8)
   have again:∀{σ9:St}{H9:Hp}{s9:Shared}{ws:List V}{m':Nat},σ9.drop NB.length=vc σ js->Inv (xn X NB FR scope cl s3 H3 fp) ([]++vn fp s8.heap) σ9 H9 s9->H9 D=some (.lst ws)->m'<n->W (i+1) m' H9 ws →
     ∃m,m<n/\∃i zs H' ys,zs.length=NB.length/\Inv (xn X NB FR scope cl s3 H3 fp) [] (zs++vc σ js) H' s9/\tn i s9.heap/\(∀b∈fp,H' b=none)/\H' D=some (.lst ys)/\W i m H' ys:=λ{σ9 H9 s9 ws m'} hdr I9 hz hm w9=>by
    have hl:σ9.length=(NB++FR).length:=I9.len
    rw[List.length_append]at hl
    refine⟨m',hm,i+1,σ9.take NB.length,H9,ws,by rw[List.length_take];omega,?_,T.keep _ _ _ st8 λb hb o e=>(I9.pin (b,o) (List.mem_append_right _ (List.mem_append_right _ (xz hb e)))).1,λb hb=>?_,hz,w9⟩
    ·rw[<-hdr,List.take_append_drop];exact I9.unpinned
    ·obtain⟨o,e,d⟩:=T.obj _ _ st8 b hb
     exact(I9.pin (b,o) (List.mem_append_right _ (List.mem_append_right _ (xz hb e)))).2.1
   refine thn (hg _ s8 _ H8 x u _ I8' r8 (step zs x H8 hzs y8)) λ_ s9 ⟨σ9,H9,I9,hdr,q9⟩=>?_
   refine thn (ht _ s9 σ9 H9 _ I9 q9) λok s10 ⟨H10,I10,q10⟩=>?_
   cases ok with
   | false =>
    rw[if_neg (by decide)]at q10 ⊢
    obtain⟨hz,m',hm,w'⟩:=q10
    exact again hdr I10 hz hm w'
   | true =>
    rw[if_pos rfl]at q10 ⊢
    refine thn (he _ s10 σ9 H10 _ I10 q10) λy s11 ⟨v,H11,I11,r11,hz,hlen,m',hm,w'⟩=>?_
    refine thn (qi _ s11 σ9 H11 (.ref D) [v] (.ref D) [y] (λ_ H12=>H12=upd H11 D (.lst (ys++[v]))) I11 rfl (.cons r11 .nil) ⟨D,ys,v,rfl,rfl,hz,hlen,rfl⟩) λ_ s12 ⟨_,H12,I12,_,e12⟩=>?_
    subst e12
    exact again hdr I12 zi hm w'
 exact codeAny_compStart_list (loop _ rfl) (T.self X.A 0 _ _ _ st4 (loop _ rfl))
section
variable {X:Cx}{elt tg iter:Expr}{ifs:List Expr}{scope:Scope}{cl:List (Str×Addr)}{pos spos py:Pos}{NB FR:List Str}{js:List Nat}{wi:TI}{g:TG}{tt:TT}{te:TE}
theorem QR (hc:X.calm=true) (hclos:closureFor scope X.env=pure cl) (hcl:∀x c,cl.lookup x=some c->X.env.cells.lookup x=some c) (hcap:vO X scope cl FR js)
  (hnm:(relabel scope X.env).names.all (λy=>!(y.2 == .cell || y.2 == .free) || FR.contains y.1)=true) (hcell:∀x∈scope.names,x.2≠.cell) (hkind:scope.kind = .function) (hnames:∀x∈scope.names,x.2 = .local → scope.names.lookup x.1=some .local)
  (hi:PI X tg iter wi) (hb:∀s3 H3 fp,PG (xn X NB FR scope cl s3 H3 fp) tg g/\PTs (xn X NB FR scope cl s3 H3 fp) ifs tt/\PE (xn X NB FR scope cl s3 H3 fp) elt te)
  (hs:∀x,foldedSetIterable iter X.env x=pure x:=by intro _;rfl) :
  PE X (.ListComp elt [⟨tg,iter,ifs,0⟩] scope pos) (Vk NB.length js wi g tt te):=by
 intro pins s σ H Q I h
 rw[eval_ListComp]
 refine wpAny_comprehension_free (use:=none) rfl hs hclos hkind hnames (XM (RR:=λacc C=>compPost (model X.prog X.w) X.A X.xe none (EP X pins σ Q) acc C) hc hcl hcap hnm hcell hkind hi hb I h ?_)
 intro D C H' s' I' ⟨f0,f1,f2,f3,f4,f5⟩ ⟨m,hm⟩ q
 exact⟨m,hm,λh' sb=>⟨.ref D,H',I'.turned (t':=s'.toks) (λb o hb e=>(sb.2 b hb).trans e) f0 f1 f3 f4 f5,rfl,q⟩⟩
end
end L2
set_option Elab.async false
set_option linter.all false
set_option maxRecDepth 100000
namespace L2
open PySem PySem.Spec PyProof.Rows
end L2
set_option Elab.async false
set_option linter.all false
set_option maxRecDepth 100000
namespace L2
open PySem PySem.Spec PyProof.Rows
section
variable {X:Cx}
theorem Xf:∀{bs:List Bool}{us:List Value}{i:Nat}{v:Value},zM (bs.map V.bl) us->us[i]? = some v->∃b,bs[i]? = some b/\v = .bool b
 | [],_,_,_,r,e=>by cases r;simp at e
 | b::bs,_,i,v,r,e=>by
  cases r with
  | cons h t =>
   cases i with
   | zero=>simp at e;subst e;exact⟨b,rfl,h⟩
   | succ i=>obtain⟨c,e1,e2⟩:=Xf (i:=i) t (by simpa using e);exact⟨c,by simpa using e1,e2⟩
theorem jF:∀(bs:List Bool) (k:Nat),((List.range' k bs.length).all λi=>(bs[i - k]?).getD true)=bs.all id
 | [],k=>rfl
 | b::bs,k=>by
  rw[List.length_cons,List.range'_succ,List.all_cons,List.all_cons]
  simp only[Nat.sub_self,List.getElem?_cons_zero,Option.getD_some,id]
  congr 1
  rw[<-jF bs (k+1)]
  apply Bool.eq_iff_iff.mpr
  simp only[List.all_eq_true,List.mem_range'_1]
  constructor
  ·intro h i hi
   have:=h i hi
   rw[show i - k=(i - (k+1))+1 by omega,List.getElem?_cons_succ]at this;exact this
  ·intro h i hi
   rw[show i - k=(i - (k+1))+1 by omega,List.getElem?_cons_succ];exact h i hi
theorem Zk (hc:X.calm=true):qA X (.builtin "all") (λxs H Q=>∃(p:Addr) (bs:List Bool),xs=[.ref p]/\SqL X.K H p (bs.map V.bl)/\Q (.bl (bs.all id)) H):=by
 intro pins s σ H xs us Q I r h
 obtain⟨p,bs,rfl,hq,q⟩:=h
 obtain⟨u,rfl,ru⟩:=qv r
 cases ru
 obtain⟨its,rv,pl,_⟩:=I.list hq
 have hlt:p<s.heap.objs.size:=by obtain⟨o,n,e,_⟩:=pl;exact Heap.lt_size e
 have hl:=rv.length
 rw[List.length_map]at hl
 refine call_all_walk (wpAny_pyIter_list pl.isList ⟨s.heap.objs.size,_,_,_,_,_,λi=>(bs[i]?).getD true,rfl,Walks.list (A:=X.A.in1) (show X.A.in1.handled=none from I.ok.hd hc) s.heap.objs.size p (Nat.ne_of_lt hlt) its.toArray,
  ⟨⟨_,Heap.get?_push_size _ rfl,rfl,rfl⟩,pl.isList.push _⟩,λi v s' Q' E' hv hQ'=>?_,λh' tk k=>⟨.bl (bs.all id),H,I.kept λb o e=>k b o (by simpa using Nat.ne_of_lt (Heap.lt_size e)) (Heap.get?_push_of_some _ e),?_,q⟩⟩)
 ·obtain⟨b,e1,rfl⟩:=Xf rv (by simpa using hv)
  simp only[e1,Option.getD_some]at hQ'
  exact wpAny_pure hQ'
 ·have:=jF bs 0
  simp only[Nat.sub_zero]at this
  rw[show its.toArray.size=bs.length by simp[hl],List.range_eq_range',this];rfl
end
end L2
set_option Elab.async false
set_option linter.all false
set_option maxRecDepth 100000
namespace HT
open PySem PyProof.Rows
end HT
namespace L2
open PySem PySem.Spec PyProof.Rows
end L2
set_option Elab.async false
set_option linter.all false
set_option maxRecDepth 100000
namespace L2
open PySem PySem.Spec PyProof.Rows
section
variable {J:It}{D:Addr}{N n:Nat}{js:List Nat}{σ:St}{g:TG}{tt:TT}{te:TE}{Q:VK}{H:Hp}
theorem VA (Pv:Nat->Hp->List V->Prop) (h0:Pv 0 (upd H D (.lst [])) []) (hgo:∀i H ys,i<N->Pv i H ys->J.go i H) (hst:∀H ys,Pv N H ys->J.stop N H)
  (hs:∀i x zs H2 H3 ys (Nx:Hp->List V->Prop),(∀H ys,Pv (i+1) H ys->Nx H ys)->i<N->zs.length=n->J.yld i H2 x H3->Pv i H2 ys->H2 D=some (.lst ys)->g x zs H3 λσ4 H4=>tt σ4 H4 λb H5 =>
   if b=true then te σ4 H5 (λv H6=>H6 D=some (.lst ys)/\ys.length<sizeLine/\Nx (upd H6 D (.lst (ys++[v]))) (ys++[v]))else H5 D=some (.lst ys)/\Nx H5 ys)
  (hd:∀H ys,Pv N H ys->H D=some (.lst ys)->Q (.ref D) H) :
  ∃W:Nat->Nat->Hp->List V->Prop,(∃m,W 0 m (upd H D (.lst [])) [])/\∀i m H2 ys,W i m H2 ys->H2 D=some (.lst ys)->(J.stop i H2/\Q (.ref D) H2) ∨
   (J.go i H2/\∀σB x H3,σB.length=n->J.yld i H2 x H3->g x σB H3 λσ4 H4=>tt σ4 H4 λb H5=>if b=true then te σ4 H5 (λv H6=>H6 D=some (.lst ys)/\ys.length<sizeLine/\∃m',m'<m/\W (i+1) m' (upd H6 D (.lst (ys++[v]))) (ys++[v]))
    else H5 D=some (.lst ys)/\∃m',m'<m/\W (i+1) m' H5 ys):=by
 refine⟨λi m H ys=>m=N - i/\i<=N/\Pv i H ys,⟨N,by simp,Nat.zero_le _,h0⟩,?_⟩
 rintro i m H2 ys ⟨rfl,hi,p⟩ hD
 by_cases hlt:i<N
 ·exact .inr ⟨hgo i H2 ys hlt p,λσB x H3 hB y=>hs i x σB H2 H3 ys (λH' ys'=>∃m',m'<N - i/\(m'=N - (i+1)/\i+1<=N/\Pv (i+1) H' ys')) (λH' ys' z=>⟨N - (i+1),by omega,rfl,hlt,z⟩) hlt hB y p hD⟩
 ·obtain rfl:i=N:=by omega
  exact .inl ⟨hst H2 ys p,hd H2 ys p hD⟩
theorem Qj (Pv:Nat->Hp->List V->Prop) (h0:Pv 0 (upd H D (.lst [])) []) (hgo:∀i H ys,i<N->Pv i H ys->J.go i H) (hst:∀H ys,Pv N H ys->J.stop N H)
  (hs:∀i x zs H2 H3 ys (Nx:Hp->List V->Prop),(∀H ys,Pv (i+1) H ys->Nx H ys)->i<N->zs.length=n->J.yld i H2 x H3->Pv i H2 ys->H2 D=some (.lst ys)->g x (zs++vc σ js) H3 λσ4 H4=>σ4.drop n=vc σ js/\tt σ4 H4 λb H5 =>
   if b=true then te σ4 H5 (λv H6=>H6 D=some (.lst ys)/\ys.length<sizeLine/\Nx (upd H6 D (.lst (ys++[v]))) (ys++[v]))else H5 D=some (.lst ys)/\Nx H5 ys)
  (hd:∀H ys,Pv N H ys->H D=some (.lst ys)->Q (.ref D) H) :
  ∃W:Nat->Nat->Hp->List V->Prop,(∃m,W 0 m (upd H D (.lst [])) [])/\∀i m H2 ys,W i m H2 ys->H2 D=some (.lst ys)->(J.stop i H2/\Q (.ref D) H2) ∨
   (J.go i H2/\∀zs x H3,zs.length=n->J.yld i H2 x H3->g x (zs++vc σ js) H3 λσ4 H4=>σ4.drop n=vc σ js/\tt σ4 H4 λb H5=>if b=true then te σ4 H5 (λv H6=>H6 D=some (.lst ys)/\ys.length<sizeLine/\∃m',m'<m/\W (i+1) m' (upd H6 D (.lst (ys++[v]))) (ys++[v]))
    else H5 D=some (.lst ys)/\∃m',m'<m/\W (i+1) m' H5 ys):=by
 refine⟨λi m H ys=>m=N - i/\i<=N/\Pv i H ys,⟨N,by simp,Nat.zero_le _,h0⟩,?_⟩
 rintro i m H2 ys ⟨rfl,hi,p⟩ hD
 by_cases hlt:i<N
 ·exact .inr ⟨hgo i H2 ys hlt p,λσB x H3 hB y=>hs i x σB H2 H3 ys (λH' ys'=>∃m',m'<N - i/\(m'=N - (i+1)/\i+1<=N/\Pv (i+1) H' ys')) (λH' ys' z=>⟨N - (i+1),by omega,rfl,hlt,z⟩) hlt hB y p hD⟩
 ·obtain rfl:i=N:=by omega
  exact .inl ⟨hst H2 ys p,hd H2 ys p hD⟩
end
end L2
set_option Elab.async false
set_option linter.all false
set_option maxRecDepth 100000
namespace L2
open PySem PySem.Spec PyProof.Rows
end L2
set_option Elab.async false
set_option linter.all false
set_option maxRecDepth 100000
namespace L2
open PySem PySem.Spec PyProof.Rows
end L2
set_option Elab.async false
set_option linter.all false
set_option maxRecDepth 100000
namespace L2
open PySem PySem.Spec PyProof.Rows
theorem szl {n:Nat}(h:n<=1000):n<=sizeLine:=Nat.le_of_lt (va h)
theorem vp {te:TE}{i:Nat}{u:TS}{D:vg}{σ:St}{H:Hp}(h:te σ H λv H1=>u D (σ.set i (some v)) H1):jD (Qc te (zL i)) u D σ H:=h
theorem Z9 {wi:TI}{g:TG}{tb:TS}{u:TS}{D:vg}{σ:St}{H:Hp}(h:Jj wi g tb { D with nx:=u D } σ H):jD (Jj wi g tb) u D σ H:=h
theorem ZG {c:TT}{tb:TS}{u:TS}{D:vg}{σ:St}{H:Hp}(h:Zh c tb { D with nx:=u D } σ H):jD (Zh c tb) u D σ H:=h
end L2
set_option Elab.async false
set_option linter.all false
set_option maxRecDepth 100000
namespace L2
open PySem PySem.Spec PyProof.Rows
inductive Bx (p:Prop):Prop
 | mk (h:p):Bx p
section
variable {X:Cx}
theorem ZL:Bx (PA X [] Zg):=⟨zd⟩
theorem zI {e:Expr}{es:List Expr}{te:TE}{t:TA}(ha:Bx (PE X e te)) (hr:Bx (PA X es t)) (hs:starEach (e::es) X.env=(false,eval e X.env)::starEach es X.env:=by rfl):Bx (PA X (e::es) (qU te t)):=by
 obtain⟨ha⟩:=ha;obtain⟨hr⟩:=hr;exact⟨zc ha hr hs⟩
theorem ZK {es:List Expr}{t:TA}{pos:Pos}(h:Bx (PA X es t)):Bx (PE X (.List es pos) (Jk t)):=by
 obtain⟨h⟩:=h;exact⟨xE h⟩
theorem ZM {i:Nat}{x:Str}{e:Expr}{te:TE}{pos pos':Pos}(hN:X.N.Nodup) (hi:X.N[i]? = some x) (hx:Loc X.env.scope x) (he:Bx (PE X e te)) (hs:swapsWith e (some (.Name x pos')) pos.line X.env=pure false:=by rfl)
  (hf:X.fn x=true\/X.env.scope.names.lookup x=some .local := by first | exact .inl rfl | exact .inr rfl | assumption):Bx (PS X (.Assign [.Name x pos'] e pos) (Qc te (zL i))):=by
 obtain⟨he⟩:=he;exact⟨zx hN hi hx he hs hf⟩
theorem qB {st:Stmt}{rest:List Stmt}{t u:TS}(h1:Bx (PS X st t)) (h2:Bx (PSs X rest u)):Bx (PSs X (st::rest) (jD t u)):=by
 obtain⟨h1⟩:=h1;obtain⟨h2⟩:=h2;exact⟨zg h1 h2⟩
end
section
variable {P:Program}{w:World}{K:PySem.W.Frag}{mg:Str->Option Value}{base:Heap}
theorem Df.calB {x:Str}{st:Stmt}{N ps:List Str}{dvs:List V}{k:Nat}{sp:Sp}(D:Df K mg x st ps dvs) (S:zw N ps (zf st)) (len:∀vs H Q E,sp vs H Q E->vs.length=ps.length)
  (hbody:∀(f:Addr) (cdv:Value) (A:Around) (outer:List Env) (s:Shared) (H:Hp) (vs:List V) (Q:VK) (E:XK),xh k (A.deeper (envOfC x (zf st) s.heap.objs.size f cdv))->sp vs H Q E →
   ∃t,Bx (PSs (xI CX0 P w K mg base N x (zf st) f cdv A outer s H E).nox (zl st) t)/\t { nx:=λ_ H'=>Q .non H',rt:=Q } (qO N vs) H):Cal P w K mg base x (k+1) ps dvs sp :=
 D.cal S len λf cdv A outer s H vs Q E hr h=>by
  obtain⟨t,⟨p⟩,q⟩:=hbody f cdv A outer s H vs Q E hr h
  exact⟨t,p,q⟩
end
end L2
set_option Elab.async false
set_option linter.all false
set_option maxRecDepth 100000
namespace L2
open PySem PySem.Spec PyProof.Rows
abbrev zaJ:List Value:=[.type "ValueError",.type "Exception",.type "BaseException",.type "object"]
end L2
set_option Elab.async false
set_option linter.all false
set_option maxRecDepth 100000
namespace L2
open PySem PySem.Spec PyProof.Rows PySem.W
end L2
set_option Elab.async false
set_option linter.all false
set_option maxRecDepth 100000
namespace L2
open PySem PySem.Spec PyProof.Rows
def qE (H H':Hp):Prop:=∀b xs,H b=some (.tup xs)->H' b=some (.tup xs)
theorem qE.of {H H':Hp}(h:zo H H'):qE H H':=λb xs e=>h b _ e
theorem qE.trans {H H1 H2:Hp}(a:qE H H1) (b:qE H1 H2):qE H H2:=λc xs e=>b c xs (a c xs e)
theorem qE.upd {H:Hp}{D:Addr}{ys:List V}{o:HO}(h:H D=some (.lst ys)):qE H (upd H D o):=λb xs e=>by rw[zX (λz=>by subst z;rw[h]at e;cases e)];exact e
structure JM (J:It) (H:Hp) (xs:List V):Prop where
 go:∀i H',i<xs.length->zo H H'->J.go i H'
 stop:∀H',zo H H'->J.stop xs.length H'
 yld:∀i x H2 H3,zo H H2->J.yld i H2 x H3->H3=H2/\xs[i]? = some x
theorem X2 {K:PySem.W.Frag}{H:Hp}{a:Addr}{xs:List V}(h:H a=some (.lst xs)):JM (Itl K a) H xs :=
 ⟨λi H' hi s=>⟨xs,xs[i],.of (s _ _ h),by simp[hi]⟩,λH' s=>⟨xs,.of (s _ _ h),Nat.le_refl _⟩,λi x H2 H3 s y=>⟨y.1,y.2 xs (.of (s _ _ h))⟩⟩
section
variable {J:It}{D:Addr}{n:Nat}{js:List Nat}{σ:St}{g:TG}{te:TE}{Z:Hp->Prop}{H:Hp}{xs:List V}
theorem jK (R:Nat->V->Hp->Prop) (hR:∀i v H H',qE H H'->R i v H->R i v H') (hD:H D=none) (hJ:JM J H xs) (hl:xs.length<sizeLine)
  (hs:∀i x zs H2 Q',xs[i]? = some x->zs.length=n->zo H H2->(∀v H6,zo H2 H6->R i v H6->Q' v H6)->g x zs H2 λσ4 H4=>te σ4 H4 Q')
  (k:∀ys H',zo H H'->H' D=some (.lst ys)->ys.length=xs.length->(∀i v,ys[i]? = some v->R i v H')->Z H') :
  ∃W:Nat->Nat->Hp->List V->Prop,(∃m,W 0 m (upd H D (.lst [])) [])/\∀i m H2 ys,W i m H2 ys->H2 D=some (.lst ys)->(J.stop i H2/\Z H2) ∨
   (J.go i H2/\∀σB x H3,σB.length=n->J.yld i H2 x H3->g x σB H3 λσ4 H4=>(λ_ H Q=>Q true H:TT) σ4 H4 λb H5=>if b=true then te σ4 H5 (λv H6=>H6 D=some (.lst ys)/\ys.length<sizeLine/\∃m',m'<m/\W (i+1) m' (upd H6 D (.lst (ys++[v]))) (ys++[v]))
    else H5 D=some (.lst ys)/\∃m',m'<m/\W (i+1) m' H5 ys):=by
 refine VA (Q:=λ_ H=>Z H) (tt:=λ_ H Q=>Q true H) (N:=xs.length) (λi H2 ys=>zo H H2/\ys.length=i/\∀j v,ys[j]? = some v->R j v H2) ⟨zo.upd hD,rfl,λj v e=>by simp at e⟩ (λi H2 ys hi p=>hJ.go i H2 hi p.1) (λH2 ys p=>hJ.stop H2 p.1) ?_ (λH2 ys p e=>k ys H2 p.1 e p.2.1 p.2.2)
 rintro i x zs H2 H3 ys Nx hN hi hz hy ⟨s2,hyl,hyR⟩ hD2
 obtain⟨rfl,hx⟩:=hJ.yld i x H2 H3 s2 hy
 refine hs i x zs H3 _ hx hz s2 λv H6 s6 r6=>⟨s6 _ _ hD2,by omega,hN _ _ ⟨λc o e=>?_,by simp[hyl],λj u e=>?_⟩⟩
 ·rw[zX (z9 e hD)];exact s6 _ _ (s2 _ _ e)
 ·have T6:qE H6 (upd H6 D (.lst (ys++[v]))):=.upd (s6 _ _ hD2)
  by_cases hj:j<ys.length
  ·rw[List.getElem?_append_left hj]at e
   exact hR _ _ _ _ ((qE.of s6).trans T6) (hyR j u e)
  ·rw[List.getElem?_append_right (by omega)]at e
   have:j - ys.length=0:=by
    rcases Nat.eq_zero_or_pos (j - ys.length)with z | z
    ·exact z
    ·rw[List.getElem?_eq_none (by simp;omega)]at e;cases e
   rw[this]at e
   simp at e
   subst e
   rw[show j=i by omega]
   exact hR _ _ _ _ T6 r6
end
end L2
namespace L2
open PySem PySem.Spec PyProof.Rows
end L2
set_option Elab.async false
set_option linter.all false
set_option maxRecDepth 100000
namespace L2
open PySem PySem.Spec PyProof.Rows
end L2
set_option Elab.async false
set_option linter.all false
set_option maxRecDepth 100000
namespace L2
open PySem PySem.Spec PyProof.Rows
end L2
set_option Elab.async false
set_option linter.all false
set_option maxRecDepth 100000
namespace L2
open PySem PySem.Spec PyProof.Rows
end L2
set_option Elab.async false
set_option linter.all false
set_option maxRecDepth 100000
namespace L2
open PySem PySem.Spec PyProof.Rows
end L2
section
set_option maxHeartbeats 4000000
set_option Elab.async false
set_option linter.all false
set_option maxRecDepth 100000
namespace L2
open PySem PySem.Spec PyProof.Rows
end L2
end
namespace KM
end KM
section
set_option maxHeartbeats 8000000
set_option Elab.async false
set_option linter.all false
set_option maxRecDepth 100000
namespace L2
open PySem PySem.Spec PyProof.Rows
end L2
namespace L2
open PySem PySem.Spec PyProof.Rows
end L2
namespace L2
open PySem PySem.Spec PyProof.Rows
end L2
namespace L2
open PySem PySem.Spec PyProof.Rows
end L2
namespace L2
open PySem PySem.Spec PyProof.Rows
end L2
namespace L2
open PySem PySem.Spec PyProof.Rows
end L2
namespace L2
open PySem PySem.Spec PyProof.Rows
end L2
namespace L2
open PySem PySem.Spec PyProof.Rows
end L2
namespace L2
open PySem PySem.Spec PyProof.Rows
end L2
namespace L2
open PySem PySem.Spec PyProof.Rows
end L2
namespace L2
open PySem PySem.Spec PyProof.Rows
end L2
namespace Att
open PySem PySem.W PySem.Calls PyProof.Rows
end Att
namespace L2
open PySem PySem.Spec PyProof.Rows
end L2
namespace L2
open PySem PySem.Spec PyProof.Rows
end L2
end
section
set_option maxHeartbeats 4000000
set_option Elab.async false
set_option linter.all false
set_option maxRecDepth 100000
namespace L2
open PySem PySem.Spec PyProof.Rows PySem.Builtin.Str
section
variable {X:Cx}
theorem jO:MtR X "str.startswith" (λx vs H Q=>∃a b,x = .str a/\vs=[.str b]/\Q (.bl (Txt.startswith a b)) H):=by
 intro pins s σ H x xs v us Q I rx rs h
 obtain⟨a,b,rfl,rfl,q⟩:=h
 obtain⟨t,rfl⟩:=rx
 obtain⟨u,rfl,ru⟩:=qv rs
 obtain⟨t',rfl⟩:=ru
 exact SC.startswith ⟨.bl _,H,I,rfl,q⟩
theorem XU:MtR X "str.index" (λx vs H Q=>∃a b i rest,x = .str a/\vs=[.str b]/\occurrences a b 0 a.length 1=i::rest/\Q (.int (i:Nat)) H):=by
 intro pins s σ H x xs v us Q I rx rs h
 obtain⟨a,b,i,rest,rfl,rfl,ho,q⟩:=h
 obtain⟨t,rfl⟩:=rx
 obtain⟨u,rfl,ru⟩:=qv rs
 obtain⟨t',rfl⟩:=ru
 exact SC.index ho ⟨.int _,H,I.tok _,⟨_,rfl⟩,q⟩
theorem XH:qA X (.type "int") (λxs H Q=>∃a n,xs=[.str a]/\PySem.intText? a=some n/\a.length<=640/\Q (.int n) H):=by
 intro pins s σ H xs us Q I r h
 obtain⟨a,n,rfl,hn,hl,q⟩:=h
 obtain⟨u,rfl,ru⟩:=qv r
 obtain⟨t,rfl⟩:=ru
 exact PySem.W.KIN.call_text hn hl ⟨.int n,H,I.tok _,⟨_,rfl⟩,q⟩
theorem jT:∀l:List (Str×Tok),zM ((l.map (·.1)).map V.str) (strValues l)
 | []=>.nil
 | (x,t)::l=>.cons ⟨t,rfl⟩ (jT l)
theorem jj:MtR X "str.split" (λx vs H Q=>∃a b,x = .str a/\vs=[.str b]/\(b.length == 0)=false/\a.length+2<=sizeLine/\∀l,H l=none->Q (.ref l) (upd H l (.lst ((Txt.split a b).map V.str)))):=by
 intro pins s σ H x xs v us Q I rx rs h
 obtain⟨a,b,rfl,rfl,hy,hz,q⟩:=h
 obtain⟨t,rfl⟩:=rx
 obtain⟨u,rfl,ru⟩:=qv rs
 obtain⟨t',rfl⟩:=ru
 have hn:(partsBetween a (occurrences a b 0 a.length (a.length+1)) b.length).length<=sizeLine:=by
  have:=StrLaws.occ_length_le a b 0 a.length (a.length+1)
  unfold partsBetween
  simp only[List.length_map,List.length_zip,List.length_cons,List.length_append,List.length_nil]
  omega
 have hx:a.length<=sizeLine:=by omega
 have fin:∀(l:List (Str×Tok)) (tk:Nat),l.map (·.1)=Txt.split a b->l.length<=sizeLine->EP X pins σ Q (.ref s.heap.objs.size) { s with heap:=s.heap.push { cls:=.type "list",data:=.seq (strValues l).toArray },toks:=tk }:=λl tk e hl=>by
  refine⟨.ref s.heap.objs.size,_,I.laid (t':=tk) (o:=.lst ((Txt.split a b).map V.str)) (λb ob q=>Heap.get?_push_of_some _ q) (Nat.le_refl _) ?_,rfl,q _ (I.hok.fresh (Nat.le_refl _))⟩
  refine⟨?_,strValues l,0,?_,Heap.get?_push_size _ rfl⟩
  ·rw[<-e,List.length_map,List.length_map];exact hl
  ·rw[<-e];exact jT l
 cases h1:(decide (a.length<b.length) || decide (strKind a<strKind b))
 ·cases hf:(occurrences a b 0 a.length (a.length+1)).isEmpty
  ·refine call_meets F.slot_str_split (typeIs_str _ _ _) F.entry_str_split (F.args_str_split_2 _ _) (meets_str_split_sep a b t t' h1 hy hf hx hn) ?_
   show wants _ _ _ { s with toks:=_,heap:=s.heap.push { cls:=.type "list",data:=.seq (strsFrom s.toks (partsBetween a (occurrences a b 0 a.length (a.length+1)) b.length)).toArray } }
   rw[strsFrom_eq]
   exact fin (numbered s.toks _) _ ((numbered_texts _ _).trans ((if_neg (ne_true_of_eq_false h1)).trans (if_neg (ne_true_of_eq_false hf))).symm) (by rw[<-List.length_map (f:=Prod.fst),numbered_texts];exact hn)
  ·exact call_meets F.slot_str_split (typeIs_str _ _ _) F.entry_str_split (F.args_str_split_2 _ _) (meets_str_split_not_found a b t t' h1 hy hf)
    (fin [(a,t)] s.toks ((if_neg (ne_true_of_eq_false h1)).trans (if_pos hf)).symm (by show 1<=sizeLine;decide))
 ·exact call_meets F.slot_str_split (typeIs_str _ _ _) F.entry_str_split (F.args_str_split_2 _ _) (meets_str_split_cannot_occur a b t t' h1)
   (fin [(a,t)] s.toks (if_pos h1).symm (by show 1<=sizeLine;decide))
theorem jV:∀{ts:List Str}{its:List Value},zM (ts.map V.str) its->∃l:List (Str×Tok),its=strValues l/\l.map (·.1)=ts
 | [],_,.nil=>⟨[],rfl,rfl⟩
 | x::ts,_,.cons ⟨t,e⟩ r=>by
  obtain⟨l,e1,e2⟩:=jV r
  exact⟨(x,t)::l,by rw[e,e1];rfl,by rw[List.map_cons,e2]⟩
theorem VJ:MtR X "str.join" (λx vs H Q=>∃a p ts,x = .str a/\vs=[.ref p]/\SqL X.K H p (ts.map V.str)/\JoinOk a ts=true/\Q (.str (Txt.join a ts)) H):=by
 intro pins s σ H x xs v us Q I rx rs h
 obtain⟨a,p,ts,rfl,rfl,hq,hj,q⟩:=h
 obtain⟨t,rfl⟩:=rx
 obtain⟨u,rfl,ru⟩:=qv rs
 cases ru
 obtain⟨its,r,pl,hz⟩:=I.list hq
 obtain⟨l,rfl,e⟩:=jV r
 exact SC.join pl.isList e hj λt' k=>⟨.str _,H,I.tok _,⟨_,rfl⟩,q⟩
theorem Zw {v:Value}{o:Option Int}(h:IsPart v o):∃l:Option (Int×Tok),v=partValue l/\l.map (·.1)=o:=by
 cases h with
 | none=>exact⟨none,rfl,rfl⟩
 | int i t=>exact⟨some (i,t),rfl,rfl⟩
def rSlS:V->Option Int->Option Int->Hp->VK->Prop:=λx lo hi H Q=>∃a,x = .str a/\a.length<=sizeLine/\Q (.str (Txt.slice a lo hi)) H
theorem jv:SlR X rSlS:=by
 intro pins s σ H x v vl vu lo hi sl Q I rx hs pl pu h
 obtain⟨a,rfl,hz,q⟩:=h
 obtain⟨t,rfl⟩:=rx
 obtain⟨l,rfl,el⟩:=Zw pl
 obtain⟨u,rfl,eu⟩:=Zw pu
 subst el eu
 refine⟨"str",_,F.slot_str_getitem.lookup,typeIs_str _ _ _,wpAny_getItem_str_slice (l:=l) (u:=u) (st:=none) hs rfl (post_val_or_str ⟨Nat.le_trans (Txt.slice_le a _ _) hz,λt' k=>⟨.str _,H,I.tok _,⟨_,rfl⟩,q⟩⟩)⟩
end
def Its (a:Str):It:=⟨λi _=>i<a.cps.size,λi H x H'=>H'=H/\∃c,a.cps[i]? = some c/\x = .str ⟨#[c]⟩,λi _=>a.cps.size<=i⟩
theorem Vp {P:Program}{w:World}{K:PySem.W.Frag}{tg:Expr}(a:Str) (t:Tok) (it:Addr) (ty:String) (hty:ty = "str_ascii_iterator"\/ty = "str_iterator"):Vx P w K tg (Its a) [it] it (λi h=>h.IsStrIter it ty a t i) where
 mem:=by simp
 obj:=λi h st b hb=>by
  have e:b=it:=by simpa using hb
  subst e
  obtain⟨o,e,c,d⟩:=st
  exact⟨o,e,λv z=>by rw[d]at z;cases z⟩
 keep:=λi h h' st k=>let ⟨o,e,r⟩:=st;⟨o,k it (by simp) o e,r⟩
 item:=by
  intro X hP hw hK hc i pins s σ H E I hf st hg
  subst hP hw hK
  obtain⟨f0,f1,f2,f3,f4,f5⟩:=hf it (by simp)
  have hg:i<a.cps.size:=hg
  have hx:a.cps[i]? = some a.cps[i]:=by simp[hg]
  have fin:∀(h':Heap) (tk tk':Nat),h'.IsStrIter it ty a t (i+1)->Heap.SameBut it s.heap h'->∃u,some (Value.str ⟨#[a.cps[i]]⟩ tk')=some u/\wpAny (model X.prog X.w) X.A (letOwnedTupleGo tg (.ref it) u) (λ_ s2=>∃x H',Inv X pins σ H' s2/\xc x u/\(Its a).yld i H x H'/\s2.heap.IsStrIter it ty a t (i+1)/\∀b∈[it],H' b=none) E { s with heap:=h',toks:=tk }:=λh' tk tk' st' sb=>by
   have I1:Inv X pins σ H { s with heap:=h',toks:=tk }:=I.turned (t':=tk) (λb o hb e=>(sb.2 b hb).trans e) f0 f1 f3 f4 f5
   obtain⟨o,e,c,d⟩:=id st'
   exact⟨_,rfl,Qr (s:={ s with heap:=h',toks:=tk }) e c d (by rcases hty with rfl | rfl <;> decide) ⟨.str ⟨#[a.cps[i]]⟩,H,I1,⟨_,rfl⟩,⟨rfl,_,hx,rfl⟩,st',λb hb=>(hf b hb).1⟩⟩
  rcases hty with rfl | rfl
  ·exact wpAny_pyNext_ascii_item st hx λh' st' sb=>fin h' _ _ st' sb
  ·exact wpAny_pyNext_wide_item st hx λh' st' sb=>fin h' _ _ st' sb
 done:=by
  intro X hP hw hK hc i pins s σ H E I hf st hg
  subst hP hw hK
  obtain⟨f0,f1,f2,f3,f4,f5⟩:=hf it (by simp)
  have hg:a.cps.size<=i:=hg
  have hx:a.cps[i]? = none:=by simp[hg]
  rcases hty with rfl | rfl
  ·exact wpAny_pyNext_ascii_end (I.ok.hd hc) st hx λh' eb=>⟨rfl,I.turned (t':=s.toks) (λb o hb e=>eb b o hb e) f0 f1 f3 f4 f5⟩
  ·exact wpAny_pyNext_wide_end (I.ok.hd hc) st hx λh' eb=>⟨rfl,I.turned (t':=s.toks) (λb o hb e=>eb b o hb e) f0 f1 f3 f4 f5⟩
 self:=λ_ _ _ _ _ st h=>by
  rcases hty with rfl | rfl
  ·exact wpAny_pyIter_striter_ascii st h
  ·exact wpAny_pyIter_striter_wide st h
def zaV (tl:TE):TI:=λσ H R=>tl σ H λx H1=>∃a,x = .str a/\R (Its a) H1
end L2
end
section
set_option maxHeartbeats 4000000
set_option Elab.async false
set_option linter.all false
set_option maxRecDepth 100000
namespace L2
open PySem PySem.Spec PyProof.Rows PySem.Builtin.Str
section
variable {X:Cx}{tg:Expr}
theorem QT {l:Expr}{tl:TE}(hl:PE X l tl):PI X tg l (zaV tl):=by
 intro pins s σ H R I h
 refine thn (hl pins s σ H _ I h) λv s1 ⟨x,H1,I1,r1,q1⟩=>?_
 obtain⟨a,e,q⟩:=q1
 subst e
 obtain⟨t,rfl⟩:=r1
 have fin:∀(ty:String) (o:Obj),(ty = "str_ascii_iterator"\/ty = "str_iterator")->(s1.heap.push o).IsStrIter s1.heap.objs.size ty a t 0->PIE X pins σ tg R (.ref s1.heap.objs.size) { s1 with heap:=s1.heap.push o }:=λty o hty st=>by
  refine⟨s1.heap.objs.size,[s1.heap.objs.size],_,_,H1,rfl,I1.kept (t':=s1.toks) λb o e=>Heap.get?_push_of_some _ e,Vp a t _ ty hty,st,λb hb=>?_,q⟩
  have e:b=s1.heap.objs.size:=by simpa using hb
  subst e
  exact I1.fpOk (Nat.le_refl _) (I1.hok.fresh (Nat.le_refl _))
 cases ha:a.cps.all (· < 128)
 ·exact wpAny_pyIter_wide ha (fin _ _ (.inr rfl) ⟨_,Heap.get?_push_size _ rfl,rfl,rfl⟩)
 ·exact wpAny_pyIter_ascii ha (fin _ _ (.inl rfl) ⟨_,Heap.get?_push_size _ rfl,rfl,rfl⟩)
theorem zA (a b:Str):(a++b).length=a.length+b.length:=strLen_append a b
end
end L2
end
section
set_option maxHeartbeats 4000000
set_option Elab.async false
set_option linter.all false
set_option maxRecDepth 100000
namespace L2
open PySem PySem.Spec PyProof.Rows
def zbn (C:Addr) (tb:XJ->TS) (ts:TS):TS:=λD σ H=>tb (λC' _ σ' H'=>C'=C/\ts D σ' H') D σ H
section
variable {X:Cx}{x:Str}{C:Addr}{bmB:List Value}{newId:String}{np hpos pos:Pos}{body suite:List Stmt}{b₀:Stmt}{tb:XJ->TS}{ts:TS}
theorem Za (hst:X.stack=X.env::X.outer) (hfr:X.env.frame=some X.env.locals) (O:OwnCls x C bmB newId X.mg X.base) (hbase:bmB.contains (.type "BaseException")=true)
  (hb:∀pins W J,jE (X.tried pins W) J->PSs (X.tried pins W) body (tb J)) (hs:∀pins a oe d vs,oe.cls = .ref C->oe.dict=d->oe.data = .fields vs->PSs (X.suite pins a oe) (b₀::suite) ts)
  (hg:Gl X x:=by rfl) (hd:(x == ("__debug__":Str))=false:=by decide) :
  PS X (.Try body [.ExceptHandler (some (.Name x np)) none (b₀::suite) hpos] [] [] pos) (zbn C tb ts):=by
 intro pins s σ H D I h
 have hb':=hb pins (λe s₁=>wpAny (model X.prog X.w) X.A (noteFrame e X.env) (λ_ s₂=>wpAny (model X.prog X.w) X.A (setFlight e none) (λ_ s₃ =>
  wpAny (model X.prog X.w) X.A (handleBy e X.env [.ExceptHandler (some (.Name x np)) none (b₀::suite) hpos]) (SP X pins D) X.xe s₃) X.xe s₂) X.xe s₁) _ ?_ [] s σ H D (I.tried _) h
 ·refine wpAny_Try_except (wpAny_mono hb' (λf s1 hf=>?_) λ_ _ z=>z)
  cases f with
  | next=>obtain⟨σ',H',I',q⟩:=hf;exact wpAny_execs_nil ⟨σ',H',I'.untried I.ok,q⟩
  | brk=>obtain⟨σ',H',I',q⟩:=hf;exact⟨σ',H',I'.untried I.ok,q⟩
  | cont=>obtain⟨σ',H',I',q⟩:=hf;exact⟨σ',H',I'.untried I.ok,q⟩
  | ret u=>obtain⟨v,σ',H',I',r,q⟩:=hf;exact⟨v,σ',H',I'.untried I.ok,r,q⟩
 ·intro pins' σ' H1 s1 a C' H' s' B a0 dct I1 F hq
  obtain⟨rfl,q⟩:=hq
  have I1:=I1.untried I.ok
  have hfrm:X.A.frames=some (X.env::X.outer):=by rw[<-hst];exact I.ok.frames
  have F:Fly X.prog X.w X.stack H1 s1 C' H' a s' B a0 dct:=F
  have Ffl:FlX B (X.env::X.outer) a (.ref C') a0 dct s'.heap:=by rw[<-hst];exact F.fly
  refine Xo hfrm hfr Ffl λh4 held up4=>?_
  refine vx held λh5 fl5 up5=>?_
  have F5:=F.move (by rw[hst];exact fl5) (up4.trans up5)
  have I5:=I1.call' F5.os F5.un F5.hok F5.bare (λb z=>absurd z (by simp))
  obtain⟨ob,hob,hobc⟩:=fl5.there
  obtain⟨tl,N,nm,q',bs,hdct,sn,sub,ab,col,dd,k0,k1,k2,k3,k5,mN,hC,hN',hni,T⟩:=O.obj
  refine wpAny_handleBy_cons (codeAny_handlers_test (vy (X:=X.testing a) (I5.test a) hg O.bound ?_ hd)) (by intro q;cases q)
  obtain⟨hh,g,d,tk,os⟩:=s'
  refine wpAny_excMatches_sub_self (I5.bk _ _ hC) hob hobc (T.hasType hbase) (codeAny_handlers_suite ?_)
  refine vx fl5.held λh6 fl6 up6=>?_
  have F6:=F5.move (by rw[hst];exact fl6) up6
  have I6:=I1.call' F6.os F6.un F6.hok F6.bare (λb z=>absurd z (by simp))
  obtain⟨oe,ws,hoe,hoec,hoet,hoed⟩:=fl6.first
  refine wpAny_mono (hs pins a oe dct ws hoec hoet hoed [] _ _ H' D (I6.suite hoe hoed F6.untracked) q) (λf s8 hf=>?_) λ_ _ z=>z.elim
  cases f with
  | next=>obtain⟨σ8,H8,I8,q8⟩:=hf;exact⟨_,_,I8.unsuite I.ok,q8⟩
  | brk=>obtain⟨σ8,H8,I8,q8⟩:=hf;exact⟨_,_,I8.unsuite I.ok,q8⟩
  | cont=>obtain⟨σ8,H8,I8,q8⟩:=hf;exact⟨_,_,I8.unsuite I.ok,q8⟩
  | ret u=>obtain⟨v,σ8,H8,I8,r8,q8⟩:=hf;exact⟨_,_,_,I8.unsuite I.ok,r8,q8⟩
end
end L2
end
section
set_option maxHeartbeats 4000000
set_option Elab.async false
set_option linter.all false
set_option maxRecDepth 100000
namespace L2
open PySem PySem.Spec PyProof.Rows
open MeetsSeq MeetsSeq2 MeetsSeq3 SeqRoads2 SeqAt AutoSeq1
end L2
end
section
set_option maxHeartbeats 4000000
set_option Elab.async false
set_option linter.all false
set_option maxRecDepth 100000
namespace L2
open PySem PySem.Spec PyProof.Rows
def FlN (B:Heap) (l:List Env) (e:Addr) (cls a0:Value) (dct:Option Addr) (L:Addr) (h:Heap):Prop:=B.StaysIn h/\B.get? e=none/\h.FunFrames B l/\TrX h B e cls a0 dct (rawInt L)
section
variable {M:Model}{A:Around}{E:Value->Shared->Prop}{s:Shared}{B h:Heap}{env:Env}{outer l:List Env}{L e:Addr}{a0 cls:Value}{dct:Option Addr}{Q:Unit->Shared->Prop}
theorem VL (hfr:A.frames=some (env::outer)) (hf:env.frame=some L) (x:FlX B (env::outer) e cls a0 dct s.heap) (q:∀h',FlN B (env::outer) e cls a0 dct L h'->s.heap.UpToSlots h'->Q () { s with heap:=h' }):wpAny M A (noteFrame (.ref e) env) Q E s :=
 jP hfr x.2.2.1 hf x.2.2.2 x.1 x.2.1 λh' x1 x2 x3 x4=>q h' ⟨x1,x.2.1,x2,x3⟩ x4
theorem Zt (hf:env.frame=some L) (ht:TrX s.heap B e cls a0 dct (rawInt L)) (q:Q () s):wpAny M A (noteFrame (.ref e) env) Q E s:=by
 obtain⟨oe,vs,T,oT,ts,he,_,_,hd,h0,h1,nT,Te,hT,dT,h3⟩:=ht
 unfold noteFrame
 simp only[hf]
 refine wpAny_bind (wpAny_field he hd h1 ?_)
 rw[if_pos (show (Value.ref T != Value.none)=true from by simp)]
 refine wpAny_bind (wpAny_field hT dT h3 ?_)
 rw[if_pos (by simp)]
 exact wpAny_pure q
theorem XN {fl:Value}(hB:B.StaysIn s.heap) (hl:s.heap.FunFrames B l) (ht:TrX s.heap B e cls a0 dct fl)
  (q:∀h',B.StaysIn h'->h'.FunFrames B l->TrX h' B e cls a0 dct (rawInt L)->s.heap.UpToSlots h'->Q () { s with heap:=h' }):wpAny M A (setFlight (.ref e) (some L)) Q E s:=by
 obtain⟨oe,vs,T,oT,ts,he,hc,hdc,hd,h0,h1,nT,Te,hT,dT,h3⟩:=ht
 have z3:3<ts.size:=(Array.getElem?_eq_some_iff.mp h3).1
 have oth:∀b,b≠T->(s.heap.update T (Obj.mapFields (·.setIfInBounds 3 ((some L:Option Addr).elim Value.none λf=>rawInt f)))).get? b=s.heap.get? b:=λb hb=>Heap.get?_update_other _ _ (Ne.symm hb)
 have nr:∀b o,s.heap.get? b=some o->(∀vs,o.data≠.fields vs)->b≠T:=λb o hb nn r=>by rw[r,hT]at hb;cases hb;exact nn ts dT
 unfold setFlight
 refine wpAny_bind (wpAny_field he hd h1 ?_)
 rw[if_pos (show (Value.ref T != Value.none)=true from by simp)]
 exact wpAny_setField hT dT z3 (q _ (λb o z=>(oth b λr=>by rw[r,nT]at z;cases z).trans (hB b o z)) (hl.of_keeps λb o hb nn=>⟨o,(oth b (nr b o hb nn)).trans hb,rfl⟩)
  ⟨oe,vs,T,_,_,(oth e (Ne.symm Te)).trans he,hc,hdc,hd,h0,h1,nT,Te,Heap.get?_update_self _ hT (Obj.isFreed_of_fields (Obj.data_mapFields dT _)),Obj.data_mapFields dT _,by simp[z3]⟩ λb o hb nn=>⟨o.slots,(oth b (nr b o hb nn)).trans hb⟩)
theorem QQ {α:Type}{Q:α->Shared->Prop}{what:String}(hf:env.frame=some L) (x:FlN B l e cls a0 dct L s.heap) (q:∀h',FlN B l e cls a0 dct L h'->s.heap.UpToSlots h'->E (.ref e) { s with heap:=h' }):wpAny M A (PySem.passOn what (.ref e) env:Sem α) Q E s:=by
 obtain⟨x1,x2,x3,x4⟩:=x
 obtain⟨oe,vs,T,oT,ts,he,_,_,hd,h0,h1,_⟩:=id x4
 unfold PySem.passOn
 refine wpAny_bind (wpAny_field he hd h1 ?_)
 rw[if_neg (show ¬((Value.ref T == Value.none)=true)from by simp)]
 rw[hf]
 exact wpAny_bind (XN x1 x3 x4 λh' y1 y2 y3 y4=>wpAny_throw (q h' ⟨y1,x2,y2,y3⟩ y4))
theorem FlN.but {Lc:Addr}{oL:Obj}{h':Heap}(x:FlN B l e cls a0 dct L h) (sb:Heap.SameBut Lc h h') (BL:B.get? Lc=some oL):FlN (PySem.W.hideAll B [Lc]) l e cls a0 dct L h':=by
 obtain⟨x1,x2,x3,oe,vs,T,oT,ts,he,hc,hdc,hd,h0,h1,nT,Te,hT,dT,h3⟩:=x
 have hid:∀b,B.get? b=none->(PySem.W.hideAll B [Lc]).get? b=none:=λb e=>by
  cases z:(PySem.W.hideAll B [Lc]).get? b with
  | none=>rfl
  | some o=>rw[PySem.W.of_hideAll _ z]at e;cases e
 have neL:∀b,B.get? b=none->b≠Lc:=λb e z=>by rw[z,BL]at e;cases e
 refine⟨λb o z=>?_,hid _ x2,?_,oe,vs,T,oT,ts,(sb.2 e (neL _ x2)).trans he,hc,hdc,hd,h0,h1,hid _ nT,Te,(sb.2 T (neL _ nT)).trans hT,dT,h3⟩
 ·have nb:b≠Lc:=λr=>by rw[r,PySem.W.hideAll_none _ (by simp)]at z;cases z
  exact(sb.2 b nb).trans (x1 b o (PySem.W.of_hideAll _ z))
 ·induction l with
  | nil=>trivial
  | cons env l ih =>
   obtain⟨k,⟨L',o,hL,hb,ho,hn⟩,r⟩:=x3
   exact⟨k,⟨L',o,hL,hid _ hb,(sb.2 L' (neL _ hb)).trans ho,hn⟩,ih r⟩
theorem QA (hf:env.frame=some L) (x:FlN B (env::outer) e cls a0 dct L s.heap) (q:∀h',FlX B outer e cls a0 dct h'->s.heap.UpToSlots h'->Q () { s with heap:=h' }):wpAny M A (leaving env (.ref e)) Q E s:=by
 unfold leaving
 refine wpAny_bind (Zt hf x.2.2.2 (vx (s:=s) ⟨x.1,x.2.1,x.2.2.1,_,x.2.2.2⟩ λh2 z up2=>?_))
 obtain⟨z1,z2,⟨_,_,z3⟩,z4⟩:=z
 exact q h2 ⟨z1,z2,z3,z4⟩ up2
end
def Qf (X:Cx) (J:XJ) (L:Addr):Prop:=∀(pins:List (Addr×Obj)) (σ:St) (H:Hp) (s:Shared) (fp:List Addr),(∀b∈fp,X.s₀.heap.objs.size<=b)->∀(a C:Addr) (H':Hp) (s':Shared) (B:Heap) (a0:Value) (dct:Option Addr),
 Inv X pins σ H s->s'.os=X.s₀.os->AllBare s'.gens->Un (frs X.stack) fp H H' s.heap s'.heap->HOk X.prog X.w H' s'.heap->FlN B X.stack a (.ref C) a0 dct L s'.heap →
 (∀b o,s.heap.get? b=some o->b∉frs X.stack->b∉fp->(∃o',B.get? b=some o')/\(H b=none->B.get? b=some o))->(∀b u,H' b=some u->∃o,B.get? b=some o)->J C dct σ H'->X.xe (.ref a) s'
section
variable {P:Program}{w:World}{K:PySem.W.Frag}{mg:Str->Option Value}{base:Heap}{N:List Str}{qual:Str}{scope:Scope}{f:Addr}{cd:Value}{A:Around}{outer:List Env}{s:Shared}{H:Hp}{E:XK}
theorem je:Qf (xI (CX1 P w) P w K mg base N qual scope f cd A outer s H E) (EJ E) s.heap.objs.size:=by
 intro pins σ H1 s1 fp hfp a C H' s' B a0 dct I ho hg u hok fl kb kt q
 obtain⟨hh,g,d,t,os'⟩:=s'
 have ho:os'=s.os:=ho
 subst ho
 have fl:FlN B ((xI (CX1 P w) P w K mg base N qual scope f cd A outer s H E).env::outer) a (.ref C) a0 dct s.heap.objs.size hh:=fl
 refine QA (L:=s.heap.objs.size) rfl fl λh' fx up=>?_
 refine⟨a,C,H',B,a0,dct,rfl,?_,q⟩
 have nofp:∀b o,s.heap.get? b=some o->b∉fp:=λb o e hb=>absurd (Nat.lt_of_lt_of_le (Heap.lt_size e) (hfp b hb)) (Nat.lt_irrefl _)
 have base':=I.base
 have hfr:∀b∈frs outer,b∈frs (xI (CX1 P w) P w K mg base N qual scope f cd A outer s H E).stack:=λb hb=>List.mem_cons_of_mem _ hb
 have nfr:∀b o,s.heap.get? b=some o->b∉frs outer->b∉frs (xI (CX1 P w) P w K mg base N qual scope f cd A outer s H E).stack:=λb o e hb=>I.notfr e hb
 exact {
  os:=rfl
  bare:=hg
  un:={
   keep:=λb o e n hb hx=>fx.1 b o ((kb b o (base'.keep b o e n hb (by simp[xI])) (nfr b o e hb) (nofp b o e)).2 (base'.free b o e n (by simp[xI])))
   slot:=λb o e n hb hx=>by
    obtain⟨sl,e1⟩:=base'.slot b o e n hb (by simp[xI])
    obtain⟨sl1,e2⟩:=u.slot b _ e1 (base'.free b o e n (by simp[xI])) (hfr b hb) (nofp b o e)
    obtain⟨_,o',ho',hd⟩:=fl.2.2.1.mem (hfr b hb)
    have z:=ho'.symm.trans e2
    cases z
    obtain⟨sl2,e3⟩:=up b _ e2 hd
    exact⟨sl2,e3⟩
   free:=λb o e n hx=>by
    obtain⟨o',e1⟩:=base'.there b o e (by simp[xI])
    exact u.free b o' e1 (base'.free b o e n (by simp[xI])) (nofp b o e)
   there:=λb o e hx=>by
    by_cases hb:b∈frs outer
    ·obtain⟨_,o',ho',_⟩:=fx.2.2.1.mem hb
     exact⟨o',ho'⟩
    ·obtain⟨o',e1⟩:=base'.there b o e (by simp[xI])
     obtain⟨o2,e2⟩:=(kb b o' e1 (nfr b o e hb) (nofp b o e)).1
     exact⟨o2,fx.1 b o2 e2⟩
   tups:=λb xs e=>u.tups b xs (base'.tups b xs e)
   frzs:=λb o xs e=>u.frzs b o xs (base'.frzs b o xs e)
   tbls:=λb ps e=>by
    obtain⟨m1,e1⟩:=base'.tbls b ps e
    obtain⟨m2,e2⟩:=u.tbls b _ e1
    exact⟨m1++m2,by rw[e2,Array.append_assoc]⟩ }
  hok:=j1 hok fl.1 fx.1 kt
  fly:=fx
  kb:=λb o e hb=>by
   obtain⟨o',e1⟩:=base'.there b o e (by simp[xI])
   have z:=kb b o' e1 (nfr b o e hb) (nofp b o e)
   exact⟨z.1,λn=>(kb b o (base'.keep b o e n hb (by simp[xI])) (nfr b o e hb) (nofp b o e)).2 (base'.free b o e n (by simp[xI]))⟩
  kt:=kt }
end
def xo (X:Cx) (NB:List Str) (scope:Scope) (s3:Shared) (H3:Hp) (fp:List Addr) (xe:Value->Shared->Prop):Cx:={ xH X NB scope s3 H3 fp with xe:=xe }
def zaE (J:XJ) (n:Nat) (wi:TI) (g:TG) (tt:TT) (te:XJ->TE):TE:=λσ H Q=>wi σ H λIt H1=>∀D,H1 D=none->∃W:Nat->Nat->Hp->List V->Prop,(∃m,W 0 m (upd H1 D (.lst [])) []) ∧
 ∀i m H2 ys,W i m H2 ys->H2 D=some (.lst ys)->(It.stop i H2/\Q (.ref D) H2) ∨
  (It.go i H2/\∀σB x H3,σB.length=n->It.yld i H2 x H3->g x σB H3 λσ4 H4=>tt σ4 H4 λb H5=>if b=true then te (λC d _ H'=>J C d σ H') σ4 H5 (λv H6=>H6 D=some (.lst ys)/\ys.length<sizeLine/\∃m',m'<m/\W (i+1) m' (upd H6 D (.lst (ys++[v]))) (ys++[v]))
   else H5 D=some (.lst ys)/\∃m',m'<m/\W (i+1) m' H5 ys)
section
variable {prog:Program}{w:World}{A:Around}{R:Result->Shared->Prop}{s:Shared}
theorem jA {elt target iter:Expr}{ifs:List Expr}{scope:Scope}{pos:Pos}{it acc:Value}{env:Env}(I:Nat->Shared->Prop)
  (turn:∀n s,I n s->wpAny (model prog w) A (pyNext it) (λr s₁=>match r with
   | none=>R (.ok .next) s₁
   | some v=>wpAny (model prog w) A (letOwnedTupleGo target it v) (λ_ s₀=>wpAny (model prog w) A (assign target env v) (λ_ s₂ =>
     wpAny (model prog w) A (forIn ifs true λc r=>if r=true then do let ok <-isTrue c env (eval c env);pure (ForInStep.yield ok)else pure (ForInStep.yield r)) (λok s₃ =>
      if ok=true then wpAny (model prog w) A (eval elt env) (λx s₄ =>
       wpAny (model prog w) A (call (.builtin "list.append") [acc,x]) (λ_ s₅=>∃m,m<n/\I m s₅) (notedBy (model prog w) A env λx s'=>R (.error x) s') s₄) (notedBy (model prog w) A env λx s'=>R (.error x) s') s₃
      else ∃m,m<n/\I m s₃) (notedBy (model prog w) A env λx s'=>R (.error x) s') s₂) (notedBy (model prog w) A env λx s'=>R (.error x) s') s₀) (notedBy (model prog w) A env λx s'=>R (.error x) s') s₁) (notedBy (model prog w) A env λx s'=>R (.error x) s') s)
  (n:Nat) (h:I n s) :
  codeAny (model prog w) A (.compLoop (.ListComp elt [⟨target,iter,ifs,0⟩] scope pos) 0 it acc env) R s:=by
 refine codeAny_loop rfl I (λn s hI=>?_) n h
 show wpAny _ A ((compTurn (.ListComp elt [⟨target,iter,ifs,0⟩] scope pos) 0 it acc env).onRaise (λx=>do noteFrame x env;theTreesLotGoes x)) _ _ s
 refine wpAny_noted ?_
 rw[compTurn_list]
 refine wpAny_bind (wpAny_standAt (wpAny_bind (wpAny_mono (turn n s hI) (λr s₁ h₁=>?_) λ_ _ z=>z)))
 cases r with
 | none=>exact wpAny_pure h₁
 | some v =>
  refine wpAny_bind (wpAny_mono h₁ (λ_ s₀ h₀=>?_) λ_ _ z=>z)
  refine wpAny_bind (wpAny_mono h₀ (λ_ s₂ h₂=>wpAny_bind (wpAny_mono h₂ (λok s₃ h₃=>?_) λ_ _ z=>z)) λ_ _ z=>z)
  cases ok with
  | false=>exact wpAny_pure ⟨rfl,h₃⟩
  | true =>
   exact wpAny_bind (wpAny_bind (wpAny_mono h₃ (λx s₄ h₄=>wpAny_bind (wpAny_mono h₄ (λ_ s₅ h₅=>wpAny_pure (wpAny_pure ⟨rfl,h₅⟩)) λ_ _ z=>z)) λ_ _ z=>z))
end
def xeC (X:Cx) (scope:Scope) (pins:List (Addr×Obj)) (σ:St) (Q:VK) (s3:Shared):Value->Shared->Prop:=notedBy (model X.prog X.w) X.A (compEnv scope s3.heap.objs.size X.env) λx s'=>∃m,s'.heap.Ns s3.heap.objs.size m/\∀h',Heap.SameBut s3.heap.objs.size s'.heap h' →
 wpAny (model X.prog X.w) X.A (PySem.passOn "comprehension.variables-let-go" x (compEnv scope s3.heap.objs.size X.env)) (EP X pins σ Q) X.xe { s' with heap:=h' }
theorem Zx {X:Cx}{Jx:XJ}{elt tg iter:Expr}{ifs:List Expr}{scope:Scope}{pos:Pos}{NB:List Str}{wi:TI}{g:TG}{tt:TT}{te:XJ->TE}
  (hc:X.calm=true) (hex:X.ex=[]) (hst:X.stack=X.env::X.outer){L:Addr}(hfL:X.env.frame=some L) (hJ:Qf X Jx L) (hfree:∀x∈scope.names,x.2≠.free) (hcell:∀x∈scope.names,x.2≠.cell) (hkind:scope.kind = .function) (hnames:∀x∈scope.names,x.2 = .local → scope.names.lookup x.1=some .local)
  (hi:PI X tg iter wi) (hb:∀s3 H3 fp xe JB,jE (xo X NB scope s3 H3 fp xe) JB->PG (xo X NB scope s3 H3 fp xe) tg g/\PTs (xo X NB scope s3 H3 fp xe) ifs tt/\PE (xo X NB scope s3 H3 fp xe) elt (te JB))
  (hs:∀x,foldedSetIterable iter X.env x=pure x:=by intro _;rfl) :
  PE X (.ListComp elt [⟨tg,iter,ifs,0⟩] scope pos) (zaE Jx NB.length wi g tt te):=by
 intro pins s σ H Q I h
 refine wpAny_ListComp hfree hkind hnames (thn (hi pins s σ H _ I h) λv s1 h1=>thn h1 λitv s2 h2=>?_) hs
 obtain⟨it,fp,tn,J,H2,e,I2,T,st2,f2,q2⟩:=h2
 subst e
 have hf2:H2 s2.heap.objs.size=none:=I2.hok.fresh (Nat.le_refl _)
 obtain⟨W,⟨m0,w0⟩,turn⟩:=q2 _ hf2
 refine wpAny_newObj_type (hd:=by size_fits) ?_
 have I3:Inv X pins σ (upd H2 s2.heap.objs.size (.lst [])) { s2 with heap:=s2.heap.push { cls:=.type "list",dict:=none,data:=.seq ([]:List Value).toArray } } :=
  I2.laid (t':=s2.toks) (λb u e=>Heap.get?_push_of_some _ e) (Nat.le_refl _) ⟨by decide,[],0,.nil,Heap.get?_push_size _ rfl⟩
 generalize hD:s2.heap.objs.size=D at *
 generalize hs3:({ s2 with heap:=s2.heap.push { cls:=.type "list",dict:=none,data:=.seq ([]:List Value).toArray } }:Shared)=s3 at *
 generalize hH3:upd H2 D (.lst [])=H3 at *
 have h3D:H3 D=some (.lst []):=by rw[<-hH3];exact zi
 have fpD:∀b∈fp,b≠D:=λb hb=>by
  obtain⟨o,e,_⟩:=T.obj _ _ st2 b hb
  rw[<-hD];exact Nat.ne_of_lt (Heap.lt_size e)
 have k23:∀b u,s2.heap.get? b=some u->s3.heap.get? b=some u:=λb u e=>by rw[<-hs3];exact Heap.get?_push_of_some _ e
 have st3:tn 0 s3.heap:=T.keep _ _ _ st2 λb _ o e=>k23 b o e
 have f3:∀b∈fp,vP X pins H3 b:=λb hb=>⟨by rw[<-hH3,zX (fpD b hb)];exact(f2 b hb).1,(f2 b hb).2⟩
 refine wpAny_newFunctionEnv hcell (by intro y hy;simp at hy) (λh4 hns4 hsb4=>?_) hkind
 have k34:∀b u,s3.heap.get? b=some u->h4.get? b=some u:=λb u e=>hsb4.extBut b u (Nat.ne_of_lt (Heap.lt_size e)) (Heap.get?_push_of_some _ e)
 have okB:(xo X NB scope s3 H3 fp (xeC X scope pins σ Q s3)).Ok:=by
  refine⟨I3.ok.mod,hkind,I3.ok.glob,I3.ok.blt,Nat.le_refl _,λx y c e _=>?_,λx e=>?_,λx c _ e=>?_,I3.ok.hd,I3.ok.frames,.inl rfl,λb hb=>⟨?_,λx c e=>?_⟩,I3.bs,Nat.le_trans I3.ok.bsz I3.sz,λb o e hb=>?_,λb hb z=>?_,I3.stack,I3.stkFree⟩
  ·exact absurd (show ([]:List (Str×Addr)).lookup x=some c from e) (by simp)
  ·have e':scope.names.lookup x=some .cell\/scope.names.lookup x=some .free:=e
   rcases e' with e' | e'
   ·exact absurd rfl (hcell _ (PySem.mem_of_lookup e'))
   ·exact absurd rfl (hfree _ (PySem.mem_of_lookup e'))
  ·exact absurd (show ([]:List (Str×Addr)).lookup x=some c from e) (by simp)
  ·obtain⟨o,e,_⟩:=T.obj _ _ st3 b hb
   exact Nat.ne_of_lt (Heap.lt_size e)
  ·exact absurd (show ([]:List (Str×Addr)).lookup x=some c from e) (by simp)
  ·obtain⟨_,_,_,z,_⟩:=f3 b hb
   rcases z with z | z
   ·exact I3.ok.noex b o e z
   ·exact absurd (Nat.lt_of_lt_of_le (Heap.lt_size e) (Nat.le_trans I3.ok.bsz z)) (Nat.lt_irrefl _)
  ·obtain⟨_,z1,z2,_⟩:=f3 b hb
   rcases List.mem_cons.mp (I3.stkSub b z)with e | e
   ·exact z1 e
   ·exact z2 e
 have IB:Inv (xo X NB scope s3 H3 fp (xeC X scope pins σ Q s3)) [] (List.replicate NB.length none) H3 { s3 with heap:=h4,toks:=s3.toks+([]:List (Str×Value)).length }:=by
  refine⟨okB,rfl,I3.bare,Un.kept k34,⟨_,hns4,λi x v _ e _=>?_⟩,λx c e=>?_,I3.hok.fresh (Nat.le_refl _),λx c e=>?_,λp hp=>?_,I3.hok.kept k34,by simp[xo,xH]⟩
  ·rw[List.getElem?_replicate]at e
   split at e <;> cases e
  ·exact absurd (show ([]:List (Str×Addr)).lookup x=some c from e) (by simp)
  ·exact absurd (show ([]:List (Str×Addr)).lookup x=some c from e) (by simp)
  ·exact absurd (show p∈([]:List (Addr×Obj))from hp) (by simp)
 have st4:tn 0 h4:=T.keep _ _ _ st3 λb _ o e=>k34 b o e
 have C_ne:∀b∈fp,b≠s3.heap.objs.size:=λb hb=>(okB.exf b hb).1
 have stat:∀{H':Hp},(∀b∈fp,H' b=none)->∀b∈fp,vP (xo X NB scope s3 H3 fp (xeC X scope pins σ Q s3)) [] H' b:=λhn b hb =>
  ⟨hn b hb,C_ne b hb,okB.exfs b hb,.inl hb,λx c e=>absurd (show ([]:List (Str×Addr)).lookup x=some c from e) (by simp),λp hp=>absurd (show p∈([]:List (Addr×Obj))from hp) (by simp)⟩
 have bB:jE (xo X NB scope s3 H3 fp (xeC X scope pins σ Q s3)) (λC d _ H'=>Jx C d σ H'):=by
  intro pinsB σB Hb sb a C H' s' B a0 dct IJ F q
  have F:Fly X.prog X.w X.stack Hb sb C H' a s' B a0 dct:=F
  have hfrm:X.A.frames=some (X.env::X.outer):=by rw[<-hst];exact I3.ok.frames
  have Ffl:FlX B (X.env::X.outer) a (.ref C) a0 dct s'.heap:=by rw[<-hst];exact F.fly
  have baseU:Un (frs X.stack) fp H3 Hb s3.heap sb.heap:=IJ.base
  have freeL:Hb s3.heap.objs.size=none:=IJ.free
  obtain⟨mL,hnsL,_⟩:=IJ.loc
  have hnsL:sb.heap.Ns s3.heap.objs.size mL:=hnsL
  obtain⟨oL,es,ep,hoL,rL⟩:=id hnsL
  have nfr:s3.heap.objs.size∉frs X.stack:=λz=>by
   rcases List.mem_cons.mp (I3.stkSub _ z)with r | r
   ·exact absurd (I3.lt) (by rw[r];exact Nat.lt_irrefl _)
   ·exact absurd r (I3.nofs (Nat.le_refl _))
  have BL:B.get? s3.heap.objs.size=some oL:=(F.kb _ oL hoL nfr).2 freeL
  have HL:H' s3.heap.objs.size=none:=F.un.free _ oL hoL freeL (by simp)
  show wpAny (model X.prog X.w) X.A (noteFrame (.ref a) X.env) _ _ s'
  refine VL hfrm hfL Ffl λh2 fl2 up2=>?_
  refine⟨mL,⟨oL,es,ep,fl2.1 _ _ BL,rL⟩,λh3 sb3=>?_⟩
  show wpAny (model X.prog X.w) X.A (PySem.passOn "comprehension.variables-let-go" (.ref a) X.env) _ _ { s' with heap:=h3 }
  have fl3:FlN (PySem.W.hideAll B [s3.heap.objs.size]) (X.env::X.outer) a (.ref C) a0 dct L h3:=fl2.but sb3 BL
  refine QQ hfL fl3 λh4 fl4 up4=>?_
  have upT:∀b o,b≠s3.heap.objs.size->s'.heap.get? b=some o->(∀vs,o.data≠.fields vs)->∃sl,h4.get? b=some { o with slots:=sl }:=λb o nb e hn=>by
   obtain⟨sl2,e2⟩:=up2 b o e hn
   exact up4 b { o with slots:=sl2 } ((sb3.2 b nb).trans e2) hn
  have ne3:∀b o,s3.heap.get? b=some o->b≠s3.heap.objs.size:=λb o e=>Nat.ne_of_lt (Heap.lt_size e)
  have kb3:∀b o,s3.heap.get? b=some o->b∉frs X.stack->b∉fp->(∃o',(PySem.W.hideAll B [s3.heap.objs.size]).get? b=some o')/\(H3 b=none->(PySem.W.hideAll B [s3.heap.objs.size]).get? b=some o):=λb o e hb hx=>by
   have nb:b∉[s3.heap.objs.size]:=λz=>ne3 b o e (List.mem_singleton.mp z)
   obtain⟨o1,e1⟩:=baseU.there b o e hx
   obtain⟨⟨o2,e2⟩,_⟩:=F.kb b o1 e1 hb
   refine⟨⟨o2,PySem.W.hideAll_get _ e2 nb⟩,λhn=>PySem.W.hideAll_get _ ?_ nb⟩
   exact(F.kb b o (baseU.keep b o e hn hb hx) hb).2 (baseU.free b o e hn hx)
  have kt3:∀b u,H' b=some u->∃o,(PySem.W.hideAll B [s3.heap.objs.size]).get? b=some o:=λb u e=>by
   obtain⟨o,e1⟩:=F.kt b u e
   exact⟨o,PySem.W.hideAll_get _ e1 λz=>by rw[List.mem_singleton.mp z,HL]at e;cases e⟩
  refine hJ pins σ H3 s3 fp (λb hb=>?_) a C H' { s' with heap:=h4 } _ a0 dct I3 (F.os.trans ((show sb.os=s3.os from IJ.os).trans I3.os)) F.bare ?_ ?_ (by rw[hst];exact fl4) kb3 kt3 q
  ·obtain⟨_,_,_,z,_⟩:=f3 b hb
   rcases z with z | z
   ·rw[hex]at z;cases z
   ·exact z
  ·refine⟨λb o e hn hb hx=>fl4.1 b o ((kb3 b o e hb hx).2 hn),λb o e hn hb hx=>?_,λb o e hn hx=>?_,λb o e hx=>?_,λb xs e=>F.un.tups b xs (baseU.tups b xs e),λb o u e=>F.un.frzs b o u (baseU.frzs b o u e),λb ps e=>?_⟩
   ·obtain⟨sl1,e1⟩:=baseU.slot b o e hn hb hx
    obtain⟨sl2,e2⟩:=F.un.slot b _ e1 (baseU.free b o e hn hx) hb (by simp)
    obtain⟨_,o',ho',hd⟩:=F.fly.2.2.1.mem hb
    have z:some o'=some _:=ho'.symm.trans e2
    cases z
    obtain⟨sl3,e3⟩:=upT b _ (ne3 b o e) e2 hd
    exact⟨sl3,e3⟩
   ·obtain⟨o1,e1⟩:=baseU.there b o e hx
    exact F.un.free b o1 e1 (baseU.free b o e hn hx) (by simp)
   ·by_cases hb:b∈frs X.stack
    ·obtain⟨_,o',ho',hd⟩:=F.fly.2.2.1.mem hb
     obtain⟨sl,e1⟩:=upT b o' (ne3 b o e) ho' hd
     exact⟨_,e1⟩
    ·obtain⟨⟨o',e1⟩,_⟩:=kb3 b o e hb hx
     exact⟨o',fl4.1 b o' e1⟩
   ·obtain⟨m1,e1⟩:=baseU.tbls b ps e
    obtain⟨m2,e2⟩:=F.un.tbls b _ e1
    exact⟨m1++m2,by rw[e2,Array.append_assoc]⟩
  ·refine j1 F.hok (k1:=λb o e=>F.fly.1 b o (PySem.W.of_hideAll _ e)) (k2:=fl4.1) kt3
 obtain⟨hg,ht,he⟩:=hb s3 H3 fp (xeC X scope pins σ Q s3) _ bB
 have fin:∀{σ':St}{H':Hp}{s':Shared},Inv (xo X NB scope s3 H3 fp (xeC X scope pins σ Q s3)) [] σ' H' s'->Q (.ref D) H' →
   ∃m,s'.heap.Ns s3.heap.objs.size m/\∀h',Heap.SameBut s3.heap.objs.size s'.heap h'->EP X pins σ Q (.ref D) { s' with heap:=h' }:=λ{σ' H' s'} J q=>by
  obtain⟨m,hm,_⟩:=J.loc
  refine⟨m,hm,λh' sb=>⟨.ref D,H',?_,rfl,q⟩⟩
  have neC:∀b o,s3.heap.get? b=some o->b≠s3.heap.objs.size:=λb o e=>Nat.ne_of_lt (Heap.lt_size e)
  have hfr:H' s3.heap.objs.size=none:=J.free
  have up:∀b o,b≠s3.heap.objs.size->s'.heap.get? b=some o->h'.get? b=some o:=λb o hb e=>(sb.2 b hb).trans e
  have hok':HOk X.prog X.w H' h':=λb ob e=>(J.hok b ob e).stay (λc w' hc q=>up c w' (by
   rintro rfl
   rcases hc with rfl | hc
   ·rw[hfr]at e;cases e
   ·rw[hfr]at hc;cases hc) q) (λ_ q=>q) λ_ _ q=>q
  have u:Un (frs X.stack) fp H3 H' s3.heap h' :=
   ⟨λb o e n hb hx=>up b o (neC b o e) (J.base.keep b o e n hb hx),λb o e n hb hx=>by
    obtain⟨sl,e'⟩:=J.base.slot b o e n hb hx
    exact⟨sl,up b _ (neC b o e) e'⟩,J.base.free,λb o e hx=>by
    obtain⟨o',e'⟩:=J.base.there b o e hx
    exact⟨o',up b _ (neC b o e) e'⟩,J.base.tups,J.base.frzs,J.base.tbls⟩
  refine I3.call' (s':={ s' with heap:=h' }) (ch:=fp) J.os u hok' J.bare λb hb=>?_
  obtain⟨z0,z1,z2,z3,z4,z5⟩:=f3 b hb
  exact⟨z3,z1,z4,z5⟩
 have loop:∀s5:Shared,s5 = { s3 with heap:=h4,toks:=s3.toks+([]:List (Str×Value)).length } →
   codeAny (model X.prog X.w) X.A (.compLoop (.ListComp elt [⟨tg,iter,ifs,0⟩] scope pos) 0 (.ref it) (.ref D) (compEnv scope s3.heap.objs.size X.env))
    (λr s'=>∃m,s'.heap.Ns s3.heap.objs.size m/\∀h',Heap.SameBut s3.heap.objs.size s'.heap h' →
     match r with | .ok _=>EP X pins σ Q (.ref D) { s' with heap:=h' } | .error x=>wpAny (model X.prog X.w) X.A (PySem.passOn "comprehension.variables-let-go" x (compEnv scope s3.heap.objs.size X.env)) (EP X pins σ Q) X.xe { s' with heap:=h' }) s5:=by
  rintro s5 rfl
  refine jA (λn s'=>∃i σ' H' ys,Inv (xo X NB scope s3 H3 fp (xeC X scope pins σ Q s3)) [] σ' H' s'/\tn i s'.heap/\(∀b∈fp,H' b=none)/\H' D=some (.lst ys)/\W i n H' ys) ?_ m0
   ⟨0,_,H3,[],IB,st4,λb hb=>(f3 b hb).1,h3D,by rw[<-hH3]at *;exact w0⟩
  rintro n s6 ⟨i,σ6,H6,ys,I6,st6,fr6,hD6,w6⟩
  rcases turn i n H6 ys w6 hD6 with⟨stop,qn⟩ | ⟨go,step⟩
  ·refine thn (T.done (xo X NB scope s3 H3 fp (xeC X scope pins σ Q s3)) rfl rfl rfl hc i [] s6 σ6 H6 _ I6 (stat fr6) st6 stop) λr s7 ⟨hr,I7⟩=>?_
   subst hr
   exact fin I7 qn
  ·refine thn (T.item (xo X NB scope s3 H3 fp (xeC X scope pins σ Q s3)) rfl rfl rfl hc i [] s6 σ6 H6 _ I6 (stat fr6) st6 go) λr s7 ⟨u,hr,h7⟩=>?_
   subst hr
   refine thn h7 λ_ s8 ⟨x,H8,I8,r8,y8,st8,fr8⟩=>?_
   have I8':=I8.pinned (stat fr8) (T.obj _ _ st8)
   have again:∀{σ9:St}{H9:Hp}{s9:Shared}{zs:List V}{m':Nat},Inv (xo X NB scope s3 H3 fp (xeC X scope pins σ Q s3)) ([]++vn fp s8.heap) σ9 H9 s9->H9 D=some (.lst zs)->m'<n->W (i+1) m' H9 zs →
     ∃m,m<n/\∃i σ' H' ys,Inv (xo X NB scope s3 H3 fp (xeC X scope pins σ Q s3)) [] σ' H' s9/\tn i s9.heap/\(∀b∈fp,H' b=none)/\H' D=some (.lst ys)/\W i m H' ys:=λ{σ9 H9 s9 zs m'} I9 hz hm w9=>by
    refine⟨m',hm,i+1,σ9,H9,zs,I9.unpinned,T.keep _ _ _ st8 λb hb o e=>(I9.pin (b,o) (List.mem_append_right _ (List.mem_append_right _ (xz hb e)))).1,λb hb=>?_,hz,w9⟩
    obtain⟨o,e,d⟩:=T.obj _ _ st8 b hb
    exact(I9.pin (b,o) (List.mem_append_right _ (List.mem_append_right _ (xz hb e)))).2.1
   refine thn (hg _ s8 σ6 H8 x u _ I8' r8 (step σ6 x H8 I6.len y8)) λ_ s9 ⟨σ9,H9,I9,q9⟩=>?_
   refine thn (ht _ s9 σ9 H9 _ I9 q9) λok s10 ⟨H10,I10,q10⟩=>?_
   cases ok with
   | false =>
    rw[if_neg (by decide)]at q10 ⊢
    obtain⟨hz,m',hm,w'⟩:=q10
    exact again I10 hz hm w'
   | true =>
    rw[if_pos rfl]at q10 ⊢
    refine thn (he _ s10 σ9 H10 _ I10 q10) λy s11 ⟨v,H11,I11,r11,hz,hlen,m',hm,w'⟩=>?_
    refine thn (qi _ s11 σ9 H11 (.ref D) [v] (.ref D) [y] (λ_ H12=>H12=upd H11 D (.lst (ys++[v]))) I11 rfl (.cons r11 .nil) ⟨D,ys,v,rfl,rfl,hz,hlen,rfl⟩) λ_ s12 ⟨_,H12,I12,_,e12⟩=>?_
    subst e12
    exact again I12 zi hm w'
 exact codeAny_compStart_list (loop _ rfl) (T.self X.A 0 _ _ _ st4 (loop _ rfl))
end L2
end
section
set_option maxHeartbeats 4000000
set_option Elab.async false
set_option linter.all false
set_option maxRecDepth 100000
namespace L2
open PySem PySem.Spec PyProof.Rows PySem.Builtin.Str
section
variable {X:Cx}
def zaM (i j:Int):Prop:=0<=j/\(Builtin.Int.intBits i:Int)*j<=2^27
theorem V6:OpR X (binaryOp .Pow) (rI zaM λi j=>.int (i^j.toNat)):=opI λ_ _ _ _ _ _ _ hc q=>pow_int hc.1 hc.2 q
theorem jY:qA X (.builtin "divmod") (λxs H Q=>∃i j,xs=[.int i,.int j]/\0<j/\Bd 8900 j/\∀p,H p=none->Q (.ref p) (upd H p (.tup [.int (i/j),.int (i % j)]))):=by
 intro pins s σ H xs us Q I r h
 obtain⟨i,j,rfl,h1,h2,q⟩:=h
 obtain⟨u,w',rfl,⟨t,rfl⟩,⟨t',rfl⟩⟩:=Vt r
 have hj:j.natAbs≠0:=by omega
 have hj2:j.natAbs<2^9000:=Nat.lt_of_lt_of_le h2 (Nat.pow_le_pow_right (by decide) (by decide))
 refine divmod_int (by omega) ?_ (.inl (PyProof.noPylong_of_log2 ((Nat.log2_lt hj).mpr hj2)))
 rw[Int.fdiv_eq_ediv_of_nonneg i (by omega),Int.fmod_eq_emod_of_nonneg i (by omega)]
 have hn:H s.heap.objs.size=none:=I.hok.fresh (Nat.le_refl _)
 refine⟨.ref s.heap.objs.size,_,?_,rfl,q _ hn⟩
 exact I.laid (t':=s.toks+1+1) (o:=.tup [.int (i/j),.int (i % j)]) (λb ob e=>Heap.get?_push_of_some _ e) (Nat.le_refl _) ⟨by show 2<=sizeLine;decide,_,.cons ⟨_,rfl⟩ (.cons ⟨_,rfl⟩ .nil),_,Heap.get?_push_size _ rfl,rfl,0,rfl⟩
theorem QE:MtR X "str.zfill" (λx vs H Q=>∃a i,x = .str a/\vs=[.int i]/\PadOk i=true/\Q (.str (Txt.zfill a i)) H):=by
 intro pins s σ H x xs v us Q I rx rs h
 obtain⟨a,i,rfl,rfl,hp,q⟩:=h
 obtain⟨t,rfl⟩:=rx
 obtain⟨u,rfl,ru⟩:=qv rs
 obtain⟨t',rfl⟩:=ru
 exact SC.zfill hp λt' k=>⟨.str _,H,I.tok _,⟨_,rfl⟩,q⟩
theorem Zn (x:Array Nat):∀(n:Nat) (acc:Array Nat),(List.replicate n x).foldl (·++·) acc=acc++(List.replicate n x.toList).flatten.toArray
 | 0,acc=>by simp
 | n+1,acc=>by
  rw[List.replicate_succ,List.foldl_cons,Zn x n,List.replicate_succ,List.flatten_cons]
  apply Array.toList_inj.mp
  simp
theorem vk:OpR X (binaryOp .Mult) (λx y H Q=>∃a n,x = .str a/\y = .int n/\2<=n/\n<=1000/\1<=a.length/\a.length<=10/\Q (.str ⟨(List.replicate n.toNat a.cps).foldl (·++·) #[]⟩) H):=by
 intro pins s σ H x y v u Q I rx ry h
 obtain⟨a,n,rfl,rfl,n2,n3,l1,l2,q⟩:=h
 obtain⟨t,rfl⟩:=rx
 obtain⟨t',rfl⟩:=ry
 have e1:(n == 1 || a.length == 0)=false:=by
  rw[Bool.or_eq_false_iff];exact⟨beq_eq_false_iff_ne.mpr (by omega),beq_eq_false_iff_ne.mpr (by omega)⟩
 have hm:a.length*n.toNat<=10*1000:=Nat.mul_le_mul l2 (by omega)
 refine PySem.P.mul_str (by rw[decide_eq_false (by omega),decide_eq_false (by omega)];rfl) (λ_ _=>?_) (λ_ _=>?_) ?_
 ·have:(2^63 - 1:Int)/n>=10:=by
   refine Int.le_ediv_of_mul_le (by omega) ?_
   omega
  omega
 ·unfold tooLong;exact decide_eq_false (by rw[sizeLine_eq];omega)
 ·rw[if_neg (by omega),e1]
  refine⟨?_,⟨.str _,H,I.tok _,⟨_,rfl⟩,q⟩⟩
  show Array.size _<=_
  rw[Zn]
  have h1:a.cps.size<=10:=l2
  have:(List.replicate n.toNat a.cps.toList).flatten.length=n.toNat*a.cps.size:=by simp
  have h2:n.toNat*a.cps.size<=1000*10:=Nat.mul_le_mul (by omega) h1
  rw[Array.size_append]
  show 0+(List.replicate n.toNat a.cps.toList).flatten.toArray.size<=_
  rw[List.size_toArray,this,sizeLine_eq]
  omega
end
end L2
end
section
set_option maxHeartbeats 8000000
set_option Elab.async false
set_option linter.all false
set_option maxRecDepth 100000
namespace L2
open PySem PySem.Spec PyProof.Rows
section
variable {prog:Program}{w:World}{A:Around}{E:Value->Shared->Prop}{s:Shared}
theorem Zq {h h':Heap}{l a:Addr}{items:Array Value}(hl:h.IsList l items) (he:Heap.ExtBut a h h') (n:l≠a):h'.IsList l items:=by
 obtain⟨o,ho,r⟩:=hl
 exact⟨o,he l o n ho,r⟩
theorem jf {it l:Addr}{items:Array Value}(hne:l≠it):∀(n i:Nat) (s:Shared) (Q:List Value->Shared->Prop),s.heap.IsListIter it l i->s.heap.IsList l items->i+n<=items.size →
  (∀h',h'.IsListIter it l (i+n)->Heap.SameBut it s.heap h'->Q ((items.toList.drop i).take n) { s with heap:=h' })->wpAny (model prog w) A (draw (.ref it) n) Q E s
 | 0,i,s,Q,hit,_,_,hQ=>by
  show wpAny _ _ (pure []) Q E s
  exact wpAny_pure (by simpa using hQ s.heap hit (Heap.SameBut.refl ..))
 | n+1,i,s,Q,hit,ht,hle,hQ=>by
  have hlt:i<items.size:=by omega
  show wpAny _ _ (pyNext (.ref it) >>= _) Q E s
  refine wpAny_bind (wpAny_pyNext_list_item hit ht (x:=items[i]) (by simp[hlt]) λh₁ hit₁ hs₁=>?_)
  refine wpAny_bind (wpAny_holding (jf hne n (i+1) _ _ hit₁ (Zq ht hs₁.extBut hne) (by omega) λh₂ hit₂ hs₂=>wpAny_pure ?_))
  have hd:items.toList.drop i=items[i]::items.toList.drop (i+1):=by simp[List.drop_eq_getElem_cons,hlt]
  have:=hQ h₂ (by rw[show i+(n+1)=i+1+n by omega];exact hit₂) (hs₁.trans hs₂)
  rw[hd,List.take_succ_cons]at this
  exact this
theorem vM {l:Addr}{items:Array Value}{Q:List Value->Shared->Prop}(hh:A.handled=none) (ht:s.heap.IsList l items)
  (hQ:∀h',Heap.ExtBut s.heap.objs.size s.heap h'->Q items.toList { s with heap:=h' }):wpAny (model prog w) A (unpackItems (.ref l) items.size none) Q E s:=by
 have hlt:l≠s.heap.objs.size:=by obtain⟨o,ho,_⟩:=ht;exact Nat.ne_of_lt (Heap.lt_size ho)
 have pu:(s.heap.push { cls:=.type "list_iterator",data:=.fields #[.ref l,.int 0 0] }).IsList l items:=by
  obtain⟨o,ho,r⟩:=ht;exact⟨o,Heap.get?_push_of_some _ ho,r⟩
 unfold unpackItems
 refine wpAny_bind ?_
 unfold notIterableAtAll
 refine wpAny_bind (wpAny_specialOf ht.typeIs slot_list_iter.lookup ?_)
 refine wpAny_pure ?_
 simp only[Bool.false_eq_true,if_false]
 refine wpAny_bind (wpAny_holding (wpAny_pyIter_list ht ?_))
 refine wpAny_bind (wpAny_holding (jf hlt items.size 0 _ _ ⟨_,Heap.get?_push_size _ rfl,rfl,rfl⟩ pu (by omega) λh₁ hit₁ hs₁=>?_))
 have hall:List.take items.size (List.drop 0 items.toList)=items.toList:=by
  rw[List.drop_zero];exact List.take_of_length_le (by simp)
 rw[hall]
 rw[if_neg (by simp)]
 have ht₁:h₁.IsList l items:=Zq pu hs₁.extBut hlt
 refine wpAny_bind (wpAny_holding (wpAny_pyNext_list_end hh hit₁ ht₁ (by simp) λh₂ he₂=>?_))
 simp only[Option.isSome_none,Bool.false_eq_true,if_false]
 refine wpAny_pure (hQ h₂ λb o hb e=>he₂ b o hb (hs₁.extBut b o hb (Heap.get?_push_of_some _ e)))
end
section
variable {X:Cx}{pos:Pos}
def zaS (K:PySem.W.Frag) (n:Nat) (t:TGs):TG:=λv σ H Q=>∃a xs,v = .ref a/\SqL K H a xs/\xs.length=n/\t xs σ H Q
theorem vZ {es:List Expr}{k:Nat}{t:TGs}{n:Nat}(hc:X.calm=true) (h:PGs X es t)
  (hn:(assignEach es X.env).length=n:=by rfl) (hst:(assignEach es X.env).findIdx? (·.1)=none:=by rfl):PG X (.Tuple es k pos) (zaS X.K n t):=by
 intro pins s σ H v u Q I r hw
 obtain⟨a,xs,e1,hq,hl,hw⟩:=hw
 subst e1
 cases r
 obtain⟨its,rv,ht,hz⟩:=I.list hq
 rw[assign_Tuple]
 refine wpAny_bind (wpAny_standAt ?_)
 unfold unpack
 have hsz:(assignEach es X.env).length=its.toArray.size:=by simp[hn,<-hl,rv.length]
 rw[hsz,hst]
 refine wpAny_bind (wpAny_holding (vM (I.ok.hd hc) ht.isList λh' hx=>?_))
 have I1:Inv X pins σ H { s with heap:=h' }:=I.kept (t':=s.toks) λb o e=>hx b o (Nat.ne_of_lt (Heap.lt_size e)) e
 exact h pins _ σ H xs _ Q I1 (by simpa using rv) hw
end
end L2
end
section
set_option maxHeartbeats 4000000
set_option Elab.async false
set_option linter.all false
set_option maxRecDepth 100000
namespace KK
open PySem PySem.Builtin.Str PySem.NumText
def TX (l:List Nat):Str:=⟨l.toArray⟩
theorem zG (l:List Nat):(TX l).cps.toList=l:=by simp[TX]
theorem qu (x:Str):TX x.cps.toList=x:=by cases x;simp[TX]
theorem zv (l:List Nat):(TX l).length=l.length:=by simp[TX,Str.length]
theorem zE (a b:List Nat):TX a++TX b=TX (a++b):=by show Str.mk (a.toArray++b.toArray)=Str.mk (a++b).toArray;simp
theorem Vr {a b:List Nat}(h:TX a=TX b):a=b:=by rw[<-zG a,h,zG]
theorem Xd (l:List Nat) (i j:Nat):strSub (TX l) i j=TX ((l.drop i).take (j - i)):=by
 rw[<-qu (strSub (TX l) i j),StrLaws.strSub_toList,zG]
theorem Qh {l ys:List Nat}{k:Nat}:StrLaws.At (TX l) (TX ys) (TX l).length k↔k+ys.length<=l.length/\(l.drop k).take ys.length=ys:=by
 unfold StrLaws.At
 rw[StrLaws.subAt_eq,zG,zG,zv,zv,beq_iff_eq]
theorem Xe {l ys:List Nat}{k j c:Nat}(h:StrLaws.At (TX l) (TX ys) (TX l).length k) (e:ys[j]? = some c):l[k+j]? = some c:=by
 obtain⟨_,h⟩:=Qh.mp h
 have hj:j<ys.length:=(List.getElem?_eq_some_iff.mp e).1
 rw[<-h,List.getElem?_take_of_lt hj,List.getElem?_drop]at e
 exact e
theorem ZJ (a ys b:List Nat):StrLaws.At (TX (a++ys++b)) (TX ys) (TX (a++ys++b)).length a.length:=by
 refine Qh.mpr ⟨by simp,?_⟩
 rw[List.append_assoc,List.drop_left,List.take_left]
theorem Xn (x:Str):1<=Builtin.Str.strKind x:=by unfold Builtin.Str.strKind;split;decide;split <;> decide
theorem Vh {x y:Str}(hy:1<=y.length) (h:∀k,¬StrLaws.At x y x.length k):Txt.split x y=[x]:=by
 obtain⟨f,hG,hn⟩:=StrLaws.occ_tight x y hy
 unfold Txt.split
 split
 ·rfl
 ·split
  ·rfl
  ·rename_i he
   exfalso
   cases ho:occurrences x y 0 x.length (x.length+1)with
   | nil=>rw[ho]at he;exact he rfl
   | cons c r=>rw[ho]at hG;exact h c hG.2.1
theorem VM {x y:Str}{p:Nat}(hy:1<=y.length) (h:∀k,StrLaws.At x y x.length k↔k=p):occurrences x y 0 x.length (x.length+1)=[p]:=by
 obtain⟨f,hG,hn⟩:=StrLaws.occ_tight x y hy
 have hp:=(h p).mpr rfl
 cases ho:occurrences x y 0 x.length (x.length+1)with
 | nil=>rw[ho]at hG;have e:f=0:=hG;exact absurd hp (hn p (by omega))
 | cons c r =>
  rw[ho]at hG
  have ec:c=p:=(h c).mp hG.2.1
  subst ec
  cases r with
  | nil=>rfl
  | cons d r=>have ed:=(h d).mp hG.2.2.2.2.1;have:=hG.2.2.2.1;omega
theorem X8 {x y:Str}{p:Nat}(hy:1<=y.length) (hk:Builtin.Str.strKind y=1) (h:∀k,StrLaws.At x y x.length k↔k=p):Txt.split x y=[strSub x 0 p,strSub x (p+y.length) x.length]:=by
 have hp:=(h p).mpr rfl
 have ho:=VM hy h
 have hf:¬(decide (x.length<y.length) || decide (Builtin.Str.strKind x<Builtin.Str.strKind y))=true:=by
  have h1:=hp.1
  have h2:=Xn x
  rw[hk]
  simp only[Bool.or_eq_true,decide_eq_true_eq]
  omega
 unfold Txt.split
 rw[if_neg hf,ho,if_neg (by simp),StrLaws.partsBetween_eq]
 rfl
theorem Z8 {x y:Str}{p q:Nat}(hy:1<=y.length) (hp:StrLaws.At x y x.length p) (hq:StrLaws.At x y x.length q) (hpq:p+y.length<=q):(Txt.split x y).length≠2\/Builtin.Str.strKind x<Builtin.Str.strKind y:=by
 obtain⟨f,hG,hn⟩:=StrLaws.occ_tight x y hy
 by_cases hk:Builtin.Str.strKind x<Builtin.Str.strKind y
 ·exact .inr hk
 refine .inl ?_
 have hf:¬(decide (x.length<y.length) || decide (Builtin.Str.strKind x<Builtin.Str.strKind y))=true:=by
  have h1:=hp.1
  simp only[Bool.or_eq_true,decide_eq_true_eq]
  omega
 unfold Txt.split
 rw[if_neg hf]
 cases ho:occurrences x y 0 x.length (x.length+1)with
 | nil=>rw[ho]at hG;have e:f=0:=hG;exact absurd hp (hn p (by omega))
 | cons c r =>
  rw[ho]at hG
  rw[if_neg (by simp),StrLaws.partsBetween_eq]
  cases r with
  | nil =>
   exfalso
   have ef:f=c+y.length:=hG.2.2.2
   have hc:c<=p:=by
    rcases Nat.lt_or_ge p c with z | z
    ·exact absurd hp (hG.2.2.1 p (Nat.zero_le _) z)
    ·exact z
   exact hn q (by omega) hq
  | cons d r =>
   show (strSub x 0 c::strSub x (c+y.length) d::StrLaws.partsFrom x y.length (d+y.length) r).length≠2
   obtain⟨z,w,e⟩:=StrLaws.partsFrom_ne x y.length (d+y.length) r
   rw[e];simp
theorem QU {a ys b:List Nat}{n j0 c:Nat}(ha:c∉a) (hb:c∉b) (hu:∀i,ys[i]? = some c->i=j0) (h:(a++ys++b)[n]? = some c):n=a.length+j0:=by
 rw[List.append_assoc]at h
 rcases Nat.lt_or_ge n a.length with z | z
 ·rw[List.getElem?_append_left z]at h;exact absurd (List.mem_of_getElem? h) ha
 ·rw[List.getElem?_append_right z]at h
  rcases Nat.lt_or_ge (n - a.length) ys.length with z2 | z2
  ·rw[List.getElem?_append_left z2]at h
   have:=hu _ h
   omega
  ·rw[List.getElem?_append_right z2]at h;exact absurd (List.mem_of_getElem? h) hb
theorem vK {a ys b:List Nat}{j0 c:Nat}(hj:ys[j0]? = some c) (hk:Builtin.Str.strKind (TX ys)=1) (ha:c∉a) (hb:c∉b) (hu:∀i,ys[i]? = some c->i=j0):Txt.split (TX (a++ys++b)) (TX ys)=[TX a,TX b]:=by
 have hl:1<=ys.length:=by have:=(List.getElem?_eq_some_iff.mp hj).1;omega
 rw[X8 (p:=a.length) (by rw[zv];exact hl) hk λk=>⟨λh=>?_,λe=>by rw[e];exact ZJ a ys b⟩]
 ·rw[Xd,Xd,zv,zv]
  have e1:((a++ys++b).drop 0).take (a.length - 0)=a:=by simp
  have e2:((a++ys++b).drop (a.length+ys.length)).take ((a++ys++b).length - (a.length+ys.length))=b:=by
   rw[show a.length+ys.length=(a++ys).length by simp,List.drop_left]
   exact List.take_of_length_le (by simp;omega)
  rw[e1,e2]
 ·have:=QU ha hb hu (Xe h hj)
  omega
theorem split_free {l ys:List Nat}{j0 c:Nat}(hj:ys[j0]? = some c) (hl:c∉l):Txt.split (TX l) (TX ys)=[TX l] :=
 Vh (by rw[zv];have:=(List.getElem?_eq_some_iff.mp hj).1;omega) λk h=>hl (List.mem_of_getElem? (Xe h hj))
theorem Zf {x y p:Str}(h:Txt.split x y=[p]):p=x:=by
 have:=StrLaws.join_split x y
 rw[h]at this
 exact this
theorem jx (x y:Str):∃p r,Txt.split x y=p::r:=by
 unfold Txt.split
 split
 ·exact⟨_,_,rfl⟩
 ·split
  ·exact⟨_,_,rfl⟩
  ·rw[StrLaws.partsBetween_eq];exact StrLaws.partsFrom_ne ..
theorem jS (l:List Nat) (a:Nat):∀m:Nat,((List.range m).map (a + ·)).filterMap (l.toArray[·]?)=(l.drop a).take m
 | 0=>by simp
 | m+1=>by
  rw[List.range_succ,List.map_append,List.filterMap_append,jS l a m,List.take_add_one,List.getElem?_drop]
  congr 1
  cases h:l[a+m]? with
  | none=>simp[h]
  | some c=>simp[h]
theorem ZD {x:Str}{lo hi:Option Int}{a b:Nat}(h:strSliceIndices lo hi 1 x.length=sliceRange a b 1) (hb:b<=x.length):Txt.slice x lo hi=TX ((x.cps.toList.drop a).take (b - a)):=by
 unfold Txt.slice
 rw[h,sliceRange_one]
 have hx:x.cps.toList.length=x.length:=by simp[Str.length]
 split
 ·rename_i hc
  have e:b - a=x.length:=by simpa using hc
  have ha:a=0\/x.length=0:=by omega
  conv=>lhs;rw[<-qu x]
  congr 1
  rw[List.take_of_length_le (by rw[List.length_drop];omega)]
  rcases ha with rfl | z
  ·simp
  ·have:x.cps.toList=[]:=List.length_eq_zero_iff.mp (by omega)
   rw[this];simp
 ·have:=jS x.cps.toList a (b - a)
  rw[<-this]
  show Str.mk _=Str.mk _
  congr 2
theorem jw (x:Str) (i:Nat):Txt.slice x (some (i:Int)) none=TX (x.cps.toList.drop i):=by
 have hx:x.cps.toList.length=x.length:=by simp[Str.length]
 rw[ZD (a:=min i x.length) (b:=x.length) ?_ (Nat.le_refl _)]
 ·rw[List.take_of_length_le (by rw[List.length_drop];omega)]
  congr 1
  rcases Nat.le_total i x.length with z | z
  ·rw[Nat.min_eq_left z]
  ·rw[Nat.min_eq_right z,List.drop_of_length_le (by omega),List.drop_of_length_le (by omega)]
 ·unfold strSliceIndices
  simp only[show (1:Int)>0 by decide,if_true]
  congr 1
  rw[if_neg (by omega)]
  omega
theorem Z6 (x:Str) (j:Nat):Txt.slice x none (some (j:Int))=TX (x.cps.toList.take j):=by
 have hx:x.cps.toList.length=x.length:=by simp[Str.length]
 rw[ZD (a:=0) (b:=min j x.length) ?_ (Nat.min_le_right _ _)]
 ·rw[List.drop_zero,Nat.sub_zero]
  congr 1
  rcases Nat.le_total j x.length with z | z
  ·rw[Nat.min_eq_left z]
  ·rw[Nat.min_eq_right z,List.take_of_length_le (by omega),List.take_of_length_le (by omega)]
 ·unfold strSliceIndices
  simp only[show (1:Int)>0 by decide,if_true]
  congr 1
  rw[if_neg (by omega)]
  omega
theorem jy (x:Str) (c:Nat):Txt.startswith x ⟨#[c]⟩=decide (x.cps.toList.head? = some c):=by
 have hx:x.cps.toList.length=x.length:=by simp[Str.length]
 unfold Txt.startswith
 rw[StrLaws.subAt_eq]
 show (decide (0+1<=x.length)&&((x.cps.toList.drop 0).take 1 == [c]))=_
 rw[List.drop_zero,<-hx]
 cases x.cps.toList with
 | nil=>rfl
 | cons d r =>
  simp
  by_cases e:d=c
  ·simp[e]
  ·simp[e]
end KK
end
section
set_option maxHeartbeats 4000000
set_option Elab.async false
set_option linter.all false
set_option maxRecDepth 100000
namespace KK
open PySem PySem.Builtin.Str PySem.NumText
def qw (c:Nat):Bool:=decide (48<=c)&&decide (c<=57)
def xF (l:List Nat):Bool:=decide (1<=l.length)&&decide (l.length<=300)&&l.all qw&&(decide (l=[48]) || !decide (l.head? = some 48))
def rdN (x:Str):Option Int:=if xF x.cps.toList=true then some ((digitsVal x.cps.toList:Nat):Int)else none
def rdW (x:Str):Option Int:=if x.cps.toList.head? = some 45 then(match rdN (TX (x.cps.toList.drop 1))with | some n=>if n=0 then none else some (-n) | none=>none)else rdN x
def xx (t u:Int):Bool:=decide (1<=u)&&decide ((Int.gcd (t.natAbs:Int) u:Nat)=1)
def rdR (x:Str):Option (Int×Int):=match Txt.split x (TX [47])with
 | [_]=>(rdW x).map λt=>(t,1)
 | [a,b]=>(match rdW a,rdN b with
  | some t,some u=>if decide (u=1)=false/\xx t u=true then some (t,u)else none
  | _,_=>none)
 | _=>none
abbrev Wx:=Option ((Int×Int)×(Int×Int))
def qL (x:Str):Option Wx:=if x=TX [45]then some none else match Txt.split x (TX [32])with
 | [a,b]=>(match rdR a,rdR b with
  | some p,some q=>some (some (p,q))
  | _,_=>none)
 | _=>none
def okW:Wx->Wx->Bool
 | some u,some v=>decide (u.1.1*v.1.2<v.1.1*u.1.2)
 | _,_=>true
def jq (x:Str):Option (Wx×Wx):=match Txt.split x (TX [32,124,32])with
 | [a,b]=>(match qL a,qL b with
  | some u,some v=>if okW u v=true then some (u,v)else none
  | _,_=>none)
 | _=>none
def fig (n:Nat):List Nat:=(Nat.toDigits 10 n).map Char.toNat
theorem qQ {n:Nat}(h:n<10):fig n=[48+n]:=by
 unfold fig
 rw[Nat.toDigits_of_lt_base h]
 have:∀m:Nat,m<10->(Nat.digitChar m).toNat=48+m:=by decide
 show [(Nat.digitChar n).toNat]=_
 rw[this n h]
theorem jg {n:Nat}(h:10<=n):fig n=fig (n/10)++[48+n % 10]:=by
 have hm:n % 10<10:=Nat.mod_lt n (by decide)
 have t:Nat.toDigits 10 (n/10)++Nat.toDigits 10 (n % 10)=Nat.toDigits 10 (10*(n/10)+n % 10):=Nat.toDigits_append_toDigits (by decide) (by omega) hm
 rw[Nat.div_add_mod]at t
 have:fig n=fig (n/10)++fig (n % 10):=by unfold fig;rw[<-t,List.map_append]
 rw[this,qQ hm]
theorem qa (n:Nat):(∀c∈fig n,48<=c/\c<=57)/\fig n≠[]/\digitsVal (fig n)=n/\(0<n->(fig n).head?≠some 48):=by
 induction n using Nat.strongRecOn with
 | _ n ih =>
  by_cases h:n<10
  ·rw[qQ h]
   refine⟨λc m=>?_,by simp,?_,λz=>?_⟩
   ·cases List.mem_singleton.mp m;omega
   ·show 0*10+(48+n - 48)=n;omega
   ·show some (48+n)≠some 48
    intro e;injection e with e;omega
  ·obtain⟨a1,a2,a3,a4⟩:=ih (n/10) (by omega)
   rw[jg (by omega)]
   refine⟨λc m=>?_,by simp,?_,λ_=>?_⟩
   ·rcases List.mem_append.mp m with m | m
    ·exact a1 c m
    ·cases List.mem_singleton.mp m;omega
   ·rw[digitsVal_snoc,a3];omega
   ·rw[List.head?_append]
    have:=a4 (by omega)
    cases hf:fig (n/10)with
    | nil=>exact absurd hf a2
    | cons c r=>rw[hf]at this;simpa using this
theorem qG {n k:Nat}(hk:0<k) (h:n<10^k):(fig n).length<=k:=by
 induction k generalizing n with
 | zero=>omega
 | succ k ih =>
  by_cases z:n<10
  ·rw[qQ z];simp
  ·have hk0:0<k:=by
    rcases Nat.eq_zero_or_pos k with rfl | z2
    ·simp at h;omega
    ·exact z2
   rw[jg (by omega),List.length_append]
   have:=ih (n:=n/10) hk0 (by rw[Nat.pow_succ]at h;omega)
   simpa using this
theorem zae {n:Nat}(h:n<10^300):xF (fig n)=true:=by
 obtain⟨a1,a2,a3,a4⟩:=qa n
 have hl:=qG (k:=300) (by decide) h
 have h1:1<=(fig n).length:=by
  cases hf:fig n with
  | nil=>exact absurd hf a2
  | cons c r=>simp
 unfold xF
 rw[decide_eq_true h1,decide_eq_true (show (fig n).length<=300 by omega),List.all_eq_true.mpr λc m=>by unfold qw;rw[decide_eq_true (a1 c m).1,decide_eq_true (a1 c m).2];rfl]
 by_cases z:n=0
 ·subst z;rw[qQ (by decide)];rfl
 ·rw[decide_eq_false (a4 (by omega))];simp
theorem v5 {n:Nat}(h:n<10^300):rdN (TX (fig n))=some (n:Int):=by
 unfold rdN
 rw[zG,if_pos (zae h),(qa n).2.2.1]
def ntL (n:Int):List Nat:=if n<0 then 45::fig n.natAbs else fig n.natAbs
def rtL (r:Int×Int):List Nat:=if r.2=1 then ntL r.1 else ntL r.1++[47]++ntL r.2
theorem qx {n:Int}{c:Nat}(h:c∈ntL n):c=45\/(48<=c/\c<=57):=by
 unfold ntL at h
 split at h
 ·rcases List.mem_cons.mp h with e | h
  ·exact .inl e
  ·exact .inr ((qa _).1 c h)
 ·exact .inr ((qa _).1 c h)
theorem Z0 {r:Int×Int}{c:Nat}(h:c∈rtL r):c=45\/(47<=c/\c<=57):=by
 unfold rtL at h
 split at h
 ·rcases qx h with e | e <;> omega
 ·rcases List.mem_append.mp h with h | h
  ·rcases List.mem_append.mp h with h | h
   ·rcases qx h with e | e <;> omega
   ·cases List.mem_singleton.mp h;omega
  ·rcases qx h with e | e <;> omega
theorem Js (n:Int):ntL n≠[]:=by
 unfold ntL
 split
 ·simp
 ·exact(qa _).2.1
theorem ZY {t:Int}(h:t.natAbs<10^300):rdW (TX (ntL t))=some t:=by
 unfold rdW
 rw[zG]
 by_cases z:t<0
 ·have e:ntL t=45::fig t.natAbs:=by unfold ntL;rw[if_pos z]
  rw[e,if_pos (by rfl)]
  show (match rdN (TX (fig t.natAbs))with | some n=>if n=0 then none else some (-n) | none=>none)=_
  rw[v5 h]
  show (if((t.natAbs:Nat):Int)=0 then none else some (-((t.natAbs:Nat):Int)))=some t
  rw[if_neg (by omega)]
  congr 1;omega
 ·have e:ntL t=fig t.natAbs:=by unfold ntL;rw[if_neg z]
  rw[e]
  have hd:(fig t.natAbs).head?≠some 45:=λq=>by
   have:=(qa t.natAbs).1 45 (List.mem_of_head? q)
   omega
  rw[if_neg hd,v5 h]
  congr 1;omega
structure Rx (r:Int×Int):Prop where
 lo:xx r.1 r.2=true
 zt:r.1.natAbs<10^300
 zb:r.2.natAbs<10^300
theorem Rx.pos {r:Int×Int}(h:Rx r):1<=r.2:=by
 have:=h.lo
 unfold xx at this
 rw[Bool.and_eq_true]at this
 exact of_decide_eq_true this.1
theorem Q3 {r:Int×Int}(h:Rx r):rdR (TX (rtL r))=some r:=by
 have n47:∀n:Int,47∉ntL n:=λn m=>by rcases qx m with e | e <;> omega
 unfold rdR
 by_cases z:r.2=1
 ·have e:rtL r=ntL r.1:=by unfold rtL;rw[if_pos z]
  rw[e,split_free (j0:=0) (c:=47) rfl (n47 _)]
  show (rdW (TX (ntL r.1))).map _=_
  rw[ZY h.zt,<-z];rfl
 ·have e:rtL r=ntL r.1++[47]++ntL r.2:=by unfold rtL;rw[if_neg z]
  rw[e,vK (j0:=0) (c:=47) rfl (by decide +kernel) (n47 _) (n47 _) λi e=>by
   have:=(List.getElem?_eq_some_iff.mp e).1;simp at this;exact this]
  show (match rdW (TX (ntL r.1)),rdN (TX (ntL r.2))with | some t,some u=>if decide (u=1)=false/\xx t u=true then some (t,u)else none | _,_=>none)=_
  have e2:ntL r.2=fig r.2.natAbs:=by unfold ntL;rw[if_neg (by have:=h.pos;omega)]
  rw[ZY h.zt,e2,v5 h.zb]
  have e3:((r.2.natAbs:Nat):Int)=r.2:=by have:=h.pos;omega
  rw[e3]
  show (if decide (r.2=1)=false/\xx r.1 r.2=true then some (r.1,r.2)else none)=some r
  rw[if_pos ⟨decide_eq_false z,h.lo⟩]
theorem sg (c:Nat):∀i d,([c]:List Nat)[i]? = some d->i=0:=λi d e=>by
 have:=(List.getElem?_eq_some_iff.mp e).1;simp at this;exact this
theorem n32 (r:Int×Int):32∉rtL r:=λm=>by rcases Z0 m with e | e <;> omega
theorem Qi:∀i,([32,124,32]:List Nat)[i]? = some 124->i=1:=λi e=>by
 match i,e with
 | 0,e=>simp at e
 | 1,_=>rfl
 | 2,e=>simp at e
 | i+3,e=>simp at e
theorem X7 {a b:List Nat}(ha:124∉a) (hb:124∉b):Txt.split (TX (a++[32,124,32]++b)) (TX [32,124,32])=[TX a,TX b]:=vK (j0:=1) (c:=124) rfl (by decide +kernel) ha hb Qi
theorem v6 {l:List Nat}{c:Nat}(m:c∈l) (h:¬(48<=c/\c<=57)):rdN (TX l)=none:=by
 unfold rdN
 rw[zG,if_neg]
 intro e
 unfold xF at e
 simp only[Bool.and_eq_true]at e
 have:=List.all_eq_true.mp e.1.2 c m
 unfold qw at this
 simp only[Bool.and_eq_true,decide_eq_true_eq]at this
 exact h this
theorem Xv:rdN (TX [])=none:=by unfold rdN;rw[zG];rfl
theorem Xy {l:List Nat}{c:Nat}(m:c∈l) (h:¬(48<=c/\c<=57)) (h2:c≠45):rdW (TX l)=none:=by
 unfold rdW
 rw[zG]
 split
 ·rename_i e
  cases l with
  | nil=>cases m
  | cons d r =>
   have hd:d=45:=by simpa using e
   have mr:c∈r:=by rcases List.mem_cons.mp m with z | z;exact absurd (z.trans hd) h2;exact z
   show (match rdN (TX r)with | some n=>if n=0 then none else some (-n) | none=>none)=none
   rw[v6 mr h]
 ·exact v6 m h
theorem Zb {l:List Nat}{c:Nat}(m:c∈l) (h:c<45\/57<c):rdR (TX l)=none:=by
 unfold rdR
 have hj:=StrLaws.join_split (TX l) (TX [47])
 split
 ·rw[Xy m (by omega) (by omega)];rfl
 ·rename_i a b e
  rw[e]at hj
  have hm:c∈a.cps.toList\/c∈b.cps.toList:=by
   have e2:(a++TX [47]++b).cps.toList=l:=by rw[show a++TX [47]++b=TX l from hj,zG]
   rw[<-e2]at m
   have:c∈a.cps.toList++[47]++b.cps.toList:=by
    have q:(a++TX [47]++b).cps.toList=a.cps.toList++[47]++b.cps.toList:=by
     show ((a.cps++[47].toArray)++b.cps).toList=_;simp
    rw[q]at m;exact m
   rcases List.mem_append.mp this with z | z
   ·rcases List.mem_append.mp z with z | z
    ·exact .inl z
    ·cases List.mem_singleton.mp z;omega
   ·exact .inr z
  rcases hm with z | z
  ·have:rdW a=none:=by rw[<-qu a];exact Xy z (by omega) (by omega)
   rw[this]
  ·have:rdN b=none:=by rw[<-qu b];exact v6 z (by omega)
   rw[this]
   split
   ·rename_i h1 h2;cases h2
   ·rfl
 ·rfl
theorem ZZ {a b c:List Nat}(hn:TX (a++[32]++b++[32]++c)≠TX [45]):qL (TX (a++[32]++b++[32]++c))=none:=by
 unfold qL
 rw[if_neg hn]
 have h1:StrLaws.At (TX (a++[32]++b++[32]++c)) (TX [32]) (TX (a++[32]++b++[32]++c)).length a.length:=by
  have:=ZJ a [32] (b++[32]++c);simpa [List.append_assoc]using this
 have h2:StrLaws.At (TX (a++[32]++b++[32]++c)) (TX [32]) (TX (a++[32]++b++[32]++c)).length (a++[32]++b).length:=by
  have:=ZJ (a++[32]++b) [32] c;simpa [List.append_assoc]using this
 have:=Z8 (by rw[zv];decide) h1 h2 (by rw[zv];simp)
 have l2:(Txt.split (TX (a++[32]++b++[32]++c)) (TX [32])).length≠2:=by
  rcases this with z | z
  ·exact z
  ·exfalso
   have k1:Builtin.Str.strKind (TX [32])=1:=by decide +kernel
   have:=Xn (TX (a++[32]++b++[32]++c))
   omega
 split
 ·rename_i p q e;rw[e]at l2;exact absurd rfl l2
 ·rfl
theorem Zs {l:List Nat}{c:Nat}(m:c∈l) (h:c≠45):TX l≠TX [45]:=λe=>by
 rw[Vr e]at m;exact h (List.mem_singleton.mp m)
theorem Zz {a b:List Nat}(ha:32∉a) (hb:32∉b) (h:rdR (TX a)=none\/rdR (TX b)=none):qL (TX (a++[32]++b))=none:=by
 unfold qL
 rw[if_neg (Zs (c:=32) (by simp) (by decide)),vK (j0:=0) (c:=32) rfl (by decide +kernel) ha hb λi e=>sg _ i _ e]
 show (match rdR (TX a),rdR (TX b)with | some p,some q=>some (some (p,q)) | _,_=>none)=none
 rcases h with h | h
 ·rw[h]
 ·rw[h]
  split
  ·rename_i h1 h2;cases h2
  ·rfl
theorem jr {a b:List Nat}(ha:124∉a) (hb:124∉b) (h:qL (TX a)=none\/qL (TX b)=none):jq (TX (a++[32,124,32]++b))=none:=by
 unfold jq
 rw[X7 ha hb]
 show (match qL (TX a),qL (TX b)with | some u,some v=>if okW u v=true then some (u,v)else none | _,_=>none)=none
 rcases h with h | h
 ·rw[h]
 ·rw[h]
  split
  ·rename_i h1 h2;cases h2
  ·rfl
theorem Q6 {x:Str}(h:(Txt.split x (TX [32,124,32])).length≠2):jq x=none:=by
 unfold jq
 split
 ·rename_i e;rw[e]at h;exact absurd rfl h
 ·rfl
end KK
end
section
set_option maxHeartbeats 4000000
set_option Elab.async false
set_option linter.all false
set_option maxRecDepth 100000
namespace KK
open PySem PySem.Builtin.Str PySem.NumText
def pad:Nat->Nat->List Nat
 | 0,_=>[]
 | k+1,r=>pad k (r/10)++[48+r % 10]
theorem Zv:∀k,pad k 0=List.replicate k 48
 | 0=>rfl
 | k+1=>by
  show pad k 0++[48]=_
  rw[Zv k,<-List.replicate_succ']
theorem Xr:∀(k r:Nat),r<10^(k+1)->pad (k+1) r=List.replicate (k+1 - (fig r).length) 48++fig r
 | 0,r,h=>by
  have h:r<10:=by simpa using h
  rw[qQ h]
  show [48+r % 10]=_
  rw[Nat.mod_eq_of_lt h];rfl
 | k+1,r,h=>by
  show pad (k+1) (r/10)++[48+r % 10]=_
  by_cases h1:r<10
  ·rw[show r/10=0 by omega,Zv,qQ h1,Nat.mod_eq_of_lt h1]
   rfl
  ·have h2:r/10<10^(k+1):=by rw[Nat.pow_succ]at h;omega
   rw[Xr k (r/10) h2,jg (n:=r) (by omega),List.append_assoc,List.length_append]
   congr 2
   show k+1 - _=k+1+1 - (_+1)
   omega
theorem Xk:∀(k m:Nat),10^k<=m->fig m=fig (m/10^k)++pad k (m % 10^k)
 | 0,m,_=>by
  show fig m=fig (m/1)++[]
  rw[Nat.div_one,List.append_nil]
 | k+1,m,h=>by
  have h10:10<=m:=by
   have:10^1<=10^(k+1):=Nat.pow_le_pow_right (by decide) (by omega)
   omega
  have hk:10^k<=m/10:=by rw[Nat.pow_succ]at h;omega
  rw[jg h10,Xk k (m/10) hk,List.append_assoc]
  have e1:m/10/10^k=m/10^(k+1):=by rw[Nat.div_div_eq_div_mul,Nat.pow_succ,Nat.mul_comm]
  have e2:m % 10^(k+1)/10=m/10 % 10^k:=by rw[Nat.pow_succ,Nat.mul_comm,Nat.mod_mul_right_div_self]
  have e3:m % 10^(k+1) % 10=m % 10:=Nat.mod_mod_of_dvd _ (by rw[Nat.pow_succ];exact Nat.dvd_mul_left ..)
  show _=_++(pad k (m % 10^(k+1)/10)++[48+m % 10^(k+1) % 10])
  rw[e1,e2,e3]
theorem QP (n:Nat) (l:List Nat):padded (TX l) n 0 48=TX (List.replicate n 48++l):=by
 unfold padded TX
 congr 1
 apply Array.toList_inj.mp
 simp
theorem Vu {x:Str}{n c:Nat}(h:x.cps[0]? = some c) (h1:c≠43) (h2:c≠45):zfilled x n=padded x n 0 48:=by
 unfold zfilled
 rw[h]
 split
 ·rename_i z;exact absurd (Option.some.inj z) h1
 ·rename_i z;exact absurd (Option.some.inj z) h2
 ·rfl
theorem Qe {r:Nat}(h:r<10^60):Txt.zfill (TX (fig r)) 60=TX (pad 60 r):=by
 have e:=Xr 59 r h
 have hl:=qG (k:=60) (by decide) h
 rw[e]
 unfold Txt.zfill
 rw[zv]
 obtain⟨a1,a2,_,_⟩:=qa r
 by_cases c:(fig r).length=60
 ·rw[if_pos (by omega),c];rfl
 ·rw[if_neg (by omega)]
  cases hf:fig r with
  | nil=>exact absurd hf a2
  | cons c0 rest =>
   have hc:c0≠43/\c0≠45:=by have:=a1 c0 (by rw[hf];simp);omega
   have hlen:(fig r).length=rest.length+1:=by rw[hf];simp
   have e0:(TX (c0::rest)).cps[0]? = some c0:=rfl
   rw[Vu e0 hc.1 hc.2,show Int.toNat 60=59+1 from rfl]
   exact QP _ _
end KK
end
section
set_option maxHeartbeats 4000000
set_option Elab.async false
set_option linter.all false
set_option maxRecDepth 100000
namespace KK
open PySem PySem.Builtin.Str PySem.NumText
def xN (c:Nat):List (List Nat)->List Nat
 | []=>[]
 | [x]=>x
 | x::y::r=>x++c::xN c (y::r)
theorem Xg {c:Nat}:∀{a b x y:List Nat},c∉a->c∉b->a++c::x=b++c::y->a=b/\x=y
 | [],[],x,y,_,_,h=>⟨rfl,by simpa using h⟩
 | [],d::b,x,y,_,hb,h=>by injection h with h1 h2;exact absurd (List.mem_cons_self ..) (h1 ▸ hb)
 | d::a,[],x,y,ha,_,h=>by injection h with h1 h2;exact absurd (List.mem_cons_self ..) (h1 ▸ ha)
 | d::a,e::b,x,y,ha,hb,h=>by
  injection h with h1 h2
  obtain⟨e1,e2⟩:=Xg (λm=>ha (List.mem_cons_of_mem _ m)) (λm=>hb (List.mem_cons_of_mem _ m)) h2
  exact⟨by rw[h1,e1],e2⟩
theorem jL {c:Nat}:∀{ps qs:List (List Nat)},ps≠[]->qs≠[]->(∀p∈ps,c∉p)->(∀p∈qs,c∉p)->xN c ps=xN c qs->ps=qs
 | [a],[b],_,_,_,_,h=>by rw[show a=b from h]
 | [a],b::d::s,_,_,ha,_,h=>by
  have h:a=b++c::xN c (d::s):=h
  exact absurd (by rw[h];simp) (ha a (List.mem_cons_self ..))
 | a::d::r,[b],_,_,_,hb,h=>by
  have h:a++c::xN c (d::r)=b:=h
  exact absurd (by rw[<-h];simp) (hb b (List.mem_cons_self ..))
 | a::d::r,b::e::s,_,_,ha,hb,h=>by
  have h:a++c::xN c (d::r)=b++c::xN c (e::s):=h
  obtain⟨e1,e2⟩:=Xg (ha a (List.mem_cons_self ..)) (hb b (List.mem_cons_self ..)) h
  have:=jL (by simp) (by simp) (λp m=>ha p (List.mem_cons_of_mem _ m)) (λp m=>hb p (List.mem_cons_of_mem _ m)) e2
  rw[e1,this]
theorem jM (c:Nat):∀qs:List Str,(Str.join (TX [c]) qs).cps.toList=xN c (qs.map λq=>q.cps.toList)
 | []=>rfl
 | [x]=>rfl
 | x::y::r=>by
  have ih:=jM c (y::r)
  have e:Str.join (TX [c]) (x::y::r)=x++TX [c]++Str.join (TX [c]) (y::r):=rfl
  rw[e]
  show ((x.cps++[c].toArray)++(Str.join (TX [c]) (y::r)).cps).toList=x.cps.toList++c::xN c ((y::r).map λq=>q.cps.toList)
  rw[<-ih];simp
theorem qb {c:Nat}{ps:List (List Nat)} (hne:ps≠[]) (h:∀p∈ps,c∉p):Txt.split (TX (xN c ps)) (TX [c])=ps.map TX:=by
 obtain⟨q0,qr,eq⟩:=jx (TX (xN c ps)) (TX [c])
 have hj:=StrLaws.join_split (TX (xN c ps)) (TX [c])
 have hf:=StrLaws.split_free (TX (xN c ps)) c
 have e1:=jM c (Txt.split (TX (xN c ps)) (TX [c]))
 rw[hj,zG]at e1
 have e2:ps=(Txt.split (TX (xN c ps)) (TX [c])).map λq=>q.cps.toList:=jL hne (by rw[eq];simp) h (λp m=>by
  obtain⟨q,mq,rfl⟩:=List.mem_map.mp m
  exact hf q mq) e1
 conv=>rhs;rw[e2]
 rw[List.map_map]
 have:((λq:List Nat=>TX q) ∘ λq:Str=>q.cps.toList)=id:=by funext q;exact qu q
 show _=List.map ((λq:List Nat=>TX q) ∘ λq:Str=>q.cps.toList) _
 rw[this,List.map_id]
abbrev Bx3:=((Int×Int)×(Int×Int))×Int
def qd (x:Str):Option Bx3:=match Txt.split x (TX [32])with
 | [a,b,c]=>(rdR a).bind λp=>(rdR b).bind λq=>(rdN c).map λn=>((p,q),n)
 | _=>none
theorem vo {x:Str}(h:(Txt.split x (TX [32])).length≠3):qd x=none:=by
 unfold qd
 split
 ·rename_i e;rw[e]at h;exact absurd rfl h
 ·rfl
theorem ZX {a b c:List Nat}(ha:32∉a) (hb:32∉b) (hc:32∉c) (h:rdR (TX b)=none):qd (TX (a++32::(b++32::c)))=none:=by
 unfold qd
 have:=qb (c:=32) (ps:=[a,b,c]) (by simp) (λp m=>by
  simp only[List.mem_cons,List.not_mem_nil,or_false]at m
  rcases m with rfl | rfl | rfl <;> assumption)
 rw[show TX (a++32::(b++32::c))=TX (xN 32 [a,b,c])from rfl,this]
 show (rdR (TX a)).bind (λp=>(rdR (TX b)).bind _)=none
 rw[h]
 cases rdR (TX a) <;> rfl
theorem Zy {l:List Nat}(h:l≠[]):rdN (TX (48::l))=none:=by
 unfold rdN
 rw[zG,if_neg]
 intro e
 unfold xF at e
 have:decide (48::l=[48])=false:=decide_eq_false (by intro z;injection z with _ z;exact h z)
 rw[this]at e
 simp at e
theorem Zc {l:List Nat}(h:47∉l):rdR (TX l)=(rdW (TX l)).map λt=>(t,1):=by
 unfold rdR
 rw[Txt_free h]
where Txt_free {l:List Nat}(h:47∉l):Txt.split (TX l) (TX [47])=[TX l]:=split_free (j0:=0) (c:=47) rfl h
theorem vG {a b:List Nat}(ha:47∉a) (hb:47∉b):rdR (TX (a++47::b))=(rdW (TX a)).bind λt=>(rdN (TX b)).bind λu=>if decide (u=1)=false/\xx t u=true then some (t,u)else none:=by
 have:=qb (c:=47) (ps:=[a,b]) (by simp) (λp m=>by
  simp only[List.mem_cons,List.not_mem_nil,or_false]at m
  rcases m with rfl | rfl <;> assumption)
 unfold rdR
 rw[show TX (a++47::b)=TX (xN 47 [a,b])from rfl,this]
 show (match rdW (TX a),rdN (TX b)with | some t,some u=>_ | _,_=>none)=_
 cases rdW (TX a)with
 | none=>rfl
 | some t=>cases rdN (TX b) <;> rfl
theorem Xx {a b:List Nat}(ha:47∉a) (hb:47∉b) (h:rdN (TX b)=none):rdR (TX (a++47::b))=none:=by
 rw[vG ha hb,h];cases rdW (TX a) <;> rfl
theorem X1 {a b c:List Nat}(ha:47∉a) (hb:47∉b) (hc:47∉c):rdR (TX (a++47::(b++47::c)))=none:=by
 have:=qb (c:=47) (ps:=[a,b,c]) (by simp) (λp m=>by
  simp only[List.mem_cons,List.not_mem_nil,or_false]at m
  rcases m with rfl | rfl | rfl <;> assumption)
 unfold rdR
 rw[show TX (a++47::(b++47::c))=TX (xN 47 [a,b,c])from rfl,this]
 rfl
theorem Ja:rdW (TX [])=none:=by unfold rdW;rw[zG,if_neg (by simp)];exact Xv
theorem jn {l:List Nat}(h:300<l.length):rdN (TX l)=none:=by
 unfold rdN
 rw[zG,if_neg]
 intro e
 unfold xF at e
 simp only[Bool.and_eq_true,decide_eq_true_eq]at e
 omega
theorem Q4 {l:List Nat}(h:l≠[]):rdW (TX (48::l))=none:=by
 unfold rdW;rw[zG,if_neg (by simp)];exact Zy h
end KK
end
section
set_option maxHeartbeats 4000000
set_option Elab.async false
set_option linter.all false
set_option maxRecDepth 100000
namespace KK
open PySem PySem.Builtin.Str PySem.NumText
def KA (t:Str):Prop:=rdR t=none/\32∉t.cps.toList/\59∉t.cps.toList/\124∉t.cps.toList/\t.length<=2000
def Wr (n:Int) (t:Str):Prop:=KA t\/t=TX (32::ntL n)\/t=TX (ntL n++[59])
theorem KA.of {l:List Nat}(h:rdR (TX l)=none) (hm:∀c∈l,c≠32/\c≠59/\c≠124) (hl:l.length<=2000):KA (TX l):=by
 refine⟨h,λm=>?_,λm=>?_,λm=>?_,by rw[zv];exact hl⟩
 ·rw[zG]at m;exact(hm _ m).1 rfl
 ·rw[zG]at m;exact(hm _ m).2.1 rfl
 ·rw[zG]at m;exact(hm _ m).2.2 rfl
def kaC:List Str:=["-0","","-","/","--1","1.5","a","0/2","1_0"]
theorem J2:∀t∈kaC,KA t:=by
 have h:kaC.all (λt=>(rdR t).isNone&&!t.cps.toList.contains 32&&!t.cps.toList.contains 59&&!t.cps.toList.contains 124&&decide (t.length<=2000))=true:=by decide +kernel
 intro t m
 have:=List.all_eq_true.mp h t m
 simp only[Bool.and_eq_true,Bool.not_eq_true',decide_eq_true_eq,Option.isNone_iff_eq_none]at this
 obtain⟨⟨⟨⟨h1,h2⟩,h3⟩,h4⟩,h5⟩:=this
 refine⟨h1,λm=>?_,λm=>?_,λm=>?_,h5⟩
 ·rw[List.contains_iff_mem.mpr m]at h2;cases h2
 ·rw[List.contains_iff_mem.mpr m]at h3;cases h3
 ·rw[List.contains_iff_mem.mpr m]at h4;cases h4
section
variable {n d:Int}
theorem jC (n:Int):47∉ntL n:=λm=>by rcases qx m with e | e <;> omega
theorem zac (n:Int):32∉ntL n:=λm=>by rcases qx m with e | e <;> omega
theorem j6 (n:Int):∀c∈ntL n,c≠32/\c≠59/\c≠124:=λc m=>by rcases qx m with e | e <;> omega
theorem vj {n:Int}(h:n.natAbs<10^300):(ntL n).length<=301:=by
 have:=qG (k:=300) (by decide) h
 unfold ntL;split
 ·simp;omega
 ·omega
theorem Xp {a b:List Nat}(ha:∀c∈a,c≠32/\c≠59/\c≠124) (hb:∀c∈b,c≠32/\c≠59/\c≠124):∀c∈a++b,c≠32/\c≠59/\c≠124:=λc m=>by
 rcases List.mem_append.mp m with m | m
 ·exact ha c m
 ·exact hb c m
theorem xp {x:Nat}{b:List Nat}(hx:x≠32/\x≠59/\x≠124) (hb:∀c∈b,c≠32/\c≠59/\c≠124):∀c∈x::b,c≠32/\c≠59/\c≠124:=λc m=>by
 rcases List.mem_cons.mp m with rfl | m
 ·exact hx
 ·exact hb c m
theorem Zu:∀c∈([]:List Nat),c≠32/\c≠59/\c≠124:=λc m=>by cases m
theorem VI (hn:n.natAbs<10^300):KA (TX (48::ntL (n.natAbs:Int))):=by
 have e:ntL (n.natAbs:Int)=fig n.natAbs:=by unfold ntL;rw[if_neg (by omega)];rfl
 refine KA.of ?_ (xp (by decide) (j6 _)) (by have:=vj (n:=(n.natAbs:Int)) (by omega);simp;omega)
 rw[Zc (λm=>by rcases List.mem_cons.mp m with z | z;cases z;exact jC _ z),Q4 (Js _)];rfl
theorem ji (hn:n.natAbs<10^300){b:List Nat}(hb:∀c∈b,c≠32/\c≠59/\c≠124) (h47:47∉b) (hl:b.length<=700) (h:rdN (TX b)=none\/rdN (TX b)=some 1\/rdN (TX b)=some 0):KA (TX (ntL n++47::b)):=by
 refine KA.of ?_ (Xp (j6 _) (xp (by decide) hb)) (by have:=vj hn;simp;omega)
 rcases h with h | h | h
 ·exact Xx (jC n) h47 h
 ·rw[vG (jC n) h47,h];cases rdW (TX (ntL n)) <;> rfl
 ·rw[vG (jC n) h47,h]
  cases rdW (TX (ntL n))with
  | none=>rfl
  | some t =>
   show (if decide ((0:Int)=1)=false/\xx t 0=true then some (t,(0:Int))else none)=none
   rw[if_neg];rintro ⟨_,z⟩;unfold xx at z;simp at z
theorem VH (hn:n.natAbs<10^300):KA (TX (43::ntL n)) :=
 KA.of (Zb (c:=43) (List.mem_cons_self ..) (by omega)) (xp (by decide) (j6 _)) (by have:=vj hn;simp;omega)
theorem VG (hd:d.natAbs<10^300):KA (TX (47::ntL d)):=by
 refine KA.of ?_ (xp (by decide) (j6 _)) (by have:=vj hd;simp;omega)
 have:=vG (a:=[]) (b:=ntL d) (by simp) (jC d)
 rw[Ja]at this
 exact this
theorem Qy (hn:n.natAbs<10^200) (hd:d.natAbs<10^200) (h1:1<=d):KA (TX (ntL (2*n)++47::ntL (2*d))):=by
 have z:(10:Nat)^200*2<=10^300:=by decide
 have hn2:(2*n).natAbs<10^300:=by omega
 have hd2:(2*d).natAbs<10^300:=by omega
 refine KA.of ?_ (Xp (j6 _) (xp (by decide) (j6 _))) (by have:=vj hn2;have:=vj hd2;simp;omega)
 rw[vG (jC _) (jC _),ZY hn2]
 have e:ntL (2*d)=fig (2*d).natAbs:=by unfold ntL;rw[if_neg (by omega)]
 rw[e,v5 hd2]
 show (if decide ((((2*d).natAbs:Nat):Int)=1)=false/\xx (2*n) (((2*d).natAbs:Nat):Int)=true then _ else none)=none
 rw[if_neg]
 rintro ⟨_,z⟩
 unfold xx at z
 simp only[Bool.and_eq_true,decide_eq_true_eq]at z
 have e1:(((2*n).natAbs:Nat):Int)=2*(n.natAbs:Int):=by omega
 have e2:(((2*d).natAbs:Nat):Int)=2*(d.natAbs:Int):=by omega
 rw[e1,e2,Int.gcd_mul_left]at z
 have z:=z.2
 have:(2:Int).natAbs=2:=rfl
 rw[this]at z
 omega
theorem Qx (hn:n.natAbs<10^300) (hd:d.natAbs<10^300):KA (TX (ntL n++47::(ntL d++47::[51]))) :=
 KA.of (X1 (jC _) (jC _) (by decide)) (Xp (j6 _) (xp (by decide) (Xp (j6 _) (xp (by decide) (xp (by decide) Zu))))) (by have:=vj hn;have:=vj hd;simp;omega)
theorem zaK:∀c∈List.replicate 300 48,c≠32/\c≠59/\c≠124:=λc m=>by rw[List.eq_of_mem_replicate m];decide
theorem z47:47∉List.replicate 300 48:=λm=>by have:=List.eq_of_mem_replicate m;cases this
theorem Qu:KA (TX (49::List.replicate 300 48)):=by
 refine KA.of ?_ (xp (by decide) zaK) (by simp)
 rw[Zc (λm=>by rcases List.mem_cons.mp m with z | z;cases z;exact z47 z)]
 have:rdW (TX (49::List.replicate 300 48))=none:=by
  unfold rdW;rw[zG,if_neg (by simp)];exact jn (by simp)
 rw[this];rfl
theorem Qv:KA (TX (45::49::List.replicate 300 48)):=by
 refine KA.of ?_ (xp (by decide) (xp (by decide) zaK)) (by simp)
 rw[Zc (λm=>by rcases List.mem_cons.mp m with z | z;cases z;rcases List.mem_cons.mp z with z | z;cases z;exact z47 z)]
 have:rdW (TX (45::49::List.replicate 300 48))=none:=by
  unfold rdW;rw[zG,if_pos (by simp)]
  show (match rdN (TX (49::List.replicate 300 48))with | some n=>if n=0 then none else some (-n) | none=>none)=none
  rw[jn (by simp)]
 rw[this];rfl
theorem Qw:KA (TX (49::47::49::List.replicate 300 48)):=by
 refine KA.of ?_ (xp (by decide) (xp (by decide) (xp (by decide) zaK))) (by simp)
 exact Xx (a:=[49]) (b:=49::List.replicate 300 48) (by decide) (λm=>by rcases List.mem_cons.mp m with z | z;cases z;exact z47 z) (jn (by simp))
end
theorem zaw (r:Int×Int):59∉rtL r:=λm=>by rcases Z0 m with e | e <;> omega
theorem za3 (r:Int×Int):124∉rtL r:=λm=>by rcases Z0 m with e | e <;> omega
theorem Wr.no {n:Int}{t:Str}(h:Wr n t):rdR t=none:=by
 rcases h with h | rfl | rfl
 ·exact h.1
 ·exact Zb (c:=32) (List.mem_cons_self ..) (by omega)
 ·exact Zb (c:=59) (by simp) (by omega)
theorem Wr.len {n:Int}{t:Str}(h:Wr n t) (hn:n.natAbs<10^300):t.length<=2000:=by
 have:=vj hn
 rcases h with h | rfl | rfl
 ·exact h.2.2.2.2
 ·rw[zv];simp;omega
 ·rw[zv];simp;omega
theorem Wr.row {n d:Int}{t:Str}(h:Wr n t):∃p∈Txt.split (TX (rtL (n,d)++32::(t.cps.toList++[32,51]))) (TX [59,32]),qd p=none:=by
 have free:∀{l:List Nat},59∉l->Txt.split (TX l) (TX [59,32])=[TX l]:=λh=>split_free (j0:=0) (c:=59) rfl h
 rcases h with h | rfl | rfl
 ·have hf:59∉rtL (n,d)++32::(t.cps.toList++[32,51]):=by
   intro m
   rcases List.mem_append.mp m with m | m
   ·exact zaw _ m
   ·rcases List.mem_cons.mp m with z | m
    ·cases z
    ·rcases List.mem_append.mp m with m | m
     ·exact h.2.2.1 m
     ·simp at m
  refine⟨_,by rw[free hf];exact List.mem_singleton_self _,?_⟩
  have:=ZX (a:=rtL (n,d)) (b:=t.cps.toList) (c:=[51]) (n32 _) h.2.1 (by decide) (by rw[qu];exact h.1)
  exact this
 ·rw[zG]
  have hf:59∉rtL (n,d)++32::(32::ntL n++[32,51]):=by
   intro m
   rcases List.mem_append.mp m with m | m
   ·exact zaw _ m
   ·rcases List.mem_cons.mp m with z | m
    ·cases z
    ·rcases List.mem_append.mp m with m | m
     ·rcases List.mem_cons.mp m with z | m
      ·cases z
      ·rcases qx m with e | e <;> omega
     ·simp at m
  refine⟨_,by rw[free hf];exact List.mem_singleton_self _,vo ?_⟩
  have:=qb (c:=32) (ps:=[rtL (n,d),[],ntL n,[51]]) (by simp) (λp m=>by
   simp only[List.mem_cons,List.not_mem_nil,or_false]at m
   rcases m with rfl | rfl | rfl | rfl
   ·exact n32 _
   ·decide
   ·exact zac _
   ·decide)
  have e:xN 32 [rtL (n,d),[],ntL n,[51]]=rtL (n,d)++32::(32::ntL n++[32,51]):=rfl
  rw[e]at this
  rw[this];simp
 ·rw[zG]
  have e:rtL (n,d)++32::(ntL n++[59]++[32,51])=(rtL (n,d)++32::ntL n)++[59,32]++[51]:=by simp
  rw[e]
  have h59:59∉rtL (n,d)++32::ntL n:=λm=>by
   rcases List.mem_append.mp m with m | m
   ·exact zaw _ m
   ·rcases List.mem_cons.mp m with z | m
    ·cases z
    ·rcases qx m with e | e <;> omega
  rw[vK (j0:=0) (c:=59) rfl (by decide +kernel) h59 (by decide) (λi e=>by
   match i,e with
   | 0,_=>rfl
   | 1,e=>simp at e
   | i+2,e=>simp at e)]
  refine⟨_,List.mem_cons_self ..,vo ?_⟩
  have:=qb (c:=32) (ps:=[rtL (n,d),ntL n]) (by simp) (λp m=>by
   simp only[List.mem_cons,List.not_mem_nil,or_false]at m
   rcases m with rfl | rfl
   ·exact n32 _
   ·exact zac _)
  have e:xN 32 [rtL (n,d),ntL n]=rtL (n,d)++32::ntL n:=rfl
  rw[e]at this
  rw[this];simp
theorem Wr.walls {n d:Int}{t:Str}(h:Wr n t):jq (TX ([45]++[32,124,32]++(rtL (n,d)++[32]++t.cps.toList)))=none:=by
 have hb:∀{l:List Nat},124∉l->124∉rtL (n,d)++[32]++l:=λh m=>by
  rcases List.mem_append.mp m with m | m
  ·rcases List.mem_append.mp m with m | m
   ·exact za3 _ m
   ·simp at m
  ·exact h m
 have hnt:124∉ntL n:=λm=>by rcases qx m with e | e <;> omega
 have no:=h.no
 rcases h with h | rfl | rfl
 ·exact jr (by decide) (hb h.2.2.2.1) (.inr (Zz (n32 _) h.2.1 (.inr (by rw[qu];exact no))))
 ·rw[zG]
  refine jr (by decide) (hb (λm=>by rcases List.mem_cons.mp m with z | z;cases z;exact hnt z)) (.inr ?_)
  have:=ZZ (a:=rtL (n,d)) (b:=[]) (c:=ntL n) (Zs (c:=32) (by simp) (by decide))
  have e:rtL (n,d)++[32]++[]++[32]++ntL n=rtL (n,d)++[32]++32::ntL n:=by simp
  rw[e]at this;exact this
 ·rw[zG]
  have n32':32∉ntL n++[59]:=λm=>by
   rcases List.mem_append.mp m with m | m
   ·exact zac _ m
   ·simp at m
  refine jr (by decide) (hb (λm=>by rcases List.mem_append.mp m with m | m;exact hnt m;simp at m)) (.inr (Zz (n32 _) n32' (.inr no)))
end KK
end
set_option Elab.async false
set_option linter.all false
set_option maxRecDepth 100000
namespace KK
open PySem L2
def top (i:Nat):Stmt:=PySem.Challenge.pw_clackrow_k69_whole_ratios_written_and_re.main.body.getD i (.Pass ⟨0,0,0,0⟩)
abbrev xZ:Stmt:=top 4
abbrev xY:Stmt:=top 5
abbrev zP:Stmt:=top 6
abbrev xX:Stmt:=top 7
abbrev vU:Stmt:=top 8
abbrev qk:Stmt:=top 12
abbrev xl:Stmt:=top 13
abbrev xD:Stmt:=top 14
abbrev xW:Stmt:=top 15
abbrev qt:Stmt:=top 16
abbrev qY:Stmt:=top 17
abbrev qX:Stmt:=top 18
abbrev qg:Stmt:=top 19
abbrev qh:Stmt:=top 20
abbrev qf:Stmt:=top 21
abbrev vH:Stmt:=top 22
abbrev zR:Stmt:=top 27
abbrev xB:Stmt:=top 28
abbrev xL:Stmt:=top 29
abbrev xw:Stmt:=top 30
abbrev xC:Stmt:=top 31
abbrev xr:Stmt:=top 32
abbrev xT:Stmt:=top 33
abbrev xM:Stmt:=top 34
abbrev xU:Stmt:=top 35
abbrev xt:Stmt:=top 36
abbrev x5:Stmt:=top 38
abbrev xK:Stmt:=top 39
abbrev xA:Stmt:=top 40
abbrev ql:Stmt:=top 41
abbrev xR:Stmt:=top 42
abbrev xu:Stmt:=top 43
abbrev zZ:Stmt:=top 44
abbrev xS:Stmt:=top 45
abbrev x6:Stmt:=top 46
abbrev x0:Stmt:=top 47
abbrev xQ:Stmt:=top 48
abbrev xv:Stmt:=top 49
abbrev x8:Stmt:=top 50
abbrev s_law:Stmt:=top 51
end KK
set_option Elab.async false
set_option linter.all false
set_option maxRecDepth 100000
namespace KK
open PySem L2
structure TxB (K:PySem.W.Frag) (mg:Str->Option Value):Prop where
 ii:PySem.W.kitOne K (.type "int") (.type "int")=some true
 ib:PySem.W.kitOne K (.type "int") (.type "bool")=some false
 nIs:mg "isinstance" = none
 nInt:mg "int" = none
 nBool:mg "bool" = none
 nAbs:mg "abs" = none
 nLen:mg "len" = none
 nMax:mg "max" = none
 nMin:mg "min" = none
 nRange:mg "range" = none
 nTuple:mg "tuple" = none
 nSum:mg "sum" = none
section
variable {P:Program}{w:World}{K:PySem.W.Frag}{mg:Str->Option Value}{base:Heap}
def XE:Sp:=λvs H Q _=>∃i,vs=[.int i]/\Q (.bl true) H
theorem Vd:zw ["thing"] ["thing"] (zf xZ):=⟨rfl,rfl,rfl,by decide +kernel,rfl,by decide +kernel,by decide +kernel⟩
theorem QN (D:Df K mg "is_whole" xZ ["thing"] []) (T:TxB K mg):Cal P w K mg base "is_whole" 1 ["thing"] [] XE:=by
 refine D.cal (k:=0) Vd (λvs H Q E h=>by obtain⟨i,rfl,_⟩:=h;rfl) (λf cdv A outer s H vs Q E hr h=>?_)
 obtain⟨i,rfl,k⟩:=h
 refine⟨_,zh (zu (vS
  (zB x9 rfl T.nIs PyProof.Rows.boot_isinstance (zc (pv 0) (zc (vB (v:=.ty "int") (u:=.type "int") rfl T.nInt PyProof.Rows.boot_int rfl) zd)))
  (jm (zat (zB x9 rfl T.nIs PyProof.Rows.boot_isinstance (zc (pv 0) (zc (vB (v:=.ty "bool") (u:=.type "bool") rfl T.nBool (by decide +kernel) rfl) zd))))))),?_⟩
 refine⟨_,rfl,_,_,_,true,rfl,.int i,T.ii,true,rfl,zY ?_⟩
 exact⟨_,rfl,_,_,_,false,rfl,.int i,T.ib,false,rfl,k⟩
def ZE:Sp:=λvs H Q _=>∃a b:Int,vs=[.int a,.int b]/\0<=a/\0<=b/\Q (.int (Int.gcd a b:Nat)) H
theorem Q9:zw ["one","other"] ["one","other"] (zf zP):=⟨rfl,rfl,rfl,by decide +kernel,rfl,by decide +kernel,by decide +kernel⟩
theorem zag (D:Df K mg "greatest_divisor" zP ["one","other"] []):Cal P w K mg base "greatest_divisor" 1 ["one","other"] [] ZE:=by
 refine D.cal (k:=0) Q9 (λvs H Q E h=>by obtain⟨a,b,rfl,_⟩:=h;rfl) (λf cdv A outer s H vs Q E hr h=>?_)
 obtain⟨a,b,rfl,ha,hb,k⟩:=h
 refine⟨_,zg (vF PassesOwn.never (zp jQ (pv 1) ze (zr _))
   (zh (QV (i:=0) (j:=1) rfl Q9.nd rfl rfl (by decide) rfl rfl (zc (pv 1) (zc (zm qH (pv 0) (pv 1)) zd)) (by rfl))))
  (zh (zu (pv 0))),?_⟩
 refine vN (λσ H1=>H1=H/\∃x y:Int,σ=[some (.int x),some (.int y)]/\0<=x/\0<=y/\Int.gcd x y=Int.gcd a b)
  (λσ _=>match σ with | [_,some (.int y)]=>y.toNat | _=>0) ⟨rfl,a,b,rfl,ha,hb,rfl⟩ ?_ ?_
 ·rintro σ H1 ⟨rfl,x,y,rfl,hx,hy,e⟩
  refine⟨_,rfl,_,_,rfl,rfl,_,rfl,vd (λh=>?_) (λh=>?_)⟩
  ·have h':0<y:=of_decide_eq_true h
   refine⟨_,rfl,_,rfl,_,rfl,_,_,rfl,rfl,h',_,_,rfl,⟨rfl,_,_,rfl,hy,Int.emod_nonneg _ (by omega),?_⟩,?_⟩
   ·rw[KM.Zp hx h'];exact e
   ·show (x % y).toNat<y.toNat
    have:=Int.emod_lt_of_pos x h'
    omega
  ·have h':¬ 0<y:=λz=>h (decide_eq_true z)
   have:y=0:=by omega
   subst this
   refine⟨_,rfl,?_⟩
   have e2:x=(Int.gcd a b:Nat):=by rw[<-e,Int.gcd_zero_right];omega
   rw[e2];exact k
 ·rintro σ H1 Q1 Q2 hq ⟨v,e,i,j,e1,e2,k1,e3,q⟩
  exact⟨v,e,i,j,e1,e2,k1,e3,hq _ _ q⟩
theorem vQ (i:Int):(if i<0 then -i else i)=(i.natAbs:Int):=by split <;> omega
end
end KK
set_option Elab.async false
set_option linter.all false
set_option maxRecDepth 100000
namespace KK
open PySem L2
end KK
section
set_option maxHeartbeats 4000000
set_option Elab.async false
set_option linter.all false
set_option maxRecDepth 100000
namespace KK
open PySem L2
def qP (H:Hp) (p:Addr):Prop:=∃a b c:Int,H p=some (.lst [.int a,.int b,.int c])
structure qo (p:Addr) (H H':Hp):Prop where
 pool:qP H' p
 keep:∀b o,H b=some o->b≠p->H' b=some o
theorem qo.trans {p:Addr}{H H1 H2:Hp}(a:qo p H H1) (b:qo p H1 H2):qo p H H2:=⟨b.pool,λc o e n=>b.keep c o (a.keep c o e n) n⟩
theorem qo.same {p:Addr}{H H1 H2:Hp}(a:qo p H H1) (b:zo H1 H2):qo p H H2:=⟨by obtain⟨x,y,z,e⟩:=a.pool;exact⟨x,y,z,b _ _ e⟩,λc o e n=>b c o (a.keep c o e n)⟩
theorem qo.pre {p:Addr}{H H1 H2:Hp}(b:qo p H1 H2) (a:zo H H1):qo p H H2:=⟨b.pool,λc o e n=>b.keep c o (a c o e) n⟩
theorem qP.new {H:Hp}{p l:Addr}{o:HO}(h:qP H p) (hl:H l=none):qP (upd H l o) p:=by obtain⟨a,b,c,e⟩:=h;exact⟨a,b,c,zo.upd hl _ _ e⟩
theorem qP.ne {H:Hp}{p l:Addr}(h:qP H p) (hl:H l=none):l≠p:=by obtain⟨a,b,c,e⟩:=h;exact(z9 e hl).symm
theorem qo.tup {p a:Addr}{H H':Hp}{xs:List V}(s:qo p H H') (hp:qP H p) (h:H a=some (.tup xs)):H' a=some (.tup xs):=by
 obtain⟨_,_,_,e⟩:=hp
 exact s.keep a _ h (Jq h e (by intro z;cases z))
section
variable {P:Program}{w:World}{K:PySem.W.Frag}{mg:Str->Option Value}{base:Heap}
def Jy:Sp:=λvs H Q _=>∃c:Int,vs=[.int c]/\∀p H',H p=none->zo H H'->qP H' p->Q (.ref p) H'
theorem zay:zw ["cell"] ["cell"] (zf x5):=⟨rfl,rfl,rfl,by decide +kernel,rfl,by decide +kernel,by decide +kernel⟩
theorem zaf (D:Df K mg "_law_pool" x5 ["cell"] []) (T:TxB K mg):Cal P w K mg base "_law_pool" 1 ["cell"] [] Jy:=by
 refine D.cal (k:=0) zay (λvs H Q E h=>by obtain⟨a,rfl,_⟩:=h;rfl) (λf cdv A outer s H vs Q E hr h=>?_)
 obtain⟨c,rfl,k⟩:=h
 refine⟨_,zh (zu (xE (zc (zB (XI rfl) (by rfl) T.nMax PyProof.Rows.boot_max (zc ze (zc (zm vm (pv 0) (zm qJ ze ze)) zd))) (zc (zm qH (pv 0) (zm qJ ze ze)) (zc ze zd))))),?_⟩
 refine⟨_,rfl,_,_,rfl,rfl,⟨by decide,by decide,by decide⟩,_,_,rfl,rfl,_,_,rfl,?_⟩
 refine⟨_,rfl,_,_,rfl,rfl,⟨by decide,by decide,by decide⟩,_,_,rfl,rfl,(by show (0:Int)<10^18;decide),(by show 3<=sizeLine;decide),λp hp=>?_⟩
 exact k p _ hp (zo.upd hp) ⟨_,_,_,zi⟩
def Z7:Sp:=λvs H Q _=>∃(p:Addr) (n:Int),vs=[.ref p,.int n]/\0<n/\n<1073741824/\qP H p/\∀(d:Int) H',0<=d->d<n->qo p H H'->Q (.int d) H'
theorem XB:zw ["pool","base","digit","mixed","stir"] ["pool","base"] (zf xK):=⟨rfl,rfl,rfl,by decide +kernel,rfl,by decide +kernel,by decide +kernel⟩
theorem ZH {H:Hp}{p:Addr}{a b c:Int}:qo p H (upd H p (.lst [.int a,.int b,.int c])):=⟨⟨a,b,c,zi⟩,λd o e n=>by rw[zX n];exact e⟩
end
end KK
end
section
set_option maxHeartbeats 4000000
set_option Elab.async false
set_option linter.all false
set_option maxRecDepth 100000
namespace KK
open PySem L2 KM
end KK
end
section
set_option maxHeartbeats 4000000
set_option Elab.async false
set_option linter.all false
set_option maxRecDepth 100000
namespace L2
open PySem PySem.Spec PyProof.Rows
section
variable {X:Cx}
theorem Jo {op:Operator}{r:R2}{a b:Expr}{ta tb:TE}{pos:Pos}(ho:OpR X (binaryOp op) r) (ha:Bx (PE X a ta)) (hb:Bx (PE X b tb)):Bx (PE X (.BinOp a op b pos) (tOp r ta tb)):=by obtain⟨ha⟩:=ha;obtain⟨hb⟩:=hb;exact⟨zm ho ha hb⟩
def zaZ (K:PySem.W.Frag):R2:=λx y H Q=>∃l b xs zs,x = .ref l/\y = .ref b/\SqL K H l xs/\SqL K H b zs/\xs.length+zs.length<=sizeLine/\∀p,H p=none->Q (.ref p) (upd H p (.lst (xs++zs)))
theorem j7:OpR X (binaryOp .Add) (zaZ X.K):=by
 intro pins s σ H x y v u Q I rx ry h
 obtain⟨l,b,xs,zs,rfl,rfl,hH,hB,hz,q⟩:=h
 cases rx
 cases ry
 obtain⟨its,r,pl,z⟩:=I.list hH
 obtain⟨its2,r2,pl2,z2⟩:=I.list hB
 have e1:=r.length
 have e2:=r2.length
 obtain⟨⟨cls,dd,data,sl⟩,n,ho,hc,hdn,hd⟩:=pl
 obtain⟨⟨cls2,dd2,data2,sl2⟩,n2,ho2,hc2,hdn2,hd2⟩:=pl2
 simp only at hc hd hc2 hd2
 subst hc hd hc2 hd2
 refine concat_meets ⟨_,ho,rfl⟩ ⟨_,ho2,rfl⟩ noFill_list_add seq_list_add PySem.F.slot_list_add PySem.F.entry_list_add (PySem.F.args_list_add_2 _ _) (list_addW l b its.toArray its2.toArray n n2 dd dd2 sl sl2 (by simp only[List.size_toArray];omega)) ⟨ho,ho2,?_⟩
 have ea:its.toArray++its2.toArray=(its++its2).toArray:=by simp
 rw[ea]
 exact⟨.ref _,_,I.lnew (t':=s.toks) (r.append r2) (by rw[List.length_append];omega),rfl,q _ I.fresh⟩
end
section
variable {X:Cx}{e st:Expr}{te:TE}{pos p2:Pos}
def zbm (K:PySem.W.Frag) (te ts:TE):TE:=λσ H Q=>te σ H λx H1=>ts σ H1 λy H2=>∃a xs,x = .ref a/\y = .int (-1)/\SqL K H2 a xs/\∀p,H2 p=none->Q (.ref p) (upd H2 p (.lst xs.reverse))
theorem V9 {ts:TE}(he:PE X e te) (hs:PE X st ts):PE X (.Subscript e (.Slice none none (some st) p2) pos) (zbm X.K te ts):=by
 intro pins s σ H Q I h
 refine Subscript_ (thn (he pins s σ H _ I h) λv s1 ⟨x,H1,I1,r1,q1⟩=>?_)
 refine wpAny_Slice ?_
 rw[evalPart_none]
 refine wpAny_pure (wpAny_pure ?_)
 rw[evalPart_some]
 refine thn (hs pins s1 σ H1 _ I1 q1) λu s3 ⟨y,H3,I3,r3,q3⟩=>?_
 obtain⟨a,xs,rfl,rfl,hx,q⟩:=q3
 cases r1
 obtain⟨t,rfl⟩:=r3
 have I4:Inv X pins σ H3 { s3 with heap:=s3.heap.push { cls:=.type "slice",data:=.fields #[.none,.none,.int (-1) t] } }:=I3.kept (t':=s3.toks) λb ob q=>Heap.get?_push_of_some _ q
 obtain⟨its,r,ht,hz⟩:=I4.list hx
 have hlen:=r.length
 show wpAny (model X.prog X.w) X.A (subscriptTail e (.Slice none none (some st) p2) (.ref a) (.ref s3.heap.objs.size)) (EP X pins σ Q) X.xe { s3 with heap:=s3.heap.push { cls:=.type "slice",data:=.fields #[.none,.none,.int (-1) t] } }
 refine tail_any (ops:=[.ref a,.ref s3.heap.objs.size]) ht.isList.typeIs slot_list_getitem.lookup (wpAny_getItem_list_slice ht.isList (Heap.IsSliceOf.new ..) .none .none (.int (-1) t) (by simp) ?_ (by rw[List.size_toArray] <;> omega)) (by with_unfolding_all rfl)
 rw[PySem.W.krv_pick]
 refine⟨.ref _,_,I4.laid (t':=s3.toks) (o:=.lst xs.reverse) (λb ob q=>Heap.get?_push_of_some _ q) (Nat.le_refl _) ?_,rfl,q _ (I4.hok.fresh (Nat.le_refl _))⟩
 exact⟨by rw[List.length_reverse];exact hz,_,0,r.rev,Heap.get?_push_size _ rfl⟩
end
theorem xj.quiet {P:Program}{w:World}{K:PySem.W.Frag}{mg:Str->Option Value}{base:Heap}{x:Str}{k:Nat}{ps:List Str}{dvs:List V}{sp sp':Sp}(c:xj P w K mg base x k ps dvs sp) (h:∀vs H Q E,sp' vs H Q E->sp vs H Q λ_ _ _=>False):Cal P w K mg base x k ps dvs sp':=by
 obtain⟨f,fd,ds,F,r⟩:=c.ex
 refine⟨⟨f,fd,ds,⟨λvs H Q E q=>F.len vs H Q _ (h vs H Q E q),λA outer s H args us vs Q E hr e0 hb hv q=>?_⟩,r⟩⟩
 refine codeAny_mono (F.run A outer s H args us vs Q _ hr e0 hb hv (h vs H Q E q)) λrr s' hq=>?_
 cases rr with
 | ok fl=>cases fl <;> exact hq
 | error e=>obtain⟨_,_,_,_,_,_,_,_,z⟩:=hq;exact z.elim
end L2
namespace KK
open PySem L2 KM
abbrev jW (x:Str) (C:Addr) (mg:Str->Option Value) (h:Heap):Prop:=PyProof.Rows.OwnCls x C zaJ "ValueError.__new__" mg h
theorem zD {D:vg}{σ:St}{H:Hp}(h:D.nx σ H):Vl D σ H:=h
theorem Vi {t u:TS}{D:vg}{σ:St}{H:Hp}(R:St->Hp->Prop) (h2:∀σ' H',R σ' H'->u D σ' H') (h1:∀nx:St->Hp->Prop,(∀σ' H',R σ' H'->nx σ' H')->t { D with nx:=nx } σ H):jD t u D σ H:=h1 (u D) h2
theorem X9 {p:Addr}{H H':Hp}(hp:qP H p) (s:qo p H H'):qE H H':=λb xs e=>s.tup hp e
theorem bdn {n:Nat}{i:Int}(h0:0<=i) (h1:i<2^n):Bd n i:=by
 unfold Bd
 have:((2^n:Nat):Int)=(2:Int)^n:=by push_cast;rfl
 omega
theorem bdz {n:Nat}{i:Int}(h0 : -(2^n)<i) (h1:i<2^n):Bd n i:=by
 unfold Bd
 have:((2^n:Nat):Int)=(2:Int)^n:=by push_cast;rfl
 omega
def RI (H:Hp) (v:V) (r:Int×Int):Prop:=∃p,v = .ref p/\H p=some (.tup [.int r.1,.int r.2])
def WI (H:Hp) (v:V):Wx->Prop
 | none=>v = .non
 | some u=>∃p a b,v = .ref p/\H p=some (.tup [a,b])/\RI H a u.1/\RI H b u.2
theorem RI.tups {H H':Hp}{v:V}{r:Int×Int}(h:RI H v r) (e:qE H H'):RI H' v r:=let ⟨p,a,b⟩:=h;⟨p,a,e _ _ b⟩
theorem WI.tups {H H':Hp}{v:V}{u:Wx}(h:WI H v u) (e:qE H H'):WI H' v u:=by
 cases u with
 | none=>exact h
 | some u=>obtain⟨p,a,b,e1,e2,e3,e4⟩:=h;exact⟨p,a,b,e1,e _ _ e2,e3.tups e,e4.tups e⟩
theorem str_int (n:Nat):(Str.ofString (toString ((n:Nat):Int)))=TX (fig n):=by
 rw[<-qu (Str.ofString _),PySem.W.KIN.signs_num];rfl
end KK
end
section
set_option maxHeartbeats 4000000
set_option Elab.async false
set_option linter.all false
set_option maxRecDepth 100000
namespace KK
open PySem L2 KM
structure TxS (K:PySem.W.Frag) (mg:Str->Option Value):Prop where
 ss:PySem.W.kitOne K (.type "str") (.type "str")=some true
 tt:PySem.W.kitOne K (.type "tuple") (.type "tuple")=some true
 nStr:mg "str" = none
 nAll:mg "all" = none
 nList:mg "list" = none
section
variable {P:Program}{w:World}{K:PySem.W.Frag}{mg:Str->Option Value}{base:Heap}
theorem QC {α:Type}{xs:List α}(h:xs.length=1):∃a,xs=[a]:=by
 match xs,h with
 | [a],_=>exact⟨a,rfl⟩
theorem Xl {sep:Str}(hs:sep.length<=100):∀(ts:List Str) (i:Nat),(∀t∈ts,t.length<=1000)->ts.foldl (λn t=>n+t.length+sep.length) i<=i+ts.length*1100
 | [],i,_=>by simp
 | t::ts,i,h=>by
  have:=Xl hs ts (i+t.length+sep.length) λu m=>h u (List.mem_cons_of_mem _ m)
  have h2:=h t (List.mem_cons_self ..)
  rw[List.foldl_cons,List.length_cons]
  omega
theorem VF {sep:Str}{ts:List Str}(hs:sep.length<=100) (hn:ts.length<=100) (hl:∀t∈ts,t.length<=1000):JoinOk sep ts=true:=by
 have:=Xl hs ts 0 hl
 unfold JoinOk Builtin.Str.tooLong
 rw[Bool.not_eq_true',List.foldl_toArray]
 exact decide_eq_false (by rw[sizeLine_eq];omega)
theorem ZB:zw ["number","pieces","rest"] ["number"] (zf zR):=⟨rfl,rfl,rfl,by decide +kernel,rfl,by decide +kernel,by decide +kernel⟩
theorem jN {n:Nat}(h:n<10^60):((n:Int)).natAbs.log2<1920:=by
 have e:((n:Int)).natAbs=n:=by omega
 rw[e]
 rcases Nat.eq_zero_or_pos n with z | z
 ·subst z;decide
 ·exact(Nat.log2_lt (by omega)).mpr (Nat.lt_trans h (by decide))
theorem Vb:zw ["one","top","bottom"] ["one"] (zf xB):=⟨rfl,rfl,rfl,by decide +kernel,rfl,by decide +kernel,by decide +kernel⟩
def WsI (H:Hp) (a:Addr) (u v:Wx):Prop:=∃x y,H a=some (.tup [x,y])/\WI H x u/\WI H y v
end
end KK
end
section
set_option maxHeartbeats 4000000
set_option Elab.async false
set_option linter.all false
set_option maxRecDepth 100000
namespace KK
open PySem L2 KM
section
variable {P:Program}{w:World}{K:PySem.W.Frag}{mg:Str->Option Value}{base:Heap}
def Ji:Sp:=λvs H Q _=>∃(a:Addr) (xs:List V) (n:Int),vs=[.ref a,.int n]/\H a=some (.tup xs)/\Q (.bl (decide ((xs.length:Int)=n))) H
theorem Va:zw ["thing","many"] ["thing","many"] (zf xY):=⟨rfl,rfl,rfl,by decide +kernel,rfl,by decide +kernel,by decide +kernel⟩
theorem xi (a b:Int):decide (V.int a=V.int b)=decide (a=b):=by
 by_cases h:a=b
 ·rw[h,decide_eq_true rfl,decide_eq_true rfl]
 ·rw[decide_eq_false h,decide_eq_false (λz=>h (by injection z))]
theorem QF (D:Df K mg "is_tuple" xY ["thing","many"] []) (T:TxB K mg) (TS:TxS K mg):Cal P w K mg base "is_tuple" 1 ["thing","many"] [] Ji:=by
 refine D.cal (k:=0) Va (λvs H Q E h=>by obtain⟨_,_,_,rfl,_⟩:=h;rfl) (λf cdv A outer s H vs Q E hr h=>?_)
 obtain⟨a,xs,n,rfl,ha,k⟩:=h
 refine⟨_,(zh (zu (vS (zB x9 (by rfl) T.nIs PyProof.Rows.boot_isinstance (zc (pv 0) (zc (vB (v:=.ty "tuple") (u:=.type "tuple") (by rfl) T.nTuple PyProof.Rows.boot_tuple rfl) zd))) (jm (xV xO (zB zW (by rfl) T.nLen PySem.boot_len (zc (pv 0) zd)) (pv 1) (zr _)))))),?_⟩
 refine⟨_,rfl,_,_,_,true,rfl,.tup ha,TS.tt,true,rfl,zY ?_⟩
 refine⟨_,rfl,a,xs,rfl,.inr (SqT.of ha),_,rfl,?_⟩
 rw[<-xi]at k
 exact⟨rfl,k⟩
def zaB:Sp:=λvs H Q _=>∃(v:V) (r:Int×Int),vs=[v]/\RI H v r/\Q (.bl (xx r.1 r.2)) H
theorem Z4:zw ["thing","top","bottom"] ["thing"] (zf xX):=⟨rfl,rfl,rfl,by decide +kernel,rfl,by decide +kernel,by decide +kernel⟩
theorem zah (D:Df K mg "is_ratio" xX ["thing"] []) (T:TxB K mg) (cTu:Cal P w K mg base "is_tuple" 1 ["thing","many"] [] Ji) (cW:Cal P w K mg base "is_whole" 1 ["thing"] [] XE) (cG:Cal P w K mg base "greatest_divisor" 1 ["one","other"] [] ZE):Cal P w K mg base "is_ratio" 2 ["thing"] [] zaB:=by
 refine D.cal (k:=1) Z4 (λvs H Q E h=>by obtain⟨_,_,rfl,_⟩:=h;rfl) (λf cdv A outer s H vs Q E hr h=>?_)
 obtain⟨v,r,rfl,⟨p,rfl,hp⟩,k⟩:=h
 refine⟨_,(zg (zO (xJ (xa (zK cTu hr (zc (pv 0) (zc ze zd))) λ_=>rfl)) (zh (zu qm)) zy)
  (zg (qy (pv 0) (j9 rfl (zV (zJ (i:=1) Z4.nd rfl (Or.inl rfl)) (zV (zJ (i:=2) Z4.nd rfl (Or.inl rfl)) qp))))
  (zg (zO ((qq (xJ (xa (zK cW hr (zc (pv 1) zd)) λ_=>rfl)) (qq (xJ (xa (zK cW hr (zc (pv 2) zd)) λ_=>rfl)) (qK (zp jl (pv 2) ze (zr _)))))).pt (zh (zu qm)) zy)
  (zh (zu (xV xO (zK cG hr (zc (zB vt (by rfl) T.nAbs PyProof.Rows.boot_abs (zc (pv 1) zd)) (zc (pv 2) zd))) ze (zr _))))))),?_⟩
 refine⟨_,rfl,p,_,_,rfl,hp,true,rfl,zU ?_⟩
 refine zD ?_
 refine⟨_,rfl,p,_,rfl,.of hp,rfl,_,_,rfl,_,_,rfl,rfl,?_⟩
 dsimp only
 refine⟨_,rfl,r.1,rfl,true,rfl,zU ?_⟩
 refine⟨_,rfl,r.2,rfl,true,rfl,zU ?_⟩
 refine⟨_,rfl,_,_,rfl,rfl,_,rfl,vd (λh=>?_) (λh=>?_)⟩
 ·have h1:r.2<1:=of_decide_eq_true h
  have e:xx r.1 r.2=false:=by unfold xx;rw[decide_eq_false (by omega)];rfl
  rw[e]at k;exact k
 ·have h1:¬r.2<1:=λz=>h (decide_eq_true z)
  refine zD ?_
  refine⟨_,rfl,r.1,rfl,_,rfl,_,_,rfl,(by rw[vQ];omega),(by omega),rfl,?_⟩
  have e:xx r.1 r.2=decide (V.int ((Int.gcd (if r.1<0 then -r.1 else r.1) r.2:Nat):Int)=V.int 1):=by
   unfold xx
   rw[decide_eq_true (show 1<=r.2 by omega),xi,vQ,Bool.true_and]
   by_cases c:Int.gcd (r.1.natAbs:Int) r.2=1
   ·rw[decide_eq_true c,c];rfl
   ·rw[decide_eq_false c,decide_eq_false (by omega)]
  rw[e]at k;exact k
def jB:Wx->Bool
 | none=>true
 | some u=>xx u.1.1 u.1.2&&xx u.2.1 u.2.2
def za9:Sp:=λvs H Q _=>∃(v:V) (u:Wx),vs=[v]/\WI H v u/\Q (.bl (jB u)) H
theorem X3:zw ["thing"] ["thing"] (zf qk):=⟨rfl,rfl,rfl,by decide +kernel,rfl,by decide +kernel,by decide +kernel⟩
theorem XX (D:Df K mg "is_wall" qk ["thing"] []) (cTu:Cal P w K mg base "is_tuple" 1 ["thing","many"] [] Ji) (cIr:Cal P w K mg base "is_ratio" 2 ["thing"] [] zaB):Cal P w K mg base "is_wall" 3 ["thing"] [] za9:=by
 refine D.cal (k:=2) X3 (λvs H Q E h=>by obtain⟨_,_,rfl,_⟩:=h;rfl) (λf cdv A outer s H vs Q E hr h=>?_)
 obtain⟨v,u,rfl,hw,k⟩:=h
 have hr1:xh 1 _:=hr.mono (by decide)
 refine⟨_,(zg (zO (zp jk (pv 0) xq (zr _)) (zh (zu qm)) zy)
  (zh (zu (vS (zK cTu hr1 (zc (pv 0) (zc ze zd))) (vS (zK cIr hr (zc (zH xk (pv 0) ze (λ_ _=>rfl)) zd)) (jm (zK cIr hr (zc (zH xk (pv 0) ze (λ_ _=>rfl)) zd)))))))),?_⟩
 cases u with
 | none=>cases(show v = .non from hw);exact⟨_,rfl,rfl,_,rfl,zY k⟩
 | some u =>
  obtain⟨p,a,b,rfl,hp,ha,hb⟩:=hw
  refine⟨_,rfl,rfl,_,rfl,zU ?_⟩
  refine zD ?_
  refine⟨_,rfl,p,_,_,rfl,hp,true,rfl,zY ?_⟩
  refine⟨_,rfl,p,_,_,_,rfl,rfl,.of hp,rfl,a,u.1,rfl,ha,_,rfl,vd (λh=>?_) (λh=>?_)⟩
  ·refine⟨_,rfl,p,_,_,_,rfl,rfl,.of hp,rfl,b,u.2,rfl,hb,?_⟩
   have e:jB (some u)=xx u.2.1 u.2.2:=by show (_&&_)=_;rw[h];rfl
   rw[e]at k;exact k
  ·have e:jB (some u)=false:=by
    show (xx u.1.1 u.1.2&&_)=_
    cases h2:xx u.1.1 u.1.2
    ·rfl
    ·exact absurd h2 h
   rw[e]at k;exact k
def za8:Sp:=λvs H Q _=>∃(a:Addr) (u v:Wx),vs=[.ref a]/\WsI H a u v/\Q (.bl (jB u&&jB v)) H
theorem Jc:zw ["thing"] ["thing"] (zf xl):=⟨rfl,rfl,rfl,by decide +kernel,rfl,by decide +kernel,by decide +kernel⟩
theorem VO (D:Df K mg "is_wall_pair" xl ["thing"] []) (cTu:Cal P w K mg base "is_tuple" 1 ["thing","many"] [] Ji) (cWa:Cal P w K mg base "is_wall" 3 ["thing"] [] za9):Cal P w K mg base "is_wall_pair" 4 ["thing"] [] za8:=by
 refine D.cal (k:=3) Jc (λvs H Q E h=>by obtain⟨_,_,_,rfl,_⟩:=h;rfl) (λf cdv A outer s H vs Q E hr h=>?_)
 obtain⟨a,u,v,rfl,⟨x,y,ha,hx,hy⟩,k⟩:=h
 have hr1:xh 1 _:=hr.mono (by decide)
 refine⟨_,(zh (zu (vS (zK cTu hr1 (zc (pv 0) (zc ze zd))) (vS (zK cWa hr (zc (zH xk (pv 0) ze (λ_ _=>rfl)) zd)) (jm (zK cWa hr (zc (zH xk (pv 0) ze (λ_ _=>rfl)) zd))))))),?_⟩
 refine⟨_,rfl,a,_,_,rfl,ha,true,rfl,zY ?_⟩
 refine⟨_,rfl,a,_,_,_,rfl,rfl,.of ha,rfl,x,u,rfl,hx,_,rfl,vd (λh=>?_) (λh=>?_)⟩
 ·refine⟨_,rfl,a,_,_,_,rfl,rfl,.of ha,rfl,y,v,rfl,hy,?_⟩
  rw[h]at k;exact k
 ·have e:jB u=false:=by cases h2:jB u;rfl;exact absurd h2 h
  rw[e]at k;exact k
def Rm (r:Int×Int):Prop:=Bd 4000 r.1/\Bd 4000 r.2
def zbb:Sp:=λvs H Q _=>∃v u r s,vs=[v,u]/\RI H v r/\RI H u s/\Rm r/\Rm s/\Q (.bl (decide (r.1*s.2<s.1*r.2))) H
theorem Je:zw ["one","other"] ["one","other"] (zf vU):=⟨rfl,rfl,rfl,by decide +kernel,rfl,by decide +kernel,by decide +kernel⟩
theorem VY (D:Df K mg "less" vU ["one","other"] []):Cal P w K mg base "less" 1 ["one","other"] [] zbb:=by
 refine D.cal (k:=0) Je (λvs H Q E h=>by obtain⟨_,_,_,_,rfl,_⟩:=h;rfl) (λf cdv A outer s H vs Q E hr h=>?_)
 obtain⟨v,u,x,y,rfl,⟨p,rfl,hp⟩,⟨q,rfl,hq⟩,hx,hy,k⟩:=h
 have b1:Bd 1000000 x.1:=hx.1.mono (by decide)
 have b2:Bd 1000000 x.2:=hx.2.mono (by decide)
 have b3:Bd 1000000 y.1:=hy.1.mono (by decide)
 have b4:Bd 1000000 y.2:=hy.2.mono (by decide)
 refine⟨_,(zh (zu (xV jl (zm qI (zH xk (pv 0) ze (λ_ _=>rfl)) (zH xk (pv 1) ze (λ_ _=>rfl))) (zm qI (zH xk (pv 1) ze (λ_ _=>rfl)) (zH xk (pv 0) ze (λ_ _=>rfl))) (zr _)))),?_⟩
 refine⟨_,rfl,p,_,_,_,rfl,rfl,.of hp,at0 ..,_,rfl,q,_,_,_,rfl,rfl,.of hq,at1 ..,_,_,rfl,rfl,⟨b1,b4⟩,?_⟩
 exact⟨_,rfl,q,_,_,_,rfl,rfl,.of hq,at0 ..,_,rfl,p,_,_,_,rfl,rfl,.of hp,at1 ..,_,_,rfl,rfl,⟨b3,b2⟩,_,_,rfl,rfl,k⟩
def Wm:Wx->Prop
 | none=>True
 | some u=>Rm u.1
def zbf:Sp:=λvs H Q _=>∃(a:Addr) (u v:Wx),vs=[.ref a]/\WsI H a u v/\jB u=true/\jB v=true/\Wm u/\Wm v/\Q (.bl (okW u v)) H
theorem ju:zw ["thing","low","high"] ["thing"] (zf xD):=⟨rfl,rfl,rfl,by decide +kernel,rfl,by decide +kernel,by decide +kernel⟩
theorem QM (D:Df K mg "walls_good" xD ["thing"] []) (cWp:Cal P w K mg base "is_wall_pair" 4 ["thing"] [] za8) (cLs:Cal P w K mg base "less" 1 ["one","other"] [] zbb):Cal P w K mg base "walls_good" 5 ["thing"] [] zbf:=by
 refine D.cal (k:=4) ju (λvs H Q E h=>by obtain⟨_,_,_,rfl,_⟩:=h;rfl) (λf cdv A outer s H vs Q E hr h=>?_)
 obtain⟨a,u,v,rfl,hW,lu,lv,mu,mv,k⟩:=h
 have hr1:xh 1 _:=hr.mono (by decide)
 obtain⟨x,y,ha,hx,hy⟩:=id hW
 refine⟨_,(zg (zO (xJ (xa (zK cWp hr (zc (pv 0) zd)) λ_=>rfl)) (zh (zu qm)) zy)
  (zg (qy (pv 0) (j9 rfl (zV (zJ (i:=1) ju.nd rfl (Or.inl rfl)) (zV (zJ (i:=2) ju.nd rfl (Or.inl rfl)) qp))))
  (zh (zu (Ju (xV jk (pv 1) xq (zr _)) (Ju (xV jk (pv 2) xq (zr _)) (jm (zK cLs hr1 (zc (zH xk (pv 1) ze (λ_ _=>rfl)) (zc (zH xk (pv 2) ze (λ_ _=>rfl)) zd)))))))))),?_⟩
 refine⟨_,rfl,a,u,v,rfl,hW,_,rfl,?_⟩
 rw[lu,lv]
 refine zU ?_
 refine zD ?_
 refine⟨_,rfl,a,_,rfl,.of ha,rfl,_,_,rfl,_,_,rfl,rfl,?_⟩
 dsimp only
 cases u with
 | none=>cases(show x = .non from hx);exact⟨_,rfl,rfl,_,rfl,zY k⟩
 | some u =>
  obtain⟨p1,a1,c1,rfl,h1,r1,_⟩:=hx
  refine⟨_,rfl,rfl,_,rfl,zU ?_⟩
  cases v with
  | none=>cases(show y = .non from hy);exact⟨_,rfl,rfl,_,rfl,zY k⟩
  | some v =>
   obtain⟨p2,a2,c2,rfl,h2,r2,_⟩:=hy
   refine⟨_,rfl,rfl,_,rfl,zU ?_⟩
   exact⟨_,rfl,p1,_,_,_,rfl,rfl,.of h1,rfl,_,rfl,p2,_,_,_,rfl,rfl,.of h2,rfl,a1,a2,u.1,v.1,rfl,r1,r2,mu,mv,k⟩
end
end KK
end
section
set_option maxHeartbeats 4000000
set_option Elab.async false
set_option linter.all false
set_option maxRecDepth 100000
namespace KK
open PySem L2 KM PySem.NumText
structure TxF (mg:Str->Option Value) (tF tM:Tok):Prop where
 mF:mg "FIGURES" = some (.str "0123456789" tF)
 mM:mg "MOST_FIGURES" = some (.int 300 tM)
theorem qC (x y:Str):decide (V.str x=V.str y)=decide (x=y):=by
 by_cases h:x=y
 ·rw[h,decide_eq_true rfl,decide_eq_true rfl]
 ·rw[decide_eq_false h,decide_eq_false (λz=>h (by injection z))]
theorem XF (x:Str) (i j:Nat):(Builtin.Str.strSub x i j).length<=x.length:=by
 rw[<-qu x,Xd,zv,zv]
 simp
 omega
theorem jR (x:Str) (n:Nat):∀(cuts:List Nat) (a:Nat),∀p∈StrLaws.partsFrom x n a cuts,p.length<=x.length
 | [],a,p,m=>by cases List.mem_singleton.mp m;exact XF ..
 | c::r,a,p,m=>by
  rcases List.mem_cons.mp m with rfl | m
  ·exact XF ..
  ·exact jR x n r _ p m
theorem xm {x y p:Str}(h:p∈Txt.split x y):p.length<=x.length:=by
 unfold Txt.split at h
 split at h
 ·cases List.mem_singleton.mp h;exact Nat.le_refl _
 ·split at h
  ·cases List.mem_singleton.mp h;exact Nat.le_refl _
  ·rw[StrLaws.partsBetween_eq]at h;exact jR x _ _ _ p h
theorem qZ {n:Nat}(h:n<=10000):n+2<=sizeLine:=by rw[sizeLine_eq];omega
def oI:Option Nat->V
 | none=>.non
 | some n=>.int (n:Int)
def okM (o:Option Nat) (n:Nat):Bool:=match o with
 | none=>true
 | some m=>decide (n=m)
section
variable {P:Program}{w:World}{K:PySem.W.Frag}{mg:Str->Option Value}{base:Heap}{C:Addr}{tF tM:Tok}
def X5 (C:Addr):Sp:=λvs H Q E=>∃x y o,vs=[.str x,.str y,oI o]/\(y.length == 0)=false/\x.length<=10000/\(okM o (Txt.split x y).length=true->∀l H',H l=none->zo H H'->H' l=some (.lst ((Txt.split x y).map V.str))->Q (.ref l) H')/\(okM o (Txt.split x y).length=false->∀H',zo H H'->E (.ref C) none H')
theorem Ze:zw ["thing","sign","many","parts"] ["thing","sign","many"] (zf xL):=⟨rfl,rfl,rfl,by decide +kernel,rfl,by decide +kernel,by decide +kernel⟩
theorem zal (D:Df K mg "parts_of" xL ["thing","sign","many"] []) (T:TxB K mg) (TS:TxS K mg) (O:jW "NoText" C mg base):xj P w K mg base "parts_of" 1 ["thing","sign","many"] [] (X5 C):=by
 refine D.cal1 (k:=0) Ze (λvs H Q E h=>by obtain⟨_,_,_,rfl,_⟩:=h;rfl) (λf cdv A outer s H vs Q E hr h=>?_)
 obtain⟨x,y,o,rfl,hy,hx,k,kE⟩:=h
 refine⟨_,(zg (zO (xJ (xa (zB x9 (by rfl) T.nIs PyProof.Rows.boot_isinstance (zc (pv 0) (zc (vB (v:=.ty "str") (u:=.type "str") (by rfl) TS.nStr PyProof.Rows.boot_str rfl) zd))) λ_=>rfl)) (zh (xG O PySem.F.excBase_ValueError (by decide +kernel) PySem.F.excBase_ValueError hr.hd zQ (zc zj zd))) zy)
  (zg (zx (i:=3) Ze.nd rfl (Or.inl rfl) (qS PySem.F.plainAttrs_str PySem.F.slot_str_split PySem.F.type_str_split jj (pv 0) (zc (pv 1) zd)))
  (zg (zO ((vT (zp Xq (pv 2) xq (zr _)) (qW (zp vA (zB zW (by rfl) T.nLen PySem.boot_len (zc (pv 3) zd)) (pv 2) (zr _))))).pt (zh (xG O PySem.F.excBase_ValueError (by decide +kernel) PySem.F.excBase_ValueError hr.hd zQ (zc zj zd))) zy)
  (zh (zu (pv 3)))))),?_⟩
 refine⟨_,rfl,_,_,_,true,rfl,.str x,TS.ss,true,rfl,zU ?_⟩
 refine zD ?_
 refine⟨_,rfl,rfl,_,rfl,x,y,rfl,rfl,hy,qZ hx,λl hl=>?_⟩
 dsimp only[zL]
 have sl:zo H (upd H l (.lst ((Txt.split x y).map V.str))):=zo.upd hl
 cases o with
 | none =>
  refine⟨_,rfl,rfl,_,rfl,zU (zU ?_)⟩
  refine zD ?_
  exact⟨_,rfl,k rfl l _ hl sl zi⟩
 | some n =>
  refine⟨_,rfl,rfl,_,rfl,zY ?_⟩
  refine⟨_,rfl,l,_,rfl,.inl (.of zi),_,rfl,rfl,_,rfl,?_⟩
  rw[List.length_map,show oI (some n)=V.int (n:Int)from rfl,xi]
  by_cases c:(Txt.split x y).length=n
  ·rw[decide_eq_true (show ((Txt.split x y).length:Int)=(n:Int) by omega)]
   refine zU ?_
   refine zD ?_
   exact⟨_,rfl,k (decide_eq_true c) l _ hl sl zi⟩
  ·rw[decide_eq_false (show ¬((Txt.split x y).length:Int)=(n:Int) by omega)]
   exact zY ⟨by show 1<=sizeLine;decide,kE (decide_eq_false c) _ sl⟩
theorem Q8 (a:Str) (H:Hp):JM (Its a) H (a.cps.toList.map λc=>V.str ⟨#[c]⟩) :=
 ⟨λi H' hi s=>show i<a.cps.size by simpa using hi,λH' s=>by show a.cps.size<=_;simp,λi x H2 H3 s y=>⟨y.1,by
  obtain⟨c,e1,e2⟩:=y.2
  rw[List.getElem?_map,e2]
  have:a.cps.toList[i]? = some c:=by simpa using e1
  rw[this];rfl⟩⟩
theorem Qm (c:Nat):(!(Builtin.Str.occurrences (Str.ofString "0123456789") ⟨#[c]⟩ 0 (Str.ofString "0123456789").length 1).isEmpty)=qw c:=by
 rw[StrLaws.found_one]
 have e:(Str.ofString "0123456789").cps.toList=[48,49,50,51,52,53,54,55,56,57]:=by decide +kernel
 rw[e]
 unfold qw
 by_cases h:48<=c/\c<=57
 ·rw[decide_eq_true h.1,decide_eq_true h.2,decide_eq_true]
  ·rfl
  ·simp;omega
 ·rw[decide_eq_false]
  ·by_cases h1:48<=c
   ·rw[decide_eq_true h1,decide_eq_false (by omega)];rfl
   ·rw[decide_eq_false h1];rfl
  ·simp;omega
theorem vb (x:Str):(x=Str.ofString "0")↔x.cps.toList=[48]:=by
 rw[show Str.ofString "0" = TX [48] by decide +kernel]
 constructor
 ·intro e;rw[e,zG]
 ·intro e;rw[<-qu x,e]
def Jh (C:Addr):Sp:=λvs H Q E=>∃x,vs=[.str x,.int 300]/\x.length<=10000/\(∀n,rdN x=some n->∀H',zo H H'->Q (.int n) H')/\(rdN x=none->∀H',zo H H'->E (.ref C) none H')
theorem Jf:zw ["text","most"] ["text","most"] (zf xw):=⟨rfl,rfl,rfl,by decide +kernel,rfl,by decide +kernel,by decide +kernel⟩
theorem jo {x:Str}(h:xF x.cps.toList=false):rdN x=none:=by unfold rdN;rw[h];rfl
theorem V1 (D:Df K mg "read_number" xw ["text","most"] []) (T:TxB K mg) (TS:TxS K mg) (TF:TxF mg tF tM) (O:jW "NoText" C mg base):xj P w K mg base "read_number" 1 ["text","most"] [] (Jh C):=by
 refine D.cal1 (k:=0) Jf (λvs H Q E h=>by obtain⟨_,rfl,_⟩:=h;rfl) (λf cdv A outer s H vs Q E hr h=>?_)
 obtain⟨x,rfl,hx,k,kE⟩:=h
 have hxl:x.cps.toList.length=x.length:=by simp[Str.length]
 have hz:x.length<=sizeLine:=by have:=qZ hx;omega
 refine⟨_,(zg (zO (qq (xJ (QW Jt Jt ze (zB qF (by rfl) T.nLen PySem.boot_len (zc (pv 0) zd)) (pv 1))) (qK (xJ (xa (zB (Zk rfl) (by rfl) TS.nAll (by decide +kernel) (zc (V8 (NB:=["sign"]) rfl (by decide +kernel) (by decide +kernel) rfl (by decide +kernel) (QT (pv 0)) (by intro _ _ _;refine⟨?_,?_,?_⟩;(exact(zJ (i:=0) (show List.Nodup (["sign"]:List Str) by decide +kernel) rfl (Or.inl rfl)));(exact v3);(exact(xV XY (pv 0) (vC (v:=.str "0123456789") (by rfl) TF.mF ⟨_,rfl⟩) rfl)))) zd)) λ_=>rfl)))).pt (zh (xG O PySem.F.excBase_ValueError (by decide +kernel) PySem.F.excBase_ValueError hr.hd zQ (zc zj zd))) zy)
  (zg (zO ((vT (zp vA (pv 0) zj (zr _)) (qW (xa (qS PySem.F.plainAttrs_str PySem.F.slot_str_startswith PySem.F.type_str_startswith jO (pv 0) (zc zj zd)) λ_=>rfl)))).pt (zh (xG O PySem.F.excBase_ValueError (by decide +kernel) PySem.F.excBase_ValueError hr.hd zQ (zc zj zd))) zy)
  (zh (zu (xP XH (by rfl) T.nInt PyProof.Rows.boot_int (zc (pv 0) zd)))))),?_⟩
 by_cases c1:1<=x.length
 case neg =>
  refine⟨_,rfl,x,rfl,hz,_,_,rfl,rfl,_,rfl,?_⟩
  rw[decide_eq_false (show ¬(1:Int)<=(x.length:Int) by omega)]
  refine zU ⟨_,rfl,zY ⟨by show 1<=sizeLine;decide,kE (jo ?_) H (zo.refl _)⟩⟩
  unfold xF;rw[hxl,decide_eq_false c1];rfl
 refine⟨_,rfl,x,rfl,hz,_,_,rfl,rfl,_,rfl,?_⟩
 rw[decide_eq_true (show (1:Int)<=(x.length:Int) by omega)]
 refine zY ⟨_,rfl,_,_,rfl,rfl,_,rfl,?_⟩
 by_cases c2:x.length<=300
 case neg =>
  rw[decide_eq_false (show ¬(x.length:Int)<=300 by omega)]
  refine zY ⟨by show 1<=sizeLine;decide,kE (jo ?_) H (zo.refl _)⟩
  unfold xF;rw[hxl,decide_eq_true c1,decide_eq_false c2];rfl
 rw[decide_eq_true (show (x.length:Int)<=300 by omega)]
 refine zU ?_
 refine⟨_,rfl,x,rfl,λDc hDc=>?_⟩
 refine jK (J:=Its x) (g:=zL 0) (te:=_) (n:=1) (xs:=x.cps.toList.map λc=>V.str ⟨#[c]⟩) (λi v G=>∀c,x.cps.toList[i]? = some c->v = .bl (qw c)) (λi v G G' e h=>h) hDc (Q8 x H) (va (by rw[List.length_map];omega)) ?_ ?_
 ·intro i z zs G Q' hz' hzs S hQ
  obtain⟨y1,rfl⟩:=QC hzs
  rw[List.getElem?_map]at hz'
  obtain⟨c,ec,rfl⟩:=Option.map_eq_some_iff.mp hz'
  refine⟨_,rfl,_,_,rfl,rfl,hQ _ _ (zo.refl _) λc' e'=>?_⟩
  rw[ec]at e';cases e'
  rw[Qm]
 intro ys G S hD hyl hR
 rw[List.length_map]at hyl
 have ey:ys=(x.cps.toList.map qw).map V.bl:=by
  apply List.ext_getElem?
  intro i
  rw[List.getElem?_map,List.getElem?_map]
  cases hd:x.cps.toList[i]? with
  | none=>rw[List.getElem?_eq_none (by have:=List.getElem?_eq_none_iff.mp hd;omega)];rfl
  | some c =>
   have hi:=(List.getElem?_eq_some_iff.mp hd).1
   obtain⟨v,ev⟩:∃v,ys[i]? = some v:=⟨ys[i]'(by omega),List.getElem?_eq_getElem _⟩
   rw[ev,hR i v ev c hd];rfl
 subst ey
 have ea:(x.cps.toList.map qw).all id=x.cps.toList.all qw:=by rw[List.all_map];rfl
 refine⟨Dc,_,rfl,.of hD,_,rfl,?_⟩
 rw[ea]
 by_cases c3:x.cps.toList.all qw=true
 case neg =>
  have c3:x.cps.toList.all qw=false:=by cases h:x.cps.toList.all qw;rfl;exact absurd h c3
  rw[c3]
  refine zY ⟨by show 1<=sizeLine;decide,kE (jo ?_) G S⟩
  unfold xF;rw[c3,Bool.and_false];rfl
 rw[c3]
 refine zU ?_
 refine zD ?_
 have dg:NumText.AllDigits x.cps.toList:=λc m=>by
  have:=List.all_eq_true.mp c3 c m
  unfold qw at this
  simp only[Bool.and_eq_true,decide_eq_true_eq]at this
  exact this
 have ne:x.cps.toList≠[]:=λe=>by rw[e]at hxl;simp at hxl;omega
 have it:=intText_digits dg ne (by omega)
 refine⟨_,rfl,rfl,_,rfl,?_⟩
 rw[qC]
 by_cases c4:x.cps.toList=[48]
 ·rw[decide_eq_true ((vb x).mpr c4)]
  refine zU (zU ?_)
  refine zD ?_
  refine⟨_,rfl,x,_,rfl,it,by omega,k _ ?_ G S⟩
  unfold rdN xF
  rw[hxl,decide_eq_true c1,decide_eq_true c2,c3,decide_eq_true c4];rfl
 ·rw[decide_eq_false (λz=>c4 ((vb x).mp z))]
  refine zY ?_
  refine⟨_,rfl,rfl,x,_,rfl,rfl,_,rfl,?_⟩
  rw[show Str.ofString "0" = ⟨#[48]⟩ by decide +kernel,jy]
  by_cases c5:x.cps.toList.head? = some 48
  ·rw[decide_eq_true c5]
   refine zY ⟨by show 1<=sizeLine;decide,kE (jo ?_) G S⟩
   unfold xF;rw[decide_eq_false c4,decide_eq_true c5];simp
  ·rw[decide_eq_false c5]
   refine zU ?_
   refine zD ?_
   refine⟨_,rfl,x,_,rfl,it,by omega,k _ ?_ G S⟩
   unfold rdN xF
   rw[hxl,decide_eq_true c1,decide_eq_true c2,c3,decide_eq_false c4,decide_eq_false c5];rfl
def zbd (C:Addr):Sp:=λvs H Q E=>∃x,vs=[.str x]/\x.length<=10000/\(∀n,rdW x=some n->∀H',zo H H'->Q (.int n) H')/\(rdW x=none->∀H',zo H H'->E (.ref C) none H')
theorem Vc:zw ["text","number"] ["text"] (zf xC):=⟨rfl,rfl,rfl,by decide +kernel,rfl,by decide +kernel,by decide +kernel⟩
theorem zap (D:Df K mg "read_whole" xC ["text"] []) (TF:TxF mg tF tM) (O:jW "NoText" C mg base) (cRn:xj P w K mg base "read_number" 1 ["text","most"] [] (Jh C)):xj P w K mg base "read_whole" 2 ["text"] [] (zbd C):=by
 refine D.cal1 (k:=1) Vc (λvs H Q E h=>by obtain⟨_,rfl,_⟩:=h;rfl) (λf cdv A outer s H vs Q E hr1 h=>?_)
 obtain⟨x,rfl,hx,k,kE⟩:=h
 have hz:x.length<=sizeLine:=by have:=qZ hx;omega
 refine⟨_,(zg (zO (xJ (xa (qS PySem.F.plainAttrs_str PySem.F.slot_str_startswith PySem.F.type_str_startswith jO (pv 0) (zc zj zd)) λ_=>rfl)) (zh (zu (xg cRn hr1 zC (zc (pv 0) (zc (vC (v:=.int 300) (by rfl) TF.mM ⟨_,rfl⟩) zd))))) zy)
  (zg (zx (i:=1) Vc.nd rfl (Or.inl rfl) (xg cRn hr1 zC (zc (qT jv (pv 0) (vE ze) vD) (zc (vC (v:=.int 300) (by rfl) TF.mM ⟨_,rfl⟩) zd))))
  (zg (zO (zp xO (pv 1) ze (zr _)) (zh (xG O PySem.F.excBase_ValueError (by decide +kernel) PySem.F.excBase_ValueError hr1.hd zQ (zc zj zd))) zy)
  (zh (zu (Xt Zi (pv 1))))))),?_⟩
 refine⟨_,rfl,rfl,x,_,rfl,rfl,_,rfl,?_⟩
 rw[show Str.ofString "-" = ⟨#[45]⟩ by decide +kernel,jy]
 by_cases c:x.cps.toList.head? = some 45
 ·rw[decide_eq_true c]
  refine zU ?_
  refine zD ?_
  refine⟨_,rfl,_,rfl,x,rfl,hz,?_⟩
  have es:Txt.slice x (some 1) none=TX (x.cps.toList.drop 1):=jw x 1
  rw[es]
  have eW:rdW x=match rdN (TX (x.cps.toList.drop 1))with | some n=>if n=0 then none else some (-n) | none=>none:=by unfold rdW;rw[if_pos c] <;> rfl
  have hl:(TX (x.cps.toList.drop 1)).length<=10000:=by
   rw[zv,List.length_drop];have:x.cps.toList.length=x.length:=by simp[Str.length]
   omega
  cases hn:rdN (TX (x.cps.toList.drop 1))with
  | none =>
   rw[hn]at eW
   exact⟨_,rfl,hl,λn e=>(by rw[hn]at e;cases e),λ_ H1 s1=>⟨C,rfl,kE eW H1 s1⟩⟩
  | some n =>
   rw[hn]at eW
   refine⟨_,rfl,hl,λn' e H1 s1=>?_,λe=>(by rw[hn]at e;cases e)⟩
   rw[hn]at e;cases e
   dsimp only[zL]
   refine⟨_,rfl,rfl,_,rfl,?_⟩
   rw[xi]
   by_cases c0:n=0
   ·rw[decide_eq_true c0]
    have:rdW x=none:=by rw[eW];exact if_pos c0
    exact zY ⟨by show 1<=sizeLine;decide,kE this H1 s1⟩
   ·rw[decide_eq_false c0]
    have:rdW x=some (-n):=by rw[eW];exact if_neg c0
    refine zU ?_
    refine zD ?_
    exact⟨_,rfl,_,rfl,k _ this H1 s1⟩
 ·rw[decide_eq_false c]
  have eW:rdW x=rdN x:=by unfold rdW;rw[if_neg c]
  refine zY ?_
  exact⟨_,rfl,x,rfl,hx,λn e H1 s1=>k n (eW.trans e) H1 s1,λe H1 s1=>⟨C,rfl,kE (eW.trans e) H1 s1⟩⟩
def X6 (C:Addr):Sp:=λvs H Q E=>∃x,vs=[.str x]/\x.length<=10000/\(∀r,rdR x=some r->∀v H',zo H H'->RI H' v r->Q v H')/\(rdR x=none->∀H',zo H H'->E (.ref C) none H')
theorem vJ:zw ["thing","parts","one"] ["thing"] (zf xr):=⟨rfl,rfl,rfl,by decide +kernel,rfl,by decide +kernel,by decide +kernel⟩
theorem V2 (D:Df K mg "read_ratio" xr ["thing"] []) (T:TxB K mg) (TF:TxF mg tF tM) (O:jW "NoText" C mg base) (cPs:xj P w K mg base "parts_of" 1 ["thing","sign","many"] [] (X5 C)) (cRn:xj P w K mg base "read_number" 1 ["text","most"] [] (Jh C)) (cRw:xj P w K mg base "read_whole" 2 ["text"] [] (zbd C))
  (cIr:Cal P w K mg base "is_ratio" 2 ["thing"] [] zaB):xj P w K mg base "read_ratio" 3 ["thing"] [] (X6 C):=by
 refine D.cal1 (k:=2) vJ (λvs H Q E h=>by obtain⟨_,rfl,_⟩:=h;rfl) (λf cdv A outer s H vs Q E hr h=>?_)
 obtain⟨x,rfl,hx,k,kE⟩:=h
 have hr1:xh 1 _:=hr.mono (by decide)
 have hr2:xh 2 _:=hr
 refine⟨_,(zg (zx (i:=1) vJ.nd rfl (Or.inl rfl) (xg cPs hr1 zC (zc (pv 0) (zc zj (zc xq zd)))))
  (zg (zO (zp xO (zB zW (by rfl) T.nLen PySem.boot_len (zc (pv 1) zd)) ze (zr _)) (zh (zu (qc (zc (xg cRw hr2 zC (zc (pv 0) zd)) (zc ze zd))))) zy)
  (zg (zO (zp jQ (zB zW (by rfl) T.nLen PySem.boot_len (zc (pv 1) zd)) ze (zr _)) (zh (xG O PySem.F.excBase_ValueError (by decide +kernel) PySem.F.excBase_ValueError hr.hd zQ (zc zj zd))) zy)
  (zg (zx (i:=2) vJ.nd rfl (Or.inl rfl) (qc (zc (xg cRw hr2 zC (zc (zH xb (pv 1) ze (λ_ _=>rfl)) zd)) (zc (xg cRn hr1 zC (zc (zH xb (pv 1) ze (λ_ _=>rfl)) (zc (vC (v:=.int 300) (by rfl) TF.mM ⟨_,rfl⟩) zd))) zd))))
  (zg (zO ((qq (zp xO (zH xk (pv 2) ze (λ_ _=>rfl)) ze (zr _)) (qK (xJ (xa (zK cIr hr2 (zc (pv 2) zd)) λ_=>rfl))))).pt (zh (xG O PySem.F.excBase_ValueError (by decide +kernel) PySem.F.excBase_ValueError hr.hd zQ (zc zj zd))) zy)
  (zh (zu (pv 2)))))))),?_⟩
 refine⟨_,rfl,x,_,none,rfl,by decide +kernel,hx,λ_ l H1 hl s1 h1=>?_,λe=>(by cases e)⟩
 dsimp only[zL]
 rw[show Str.ofString "/" = TX [47] by decide +kernel]at h1
 have hparts:=λp (m:p∈Txt.split x (TX [47]))=>xm m
 refine⟨_,rfl,l,_,rfl,.inl (.of h1),rfl,_,rfl,?_⟩
 rw[List.length_map,xi]
 by_cases c1:(Txt.split x (TX [47])).length=1
 ·rw[decide_eq_true (show ((Txt.split x (TX [47])).length:Int)=1 by omega)]
  obtain⟨p,ep⟩:=QC c1
  have eR:rdR x=(rdW x).map λt=>(t,1):=by unfold rdR;rw[ep]
  refine zY ?_
  refine⟨_,rfl,x,rfl,hx,λn e H2 s2=>?_,λe H2 s2=>⟨C,rfl,kE (by rw[eR,e];rfl) H2 (s1.trans s2)⟩⟩
  exact⟨by show 2<=sizeLine;decide,λq hq=>k (n,1) (by rw[eR,e];rfl) _ _ ((s1.trans s2).trans (zo.upd hq)) ⟨q,rfl,zi⟩⟩
 ·rw[decide_eq_false (show ¬((Txt.split x (TX [47])).length:Int)=1 by omega)]
  refine zU ?_
  refine zD ?_
  refine⟨_,rfl,l,_,rfl,.inl (.of h1),_,_,rfl,rfl,_,rfl,?_⟩
  rw[List.length_map]
  obtain⟨p0,r0,e0⟩:=jx x (TX [47])
  by_cases c2:2<(Txt.split x (TX [47])).length
  ·rw[decide_eq_true (show (2:Int)<((Txt.split x (TX [47])).length:Int) by omega)]
   refine zY ⟨by show 1<=sizeLine;decide,kE ?_ H1 s1⟩
   unfold rdR
   match hs:Txt.split x (TX [47]),c1,c2 with
   | [_,_],_,c2=>simp at c2
   | [_],_,c2=>simp at c2
   | [],_,c2=>simp at c2
   | _::_::_::_,_,_=>rfl
  ·rw[decide_eq_false (show ¬(2:Int)<((Txt.split x (TX [47])).length:Int) by omega)]
   refine zU ?_
   refine zD ?_
   obtain⟨a,b,eab⟩:∃a b,Txt.split x (TX [47])=[a,b]:=by
    match hs:Txt.split x (TX [47]),c1,c2 with
    | [a,b],_,_=>exact⟨a,b,rfl⟩
    | [_],c1,_=>simp at c1
    | [],_,_=>rw[hs]at e0;cases e0
    | _::_::_::_,_,c2=>simp at c2
   have eR:rdR x=match rdW a,rdN b with | some t,some u=>(if decide (u=1)=false/\xx t u=true then some (t,u)else none) | _,_=>none:=by unfold rdR;rw[eab] <;> rfl
   rw[eab]at h1 hparts
   have la:a.length<=10000:=Nat.le_trans (hparts a (by simp)) hx
   have lb:b.length<=10000:=Nat.le_trans (hparts b (by simp)) hx
   refine⟨_,rfl,l,_,_,_,rfl,rfl,.of h1,rfl,a,rfl,la,λt et H2 s2=>?_,λe H2 s2=>⟨C,rfl,kE (by rw[eR,e]) H2 (s1.trans s2)⟩⟩
   refine⟨_,rfl,l,_,_,_,rfl,rfl,.of (s2 _ _ h1),rfl,b,rfl,lb,λu eu H3 s3=>?_,λe H3 s3=>⟨C,rfl,kE (by rw[eR,et,e]) H3 ((s1.trans s2).trans s3)⟩⟩
   refine⟨by show 2<=sizeLine;decide,λq hq=>?_⟩
   rw[et,eu]at eR
   have eR:rdR x=(if decide (u=1)=false/\xx t u=true then some (t,u)else none):=eR
   have s4:zo H (upd H3 q (.tup [.int t,.int u])):=((s1.trans s2).trans s3).trans (zo.upd hq)
   have h4:upd H3 q (.tup [.int t,.int u]) q=some (.tup [.int t,.int u]):=zi
   dsimp only[zL]
   generalize upd H3 q (.tup [.int t,.int u])=G at s4 h4
   refine⟨_,rfl,q,_,_,_,rfl,rfl,.of h4,rfl,rfl,_,rfl,?_⟩
   rw[xi]
   by_cases c3:u=1
   ·rw[decide_eq_true c3]
    refine zY (zY ⟨by show 1<=sizeLine;decide,kE ?_ G s4⟩)
    rw[eR,if_neg];rw[decide_eq_true c3];simp
   ·rw[decide_eq_false c3]
    refine zU ?_
    refine⟨_,rfl,_,(t,u),rfl,⟨q,rfl,h4⟩,_,rfl,?_⟩
    by_cases c4:xx t u=true
    ·rw[show xx (t,u).1 (t,u).2=true from c4]
     refine zU ?_
     refine zD ?_
     exact⟨_,rfl,k (t,u) (by rw[eR,if_pos ⟨decide_eq_false c3,c4⟩]) _ G s4 ⟨q,rfl,h4⟩⟩
    ·have c4':xx t u=false:=by cases h:xx t u;rfl;exact absurd h c4
     rw[show xx (t,u).1 (t,u).2=false from c4']
     refine zY ⟨by show 1<=sizeLine;decide,kE ?_ G s4⟩
     rw[eR,if_neg];rw[c4'];simp
def zbg (C:Addr):Sp:=λvs H Q E=>∃x,vs=[.str x]/\x.length<=10000/\(∀u,qL x=some u->∀v H',zo H H'->WI H' v u->Q v H')/\(qL x=none->∀H',zo H H'->E (.ref C) none H')
theorem Z5:zw ["text","place","speed"] ["text"] (zf xU):=⟨rfl,rfl,rfl,by decide +kernel,rfl,by decide +kernel,by decide +kernel⟩
theorem Vq {x y:Str}(h:okM (some 2) (Txt.split x y).length=true):∃a b,Txt.split x y=[a,b]:=by
 have:(Txt.split x y).length=2:=of_decide_eq_true h
 match Txt.split x y,this with
 | [a,b],_=>exact⟨a,b,rfl⟩
theorem zaq (D:Df K mg "wall_read" xU ["text"] []) (cPs:xj P w K mg base "parts_of" 1 ["thing","sign","many"] [] (X5 C)) (cRr:xj P w K mg base "read_ratio" 3 ["thing"] [] (X6 C)):xj P w K mg base "wall_read" 4 ["text"] [] (zbg C):=by
 refine D.cal1 (k:=3) Z5 (λvs H Q E h=>by obtain⟨_,rfl,_⟩:=h;rfl) (λf cdv A outer s H vs Q E hr3 h=>?_)
 obtain⟨x,rfl,hx,k,kE⟩:=h
 have hr1:xh 1 _:=hr3.mono (by decide)
 refine⟨_,(zg (zO (zp xO (pv 0) zj (zr _)) (zh (zu xq)) zy)
  (zg (qy (xg cPs hr1 zC (zc (pv 0) (zc zj (zc ze zd)))) (vZ rfl (zV (zJ (i:=1) Z5.nd rfl (Or.inl rfl)) (zV (zJ (i:=2) Z5.nd rfl (Or.inl rfl)) qp))))
  (zh (zu (qc (zc (xg cRr hr3 zC (zc (pv 1) zd)) (zc (xg cRr hr3 zC (zc (pv 2) zd)) zd))))))),?_⟩
 refine⟨_,rfl,rfl,_,rfl,?_⟩
 rw[qC,show Str.ofString "-" = TX [45] by decide +kernel]
 by_cases c:x=TX [45]
 ·rw[decide_eq_true c]
  exact zY (k none (by unfold qL;rw[if_pos c]) .non H (zo.refl _) rfl)
 ·rw[decide_eq_false c]
  refine zU ?_
  refine zD ?_
  have eW:qL x=match Txt.split x (TX [32])with | [a,b]=>(match rdR a,rdR b with | some p,some q=>some (some (p,q)) | _,_=>none) | _=>none:=by unfold qL;rw[if_neg c] <;> rfl
  have e32:Str.ofString " " = TX [32]:=by decide +kernel
  refine⟨_,rfl,x,_,some 2,rfl,by decide +kernel,hx,λh2 l H1 hl s1 h1=>?_,λh2 H1 s1=>⟨C,rfl,kE ?_ H1 s1⟩⟩
  ·rw[e32]at h1 h2
   obtain⟨a,b,eab⟩:=Vq h2
   have la:a.length<=10000:=Nat.le_trans (xm (y:=TX [32]) (by rw[eab];simp)) hx
   have lb:b.length<=10000:=Nat.le_trans (xm (y:=TX [32]) (by rw[eab];simp)) hx
   rw[eab]at h1 eW
   refine⟨l,_,rfl,.of h1,rfl,_,_,rfl,_,_,rfl,rfl,?_⟩
   dsimp only
   refine⟨_,rfl,a,rfl,la,λp ep v1 H2 s2 r1=>?_,λe H2 s2=>⟨C,rfl,kE (by rw[eW];show (match rdR a,rdR b with | some p,some q=>some (some (p,q)) | _,_=>none)=none;rw[e]) H2 (s1.trans s2)⟩⟩
   refine⟨_,rfl,b,rfl,lb,λq eq v2 H3 s3 r2=>?_,λe H3 s3=>⟨C,rfl,kE (by rw[eW];show (match rdR a,rdR b with | some p,some q=>some (some (p,q)) | _,_=>none)=none;rw[ep,e]) H3 ((s1.trans s2).trans s3)⟩⟩
   refine⟨by show 2<=sizeLine;decide,λt ht=>k (some (p,q)) (by rw[eW];show (match rdR a,rdR b with | some p,some q=>some (some (p,q)) | _,_=>none)=_;rw[ep,eq]) _ _ (((s1.trans s2).trans s3).trans (zo.upd ht)) ⟨t,v1,v2,rfl,zi,r1.tups ((qE.of s3).trans (.of (zo.upd ht))),r2.tups (.of (zo.upd ht))⟩⟩
  ·rw[e32]at h2
   rw[eW]
   have:(Txt.split x (TX [32])).length≠2:=of_decide_eq_false h2
   split
   ·rename_i e;rw[e]at this;exact absurd rfl this
   ·rfl
end
end KK
end
section
set_option maxHeartbeats 4000000
set_option Elab.async false
set_option linter.all false
set_option maxRecDepth 100000
namespace KK
open PySem L2 KM PySem.NumText
theorem Vs:∀l:List Nat,(∀c∈l,48<=c/\c<=57)->digitsVal l<10^l.length:=by
 intro l
 generalize hn:l.length=n
 induction n generalizing l with
 | zero=>intro _;rw[List.length_eq_zero_iff.mp hn];decide
 | succ n ih =>
  intro h
  obtain⟨r,c,rfl⟩:∃r c,l=r++[c]:=by
   rcases List.eq_nil_or_concat l with e | ⟨r,c,e⟩
   ·rw[e]at hn;cases hn
   ·exact⟨r,c,by simpa using e⟩
  have hr:r.length=n:=by simpa using hn
  have:=ih r hr λd m=>h d (List.mem_append_left _ m)
  have hc:=h c (by simp)
  rw[digitsVal_snoc,Nat.pow_succ]
  omega
theorem ZF (x y:Str):(Txt.split x y).length<=x.length+2:=by
 unfold Txt.split
 split
 ·simp
 ·split
  ·simp
  ·have:=StrLaws.occ_length_le x y 0 x.length (x.length+1)
   unfold Builtin.Str.partsBetween
   simp only[List.length_map,List.length_zip,List.length_cons,List.length_append,List.length_nil]
   omega
theorem XV {l:List Nat}(h:xF l=true):1<=l.length/\l.length<=300/\∀c∈l,48<=c/\c<=57:=by
 unfold xF at h
 simp only[Bool.and_eq_true,decide_eq_true_eq]at h
 refine⟨h.1.1.1,h.1.1.2,λc m=>?_⟩
 have:=List.all_eq_true.mp h.1.2 c m
 unfold qw at this
 simp only[Bool.and_eq_true,decide_eq_true_eq]at this
 exact this
theorem jp {x:Str}{n:Int}(h:rdN x=some n):0<=n/\Bd 1000 n:=by
 unfold rdN at h
 split at h
 ·rename_i c
  obtain⟨_,l3,dg⟩:=XV c
  injection h with h
  subst h
  have h1:=Vs _ dg
  have h2:(10:Nat)^x.cps.toList.length<=10^300:=Nat.pow_le_pow_right (by decide) l3
  refine⟨by omega,?_⟩
  show ((digitsVal x.cps.toList:Nat):Int).natAbs<2^1000
  have h3:(10:Nat)^300<2^1000:=by decide
  omega
 ·cases h
theorem Q5 {x:Str}{n:Int}(h:rdW x=some n):Bd 1000 n:=by
 unfold rdW at h
 split at h
 ·split at h
  ·rename_i m e
   split at h
   ·cases h
   ·injection h with h;subst h;exact(jp e).2.neg
  ·cases h
 ·exact(jp h).2
theorem Q0 {x:Str}{r:Int×Int}(h:rdR x=some r):xx r.1 r.2=true/\Bd 1000 r.1/\Bd 1000 r.2:=by
 unfold rdR at h
 split at h
 ·obtain⟨t,et,rfl⟩:=Option.map_eq_some_iff.mp h
  refine⟨?_,Q5 et,Bd.mono (m:=1) (show (1:Int).natAbs<2^1 by decide) (by decide)⟩
  unfold xx
  rw[decide_eq_true (show (1:Int)<=1 by decide),decide_eq_true (show Int.gcd (t.natAbs:Int) 1=1 from Int.gcd_one_right ..)];rfl
 ·rename_i a b e
  split at h
  ·rename_i t u et eu
   split at h
   ·rename_i c
    injection h with h;subst h
    exact⟨c.2,Q5 et,(jp eu).2⟩
   ·cases h
  ·cases h
 ·cases h
theorem Xz {x:Str}{u:Wx}(h:qL x=some u):jB u=true/\Wm u:=by
 unfold qL at h
 split at h
 ·injection h with h;subst h;exact⟨rfl,trivial⟩
 ·split at h
  ·split at h
   ·rename_i p q ep eq
    injection h with h;subst h
    have h1:=Q0 ep
    have h2:=Q0 eq
    exact⟨by show (xx p.1 p.2&&xx q.1 q.2)=true;rw[h1.1,h2.1];rfl,⟨h1.2.1.mono (by decide),h1.2.2.mono (by decide)⟩⟩
   ·cases h
  ·cases h
section
variable {P:Program}{w:World}{K:PySem.W.Frag}{mg:Str->Option Value}{base:Heap}{C:Addr}{tF tM:Tok}
def JF (C:Addr):Sp:=λvs H Q E=>∃x,vs=[.str x]/\x.length<=10000/\(∀u v,jq x=some (u,v)->∀a H',zo H H'->WsI H' a u v->Q (.ref a) H')/\(jq x=none->∀H',zo H H'->E (.ref C) none H')
theorem qN:zw ["thing","low","high","walls"] ["thing"] (zf xt):=⟨rfl,rfl,rfl,by decide +kernel,rfl,by decide +kernel,by decide +kernel⟩
theorem V3 (D:Df K mg "walls_read" xt ["thing"] []) (O:jW "NoText" C mg base) (cPs:xj P w K mg base "parts_of" 1 ["thing","sign","many"] [] (X5 C)) (cWr:xj P w K mg base "wall_read" 4 ["text"] [] (zbg C)) (cWg:Cal P w K mg base "walls_good" 5 ["thing"] [] zbf):xj P w K mg base "walls_read" 6 ["thing"] [] (JF C):=by
 refine D.cal1 (k:=5) qN (λvs H Q E h=>by obtain⟨_,rfl,_⟩:=h;rfl) (λf cdv A outer s H vs Q E hr h=>?_)
 obtain⟨x,rfl,hx,k,kE⟩:=h
 have hr1:xh 1 _:=hr.mono (by decide)
 have hr4:xh 4 _:=hr.mono (by decide)
 refine⟨_,(zg (qy (xg cPs hr1 zC (zc (pv 0) (zc zj (zc ze zd)))) (vZ rfl (zV (zJ (i:=1) qN.nd rfl (Or.inl rfl)) (zV (zJ (i:=2) qN.nd rfl (Or.inl rfl)) qp))))
  (zg (zx (i:=3) qN.nd rfl (Or.inl rfl) (qc (zc (xg cWr hr4 zC (zc (pv 1) zd)) (zc (xg cWr hr4 zC (zc (pv 2) zd)) zd))))
  (zg (zO (xJ (xa (zK cWg hr (zc (pv 3) zd)) λ_=>rfl)) (zh (xG O PySem.F.excBase_ValueError (by decide +kernel) PySem.F.excBase_ValueError hr.hd zQ (zc zj zd))) zy)
  (zh (zu (pv 3)))))),?_⟩
 have eB:Str.ofString " | " = TX [32,124,32]:=by decide +kernel
 refine⟨_,rfl,x,_,some 2,rfl,by decide +kernel,hx,λh2 l H1 hl s1 h1=>?_,λh2 H1 s1=>⟨C,rfl,kE ?_ H1 s1⟩⟩
 ·rw[eB]at h1 h2
  obtain⟨a,b,eab⟩:=Vq h2
  have la:a.length<=10000:=Nat.le_trans (xm (y:=TX [32,124,32]) (by rw[eab];simp)) hx
  have lb:b.length<=10000:=Nat.le_trans (xm (y:=TX [32,124,32]) (by rw[eab];simp)) hx
  have eW:jq x=match qL a,qL b with | some u,some v=>(if okW u v=true then some (u,v)else none) | _,_=>none:=by unfold jq;rw[eab] <;> rfl
  rw[eab]at h1
  refine⟨l,_,rfl,.of h1,rfl,_,_,rfl,_,_,rfl,rfl,?_⟩
  dsimp only
  refine⟨_,rfl,a,rfl,la,λu eu v1 H2 s2 r1=>?_,λe H2 s2=>⟨C,rfl,kE (by rw[eW,e]) H2 (s1.trans s2)⟩⟩
  refine⟨_,rfl,b,rfl,lb,λv ev v2 H3 s3 r2=>?_,λe H3 s3=>⟨C,rfl,kE (by rw[eW,eu,e]) H3 ((s1.trans s2).trans s3)⟩⟩
  refine⟨by show 2<=sizeLine;decide,λt ht=>?_⟩
  have s4:=((s1.trans s2).trans s3).trans (zo.upd (o:=.tup [v1,v2]) ht)
  have hW:WsI (upd H3 t (.tup [v1,v2])) t u v:=⟨v1,v2,zi,r1.tups ((qE.of s3).trans (.of (zo.upd ht))),r2.tups (.of (zo.upd ht))⟩
  dsimp only[zL]
  generalize upd H3 t (.tup [v1,v2])=G at s4 hW
  have o1:=Xz eu
  have o2:=Xz ev
  rw[eu,ev]at eW
  have eW:jq x=if okW u v=true then some (u,v)else none:=eW
  refine⟨_,rfl,t,u,v,rfl,hW,o1.1,o2.1,o1.2,o2.2,_,rfl,?_⟩
  cases hk:okW u v
  ·exact zY ⟨by show 1<=sizeLine;decide,kE (by rw[eW,hk];rfl) G s4⟩
  ·refine zU ?_
   refine zD ?_
   exact⟨_,rfl,k u v (by rw[eW,hk];rfl) t G s4 hW⟩
 ·rw[eB]at h2
  exact Q6 (of_decide_eq_false h2)
end
end KK
end
section
set_option maxHeartbeats 4000000
set_option Elab.async false
set_option linter.all false
set_option maxRecDepth 100000
namespace KK
open PySem L2 KM
theorem zab {d:Int}(h0:0<=d) (h1:d<8):∃v:Int,atI [V.int 1,.int 1,.int 1,.int 2,.int 3,.int 4,.int 6,.int 12] d=some (.int v)/\1<=v/\v<=12:=by
 have:d=0\/d=1\/d=2\/d=3\/d=4\/d=5\/d=6\/d=7:=by omega
 rcases this with rfl | rfl | rfl | rfl | rfl | rfl | rfl | rfl
 all_goals exact⟨_,rfl,by decide,by decide⟩
section
variable {P:Program}{w:World}{K:PySem.W.Frag}{mg:Str->Option Value}{base:Heap}
theorem XA:zw ["one","other"] ["one","other"] (zf xA):=⟨rfl,rfl,rfl,by decide +kernel,rfl,by decide +kernel,by decide +kernel⟩
theorem VQ (D:Df K mg "_law_common" xA ["one","other"] []):Cal P w K mg base "_law_common" 1 ["one","other"] [] ZE:=by
 refine D.cal (k:=0) XA (λvs H Q E h=>by obtain⟨a,b,rfl,_⟩:=h;rfl) (λf cdv A outer s H vs Q E hr h=>?_)
 obtain⟨a,b,rfl,ha,hb,k⟩:=h
 refine⟨_,(zg (vF PassesOwn.never (zp vA (pv 1) ze (zr _)) (zh (QV (i:=0) (j:=1) rfl XA.nd rfl rfl (by decide) rfl rfl (zc (pv 1) (zc (zm qH (pv 0) (pv 1)) zd)) (by rfl))))
  (zh (zu (pv 0)))),?_⟩
 refine vN (λσ H1=>H1=H/\∃x y:Int,σ=[some (.int x),some (.int y)]/\0<=x/\0<=y/\Int.gcd x y=Int.gcd a b)
  (λσ _=>match σ with | [_,some (.int y)]=>y.toNat | _=>0) ⟨rfl,a,b,rfl,ha,hb,rfl⟩ ?_ ?_
 ·rintro σ H1 ⟨rfl,x,y,rfl,hx,hy,e⟩
  refine⟨_,rfl,rfl,_,rfl,vd (λh=>?_) (λh=>?_)⟩
  ·have hne:y≠0:=λz=>by subst z;exact absurd h (by decide)
   have h':0<y:=by omega
   refine⟨_,rfl,_,rfl,_,rfl,_,_,rfl,rfl,h',_,_,rfl,⟨rfl,_,_,rfl,hy,Int.emod_nonneg _ (by omega),?_⟩,?_⟩
   ·rw[KM.Zp hx h'];exact e
   ·show (x % y).toNat<y.toNat
    have:=Int.emod_lt_of_pos x h'
    omega
  ·have:y=0:=by
    by_cases z:y=0
    ·exact z
    ·exfalso;apply h;show (!decide (V.int y=V.int 0))=true
     rw[decide_eq_false (λq=>z (by injection q))];rfl
   subst this
   refine⟨_,rfl,?_⟩
   have e2:x=(Int.gcd a b:Nat):=by rw[<-e,Int.gcd_zero_right];omega
   rw[e2];exact k
 ·rintro σ H1 Q1 Q2 hq ⟨v,e,e1,k1,e3,q⟩
  exact⟨v,e,e1,k1,e3,hq _ _ q⟩
def Vf:Sp:=λvs H Q _=>∃t b,vs=[.int t,.int b]/\0<b/\Bd 8900 b/\∀p H',zo H H'->Jn H' p (Rat.divInt t b)->Q (.ref p) H'
theorem v7:zw ["top","bottom","shared"] ["top","bottom"] (zf ql):=⟨rfl,rfl,rfl,by decide +kernel,rfl,by decide +kernel,by decide +kernel⟩
theorem VS (D:Df K mg "_law_low" ql ["top","bottom"] []) (T:TxB K mg) (cG:Cal P w K mg base "_law_common" 1 ["one","other"] [] ZE):Cal P w K mg base "_law_low" 2 ["top","bottom"] [] Vf:=by
 refine D.cal (k:=1) v7 (λvs H Q E h=>by obtain⟨a,b,rfl,_⟩:=h;rfl) (λf cdv A outer s H vs Q E hr h=>?_)
 obtain⟨t,b,rfl,hb,hz,k⟩:=h
 have hb0:b≠0:=by omega
 refine⟨_,(zg (zO (zp jl (pv 1) ze (zr _)) (zg (zx (i:=0) v7.nd rfl (Or.inl rfl) (zm vm ze (pv 0)))
  (zh (zx (i:=1) v7.nd rfl (Or.inl rfl) (zm vm ze (pv 1))))) zy)
  (zg (zx (i:=2) v7.nd rfl (Or.inl rfl) (zK cG hr (zc (zB vt (by rfl) T.nAbs PyProof.Rows.boot_abs (zc (pv 0) zd)) (zc (pv 1) zd))))
  (zh (zu (qc (zc (zm vz (pv 0) (pv 2)) (zc (zm vz (pv 1) (pv 2)) zd))))))),?_⟩
 refine⟨_,rfl,_,_,rfl,rfl,_,rfl,vd (λh=>absurd (of_decide_eq_true h) (by omega)) (λ_=>?_)⟩
 refine⟨_,rfl,t,rfl,_,rfl,_,_,rfl,(by rw[vQ];omega),(by omega),?_⟩
 have hd:=KM.zaQ (t:=t) hb0
 have hdz:Bd 8900 (KM.dv t b):=hz.of_le (KM.zaP hb0)
 have ge:((Int.gcd (if t<0 then -t else t) b:Nat):Int)=KM.dv t b:=by
  rw[vQ];unfold KM.dv;rw[if_neg (show ¬b<0 by omega)];simp[Int.gcd]
 rw[ge]
 refine⟨_,rfl,_,rfl,_,_,rfl,rfl,⟨hd,hdz⟩,_,rfl,_,rfl,_,_,rfl,rfl,⟨hd,hdz⟩,?_⟩
 refine⟨by show 2<=sizeLine;decide,λp hp=>k p _ (zo.upd hp) ?_⟩
 show upd H p _ p=_
 rw[zi]
 dsimp only
 rw[KM.Ql hb0,KM.JW hb0];rfl
end
end KK
end
section
set_option maxHeartbeats 8000000
set_option Elab.async false
set_option linter.all false
set_option maxRecDepth 100000
namespace KK
open PySem L2 KM PySem.NumText
theorem JR (m:Nat):atI (Str.ofString "0123456789").cps.toList (((m:Int)) % 10)=some (48+m % 10):=by
 have e:(Str.ofString "0123456789").cps.toList=[48,49,50,51,52,53,54,55,56,57]:=by decide +kernel
 rw[e,show ((m:Int)) % 10=((m % 10:Nat):Int) by omega]
 have h:m % 10<10:=Nat.mod_lt _ (by decide)
 generalize m % 10=r at h
 have:r=0\/r=1\/r=2\/r=3\/r=4\/r=5\/r=6\/r=7\/r=8\/r=9:=by omega
 rcases this with rfl | rfl | rfl | rfl | rfl | rfl | rfl | rfl | rfl | rfl <;> rfl
theorem JX (m:Nat):((m:Int)).fdiv 10=((m/10:Nat):Int):=by
 rw[Int.fdiv_eq_ediv_of_nonneg _ (by decide)];omega
section
variable {P:Program}{w:World}{K:PySem.W.Frag}{mg:Str->Option Value}{base:Heap}
def zaA:Sp:=λvs H Q _=>∃n:Int,vs=[.int n]/\n.natAbs<10^300/\∀H',zo H H'->Q (.str (TX (ntL n))) H'
theorem vI:zw ["number","text","rest"] ["number"] (zf xu):=⟨rfl,rfl,rfl,by decide +kernel,rfl,by decide +kernel,by decide +kernel⟩
theorem VR (D:Df K mg "_law_figures" xu ["number"] []) (T:TxB K mg):Cal P w K mg base "_law_figures" 1 ["number"] [] zaA:=by
 refine D.cal (k:=0) vI (λvs H Q E h=>by obtain⟨_,rfl,_⟩:=h;rfl) (λf cdv A outer s H vs Q E hr h=>?_)
 obtain⟨n,rfl,hn,k⟩:=h
 refine⟨_,(zg (zx (i:=1) vI.nd rfl (Or.inl rfl) zj)
  (zg (zx (i:=2) vI.nd rfl (Or.inl rfl) (zB vt (by rfl) T.nAbs PyProof.Rows.boot_abs (zc (pv 0) zd)))
  (zg (vF PassesOwn.never (zp jQ (pv 2) ze (zr _)) (zg (zx (i:=1) vI.nd rfl (Or.inl rfl) (zm zk (zH ZP zj (zm qH (pv 2) ze) (λ_ _=>rfl)) (pv 1)))
  (zh (zx (i:=2) vI.nd rfl (Or.inl rfl) (zm vz (pv 2) ze)))))
  (zh (zu (zm zk (zH xb (xE (zc zj (zc zj zd))) (xP vR (by rfl) T.nInt PyProof.Rows.boot_int (zc (xV jl (pv 0) ze (zr _)) zd)) (λ_ _=>rfl)) (zH xb (xE (zc zj (zc (pv 1) zd))) (xP vR (by rfl) T.nInt PyProof.Rows.boot_int (zc (xV vA (pv 0) ze (zr _)) zd)) (λ_ _=>rfl)))))))),?_⟩
 refine vp ?_
 refine⟨_,rfl,n,rfl,?_⟩
 dsimp only[zL]
 refine ZG ?_
 obtain⟨N,hN⟩:∃N,N=n.natAbs:=⟨_,rfl⟩
 have lN:=qG (k:=300) (by decide) (hN ▸ hn)
 refine vN (λσ H1=>H1=H/\∃(m:Nat) (t:List Nat),σ=[some (.int n),some (.str (TX t)),some (.int (m:Int))]/\(m=0->t=if N=0 then []else fig N)/\(0<m->0<N/\fig N=fig m++t))
  (λσ _=>match σ with | [_,_,some (.int y)]=>y.toNat | _=>0) ⟨rfl,N,[],?_,λe=>by rw[if_pos e],λh=>⟨h,by rw[List.append_nil]⟩⟩ ?_ ?_
 ·rw[vQ,<-hN];rfl
 ·rintro σ H1 ⟨rfl,m,t,rfl,h0,h1⟩
  refine⟨_,rfl,_,_,rfl,rfl,_,rfl,vd (λh=>?_) (λh=>?_)⟩
  ·have m0:0<m:=by have z:(0:Int)<(m:Int):=of_decide_eq_true h
                   omega
   obtain⟨N0,eN⟩:=h1 m0
   have lt:t.length+1<=300:=by
    have e2:=congrArg List.length eN
    rw[List.length_append]at e2
    have:1<=(fig m).length:=by
     cases hf:fig m with
     | nil=>exact absurd hf (qa m).2.1
     | cons c r=>simp
    omega
   refine⟨_,rfl,_,_,rfl,rfl,(by show (0:Int)<10;decide),_,_,_,rfl,rfl,szl (by decide),JR m,_,rfl,_,_,rfl,rfl,?_,?_⟩
   ·rw[zv];exact szl (by show 1+_<=1000;omega)
   dsimp only[zL]
   refine⟨_,rfl,_,_,rfl,rfl,⟨by decide,Bd.mono (m:=5) (show (10:Int).natAbs<2^5 by decide) (by decide)⟩,?_⟩
   have e3:(⟨#[48+m % 10]⟩:Str)++TX t=TX ((48+m % 10)::t):=by
    show TX [48+m % 10]++TX t=_
    rw[zE];rfl
   dsimp only[zL]
   rw[e3,JX]
   refine⟨⟨rfl,m/10,(48+m % 10)::t,rfl,λe=>?_,λh=>⟨N0,?_⟩⟩,?_⟩
   ·rw[if_neg (by omega),eN,qQ (by omega)]
    show (48+m % 10)::t=(48+m)::t
    rw[Nat.mod_eq_of_lt (by omega)]
   ·rw[eN,jg (by omega),List.append_assoc];rfl
   ·show ((m/10:Nat):Int).toNat<((m:Nat):Int).toNat
    omega
  ·have m0:m=0:=by
    rcases Nat.eq_zero_or_pos m with z | z
    ·exact z
    ·exact absurd (decide_eq_true (show (0:Int)<(m:Int) by omega)) h
   have et:=h0 m0
   refine⟨by show 2<=sizeLine;decide,λl1 hl1=>?_⟩
   refine⟨_,rfl,_,_,rfl,rfl,.inr ⟨_,rfl,?_⟩⟩
   have s1:=zo.upd (o:=.lst [.str (Str.ofString ""),.str (Str.ofString "-")]) hl1
   obtain⟨g,eg,hg⟩:∃g:List Nat,atI [V.str (Str.ofString ""),.str (Str.ofString "-")] (if decide (n<0)=true then 1 else 0)=some (.str (TX g))/\g=if n<0 then [45]else []:=by
    by_cases c:n<0
    ·rw[decide_eq_true c,if_pos rfl,if_pos c];exact⟨[45],by show some (V.str (Str.ofString "-"))=_;rw[show Str.ofString "-" = TX [45] by decide +kernel],rfl⟩
    ·rw[decide_eq_false c,if_neg (by decide),if_neg c];exact⟨[],by show some (V.str (Str.ofString ""))=_;rw[show Str.ofString "" = TX [] by decide +kernel],rfl⟩
   refine⟨l1,_,_,_,rfl,rfl,.of zi,eg,?_⟩
   refine⟨_,rfl,by show 2<=sizeLine;decide,λl2 hl2=>?_⟩
   refine⟨_,rfl,rfl,.inr ⟨_,rfl,?_⟩⟩
   have s2:=zo.upd (o:=.lst [.str (Str.ofString "0"),.str (TX t)]) hl2
   obtain⟨g2,eg2,hg2⟩:∃g2:List Nat,atI [V.str (Str.ofString "0"),.str (TX t)] (if(!decide (V.int n=V.int 0))=true then 1 else 0)=some (.str (TX g2))/\g2=fig N:=by
    by_cases c:n=0
    ·rw[decide_eq_true (congrArg V.int c)]
     refine⟨[48],by show some (V.str (Str.ofString "0"))=_;rw[show Str.ofString "0" = TX [48] by decide +kernel],?_⟩
     rw[show N=0 by omega,qQ (by decide)]
    ·rw[decide_eq_false (λz=>c (by injection z))]
     exact⟨t,rfl,by rw[et,if_neg (by omega)]⟩
   refine⟨l2,_,_,_,rfl,rfl,.of zi,eg2,_,_,rfl,rfl,?_,?_⟩
   ·rw[zv,zv,hg2]
    have:g.length<=1:=by rw[hg];split <;> decide
    exact szl (by omega)
   ·have:=k _ (s1.trans s2)
    have e4:TX g++TX g2=TX (ntL n):=by
     rw[zE,hg2,hg,hN]
     unfold ntL
     by_cases c:n<0
     ·rw[if_pos c,if_pos c];rfl
     ·rw[if_neg c,if_neg c];rfl
    rw[e4];exact this
 ·rintro σ H1 Q1 Q2 hq ⟨v,e,i,j,e1,e2,b,e3,q⟩
  exact⟨v,e,i,j,e1,e2,b,e3,hq _ _ q⟩
def R3 (r:Int×Int):Prop:=r.1.natAbs<10^300/\r.2.natAbs<10^300
theorem qV {n:Int}(h:n.natAbs<10^300):(ntL n).length<=301:=by
 have:=qG (k:=300) (by decide) h
 unfold ntL;split
 ·simp;omega
 ·omega
def Jg:Sp:=λvs H Q _=>∃v r,vs=[v]/\RI H v r/\R3 r/\∀H',zo H H'->Q (.str (TX (rtL r))) H'
theorem zaz:zw ["one"] ["one"] (zf zZ):=⟨rfl,rfl,rfl,by decide +kernel,rfl,by decide +kernel,by decide +kernel⟩
theorem zaj (D:Df K mg "_law_ratio_text" zZ ["one"] []) (cFi:Cal P w K mg base "_law_figures" 1 ["number"] [] zaA):Cal P w K mg base "_law_ratio_text" 2 ["one"] [] Jg:=by
 refine D.cal (k:=1) zaz (λvs H Q E h=>by obtain⟨_,_,rfl,_⟩:=h;rfl) (λf cdv A outer s H vs Q E hr h=>?_)
 obtain⟨v,r,rfl,⟨p,rfl,hp⟩,hz,k⟩:=h
 refine⟨_,(zg (zO (zp xO (zH xk (pv 0) ze (λ_ _=>rfl)) ze (zr _)) (zh (zu (zK cFi hr (zc (zH xk (pv 0) ze (λ_ _=>rfl)) zd)))) zy)
  (zh (zu (zm zk (zm zk (zK cFi hr (zc (zH xk (pv 0) ze (λ_ _=>rfl)) zd)) zj) (zK cFi hr (zc (zH xk (pv 0) ze (λ_ _=>rfl)) zd)))))),?_⟩
 refine⟨_,rfl,p,_,_,_,rfl,rfl,.of hp,at1 ..,rfl,_,rfl,vd (λh=>?_) (λh=>?_)⟩
 ·have e:r.2=1:=by have:=of_decide_eq_true h;injection this
  refine⟨_,rfl,p,_,_,_,rfl,rfl,.of hp,at0 ..,_,rfl,hz.1,λH1 s1=>?_⟩
  have e2:rtL r=ntL r.1:=by unfold rtL;rw[if_pos e]
  have:=k H1 s1
  rw[e2]at this;exact this
 ·have e:r.2≠1:=λz=>h (decide_eq_true (congrArg V.int z))
  refine zD ?_
  refine⟨_,rfl,p,_,_,_,rfl,rfl,.of hp,at0 ..,_,rfl,hz.1,λH1 s1=>?_⟩
  have l1:=qV hz.1
  have l2:=qV hz.2
  have hp1:=s1 _ _ hp
  refine⟨_,_,rfl,rfl,?_,?_⟩
  ·rw[zv];exact szl (by show _+1<=1000;omega)
  refine⟨_,rfl,p,_,_,_,rfl,rfl,.of hp1,at1 ..,_,rfl,hz.2,λH2 s2=>?_⟩
  have e0:TX (ntL r.1)++Str.ofString "/" = TX (ntL r.1++[47]):=by rw[show Str.ofString "/" = TX [47] by decide +kernel,zE]
  refine⟨_,_,rfl,rfl,?_,?_⟩
  ·rw[e0,zv,zv];exact szl (by simp;omega)
  have e2:rtL r=ntL r.1++[47]++ntL r.2:=by unfold rtL;rw[if_neg e]
  have:=k H2 (s1.trans s2)
  rw[e2,<-zE,<-e0]at this;exact this
end
end KK
end
section
set_option maxHeartbeats 8000000
set_option Elab.async false
set_option linter.all false
set_option maxRecDepth 100000
namespace L2
open PySem PySem.Spec PyProof.Rows
theorem VB {a:Str}{g:TG}{tb:TS}{D:vg}{σ:St}{H:Hp}(Pv:Nat->St->Hp->Prop) (h0:Pv 0 σ H)
  (hs:∀i c σ H,a.cps.toList[i]? = some c->Pv i σ H->g (.str ⟨#[c]⟩) σ H λσ2 H2=>tb { D with nx:=Pv (i+1),ct:=Pv (i+1),bk:=D.nx } σ2 H2) (hd:∀σ H,Pv a.cps.toList.length σ H->D.nx σ H) :
  ∃W:Nat->Nat->St->Hp->Prop,(∃m,W 0 m σ H)/\∀i m σ H,W i m σ H →
   ((Its a).stop i H/\D.nx σ H)\/((Its a).go i H/\∃N:St->Hp->Prop,(∀σ' H',N σ' H'->∃m',m'<m/\W (i+1) m' σ' H')/\∀x H',(Its a).yld i H x H'->g x σ H' λσ2 H2=>tb { D with nx:=N,ct:=N,bk:=D.nx } σ2 H2):=by
 refine⟨λi m σ H=>m=a.cps.toList.length - i/\i<=a.cps.toList.length/\Pv i σ H,⟨_,rfl,Nat.zero_le _,h0⟩,?_⟩
 rintro i m σ H ⟨rfl,hi,p⟩
 by_cases hlt:i<a.cps.toList.length
 ·refine .inr ⟨show i<a.cps.size by simpa using hlt,Pv (i+1),λσ' H' p'=>⟨_,by omega,rfl,hlt,p'⟩,λx H' y=>?_⟩
  obtain⟨e,c,ec,ex⟩:=y
  subst e ex
  exact hs i c σ _ (by simpa using ec) p
 ·have e:i=a.cps.toList.length:=by omega
  subst e
  exact .inl ⟨show a.cps.size<=_ by simp,hd σ H p⟩
end L2
namespace KK
open PySem L2 KM PySem.NumText
def oV:Option Int->V
 | none=>.non
 | some n=>.int n
theorem sidx {c:Nat}(h:qw c=true):∃rest,Builtin.Str.occurrences (Str.ofString "0123456789") ⟨#[c]⟩ 0 (Str.ofString "0123456789").length 1=(c - 48)::rest:=by
 unfold qw at h
 simp only[Bool.and_eq_true,decide_eq_true_eq]at h
 have:c=48\/c=49\/c=50\/c=51\/c=52\/c=53\/c=54\/c=55\/c=56\/c=57:=by omega
 rcases this with rfl | rfl | rfl | rfl | rfl | rfl | rfl | rfl | rfl | rfl
 all_goals exact⟨[],by decide +kernel⟩
theorem zaC {x:Str}:decide (V.str x=V.str (Str.ofString ""))=decide (x.cps.toList=[]):=by
 rw[qC,show Str.ofString "" = TX [] by decide +kernel]
 by_cases h:x.cps.toList=[]
 ·rw[decide_eq_true h,decide_eq_true (by rw[<-qu x,h])]
 ·rw[decide_eq_false h,decide_eq_false (λz=>h (by rw[z,zG]))]
theorem at_0 {l:List Nat}{c:Nat}{r:List Nat}(h:l=c::r):atI l 0=some c:=by subst h;exact vY (j:=0) rfl
theorem Vo {l:List Nat}{i c:Nat}(e:l[i]? = some c):digitsVal (l.take (i+1))=digitsVal (l.take i)*10+(c - 48):=by
 rw[List.take_add_one,e]
 exact digitsVal_snoc _ _
section
variable {P:Program}{w:World}{K:PySem.W.Frag}{mg:Str->Option Value}{base:Heap}
def zbe:Sp:=λvs H Q _=>∃x,vs=[.str x]/\x.length<=10000/\Q (oV (rdN x)) H
theorem v9:zw ["text","found","sign"] ["text"] (zf xS):=⟨rfl,rfl,rfl,by decide +kernel,rfl,by decide +kernel,by decide +kernel⟩
theorem VW (D:Df K mg "_law_value" xS ["text"] []) (T:TxB K mg):Cal P w K mg base "_law_value" 1 ["text"] [] zbe:=by
 refine D.cal (k:=0) v9 (λvs H Q E h=>by obtain⟨_,rfl,_⟩:=h;rfl) (λf cdv A outer s H vs Q E hr h=>?_)
 obtain⟨x,rfl,hx,k⟩:=h
 have hxl:x.cps.toList.length=x.length:=by simp[Str.length]
 have hz:x.length<=sizeLine:=by have:=qZ hx;omega
 have no:xF x.cps.toList=false->Q .non H:=λh=>by rw[jo h]at k;exact k
 refine⟨_,(zg (zO ((qq (zp xO (pv 0) zj (zr _)) (qq (zp jQ (zB qF (by rfl) T.nLen PySem.boot_len (zc (pv 0) zd)) ze (zr _)) (qK ((vT (zp xO (zH ZP (pv 0) ze (λ_ _=>rfl)) zj (zr _)) (qW (zp vA (pv 0) zj (zr _))))).pt)))).pt (zh (zu xq)) zy)
  (zg (zx (i:=1) v9.nd rfl (Or.inl rfl) ze)
  (zg (ZW PassesOwn.never rfl (QT (pv 0)) (zJ (i:=2) v9.nd rfl (Or.inl rfl)) (zg (zO (zp j8 (pv 2) zj rfl) (zh (zu xq)) zy)
  (zh (zx (i:=1) v9.nd rfl (Or.inl rfl) (zm qR (zm qI (pv 1) ze) (qS PySem.F.plainAttrs_str PySem.F.slot_str_index PySem.F.type_str_index XU zj (zc (pv 2) zd)))))))
  (zh (zu (pv 1)))))),?_⟩
 refine⟨_,rfl,rfl,_,rfl,?_⟩
 rw[zaC]
 by_cases c1:x.cps.toList=[]
 ·rw[decide_eq_true c1]
  refine zY (zY (no ?_))
  unfold xF;rw[c1];rfl
 rw[decide_eq_false c1]
 refine zU ?_
 refine⟨_,rfl,x,rfl,hz,_,_,rfl,rfl,_,rfl,?_⟩
 have h1:1<=x.length:=by
  rw[<-hxl]
  cases hl:x.cps.toList with
  | nil=>exact absurd hl c1
  | cons c r=>simp
 by_cases c2:x.length<=300
 case neg =>
  rw[decide_eq_true (show (300:Int)<(x.length:Int) by omega)]
  refine zY (zY (no ?_))
  unfold xF;rw[hxl,decide_eq_false c2];simp
 rw[decide_eq_false (show ¬(300:Int)<(x.length:Int) by omega)]
 refine zU ?_
 obtain⟨c0,r0,el⟩:∃c0 r0,x.cps.toList=c0::r0:=by
  cases hl:x.cps.toList with
  | nil=>exact absurd hl c1
  | cons c r=>exact⟨c,r,rfl⟩
 refine⟨_,rfl,x,0,c0,rfl,rfl,hz,at_0 el,rfl,_,rfl,?_⟩
 have ec:decide (V.str ⟨#[c0]⟩=V.str (Str.ofString "0"))=decide (c0=48):=by
  rw[qC,show Str.ofString "0" = ⟨#[48]⟩ by decide +kernel]
  by_cases z:c0=48
  ·rw[z,decide_eq_true rfl,decide_eq_true rfl]
  ·rw[decide_eq_false z,decide_eq_false (λq=>z (by injection q with q;simpa using q))]
 rw[ec]
 have hh:x.cps.toList.head? = some c0:=by rw[el];rfl
 have loop:∀D:vg,D.rt=Q->(decide (x.cps.toList=[48]) || !decide (x.cps.toList.head? = some 48))=true →
   jD (Qc (tC (.int 0)) (zL 1)) (jD (Jj (zaV (ve 0)) (zL 2) (jD (zbj (Vn (tOp (λx y H Q=>∃i j,x = .str i/\y = .str j/\Q (.bl (!(!(Builtin.Str.occurrences j i 0 j.length 1).isEmpty))) H) (ve 2) (tC (.str (Str.ofString "0123456789"))))) (Vm (tC .non)) Vl)
    (Qc (tOp (rI0 λi j=>.int (i+j)) (tOp (rI Qg λi j=>.int (i*j)) (ve 1) (tC (.int 10))) (tBM K "str" (λx vs H Q=>∃a b i rest,x = .str a/\vs=[.str b]/\Builtin.Str.occurrences a b 0 a.length 1=i::rest/\Q (.int (i:Nat)) H) (tC (.str (Str.ofString "0123456789"))) (qU (ve 2) Zg))) (zL 1)))) (Vm (ve 1))) D [some (.str x),none,none] H:=by
  intro D hD hlast
  refine vp ?_
  dsimp only[tC]
  refine Z9 ?_
  refine⟨_,rfl,x,rfl,?_⟩
  refine VB (a:=x) (λi σ G=>G=H/\∃z2,σ=[some (.str x),some (.int ((digitsVal (x.cps.toList.take i):Nat):Int)),z2]/\∀c∈x.cps.toList.take i,48<=c/\c<=57) ⟨rfl,none,rfl,λc m=>by simp at m⟩ ?_ ?_
  ·rintro i c σ G hc ⟨rfl,z2,rfl,hd⟩
   have hi:=(List.getElem?_eq_some_iff.mp hc).1
   dsimp only[zL]
   refine⟨_,rfl,_,_,rfl,rfl,_,rfl,?_⟩
   rw[Qm]
   cases hdc:qw c
   ·refine zY ?_
    show D.rt .non G
    rw[hD]
    refine no ?_
    unfold xF
    have:x.cps.toList.all qw=false:=by
     cases hA:x.cps.toList.all qw
     ·rfl
     ·rw[List.all_eq_true.mp hA c (List.mem_of_getElem? hc)]at hdc;cases hdc
    rw[this,Bool.and_false];rfl
   ·refine zU ?_
    refine zD ?_
    obtain⟨rest,eo⟩:=sidx hdc
    have hv:=Vs _ hd
    have hv2:digitsVal (x.cps.toList.take i)<10^300:=Nat.lt_of_lt_of_le hv (Nat.pow_le_pow_right (by decide) (by rw[List.length_take];omega))
    have bv:Bd 1000000 ((digitsVal (x.cps.toList.take i):Nat):Int):=by
     have h3:(10:Nat)^300<2^1000:=by decide
     exact Bd.mono (m:=1000) (show ((digitsVal (x.cps.toList.take i):Nat):Int).natAbs<2^1000 by omega) (by decide)
    refine⟨_,rfl,_,_,rfl,rfl,⟨bv,Bd.mono (m:=5) (show (10:Int).natAbs<2^5 by decide) (by decide)⟩,?_⟩
    refine⟨rfl,_,rfl,_,_,_,_,rfl,rfl,eo,_,_,rfl,rfl,?_⟩
    dsimp only[zL]
    refine⟨rfl,some (.str ⟨#[c]⟩),?_,λd m=>?_⟩
    ·rw[Vo hc]
     show [some (V.str x),some (V.int (((digitsVal (x.cps.toList.take i):Nat):Int)*10+((c - 48:Nat):Int))),_]=_
     rw[Int.natCast_add,Int.natCast_mul];rfl
    ·rw[List.take_add_one,hc]at m
     rcases List.mem_append.mp m with m | m
     ·exact hd d m
     ·cases List.mem_singleton.mp m
      unfold qw at hdc
      simp only[Bool.and_eq_true,decide_eq_true_eq]at hdc
      exact hdc
  ·rintro σ G ⟨rfl,z2,rfl,hd⟩
   rw[List.take_of_length_le (Nat.le_refl _)]at hd ⊢
   refine⟨_,rfl,?_⟩
   show D.rt _ G
   rw[hD]
   have e:rdN x=some ((digitsVal x.cps.toList:Nat):Int):=by
    unfold rdN xF
    rw[hxl,decide_eq_true h1,decide_eq_true c2,List.all_eq_true.mpr λc m=>by unfold qw;rw[decide_eq_true (hd c m).1,decide_eq_true (hd c m).2];rfl,hlast];rfl
   rw[e]at k;exact k
 by_cases c3:c0=48
 ·rw[decide_eq_true c3]
  refine zY ⟨_,rfl,rfl,_,rfl,?_⟩
  rw[qC]
  by_cases c4:x.cps.toList=[48]
  ·rw[decide_eq_true ((vb x).mpr c4)]
   refine zU ?_
   refine zD ?_
   exact loop _ rfl (by rw[decide_eq_true c4];rfl)
  ·rw[decide_eq_false (λz=>c4 ((vb x).mp z))]
   refine zY (no ?_)
   unfold xF;rw[decide_eq_false c4,hh,c3];simp
 ·rw[decide_eq_false c3]
  refine zU (zU ?_)
  refine zD ?_
  exact loop _ rfl (by rw[hh,decide_eq_false (λz=>c3 (Option.some.inj z))];simp)
def ORI (H:Hp) (v:V):Option (Int×Int)->Prop
 | none=>v = .non
 | some r=>RI H v r
def dsh (a:Str):Int:=if a.cps.toList.head? = some 45 then 1 else 0
def Xb (a:Str):Option Int:=rdN (TX (a.cps.toList.drop (dsh a).toNat))
theorem zav (a:Str):rdW a=match Xb a with | none=>none | some n=>if dsh a=1/\n=0 then none else some (if dsh a=1 then -n else n):=by
 unfold rdW Xb dsh
 by_cases h:a.cps.toList.head? = some 45
 ·rw[if_pos h,if_pos h]
  show _=match rdN (TX (a.cps.toList.drop 1))with | none=>none | some n=>_
  cases rdN (TX (a.cps.toList.drop 1))with
  | none=>rfl
  | some n=>by_cases z:n=0 <;> simp[z]
 ·rw[if_neg h,if_neg h]
  show _=match rdN (TX (a.cps.toList.drop 0))with | none=>none | some n=>_
  rw[List.drop_zero,qu]
  cases rdN a with
  | none=>rfl
  | some n=>simp
theorem za6:Str.ofString "/" = TX [47]:=by decide +kernel
theorem QZ {x a:Str}(h:Txt.split x (TX [47])=[a]):rdR x=(rdW a).map λt=>(t,1):=by
 have:a=x:=Zf h
 unfold rdR;rw[h,this]
theorem Xw {x a b:Str}(h:Txt.split x (TX [47])=[a,b]):rdR x=(rdW a).bind λt=>(rdN b).bind λu=>if decide (u=1)=false/\xx t u=true then some (t,u)else none:=by
 unfold rdR;rw[h]
 show (match rdW a,rdN b with | some t,some u=>_ | _,_=>none)=_
 cases rdW a with
 | none=>rfl
 | some t=>cases rdN b <;> rfl
theorem Jv {x a b c:Str}{r:List Str}(h:Txt.split x (TX [47])=a::b::c::r):rdR x=none:=by unfold rdR;rw[h]
def zba:Sp:=λvs H Q _=>∃x,vs=[.str x]/\x.length<=10000/\∀v H',zo H H'->ORI H' v (rdR x)->Q v H'
theorem qD:zw ["text","parts","dash","top","bottom"] ["text"] (zf x6):=⟨rfl,rfl,rfl,by decide +kernel,rfl,by decide +kernel,by decide +kernel⟩
theorem VD (a:Str):decide (V.str (Txt.slice a none (some 1))=V.str (Str.ofString "-"))=decide (a.cps.toList.head? = some 45):=by
 have:=Z6 a 1
 rw[show Txt.slice a none (some 1)=TX (a.cps.toList.take 1)from this,qC,show Str.ofString "-" = TX [45] by decide +kernel]
 cases hl:a.cps.toList with
 | nil=>rfl
 | cons c r =>
  by_cases z:c=45
  ·subst z;rw[decide_eq_true (show TX (List.take 1 (45::r))=TX [45]from rfl),decide_eq_true (show (45::r).head? = some 45 from rfl)]
  ·rw[decide_eq_false (λq=>z (by have:=Vr q;simpa using this)),decide_eq_false (λq=>z (by simpa using q))]
theorem j4 {t n u:Int}(hn:0<=n) (ht:t.natAbs=n.natAbs):(decide (u=1)=false/\xx t u=true)↔¬(u<2)/\Int.gcd n u=1:=by
 unfold xx
 have e:(t.natAbs:Int)=n:=by omega
 rw[e]
 simp only[Bool.and_eq_true,decide_eq_true_eq,decide_eq_false_iff_not]
 constructor
 ·rintro ⟨h1,h2,h3⟩;exact⟨by omega,h3⟩
 ·rintro ⟨h1,h2⟩;exact⟨by omega,by omega,h2⟩
theorem QH (D:Df K mg "_law_read" x6 ["text"] []) (T:TxB K mg) (cVa:Cal P w K mg base "_law_value" 1 ["text"] [] zbe) (cG:Cal P w K mg base "_law_common" 1 ["one","other"] [] ZE):Cal P w K mg base "_law_read" 2 ["text"] [] zba:=by
 refine D.cal (k:=1) qD (λvs H Q E h=>by obtain⟨_,rfl,_⟩:=h;rfl) (λf cdv A outer s H vs Q E hr h=>?_)
 obtain⟨x,rfl,hx,k⟩:=h
 refine⟨_,(zg (zx (i:=1) qD.nd rfl (Or.inl rfl) (qS PySem.F.plainAttrs_str PySem.F.slot_str_split PySem.F.type_str_split jj (pv 0) (zc zj zd)))
  (zg (zx (i:=2) qD.nd rfl (Or.inl rfl) (xP vR (by rfl) T.nInt PyProof.Rows.boot_int (zc (xV xO (qT jv (zH xb (pv 1) ze (λ_ _=>rfl)) vD (vE ze)) zj (zr _)) zd)))
  (zg (zx (i:=3) qD.nd rfl (Or.inl rfl) (zK cVa hr (zc (qT jv (zH xb (pv 1) ze (λ_ _=>rfl)) (vE (pv 2)) vD) zd)))
  (zg (zx (i:=4) qD.nd rfl (Or.inl rfl) ze)
  (zg (zO (zp xO (zB zW (by rfl) T.nLen PySem.boot_len (zc (pv 1) zd)) ze (zr _)) (zh (zx (i:=4) qD.nd rfl (Or.inl rfl) (zK cVa hr (zc (zH xb (pv 1) ze (λ_ _=>rfl)) zd)))) zy)
  (zg (zO ((qq (zp jk (pv 3) xq (zr _)) (qq (zp jk (pv 4) xq (zr _)) (qq (zp jQ (zB zW (by rfl) T.nLen PySem.boot_len (zc (pv 1) zd)) ze (zr _)) (qK ((vT (zp xO (pv 2) ze (zr _)) (qW (zp xO (pv 3) ze (zr _))))).pt))))).pt (zh (zu xq)) zy)
  (zg (zO ((vT (zp xO (zB zW (by rfl) T.nLen PySem.boot_len (zc (pv 1) zd)) ze (zr _)) (qW ((qq (zp jl (pv 4) ze (zr _)) (qK (zp vA (zK cG hr (zc (pv 3) (zc (pv 4) zd))) ze (zr _))))).pt))).pt (zh (zu xq)) zy)
  (zh (zu (qc (zc (zm qI (pv 3) (zH xb (xE (zc ze (zc (Xt Zi ze) zd))) (pv 2) (λ_ _=>rfl))) (zc (pv 4) zd)))))))))))),?_⟩
 refine⟨_,rfl,rfl,x,_,rfl,rfl,by decide +kernel,qZ hx,λl hl=>?_⟩
 dsimp only[zL]
 rw[za6]
 obtain⟨a,r,es⟩:=jx x (TX [47])
 have sl:zo H (upd H l (.lst ((Txt.split x (TX [47])).map V.str))):=zo.upd hl
 have hG:upd H l (.lst ((Txt.split x (TX [47])).map V.str)) l=some (.lst ((Txt.split x (TX [47])).map V.str)):=zi
 generalize upd H l (.lst ((Txt.split x (TX [47])).map V.str))=G at sl hG
 have la:a.length<=10000:=Nat.le_trans (xm (y:=TX [47]) (by rw[es];simp)) hx
 have za:a.length<=sizeLine:=by have:=qZ la;omega
 have at0':atI ((Txt.split x (TX [47])).map V.str) 0=some (.str a):=by rw[es];exact vY (j:=0) rfl
 refine⟨_,rfl,l,_,_,_,rfl,rfl,.of hG,at0',_,rfl,a,rfl,za,rfl,.inr ⟨_,rfl,?_⟩⟩
 rw[VD]
 have ed:(if decide (a.cps.toList.head? = some 45)=true then(1:Int)else 0)=dsh a:=by
  unfold dsh
  by_cases z:a.cps.toList.head? = some 45
  ·rw[decide_eq_true z,if_pos rfl,if_pos z]
  ·rw[decide_eq_false z,if_neg (by decide),if_neg z]
 rw[ed]
 dsimp only[zL]
 have d01:dsh a=0\/dsh a=1:=by unfold dsh;split;exact .inr rfl;exact .inl rfl
 refine⟨_,rfl,l,_,_,_,rfl,rfl,.of hG,at0',_,rfl,_,rfl,a,rfl,za,?_⟩
 have esl:Txt.slice a (some (dsh a)) none=TX (a.cps.toList.drop (dsh a).toNat):=by
  have:=jw a (dsh a).toNat
  rw[show (((dsh a).toNat:Nat):Int)=dsh a by omega]at this;exact this
 rw[esl]
 refine⟨_,rfl,by rw[zv,List.length_drop];have:a.cps.toList.length=a.length:=by simp[Str.length]
                 omega,?_⟩
 dsimp only[zL]
 refine vp ?_
 dsimp only[tC]
 have eT:rdN (TX (a.cps.toList.drop (dsh a).toNat))=Xb a:=rfl
 rw[eT]
 have eW:=zav a
 refine Vi (λσ' G'=>G'=G/\∃o2:Option Int,σ'=[some (.str x),some (.ref l),some (.int (dsh a)),some (oV (Xb a)),some (oV o2)]/\(∀b,r=[b]->o2=rdN b)/\(r.length≠1->o2=some 1)) ?_ ?_
 ·rintro σ' G' ⟨rfl,o2,rfl,ho1,ho2⟩
  have hlen:(((Txt.split x (TX [47])).map V.str).length:Int)=1+(r.length:Int):=by rw[List.length_map,es,List.length_cons];omega
  have fin:rdR x=none->Q .non G':=λe=>k .non G' sl (by rw[e];rfl)
  have wn:Xb a=none->rdR x=none:=λh=>by
   rw[h]at eW
   match r,es with
   | [],es=>rw[QZ es,eW];rfl
   | [b],es=>rw[Xw es,eW];rfl
   | b::c::r,es=>exact Jv es
  refine Vi (λσ'' G''=>G''=G'/\∃n u:Int,Xb a=some n/\o2=some u/\σ''=[some (.str x),some (.ref l),some (.int (dsh a)),some (.int n),some (.int u)]/\r.length<=1/\¬(dsh a=1/\n=0)) ?_ ?_
  ·rintro σ'' G'' ⟨rfl,n,u,ht,ho,rfl,hr1,hz0⟩
   rw[ht]at eW
   have eW:rdW a=some (if dsh a=1 then -n else n):=eW.trans (if_neg hz0)
   obtain⟨hn0,hnb⟩:=jp ht
   have out:rdR x=some (if dsh a=1 then -n else n,u)->Vm (zbo (qU (tOp (rI Qg λi j=>.int (i*j)) (ve 3) (tOp (za1 K) (Jk (qU (tC (.int 1)) (qU (tUn (rU λi=>.int (-i)) (tC (.int 1))) Zg))) (ve 2))) (qU (ve 4) Zg))) { nx:=λ_ H'=>Q .non H',rt:=Q } [some (.str x),some (.ref l),some (.int (dsh a)),some (.int n),some (.int u)] G'':=λe=>by
    refine⟨_,rfl,_,rfl,by show 2<=sizeLine;decide,λl2 hl2=>?_⟩
    have s2:=zo.upd (o:=.lst [.int 1,.int (-1)]) hl2
    have em:∃m:Int,atI [V.int 1,.int (-1)] (dsh a)=some (.int m)/\n*m=(if dsh a=1 then -n else n)/\Bd 1000000 m:=by
     rcases d01 with z | z <;> rw[z]
     ·exact⟨1,rfl,by rw[if_neg (by decide),Int.mul_one],Bd.mono (m:=1) (show (1:Int).natAbs<2^1 by decide) (by decide)⟩
     ·exact⟨-1,rfl,by rw[if_pos rfl,Int.mul_neg,Int.mul_one],Bd.mono (m:=1) (show (-1:Int).natAbs<2^1 by decide) (by decide)⟩
    obtain⟨m,em,en,bm⟩:=em
    refine⟨_,rfl,l2,_,_,_,rfl,rfl,.of zi,em,_,_,rfl,rfl,⟨hnb.mono (by decide),bm⟩,_,rfl,by show 2<=sizeLine;decide,λt ht'=>?_⟩
    refine k _ _ ((sl.trans s2).trans (zo.upd ht')) ?_
    rw[e]
    refine⟨t,rfl,?_⟩
    rw[zi,<-en]
   refine⟨_,rfl,l,_,rfl,.inl (.of hG),rfl,_,rfl,?_⟩
   rw[hlen,xi]
   match r,es,hr1,ho1,ho2 with
   | [],es,_,_,ho2 =>
    have hu1:u=1:=by have:=ho2 (by simp);rw[ho]at this;injection this
    rw[decide_eq_false (by simp)]
    refine zU (zU ?_)
    refine zD ?_
    subst hu1
    exact out (by rw[QZ es,eW];rfl)
   | [b],es,_,ho1,_ =>
    have eb:rdN b=some u:=(ho1 b rfl).symm.trans ho
    have hub:=jp eb
    rw[decide_eq_true (by simp)]
    refine zY ?_
    have eR:rdR x=if decide (u=1)=false/\xx (if dsh a=1 then -n else n) u=true then some (if dsh a=1 then -n else n,u)else none:=by rw[Xw es,eW,eb];rfl
    have hab:(if dsh a=1 then -n else n).natAbs=n.natAbs:=by split <;> omega
    refine⟨_,rfl,_,_,rfl,rfl,_,rfl,?_⟩
    by_cases c2:u<2
    ·rw[decide_eq_true c2]
     refine zY (zY (fin ?_))
     rw[eR,if_neg]
     intro z
     exact((j4 hn0 hab).mp z).1 c2
    ·rw[decide_eq_false c2]
     refine zU ⟨_,rfl,_,rfl,n,u,rfl,hn0,hub.1,rfl,_,rfl,?_⟩
     rw[xi]
     by_cases cg:Int.gcd n u=1
     ·rw[decide_eq_true (show ((Int.gcd n u:Nat):Int)=1 by omega)]
      refine zU ?_
      refine zD ?_
      exact out (by rw[eR,if_pos ((j4 hn0 hab).mpr ⟨c2,cg⟩)])
     ·rw[decide_eq_false (show ¬((Int.gcd n u:Nat):Int)=1 by omega)]
      refine zY (fin ?_)
      rw[eR,if_neg]
      intro z
      exact cg ((j4 hn0 hab).mp z).2
  ·intro nx hnx
   cases ht:Xb a with
   | none=>exact⟨_,rfl,rfl,_,rfl,zY (zY (fin (wn ht)))⟩
   | some n =>
    rw[ht]at eW
    refine⟨_,rfl,rfl,_,rfl,zU ?_⟩
    cases ho:o2 with
    | none =>
     have:∃b,r=[b]:=by
      match r,ho2 with
      | [],h=>rw[h (by simp)]at ho;cases ho
      | [b],_=>exact⟨b,rfl⟩
      | b::c::r,h=>rw[h (by simp)]at ho;cases ho
     obtain⟨b,rfl⟩:=this
     have e2:=ho1 b rfl
     refine⟨_,rfl,rfl,_,rfl,zY (zY (fin ?_))⟩
     rw[Xw es,<-e2,ho]
     cases rdW a <;> rfl
    | some u =>
     refine⟨_,rfl,rfl,_,rfl,zU ?_⟩
     refine⟨_,rfl,l,_,rfl,.inl (.of hG),_,_,rfl,rfl,_,rfl,?_⟩
     rw[hlen]
     by_cases c3:2<=r.length
     ·rw[decide_eq_true (show (2:Int)<1+(r.length:Int) by omega)]
      refine zY (zY (fin ?_))
      match r,es,c3 with
      | b::c::r,es,_=>exact Jv es
     rw[decide_eq_false (show ¬(2:Int)<1+(r.length:Int) by omega)]
     refine zU ?_
     have eW:rdW a=if dsh a=1/\n=0 then none else some (if dsh a=1 then -n else n):=eW
     have wz:dsh a=1/\n=0->rdR x=none:=λh=>by
      rw[if_pos h]at eW
      match r,es,c3 with
      | [],es,_=>rw[QZ es,eW];rfl
      | [b],es,_=>rw[Xw es,eW];rfl
      | b::c::r,_,c3=>simp at c3
     refine⟨_,rfl,rfl,_,rfl,?_⟩
     rw[xi]
     by_cases cd:dsh a=1
     ·rw[decide_eq_true cd]
      refine zY ⟨_,rfl,rfl,_,rfl,?_⟩
      rw[show oV (some n)=V.int n from rfl,xi]
      by_cases cn:n=0
      ·rw[decide_eq_true cn];exact zY (fin (wz ⟨cd,cn⟩))
      ·rw[decide_eq_false cn];exact zU (hnx _ _ ⟨rfl,n,u,ht,ho,rfl,by omega,λz=>cn z.2⟩)
     ·rw[decide_eq_false cd]
      exact zU (zU (hnx _ _ ⟨rfl,n,u,ht,ho,rfl,by omega,λz=>cd z.1⟩))
 ·intro nx hnx
  have hlen:(((Txt.split x (TX [47])).map V.str).length:Int)=1+(r.length:Int):=by rw[List.length_map,es,List.length_cons];omega
  refine⟨_,rfl,l,_,rfl,.inl (.of hG),rfl,_,rfl,?_⟩
  rw[hlen,xi]
  by_cases c:r.length=1
  ·obtain⟨b,rfl⟩:=QC c
   rw[decide_eq_true (by simp)]
   have lb:b.length<=10000:=Nat.le_trans (xm (y:=TX [47]) (by rw[es];simp)) hx
   refine zY ⟨_,rfl,l,_,_,_,rfl,rfl,.of hG,(by rw[es];exact vY (j:=1) rfl),b,rfl,lb,?_⟩
   exact hnx _ _ ⟨rfl,rdN b,rfl,λb' e=>by cases e;rfl,λz=>absurd rfl z⟩
  ·rw[decide_eq_false (show ¬(1+(r.length:Int))=2 by omega)]
   exact zU (hnx _ _ ⟨rfl,some 1,rfl,λb e=>absurd (by rw[e];rfl) c,λ_=>rfl⟩)
end
end KK
end
section
set_option maxHeartbeats 8000000
set_option Elab.async false
set_option linter.all false
set_option maxRecDepth 100000
namespace KK
open PySem L2 KM PySem.NumText
theorem jd {α:Type}{xs:List α}{d:Int}(h0:0<=d) (h1:d<(xs.length:Int)):∃v,atI xs d=some v/\v∈xs:=by
 have hl:d.toNat<xs.length:=by omega
 refine⟨xs[d.toNat],?_,List.getElem_mem _⟩
 have:=vY (List.getElem?_eq_getElem hl)
 rw[show ((d.toNat:Nat):Int)=d by omega]at this;exact this
def rD (r:Int×Int):PyData:=.tuple [.int r.1,.int r.2]
theorem RI.rd {H:Hp}{v:V}{r:Int×Int}(h:RI H v r):RdD H v (rD r):=by obtain⟨p,rfl,e⟩:=h;exact .tup e (.cons (.int _) (.cons (.int _) .nil))
def oD:Option (Int×Int)->PyData
 | none=>.none
 | some r=>rD r
theorem ORI.rd {H:Hp}{v:V}{o:Option (Int×Int)} (h:ORI H v o):RdD H v (oD o):=by
 cases o with
 | none=>cases(show v = .non from h);exact .non
 | some r=>exact RI.rd h
theorem ORI.tups {H H':Hp}{v:V}{o:Option (Int×Int)} (h:ORI H v o) (e:qE H H'):ORI H' v o:=by
 cases o with
 | none=>exact h
 | some r=>exact RI.tups h e
section
variable {P:Program}{w:World}{K:PySem.W.Frag}{mg:Str->Option Value}{base:Heap}
def za7:Sp:=λvs H Q _=>∃x p,vs=[.str x,.ref p]/\x.length<=4000/\qP H p/\∀y H',qo p H H'->y.length<=9000->Q (.str y) H'
theorem jt:zw ["text","pool","at","sign"] ["text","pool"] (zf x0):=⟨rfl,rfl,rfl,by decide +kernel,rfl,by decide +kernel,by decide +kernel⟩
theorem QG (D:Df K mg "_law_bent" x0 ["text","pool"] []) (T:TxB K mg) (cN:Cal P w K mg base "_law_next" 1 ["pool","base"] [] Z7):Cal P w K mg base "_law_bent" 2 ["text","pool"] [] za7:=by
 refine D.cal (k:=1) jt (λvs H Q E h=>by obtain⟨_,_,rfl,_⟩:=h;rfl) (λf cdv A outer s H vs Q E hr h=>?_)
 obtain⟨x,p,rfl,hx,hP,k⟩:=h
 have hz:x.length<=sizeLine:=by rw[sizeLine_eq];omega
 refine⟨_,(zg (zx (i:=2) jt.nd rfl (Or.inl rfl) (zK cN hr (zc (pv 1) (zc (zm qR (zB qF (by rfl) T.nLen PySem.boot_len (zc (pv 0) zd)) ze) zd))))
  (zg (zx (i:=3) jt.nd rfl (Or.inl rfl) (zH ZP zj (zK cN hr (zc (pv 1) (zc ze zd))) (λ_ _=>rfl)))
  (zh (zu (zm zk (zm zk (qT jv (pv 0) vD (vE (pv 2))) (zH xb (xE (zc zj (zc (pv 3) (zc (pv 3) zd)))) (zK cN hr (zc (pv 1) (zc ze zd))) (λ_ _=>rfl))) (qT jv (pv 0) (vE (zm qR (pv 2) (zK cN hr (zc (pv 1) (zc ze zd))))) vD)))))),?_⟩
 refine⟨_,rfl,_,rfl,x,rfl,hz,_,_,rfl,rfl,p,_,rfl,by omega,by omega,hP,λd1 G1 a1 b1 t1=>?_⟩
 dsimp only[zL]
 refine⟨_,rfl,p,_,rfl,by decide,by decide,t1.pool,λd2 G2 a2 b2 t2=>?_⟩
 have e21:(Str.ofString "0123456789-/ ;|+._a\t\n").cps.toList.length=21:=by decide +kernel
 obtain⟨c,ec,_⟩:=jd (xs:=(Str.ofString "0123456789-/ ;|+._a\t\n").cps.toList) a2 (by rw[e21];exact b2)
 refine⟨_,_,c,rfl,rfl,szl (by decide +kernel),ec,?_⟩
 dsimp only[zL]
 have T2:=t1.trans t2
 refine⟨_,rfl,_,rfl,_,rfl,x,rfl,hz,?_⟩
 have l1:=Txt.slice_le x none (some d1)
 refine⟨_,rfl,_,rfl,by show 3<=sizeLine;decide,λl hl=>?_⟩
 refine⟨_,rfl,p,_,rfl,by decide,by decide,T2.pool.new hl,λd3 G3 a3 b3 t3=>?_⟩
 obtain⟨v,ev,mv⟩:=jd (xs:=[V.str (Str.ofString ""),.str ⟨#[c]⟩,.str ⟨#[c]⟩]) a3 b3
 obtain⟨g,rfl,hg⟩:∃g:Str,v = .str g/\g.length<=1:=by
  simp only[List.mem_cons,List.not_mem_nil,or_false]at mv
  rcases mv with rfl | rfl | rfl
  ·exact⟨_,rfl,by decide +kernel⟩
  ·exact⟨_,rfl,Nat.le_refl _⟩
  ·exact⟨_,rfl,Nat.le_refl _⟩
 refine⟨l,_,_,_,rfl,rfl,.of (t3.keep l _ zi (T2.pool.ne hl)),ev,_,_,rfl,rfl,by rw[sizeLine_eq];omega,?_⟩
 have T3:qo p H G3:=(T2.same (zo.upd hl)).trans t3
 refine⟨_,rfl,_,rfl,_,rfl,p,_,rfl,by decide,by decide,T3.pool,λd4 G4 a4 b4 t4=>⟨_,_,rfl,rfl,_,rfl,x,rfl,hz,?_⟩⟩
 have l2:=Txt.slice_le x (some (d1+d4)) none
 have e1:(Txt.slice x none (some d1)++g).length=(Txt.slice x none (some d1)).length+g.length:=zA _ _
 refine⟨_,_,rfl,rfl,by rw[e1,sizeLine_eq];omega,k _ G4 (T3.trans t4) ?_⟩
 rw[zA,e1];omega
end
end KK
end
section
set_option maxHeartbeats 4000000
set_option Elab.async false
set_option linter.all false
set_option maxRecDepth 100000
namespace KK
open PySem L2 KM
structure Tx9 (K:PySem.W.Frag) (mg:Str->Option Value):Prop where
 nDm:mg "divmod" = none
theorem Qq:∀ts:List (List Nat),Txt.join (TX []) (ts.map TX)=TX ts.flatten:=by
 intro ts
 show Builtin.Str.glued (TX []) (ts.map TX)=_
 rw[StrLaws.glued_eq_join]
 induction ts with
 | nil=>rfl
 | cons a r ih =>
  cases r with
  | nil=>show TX a=TX (a++[]);rw[List.append_nil]
  | cons b r =>
   have e:Str.join (TX []) ((a::b::r).map TX)=TX a++TX []++Str.join (TX []) ((b::r).map TX):=rfl
   rw[e,ih,zE,zE,List.append_nil];rfl
section
variable {P:Program}{w:World}{K:PySem.W.Frag}{mg:Str->Option Value}{base:Heap}
theorem Zm {k:Nat}:∀(cs:List (List Nat)),(∀c∈cs,c.length=k)->cs.flatten.length=cs.length*k
 | [],_=>by simp
 | c::cs,h=>by
  rw[List.flatten_cons,List.length_append,Zm cs λd m=>h d (List.mem_cons_of_mem _ m),h c (List.mem_cons_self ..),List.length_cons,Nat.add_mul];omega
theorem Q7 (cs:List (List Nat)) (c:List Nat):(cs++[c]).reverse.flatten=c++cs.reverse.flatten:=by simp
theorem QD (cs:List (List Nat)) (c:List Nat):((cs++[c]).map TX).map V.str=(cs.map TX).map V.str++[V.str (TX c)]:=by simp
theorem Xs:∀k r,(pad k r).length=k
 | 0,_=>rfl
 | k+1,r=>by show (pad k (r/10)++[48+r % 10]).length=_;rw[List.length_append,Xs k];rfl
theorem JU {m:Nat}(hm:10^60<=m):m/10^60<m:=Nat.div_lt_self (Nat.lt_of_lt_of_le (by decide) hm) (by decide)
theorem Jr (TS:TxS K mg) (TS9:Tx9 K mg){f:Addr}{cdv:Value}{A:Around}{outer:List Env}{s:Shared}{H:Hp}{Q:VK}{E:XK}{n:Nat}(hn:n<10^300) (k:∀H',zo H H'->Q (.str (TX (fig n))) H') :
  ∃t,PSs (xI CX0 P w K mg base ["number","pieces","rest"] "number_text" (zf zR) f cdv A outer s H E).nox (zl zR) t/\t { nx:=λ_ H'=>Q .non H',rt:=Q } (qO ["number","pieces","rest"] [.int (n:Int)]) H:=by
 refine⟨_,(zg (zO (zp jl (pv 0) ze (zr _)) qj zy)
  (zg (zx (i:=1) ZB.nd rfl (Or.inl rfl) (xE zd))
  (zg (vF PassesOwn.never (zp zaX (pv 0) (zm qJ ze ze) (zr _)) (zg (qy (zB jY (by rfl) TS9.nDm PyProof.Rows.boot_divmod (zc (pv 0) (zc (zm qJ ze ze) zd))) (j9 rfl (zV (zJ (i:=0) ZB.nd rfl (Or.inl rfl)) (zV (zJ (i:=2) ZB.nd rfl (Or.inl rfl)) qp))))
  (zh (qe (qS PySem.F.plainAttrs_list PySem.F.slot_list_append PySem.F.type_list_append qi (pv 1) (zc (qS PySem.F.plainAttrs_str PySem.F.slot_str_zfill PySem.F.type_str_zfill QE (xP vv (by rfl) TS.nStr PyProof.Rows.boot_str (zc (pv 2) zd)) (zc ze zd)) zd))))))
  (zh (zu (zm zk (xP vv (by rfl) TS.nStr PyProof.Rows.boot_str (zc (pv 0) zd)) (qS PySem.F.plainAttrs_str PySem.F.slot_str_join PySem.F.type_str_join VJ zj (zc (V9 (pv 1) (Xt Zi ze)) zd)))))))),?_⟩
 refine⟨_,rfl,_,_,rfl,rfl,_,rfl,vd (λh=>absurd (of_decide_eq_true h) (by omega)) (λ_=>?_)⟩
 refine zD ?_
 refine⟨by show 0<=sizeLine;exact Nat.zero_le _,λl hl=>?_⟩
 dsimp only[zL]
 refine ZG ?_
 have hN:=qG (k:=300) (by decide) hn
 have e60:((10^60:Nat):Int)=(10:Int)^60:=by decide
 refine vN (λσ G=>∃(m:Nat) (cs:List (List Nat)) (z:Option V),σ=[some (.int (m:Int)),some (.ref l),z]/\zo H G/\G l=some (.lst ((cs.map TX).map V.str))/\(∀c∈cs,c.length=60)/\fig n=fig m++cs.reverse.flatten)
  (λσ _=>match σ with | (some (.int y))::_=>y.toNat | _=>0) ⟨n,[],none,rfl,zo.upd hl,zi,(λc m=>by cases m),by simp⟩ ?_ ?_
 ·rintro σ G ⟨m,cs,z,rfl,sG,hG,hc,hf⟩
  have hlen:cs.length*60+(fig m).length<=300:=by
   have e:=congrArg List.length hf
   rw[List.length_append,Zm cs.reverse (k:=60) λc mm=>hc c (List.mem_reverse.mp mm),List.length_reverse]at e
   omega
  refine⟨_,rfl,_,_,rfl,rfl,⟨by decide,by decide,by decide⟩,_,_,rfl,rfl,_,rfl,vd (λh=>?_) (λh=>?_)⟩
  ·have hm:10^60<=m:=by
    have h2:(10:Int)^60<=(m:Int):=of_decide_eq_true h
    omega
   have b60:Bd 8900 ((10:Int)^Int.toNat 60):=Bd.mono (m:=300) (show ((10:Int)^60).natAbs<2^300 by decide) (by decide)
   refine⟨_,rfl,_,_,rfl,rfl,⟨by decide,by decide,by decide⟩,_,_,rfl,by decide,b60,λp hp=>?_⟩
   have eq1:(m:Int)/(10:Int)^Int.toNat 60=((m/10^60:Nat):Int):=by
    show (m:Int)/(10:Int)^60=_
    rw[<-e60];exact(Int.natCast_ediv ..).symm
   have eq2:(m:Int) % (10:Int)^Int.toNat 60=((m % 10^60:Nat):Int):=by
    show (m:Int) % (10:Int)^60=_
    rw[<-e60];exact(Int.natCast_emod ..).symm
   have hr:m % 10^60<10^60:=Nat.mod_lt _ (by decide)
   rw[eq1,eq2]
   have sp:=zo.upd (o:=.tup [.int ((m/10^60:Nat):Int),.int ((m % 10^60:Nat):Int)]) hp
   refine⟨p,_,rfl,.of zi,rfl,_,_,rfl,_,_,rfl,rfl,?_⟩
   dsimp only
   have hG1:=sp _ _ hG
   refine⟨_,rfl,.inl ⟨rfl,_,SqL.of hG1⟩,_,rfl,_,rfl,jN hr,rfl,_,60,rfl,rfl,by decide +kernel,l,_,_,rfl,rfl,hG1,by rw[List.length_map,List.length_map];exact va (by omega),?_⟩
   rw[str_int,Qe hr]
   have hpl:=Xs 60 (m % 10^60)
   have hfp:=Xk 60 m hm
   have hlt:m/10^60<m:=JU hm
   generalize pad 60 (m % 10^60)=pc at hpl hfp
   generalize m/10^60=mq at hfp hlt
   generalize m % 10^60=mr
   refine⟨⟨mq,cs++[pc],some (.int (mr:Int)),rfl,λb o e=>?_,?_,λc mc=>?_,?_⟩,?_⟩
   ·rw[zX (z9 e hl)];exact zo.upd hp _ _ (sG _ _ e)
   ·rw[zi,QD]
   ·rcases List.mem_append.mp mc with mc | mc
    ·exact hc c mc
    ·cases List.mem_singleton.mp mc;exact hpl
   ·rw[hf,hfp,Q7,List.append_assoc]
   ·show ((mq:Nat):Int).toNat<((m:Nat):Int).toNat
    omega
  ·have hm:m<10^60:=by
    refine Nat.lt_of_not_le λz=>h (decide_eq_true ?_)
    show (10:Int)^60<=(m:Int)
    omega
   refine⟨_,rfl,_,rfl,jN hm,?_⟩
   refine⟨rfl,_,rfl,_,rfl,l,_,rfl,rfl,.of hG,λp hp=>?_⟩
   refine⟨_,p,cs.reverse.map TX,rfl,rfl,.of (by rw[zi,<-List.map_reverse,<-List.map_reverse]),VF (by decide +kernel) (by simp;omega) (λt mt=>?_),?_⟩
   ·obtain⟨c,mc,rfl⟩:=List.mem_map.mp mt
    rw[zv,hc c (List.mem_reverse.mp mc)];decide
   rw[show Str.ofString "" = TX [] by decide +kernel,Qq,str_int]
   refine⟨_,_,rfl,rfl,?_,?_⟩
   ·rw[zv,zv,<-List.length_append,<-hf];exact szl (by omega)
   ·rw[zE,<-hf]
    exact k _ (sG.trans (zo.upd hp))
 ·rintro σ H1 Q1 Q2 hq ⟨v,e,i,j,e1,e2,c,i2,j2,e3,e4,b,e5,q⟩
  exact⟨v,e,i,j,e1,e2,c,i2,j2,e3,e4,b,e5,hq _ _ q⟩
def Vg:Sp:=λvs H Q _=>∃n:Nat,vs=[.int n]/\n<10^300/\∀H',zo H H'->Q (.str (TX (fig n))) H'
theorem VX (D:Df K mg "number_text" zR ["number"] []) (TS:TxS K mg) (TS9:Tx9 K mg):Cal P w K mg base "number_text" 1 ["number"] [] Vg:=by
 refine D.cal (k:=0) ZB (λvs H Q E h=>by obtain⟨_,rfl,_⟩:=h;rfl) (λf cdv A outer s H vs Q E hr h=>?_)
 obtain⟨n,rfl,hn,k⟩:=h
 exact Jr TS TS9 hn k
def Jz:Sp:=λvs H Q _=>∃n:Int,vs=[.int n]/\n.natAbs<10^300/\∀H',zo H H'->Q (.str (TX (ntL n))) H'
theorem zak (D:Df K mg "number_text" zR ["number"] []) (TS:TxS K mg) (TS9:Tx9 K mg) (c0:Cal P w K mg base "number_text" 1 ["number"] [] Vg):Cal P w K mg base "number_text" 2 ["number"] [] Jz:=by
 refine D.cal (k:=1) ZB (λvs H Q E h=>by obtain⟨_,rfl,_⟩:=h;rfl) (λf cdv A outer s H vs Q E hr h=>?_)
 obtain⟨n,rfl,hn,k⟩:=h
 by_cases n0:n<0
 case neg =>
  obtain⟨m,rfl⟩:=Int.eq_ofNat_of_zero_le (show 0<=n by omega)
  refine Jr TS TS9 (show m<10^300 from hn) λH' e=>?_
  have:=k H' e
  have e2:ntL (m:Int)=fig m:=by unfold ntL;rw[if_neg n0];rfl
  rw[e2]at this;exact this
 refine⟨_,(zg (zO (zp jl (pv 0) ze (zr _)) (zh (zu (zm zk zj (zK c0 hr (zc (Xt Zi (pv 0)) zd))))) zy) qj),?_⟩
 refine⟨_,rfl,_,_,rfl,rfl,_,rfl,vd (λh=>?_) (λh=>absurd (decide_eq_true n0) h)⟩
 refine⟨_,rfl,_,rfl,n.natAbs,congrArg (λi=>[V.int i]) (by omega),hn,λH1 s1=>?_⟩
 have e:ntL n=45::fig n.natAbs:=by unfold ntL;rw[if_pos n0]
 refine⟨_,_,rfl,rfl,?_,?_⟩
 ·rw[zv]
  have:=qG (k:=300) (by decide) hn
  show 1+_<=sizeLine
  exact szl (by omega)
 ·have e2:(Str.ofString "-"++TX (fig n.natAbs))=TX (ntL n):=by
   rw[e,show Str.ofString "-" = TX [45] by decide +kernel,zE];rfl
  rw[e2]
  exact k _ s1
theorem zao (D:Df K mg "ratio_text" xB ["one"] []) (cNt:Cal P w K mg base "number_text" 2 ["number"] [] Jz):Cal P w K mg base "ratio_text" 3 ["one"] [] Jg:=by
 refine D.cal (k:=2) Vb (λvs H Q E h=>by obtain⟨_,_,rfl,_⟩:=h;rfl) (λf cdv A outer s H vs Q E hr h=>?_)
 obtain⟨v,r,rfl,⟨p,rfl,hp⟩,hz,k⟩:=h
 refine⟨_,(zg (qy (pv 0) (j9 rfl (zV (zJ (i:=1) Vb.nd rfl (Or.inl rfl)) (zV (zJ (i:=2) Vb.nd rfl (Or.inl rfl)) qp))))
  (zg (zO (zp xO (pv 2) ze (zr _)) (zh (zu (zK cNt hr (zc (pv 1) zd)))) zy)
  (zh (zu (zm zk (zm zk (zK cNt hr (zc (pv 1) zd)) zj) (zK cNt hr (zc (pv 2) zd))))))),?_⟩
 refine⟨_,rfl,p,_,rfl,.of hp,rfl,_,_,rfl,_,_,rfl,rfl,?_⟩
 dsimp only
 refine⟨_,rfl,rfl,_,rfl,vd (λh=>?_) (λh=>?_)⟩
 ·have e:r.2=1:=by have:=of_decide_eq_true h;injection this
  refine⟨_,rfl,_,rfl,hz.1,λH1 s1=>?_⟩
  have e2:rtL r=ntL r.1:=by unfold rtL;rw[if_pos e]
  have:=k H1 s1
  rw[e2]at this;exact this
 ·have e:r.2≠1:=λz=>h (decide_eq_true (congrArg V.int z))
  refine⟨_,rfl,_,rfl,hz.1,λH1 s1=>?_⟩
  have l1:=qV hz.1
  have l2:=qV hz.2
  refine⟨_,_,rfl,rfl,?_,?_⟩
  ·rw[zv];exact szl (by show _+1<=1000;omega)
  refine⟨_,rfl,_,rfl,hz.2,λH2 s2=>?_⟩
  have e0:TX (ntL r.1)++Str.ofString "/" = TX (ntL r.1++[47]):=by rw[show Str.ofString "/" = TX [47] by decide +kernel,zE]
  refine⟨_,_,rfl,rfl,?_,?_⟩
  ·rw[e0,zv,zv];exact szl (by simp;omega)
  have e2:rtL r=ntL r.1++[47]++ntL r.2:=by unfold rtL;rw[if_neg e]
  have:=k H2 (s1.trans s2)
  rw[e2,<-zE,<-e0]at this;exact this
end
end KK
end
section
set_option maxHeartbeats 4000000
set_option Elab.async false
set_option linter.all false
set_option maxRecDepth 100000
namespace KK
open PySem L2 KM PySem.NumText
def NoS (K:PySem.W.Frag) (H:Hp) (v:V):Prop:=∃t,vq K H v t/\PySem.W.kitOne K t (.type "str")=some false
section
variable {P:Program}{w:World}{K:PySem.W.Frag}{mg:Str->Option Value}{base:Heap}{C:Addr}{tF tM:Tok}
def XD (K:PySem.W.Frag) (C:Addr):Sp:=λvs H _ E=>∃v y o,vs=[v,.str y,o]/\NoS K H v/\∀H',zo H H'->E (.ref C) none H'
theorem VZ (D:Df K mg "parts_of" xL ["thing","sign","many"] []) (T:TxB K mg) (TS:TxS K mg) (O:jW "NoText" C mg base):xj P w K mg base "parts_of" 1 ["thing","sign","many"] [] (XD K C):=by
 refine D.cal1 (k:=0) Ze (λvs H Q E h=>by obtain⟨_,_,_,rfl,_⟩:=h;rfl) (λf cdv A outer s H vs Q E hr h=>?_)
 obtain⟨v,y,o,rfl,⟨t,ty,kt⟩,kE⟩:=h
 refine⟨_,(zg (zO (xJ (xa (zB x9 (by rfl) T.nIs PyProof.Rows.boot_isinstance (zc (pv 0) (zc (vB (v:=.ty "str") (u:=.type "str") (by rfl) TS.nStr PyProof.Rows.boot_str rfl) zd))) λ_=>rfl)) (zh (xG O PySem.F.excBase_ValueError (by decide +kernel) PySem.F.excBase_ValueError hr.hd zQ (zc zj zd))) zy)
  (zg (zx (i:=3) Ze.nd rfl (Or.inl rfl) (qS PySem.F.plainAttrs_str PySem.F.slot_str_split PySem.F.type_str_split jj (pv 0) (zc (pv 1) zd)))
  (zg (zO ((vT (zp Xq (pv 2) xq (zr _)) (qW (zp vA (zB zW (by rfl) T.nLen PySem.boot_len (zc (pv 3) zd)) (pv 2) (zr _))))).pt (zh (xG O PySem.F.excBase_ValueError (by decide +kernel) PySem.F.excBase_ValueError hr.hd zQ (zc zj zd))) zy)
  (zh (zu (pv 3)))))),?_⟩
 exact⟨_,rfl,_,_,_,false,rfl,ty,kt,false,rfl,zY ⟨by show 1<=sizeLine;decide,kE H (zo.refl _)⟩⟩
def spN (K:PySem.W.Frag) (C:Addr):Sp:=λvs H _ E=>∃v,vs=[v]/\NoS K H v/\∀H',zo H H'->E (.ref C) none H'
theorem zam (D:Df K mg "read_ratio" xr ["thing"] []) (cPsN:xj P w K mg base "parts_of" 1 ["thing","sign","many"] [] (XD K C)):xj P w K mg base "read_ratio" 3 ["thing"] [] (spN K C):=by
 refine D.cal1 (k:=2) vJ (λvs H Q E h=>by obtain⟨_,rfl,_⟩:=h;rfl) (λf cdv A outer s H vs Q E hr h=>?_)
 obtain⟨v,rfl,hv,kE⟩:=h
 have hr1:xh 1 _:=hr.mono (by decide)
 refine⟨_,(zg (zx (i:=1) vJ.nd rfl (Or.inl rfl) (xg cPsN hr1 zC (zc (pv 0) (zc zj (zc xq zd))))) qj),?_⟩
 exact⟨_,rfl,v,_,_,rfl,hv,λH1 s1=>⟨C,rfl,kE H1 s1⟩⟩
theorem zar (D:Df K mg "walls_read" xt ["thing"] []) (cPsN:xj P w K mg base "parts_of" 1 ["thing","sign","many"] [] (XD K C)):xj P w K mg base "walls_read" 6 ["thing"] [] (spN K C):=by
 refine D.cal1 (k:=5) qN (λvs H Q E h=>by obtain⟨_,rfl,_⟩:=h;rfl) (λf cdv A outer s H vs Q E hr h=>?_)
 obtain⟨v,rfl,hv,kE⟩:=h
 have hr1:xh 1 _:=hr.mono (by decide)
 refine⟨_,(zg (qy (xg cPsN hr1 zC (zc (pv 0) (zc zj (zc ze zd)))) (vZ rfl (zV (zJ (i:=1) qN.nd rfl (Or.inl rfl)) (zV (zJ (i:=2) qN.nd rfl (Or.inl rfl)) qp)))) qj),?_⟩
 exact⟨_,rfl,v,_,_,rfl,hv,λH1 s1=>⟨C,rfl,kE H1 s1⟩⟩
def BI (H:Hp) (v:V) (b:Bx3):Prop:=∃p x y,v = .ref p/\H p=some (.tup [x,y,.int b.2])/\RI H x b.1.1/\RI H y b.1.2
def Ve (C:Addr):Sp:=λvs H Q E=>∃x,vs=[.str x]/\x.length<=10000/\(∀b,qd x=some b->∀v H',zo H H'->BI H' v b->Q v H')/\(qd x=none->∀H',zo H H'->E (.ref C) none H')
theorem ja:zw ["text","place","speed","weight"] ["text"] (zf xT):=⟨rfl,rfl,rfl,by decide +kernel,rfl,by decide +kernel,by decide +kernel⟩
theorem V0 (D:Df K mg "read_ball" xT ["text"] []) (TF:TxF mg tF tM) (cPs:xj P w K mg base "parts_of" 1 ["thing","sign","many"] [] (X5 C)) (cRn:xj P w K mg base "read_number" 1 ["text","most"] [] (Jh C)) (cRr:xj P w K mg base "read_ratio" 3 ["thing"] [] (X6 C)):xj P w K mg base "read_ball" 4 ["text"] [] (Ve C):=by
 refine D.cal1 (k:=3) ja (λvs H Q E h=>by obtain⟨_,rfl,_⟩:=h;rfl) (λf cdv A outer s H vs Q E hr3 h=>?_)
 obtain⟨x,rfl,hx,k,kE⟩:=h
 have hr1:xh 1 _:=hr3.mono (by decide)
 refine⟨_,(zg (qy (xg cPs hr1 zC (zc (pv 0) (zc zj (zc ze zd)))) (vZ rfl (zV (zJ (i:=1) ja.nd rfl (Or.inl rfl)) (zV (zJ (i:=2) ja.nd rfl (Or.inl rfl)) (zV (zJ (i:=3) ja.nd rfl (Or.inl rfl)) qp)))))
  (zh (zu (qc (zc (xg cRr hr3 zC (zc (pv 1) zd)) (zc (xg cRr hr3 zC (zc (pv 2) zd)) (zc (xg cRn hr1 zC (zc (pv 3) (zc (vC (v:=.int 300) (by rfl) TF.mM ⟨_,rfl⟩) zd))) zd))))))),?_⟩
 have e32:Str.ofString " " = TX [32]:=by decide +kernel
 refine⟨_,rfl,x,_,some 3,rfl,by decide +kernel,hx,λh2 l H1 hl s1 h1=>?_,λh2 H1 s1=>⟨C,rfl,kE ?_ H1 s1⟩⟩
 ·rw[e32]at h1 h2
  obtain⟨a,b,c,eab⟩:∃a b c,Txt.split x (TX [32])=[a,b,c]:=by
   have:(Txt.split x (TX [32])).length=3:=of_decide_eq_true h2
   match Txt.split x (TX [32]),this with
   | [a,b,c],_=>exact⟨a,b,c,rfl⟩
  have la:a.length<=10000:=Nat.le_trans (xm (y:=TX [32]) (by rw[eab];simp)) hx
  have lb:b.length<=10000:=Nat.le_trans (xm (y:=TX [32]) (by rw[eab];simp)) hx
  have lc:c.length<=10000:=Nat.le_trans (xm (y:=TX [32]) (by rw[eab];simp)) hx
  have eB:qd x=(rdR a).bind λp=>(rdR b).bind λq=>(rdN c).map λn=>((p,q),n):=by unfold qd;rw[eab]
  rw[eab]at h1
  refine⟨l,_,rfl,.of h1,rfl,_,_,rfl,_,_,rfl,_,_,rfl,rfl,?_⟩
  dsimp only
  refine⟨_,rfl,a,rfl,la,λp ep v1 H2 s2 r1=>?_,λe H2 s2=>⟨C,rfl,kE (by rw[eB,e];rfl) H2 (s1.trans s2)⟩⟩
  refine⟨_,rfl,b,rfl,lb,λq eq v2 H3 s3 r2=>?_,λe H3 s3=>⟨C,rfl,kE (by rw[eB,ep,e];rfl) H3 ((s1.trans s2).trans s3)⟩⟩
  refine⟨_,rfl,c,rfl,lc,λn en H4 s4=>?_,λe H4 s4=>⟨C,rfl,kE (by rw[eB,ep,eq,e];rfl) H4 (((s1.trans s2).trans s3).trans s4)⟩⟩
  refine⟨by show 3<=sizeLine;decide,λt ht=>k ((p,q),n) (by rw[eB,ep,eq,en];rfl) _ _ ((((s1.trans s2).trans s3).trans s4).trans (zo.upd ht)) ⟨t,v1,v2,rfl,zi,r1.tups (((qE.of s3).trans (.of s4)).trans (.of (zo.upd ht))),r2.tups ((qE.of s4).trans (.of (zo.upd ht)))⟩⟩
 ·rw[e32]at h2
  exact vo (of_decide_eq_false h2)
theorem jb:zw ["thing","row"] ["thing"] (zf xM):=⟨rfl,rfl,rfl,by decide +kernel,rfl,by decide +kernel,by decide +kernel⟩
theorem QL (D:Df K mg "read_row" xM ["thing"] []) (T:TxB K mg) (cPsN:xj P w K mg base "parts_of" 1 ["thing","sign","many"] [] (XD K C)) (cBa:xj P w K mg base "read_ball" 4 ["text"] [] (Ve C)):xj P w K mg base "read_row" 5 ["thing"] [] (spN K C):=by
 refine D.cal1 (k:=4) jb (λvs H Q E h=>by obtain⟨_,rfl,_⟩:=h;rfl) (λf cdv A outer s H vs Q E hr4 h=>?_)
 obtain⟨v,rfl,hv,kE⟩:=h
 have hr1:xh 1 _:=hr4.mono (by decide)
 refine⟨_,(zg (zx (i:=1) jb.nd rfl (Or.inl rfl) (xP vf (by rfl) T.nTuple PyProof.Rows.boot_tuple (zc (Zx (NB:=["part"]) (te:=λJB=>Xa (Ve C) [] JB (qU (ve 0) Zg)) rfl rfl rfl rfl je (by decide +kernel) (by decide +kernel) rfl (by decide +kernel) (v0 (xg cPsN hr1 zC (zc (pv 0) (zc zj (zc xq zd))))) (by intro s3 H3 fp xe JB hB;refine⟨?_,?_,?_⟩;(exact(zJ (i:=0) (show List.Nodup (["part"]:List Str) by decide +kernel) rfl (Or.inl rfl)));(exact v3);(exact(xg cBa hr4 hB (zc (pv 0) zd))))) zd))) qj),?_⟩
 exact⟨_,rfl,v,_,_,rfl,hv,λH1 s1=>⟨C,rfl,kE H1 s1⟩⟩
def JD (C:Addr):Sp:=λvs H _ E=>∃x,vs=[.str x]/\x.length<=10000/\(∃p∈Txt.split x (TX [59,32]),qd p=none)/\∀H',zo H H'->E (.ref C) none H'
theorem QK (D:Df K mg "read_row" xM ["thing"] []) (T:TxB K mg) (cPs:xj P w K mg base "parts_of" 1 ["thing","sign","many"] [] (X5 C)) (cBa:xj P w K mg base "read_ball" 4 ["text"] [] (Ve C)):xj P w K mg base "read_row" 5 ["thing"] [] (JD C):=by
 refine D.cal1 (k:=4) jb (λvs H Q E h=>by obtain⟨_,rfl,_⟩:=h;rfl) (λf cdv A outer s H vs Q E hr4 h=>?_)
 obtain⟨x,rfl,hx,⟨pb,mb,hb⟩,kE⟩:=h
 have hr1:xh 1 _:=hr4.mono (by decide)
 refine⟨_,(zg (zx (i:=1) jb.nd rfl (Or.inl rfl) (xP vf (by rfl) T.nTuple PyProof.Rows.boot_tuple (zc (Zx (NB:=["part"]) (te:=λJB=>Xa (Ve C) [] JB (qU (ve 0) Zg)) rfl rfl rfl rfl je (by decide +kernel) (by decide +kernel) rfl (by decide +kernel) (v0 (xg cPs hr1 zC (zc (pv 0) (zc zj (zc xq zd))))) (by intro s3 H3 fp xe JB hB;refine⟨?_,?_,?_⟩;(exact(zJ (i:=0) (show List.Nodup (["part"]:List Str) by decide +kernel) rfl (Or.inl rfl)));(exact v3);(exact(xg cBa hr4 hB (zc (pv 0) zd))))) zd))) qj),?_⟩
 have eS:Str.ofString "; " = TX [59,32]:=by decide +kernel
 refine⟨_,rfl,x,_,none,rfl,by decide +kernel,hx,λ_ l H1 hl s1 h1=>?_,λe=>(by cases e)⟩
 rw[eS]at h1
 have hpl:∀p∈Txt.split x (TX [59,32]),p.length<=10000:=λp m=>Nat.le_trans (xm m) hx
 have hcn:=ZF x (TX [59,32])
 generalize Txt.split x (TX [59,32])=ps at h1 mb hpl hcn
 refine⟨l,rfl,⟨_,SqL.of h1⟩,λD' hD=>?_⟩
 refine jK (J:=Itl K l) (g:=zL 0) (n:=1) (xs:=ps.map V.str) (λi v G=>∃p b,ps[i]? = some p/\qd p=some b) (λi v G G' e h=>h) hD (X2 h1) (by rw[List.length_map,sizeLine_eq];omega) ?_ ?_
 ·intro i z zs G Q' hz hzs S hQ
  obtain⟨y1,rfl⟩:=QC hzs
  rw[List.getElem?_map]at hz
  obtain⟨p,ep,rfl⟩:=Option.map_eq_some_iff.mp hz
  refine⟨_,rfl,p,rfl,hpl p (List.mem_of_getElem? ep),λb e v H' s r=>hQ v H' s ⟨p,b,ep,e⟩,λe H' s=>⟨C,rfl,kE H' ((s1.trans S).trans s)⟩⟩
 ·intro ys G S hD' hyl hR
  exfalso
  rw[List.length_map]at hyl
  obtain⟨i,ei⟩:=List.getElem?_of_mem mb
  have hi:=(List.getElem?_eq_some_iff.mp ei).1
  obtain⟨p,b,e1,e2⟩:=hR i _ (List.getElem?_eq_getElem (by omega))
  rw[ei]at e1;cases e1
  rw[hb]at e2;cases e2
end
end KK
end
section
set_option maxHeartbeats 8000000
set_option Elab.async false
set_option linter.all false
set_option maxRecDepth 100000
namespace L2
open PySem
theorem toK {X:Cx}{K:PySem.W.Frag}{e:Expr}{f:PySem.W.Frag->TE}(hK:X.K=K) (h:PE X e (f X.K)):PE X e (f K):=by subst hK;exact h
end L2
namespace KK
open PySem L2 KM PySem.NumText
structure TxN (K:PySem.W.Frag):Prop where
 nn:PySem.W.kitOne K (.type "NoneType") (.type "str")=some false
 ni:PySem.W.kitOne K (.type "int") (.type "str")=some false
 nt:PySem.W.kitOne K (.type "tuple") (.type "str")=some false
 nl:PySem.W.kitOne K (.type "list") (.type "str")=some false
 nb:PySem.W.kitOne K (.type "bool") (.type "str")=some false
section
variable {P:Program}{w:World}{K:PySem.W.Frag}{mg:Str->Option Value}{base:Heap}{C:Addr}
def jc:Sp:=λvs H Q _=>∃(p:Addr) (n:Int),vs=[.ref p,.int n]/\0<n/\Bd 100 n/\qP H p/\∀(d:Int) H',0<=d->d<n->qo p H H'->Q (.int d) H'
theorem vV:zw ["pool","base","digit","mixed","stir"] ["pool","base"] (zf xK):=XB
theorem QI (D:Df K mg "_law_next" xK ["pool","base"] []):Cal P w K mg base "_law_next" 1 ["pool","base"] [] jc:=by
 refine D.cal (k:=0) XB (λvs H Q E h=>by obtain⟨a,b,rfl,_⟩:=h;rfl) (λf cdv A outer s H vs Q E hr h=>?_)
 obtain⟨p,n,rfl,n0,n1,⟨a,b,c,hp⟩,k⟩:=h
 refine⟨_,(zg (zO (zp jQ (zH xb (pv 0) ze (λ_ _=>rfl)) ze (zr _)) (zg (zx (i:=2) vV.nd rfl (Or.inl rfl) (zm qH (zH xb (pv 0) ze (λ_ _=>rfl)) (pv 1)))
  (zg (qy (zm vz (zH xb (pv 0) ze (λ_ _=>rfl)) (pv 1)) (QS (pv 0) ze ZC))
  (zh (zu (pv 2))))) zy)
  (zg (qy (zm qR (zH xb (pv 0) ze (λ_ _=>rfl)) ze) (QS (pv 0) ze ZC))
  (zg (zx (i:=3) vV.nd rfl (Or.inl rfl) (zm qH (zm qR (zH xb (pv 0) ze (λ_ _=>rfl)) (zm ZU ze (zH xb (pv 0) ze (λ_ _=>rfl)))) ze))
  (zg (zx (i:=4) vV.nd rfl (Or.inl rfl) (zm qH (zm ZU (zm qR (pv 3) ze) (zm qR (pv 3) ze)) ze))
  (zh (zu (zm qH (zm V5 (zm qH (zm ZU (pv 4) (pv 4)) ze) ze) (pv 1)))))))),?_⟩
 refine⟨_,rfl,p,_,_,_,rfl,rfl,.of hp,rfl,_,_,rfl,rfl,_,rfl,vd (λh=>?_) (λh=>?_)⟩
 ·refine⟨_,rfl,p,_,_,_,rfl,rfl,.of hp,rfl,_,rfl,_,_,rfl,rfl,n0,?_⟩
  refine⟨_,rfl,p,_,_,_,rfl,rfl,.of hp,rfl,_,rfl,_,_,rfl,rfl,⟨by omega,n1.mono (by decide)⟩,?_⟩
  refine⟨_,rfl,p,_,_,0,rfl,rfl,hp,rfl,?_⟩
  exact⟨_,rfl,k _ _ (Int.emod_nonneg _ (by omega)) (Int.emod_lt_of_pos _ n0) ZH⟩
 ·refine⟨_,rfl,p,_,_,_,rfl,rfl,.of hp,rfl,_,_,rfl,rfl,?_⟩
  refine⟨_,rfl,p,_,_,2,rfl,rfl,hp,rfl,?_⟩
  refine⟨_,rfl,p,_,_,_,rfl,rfl,.of zi,rfl,_,rfl,p,_,_,_,rfl,rfl,.of zi,rfl,_,_,rfl,rfl,.inl ⟨by decide,by decide⟩,_,_,rfl,rfl,_,_,rfl,rfl,(by show (0:Int)<1000000007;decide),?_⟩
  refine⟨_,rfl,_,_,rfl,rfl,_,rfl,_,_,rfl,rfl,_,_,rfl,rfl,.inl (by constructor <;> omega),_,_,rfl,rfl,(by show (0:Int)<998244353;decide),?_⟩
  refine⟨_,rfl,_,rfl,_,_,rfl,rfl,.inl (by constructor <;> omega),_,_,rfl,rfl,(by show (0:Int)<2147483647;decide),_,_,rfl,rfl,⟨by decide,by decide⟩,_,rfl,_,_,rfl,rfl,n0,?_⟩
  exact k _ _ (Int.emod_nonneg _ (by omega)) (Int.emod_lt_of_pos _ n0) ZH
theorem QJ (c:Cal P w K mg base "_law_next" 1 ["pool","base"] [] jc):Cal P w K mg base "_law_next" 1 ["pool","base"] [] Z7:=c.imp λvs H Q E ⟨p,n,e,n0,n1,hP,k⟩=>⟨p,n,e,n0,bdn (by omega) (by omega),hP,k⟩
def JA:Sp:=λvs H Q _=>∃p,vs=[.ref p]/\qP H p/\∀r q H',qo p H H'->Jn H' r q->Sz 80 q->Q (.ref r) H'
theorem Jd:zw ["pool"] ["pool"] (zf xR):=⟨rfl,rfl,rfl,by decide +kernel,rfl,by decide +kernel,by decide +kernel⟩
theorem VT (D:Df K mg "_law_ratio" xR ["pool"] []) (cNB:Cal P w K mg base "_law_next" 1 ["pool","base"] [] jc) (cL:Cal P w K mg base "_law_low" 2 ["top","bottom"] [] Vf):Cal P w K mg base "_law_ratio" 3 ["pool"] [] JA:=by
 refine D.cal (k:=2) Jd (λvs H Q E h=>by obtain⟨_,rfl,_⟩:=h;rfl) (λf cdv A outer s H vs Q E hr h=>?_)
 obtain⟨p,rfl,hP,k⟩:=h
 have hr1:xh 1 _:=hr.mono (by decide)
 have bs:∀{i:Int},0<=i->i<100->Bd 100 i:=λh0 h1=>Bd.mono (m:=7) (bdn h0 (by omega)) (by decide)
 have e20:(10:Int)^Int.toNat 20=100000000000000000000:=by decide
 have e6:(10:Int)^Int.toNat 6=1000000:=by decide
 refine⟨_,(zg (zO (zp xO (zK cNB hr1 (zc (pv 0) (zc ze zd))) ze (zr _)) (zh (zu (zK cL hr (zc (zm vm (zK cNB hr1 (zc (pv 0) (zc (zm qJ ze ze) zd))) (zK cNB hr1 (zc (pv 0) (zc (zm qJ ze ze) zd)))) (zc (zm qR ze (zK cNB hr1 (zc (pv 0) (zc (zm qJ ze ze) zd)))) zd))))) zy)
  (zh (zu (zK cL hr (zc (zm vm (zK cNB hr1 (zc (pv 0) (zc ze zd))) ze) (zc (zH xb (xE (zc ze (zc ze (zc ze (zc ze (zc ze (zc ze (zc ze (zc ze zd))))))))) (zK cNB hr1 (zc (pv 0) (zc ze zd))) (λ_ _=>rfl)) zd)))))),?_⟩
 refine⟨_,rfl,p,_,rfl,by decide,bs (by decide) (by decide),hP,λd1 G1 a1 b1 t1=>⟨rfl,_,rfl,vd (λ_=>?_) (λ_=>?_)⟩⟩
 ·refine⟨_,rfl,_,_,rfl,rfl,⟨by decide,by decide,by decide⟩,p,_,rfl,by decide,by rw[e20];exact Bd.mono (m:=70) (bdn (by decide) (by decide)) (by decide),t1.pool,λd2 G2 a2 b2 t2=>?_⟩
  refine⟨_,rfl,_,_,rfl,rfl,⟨by decide,by decide,by decide⟩,p,_,rfl,by decide,by rw[e20];exact Bd.mono (m:=70) (bdn (by decide) (by decide)) (by decide),t2.pool,λd3 G3 a3 b3 t3=>⟨_,_,rfl,rfl,?_⟩⟩
  refine⟨_,rfl,_,_,rfl,rfl,⟨by decide,by decide,by decide⟩,p,_,rfl,by decide,by rw[e6];exact Bd.mono (m:=30) (bdn (by decide) (by decide)) (by decide),t3.pool,λd4 G4 a4 b4 t4=>⟨_,_,rfl,rfl,?_⟩⟩
  rw[e20]at b2 b3
  rw[e6]at b4
  have bb:Bd 80 (1+d4):=Bd.mono (m:=30) (bdn (by omega) (by omega)) (by decide)
  have bt:Bd 80 (d2 - d3):=Bd.mono (m:=70) (bdz (by omega) (by omega)) (by decide)
  exact⟨_,_,rfl,by omega,bb.mono (by decide),λr H' e h=>k r _ H' ((((t1.trans t2).trans t3).trans t4).same e) h (.divInt (by omega) bt bb)⟩
 ·refine zD ?_
  refine⟨_,rfl,p,_,rfl,by decide,bs (by decide) (by decide),t1.pool,λd2 G2 a2 b2 t2=>⟨_,_,rfl,rfl,?_⟩⟩
  refine⟨by show 8<=sizeLine;decide,λl hl=>?_⟩
  refine⟨_,rfl,p,_,rfl,by decide,bs (by decide) (by decide),t2.pool.new hl,λd3 G3 a3 b3 t3=>?_⟩
  obtain⟨m,em,m1,m2⟩:=zab a3 b3
  refine⟨l,_,_,_,rfl,rfl,.of (t3.keep l _ zi (t2.pool.ne hl)),em,?_⟩
  have bm:Bd 80 m:=Bd.mono (m:=5) (bdn (by omega) (by omega)) (by decide)
  have bt:Bd 80 (d2 - 12):=Bd.mono (m:=6) (bdz (by omega) (by omega)) (by decide)
  exact⟨_,_,rfl,by omega,bm.mono (by decide),λr H' e h=>k r _ H' (((t1.trans t2).trans (t3.pre (zo.upd hl))).same e) h (.divInt (by omega) bt bm)⟩
def zS:Str:=⟨(List.replicate (300:Int).toNat (Str.ofString "0").cps).foldl (·++·) #[]⟩
theorem XG:zS=TX (List.replicate 300 48):=by decide +kernel
def Vy (n d:Int):List Str:=[Str.ofString "-0",Str.ofString "0"++TX (ntL (if n<0 then -n else n)),TX (ntL n)++Str.ofString "/1",TX (ntL n)++Str.ofString "/0",TX (ntL n)++Str.ofString "/-2",Str.ofString "+"++TX (ntL n),Str.ofString " "++TX (ntL n),Str.ofString ""]
def Vz (n d:Int):List Str:=[Str.ofString "-",Str.ofString "/",TX (ntL n)++Str.ofString "/",Str.ofString "/"++TX (ntL d),TX (ntL (2*n))++Str.ofString "/"++TX (ntL (2*d)),TX (ntL n)++Str.ofString "/"++TX (ntL d)++Str.ofString "/3",Str.ofString "--1",Str.ofString "1.5",Str.ofString "a",Str.ofString "0/2"]
def JQ (n d:Int):List Str:=[TX (ntL n)++Str.ofString "/0"++TX (ntL d),Str.ofString "1"++zS,Str.ofString "-1"++zS,Str.ofString "1/1"++zS,Str.ofString "1_0",TX (ntL n)++Str.ofString ";"]
def am9 (n d:Int):List Str:=Vy n d++Vz n d++JQ n d
theorem JP {n d:Int}(hn:n.natAbs<10^200) (hd:d.natAbs<10^200) (h1:1<=d):∀t∈am9 n d,Wr n t:=by
 have z2:(10:Nat)^200<=10^300:=by decide
 have hn3:n.natAbs<10^300:=by omega
 have hd3:d.natAbs<10^300:=by omega
 have sl:Str.ofString "/" = TX [47]:=by decide +kernel
 have kc:∀t∈kaC,Wr n t:=λt m=>.inl (J2 t m)
 intro t m
 rcases List.mem_append.mp m with m | m
 ·rcases List.mem_append.mp m with m | m
  ·simp only[Vy,List.mem_cons,List.not_mem_nil,or_false]at m
   rcases m with rfl | rfl | rfl | rfl | rfl | rfl | rfl | rfl
   ·exact kc _ (by simp[kaC])
   ·rw[show Str.ofString "0" = TX [48] by decide +kernel,zE,vQ];exact .inl (VI hn3)
   ·rw[show Str.ofString "/1" = TX [47,49] by decide +kernel,zE];exact .inl (ji hn3 (b:=[49]) (xp (by decide) Zu) (by decide) (by decide) (.inr (.inl (by decide +kernel))))
   ·rw[show Str.ofString "/0" = TX [47,48] by decide +kernel,zE];exact .inl (ji hn3 (b:=[48]) (xp (by decide) Zu) (by decide) (by decide) (.inr (.inr (by decide +kernel))))
   ·rw[show Str.ofString "/-2" = TX [47,45,50] by decide +kernel,zE];exact .inl (ji hn3 (b:=[45,50]) (xp (by decide) (xp (by decide) Zu)) (by decide) (by decide) (.inl (v6 (c:=45) (by decide) (by decide))))
   ·rw[show Str.ofString "+" = TX [43] by decide +kernel,zE];exact .inl (VH hn3)
   ·rw[show Str.ofString " " = TX [32] by decide +kernel,zE];exact .inr (.inl rfl)
   ·exact kc _ (by simp[kaC])
  ·simp only[Vz,List.mem_cons,List.not_mem_nil,or_false]at m
   rcases m with rfl | rfl | rfl | rfl | rfl | rfl | rfl | rfl | rfl | rfl
   ·exact kc _ (by simp[kaC])
   ·exact kc _ (by simp[kaC])
   ·rw[sl,zE];exact .inl (ji hn3 (b:=[]) Zu (by decide) (by decide) (.inl Xv))
   ·rw[sl,zE];exact .inl (VG hd3)
   ·rw[sl,zE,zE,List.append_assoc];exact .inl (Qy hn hd h1)
   ·rw[sl,show Str.ofString "/3" = TX [47,51] by decide +kernel,zE,zE,zE,List.append_assoc,List.append_assoc];exact .inl (Qx hn3 hd3)
   ·exact kc _ (by simp[kaC])
   ·exact kc _ (by simp[kaC])
   ·exact kc _ (by simp[kaC])
   ·exact kc _ (by simp[kaC])
 ·simp only[JQ,List.mem_cons,List.not_mem_nil,or_false]at m
  rcases m with rfl | rfl | rfl | rfl | rfl | rfl
  ·rw[show Str.ofString "/0" = TX [47,48] by decide +kernel,zE,zE,List.append_assoc]
   exact .inl (ji hn3 (b:=48::ntL d) (xp (by decide) (j6 _)) (λm=>by rcases List.mem_cons.mp m with z | z;cases z;exact jC _ z) (by have:=vj hd3;simp;omega) (.inl (Zy (Js d))))
  ·rw[XG,show Str.ofString "1" = TX [49] by decide +kernel,zE];exact .inl Qu
  ·rw[XG,show Str.ofString "-1" = TX [45,49] by decide +kernel,zE];exact .inl Qv
  ·rw[XG,show Str.ofString "1/1" = TX [49,47,49] by decide +kernel,zE];exact .inl Qw
  ·exact kc _ (by simp[kaC])
  ·rw[show Str.ofString ";" = TX [59] by decide +kernel,zE];exact .inr (.inr rfl)
def Jw:Sp:=λvs H Q _=>∃v p r,vs=[v,.ref p]/\RI H v r/\r.1.natAbs<10^200/\r.2.natAbs<10^200/\1<=r.2/\qP H p/\∀t H',qo p H H'->Wr r.1 t->Q (.str t) H'
theorem qM:zw ["one","pool","top","bottom","twice","some"] ["one","pool"] (zf xQ):=⟨rfl,rfl,rfl,by decide +kernel,rfl,by decide +kernel,by decide +kernel⟩
theorem VP (D:Df K mg "_law_amiss" xQ ["one","pool"] []) (T:TxB K mg) (cNB:Cal P w K mg base "_law_next" 1 ["pool","base"] [] jc) (cFi:Cal P w K mg base "_law_figures" 1 ["number"] [] zaA):Cal P w K mg base "_law_amiss" 2 ["one","pool"] [] Jw:=by
 refine D.calB (k:=1) qM (λvs H Q E h=>by obtain⟨_,_,_,rfl,_⟩:=h;rfl) (λf cdv A outer s H vs Q E hr1 h=>?_)
 obtain⟨v,p,⟨n,d⟩,rfl,⟨a,rfl,ha⟩,hn,hd,h1,hP,k⟩:=h
 have ha:H a=some (.tup [.int n,.int d]):=ha
 have hn:n.natAbs<10^200:=hn
 have hd:d.natAbs<10^200:=hd
 have z2:(10:Nat)^200*2<=10^300:=by decide
 have hn3:n.natAbs<10^300:=by omega
 have hd3:d.natAbs<10^300:=by omega
 have hn2:(2*n).natAbs<10^300:=by omega
 have hd2:(2*d).natAbs<10^300:=by omega
 have habs:(if n<0 then -n else n).natAbs<10^300:=by split <;> omega
 have bd:∀{i:Int},i.natAbs<10^200->Bd 1000000 i:=λh=>Bd.mono (m:=700) (Nat.lt_of_lt_of_le h (by decide)) (by decide)
 have b2:Bd 1000000 (2:Int):=Bd.mono (m:=2) (show (2:Int).natAbs<2^2 by decide) (by decide)
 have l1:=vj hn3
 have l2:=vj hd3
 have l3:=vj hn2
 have l4:=vj hd2
 have l5:=vj habs
 have zT:∀m:Nat,m<=10->(TX (ntL n)).length+m<=sizeLine:=λm hm=>by rw[zv,sizeLine_eq];omega
 have zT':∀m:Nat,m<=10->m+(TX (ntL n)).length<=sizeLine:=λm hm=>by rw[zv,sizeLine_eq];omega
 have sl:(Str.ofString "/").length=1:=by decide +kernel
 refine⟨_,(qB (Bx.mk (zx (i:=2) qM.nd rfl (Or.inl rfl) (zK cFi hr1 (zc (zH xk (pv 0) ze (λ_ _=>rfl)) zd))))
  (qB (Bx.mk (zx (i:=3) qM.nd rfl (Or.inl rfl) (zK cFi hr1 (zc (zH xk (pv 0) ze (λ_ _=>rfl)) zd))))
  (qB (Bx.mk (zx (i:=4) qM.nd rfl (Or.inl rfl) (zm zk (zm zk (zK cFi hr1 (zc (zm qI ze (zH xk (pv 0) ze (λ_ _=>rfl))) zd)) zj) (zK cFi hr1 (zc (zm qI ze (zH xk (pv 0) ze (λ_ _=>rfl))) zd)))))
  (qB (ZM (i:=5) qM.nd rfl (Or.inl rfl) (ZK (zI (Bx.mk zj) (zI (Bx.mk (zm zk zj (zK cFi hr1 (zc (zB vt (by rfl) T.nAbs PyProof.Rows.boot_abs (zc (zH xk (pv 0) ze (λ_ _=>rfl)) zd)) zd)))) (zI (Bx.mk (zm zk (pv 2) zj)) (zI (Bx.mk (zm zk (pv 2) zj)) (zI (Bx.mk (zm zk (pv 2) zj)) (zI (Bx.mk (zm zk zj (pv 2))) (zI (Bx.mk (zm zk zj (pv 2))) (zI (Bx.mk zj) ZL))))))))))
  (qB (ZM (i:=5) qM.nd rfl (Or.inl rfl) (Jo j7 (Bx.mk (pv 5)) (ZK (zI (Bx.mk zj) (zI (Bx.mk zj) (zI (Bx.mk (zm zk (pv 2) zj)) (zI (Bx.mk (zm zk zj (pv 3))) (zI (Bx.mk (pv 4)) (zI (Bx.mk (zm zk (zm zk (zm zk (pv 2) zj) (pv 3)) zj)) (zI (Bx.mk zj) (zI (Bx.mk zj) (zI (Bx.mk zj) (zI (Bx.mk zj) ZL)))))))))))))
  (qB (ZM (i:=5) qM.nd rfl (Or.inl rfl) (Jo j7 (Bx.mk (pv 5)) (ZK (zI (Bx.mk (zm zk (zm zk (pv 2) zj) (pv 3))) (zI (Bx.mk (zm zk zj (zm vk zj ze))) (zI (Bx.mk (zm zk zj (zm vk zj ze))) (zI (Bx.mk (zm zk zj (zm vk zj ze))) (zI (Bx.mk zj) (zI (Bx.mk (zm zk (pv 2) zj)) ZL)))))))))
  (Bx.mk (zh (zu (zH xb (pv 5) (zK cNB hr1 (zc (pv 1) (zc (zB zW (by rfl) T.nLen PySem.boot_len (zc (pv 5) zd)) zd))) (λ_ _=>rfl))))))))))),?_⟩
 refine⟨_,rfl,a,_,_,_,rfl,rfl,.of ha,at0 ..,_,rfl,hn3,λH1 s1=>?_⟩
 have ha1:=s1 _ _ ha
 dsimp only[zL]
 refine⟨_,rfl,a,_,_,_,rfl,rfl,.of ha1,at1 ..,_,rfl,hd3,λH2 s2=>?_⟩
 have ha2:=s2 _ _ ha1
 dsimp only[zL]
 refine⟨_,rfl,a,_,_,_,rfl,rfl,.of ha2,at0 ..,_,_,rfl,rfl,⟨b2,bd hn⟩,_,rfl,hn2,λH3 s3=>⟨_,_,rfl,rfl,by rw[zv,sl,sizeLine_eq];omega,?_⟩⟩
 have ha3:=s3 _ _ ha2
 refine⟨_,rfl,a,_,_,_,rfl,rfl,.of ha3,at1 ..,_,_,rfl,rfl,⟨b2,bd hd⟩,_,rfl,hd2,λH4 s4=>⟨_,_,rfl,rfl,by rw[zA,zv,zv,sl,sizeLine_eq];omega,?_⟩⟩
 have ha4:=s4 _ _ ha3
 dsimp only[zL]
 refine vp ?_
 refine⟨_,rfl,a,_,_,_,rfl,rfl,.of ha4,at0 ..,n,rfl,_,rfl,habs,λH5 s5=>⟨_,_,rfl,rfl,by rw[zv,sizeLine_eq,show (Str.ofString "0").length=1 by decide +kernel];omega,?_⟩⟩
 refine⟨_,rfl,_,_,rfl,rfl,zT _ (by decide),_,rfl,_,_,rfl,rfl,zT _ (by decide),_,rfl,_,_,rfl,rfl,zT _ (by decide),_,rfl,_,_,rfl,rfl,zT' _ (by decide),_,rfl,_,_,rfl,rfl,zT' _ (by decide),by show 8<=sizeLine;decide,λq1 hq1=>?_⟩
 dsimp only
 refine vp ?_
 have zz:zS.length=300:=by rw[XG,zv];simp
 refine⟨_,rfl,_,rfl,_,_,rfl,rfl,zT _ (by decide),_,rfl,_,_,rfl,rfl,by rw[zv,sl,sizeLine_eq];omega,_,rfl,_,rfl,_,_,rfl,rfl,zT _ (by decide),_,rfl,_,_,rfl,rfl,by rw[zA,zv,zv,sl,sizeLine_eq];omega,_,_,rfl,rfl,by rw[zA,zA,zv,zv,sl,sizeLine_eq,show (Str.ofString "/3").length=2 by decide +kernel];omega,by show 10<=sizeLine;decide,λq2 hq2=>?_⟩
 refine⟨q1,q2,(Vy n d).map V.str,(Vz n d).map V.str,rfl,rfl,.of (zo.upd hq2 _ _ zi),.of zi,by show 8+10<=sizeLine;decide,λq3 hq3=>?_⟩
 dsimp only
 refine vp ?_
 refine⟨_,rfl,_,rfl,_,_,rfl,rfl,zT _ (by decide),_,rfl,_,_,rfl,rfl,by rw[zA,zv,zv,sizeLine_eq,show (Str.ofString "/0").length=2 by decide +kernel];omega,?_⟩
 refine⟨_,_,rfl,rfl,by decide,by decide,by decide +kernel,by decide +kernel,_,_,rfl,rfl,by show (Str.ofString "1").length+zS.length<=sizeLine;rw[zz,sizeLine_eq];decide +kernel,?_⟩
 refine⟨_,_,rfl,rfl,by decide,by decide,by decide +kernel,by decide +kernel,_,_,rfl,rfl,by show (Str.ofString "-1").length+zS.length<=sizeLine;rw[zz,sizeLine_eq];decide +kernel,?_⟩
 refine⟨_,_,rfl,rfl,by decide,by decide,by decide +kernel,by decide +kernel,_,_,rfl,rfl,by show (Str.ofString "1/1").length+zS.length<=sizeLine;rw[zz,sizeLine_eq];decide +kernel,?_⟩
 refine⟨_,rfl,_,_,rfl,rfl,zT _ (by decide),by show 6<=sizeLine;decide,λq4 hq4=>?_⟩
 refine⟨q3,q4,(Vy n d++Vz n d).map V.str,(JQ n d).map V.str,rfl,rfl,.of (zo.upd hq4 _ _ zi),.of zi,by show 18+6<=sizeLine;decide,λq5 hq5=>?_⟩
 have hP5:qP H5 p:=by obtain⟨x,y,z,e⟩:=hP;exact⟨x,y,z,s5 _ _ (s4 _ _ (s3 _ _ (s2 _ _ (s1 _ _ e))))⟩
 have n5:q5≠p:=qP.ne ((((hP5.new hq1).new hq2).new hq3).new hq4) hq5
 refine⟨_,rfl,_,rfl,_,rfl,q5,(am9 n d).map V.str,rfl,.inl (.of zi),p,24,rfl,by decide,Bd.mono (m:=5) (show (24:Int).natAbs<2^5 by decide) (by decide),((((hP5.new hq1).new hq2).new hq3).new hq4).new hq5,λdd G a0 b0 t5=>?_⟩
 obtain⟨r,er,mr⟩:=jd (xs:=(am9 n d).map V.str) a0 b0
 obtain⟨t,mt,rfl⟩:=List.mem_map.mp mr
 refine⟨q5,(am9 n d).map V.str,_,_,rfl,rfl,.of (t5.keep q5 _ zi n5),er,k t G ?_ (JP hn hd h1 t mt)⟩
 exact t5.pre (((((((((s1.trans s2).trans s3).trans s4).trans s5).trans (zo.upd hq1)).trans (zo.upd hq2)).trans (zo.upd hq3)).trans (zo.upd hq4)).trans (zo.upd hq5))
end
end KK
end
section
set_option maxHeartbeats 8000000
set_option Elab.async false
set_option linter.all false
set_option maxRecDepth 100000
namespace L2
open PySem PySem.Spec PyProof.Rows
theorem XL {J:It}{D:Addr}{N n:Nat}{js:List Nat}{σ:St}{g:TG}{tt:TT}{te:TE}{Z:Hp->Prop}{H:Hp}(Pv:Nat->Hp->List V->Prop) (h0:Pv 0 (upd H D (.lst [])) []) (hgo:∀i H ys,i<N->Pv i H ys->J.go i H) (hst:∀H ys,Pv N H ys->J.stop N H)
  (hs:∀i x zs H2 H3 ys (Nx:Hp->List V->Prop),(∀H ys,Pv (i+1) H ys->Nx H ys)->i<N->zs.length=n->J.yld i H2 x H3->Pv i H2 ys->H2 D=some (.lst ys)->g x (zs++vc σ js) H3 λσ4 H4=>σ4.drop n=vc σ js/\tt σ4 H4 λb H5 =>
   if b=true then te σ4 H5 (λv H6=>H6 D=some (.lst ys)/\ys.length<sizeLine/\Nx (upd H6 D (.lst (ys++[v]))) (ys++[v]))else H5 D=some (.lst ys)/\Nx H5 ys)
  (hd:∀H ys,Pv N H ys->H D=some (.lst ys)->Z H) :
  ∃W:Nat->Nat->Hp->List V->Prop,(∃m,W 0 m (upd H D (.lst [])) [])/\∀i m H2 ys,W i m H2 ys->H2 D=some (.lst ys)->(J.stop i H2/\Z H2) ∨
   (J.go i H2/\∀zs x H3,zs.length=n->J.yld i H2 x H3->g x (zs++vc σ js) H3 λσ4 H4=>σ4.drop n=vc σ js/\tt σ4 H4 λb H5=>if b=true then te σ4 H5 (λv H6=>H6 D=some (.lst ys)/\ys.length<sizeLine/\∃m',m'<m/\W (i+1) m' (upd H6 D (.lst (ys++[v]))) (ys++[v]))
    else H5 D=some (.lst ys)/\∃m',m'<m/\W (i+1) m' H5 ys):=Qj (Q:=λ_ H=>Z H) Pv h0 hgo hst hs hd
end L2
namespace KK
open PySem L2 KM PySem.NumText
section
variable {P:Program}{w:World}{K:PySem.W.Frag}{mg:Str->Option Value}{base:Heap}{C:Addr}
def Ref9 (K:PySem.W.Frag) (H:Hp) (way:Int) (v:V):Prop:=NoS K H v\/∃x,v = .str x/\x.length<=10000/\(way=0->rdR x=none)/\(way=1->∃p∈Txt.split x (TX [59,32]),qd p=none)/\(way≠0->way≠1->jq x=none)
def JC (K:PySem.W.Frag):Sp:=λvs H Q _=>∃way v,vs=[.int way,v]/\Ref9 K H way v/\∀H',zo H H'->Q (.bl true) H'
theorem Zd:zw ["way","thing","signs"] ["way","thing"] (zf xv):=⟨rfl,rfl,rfl,by decide +kernel,rfl,by decide +kernel,by decide +kernel⟩
theorem NoS.same {H H':Hp}{v:V}(h:NoS K H v) (s:zo H H'):NoS K H' v:=by
 obtain⟨t,ty,kt⟩:=h
 refine⟨t,?_,kt⟩
 cases ty with
 | non=>exact .non
 | bl x=>exact .bl x
 | int i=>exact .int i
 | str x=>exact .str x
 | flt x=>exact .flt x
 | lst e=>exact .lst (s _ _ e)
 | frz e=>exact .frz (s _ _ e)
 | tup e=>exact .tup (s _ _ e)
 | dK e=>exact .dK (s _ _ e)
 | dT e=>exact .dT (s _ _ e)
 | ins e c1 c2 c3 c4 c5=>exact .ins (s _ _ e) c1 c2 c3 c4 c5
theorem VU (D:Df K mg "_law_refused" xv ["way","thing"] []) (O:jW "NoText" C mg base) (cRr:xj P w K mg base "read_ratio" 3 ["thing"] [] (X6 C)) (cRw:xj P w K mg base "read_row" 5 ["thing"] [] (JD C)) (cWs:xj P w K mg base "walls_read" 6 ["thing"] [] (JF C))
  (cRrN:xj P w K mg base "read_ratio" 3 ["thing"] [] (spN K C)) (cRwN:xj P w K mg base "read_row" 5 ["thing"] [] (spN K C)) (cWsN:xj P w K mg base "walls_read" 6 ["thing"] [] (spN K C)):Cal P w K mg base "_law_refused" 7 ["way","thing"] [] (JC K):=by
 refine D.cal (k:=6) Zd (λvs H Q E h=>by obtain⟨_,_,rfl,_⟩:=h;rfl) (λf cdv A outer s H vs Q E hr h=>?_)
 obtain⟨way,v,rfl,hv,k⟩:=h
 have hr3:xh 3 _:=hr.mono (by decide)
 have hr5:xh 5 _:=hr.mono (by decide)
 have hu:=hr.units
 have fin:∀(l:Addr) (H1:Hp) (D:vg),D.rt=Q->H l=none->zo (upd H l (.lst [])) H1->(C=C/\jD (JH (tBM K "list" v4 (ve 2) (qU (tC (.bl true)) Zg))) (Vm (tOp za0 (ve 2) (Jk (qU (tC (.bl true)) Zg)))) D [some (.int way),some v,some (.ref l)] H1):=by
  intro l H1 D hD hl s1
  refine⟨rfl,?_⟩
  have h1:=s1 l _ zi
  refine⟨_,rfl,.inl ⟨rfl,_,SqL.of h1⟩,l,_,_,rfl,rfl,h1,by show 0<sizeLine;decide,?_⟩
  refine⟨_,rfl,by show 1<=sizeLine;decide,λl2 hl2=>?_⟩
  refine⟨.list [.bool true],.list [.bool true],.lst (zo.upd hl2 _ _ zi) (.cons (.bl true) .nil),.lst zi (.cons (.bl true) .nil),rfl,rfl,?_⟩
  rw[hD]
  refine k _ λb o e=>?_
  refine zo.upd hl2 _ _ ?_
  rw[zX (z9 e hl)]
  exact s1 _ _ (zo.upd hl _ _ e)
 rcases hv with hv | ⟨x,rfl,hx,k0,k1,k2⟩
 ·refine⟨_,(zg (zx (i:=2) Zd.nd rfl (Or.inl rfl) (xE zd))
  (zg (Za (C:=C) rfl rfl O (by decide +kernel) (λpins W J hJ=>(zh (zO (zp xO (pv 0) ze (zr _)) (zh (qe (xg cRrN hr3 hJ (zc (pv 1) zd)))) (zh (zO (zp xO (pv 0) ze (zr _)) (zh (qe (xg cRwN hr5 hJ (zc (pv 1) zd)))) (zh (qe (xg cWsN hr hJ (zc (pv 1) zd))))))))) (λpins a oe d vs hc hdd hdt=>(zh (qe (toK (K:=K) (f:=λK=>tBM K "list" v4 (ve 2) _) rfl (qS PySem.F.plainAttrs_list PySem.F.slot_list_append PySem.F.type_list_append qi (pv 2) (zc qm zd)))))))
  (zh (zu (xV (QO hu) (pv 2) (xE (zc qm zd)) (zr _)))))),?_⟩
  refine⟨by show 0<=sizeLine;exact Nat.zero_le _,λl hl=>?_⟩
  dsimp only[zL]
  have hv':=hv.same (zo.upd (o:=.lst []) hl)
  refine⟨_,rfl,rfl,_,rfl,vd (λ_=>?_) (λ_=>?_)⟩
  ·exact⟨_,rfl,v,rfl,hv',λH1 s1=>⟨C,rfl,fin l H1 _ rfl hl s1⟩⟩
  ·refine⟨_,rfl,rfl,_,rfl,vd (λ_=>?_) (λ_=>?_)⟩
   ·exact⟨_,rfl,v,rfl,hv',λH1 s1=>⟨C,rfl,fin l H1 _ rfl hl s1⟩⟩
   ·exact⟨_,rfl,v,rfl,hv',λH1 s1=>⟨C,rfl,fin l H1 _ rfl hl s1⟩⟩
 ·refine⟨_,(zg (zx (i:=2) Zd.nd rfl (Or.inl rfl) (xE zd))
  (zg (Za (C:=C) rfl rfl O (by decide +kernel) (λpins W J hJ=>(zh (zO (zp xO (pv 0) ze (zr _)) (zh (qe (xg cRr hr3 hJ (zc (pv 1) zd)))) (zh (zO (zp xO (pv 0) ze (zr _)) (zh (qe (xg cRw hr5 hJ (zc (pv 1) zd)))) (zh (qe (xg cWs hr hJ (zc (pv 1) zd))))))))) (λpins a oe d vs hc hdd hdt=>(zh (qe (toK (K:=K) (f:=λK=>tBM K "list" v4 (ve 2) _) rfl (qS PySem.F.plainAttrs_list PySem.F.slot_list_append PySem.F.type_list_append qi (pv 2) (zc qm zd)))))))
  (zh (zu (xV (QO hu) (pv 2) (xE (zc qm zd)) (zr _)))))),?_⟩
  refine⟨by show 0<=sizeLine;exact Nat.zero_le _,λl hl=>?_⟩
  dsimp only[zL]
  refine⟨_,rfl,rfl,_,rfl,?_⟩
  rw[xi]
  by_cases c0:way=0
  ·rw[decide_eq_true c0]
   exact zY ⟨_,rfl,x,rfl,hx,λr e=>(by rw[k0 c0]at e;cases e),λ_ H1 s1=>⟨C,rfl,fin l H1 _ rfl hl s1⟩⟩
  ·rw[decide_eq_false c0]
   refine zU ⟨_,rfl,rfl,_,rfl,?_⟩
   rw[xi]
   by_cases c1:way=1
   ·rw[decide_eq_true c1]
    exact zY ⟨_,rfl,x,rfl,hx,k1 c1,λH1 s1=>⟨C,rfl,fin l H1 _ rfl hl s1⟩⟩
   ·rw[decide_eq_false c1]
    exact zU ⟨_,rfl,x,rfl,hx,λu v e=>(by rw[k2 c0 c1]at e;cases e),λ_ H1 s1=>⟨C,rfl,fin l H1 _ rfl hl s1⟩⟩
def JE:Sp:=λvs H Q _=>∃x,vs=[.str x]/\x.length<=10000/\∀v H',zo H H'->ORI H' v (rdR x)->Q v H'
theorem v8:zw ["text","found"] ["text"] (zf x8):=⟨rfl,rfl,rfl,by decide +kernel,rfl,by decide +kernel,by decide +kernel⟩
theorem VV (D:Df K mg "_law_told" x8 ["text"] []) (O:jW "NoText" C mg base) (cRr:xj P w K mg base "read_ratio" 3 ["thing"] [] (X6 C)):Cal P w K mg base "_law_told" 4 ["text"] [] JE:=by
 refine D.cal (k:=3) v8 (λvs H Q E h=>by obtain⟨_,rfl,_⟩:=h;rfl) (λf cdv A outer s H vs Q E hr h=>?_)
 obtain⟨x,rfl,hx,k⟩:=h
 refine⟨_,(zg (zx (i:=1) v8.nd rfl (Or.inl rfl) xq)
  (zg (Za (C:=C) rfl rfl O (by decide +kernel) (λpins W J hJ=>(zh (zx (i:=1) v8.nd rfl (Or.inl rfl) (xg cRr hr hJ (zc (pv 0) zd))))) (λpins a oe d vs hc hdd hdt=>(zh (zx (i:=1) v8.nd rfl (Or.inl rfl) xq))))
  (zh (zu (pv 1))))),?_⟩
 refine vp ?_
 dsimp only[tC]
 exact⟨_,rfl,x,rfl,hx,λr e v H1 s1 hv=>⟨_,rfl,k _ H1 s1 (by rw[e];exact hv)⟩,λe H1 s1=>⟨C,rfl,rfl,⟨_,rfl,k _ H1 s1 (by rw[e];rfl)⟩⟩⟩
def zbc:Sp:=λvs H Q _=>∃x r,vs=[.str x]/\x.length<=10000/\rdR x=some r/\∀v H',zo H H'->RI H' v r->Q v H'
theorem zan (c:xj P w K mg base "read_ratio" 3 ["thing"] [] (X6 C)):Cal P w K mg base "read_ratio" 3 ["thing"] [] zbc:=by
 refine c.quiet λvs H Q E h=>?_
 obtain⟨x,r,rfl,hx,e,k⟩:=h
 refine⟨x,rfl,hx,λr' e' v H' s hw=>?_,λe'=>by rw[e]at e';cases e'⟩
 rw[e]at e';cases e'
 exact k v H' s hw
end
end KK
end
section
set_option maxHeartbeats 8000000
set_option Elab.async false
set_option linter.all false
set_option maxRecDepth 100000
namespace KK
open PySem L2 KM PySem.NumText
theorem QY (q:Rat):xx q.num (q.den:Int)=true:=by
 unfold xx
 have h1:(1:Int)<=(q.den:Int):=by have:=q.den_pos;omega
 have h2:Int.gcd (q.num.natAbs:Int) (q.den:Int)=1:=by
  have:=q.reduced
  unfold Nat.Coprime at this
  simpa [Int.gcd]using this
 rw[decide_eq_true h1,decide_eq_true h2];rfl
theorem ZN (r:Int×Int):PyData.eqv (rD r) (rD r)=true:=by simp[rD,PyData.eqv,PyData.eqvAll]
theorem Xu (r:Int×Int):SeqAt.shaped (rD r)=true:=rfl
theorem Rx.r3 {r:Int×Int}(h:Rx r):R3 r:=⟨h.zt,h.zb⟩
def gr9:Int:=10^299
theorem J1:((10:Int)^Int.toNat 60)^Int.toNat 4*(10:Int)^Int.toNat 59=gr9:=by decide +kernel
theorem Qs:gr9.natAbs<10^300:=by decide +kernel
theorem J0:(1 - gr9).natAbs<10^300:=by decide +kernel
theorem JZ:(0 - gr9).natAbs<10^300:=by decide +kernel
theorem ZT:(1:Int).natAbs<10^300:=by decide +kernel
theorem rx1:Rx (gr9,1):=⟨by decide +kernel,Qs,ZT⟩
theorem rx2:Rx (0 - gr9,1):=⟨by decide +kernel,JZ,ZT⟩
theorem rx3:Rx (1,gr9):=⟨by decide +kernel,ZT,Qs⟩
theorem rx4:Rx (1 - gr9,gr9):=⟨by decide +kernel,J0,Qs⟩
theorem za4 {r:Int×Int}(h:R3 r):(rtL r).length<=603:=by
 have h1:=qV h.1
 have h2:=qV h.2
 unfold rtL;split
 ·omega
 ·simp;omega
theorem Vj {r:Int×Int}{t:Str}:TX (rtL r)++Str.ofString " "++t++Str.ofString " 3" = TX (rtL r++32::(t.cps.toList++[32,51])):=by
 conv=>lhs;rw[<-qu t,show Str.ofString " " = TX [32] by decide +kernel,show Str.ofString " 3" = TX [32,51] by decide +kernel,zE,zE,zE]
 all_goals first | rfl | (congr 1;simp)
theorem Qb {r:Int×Int}{t:Str}:Str.ofString "- | "++TX (rtL r)++Str.ofString " "++t=TX ([45]++[32,124,32]++(rtL r++[32]++t.cps.toList)):=by
 conv=>lhs;rw[<-qu t,show Str.ofString " " = TX [32] by decide +kernel,show Str.ofString "- | " = TX [45,32,124,32] by decide +kernel,zE,zE,zE]
 all_goals first | rfl | (congr 1;simp)
def XC (K:PySem.W.Frag):Sp:=λvs H Q _=>∃(a:Addr) (ns:List Int),vs=[.ref a]/\SqL K H a (ns.map V.int)/\ns.length<=63/\∀H',Q (.bl true) H'
section
variable {P:Program}{w:World}{K:PySem.W.Frag}{mg:Str->Option Value}{base:Heap}{C:Addr}
theorem qz:zw ["script","great","one","cell","pool","text","wrong","thing","bent"] ["script"] (zf s_law):=⟨rfl,rfl,rfl,by decide +kernel,rfl,by decide +kernel,by decide +kernel⟩
theorem at6v {α:Type}(a b c d e f:α){i:Int}(h0:0<=i) (h1:i<6):∃v,atI [a,b,c,d,e,f] i=some v/\(v=a\/v=b\/v=c\/v=d\/v=e\/v=f):=by
 have:i=0\/i=1\/i=2\/i=3\/i=4\/i=5:=by omega
 rcases this with rfl | rfl | rfl | rfl | rfl | rfl
 ·exact⟨_,rfl,.inl rfl⟩
 ·exact⟨_,rfl,.inr (.inl rfl)⟩
 ·exact⟨_,rfl,.inr (.inr (.inl rfl))⟩
 ·exact⟨_,rfl,.inr (.inr (.inr (.inl rfl)))⟩
 ·exact⟨_,rfl,.inr (.inr (.inr (.inr (.inl rfl))))⟩
 ·exact⟨_,rfl,.inr (.inr (.inr (.inr (.inr rfl))))⟩
theorem zai {fl:Addr}{fdl:FuncData}(D:Fun K "law" "law" s_law fl fdl) (T:TxB K mg) (TS:TxS K mg) (TN:TxN K) (cD:Cal P w K mg base "_law_pool" 1 ["cell"] [] Jy) (cN:Cal P w K mg base "_law_next" 1 ["pool","base"] [] Z7) (cRa:Cal P w K mg base "_law_ratio" 3 ["pool"] [] JA) (cLt:Cal P w K mg base "_law_ratio_text" 2 ["one"] [] Jg)
  (cRt:Cal P w K mg base "ratio_text" 3 ["one"] [] Jg) (cRq:Cal P w K mg base "read_ratio" 3 ["thing"] [] zbc) (cRf:Cal P w K mg base "_law_refused" 7 ["way","thing"] [] (JC K)) (cAm:Cal P w K mg base "_law_amiss" 2 ["one","pool"] [] Jw) (cBe:Cal P w K mg base "_law_bent" 2 ["text","pool"] [] za7)
  (cTo:Cal P w K mg base "_law_told" 4 ["text"] [] JE) (cRd:Cal P w K mg base "_law_read" 2 ["text"] [] zba):vh P w K mg base CX0 8 fl fdl ["script"] (XC K):=by
 refine D.ok (k:=7) qz (λvs H Q E h=>by obtain⟨a,us,rfl,_⟩:=h;rfl) (λcdv A outer s H vs Q E hr h=>?_)
 obtain⟨a,ns,rfl,hS,hlen,k⟩:=h
 have hr1:xh 1 _:=hr.mono (by decide)
 have hr2:xh 2 _:=hr.mono (by decide)
 have hr3:xh 3 _:=hr.mono (by decide)
 have hr4:xh 4 _:=hr.mono (by decide)
 have hu:=hr.units
 refine⟨_,(zg (zx (i:=1) qz.nd rfl (Or.inl rfl) (zm qI (zm V6 (zm qJ ze ze) ze) (zm qJ ze ze)))
  (zg (ZW PassesOwn.never rfl (v0 (xE (zc (qc (zc (pv 1) (zc ze zd))) (zc (qc (zc (zm vm ze (pv 1)) (zc ze zd))) (zc (qc (zc ze (zc (pv 1) zd))) (zc (qc (zc (zm vm ze (pv 1)) (zc (pv 1) zd))) zd)))))) (zJ (i:=2) qz.nd rfl (Or.inl rfl)) (zh (zO (qq (zp vA (zK cRt hr3 (zc (pv 2) zd)) (zK cLt hr2 (zc (pv 2) zd)) (zr _)) (qK (zp (ZV hu) (zK cRq hr3 (zc (zK cLt hr2 (zc (pv 2) zd)) zd)) (pv 2) (zr _)))).pt (zh (zu qm)) zy)))
  (zg (ZW PassesOwn.never rfl (v0 (zm j7 (xE (zc ze zd)) (pv 0))) (zJ (i:=3) qz.nd rfl (Or.inl rfl)) (zg (zx (i:=4) qz.nd rfl (Or.inl rfl) (zK cD hr1 (zc (pv 3) zd)))
  (zg (zx (i:=2) qz.nd rfl (Or.inl rfl) (zK cRa hr3 (zc (pv 4) zd)))
  (zg (zx (i:=5) qz.nd rfl (Or.inl rfl) (zK cLt hr2 (zc (pv 2) zd)))
  (zg (zx (i:=6) qz.nd rfl (Or.inl rfl) (zK cAm hr2 (zc (pv 2) (zc (pv 4) zd))))
  (zg (zO (qq (zp vA (zK cRt hr3 (zc (pv 2) zd)) (pv 5) (zr _)) (qq (zp (ZV hu) (zK cRq hr3 (zc (pv 5) zd)) (pv 2) (zr _)) (qK (xJ (xa (zK cRf hr (zc ze (zc (pv 6) zd))) λ_=>rfl))))).pt (zh (zu qm)) zy)
  (zg (zO (qq (xJ (xa (zK cRf hr (zc ze (zc (zm zk (zm zk (zm zk (pv 5) zj) (pv 6)) zj) zd))) λ_=>rfl)) (qK (xJ (xa (zK cRf hr (zc ze (zc (zm zk (zm zk (zm zk zj (pv 5)) zj) (pv 6)) zd))) λ_=>rfl)))).pt (zh (zu qm)) zy)
  (zg (zx (i:=7) qz.nd rfl (Or.inr rfl) (zH xb (xE (zc xq (zc ze (zc (pv 2) (zc (xE (zc (pv 5) zd)) (zc qm (zc (qc (zc (pv 5) zd)) zd))))))) (zK cN hr1 (zc (pv 4) (zc ze zd))) (λ_ _=>rfl)))
  (zg (zO (xJ (xa (zB (Zk rfl) (by rfl) TS.nAll (by decide +kernel) (zc (QR (NB:=["way"]) (FR:=["thing"]) (js:=[7]) rfl rfl (λ_ _ h=>h) (.cons rfl rfl rfl ⟨_,rfl⟩ .nil) rfl (by decide +kernel) rfl (by decide +kernel) (XZ rfl T.nRange (zc ze zd)) (by intro _ _ _;refine⟨?_,?_,?_⟩;(exact(zJ (i:=0) (show List.Nodup (["way","thing"]:List Str) by decide +kernel) rfl (Or.inl rfl)));(exact v3);(exact(zK cRf hr (zc (pv 0) (zc (pv 1) zd)))))) zd)) λ_=>rfl)) (zh (zu qm)) zy)
  (zg (zx (i:=8) qz.nd rfl (Or.inl rfl) (zK cBe hr2 (zc (pv 5) (zc (pv 4) zd))))
  (zh (zO (zp (ZV hu) (zK cTo hr4 (zc (pv 8) zd)) (zK cRd hr2 (zc (pv 8) zd)) (zr _)) (zh (zu qm)) zy))))))))))))
  (zh (zu qm))))),?_⟩
 have b60:(Builtin.Int.intBits ((10:Int)^Int.toNat 60):Int)*4<=2^27:=by
  have:=Bd.bits (n:=300) (show ((10:Int)^60).natAbs<2^300 by decide)
  have e:Builtin.Int.intBits ((10:Int)^Int.toNat 60)=Builtin.Int.intBits ((10:Int)^60):=rfl
  rw[e];omega
 refine⟨_,_,rfl,rfl,⟨by decide,by decide,by decide⟩,_,_,rfl,rfl,⟨by decide,b60⟩,_,_,rfl,rfl,⟨by decide,by decide,by decide⟩,_,_,rfl,rfl,⟨Bd.mono (m:=1000) (show (((10:Int)^60)^4).natAbs<2^1000 by decide +kernel) (by decide),Bd.mono (m:=300) (show ((10:Int)^59).natAbs<2^300 by decide) (by decide)⟩,?_⟩
 dsimp only[zL]
 rw[J1]
 generalize hgr:gr9=gr
 have x1:=rx1
 have x2:=rx2
 have x3:=rx3
 have x4:=rx4
 rw[hgr]at x1 x2 x3 x4
 refine Z9 ?_
 refine⟨_,rfl,by show 2<=sizeLine;decide,λt1 ht1=>?_⟩
 refine⟨_,rfl,_,_,rfl,rfl,by show 2<=sizeLine;decide,λt2 ht2=>?_⟩
 refine⟨_,rfl,by show 2<=sizeLine;decide,λt3 ht3=>?_⟩
 refine⟨_,rfl,_,_,rfl,rfl,_,rfl,by show 2<=sizeLine;decide,λt4 ht4=>?_⟩
 refine⟨by show 4<=sizeLine;decide,λtl htl=>?_⟩
 have u1:=zo.upd (o:=.tup [.int gr,.int 1]) ht1
 have r1:upd H t1 (.tup [.int gr,.int 1]) t1=some (.tup [.int gr,.int 1]):=zi
 generalize upd H t1 (.tup [.int gr,.int 1])=G1 at u1 r1 ht2 ht3 ht4 htl
 have u2:=zo.upd (o:=.tup [.int (0 - gr),.int 1]) ht2
 have r2:upd G1 t2 (.tup [.int (0 - gr),.int 1]) t2=some (.tup [.int (0 - gr),.int 1]):=zi
 generalize upd G1 t2 (.tup [.int (0 - gr),.int 1])=G2 at u2 r2 ht3 ht4 htl
 have u3:=zo.upd (o:=.tup [.int 1,.int gr]) ht3
 have r3:upd G2 t3 (.tup [.int 1,.int gr]) t3=some (.tup [.int 1,.int gr]):=zi
 generalize upd G2 t3 (.tup [.int 1,.int gr])=G3 at u3 r3 ht4 htl
 have u4:=zo.upd (o:=.tup [.int (1 - gr),.int gr]) ht4
 have r4:upd G3 t4 (.tup [.int (1 - gr),.int gr]) t4=some (.tup [.int (1 - gr),.int gr]):=zi
 generalize upd G3 t4 (.tup [.int (1 - gr),.int gr])=G4 at u4 r4 htl
 have u5:=zo.upd (o:=.lst [.ref t1,.ref t2,.ref t3,.ref t4]) htl
 have r5:upd G4 tl (.lst [.ref t1,.ref t2,.ref t3,.ref t4]) tl=some (.lst [.ref t1,.ref t2,.ref t3,.ref t4]):=zi
 generalize upd G4 tl (.lst [.ref t1,.ref t2,.ref t3,.ref t4])=G5 at u5 r5
 have items:∀(i:Nat) (v:V),([.ref t1,.ref t2,.ref t3,.ref t4]:List V)[i]? = some v->∃r,RI G5 v r/\Rx r:=λi v e=>by
  have hi:i<4:=(List.getElem?_eq_some_iff.mp e).1
  have:i=0\/i=1\/i=2\/i=3:=by omega
  rcases this with rfl | rfl | rfl | rfl <;> cases e
  ·exact⟨_,⟨t1,rfl,u5 _ _ (u4 _ _ (u3 _ _ (u2 _ _ r1)))⟩,x1⟩
  ·exact⟨_,⟨t2,rfl,u5 _ _ (u4 _ _ (u3 _ _ r2))⟩,x2⟩
  ·exact⟨_,⟨t3,rfl,u5 _ _ (u4 _ _ r3)⟩,x3⟩
  ·exact⟨_,⟨t4,rfl,u5 _ _ r4⟩,x4⟩
 have uH:zo H G5:=(((u1.trans u2).trans u3).trans u4).trans u5
 refine⟨tl,rfl,⟨_,SqL.of r5⟩,?_⟩
 refine Zo (xs:=[.ref t1,.ref t2,.ref t3,.ref t4]) (λi σ G=>∃z2,σ=[some (.ref a),some (.int gr),z2,none,none,none,none,none,none]/\zo G5 G) ⟨_,rfl,zo.refl _⟩ (λi σ G _ ⟨_,_,s⟩=>SqL.of (s _ _ r5)) ?_ ?_
 ·rintro i v σ G hv ⟨z2,rfl,sG⟩
  obtain⟨r,hr0,hx⟩:=items i v hv
  have hr1:=hr0.tups (.of sG)
  dsimp only[zL]
  refine⟨_,rfl,v,r,rfl,hr1,hx.r3,λG6 s6=>?_⟩
  refine⟨_,rfl,v,r,rfl,hr1.tups (.of s6),hx.r3,λG7 s7=>⟨rfl,_,rfl,?_⟩⟩
  rw[decide_eq_true rfl]
  have s67:=s6.trans s7
  refine zU ⟨_,rfl,v,r,rfl,hr1.tups (.of s67),hx.r3,λG8 s8=>?_⟩
  have s68:=s67.trans s8
  refine⟨_,r,rfl,by rw[zv];have:=za4 hx.r3;omega,Q3 hx,λv' G9 s9 hr9=>?_⟩
  have s69:=s68.trans s9
  refine⟨_,rfl,_,_,hr9.rd,(hr1.tups (.of s69)).rd,Xu _,Xu _,_,rfl,?_⟩
  rw[ZN]
  exact zU ⟨_,rfl,sG.trans s69⟩
 ·rintro σ G ⟨z2,rfl,sG⟩
  have hSG:=(uH.trans sG).seq hS
  dsimp only
  refine Z9 ?_
  refine⟨by show 1<=sizeLine;decide,λp0 hp0=>?_⟩
  refine⟨_,rfl,p0,a,_,_,rfl,rfl,SqL.of zi,(zo.upd hp0).seq hSG,szl (by simp only[List.length_map,List.length_cons,List.length_nil];omega),λp1 hp1=>?_⟩
  have e1:upd (upd G p0 (.lst [.int 0])) p1 (.lst ([.int 0]++ns.map V.int)) p1=some (.lst ((0::ns).map V.int)):=zi
  generalize upd (upd G p0 (.lst [.int 0])) p1 (.lst ([.int 0]++ns.map V.int))=Gb at e1
  refine⟨p1,rfl,⟨_,SqL.of e1⟩,?_⟩
  refine Zo (xs:=(0::ns).map V.int) (λi σ G=>∃z2 z3 z4 z5 z6 z7 z8,σ=[some (.ref a),some (.int gr),z2,z3,z4,z5,z6,z7,z8]/\zo Gb G) ⟨_,_,_,_,_,_,_,rfl,zo.refl _⟩ (λi σ G _ ⟨_,_,_,_,_,_,_,_,s⟩=>SqL.of (s _ _ e1)) ?_ ?_
  ·rintro i z σ G0 hz ⟨z2,z3,z4,z5,z6,z7,z8,rfl,sG0⟩
   rw[List.getElem?_map]at hz
   obtain⟨c,ec,rfl⟩:=Option.map_eq_some_iff.mp hz
   dsimp only[zL]
   refine⟨_,rfl,c,rfl,λp H2 hp s2 hP=>?_⟩
   have keep:∀G',qo p H2 G'->zo Gb G':=λG' t b o e=>t.keep b o (s2 _ _ (sG0 _ _ e)) (λz=>by rw[<-z,sG0 _ _ e]at hp;cases hp)
   dsimp only[zL]
   refine⟨_,rfl,p,rfl,hP,λro q H3 t3 hq zq=>?_⟩
   obtain⟨r,er⟩:∃r:Int×Int,r=(q.num,(q.den:Int)):=⟨_,rfl⟩
   have hRI:RI H3 (.ref ro) r:=by rw[er];exact⟨ro,rfl,hq⟩
   have h200:r.1.natAbs<10^200/\r.2.natAbs<10^200:=by
    rw[er]
    exact⟨Nat.lt_of_lt_of_le zq.1 (by decide),Nat.lt_of_lt_of_le zq.2 (by decide)⟩
   have z23:(10:Nat)^200<=10^300:=by decide
   have hx:Rx r:=⟨by rw[er];exact QY q,by omega,by omega⟩
   have hd1:1<=r.2:=hx.pos
   clear er hq zq
   have lt:=za4 hx.r3
   dsimp only[zL]
   refine⟨_,rfl,_,r,rfl,hRI,hx.r3,λH4 s4=>?_⟩
   dsimp only[zL]
   have T4:=t3.same s4
   have R4:=hRI.tups (.of s4)
   refine⟨_,rfl,_,rfl,_,p,r,rfl,R4,h200.1,h200.2,hd1,T4.pool,λt H5 t5 hw=>?_⟩
   have R5:=R4.tups (X9 T4.pool t5)
   have T5:=T4.trans t5
   have lw:=hw.len (by omega)
   dsimp only[zL]
   refine⟨_,rfl,_,r,rfl,R5,hx.r3,λH6 s6=>⟨_,rfl,rfl,_,rfl,?_⟩⟩
   rw[decide_eq_true rfl]
   have R6:=R5.tups (.of s6)
   refine zU ⟨_,rfl,_,r,rfl,by rw[zv];omega,Q3 hx,λv' H7 s7 h7=>?_⟩
   have R7:=R6.tups (.of s7)
   refine⟨_,rfl,_,_,h7.rd,R7.rd,Xu _,Xu _,_,rfl,?_⟩
   rw[ZN]
   refine zU ⟨_,rfl,0,_,rfl,.inr ⟨t,rfl,by omega,λ_=>hw.no,λz=>(by cases z),λz=>absurd rfl z⟩,λH8 s8=>⟨true,rfl,zU ?_⟩⟩
   refine zD ?_
   have sp1:(Str.ofString " ").length=1:=by decide +kernel
   have sp3:(Str.ofString " 3").length=2:=by decide +kernel
   have sp4:(Str.ofString "- | ").length=4:=by decide +kernel
   have tlen:t.cps.toList.length=t.length:=by simp[Str.length]
   have lenR:(TX (rtL r++32::(t.cps.toList++[32,51]))).length<=10000:=by
    rw[zv,List.length_append,List.length_cons,List.length_append,tlen];show _+(_+2+1)<=_;omega
   have lenW:(TX ([45]++[32,124,32]++(rtL r++[32]++t.cps.toList))).length<=10000:=by
    rw[zv];simp only[List.length_append,List.length_cons,List.length_nil,tlen];omega
   refine⟨_,rfl,_,_,rfl,rfl,by rw[zv,sp1,sizeLine_eq];omega,_,rfl,_,_,rfl,rfl,by rw[zA,zv,sp1,sizeLine_eq];omega,_,_,rfl,rfl,by rw[zA,zA,zv,sp1,sp3,sizeLine_eq];omega,?_⟩
   rw[Vj]
   refine⟨1,_,rfl,.inr ⟨_,rfl,lenR,λz=>(by cases z),λ_=>hw.row,λ_ z=>absurd rfl z⟩,λH9 s9=>⟨true,rfl,zU ?_⟩⟩
   refine⟨_,rfl,_,_,rfl,rfl,by rw[zv,sp4,sizeLine_eq];omega,_,_,rfl,rfl,by rw[zA,zv,sp1,sp4,sizeLine_eq];omega,_,rfl,_,_,rfl,rfl,by rw[zA,zA,zv,sp1,sp4,sizeLine_eq];omega,?_⟩
   rw[Qb]
   refine⟨2,_,rfl,.inr ⟨_,rfl,lenW,λz=>(by cases z),λz=>(by cases z),λ_ _=>hw.walls⟩,λHA sA=>⟨true,rfl,zU ?_⟩⟩
   refine zD ?_
   have s5A:=(((s6.trans s7).trans s8).trans s9).trans sA
   have TA:=T5.same s5A
   have RA:=R5.tups (.of s5A)
   refine⟨_,rfl,_,rfl,by show 1<=sizeLine;decide,λla hla=>?_⟩
   refine⟨_,rfl,by show 1<=sizeLine;decide,λtb htb=>?_⟩
   refine⟨by show 6<=sizeLine;decide,λlt' hlt=>?_⟩
   refine⟨_,rfl,p,_,rfl,by decide,by decide,((TA.pool.new hla).new htb).new hlt,λdd HB a0 b0 tB=>?_⟩
   obtain⟨th,eth,hth⟩:=at6v V.non (.int 7) (.ref ro) (.ref la) (.bl true) (.ref tb) a0 b0
   have nlt:lt'≠p:=qP.ne ((TA.pool.new hla).new htb) hlt
   refine⟨lt',_,_,_,rfl,rfl,.of (tB.keep lt' _ zi nlt),eth,?_⟩
   have TB:qo p H2 HB:=TA.trans (tB.pre (((zo.upd hla).trans (zo.upd htb)).trans (zo.upd hlt)))
   have nla:la≠p:=TA.pool.ne hla
   have ntb:tb≠p:=qP.ne (TA.pool.new hla) htb
   obtain⟨rp,erp,hrp⟩:=RA
   cases erp
   have nro:ro≠p:=by obtain⟨_,_,_,e⟩:=TA.pool;exact Jq hrp e (by intro z;cases z)
   have hNo:NoS K HB th:=by
    rcases hth with rfl | rfl | rfl | rfl | rfl | rfl
    ·exact⟨_,.non,TN.nn⟩
    ·exact⟨_,.int 7,TN.ni⟩
    ·exact⟨_,.tup (tB.keep _ _ (zo.upd hlt _ _ (zo.upd htb _ _ (zo.upd hla _ _ hrp))) nro),TN.nt⟩
    ·exact⟨_,.lst (tB.keep _ _ (zo.upd hlt _ _ (zo.upd htb _ _ zi)) nla),TN.nl⟩
    ·exact⟨_,.bl true,TN.nb⟩
    ·exact⟨_,.tup (tB.keep _ _ (zo.upd hlt _ _ zi) ntb),TN.nt⟩
   dsimp only[zL]
   refine⟨3,rfl,by decide,by decide,λDs hDs=>?_⟩
   refine XL (js:=[7]) (J:=Itr 0 (3:Int).toNat) (g:=zL 0) (tt:=λ_ H Q=>Q true H) (te:=_) (N:=3) (n:=1) (λi G ys=>zo HB G/\ys=List.replicate i (V.bl true)) ⟨zo.upd hDs,rfl⟩ (λi G ys hi q=>hi) (λG ys q=>Nat.le_refl _) ?_ ?_
   ·rintro j x zs G_ G ys Nx hN hj hz1 ⟨rfl,rfl⟩ ⟨sB,rfl⟩ hGD
    obtain⟨y1,rfl⟩:=QC hz1
    refine⟨rfl,zY ?_⟩
    refine⟨_,rfl,_,rfl,_,th,rfl,.inl (hNo.same sB),λG3 s3=>?_⟩
    refine⟨s3 _ _ hGD,va (by simp;omega),hN _ _ ⟨λb o e=>?_,by rw[<-List.replicate_succ']⟩⟩
    rw[zX (z9 e hDs)];exact s3 _ _ (sB _ _ e)
   rintro HC ys ⟨sC,rfl⟩ hGD
   refine⟨Ds,[true,true,true],rfl,.of hGD,true,rfl,zU ?_⟩
   refine zD ?_
   have TC:=TB.same sC
   refine⟨_,rfl,_,rfl,_,p,rfl,by rw[zv];omega,TC.pool,λy HD tD hy=>?_⟩
   dsimp only[zL]
   refine⟨_,rfl,y,rfl,by omega,λo HE sE ho=>?_⟩
   refine⟨_,rfl,y,rfl,by omega,λo' HF sF ho'=>?_⟩
   have TF:=((TC.trans tD).same sE).same sF
   have ho1:=ho.tups (.of sF)
   refine⟨_,_,ho1.rd,ho'.rd,?_,?_,_,rfl,?_⟩
   ·cases rdR y <;> rfl
   ·cases rdR y <;> rfl
   have ee:PyData.eqv (oD (rdR y)) (oD (rdR y))=true:=by
    cases rdR y with
    | none=>rfl
    | some r=>exact ZN r
   rw[ee]
   exact zU ⟨_,_,_,_,_,_,_,rfl,keep _ TF⟩
  ·rintro σ G ⟨z2,z3,z4,z5,z6,z7,z8,rfl,sG⟩
   exact k _
end
end KK
end
section
set_option maxHeartbeats 8000000
set_option Elab.async false
set_option linter.all false
set_option maxRecDepth 100000
namespace KK
open PySem L2 KM PySem.W
theorem zas {K:Frag}{h:Heap}{mg:Str->Option Value}{x:Str}{C:Addr}(X:K.In h) (G:h.Ns mainGlobals mg) (e:nsIn K mainGlobals x=some (some (.ref C))) (q:excIn K C zaJ "ValueError.__new__" = true):jW x C mg h:=by
 unfold excIn at q
 split at q
 case h_2=>cases q
 case h_1 dd cd sl ho =>
  split at q
  case h_2=>cases q
  case h_1 C' bm k0 k1 k2 k3 n k5 hm hs =>
   obtain⟨cnm,cbs,cmro,cns,cqn,chd,csn,csub,cab,ccol,cdel⟩:=cd
   obtain⟨sll⟩:=sl
   simp only at hm hs q
   subst hm;subst hs
   simp only[Bool.and_eq_true,beq_iff_eq,Bool.not_eq_true']at q
   obtain⟨⟨⟨⟨⟨eC,en⟩,ed⟩,et⟩,eo⟩,ei⟩:=q
   subst eC;subst en;subst ed
   exact⟨mg_of X G e,bm,cns,cnm,cqn,cbs,chd,csn,csub,cab,ccol,dd,k0,k1,k2,k3,k5,_,X _ _ ho,.of_isNs (isNs_of_in X eo),nsMap_none_of_in X eo ei,tail_of_in X et⟩
end KK
end
set_option linter.all false
def PySem.W.Fast.tw18207272142330520789:Nat:=0
def PySem.W.Fast.tw16911356360291348315:Nat:=0
def PySem.W.Fast.tw12147634839029319103:Nat:=0
def PySem.W.Fast.tw6921258564339103094:Nat:=0
def PySem.W.Fast.tw3555020631410074626:Nat:=0
def PySem.W.Fast.tw4830254618649299302:Nat:=0
def PySem.W.Fast.tw8261802931518773035:Nat:=0
def PySem.W.Fast.tw138153912341440484:Nat:=0
def PySem.W.Fast.tw7033278414366057220:Nat:=0
def PySem.W.Fast.tw9792046292742418104:Nat:=0
def PySem.W.Fast.tw13221275794606594360:Nat:=0
def PySem.W.Fast.tw10915382457944457603:Nat:=0
def PySem.W.Fast.tw5727079877773593053:Nat:=0
def PySem.W.Fast.tw5339964963311654364:Nat:=0
def PySem.W.Fast.tw7664687205213461534:Nat:=0
def PySem.W.Fast.tw5431536539964644300:Nat:=0
def PySem.W.Fast.tw14749474245304038676:Nat:=0
section
set_option maxHeartbeats 8000000
set_option Elab.async false
set_option linter.all false
set_option maxRecDepth 100000
namespace KK
open PySem L2 KM
theorem J8 (K:PySem.W.Frag):PySem.W.kitOne K (.type "int") (.type "int")=some true:=by
 unfold PySem.W.kitOne;rw[if_pos (by decide +kernel)]
theorem J7 (K:PySem.W.Frag):PySem.W.kitOne K (.type "int") (.type "bool")=some false:=by
 with_unfolding_all rfl
theorem J9 (K:PySem.W.Frag):PySem.W.kitOne K (.type "str") (.type "str")=some true:=by
 unfold PySem.W.kitOne;rw[if_pos (by decide +kernel)]
theorem zaa (K:PySem.W.Frag):PySem.W.kitOne K (.type "tuple") (.type "tuple")=some true:=by
 unfold PySem.W.kitOne;rw[if_pos (by decide +kernel)]
theorem JO {l:PySem.W.OpenLaw}{w:World}{K:PySem.W.Frag}{h:Heap}{mg:Str->Option Value}{fa:Addr}(X:K.In h) (G:h.Ns mainGlobals mg) (hfa:mg "law" = some (.ref fa))
  {f0:Addr}{od0 an0:Option Addr}{sl0:Array (Option Value)}{oc0 kV0 dc0 pm0 cd0 ct0:Value}
  (a0:PySem.W.nsIn K mainGlobals "is_whole" = some (some (.ref f0))) (l0:K.lookup f0=some ⟨oc0,od0,.func (PySem.W.fnOf "is_whole" "is_whole" (zn xZ) (zl xZ) (zf xZ) .none kV0 dc0 pm0 an0 cd0 ct0),sl0⟩) (c0:PySem.W.codeIn K cd0 "is_whole" = true) (k0:PySem.W.keepIn K (.ref f0)=true)
  {f1:Addr}{od1 an1:Option Addr}{sl1:Array (Option Value)}{oc1 kV1 dc1 pm1 cd1 ct1:Value}
  (a1:PySem.W.nsIn K mainGlobals "is_tuple" = some (some (.ref f1))) (l1:K.lookup f1=some ⟨oc1,od1,.func (PySem.W.fnOf "is_tuple" "is_tuple" (zn xY) (zl xY) (zf xY) .none kV1 dc1 pm1 an1 cd1 ct1),sl1⟩) (c1:PySem.W.codeIn K cd1 "is_tuple" = true) (k1:PySem.W.keepIn K (.ref f1)=true)
  {f2:Addr}{od2 an2:Option Addr}{sl2:Array (Option Value)}{oc2 kV2 dc2 pm2 cd2 ct2:Value}
  (a2:PySem.W.nsIn K mainGlobals "greatest_divisor" = some (some (.ref f2))) (l2:K.lookup f2=some ⟨oc2,od2,.func (PySem.W.fnOf "greatest_divisor" "greatest_divisor" (zn zP) (zl zP) (zf zP) .none kV2 dc2 pm2 an2 cd2 ct2),sl2⟩) (c2:PySem.W.codeIn K cd2 "greatest_divisor" = true) (k2:PySem.W.keepIn K (.ref f2)=true)
  {f3:Addr}{od3 an3:Option Addr}{sl3:Array (Option Value)}{oc3 kV3 dc3 pm3 cd3 ct3:Value}
  (a3:PySem.W.nsIn K mainGlobals "is_ratio" = some (some (.ref f3))) (l3:K.lookup f3=some ⟨oc3,od3,.func (PySem.W.fnOf "is_ratio" "is_ratio" (zn xX) (zl xX) (zf xX) .none kV3 dc3 pm3 an3 cd3 ct3),sl3⟩) (c3:PySem.W.codeIn K cd3 "is_ratio" = true) (k3:PySem.W.keepIn K (.ref f3)=true)
  {f4:Addr}{od4 an4:Option Addr}{sl4:Array (Option Value)}{oc4 kV4 dc4 pm4 cd4 ct4:Value}
  (a4:PySem.W.nsIn K mainGlobals "less" = some (some (.ref f4))) (l4:K.lookup f4=some ⟨oc4,od4,.func (PySem.W.fnOf "less" "less" (zn vU) (zl vU) (zf vU) .none kV4 dc4 pm4 an4 cd4 ct4),sl4⟩) (c4:PySem.W.codeIn K cd4 "less" = true) (k4:PySem.W.keepIn K (.ref f4)=true)
  {f5:Addr}{od5 an5:Option Addr}{sl5:Array (Option Value)}{oc5 kV5 dc5 pm5 cd5 ct5:Value}
  (a5:PySem.W.nsIn K mainGlobals "is_wall" = some (some (.ref f5))) (l5:K.lookup f5=some ⟨oc5,od5,.func (PySem.W.fnOf "is_wall" "is_wall" (zn qk) (zl qk) (zf qk) .none kV5 dc5 pm5 an5 cd5 ct5),sl5⟩) (c5:PySem.W.codeIn K cd5 "is_wall" = true) (k5:PySem.W.keepIn K (.ref f5)=true)
  {f6:Addr}{od6 an6:Option Addr}{sl6:Array (Option Value)}{oc6 kV6 dc6 pm6 cd6 ct6:Value}
  (a6:PySem.W.nsIn K mainGlobals "is_wall_pair" = some (some (.ref f6))) (l6:K.lookup f6=some ⟨oc6,od6,.func (PySem.W.fnOf "is_wall_pair" "is_wall_pair" (zn xl) (zl xl) (zf xl) .none kV6 dc6 pm6 an6 cd6 ct6),sl6⟩) (c6:PySem.W.codeIn K cd6 "is_wall_pair" = true) (k6:PySem.W.keepIn K (.ref f6)=true)
  {f7:Addr}{od7 an7:Option Addr}{sl7:Array (Option Value)}{oc7 kV7 dc7 pm7 cd7 ct7:Value}
  (a7:PySem.W.nsIn K mainGlobals "walls_good" = some (some (.ref f7))) (l7:K.lookup f7=some ⟨oc7,od7,.func (PySem.W.fnOf "walls_good" "walls_good" (zn xD) (zl xD) (zf xD) .none kV7 dc7 pm7 an7 cd7 ct7),sl7⟩) (c7:PySem.W.codeIn K cd7 "walls_good" = true) (k7:PySem.W.keepIn K (.ref f7)=true)
  {f8:Addr}{od8 an8:Option Addr}{sl8:Array (Option Value)}{oc8 kV8 dc8 pm8 cd8 ct8:Value}
  (a8:PySem.W.nsIn K mainGlobals "is_ball_form" = some (some (.ref f8))) (l8:K.lookup f8=some ⟨oc8,od8,.func (PySem.W.fnOf "is_ball_form" "is_ball_form" (zn xW) (zl xW) (zf xW) .none kV8 dc8 pm8 an8 cd8 ct8),sl8⟩) (c8:PySem.W.codeIn K cd8 "is_ball_form" = true) (k8:PySem.W.keepIn K (.ref f8)=true)
  {f9:Addr}{od9 an9:Option Addr}{sl9:Array (Option Value)}{oc9 kV9 dc9 pm9 cd9 ct9:Value}
  (a9:PySem.W.nsIn K mainGlobals "is_weight" = some (some (.ref f9))) (l9:K.lookup f9=some ⟨oc9,od9,.func (PySem.W.fnOf "is_weight" "is_weight" (zn qt) (zl qt) (zf qt) .none kV9 dc9 pm9 an9 cd9 ct9),sl9⟩) (c9:PySem.W.codeIn K cd9 "is_weight" = true) (k9:PySem.W.keepIn K (.ref f9)=true)
  {f10:Addr}{od10 an10:Option Addr}{sl10:Array (Option Value)}{oc10 kV10 dc10 pm10 cd10 ct10:Value}
  (a10:PySem.W.nsIn K mainGlobals "is_ball" = some (some (.ref f10))) (l10:K.lookup f10=some ⟨oc10,od10,.func (PySem.W.fnOf "is_ball" "is_ball" (zn qY) (zl qY) (zf qY) .none kV10 dc10 pm10 an10 cd10 ct10),sl10⟩) (c10:PySem.W.codeIn K cd10 "is_ball" = true) (k10:PySem.W.keepIn K (.ref f10)=true)
  {f11:Addr}{od11 an11:Option Addr}{sl11:Array (Option Value)}{oc11 kV11 dc11 pm11 cd11 ct11:Value}
  (a11:PySem.W.nsIn K mainGlobals "follows" = some (some (.ref f11))) (l11:K.lookup f11=some ⟨oc11,od11,.func (PySem.W.fnOf "follows" "follows" (zn qX) (zl qX) (zf qX) .none kV11 dc11 pm11 an11 cd11 ct11),sl11⟩) (c11:PySem.W.codeIn K cd11 "follows" = true) (k11:PySem.W.keepIn K (.ref f11)=true)
  {f12:Addr}{od12 an12:Option Addr}{sl12:Array (Option Value)}{oc12 kV12 dc12 pm12 cd12 ct12:Value}
  (a12:PySem.W.nsIn K mainGlobals "is_ordered" = some (some (.ref f12))) (l12:K.lookup f12=some ⟨oc12,od12,.func (PySem.W.fnOf "is_ordered" "is_ordered" (zn qg) (zl qg) (zf qg) .none kV12 dc12 pm12 an12 cd12 ct12),sl12⟩) (c12:PySem.W.codeIn K cd12 "is_ordered" = true) (k12:PySem.W.keepIn K (.ref f12)=true)
  {f13:Addr}{od13 an13:Option Addr}{sl13:Array (Option Value)}{oc13 kV13 dc13 pm13 cd13 ct13:Value}
  (a13:PySem.W.nsIn K mainGlobals "keeps_side" = some (some (.ref f13))) (l13:K.lookup f13=some ⟨oc13,od13,.func (PySem.W.fnOf "keeps_side" "keeps_side" (zn qh) (zl qh) (zf qh) .none kV13 dc13 pm13 an13 cd13 ct13),sl13⟩) (c13:PySem.W.codeIn K cd13 "keeps_side" = true) (k13:PySem.W.keepIn K (.ref f13)=true)
  {f14:Addr}{od14 an14:Option Addr}{sl14:Array (Option Value)}{oc14 kV14 dc14 pm14 cd14 ct14:Value}
  (a14:PySem.W.nsIn K mainGlobals "is_between" = some (some (.ref f14))) (l14:K.lookup f14=some ⟨oc14,od14,.func (PySem.W.fnOf "is_between" "is_between" (zn qf) (zl qf) (zf qf) .none kV14 dc14 pm14 an14 cd14 ct14),sl14⟩) (c14:PySem.W.codeIn K cd14 "is_between" = true) (k14:PySem.W.keepIn K (.ref f14)=true)
  {f15:Addr}{od15 an15:Option Addr}{sl15:Array (Option Value)}{oc15 kV15 dc15 pm15 cd15 ct15:Value}
  (a15:PySem.W.nsIn K mainGlobals "is_row" = some (some (.ref f15))) (l15:K.lookup f15=some ⟨oc15,od15,.func (PySem.W.fnOf "is_row" "is_row" (zn vH) (zl vH) (zf vH) .none kV15 dc15 pm15 an15 cd15 ct15),sl15⟩) (c15:PySem.W.codeIn K cd15 "is_row" = true) (k15:PySem.W.keepIn K (.ref f15)=true)
  {f16:Addr}{od16 an16:Option Addr}{sl16:Array (Option Value)}{oc16 kV16 dc16 pm16 cd16 ct16:Value}
  (a16:PySem.W.nsIn K mainGlobals "number_text" = some (some (.ref f16))) (l16:K.lookup f16=some ⟨oc16,od16,.func (PySem.W.fnOf "number_text" "number_text" (zn zR) (zl zR) (zf zR) .none kV16 dc16 pm16 an16 cd16 ct16),sl16⟩) (c16:PySem.W.codeIn K cd16 "number_text" = true) (k16:PySem.W.keepIn K (.ref f16)=true)
  {f17:Addr}{od17 an17:Option Addr}{sl17:Array (Option Value)}{oc17 kV17 dc17 pm17 cd17 ct17:Value}
  (a17:PySem.W.nsIn K mainGlobals "ratio_text" = some (some (.ref f17))) (l17:K.lookup f17=some ⟨oc17,od17,.func (PySem.W.fnOf "ratio_text" "ratio_text" (zn xB) (zl xB) (zf xB) .none kV17 dc17 pm17 an17 cd17 ct17),sl17⟩) (c17:PySem.W.codeIn K cd17 "ratio_text" = true) (k17:PySem.W.keepIn K (.ref f17)=true)
  {f18:Addr}{od18 an18:Option Addr}{sl18:Array (Option Value)}{oc18 kV18 dc18 pm18 cd18 ct18:Value}
  (a18:PySem.W.nsIn K mainGlobals "parts_of" = some (some (.ref f18))) (l18:K.lookup f18=some ⟨oc18,od18,.func (PySem.W.fnOf "parts_of" "parts_of" (zn xL) (zl xL) (zf xL) .none kV18 dc18 pm18 an18 cd18 ct18),sl18⟩) (c18:PySem.W.codeIn K cd18 "parts_of" = true) (k18:PySem.W.keepIn K (.ref f18)=true)
  {f19:Addr}{od19 an19:Option Addr}{sl19:Array (Option Value)}{oc19 kV19 dc19 pm19 cd19 ct19:Value}
  (a19:PySem.W.nsIn K mainGlobals "read_number" = some (some (.ref f19))) (l19:K.lookup f19=some ⟨oc19,od19,.func (PySem.W.fnOf "read_number" "read_number" (zn xw) (zl xw) (zf xw) .none kV19 dc19 pm19 an19 cd19 ct19),sl19⟩) (c19:PySem.W.codeIn K cd19 "read_number" = true) (k19:PySem.W.keepIn K (.ref f19)=true)
  {f20:Addr}{od20 an20:Option Addr}{sl20:Array (Option Value)}{oc20 kV20 dc20 pm20 cd20 ct20:Value}
  (a20:PySem.W.nsIn K mainGlobals "read_whole" = some (some (.ref f20))) (l20:K.lookup f20=some ⟨oc20,od20,.func (PySem.W.fnOf "read_whole" "read_whole" (zn xC) (zl xC) (zf xC) .none kV20 dc20 pm20 an20 cd20 ct20),sl20⟩) (c20:PySem.W.codeIn K cd20 "read_whole" = true) (k20:PySem.W.keepIn K (.ref f20)=true)
  {f21:Addr}{od21 an21:Option Addr}{sl21:Array (Option Value)}{oc21 kV21 dc21 pm21 cd21 ct21:Value}
  (a21:PySem.W.nsIn K mainGlobals "read_ratio" = some (some (.ref f21))) (l21:K.lookup f21=some ⟨oc21,od21,.func (PySem.W.fnOf "read_ratio" "read_ratio" (zn xr) (zl xr) (zf xr) .none kV21 dc21 pm21 an21 cd21 ct21),sl21⟩) (c21:PySem.W.codeIn K cd21 "read_ratio" = true) (k21:PySem.W.keepIn K (.ref f21)=true)
  {f22:Addr}{od22 an22:Option Addr}{sl22:Array (Option Value)}{oc22 kV22 dc22 pm22 cd22 ct22:Value}
  (a22:PySem.W.nsIn K mainGlobals "read_ball" = some (some (.ref f22))) (l22:K.lookup f22=some ⟨oc22,od22,.func (PySem.W.fnOf "read_ball" "read_ball" (zn xT) (zl xT) (zf xT) .none kV22 dc22 pm22 an22 cd22 ct22),sl22⟩) (c22:PySem.W.codeIn K cd22 "read_ball" = true) (k22:PySem.W.keepIn K (.ref f22)=true)
  {f23:Addr}{od23 an23:Option Addr}{sl23:Array (Option Value)}{oc23 kV23 dc23 pm23 cd23 ct23:Value}
  (a23:PySem.W.nsIn K mainGlobals "read_row" = some (some (.ref f23))) (l23:K.lookup f23=some ⟨oc23,od23,.func (PySem.W.fnOf "read_row" "read_row" (zn xM) (zl xM) (zf xM) .none kV23 dc23 pm23 an23 cd23 ct23),sl23⟩) (c23:PySem.W.codeIn K cd23 "read_row" = true) (k23:PySem.W.keepIn K (.ref f23)=true)
  {f24:Addr}{od24 an24:Option Addr}{sl24:Array (Option Value)}{oc24 kV24 dc24 pm24 cd24 ct24:Value}
  (a24:PySem.W.nsIn K mainGlobals "wall_read" = some (some (.ref f24))) (l24:K.lookup f24=some ⟨oc24,od24,.func (PySem.W.fnOf "wall_read" "wall_read" (zn xU) (zl xU) (zf xU) .none kV24 dc24 pm24 an24 cd24 ct24),sl24⟩) (c24:PySem.W.codeIn K cd24 "wall_read" = true) (k24:PySem.W.keepIn K (.ref f24)=true)
  {f25:Addr}{od25 an25:Option Addr}{sl25:Array (Option Value)}{oc25 kV25 dc25 pm25 cd25 ct25:Value}
  (a25:PySem.W.nsIn K mainGlobals "walls_read" = some (some (.ref f25))) (l25:K.lookup f25=some ⟨oc25,od25,.func (PySem.W.fnOf "walls_read" "walls_read" (zn xt) (zl xt) (zf xt) .none kV25 dc25 pm25 an25 cd25 ct25),sl25⟩) (c25:PySem.W.codeIn K cd25 "walls_read" = true) (k25:PySem.W.keepIn K (.ref f25)=true)
  {f26:Addr}{od26 an26:Option Addr}{sl26:Array (Option Value)}{oc26 kV26 dc26 pm26 cd26 ct26:Value}
  (a26:PySem.W.nsIn K mainGlobals "_law_pool" = some (some (.ref f26))) (l26:K.lookup f26=some ⟨oc26,od26,.func (PySem.W.fnOf "_law_pool" "_law_pool" (zn x5) (zl x5) (zf x5) .none kV26 dc26 pm26 an26 cd26 ct26),sl26⟩) (c26:PySem.W.codeIn K cd26 "_law_pool" = true) (k26:PySem.W.keepIn K (.ref f26)=true)
  {f27:Addr}{od27 an27:Option Addr}{sl27:Array (Option Value)}{oc27 kV27 dc27 pm27 cd27 ct27:Value}
  (a27:PySem.W.nsIn K mainGlobals "_law_next" = some (some (.ref f27))) (l27:K.lookup f27=some ⟨oc27,od27,.func (PySem.W.fnOf "_law_next" "_law_next" (zn xK) (zl xK) (zf xK) .none kV27 dc27 pm27 an27 cd27 ct27),sl27⟩) (c27:PySem.W.codeIn K cd27 "_law_next" = true) (k27:PySem.W.keepIn K (.ref f27)=true)
  {f28:Addr}{od28 an28:Option Addr}{sl28:Array (Option Value)}{oc28 kV28 dc28 pm28 cd28 ct28:Value}
  (a28:PySem.W.nsIn K mainGlobals "_law_common" = some (some (.ref f28))) (l28:K.lookup f28=some ⟨oc28,od28,.func (PySem.W.fnOf "_law_common" "_law_common" (zn xA) (zl xA) (zf xA) .none kV28 dc28 pm28 an28 cd28 ct28),sl28⟩) (c28:PySem.W.codeIn K cd28 "_law_common" = true) (k28:PySem.W.keepIn K (.ref f28)=true)
  {f29:Addr}{od29 an29:Option Addr}{sl29:Array (Option Value)}{oc29 kV29 dc29 pm29 cd29 ct29:Value}
  (a29:PySem.W.nsIn K mainGlobals "_law_low" = some (some (.ref f29))) (l29:K.lookup f29=some ⟨oc29,od29,.func (PySem.W.fnOf "_law_low" "_law_low" (zn ql) (zl ql) (zf ql) .none kV29 dc29 pm29 an29 cd29 ct29),sl29⟩) (c29:PySem.W.codeIn K cd29 "_law_low" = true) (k29:PySem.W.keepIn K (.ref f29)=true)
  {f30:Addr}{od30 an30:Option Addr}{sl30:Array (Option Value)}{oc30 kV30 dc30 pm30 cd30 ct30:Value}
  (a30:PySem.W.nsIn K mainGlobals "_law_ratio" = some (some (.ref f30))) (l30:K.lookup f30=some ⟨oc30,od30,.func (PySem.W.fnOf "_law_ratio" "_law_ratio" (zn xR) (zl xR) (zf xR) .none kV30 dc30 pm30 an30 cd30 ct30),sl30⟩) (c30:PySem.W.codeIn K cd30 "_law_ratio" = true) (k30:PySem.W.keepIn K (.ref f30)=true)
  {f31:Addr}{od31 an31:Option Addr}{sl31:Array (Option Value)}{oc31 kV31 dc31 pm31 cd31 ct31:Value}
  (a31:PySem.W.nsIn K mainGlobals "_law_figures" = some (some (.ref f31))) (l31:K.lookup f31=some ⟨oc31,od31,.func (PySem.W.fnOf "_law_figures" "_law_figures" (zn xu) (zl xu) (zf xu) .none kV31 dc31 pm31 an31 cd31 ct31),sl31⟩) (c31:PySem.W.codeIn K cd31 "_law_figures" = true) (k31:PySem.W.keepIn K (.ref f31)=true)
  {f32:Addr}{od32 an32:Option Addr}{sl32:Array (Option Value)}{oc32 kV32 dc32 pm32 cd32 ct32:Value}
  (a32:PySem.W.nsIn K mainGlobals "_law_ratio_text" = some (some (.ref f32))) (l32:K.lookup f32=some ⟨oc32,od32,.func (PySem.W.fnOf "_law_ratio_text" "_law_ratio_text" (zn zZ) (zl zZ) (zf zZ) .none kV32 dc32 pm32 an32 cd32 ct32),sl32⟩) (c32:PySem.W.codeIn K cd32 "_law_ratio_text" = true) (k32:PySem.W.keepIn K (.ref f32)=true)
  {f33:Addr}{od33 an33:Option Addr}{sl33:Array (Option Value)}{oc33 kV33 dc33 pm33 cd33 ct33:Value}
  (a33:PySem.W.nsIn K mainGlobals "_law_value" = some (some (.ref f33))) (l33:K.lookup f33=some ⟨oc33,od33,.func (PySem.W.fnOf "_law_value" "_law_value" (zn xS) (zl xS) (zf xS) .none kV33 dc33 pm33 an33 cd33 ct33),sl33⟩) (c33:PySem.W.codeIn K cd33 "_law_value" = true) (k33:PySem.W.keepIn K (.ref f33)=true)
  {f34:Addr}{od34 an34:Option Addr}{sl34:Array (Option Value)}{oc34 kV34 dc34 pm34 cd34 ct34:Value}
  (a34:PySem.W.nsIn K mainGlobals "_law_read" = some (some (.ref f34))) (l34:K.lookup f34=some ⟨oc34,od34,.func (PySem.W.fnOf "_law_read" "_law_read" (zn x6) (zl x6) (zf x6) .none kV34 dc34 pm34 an34 cd34 ct34),sl34⟩) (c34:PySem.W.codeIn K cd34 "_law_read" = true) (k34:PySem.W.keepIn K (.ref f34)=true)
  {f35:Addr}{od35 an35:Option Addr}{sl35:Array (Option Value)}{oc35 kV35 dc35 pm35 cd35 ct35:Value}
  (a35:PySem.W.nsIn K mainGlobals "_law_bent" = some (some (.ref f35))) (l35:K.lookup f35=some ⟨oc35,od35,.func (PySem.W.fnOf "_law_bent" "_law_bent" (zn x0) (zl x0) (zf x0) .none kV35 dc35 pm35 an35 cd35 ct35),sl35⟩) (c35:PySem.W.codeIn K cd35 "_law_bent" = true) (k35:PySem.W.keepIn K (.ref f35)=true)
  {f36:Addr}{od36 an36:Option Addr}{sl36:Array (Option Value)}{oc36 kV36 dc36 pm36 cd36 ct36:Value}
  (a36:PySem.W.nsIn K mainGlobals "_law_amiss" = some (some (.ref f36))) (l36:K.lookup f36=some ⟨oc36,od36,.func (PySem.W.fnOf "_law_amiss" "_law_amiss" (zn xQ) (zl xQ) (zf xQ) .none kV36 dc36 pm36 an36 cd36 ct36),sl36⟩) (c36:PySem.W.codeIn K cd36 "_law_amiss" = true) (k36:PySem.W.keepIn K (.ref f36)=true)
  {f37:Addr}{od37 an37:Option Addr}{sl37:Array (Option Value)}{oc37 kV37 dc37 pm37 cd37 ct37:Value}
  (a37:PySem.W.nsIn K mainGlobals "_law_refused" = some (some (.ref f37))) (l37:K.lookup f37=some ⟨oc37,od37,.func (PySem.W.fnOf "_law_refused" "_law_refused" (zn xv) (zl xv) (zf xv) .none kV37 dc37 pm37 an37 cd37 ct37),sl37⟩) (c37:PySem.W.codeIn K cd37 "_law_refused" = true) (k37:PySem.W.keepIn K (.ref f37)=true)
  {f38:Addr}{od38 an38:Option Addr}{sl38:Array (Option Value)}{oc38 kV38 dc38 pm38 cd38 ct38:Value}
  (a38:PySem.W.nsIn K mainGlobals "_law_told" = some (some (.ref f38))) (l38:K.lookup f38=some ⟨oc38,od38,.func (PySem.W.fnOf "_law_told" "_law_told" (zn x8) (zl x8) (zf x8) .none kV38 dc38 pm38 an38 cd38 ct38),sl38⟩) (c38:PySem.W.codeIn K cd38 "_law_told" = true) (k38:PySem.W.keepIn K (.ref f38)=true)
  {f39:Addr}{od39 an39:Option Addr}{sl39:Array (Option Value)}{oc39 kV39 dc39 pm39 cd39 ct39:Value}
  (a39:PySem.W.nsIn K mainGlobals "law" = some (some (.ref f39))) (l39:K.lookup f39=some ⟨oc39,od39,.func (PySem.W.fnOf "law" "law" (zn s_law) (zl s_law) (zf s_law) .none kV39 dc39 pm39 an39 cd39 ct39),sl39⟩) (c39:PySem.W.codeIn K cd39 "law" = true) (k39:PySem.W.keepIn K (.ref f39)=true)
  (z_isinstance:PySem.W.nsIn K mainGlobals "isinstance" = some none)
  (z_int:PySem.W.nsIn K mainGlobals "int" = some none)
  (z_bool:PySem.W.nsIn K mainGlobals "bool" = some none)
  (z_abs:PySem.W.nsIn K mainGlobals "abs" = some none)
  (z_len:PySem.W.nsIn K mainGlobals "len" = some none)
  (z_max:PySem.W.nsIn K mainGlobals "max" = some none)
  (z_min:PySem.W.nsIn K mainGlobals "min" = some none)
  (z_range:PySem.W.nsIn K mainGlobals "range" = some none)
  (z_tuple:PySem.W.nsIn K mainGlobals "tuple" = some none)
  (z_sum:PySem.W.nsIn K mainGlobals "sum" = some none)
  (z_str:PySem.W.nsIn K mainGlobals "str" = some none)
  (z_all:PySem.W.nsIn K mainGlobals "all" = some none)
  (z_list:PySem.W.nsIn K mainGlobals "list" = some none)
  (z_divmod:PySem.W.nsIn K mainGlobals "divmod" = some none)
  {C_NoText:Addr}(a_NoText:PySem.W.nsIn K mainGlobals "NoText" = some (some (.ref C_NoText))) (x_NoText:PySem.W.excIn K C_NoText zaJ "ValueError.__new__" = true)
  {tk_FIGURES:Tok}(v_FIGURES:PySem.W.nsIn K mainGlobals "FIGURES" = some (some (.str "0123456789" tk_FIGURES)))
  {tk_MOST_FIGURES:Tok}(v_MOST_FIGURES:PySem.W.nsIn K mainGlobals "MOST_FIGURES" = some (some (.int 300 tk_MOST_FIGURES))) :
  ∃fd:FuncData,(∀(s:Shared) (v:Value),BindsTo s fd ⟨[v],[]⟩ [("script",v)])/\∀base:Heap,K.In base->base.Ns mainGlobals mg->vh l.prog w K mg base CX0 8 fa fd ["script"] (XC K):=by
 have e:=hfa.symm.trans (PySem.W.mg_of X G a39)
 cases e
 have d_is_whole:Df K mg "is_whole" xZ ["thing"] []:=zN l0 c0 k0 (PySem.W.mg_of X G a0) λus hl=>match us,hl with | [_],_=>rfl
 have d_is_tuple:Df K mg "is_tuple" xY ["thing","many"] []:=zN l1 c1 k1 (PySem.W.mg_of X G a1) λus hl=>match us,hl with | [_,_],_=>rfl
 have d_greatest_divisor:Df K mg "greatest_divisor" zP ["one","other"] []:=zN l2 c2 k2 (PySem.W.mg_of X G a2) λus hl=>match us,hl with | [_,_],_=>rfl
 have d_is_ratio:Df K mg "is_ratio" xX ["thing"] []:=zN l3 c3 k3 (PySem.W.mg_of X G a3) λus hl=>match us,hl with | [_],_=>rfl
 have d_less:Df K mg "less" vU ["one","other"] []:=zN l4 c4 k4 (PySem.W.mg_of X G a4) λus hl=>match us,hl with | [_,_],_=>rfl
 have d_is_wall:Df K mg "is_wall" qk ["thing"] []:=zN l5 c5 k5 (PySem.W.mg_of X G a5) λus hl=>match us,hl with | [_],_=>rfl
 have d_is_wall_pair:Df K mg "is_wall_pair" xl ["thing"] []:=zN l6 c6 k6 (PySem.W.mg_of X G a6) λus hl=>match us,hl with | [_],_=>rfl
 have d_walls_good:Df K mg "walls_good" xD ["thing"] []:=zN l7 c7 k7 (PySem.W.mg_of X G a7) λus hl=>match us,hl with | [_],_=>rfl
 have d_is_ball_form:Df K mg "is_ball_form" xW ["thing"] []:=zN l8 c8 k8 (PySem.W.mg_of X G a8) λus hl=>match us,hl with | [_],_=>rfl
 have d_is_weight:Df K mg "is_weight" qt ["thing"] []:=zN l9 c9 k9 (PySem.W.mg_of X G a9) λus hl=>match us,hl with | [_],_=>rfl
 have d_is_ball:Df K mg "is_ball" qY ["thing"] []:=zN l10 c10 k10 (PySem.W.mg_of X G a10) λus hl=>match us,hl with | [_],_=>rfl
 have d_follows:Df K mg "follows" qX ["left","right"] []:=zN l11 c11 k11 (PySem.W.mg_of X G a11) λus hl=>match us,hl with | [_,_],_=>rfl
 have d_is_ordered:Df K mg "is_ordered" qg ["row"] []:=zN l12 c12 k12 (PySem.W.mg_of X G a12) λus hl=>match us,hl with | [_],_=>rfl
 have d_keeps_side:Df K mg "keeps_side" qh ["left","right"] []:=zN l13 c13 k13 (PySem.W.mg_of X G a13) λus hl=>match us,hl with | [_,_],_=>rfl
 have d_is_between:Df K mg "is_between" qf ["walls","row"] []:=zN l14 c14 k14 (PySem.W.mg_of X G a14) λus hl=>match us,hl with | [_,_],_=>rfl
 have d_is_row:Df K mg "is_row" vH ["walls","thing"] []:=zN l15 c15 k15 (PySem.W.mg_of X G a15) λus hl=>match us,hl with | [_,_],_=>rfl
 have d_number_text:Df K mg "number_text" zR ["number"] []:=zN l16 c16 k16 (PySem.W.mg_of X G a16) λus hl=>match us,hl with | [_],_=>rfl
 have d_ratio_text:Df K mg "ratio_text" xB ["one"] []:=zN l17 c17 k17 (PySem.W.mg_of X G a17) λus hl=>match us,hl with | [_],_=>rfl
 have d_parts_of:Df K mg "parts_of" xL ["thing","sign","many"] []:=zN l18 c18 k18 (PySem.W.mg_of X G a18) λus hl=>match us,hl with | [_,_,_],_=>rfl
 have d_read_number:Df K mg "read_number" xw ["text","most"] []:=zN l19 c19 k19 (PySem.W.mg_of X G a19) λus hl=>match us,hl with | [_,_],_=>rfl
 have d_read_whole:Df K mg "read_whole" xC ["text"] []:=zN l20 c20 k20 (PySem.W.mg_of X G a20) λus hl=>match us,hl with | [_],_=>rfl
 have d_read_ratio:Df K mg "read_ratio" xr ["thing"] []:=zN l21 c21 k21 (PySem.W.mg_of X G a21) λus hl=>match us,hl with | [_],_=>rfl
 have d_read_ball:Df K mg "read_ball" xT ["text"] []:=zN l22 c22 k22 (PySem.W.mg_of X G a22) λus hl=>match us,hl with | [_],_=>rfl
 have d_read_row:Df K mg "read_row" xM ["thing"] []:=zN l23 c23 k23 (PySem.W.mg_of X G a23) λus hl=>match us,hl with | [_],_=>rfl
 have d_wall_read:Df K mg "wall_read" xU ["text"] []:=zN l24 c24 k24 (PySem.W.mg_of X G a24) λus hl=>match us,hl with | [_],_=>rfl
 have d_walls_read:Df K mg "walls_read" xt ["thing"] []:=zN l25 c25 k25 (PySem.W.mg_of X G a25) λus hl=>match us,hl with | [_],_=>rfl
 have d_law_pool:Df K mg "_law_pool" x5 ["cell"] []:=zN l26 c26 k26 (PySem.W.mg_of X G a26) λus hl=>match us,hl with | [_],_=>rfl
 have d_law_next:Df K mg "_law_next" xK ["pool","base"] []:=zN l27 c27 k27 (PySem.W.mg_of X G a27) λus hl=>match us,hl with | [_,_],_=>rfl
 have d_law_common:Df K mg "_law_common" xA ["one","other"] []:=zN l28 c28 k28 (PySem.W.mg_of X G a28) λus hl=>match us,hl with | [_,_],_=>rfl
 have d_law_low:Df K mg "_law_low" ql ["top","bottom"] []:=zN l29 c29 k29 (PySem.W.mg_of X G a29) λus hl=>match us,hl with | [_,_],_=>rfl
 have d_law_ratio:Df K mg "_law_ratio" xR ["pool"] []:=zN l30 c30 k30 (PySem.W.mg_of X G a30) λus hl=>match us,hl with | [_],_=>rfl
 have d_law_figures:Df K mg "_law_figures" xu ["number"] []:=zN l31 c31 k31 (PySem.W.mg_of X G a31) λus hl=>match us,hl with | [_],_=>rfl
 have d_law_ratio_text:Df K mg "_law_ratio_text" zZ ["one"] []:=zN l32 c32 k32 (PySem.W.mg_of X G a32) λus hl=>match us,hl with | [_],_=>rfl
 have d_law_value:Df K mg "_law_value" xS ["text"] []:=zN l33 c33 k33 (PySem.W.mg_of X G a33) λus hl=>match us,hl with | [_],_=>rfl
 have d_law_read:Df K mg "_law_read" x6 ["text"] []:=zN l34 c34 k34 (PySem.W.mg_of X G a34) λus hl=>match us,hl with | [_],_=>rfl
 have d_law_bent:Df K mg "_law_bent" x0 ["text","pool"] []:=zN l35 c35 k35 (PySem.W.mg_of X G a35) λus hl=>match us,hl with | [_,_],_=>rfl
 have d_law_amiss:Df K mg "_law_amiss" xQ ["one","pool"] []:=zN l36 c36 k36 (PySem.W.mg_of X G a36) λus hl=>match us,hl with | [_,_],_=>rfl
 have d_law_refused:Df K mg "_law_refused" xv ["way","thing"] []:=zN l37 c37 k37 (PySem.W.mg_of X G a37) λus hl=>match us,hl with | [_,_],_=>rfl
 have d_law_told:Df K mg "_law_told" x8 ["text"] []:=zN l38 c38 k38 (PySem.W.mg_of X G a38) λus hl=>match us,hl with | [_],_=>rfl
 have T:TxB K mg:=⟨J8 K,J7 K,PySem.W.mg_none_of X G z_isinstance,PySem.W.mg_none_of X G z_int,PySem.W.mg_none_of X G z_bool,PySem.W.mg_none_of X G z_abs,PySem.W.mg_none_of X G z_len,PySem.W.mg_none_of X G z_max,PySem.W.mg_none_of X G z_min,PySem.W.mg_none_of X G z_range,PySem.W.mg_none_of X G z_tuple,PySem.W.mg_none_of X G z_sum⟩
 have F:=JY (st:=s_law) l39 c39 k39
 refine⟨PySem.W.fnOf "law" "law" (zn s_law) (zl s_law) (zf s_law) .none kV39 dc39 pm39 an39 cd39 ct39,λs v=>.of_eq rfl,λbase hKb hGb=>?_⟩
 have TS:TxS K mg:=⟨J9 K,zaa K,PySem.W.mg_none_of X G z_str,PySem.W.mg_none_of X G z_all,PySem.W.mg_none_of X G z_list⟩
 have TS9:Tx9 K mg:=⟨PySem.W.mg_none_of X G z_divmod⟩
 have TN:TxN K:=⟨by with_unfolding_all rfl,by with_unfolding_all rfl,by with_unfolding_all rfl,by with_unfolding_all rfl,by with_unfolding_all rfl⟩
 have TF:TxF mg tk_FIGURES tk_MOST_FIGURES:=⟨PySem.W.mg_of X G v_FIGURES,PySem.W.mg_of X G v_MOST_FIGURES⟩
 have O:=zas hKb hGb a_NoText x_NoText
 have cW:=QN (P:=l.prog) (w:=w) (base:=base) d_is_whole T
 have cG:=zag (P:=l.prog) (w:=w) (base:=base) d_greatest_divisor
 have cTu:=QF (P:=l.prog) (w:=w) (base:=base) d_is_tuple T TS
 have cIr:=zah d_is_ratio T cTu cW cG
 have cWa:=XX d_is_wall cTu cIr
 have cWp:=VO d_is_wall_pair cTu cWa
 have cLs:=VY (P:=l.prog) (w:=w) (base:=base) d_less
 have cWg:=QM d_walls_good cWp cLs
 have c0:=VX (P:=l.prog) (w:=w) (base:=base) d_number_text TS TS9
 have cNt:=zak d_number_text TS TS9 c0
 have cRt:=zao d_ratio_text cNt
 have cPs:=zal (P:=l.prog) (w:=w) d_parts_of T TS O
 have cPsN:=VZ (P:=l.prog) (w:=w) d_parts_of T TS O
 have cRn:=V1 (P:=l.prog) (w:=w) d_read_number T TS TF O
 have cRw:=zap d_read_whole TF O cRn
 have cRr:=V2 d_read_ratio T TF O cPs cRn cRw cIr
 have cRrN:=zam d_read_ratio cPsN
 have cBa:=V0 d_read_ball TF cPs cRn cRr
 have cRo:=QK d_read_row T cPs cBa
 have cRoN:=QL d_read_row T cPsN cBa
 have cWr:=zaq d_wall_read cPs cRr
 have cWs:=V3 d_walls_read O cPs cWr cWg
 have cWsN:=zar d_walls_read cPsN
 have cRq:=zan cRr
 have cD:=zaf (P:=l.prog) (w:=w) (base:=base) d_law_pool T
 have cNB:=QI (P:=l.prog) (w:=w) (base:=base) d_law_next
 have cN:=QJ cNB
 have cC:=VQ (P:=l.prog) (w:=w) (base:=base) d_law_common
 have cL:=VS d_law_low T cC
 have cRa:=VT d_law_ratio cNB cL
 have cFi:=VR (P:=l.prog) (w:=w) (base:=base) d_law_figures T
 have cLt:=zaj d_law_ratio_text cFi
 have cVa:=VW (P:=l.prog) (w:=w) (base:=base) d_law_value T
 have cRd:=QH d_law_read T cVa cC
 have cBe:=QG d_law_bent T cN
 have cAm:=VP d_law_amiss T cNB cFi
 have cRf:=VU d_law_refused O cRr cRo cWs cRrN cRoN cWsN
 have cTo:=VV d_law_told O cRr
 exact zai F T TS TN cD cN cRa cLt cRt cRq cRf cAm cBe cTo cRd
theorem walk {l:PySem.W.OpenLaw}{q:Program}{loose:List Str}{XP:(Str->Option Value)->Heap->Prop}{YP:World->Heap->Prop}{d:DefRec}{K:Params->PySem.W.Frag}(hn:l.most=some 63) (hdf:d.params.defaults=[])
  (hY:∀(w:World) (h:Heap),YP w h->(K w.params).In h)
  (F:∀(w:World) (mg:Str->Option Value) (fa:Addr) (h:Heap),(K w.params).In h->h.Ns mainGlobals mg->mg d.name=some (.ref fa) →
   ∃fd:FuncData,(∀(s:Shared) (u:Value),BindsTo s fd ⟨[u],[]⟩ [("script",u)])/\∀base:Heap,(K w.params).In base->base.Ns mainGlobals mg->vh l.prog w (K w.params) mg base CX0 8 fa fd ["script"] (XC (K w.params))) :
  PySem.W.WalkO q loose XP YP l.row.toRowW d [] (λf vs=>PySem.call f vs) :=
 L2.Jm (n:=63) (k:=8) (x:="script") (CX:=λ_=>CX0) (sp:=λw=>XC (K w.params)) hn (by decide) hdf ⟨rfl,by decide,by decide⟩ hY F (λ_ _ a ns hl _ hS=>⟨a,ns,rfl,hS,hl,λ_=>rfl⟩) λ_ _ _ _ _ z=>z
end KK
open PySem PySem.W PyProof.Rows
set_option maxRecDepth 100000 in
set_option maxHeartbeats 0 in
theorem PySem.Challenge.cw_clackrow_k69_whole_ratios_written_and_re_holds : PySem.Challenge.rw_clackrow_k69_whole_ratios_written_and_re.Holds := by
 w_on;o_law;k_head;(case hw=>w_witness2)
 k_fill
 refine KK.walk (l:=PySem.Challenge.rw_clackrow_k69_whole_ratios_written_and_re) rfl rfl (λw h Y=>PySem.W.kIn_of Y) ?F
 case F =>
  intro w mg fa h KX G hmg
  refine' KK.JO KX G hmg ?a0 ?l0 ?c0 ?k0 ?a1 ?l1 ?c1 ?k1 ?a2 ?l2 ?c2 ?k2 ?a3 ?l3 ?c3 ?k3 ?a4 ?l4 ?c4 ?k4 ?a5 ?l5 ?c5 ?k5 ?a6 ?l6 ?c6 ?k6 ?a7 ?l7 ?c7 ?k7 ?a8 ?l8 ?c8 ?k8 ?a9 ?l9 ?c9 ?k9 ?a10 ?l10 ?c10 ?k10 ?a11 ?l11 ?c11 ?k11 ?a12 ?l12 ?c12 ?k12 ?a13 ?l13 ?c13 ?k13 ?a14 ?l14 ?c14 ?k14 ?a15 ?l15 ?c15 ?k15 ?a16 ?l16 ?c16 ?k16 ?a17 ?l17 ?c17 ?k17 ?a18 ?l18 ?c18 ?k18 ?a19 ?l19 ?c19 ?k19 ?a20 ?l20 ?c20 ?k20 ?a21 ?l21 ?c21 ?k21 ?a22 ?l22 ?c22 ?k22 ?a23 ?l23 ?c23 ?k23 ?a24 ?l24 ?c24 ?k24 ?a25 ?l25 ?c25 ?k25 ?a26 ?l26 ?c26 ?k26 ?a27 ?l27 ?c27 ?k27 ?a28 ?l28 ?c28 ?k28 ?a29 ?l29 ?c29 ?k29 ?a30 ?l30 ?c30 ?k30 ?a31 ?l31 ?c31 ?k31 ?a32 ?l32 ?c32 ?k32 ?a33 ?l33 ?c33 ?k33 ?a34 ?l34 ?c34 ?k34 ?a35 ?l35 ?c35 ?k35 ?a36 ?l36 ?c36 ?k36 ?a37 ?l37 ?c37 ?k37 ?a38 ?l38 ?c38 ?k38 ?a39 ?l39 ?c39 ?k39 ?z_isinstance ?z_int ?z_bool ?z_abs ?z_len ?z_max ?z_min ?z_range ?z_tuple ?z_sum ?z_str ?z_all ?z_list ?z_divmod ?a_NoText ?x_NoText ?v_FIGURES ?v_MOST_FIGURES
  (case a0=>k_is)
  (case l0=>k_is)
  (case c0=>k_is)
  (case k0=>k_is)
  (case a1=>k_is)
  (case l1=>k_is)
  (case c1=>k_is)
  (case k1=>k_is)
  (case a2=>k_is)
  (case l2=>k_is)
  (case c2=>k_is)
  (case k2=>k_is)
  (case a3=>k_is)
  (case l3=>k_is)
  (case c3=>k_is)
  (case k3=>k_is)
  (case a4=>k_is)
  (case l4=>k_is)
  (case c4=>k_is)
  (case k4=>k_is)
  (case a5=>k_is)
  (case l5=>k_is)
  (case c5=>k_is)
  (case k5=>k_is)
  (case a6=>k_is)
  (case l6=>k_is)
  (case c6=>k_is)
  (case k6=>k_is)
  (case a7=>k_is)
  (case l7=>k_is)
  (case c7=>k_is)
  (case k7=>k_is)
  (case a8=>k_is)
  (case l8=>k_is)
  (case c8=>k_is)
  (case k8=>k_is)
  (case a9=>k_is)
  (case l9=>k_is)
  (case c9=>k_is)
  (case k9=>k_is)
  (case a10=>k_is)
  (case l10=>k_is)
  (case c10=>k_is)
  (case k10=>k_is)
  (case a11=>k_is)
  (case l11=>k_is)
  (case c11=>k_is)
  (case k11=>k_is)
  (case a12=>k_is)
  (case l12=>k_is)
  (case c12=>k_is)
  (case k12=>k_is)
  (case a13=>k_is)
  (case l13=>k_is)
  (case c13=>k_is)
  (case k13=>k_is)
  (case a14=>k_is)
  (case l14=>k_is)
  (case c14=>k_is)
  (case k14=>k_is)
  (case a15=>k_is)
  (case l15=>k_is)
  (case c15=>k_is)
  (case k15=>k_is)
  (case a16=>k_is)
  (case l16=>k_is)
  (case c16=>k_is)
  (case k16=>k_is)
  (case a17=>k_is)
  (case l17=>k_is)
  (case c17=>k_is)
  (case k17=>k_is)
  (case a18=>k_is)
  (case l18=>k_is)
  (case c18=>k_is)
  (case k18=>k_is)
  (case a19=>k_is)
  (case l19=>k_is)
  (case c19=>k_is)
  (case k19=>k_is)
  (case a20=>k_is)
  (case l20=>k_is)
  (case c20=>k_is)
  (case k20=>k_is)
  (case a21=>k_is)
  (case l21=>k_is)
  (case c21=>k_is)
  (case k21=>k_is)
  (case a22=>k_is)
  (case l22=>k_is)
  (case c22=>k_is)
  (case k22=>k_is)
  (case a23=>k_is)
  (case l23=>k_is)
  (case c23=>k_is)
  (case k23=>k_is)
  (case a24=>k_is)
  (case l24=>k_is)
  (case c24=>k_is)
  (case k24=>k_is)
  (case a25=>k_is)
  (case l25=>k_is)
  (case c25=>k_is)
  (case k25=>k_is)
  (case a26=>k_is)
  (case l26=>k_is)
  (case c26=>k_is)
  (case k26=>k_is)
  (case a27=>k_is)
  (case l27=>k_is)
  (case c27=>k_is)
  (case k27=>k_is)
  (case a28=>k_is)
  (case l28=>k_is)
  (case c28=>k_is)
  (case k28=>k_is)
  (case a29=>k_is)
  (case l29=>k_is)
  (case c29=>k_is)
  (case k29=>k_is)
  (case a30=>k_is)
  (case l30=>k_is)
  (case c30=>k_is)
  (case k30=>k_is)
  (case a31=>k_is)
  (case l31=>k_is)
  (case c31=>k_is)
  (case k31=>k_is)
  (case a32=>k_is)
  (case l32=>k_is)
  (case c32=>k_is)
  (case k32=>k_is)
  (case a33=>k_is)
  (case l33=>k_is)
  (case c33=>k_is)
  (case k33=>k_is)
  (case a34=>k_is)
  (case l34=>k_is)
  (case c34=>k_is)
  (case k34=>k_is)
  (case a35=>k_is)
  (case l35=>k_is)
  (case c35=>k_is)
  (case k35=>k_is)
  (case a36=>k_is)
  (case l36=>k_is)
  (case c36=>k_is)
  (case k36=>k_is)
  (case a37=>k_is)
  (case l37=>k_is)
  (case c37=>k_is)
  (case k37=>k_is)
  (case a38=>k_is)
  (case l38=>k_is)
  (case c38=>k_is)
  (case k38=>k_is)
  (case a39=>k_is)
  (case l39=>k_is)
  (case c39=>k_is)
  (case k39=>k_is)
  (case z_isinstance=>k_is)
  (case z_int=>k_is)
  (case z_bool=>k_is)
  (case z_abs=>k_is)
  (case z_len=>k_is)
  (case z_max=>k_is)
  (case z_min=>k_is)
  (case z_range=>k_is)
  (case z_tuple=>k_is)
  (case z_sum=>k_is)
  (case z_str=>k_is)
  (case z_all=>k_is)
  (case z_list=>k_is)
  (case z_divmod=>k_is)
  (case a_NoText=>k_is)
  (case x_NoText=>k_exc)
  (case v_FIGURES=>k_is)
  (case v_MOST_FIGURES=>k_is)
end
