import PyProof.Rows.All
import Wide.All
import OpenK.AllK
import Wide.FinOn
import Lean
import PyProof.EqAt
import PyProof.EqKinds
import PyProof.TupleCall
import PyProof.CompFree
import PyProof.Rows.SumAny
import PyProof.ZipIter
import PyProof.ConsumeWalk
import PySem.Challenge.RW_clackrow_k12_groups_of_one_weight
import KE.KSortKey
import KE.KLam
import KE.KNestM
set_option Elab.async false
set_option linter.all false
set_option maxRecDepth 100000
set_option maxHeartbeats 8000000
section
open PySem PySem.Spec PyProof.Rows
abbrev Fg:=PySem.W.Frag
def zL0:0<=sizeLine:=by decide
def zL1:1<=sizeLine:=by decide
def zL2:2<=sizeLine:=by decide
def zL3:3<=sizeLine:=by decide
def zL4:4<=sizeLine:=by decide
def zL8:8<=sizeLine:=by decide
def wc:=@wpAny_bind
def wd:=@Heap.get?_push_of_some
def we:=@List.length_map
def wf:=@List.getElem?_eq_getElem
def wg:=@List.getElem?_map
def wj:=@List.mem_of_getElem?
def wk:=@List.getElem?_eq_some_iff
def wm:=@List.getElem?_append_right
def wn:=@PySem.W.mg_of
def wo:=@wpAny_pure
def wq:=@decide_eq_true
def wu:=@List.getElem?_append_left
def ww:=@List.mem_map
def wx:=@Nat.le_refl
def wy:=@List.mem_cons
def wz:=@List.size_toArray
def wA:=@Heap.lt_size
def wB:=@Heap.get?_push_size
def wC:=@List.mem_append_right
def wD:=@of_decide_eq_true
def wE:=@List.length_append
def wF:=@List.mem_singleton
def wG:=@List.length_cons
def wH:=@decide_eq_true_eq
def wI:=@decide_eq_false
def wJ:=@List.mem_cons_self
def wK:=@Nat.lt_of_lt_of_le
def wL:=@Bool.false_ne_true
def wM:=@List.take_of_length_le
def wN:=@List.mem_append
def wO:=@Nat.ne_of_lt
def wP:=@List.mem_cons_of_mem
def wQ:=@List.not_mem_nil
def wR:=@PySem.W.mg_none_of
def wS:=@Nat.le_trans
def wT:=@List.mem_append_left
def wU:=@List.append_assoc
def wV:=@List.map_map
def wW:=@List.length_drop
def wX:=@List.pairwise_append
def wY:=@List.getElem?_eq_none
def wZ:=@wpAny_field
def w4:=@List.pairwise_cons
def w5:=@List.length_take
def w8:=@List.map_append
def ya:=@List.drop_eq_getElem_cons
def yb:=@List.append_nil
def yc:=@Int.mul_ne_zero
def yd:=@Int.fdiv_eq_ediv_of_nonneg
def ye:=@List.map_cons
def yf:=@PySem.F.plainAttrs_list
def yg:=@Nat.zero_le
def yh:=@wpAny_holding
def yi:=@PyProof.Rows.slot_tuple_getitem
def yj:=@wpAny_newObj_type
def yk:=@List.getElem?_drop
def yl:=@PyProof.Rows.boot_tuple
def ym:=@List.take_add_one
def yn:=@List.getElem?_zip_eq_some
def yo:=@Heap.get?_update_other
def yp:=@Heap.get?_update_self
def yq:=@Int.toNat_natCast
def yr:=@List.pairwise_map
def yt:=@List.pairwise_singleton
def yu:=@wpAny_mono
def yv:=@Bool.eq_iff_iff
def yw:=@Heap.size_push
def yx:=@PySem.W.kia_one
def yy:=@wpAny_seqItems
def yz:=@Rat.divInt_eq_div
def yA:=@PySem.F.slot_list_append
def yB:=@PySem.F.type_list_append
def yC:=@PyProof.Rows.callWith_type1
def yD:=@List.filter_append
def yE:=@Int.gcd_pos_of_ne_zero_left
def yF:=@Int.gcd_dvd_left
def yG:=@wpAny_call_entry
def yH:=@List.replicate_succ
def yI:=@wpAny_truthy_bool
def yJ:=@List.length_nil
def yK:=@Rat.intCast_mul
def yL:=@wpAny_Call_Name_kw
def yM:=@Bool.and_eq_true
def yN:=@Nat.le_add_right
def yO:=@List.getElem?_of_mem
def yP:=@List.mem_of_mem_drop
def yQ:=@List.mem_of_mem_take
def yR:=@Int.fdiv_eq_ediv_of_dvd
def yS:=@PyProof.Rows.boot_isinstance
def yT:=@List.dropLast_concat_getLast
def yU:=@Array.length_toList
def yV:=@PyProof.Rows.boot_list
def yW:=@Array.getElem?_eq_some_iff
def yX:=@List.length_replicate
def yY:=@Bool.false_eq_true
def yZ:=@Nat.eq_zero_or_pos
def y6:=@PyProof.Rows.boot_abs
def y7:=@List.getElem?_take
def y9:=@wpAny_setField_rec
def ua:=@List.length_zip
def uc:=@wpAny_passesOwn
def ue:=@Nat.lt_irrefl
def uf:=@Int.eq_ofNat_of_zero_le
def uh:=@List.take_succ_cons
def uj:=@List.length_reverse
def uk:=@List.map_congr_left
def ul:=@wpAny_standAt
def um:=@wpAny_setField
def uo:=@Option.map_eq_some_iff
def uq:=@List.drop_eq_nil_of_le
def ut:=@Int.emod_lt_of_pos
def uu:=@List.of_mem_zip
def uw:=@List.map_nil
def uy:=@List.nil_append
def uz:=@List.length_filter_le
def uA:=@List.find?_cons
def uB:=@Nat.lt_or_ge
def uC:=@Rat.mul_lt_mul_of_pos_right
def uD:=@List.flatten_cons
def uE:=@List.ext_getElem?
def uF:=@wpAny_rule
def uG:=@wpAny_loadPart_at
def uH:=@Option.map_map
def uI:=@List.pairwise_iff_getElem
def uJ:=@Int.ediv_le_self
def uK:=@List.getElem_mem
def uL:=@Heap.get?_update_ne
def uM:=@Nat.ne_of_gt
def uN:=@PySem.F.args_tuple_add_2
def uO:=@PySem.F.slot_list_insert
def uP:=@PySem.F.type_list_insert
def uQ:=@List.eq_of_mem_replicate
def uR:=@List.getElem?_replicate
def uS:=@PySem.F.entry_tuple_add
def uT:=@List.length_set
def uU:=@Nat.lt_of_le_of_lt
def uV:=@Bool.false_or
def uW:=@List.getElem?_tail
def uX:=@Int.emod_nonneg
def uY:=@List.filter_cons_of_pos
def uZ:=@Nat.add_sub_cancel_left
def u5:=@PySem.W.cellsFrom_some
def u6:=@PySem.F.slot_tuple_add
def u7:=@List.drop_of_length_le
def u8:=@Rat.intCast_le_intCast
def u9:=@Array.getElem?_setIfInBounds_ne
def Wa:=@List.foldl_append
def Wb:=@List.getElem?_set
def Wc:=@wpAny_pyIter_list
def Wd:=@List.length_singleton
def We:=@Rat.mul_le_mul_of_nonneg_right
def Wf:=@wpAny_typeOf
def Wg:=@List.all_eq_true
def Wh:=@List.take_length
def Wi:=@List.mem_reverse
def Wj:=@Heap.get?_none_of_le
def Wk:=@List.map_take
def Wm:=@List.map_drop
def Wn:=@Bool.true_and
def Wo:=@wpAny_call
def Wp:=@List.filterMap_cons
def Wq:=@List.nodup_cons
def Wr:=@Int.ediv_mul_cancel
def Ws:=@List.getElem?_range
def Wt:=@List.drop_succ_cons
def Wu:=@Bool.or_eq_true
def Wv:=@wpAny_execs_nil
def Ww:=@PySem.F.excBase_ValueError
def Wx:=@wpAny_newFunctionEnv_cells
def Wy:=@Array.append_assoc
def Wz:=@Nat.le_of_lt
def WA:=@List.mem_filterMap
def WB:=@Nat.le_of_eq
def WC:=@PySem.W.callWith_K
def WD:=@List.zip_cons_cons
def WE:=@Bool.false_and
def WF:=@List.getElem?_eq_none_iff
def WG:=@List.mem_or_eq_of_mem_set
def WH:=@Int.gcd_dvd_natAbs_right
def WJ:=@Int.gcd_dvd_right
def WK:=@List.length_range
def WL:=@wpAny_sequenceKey
def WM:=@wpAny_getItem_list_slice
def WN:=@wpAny_comprehension_free
def WO:=@Int.mul_pos
def WP:=@wpAny_letGo
def WQ:=@wpAny_onRaise
def WR:=@Option.getD_none
def WS:=@Rat.divInt_ofNat
def WT:=@Option.getD_some
def WU:=@List.range'_succ
def WV:=@List.cons_append
def WW:=@Nat.add_comm
def WX:=@Nat.min_eq_left
def WY:=@Nat.min_self
def WZ:=@Rat.num_eq_zero
def W0:=@Rat.zero_divInt
def W3:=@Int.ediv_nonneg
def W4:=@List.map_set
def W5:=@wpAny_specialOf
def W6:=@Rat.div_lt_iff
def W7:=@Rat.lt_div_iff
def W8:=@wpAny_listPart
def W9:=@Prod.ext
end
namespace L2
open PySem PySem.Spec PyProof.Rows
abbrev Key:=Sum Int Str
def QM:Key->Value->Bool
 | .inl k,v=>Value.isInt k v
 | .inr x,v=>Value.isStrOf x v
def keyH (w:World):Key->Int
 | .inl k=>hashInt k
 | .inr x=>hashStr w x
theorem xT:∀{k:Key}{v:Value},QM k v=true->(∃i t,k=Sum.inl i/\v=Value.int i t)\/(∃x t,k=Sum.inr x/\v=Value.str x t)
 | .inl i,v,h=>by
  obtain⟨t,e⟩:=Value.isInt_shape (k:=i) (v:=v) h
  exact .inl ⟨i,t,rfl,e⟩
 | .inr x,v,h=>by
  obtain⟨t,e⟩:=Value.isStrOf_shape (x:=x) (v:=v) h
  exact .inr ⟨x,t,rfl,e⟩
theorem zbG (i:Int) (t:Tok):QM (.inl i) (.int i t)=true:=by simp[QM,Value.isInt]
theorem zbH (x:Str) (t:Tok):QM (.inr x) (.str x t)=true:=by simp[QM,Value.isStrOf]
theorem zgE (a b:Int):decide ((Sum.inl a:Key)=Sum.inl b)=(a == b):=by
 by_cases e:a=b
 ·subst e;simp
 ·have h:¬(Sum.inl a:Key)=Sum.inl b:=λq=>e (Sum.inl.inj q)
  rw[wI h]
  exact(beq_eq_false_iff_ne.mpr e).symm
theorem zgH (a b:Str):decide ((Sum.inr a:Key)=Sum.inr b)=decide (a=b):=by
 by_cases e:a=b
 ·subst e;simp
 ·have h:¬(Sum.inr a:Key)=Sum.inr b:=λq=>e (Sum.inr.inj q)
  rw[wI h,wI e]
theorem zgF (a:Int) (b:Str):decide ((Sum.inl a:Key)=Sum.inr b)=false:=wI (λq=>nomatch q)
theorem zgG (a:Str) (b:Int):decide ((Sum.inr a:Key)=Sum.inl b)=false:=wI (λq=>nomatch q)
def qf (prog:Program) (w:World):PySem.KeyKind prog w Key where
 is:=QM
 hash:=keyH w
 inj:=λv a b ha hb=>by
  rcases xT ha with⟨i,t,rfl,rfl⟩ | ⟨x,t,rfl,rfl⟩
  ·rcases xT hb with⟨j,u,rfl,e⟩ | ⟨y,u,rfl,e⟩
   ·injection e with e1 _;rw[e1]
   ·exact nomatch e
  ·rcases xT hb with⟨j,u,rfl,e⟩ | ⟨y,u,rfl,e⟩
   ·exact nomatch e
   ·injection e with e1 _;rw[e1]
 byValue:=λk v h=>by
  rcases xT h with⟨i,t,rfl,rfl⟩ | ⟨x,t,rfl,rfl⟩ <;> rfl
 pyHash:=λhv h=>by
  rcases xT hv with⟨i,t,rfl,rfl⟩ | ⟨x,t,rfl,rfl⟩
  ·exact wpAny_pyHash_int h
  ·exact wpAny_pyHash_str h
 eqBool:=λhu hv h=>by
  rcases xT hu with⟨i,t,rfl,rfl⟩ | ⟨x,t,rfl,rfl⟩
  ·rcases xT hv with⟨j,u,rfl,rfl⟩ | ⟨y,u,rfl,rfl⟩
   ·rw[zgE]at h;exact wpAny_eqBool_int h
   ·rw[zgF]at h;exact SeqAt.EqAt.int_str i t y u _ _ _ _ h
  ·rcases xT hv with⟨j,u,rfl,rfl⟩ | ⟨y,u,rfl,rfl⟩
   ·rw[zgG]at h;exact SeqAt.EqAt.str_int x t j u _ _ _ _ h
   ·rw[zgH]at h;exact wpAny_eqBool_str h
 «strs»:=λk x t v h=>by
  rcases xT h with⟨i,u,rfl,e⟩ | ⟨y,u,rfl,e⟩
  ·exact nomatch e
  ·injection e with e1 _
   subst e1
   cases v <;> rfl
theorem VU (prog:Program) (w:World) (i:Int) (t:Tok):(qf prog w).is (.inl i) (.int i t)=true:=zbG i t
theorem VW (prog:Program) (w:World) (x:Str) (t:Tok):(qf prog w).is (.inr x) (.str x t)=true:=zbH x t
inductive V where
 | non | bl (b:Bool) | int (i:Int) | str (x:Str) | byt (b:Array UInt8) | flt (b:UInt64) | ref (a:Addr) | ty (n:String)
 deriving DecidableEq
def xr:V->Value->Prop
 | .non,u=>u=Value.none
 | .bl b,u=>u=Value.bool b
 | .int i,u=>∃t,u=Value.int i t
 | .str x,u=>∃t,u=Value.str x t
 | .byt b,u=>∃t,u=Value.bytes b t
 | .flt b,u=>∃t,u=Value.float b t
 | .ref a,u=>u=Value.ref a
 | .ty n,u=>u=Value.type n
abbrev xb:List V->List Value->Prop:=Paired xr
theorem xb.length {xs:List V}{us:List Value}(r:xb xs us):xs.length=us.length:=Paired.length r
theorem xb.get:∀{xs:List V}{us:List Value}{i:Nat}{x:V},xb xs us->xs[i]? = some x->∃u,us[i]? = some u/\xr x u
 | _,_,_,_,.nil,e=>by simp at e
 | _,_,0,_,.cons r _,e=>by simp at e;subst e;exact⟨_,rfl,r⟩
 | _,_,i+1,x,.cons _ t,e=>by
  obtain⟨u,h1,h2⟩:=xb.get (i:=i) (x:=x) t (by simpa using e)
  exact⟨u,by simpa using h1,h2⟩
theorem xb.set {x:V}{u:Value}(r:xr x u):∀{xs:List V}{us:List Value}(i:Nat),xb xs us->xb (xs.set i x) (us.set i u)
 | _,_,_,.nil=>.nil
 | _,_,0,.cons _ t=>.cons r t
 | _,_,i+1,.cons q t=>.cons q (xb.set r i t)
theorem xb.append:∀{xs ys:List V}{us ws:List Value},xb xs us->xb ys ws->xb (xs++ys) (us++ws)
 | _,_,_,_,.nil,s=>s
 | _,_,_,_,.cons r t,s=>.cons r (xb.append t s)
theorem xb.take:∀{xs:List V}{us:List Value}(n:Nat),xb xs us->xb (xs.take n) (us.take n)
 | _,_,0,_=>.nil
 | _,_,_+1,.nil=>.nil
 | _,_,n+1,.cons r t=>.cons r (xb.take n t)
theorem xb.drop:∀{xs:List V}{us:List Value}(n:Nat),xb xs us->xb (xs.drop n) (us.drop n)
 | _,_,0,r=>r
 | _,_,_+1,.nil=>.nil
 | _,_,n+1,.cons _ t=>xb.drop n t
def ZY:Option V->Option Value->Prop
 | some v,some u=>xr v u
 | none,none=>True
 | _,_=>False
def KV {κ:Type}:List (κ×V)->List (κ×Value)->Prop:=Paired λ(p:κ×V) (q:κ×Value)=>p.1=q.1/\xr p.2 q.2
def kV:Key->V
 | .inl i=>.int i
 | .inr x=>.str x
inductive HO where
 | lst (xs:List V)
 | tup (xs:List V)
 | dK (kvs:List (Key×V)) | dT (kvs:List (List Key×V))
 | set (S:Int->Bool) (n:Nat)
 | ins (C dx:Addr) (fs:List (Str×V))
 | own (x:Addr)
 | xd (fs:List (Str×V))
 | met (f x:Addr)
 | rng (lo hi:Int)
 | frz (o:Obj) (u:HO)
 | tbl (ps:Array Value)
 | ext (φ:Heap->Prop)
abbrev Hp:=Addr->Option HO
def upd (H:Hp) (a:Addr) (o:HO):Hp:=λb=>if b=a then some o else H b
theorem zg {H:Hp}{a:Addr}{o:HO}:upd H a o a=some o:=by unfold upd;rw[if_pos rfl]
theorem zE {H:Hp}{a b:Addr}{o:HO}(h:b≠a):upd H a o b=H b:=by unfold upd;rw[if_neg h]
theorem zik {H:Hp}{a b:Addr}{o u:HO}(h:H a=some o) (h':H b=some u) (d:o≠u):a≠b:=by
 intro e;subst e;rw[h]at h';exact d (Option.some.inj h')
theorem zG {H:Hp}{a b:Addr}{o:HO}(h:H a=some o) (h':H b=none):a≠b:=by
 intro e;subst e;rw[h]at h';cases h'
def zgh (h:Heap) (a:Addr):Prop:=∃o,h.get? a=some o/\o.dict=none
theorem zgh.new {h:Heap}{o:Obj}(f:o.isFreed=false:=by rfl) (d:o.dict=none:=by rfl):zgh (h.push o) h.objs.size:=⟨o,wB _ f,d⟩
section
variable (P:Program) (w:World)
def xy (H:Hp) (h:Heap) (a:Addr):HO->Prop
 | .lst xs=>xs.length<=sizeLine/\∃(its:List Value) (n:Nat),xb xs its/\h.get? a=some { cls:=.type "list",data:=.seq its.toArray n }
 | .tup xs=>(xs.length<=sizeLine/\zgh h a)/\∃its:List Value,xb xs its/\IsTup h a its.toArray
 | .dK kvs=>kvs.length<=sizeLine/\(a == sysModules)=false/\∃vs,KV kvs vs/\h.DictOf (qf P w) a vs
 | .dT kvs=>kvs.length<=sizeLine/\(a == sysModules)=false/\∃xs:List (List Key×Addr×Value),
   Paired (λ(p:List Key×V) (q:List Key×Addr×Value)=>p.1=q.1/\H q.2.1=some (.tup (p.1.map kV))/\xr p.2 q.2.2) kvs xs ∧
   ∃o es ep,h.get? a=some o/\o.ExactDict/\o.data = .dict es ep/\es.toList=xs.map (entryOfKey (tupleKind (qf P w)))/\(xs.map (·.1)).Nodup
 | .set S n=>h.SetOf (intKind P w) a S n
 | .ins C dx fs=>H dx=some (.own a)/\fs.length<=1000/\dx≠a/\h.get? a=some (PySem.W.instObj C dx) ∧
   ∃mA,h.Ns1 dx mA/\(∀f,ZY (fs.lookup f) (mA f))/\PySem.Within mA (fs.map (·.1))
 | .own _=>∃o,h.get? a=some o
 | .xd fs=>∃mA,h.Ns1 a mA/\∀f,ZY (fs.lookup f) (mA f)
 | .rng lo hi=>∃t u v,h.get? a=some { cls:=.type "range",data:=.fields #[.int lo t,.int hi u,.int 1 v] }
 | .frz o u=>h.get? a=some o/\xy H h a u
 | .tbl ps=>h.get? a=some { cls:=.none,data:=.fields ps }
 | .met f x=>h.get? a=some (PySem.W.methodObj (.ref f) (.ref x))
 | .ext φ=>φ h/\(∃o,h.get? a=some o)/\∀h1 h2:Heap,φ h1->(∀o,h1.get? a=some o->h2.get? a=some o)->φ h2
def HOk (H:Hp) (h:Heap):Prop:=∀a o,H a=some o->xy P w H h a o
end
section
variable {P:Program}{w:World}{H H':Hp}{h h':Heap}{a:Addr}{o:HO}
theorem xy.lt (x:xy P w H h a o):a<h.objs.size:=by
 cases o with
 | lst xs=>obtain⟨_,_,_,_,e⟩:=x;exact wA e
 | tup xs=>obtain⟨_,_,_,p⟩:=x;exact p.lt
 | dK kvs=>obtain⟨_,_,_,_,o,_,_,e,_⟩:=x;exact wA e
 | dT kvs=>obtain⟨_,_,_,_,o,_,_,e,_⟩:=x;exact wA e
 | set S n=>obtain⟨o,_,_,_,e,_⟩:=x;exact wA e
 | ins C dx fs=>obtain⟨_,_,_,e,_⟩:=x;exact wA e
 | own y=>obtain⟨_,e⟩:=x;exact wA e
 | xd fs=>obtain⟨_,⟨_,_,_,e,_⟩,_⟩:=x;exact wA e
 | rng lo hi=>obtain⟨_,_,_,e⟩:=x;exact wA e
 | frz ob u=>obtain⟨e,_⟩:=x;exact wA e
 | tbl ps=>exact wA (show h.get? a=some _ from x)
 | met f y=>exact wA (show h.get? a=some _ from x)
 | ext φ=>obtain⟨_,⟨_,e⟩,_⟩:=x;exact wA e
theorem Paired.mapP {α β:Type}{F G:α->β->Prop}:∀{l₁:List α}{l₂:List β},Paired F l₁ l₂->(∀a b,F a b->G a b)->Paired G l₁ l₂
 | _,_,.nil,_=>.nil
 | _,_,.cons r t,f=>.cons (f _ _ r) (Paired.mapP t f)
theorem xy.stay (x:xy P w H h a o) (k:∀b u,(b=a\/H b=some (.own a))->h.get? b=some u->h'.get? b=some u)
  (ho:∀b,H b=some (.own a)->H' b=some (.own a)) (ht:∀b xs,H b=some (.tup xs)->H' b=some (.tup xs)):xy P w H' h' a o:=by
 induction o with
 | lst xs=>obtain⟨z,its,n,r,e⟩:=x;exact⟨z,its,n,r,k _ _ (.inl rfl) e⟩
 | tup xs=>obtain⟨⟨z,od,ed,hd⟩,its,r,ob,e,c⟩:=x;exact⟨⟨z,od,k _ _ (.inl rfl) ed,hd⟩,its,r,ob,k _ _ (.inl rfl) e,c⟩
 | dK kvs=>obtain⟨z,y,vs,r,ob,es,ep,e,c⟩:=x;exact⟨z,y,vs,r,ob,es,ep,k _ _ (.inl rfl) e,c⟩
 | dT kvs =>
  obtain⟨z,y,xs,r,ob,es,ep,e,c⟩:=x
  exact⟨z,y,xs,Paired.mapP r λp q z=>⟨z.1,ht _ _ z.2.1,z.2.2⟩,ob,es,ep,k _ _ (.inl rfl) e,c⟩
 | set S n=>obtain⟨ob,es,ep,t,e,c⟩:=x;exact⟨ob,es,ep,t,k _ _ (.inl rfl) e,c⟩
 | ins C dx fs =>
  obtain⟨d,z,ne,e,mA,⟨od,es,ep,e2,c⟩,r⟩:=x
  exact⟨ho _ d,z,ne,k _ _ (.inl rfl) e,mA,⟨od,es,ep,k _ _ (.inr d) e2,c⟩,r⟩
 | own y=>obtain⟨ob,e⟩:=x;exact⟨ob,k _ _ (.inl rfl) e⟩
 | xd fs=>obtain⟨mA,⟨od,es,ep,e,c⟩,r⟩:=x;exact⟨mA,⟨od,es,ep,k _ _ (.inl rfl) e,c⟩,r⟩
 | rng lo hi=>obtain⟨t,u,v,e⟩:=x;exact⟨t,u,v,k _ _ (.inl rfl) e⟩
 | frz ob u ih=>obtain⟨e,q⟩:=x;exact⟨k _ _ (.inl rfl) e,ih q⟩
 | tbl ps =>
  have e:h.get? a=some { cls:=.none,data:=.fields ps }:=x
  show h'.get? a=some { cls:=.none,data:=.fields ps }
  exact k a _ (.inl rfl) e
 | met f y =>
  have e:h.get? a=some (PySem.W.methodObj (.ref f) (.ref y)):=x
  show h'.get? a=some (PySem.W.methodObj (.ref f) (.ref y))
  exact k a _ (.inl rfl) e
 | ext φ=>obtain⟨p,⟨o,e⟩,st⟩:=x;exact⟨st _ _ p λo q=>k _ _ (.inl rfl) q,⟨o,k _ _ (.inl rfl) e⟩,st⟩
theorem HOk.lt (x:HOk P w H h) (e:H a=some o):a<h.objs.size:=(x a o e).lt
theorem HOk.fresh (x:HOk P w H h) (e:h.objs.size<=a):H a=none:=by
 cases q:H a with
 | none=>rfl
 | some u=>exact absurd (wK (x.lt q) e) (ue _)
theorem HOk.kept (x:HOk P w H h) (k:∀b u,h.get? b=some u->h'.get? b=some u):HOk P w H h':=λa o e =>
 (x a o e).stay (λb u _ q=>k b u q) (λ_ q=>q) λ_ _ q=>q
theorem HOk.laid (x:HOk P w H h) (k:∀b u,h.get? b=some u->h'.get? b=some u) (hp:h.objs.size<=a) (new:xy P w (upd H a o) h' a o):HOk P w (upd H a o) h':=λb u e=>by
 have hn:=x.fresh hp
 by_cases hb:b=a
 ·subst hb;rw[zg]at e;cases e;exact new
 ·rw[zE hb]at e
  exact(x b u e).stay (λc v _ q=>k c v q) (λc q=>by rw[zE (zG q hn)];exact q) λc xs q=>by rw[zE (zG q hn)];exact q
end
def Rd (H:Hp) (a:Addr) (u:HO):Prop:=H a=some u\/∃o,H a=some (.frz o u)
theorem Rd.ok {P:Program}{w:World}{H:Hp}{h:Heap}{a:Addr}{u:HO}(r:Rd H a u) (x:HOk P w H h):xy P w H h a u:=by
 rcases r with r | ⟨o,r⟩
 ·exact x a u r
 ·obtain⟨_,q⟩:=x a _ r
  exact q
def Mut:Option HO->Prop
 | some (.lst _)=>True
 | some (.dK _)=>True
 | some (.dT _)=>True
 | some (.set _ _)=>True
 | some (.ins _ _ _)=>True
 | some (.ext _)=>True
 | _=>False
section
variable {P:Program}{w:World}{H:Hp}{h h':Heap}{x e:Addr}{o':HO}
theorem HOk.write (ok:HOk P w H h) (mu:Mut (H x)) (he:e=x\/H e=some (.own x)) (k:∀b u,b≠e->h.get? b=some u->h'.get? b=some u) (heo:∃u,h'.get? e=some u)
  (new:xy P w (upd H x o') h' x o'):HOk P w (upd H x o') h':=λb u q=>by
 have nown:∀c y,H c=some (.own y)->c≠x:=λc y r z=>by subst z;rw[r]at mu;exact mu
 have ntup:∀c xs,H c=some (.tup xs)->c≠x:=λc xs r z=>by subst z;rw[r]at mu;exact mu
 by_cases hb:b=x
 ·subst hb;rw[zg]at q;cases q;exact new
 ·rw[zE hb]at q
  by_cases hbe:b=e
  ·have q':H b=some (.own x):=by
    rcases he with z | z
    ·exact absurd (hbe.trans z) hb
    ·rw[hbe];exact z
   rw[q]at q';cases q'
   obtain⟨v,hv⟩:=heo
   exact⟨v,by rw[hbe];exact hv⟩
  ·refine(ok b u q).stay (λc v hc r=>k c v ?_ r) (λc r=>by rw[zE (nown c b r)];exact r) λc xs r=>by rw[zE (ntup c xs r)];exact r
   rcases hc with rfl | hc
   ·exact hbe
   ·rintro rfl
    rcases he with z | z
    ·exact nown c b hc z
    ·rw[hc]at z;cases z;exact hb rfl
end
structure Un (fs ex:List Addr) (H H':Hp) (h h':Heap):Prop where
 keep:∀b o,h.get? b=some o->H b=none->b∉fs->b∉ex->h'.get? b=some o
 slot:∀b o,h.get? b=some o->H b=none->b∈fs->b∉ex->∃sl,h'.get? b=some { o with slots:=sl }
 free:∀b o,h.get? b=some o->H b=none->b∉ex->H' b=none
 there:∀b o,h.get? b=some o->b∉ex->∃o',h'.get? b=some o'
 tups:∀b xs,H b=some (.tup xs)->H' b=some (.tup xs)
 frzs:∀b o u,H b=some (.frz o u)->H' b=some (.frz o u)
 tbls:∀b ps,H b=some (.tbl ps)->∃more,H' b=some (.tbl (ps++more))
section
variable {fs fs' ex ex':List Addr}{H H1 H2:Hp}{h h1 h2 h':Heap}{a x e:Addr}{o:HO}
theorem Un.any (u:Un fs ex H H1 h h1){b:Addr}{ob:Obj}(q:h.get? b=some ob) (n:H b=none) (hx:b∉ex):∃sl,h1.get? b=some { ob with slots:=sl }:=by
 by_cases hb:b∈fs
 ·exact u.slot b ob q n hb hx
 ·exact⟨ob.slots,u.keep b ob q n hb hx⟩
theorem Un.trans (a:Un fs ex H H1 h h1) (b:Un fs ex H1 H2 h1 h2):Un fs ex H H2 h h2 where
 keep:=λc ob q n hc hx=>b.keep c ob (a.keep c ob q n hc hx) (a.free c ob q n hx) hc hx
 slot:=λc ob q n hc hx=>by
  obtain⟨sl,e1⟩:=a.slot c ob q n hc hx
  obtain⟨sl',e2⟩:=b.slot c _ e1 (a.free c ob q n hx) hc hx
  exact⟨sl',e2⟩
 free:=λc ob q n hx=>by
  obtain⟨o',e1⟩:=a.there c ob q hx
  exact b.free c o' e1 (a.free c ob q n hx) hx
 there:=λc ob q hx=>by
  obtain⟨o',e1⟩:=a.there c ob q hx
  exact b.there c o' e1 hx
 tups:=λc xs q=>b.tups c xs (a.tups c xs q)
 frzs:=λc ob xs q=>b.frzs c ob xs (a.frzs c ob xs q)
 tbls:=λc ps q=>by
  obtain⟨m1,e1⟩:=a.tbls c ps q
  obtain⟨m2,e2⟩:=b.tbls c _ e1
  exact⟨m1++m2,by rw[e2,Wy]⟩
theorem Un.kept (k:∀b u,h.get? b=some u->h'.get? b=some u):Un fs ex H H h h' :=
 ⟨λb ob q _ _ _=>k b ob q,λb ob q _ _ _=>⟨ob.slots,k b ob q⟩,λ_ _ _ n _=>n,λb ob q _=>⟨ob,k b ob q⟩,λ_ _ q=>q,λ_ _ _ q=>q,λ_ ps q=>⟨#[],by rw[q];simp⟩⟩
theorem Un.refl:Un fs ex H H h h:=Un.kept λ_ _ q=>q
theorem Un.laid (k:∀b u,h.get? b=some u->h'.get? b=some u) (hp:h.objs.size<=a) (hn:H a=none):Un fs ex H (upd H a o) h h' where
 keep:=λb u q _ _ _=>k b u q
 slot:=λb u q _ _ _=>⟨u.slots,k b u q⟩
 free:=λb u q n _=>by rw[zE (wO (wK (wA q) hp))];exact n
 there:=λb u q _=>⟨u,k b u q⟩
 tups:=λb xs q=>by rw[zE (zG q hn)];exact q
 frzs:=λb u xs q=>by rw[zE (zG q hn)];exact q
 tbls:=λb ps q=>⟨#[],by rw[zE (zG q hn),q];simp⟩
theorem Un.write (mu:Mut (H x)) (he:e=x\/H e=some (.own x)) (k:∀b u,b≠e->h.get? b=some u->h'.get? b=some u) (heo:∃u,h'.get? e=some u):Un fs ex H (upd H x o) h h':=by
 have hx:∀b,H b=none->b≠x:=λb n z=>by subst z;rw[n]at mu;exact mu
 have hb:∀b,H b=none->b≠e:=λb n z=>by
  subst z
  rcases he with r | r
  ·exact hx b n r
  ·rw[n]at r;cases r
 have hm:∀b u,H b=some u->¬Mut (some u)->b≠x:=λb u q nm z=>by subst z;rw[q]at mu;exact nm mu
 refine⟨λb u q n _ _=>k b u (hb b n) q,λb u q n _ _=>⟨u.slots,k b u (hb b n) q⟩,λb u q n _=>by rw[zE (hx b n)];exact n,λb u q _=>?_,
  λb xs q=>by rw[zE (hm b _ q λz=>z)];exact q,λb u xs q=>by rw[zE (hm b _ q λz=>z)];exact q,λb ps q=>⟨#[],by rw[zE (hm b _ q λz=>z),q];simp⟩⟩
 by_cases hbe:b=e
 ·subst hbe;exact heo
 ·exact⟨u,k b u hbe q⟩
end
def trk (h:Heap) (H:Hp):List Addr:=(List.range h.objs.size).filter λa=>(H a).isSome
def Qt (h:Heap) (H:Hp):Heap:=PySem.W.hideAll h (trk h H)
theorem zbC (h:Heap) (H:Hp):(Qt h H).objs.size=h.objs.size:=PySem.W.hideAll_size _ _
theorem zcL {h:Heap}{H:Hp}{b:Addr}{o:Obj}(e:h.get? b=some o) (n:H b=none):(Qt h H).get? b=some o :=
 PySem.W.hideAll_get _ e λhm=>by
  have q:(H b).isSome=true:=(List.mem_filter.mp hm).2
  rw[n]at q;simp at q
theorem zeA {h:Heap}{H:Hp}{b:Addr}{o:Obj}(e:(Qt h H).get? b=some o):h.get? b=some o/\H b=none:=by
 have e':h.get? b=some o:=PySem.W.of_hideAll (trk h H) e
 refine⟨e',?_⟩
 cases q:H b with
 | none=>rfl
 | some x =>
  have hm:b∈trk h H:=List.mem_filter.mpr ⟨List.mem_range.mpr (wA e'),by simp[q]⟩
  have z:(Qt h H).get? b=none:=PySem.W.hideAll_none (trk h H) hm
  rw[z]at e;cases e
structure Mod (K:Fg) (mg:Str->Option Value) (base:Heap):Prop where
 kin:K.In base
 glob:base.Ns mainGlobals mg
 blt:∃mb,base.Ns builtinsNs mb/\∀x:Str,x≠"__name__"->mb x=bootBuiltins x
 nolimit:base.NoLimit
structure Cx where
 prog:Program
 w:World
 K:Fg
 mg:Str->Option Value
 base:Heap
 A:Around
 N:List Str
 s₀:Shared
 H₀:Hp
 env:Env
 outer:List Env
 stack:List Env
 ex:List Addr
 fn:Str->Bool
 calm:Bool
 pn:List (Addr×Obj)
 xe:Value->Shared->Prop
def frs (l:List Env):List Addr:=l.filterMap (·.frame)
abbrev Cx.fs (X:Cx):List Addr:=frs X.outer
def Vis (sc:Scope) (x:Str):Prop:=sc.names.lookup x=some .local ∨ sc.names.lookup x=some .cell\/sc.names.lookup x=some .free
def Loc (sc:Scope) (x:Str):Prop:=sc.names.lookup x=some .local ∨ sc.names.lookup x=some .cell
def Look (env:Env) (h:Heap) (m:Str->Option Value) (x:Str) (u:Value):Prop :=
 (env.kindOf x=some .local ∧ m x=some u)\/((env.kindOf x=some .cell\/env.kindOf x=some .free)/\∃c,env.cells.lookup x=some c/\h.IsCell c (some u))
structure Cx.Ok (X:Cx):Prop where
 mod:Mod X.K X.mg X.base
 kind:X.env.scope.kind = .function
 glob:X.env.globals=mainGlobals
 blt:X.env.builtins=builtinsNs
 above:X.s₀.heap.objs.size<=X.env.locals
 inj:∀x y c,X.env.cells.lookup x=some c->X.env.cells.lookup y=some c->x=y
 has:∀x,(X.env.kindOf x=some .cell\/X.env.kindOf x=some .free)->∃c,X.env.cells.lookup x=some c
 cab:∀x c,X.fn x=true->X.env.cells.lookup x=some c->X.s₀.heap.objs.size<=c
 hd:X.calm=true->X.A.handled=none
 frames:X.A.frames=some X.stack
 stk:X.stack=X.outer\/(X.stack=X.env::X.outer/\X.env.frame=some X.env.locals)
 exf:∀b∈X.ex,b≠X.env.locals/\∀x c,X.env.cells.lookup x=some c->c≠b
 bs:∀b o,X.base.get? b=some o->X.s₀.heap.get? b=some o/\X.H₀ b=none
 bsz:X.base.objs.size<=X.s₀.heap.objs.size
 noex:∀b o,X.base.get? b=some o->b∉X.ex
 exfs:∀b∈X.ex,b∉X.fs
 funs:X.s₀.heap.FunFrames X.base X.outer
 frf:∀b∈X.fs,X.H₀ b=none
structure Inv (X:Cx) (pins:List (Addr×Obj)) (σ:List (Option V)) (H:Hp) (s:Shared):Prop where
 ok:X.Ok
 os:s.os=X.s₀.os
 bare:AllBare s.gens
 base:Un X.fs X.ex X.H₀ H X.s₀.heap s.heap
 loc:∃m,s.heap.Ns X.env.locals m/\∀(i:Nat) (x:Str) (v:V),X.N[i]? = some x->σ[i]? = some (some v)->Vis X.env.scope x->∃u,xr v u/\Look X.env s.heap m x u
 cell:∀x c,X.env.cells.lookup x=some c->∃v,s.heap.IsCell c v
 free:H X.env.locals=none
 freeC:∀x c,X.env.cells.lookup x=some c->H c=none
 pin:∀p∈X.pn++pins,s.heap.get? p.1=some p.2/\H p.1=none/\p.1≠X.env.locals/\p.1∉X.fs/\∀v,p.2.data≠.cell v
 hok:HOk X.prog X.w H s.heap
 len:σ.length=X.N.length
section
variable {X:Cx}{pins:List (Addr×Obj)}{σ:List (Option V)}{H H':Hp}{s:Shared}{h':Heap}
theorem Cx.Ok.nofr (ok:X.Ok){b:Addr}{o:Obj}(e:X.base.get? b=some o):b∉X.fs:=λhb=>by
 have:=(ok.funs.mem hb).1
 rw[e]at this;cases this
theorem Inv.bs (I:Inv X pins σ H s):∀b o,X.base.get? b=some o->s.heap.get? b=some o/\H b=none:=λb o e =>
 ⟨I.base.keep b o (I.ok.bs b o e).1 (I.ok.bs b o e).2 (I.ok.nofr e) (I.ok.noex b o e),I.base.free b o (I.ok.bs b o e).1 (I.ok.bs b o e).2 (I.ok.noex b o e)⟩
theorem Inv.bk (I:Inv X pins σ H s):∀b o,X.base.get? b=some o->s.heap.get? b=some o:=λb o e=>(I.bs b o e).1
theorem Inv.mod (I:Inv X pins σ H s):Mod X.K X.mg X.base:=I.ok.mod
theorem Inv.kIn (I:Inv X pins σ H s):X.K.In s.heap:=I.ok.mod.kin.keeps I.bk
theorem Inv.lt (I:Inv X pins σ H s):X.env.locals<s.heap.objs.size:=let ⟨_,hn,_⟩:=I.loc;hn.lt
theorem Inv.sz (I:Inv X pins σ H s):X.s₀.heap.objs.size<=s.heap.objs.size:=wS I.ok.above (Wz I.lt)
theorem Inv.nofs (I:Inv X pins σ H s){a:Addr}(h:s.heap.objs.size<=a):a∉X.fs:=λhb=>by
 obtain⟨_,o,ho,_⟩:=I.ok.funs.mem hb
 exact absurd (wK (wA ho) (wS I.sz h)) (ue _)
theorem Inv.cne (I:Inv X pins σ H s):∀x c,X.env.cells.lookup x=some c->c≠X.env.locals:=λx c e z=>by
 obtain⟨v,o,ho,hd⟩:=I.cell x c e
 obtain⟨m,⟨o',es,ep,ho',hd',_⟩,_⟩:=I.loc
 rw[z,ho']at ho;cases ho;rw[hd']at hd;cases hd
theorem Inv.funs (I:Inv X pins σ H s):s.heap.FunFrames X.base X.outer:=by
 have all:∀(l:List Env),(∀b∈frs l,b∈X.fs)->X.s₀.heap.FunFrames X.base l->s.heap.FunFrames X.base l:=by
  intro l
  induction l with
  | nil=>intro _ _;trivial
  | cons env r ih =>
   intro hs hl
   obtain⟨hk,⟨L,o,hf,hn,ho,hd⟩,hr⟩:=hl
   have hL:L∈X.fs:=hs L (by unfold frs;rw[Wp,hf];exact wJ)
   obtain⟨sl,e⟩:=I.base.slot L o ho (I.ok.frf L hL) hL λz=>I.ok.exfs L z hL
   exact⟨hk,⟨L,_,hf,hn,e,hd⟩,ih (λb hb=>hs b (by unfold frs;rw[Wp,hf];exact wP _ hb)) hr⟩
 exact all X.outer (λ_ hb=>hb) I.ok.funs
theorem Inv.stack (I:Inv X pins σ H s):s.heap.FunFrames X.base X.stack:=by
 rcases I.ok.stk with e | ⟨e,hf⟩
 ·rw[e];exact I.funs
 ·rw[e]
  obtain⟨m,hn,_⟩:=I.loc
  refine .cons (by rw[I.ok.kind];decide) hf hn ?_ I.funs
  exact Wj (wS I.ok.bsz I.ok.above)
theorem Inv.stkSub (I:Inv X pins σ H s):∀b∈frs X.stack,b∈X.env.locals::X.fs:=λb hb=>by
 rcases I.ok.stk with e | ⟨e,hf⟩
 ·rw[e]at hb;exact wP _ hb
 ·rw[e]at hb
  unfold frs at hb
  rw[Wp,hf]at hb
  exact hb
theorem Inv.stkFree (I:Inv X pins σ H s):∀b∈frs X.stack,H b=none:=λb hb=>by
 rcases wy.mp (I.stkSub b hb)with e | hb
 ·rw[e];exact I.free
 ·obtain⟨_,o,ho,_⟩:=I.ok.funs.mem hb
  exact I.base.free b o ho (I.ok.frf b hb) λz=>I.ok.exfs b z hb
theorem Inv.step {g':Array GenState}{t':Nat}{d':Drawn}{ch:List Addr}(I:Inv X pins σ H s)
  (hch:∀b∈ch,(b∈X.ex\/X.s₀.heap.objs.size<=b)/\b≠X.env.locals/\(∀x c,X.env.cells.lookup x=some c->c≠b)/\∀p∈X.pn++pins,p.1≠b)
  (keep:∀b o,b≠X.env.locals->b∉X.fs->b∉ch->s.heap.get? b=some o->H b=none->h'.get? b=some o)
  (slot:∀b o,b≠X.env.locals->b∈X.fs->b∉ch->s.heap.get? b=some o->H b=none->∃sl,h'.get? b=some { o with slots:=sl }) (free:∀b o,b∉ch->s.heap.get? b=some o->H b=none->H' b=none)
  (there:∀b o,b∉ch->s.heap.get? b=some o->∃o',h'.get? b=some o')
  (tups:∀b xs,H b=some (.tup xs)->H' b=some (.tup xs)) (frzs:∀b o u,H b=some (.frz o u)->H' b=some (.frz o u)) (tbls:∀b ps,H b=some (.tbl ps)->∃more,H' b=some (.tbl (ps++more)))
  (ns:∀m,s.heap.Ns X.env.locals m->h'.Ns X.env.locals m) (hok:HOk X.prog X.w H' h') (hg:AllBare g') :
  Inv X pins σ H' { s with heap:=h',gens:=g',drawn:=d',toks:=t' }:=by
 have neL:∀b o,X.s₀.heap.get? b=some o->b≠X.env.locals:=λb o e=>wO (wK (wA e) I.ok.above)
 have neC:∀b o,X.s₀.heap.get? b=some o->b∉X.ex->b∉ch:=λb o e hx hb=>by
  rcases(hch b hb).1 with z | z
  ·exact hx z
  ·exact absurd (wK (wA e) z) (ue _)
 have cellK:∀x c,X.env.cells.lookup x=some c->∀v,s.heap.IsCell c v->h'.IsCell c v:=λx c e v ⟨o,ho,hd⟩=>by
  have nch:c∉ch:=λz=>(hch c z).2.2.1 x c e rfl
  by_cases hc:c∈X.fs
  ·obtain⟨sl,q⟩:=slot c o (I.cne x c e) hc nch ho (I.freeC x c e)
   exact⟨_,q,hd⟩
  ·exact⟨o,keep c o (I.cne x c e) hc nch ho (I.freeC x c e),hd⟩
 refine⟨I.ok,I.os,hg,⟨λb o e n hb hx=>?_,λb o e n hb hx=>?_,λb o e n hx=>?_,λb o e hx=>?_,λb xs e=>tups b xs (I.base.tups b xs e),λb o xs e=>frzs b o xs (I.base.frzs b o xs e),λb ps e=>?_⟩,?_,λx c e=>?_,?_,λx c e=>?_,λp hp=>?_,hok,I.len⟩
 ·exact keep b o (neL b o e) hb (neC b o e hx) (I.base.keep b o e n hb hx) (I.base.free b o e n hx)
 ·obtain⟨sl,e1⟩:=I.base.slot b o e n hb hx
  obtain⟨sl',e2⟩:=slot b _ (neL b o e) hb (neC b o e hx) e1 (I.base.free b o e n hx)
  exact⟨sl',e2⟩
 ·obtain⟨o',e1⟩:=I.base.there b o e hx
  exact free b o' (neC b o e hx) e1 (I.base.free b o e n hx)
 ·obtain⟨o',e1⟩:=I.base.there b o e hx
  exact there b o' (neC b o e hx) e1
 ·obtain⟨m1,e1⟩:=I.base.tbls b ps e
  obtain⟨m2,e2⟩:=tbls b _ e1
  exact⟨m1++m2,by rw[e2,Wy]⟩
 ·obtain⟨m,hn,hl⟩:=I.loc
  refine⟨m,ns m hn,λi x v e1 e2 e3=>?_⟩
  obtain⟨u,r,l⟩:=hl i x v e1 e2 e3
  refine⟨u,r,?_⟩
  rcases l with l | ⟨k,c,e,z⟩
  ·exact .inl l
  ·exact .inr ⟨k,c,e,cellK x c e _ z⟩
 ·obtain⟨v,z⟩:=I.cell x c e
  exact⟨v,cellK x c e v z⟩
 ·obtain⟨m,⟨o,_,_,ho,_⟩,_⟩:=I.loc
  exact free _ o (λz=>(hch _ z).2.1 rfl) ho I.free
 ·obtain⟨v,o,ho,hd⟩:=I.cell x c e
  exact free c o (λz=>(hch c z).2.2.1 x c e rfl) ho (I.freeC x c e)
 ·obtain⟨e,n,ne,nf,d⟩:=I.pin p hp
  have nch:p.1∉ch:=λz=>(hch p.1 z).2.2.2 p hp rfl
  exact⟨keep p.1 p.2 ne nf nch e n,free p.1 p.2 nch e n,ne,nf,d⟩
theorem Inv.un {t':Nat}(I:Inv X pins σ H s) (u:Un X.fs [] H H' s.heap h') (hok:HOk X.prog X.w H' h'):Inv X pins σ H' { s with heap:=h',toks:=t' }:=by
 obtain⟨m,⟨o,es,ep,ho,r⟩,_⟩:=id I.loc
 obtain⟨sl,hL⟩:=u.any ho I.free (by simp)
 exact I.step (g':=s.gens) (d':=s.drawn) (ch:=[]) (λ_ z=>nomatch z) (λb o _ hb _ e n=>u.keep b o e n hb (by simp)) (λb o _ hb _ e n=>u.slot b o e n hb (by simp)) (λb o _ e n=>u.free b o e n (by simp)) (λb o _ e=>u.there b o e (by simp)) u.tups u.frzs u.tbls (λm' hm=>by
  obtain⟨o',es',ep',ho',r'⟩:=hm
  rw[ho]at ho';cases ho'
  exact⟨_,es',ep',hL,r'⟩) hok I.bare
theorem Inv.call {g':Array GenState}{t':Nat}{d':Drawn}{ch:List Addr}(I:Inv X pins σ H s) (u:Un (frs X.stack) ch H H' s.heap h') (hok:HOk X.prog X.w H' h') (hg:AllBare g')
  (hch:∀b∈ch,(b∈X.ex\/X.s₀.heap.objs.size<=b)/\b≠X.env.locals/\(∀x c,X.env.cells.lookup x=some c->c≠b)/\∀p∈X.pn++pins,p.1≠b) :
  Inv X pins σ H' { s with heap:=h',gens:=g',drawn:=d',toks:=t' }:=by
 obtain⟨m,⟨o,es,ep,ho,r⟩,_⟩:=id I.loc
 obtain⟨sl,hL⟩:=u.any ho I.free λz=>(hch _ z).2.1 rfl
 exact I.step (ch:=ch) hch (λb o hL hb hc e n=>u.keep b o e n (λz=>(wy.mp (I.stkSub b z)).elim hL hb) hc) (λb o _ _ hc e n=>u.any e n hc) (λb o hc e n=>u.free b o e n hc) (λb o hc e=>u.there b o e hc) u.tups u.frzs u.tbls (λm' hm=>by
  obtain⟨o',es',ep',ho',r'⟩:=hm
  rw[ho]at ho';cases ho'
  exact⟨_,es',ep',hL,r'⟩) hok hg
theorem Inv.turned {t':Nat}{it:Addr}(I:Inv X pins σ H s) (k:∀b o,b≠it->s.heap.get? b=some o->h'.get? b=some o) (hn:H it=none) (hL:it≠X.env.locals)
  (h1:it∈X.ex\/X.s₀.heap.objs.size<=it) (h2:∀x c,X.env.cells.lookup x=some c->c≠it) (h3:∀p∈X.pn++pins,p.1≠it):Inv X pins σ H { s with heap:=h',toks:=t' }:=by
 have nit:∀b u,H b=some u->b≠it:=λb u e z=>by rw[z,hn]at e;cases e
 refine I.step (g':=s.gens) (d':=s.drawn) (ch:=[it]) (λb hb=>?_) (λb o _ _ hc e _=>k b o (λz=>hc (by simp[z])) e) (λb o _ _ hc e _=>⟨o.slots,k b o (λz=>hc (by simp[z])) e⟩) (λ_ _ _ _ n=>n)
  (λb o hc e=>⟨o,k b o (λz=>hc (by simp[z])) e⟩) (λ_ _ e=>e) (λ_ _ _ e=>e) (λb ps e=>⟨#[],by rw[e];simp⟩) (λm hm=>?_) (λb u e=>?_) I.bare
 ·have e:b=it:=by simpa using hb
  subst e
  exact⟨h1,hL,h2,h3⟩
 ·obtain⟨o,es,ep,ho,r⟩:=hm
  exact⟨o,es,ep,k _ o (Ne.symm hL) ho,r⟩
 ·refine(I.hok b u e).stay (λc v hc q=>k c v ?_ q) (λ_ q=>q) λ_ _ q=>q
  rcases hc with z | z
  ·rw[z];exact nit b u e
  ·exact nit c _ z
theorem Inv.tok (I:Inv X pins σ H s) (t:Nat):Inv X pins σ H { s with toks:=t }:=I.un (h':=s.heap) (t':=t) Un.refl I.hok
theorem Inv.kept {t':Nat}(I:Inv X pins σ H s) (k:∀b u,s.heap.get? b=some u->h'.get? b=some u):Inv X pins σ H { s with heap:=h',toks:=t' }:=I.un (Un.kept k) (I.hok.kept k)
theorem Inv.laid {a:Addr}{o:HO}{t':Nat}(I:Inv X pins σ H s) (k:∀b u,s.heap.get? b=some u->h'.get? b=some u) (hp:s.heap.objs.size<=a) (new:xy X.prog X.w (upd H a o) h' a o) :
  Inv X pins σ (upd H a o) { s with heap:=h',toks:=t' }:=I.un (Un.laid k hp (I.hok.fresh hp)) (I.hok.laid k hp new)
theorem Inv.write {x e:Addr}{o:HO}{t':Nat}(I:Inv X pins σ H s) (mu:Mut (H x)) (he:e=x\/H e=some (.own x)) (k:∀b u,b≠e->s.heap.get? b=some u->h'.get? b=some u) (heo:∃u,h'.get? e=some u)
  (new:xy X.prog X.w (upd H x o) h' x o):Inv X pins σ (upd H x o) { s with heap:=h',toks:=t' }:=I.un (Un.write mu he k heo) (I.hok.write mu he k heo new)
theorem Inv.pins_of {pins':List (Addr×Obj)} (I:Inv X pins σ H s) (h:∀p∈pins',s.heap.get? p.1=some p.2/\H p.1=none/\p.1≠X.env.locals/\p.1∉X.fs/\∀v,p.2.data≠.cell v):Inv X pins' σ H s :=
 ⟨I.ok,I.os,I.bare,I.base,I.loc,I.cell,I.free,I.freeC,λp hp=>(wN.mp hp).elim (λz=>I.pin p (wT _ z)) (h p),I.hok,I.len⟩
theorem VY {N:List Str}(hN:N.Nodup){i j:Nat}{x:Str}(a:N[i]? = some x) (b:N[j]? = some x):i=j:=by
 obtain⟨h1,e1⟩:=wk.mp a
 obtain⟨h2,e2⟩:=wk.mp b
 exact(List.getElem_inj hN).mp (e1.trans e2.symm)
theorem QV {M:Model}{A:Around}{E:Value->Shared->Prop}{i:Nat}{x:Str}{v:V}{u:Value}{Q:Unit->Shared->Prop}(I:Inv X pins σ H s) (hN:X.N.Nodup) (hi:X.N[i]? = some x) (hx:Loc X.env.scope x) (r:xr v u)
  (h:∀s',Inv X pins (σ.set i (some v)) H s'->(∃a,Heap.SameBut a s.heap s'.heap/\(a=X.env.locals\/X.env.cells.lookup x=some a))->Q () s') (hf:X.fn x=true\/X.env.scope.names.lookup x=some .local := by first | exact .inl rfl | exact .inr rfl | assumption):wpAny M A (storeName X.env x u) Q E s:=by
 obtain⟨m,hn,hl⟩:=id I.loc
 have hcls:(X.env.scope.kind == .class || (X.env.scope.kind == .module&&X.env.locals != X.env.globals))=false:=by rw[I.ok.kind];rfl
 have hiσ:i<σ.length:=by rw[I.len];exact(wk.mp hi).1
 have cne:=I.cne
 have tracked:∀{a:Addr}{h':Heap},(∃o,s.heap.get? a=some o/\H a=none)->Heap.SameBut a s.heap h'->HOk X.prog X.w H h':=λ{a h'} ha hs b ob e=>by
  obtain⟨_,_,hfree⟩:=ha
  refine(I.hok b ob e).stay (λc w' hc q=>(hs.2 c ?_).trans q) (λ_ q=>q) λ_ _ q=>q
  rintro rfl
  rcases hc with rfl | hc
  ·rw[hfree]at e;cases e
  ·rw[hfree]at hc;cases hc
 rcases hx with hk | hk
 ·refine wpAny_storeName_local hk hn (λh' hn' hs=>?_) hcls
  obtain⟨oL,_,_,hoL,_⟩:=id hn
  refine h _ ⟨I.ok,I.os,I.bare,⟨λb o e n hb hx=>?_,λb o e n hb hx=>?_,I.base.free,λb o e hx=>?_,I.base.tups,I.base.frzs,I.base.tbls⟩,⟨_,hn',λj y v' e1 e2 e3=>?_⟩,λy c e=>?_,I.free,I.freeC,λp hp=>?_,tracked ⟨oL,hoL,I.free⟩ hs,by simpa using I.len⟩ ⟨_,hs,.inl rfl⟩
  ·exact(hs.2 b (wO (wK (wA e) I.ok.above))).trans (I.base.keep b o e n hb hx)
  ·obtain⟨sl,e1⟩:=I.base.slot b o e n hb hx
   exact⟨sl,(hs.2 b (wO (wK (wA e) I.ok.above))).trans e1⟩
  ·obtain⟨o',e1⟩:=I.base.there b o e hx
   exact⟨o',(hs.2 b (wO (wK (wA e) I.ok.above))).trans e1⟩
  ·by_cases hj:j=i
   ·subst hj
    rw[hi]at e1;cases e1
    rw[List.getElem?_set_self hiσ]at e2
    cases e2
    exact⟨u,r,.inl ⟨hk,by simp⟩⟩
   ·rw[List.getElem?_set_ne (Ne.symm hj)]at e2
    obtain⟨u',r',q⟩:=hl j y v' e1 e2 e3
    refine⟨u',r',?_⟩
    rcases q with⟨k,e⟩ | ⟨k,c,e,z⟩
    ·refine .inl ⟨k,?_⟩
     have:y≠x:=λe=>hj (VY hN e1 (e ▸ hi))
     simp[this,e]
    ·exact .inr ⟨k,c,e,z.sameBut hs (cne y c e)⟩
  ·obtain⟨w',z⟩:=I.cell y c e
   exact⟨w',z.sameBut hs (cne y c e)⟩
  ·obtain⟨e,n,ne,nf,d⟩:=I.pin p hp
   exact⟨(hs.2 p.1 ne).trans e,n,ne,nf,d⟩
 ·have hfn:X.fn x=true:=by
   rcases hf with z | z
   ·exact z
   ·rw[z]at hk;cases hk
  obtain⟨c,hc⟩:=I.ok.has x (.inl hk)
  obtain⟨w',z⟩:=I.cell x c hc
  refine wpAny_storeName_cell I.ok.kind hk hc z (λh' hc' hs=>?_)
  obtain⟨oc,hoc,hocd⟩:=id z
  refine h { s with heap:=h' } ⟨I.ok,I.os,I.bare,⟨λb o e n hb hx=>?_,λb o e n hb hx=>?_,I.base.free,λb o e hx=>?_,I.base.tups,I.base.frzs,I.base.tbls⟩,⟨m,hn.sameBut hs (Ne.symm (cne x c hc)),λj y v' e1 e2 e3=>?_⟩,λy c' e=>?_,I.free,I.freeC,λp hp=>?_,tracked ⟨oc,hoc,I.freeC x c hc⟩ hs,by simpa using I.len⟩ ⟨c,hs,.inr hc⟩
  ·exact(hs.2 b (wO (wK (wA e) (I.ok.cab x c hfn hc)))).trans (I.base.keep b o e n hb hx)
  ·obtain⟨sl,e1⟩:=I.base.slot b o e n hb hx
   exact⟨sl,(hs.2 b (wO (wK (wA e) (I.ok.cab x c hfn hc)))).trans e1⟩
  ·obtain⟨o',e1⟩:=I.base.there b o e hx
   exact⟨o',(hs.2 b (wO (wK (wA e) (I.ok.cab x c hfn hc)))).trans e1⟩
  ·by_cases hj:j=i
   ·subst hj
    rw[hi]at e1;cases e1
    rw[List.getElem?_set_self hiσ]at e2
    cases e2
    exact⟨u,r,.inr ⟨.inl hk,c,hc,hc'⟩⟩
   ·rw[List.getElem?_set_ne (Ne.symm hj)]at e2
    obtain⟨u',r',q⟩:=hl j y v' e1 e2 e3
    refine⟨u',r',?_⟩
    rcases q with q | ⟨k,c',e,z'⟩
    ·exact .inl q
    ·refine .inr ⟨k,c',e,z'.sameBut hs ?_⟩
     rintro rfl
     exact hj (VY hN e1 (I.ok.inj _ _ _ e hc ▸ hi))
  ·by_cases hcc:c'=c
   ·subst hcc;exact⟨_,hc'⟩
   ·obtain⟨w2,z2⟩:=I.cell y c' e
    exact⟨w2,z2.sameBut hs hcc⟩
  ·obtain⟨e,n,ne,nf,d⟩:=I.pin p hp
   refine⟨(hs.2 p.1 ?_).trans e,n,ne,nf,d⟩
   intro q
   rw[q,hoc]at e
   have q':oc=p.2:=Option.some.inj e
   exact d w' (by rw[<-q'];exact hocd)
theorem ZU {M:Model}{A:Around}{E:Value->Shared->Prop}{i:Nat}{x:Str}{v:V}{u:Value}{Q:Unit->Shared->Prop}(I:Inv X pins σ H s) (hN:X.N.Nodup) (hi:X.N[i]? = some x) (hx:Loc X.env.scope x) (r:xr v u)
  (h:∀s',Inv X pins (σ.set i (some v)) H s'->Q () s') (hf:X.fn x=true\/X.env.scope.names.lookup x=some .local := by first | exact .inl rfl | exact .inr rfl | assumption):wpAny M A (storeName X.env x u) Q E s :=
 QV I hN hi hx r (λs' I' _=>h s' I') hf
theorem Inv.call' {s':Shared}{ch:List Addr}(I:Inv X pins σ H s) (ho:s'.os=s.os) (u:Un (frs X.stack) ch H H' s.heap s'.heap) (hok:HOk X.prog X.w H' s'.heap) (hg:AllBare s'.gens)
  (hch:∀b∈ch,(b∈X.ex\/X.s₀.heap.objs.size<=b)/\b≠X.env.locals/\(∀x c,X.env.cells.lookup x=some c->c≠b)/\∀p∈X.pn++pins,p.1≠b):Inv X pins σ H' s':=by
 obtain⟨h',g',d',t',o'⟩:=s'
 have e:o'=s.os:=ho
 subst e
 exact I.call (g':=g') (t':=t') (d':=d') u hok hg hch
end
abbrev XK:=Value->Option Addr->Hp->Prop
abbrev St:=List (Option V)
abbrev VK:=V->Hp->Prop
abbrev TE:=St->Hp->VK->Prop
abbrev TT:=St->Hp->(Bool->Hp->Prop)->Prop
abbrev TA:=St->Hp->(List V->Hp->Prop)->Prop
structure vt where
 nx:St->Hp->Prop
 rt:VK
 bk:St->Hp->Prop:=λ_ _=>False
 ct:St->Hp->Prop:=λ_ _=>False
abbrev TS:=vt->St->Hp->Prop
def EP (X:Cx) (pins:List (Addr×Obj)) (σ:St) (Q:VK) (u:Value) (s':Shared):Prop:=∃v H',Inv X pins σ H' s'/\xr v u/\Q v H'
def TP (X:Cx) (pins:List (Addr×Obj)) (σ:St) (Q:Bool->Hp->Prop) (b:Bool) (s':Shared):Prop:=∃H',Inv X pins σ H' s'/\Q b H'
def AP (X:Cx) (pins:List (Addr×Obj)) (σ:St) (Q:List V->Hp->Prop) (us:List Value) (s':Shared):Prop:=∃vs H',Inv X pins σ H' s'/\xb vs us/\Q vs H'
def SP (X:Cx) (pins:List (Addr×Obj)) (D:vt) (f:Flow) (s':Shared):Prop :=
 match f with
 | .next=>∃σ' H',Inv X pins σ' H' s'/\D.nx σ' H'
 | .brk=>∃σ' H',Inv X pins σ' H' s'/\D.bk σ' H'
 | .cont=>∃σ' H',Inv X pins σ' H' s'/\D.ct σ' H'
 | .ret u=>∃v σ' H',Inv X pins σ' H' s'/\xr v u/\D.rt v H'
def PE (X:Cx) (e:Expr) (t:TE):Prop :=
 ∀(pins:List (Addr×Obj)) (s:Shared) (σ:St) (H:Hp) (Q:VK),Inv X pins σ H s->t σ H Q->wpAny (model X.prog X.w) X.A (eval e X.env) (EP X pins σ Q) X.xe s
def PT (X:Cx) (e:Expr) (t:TT):Prop :=
 ∀(pins:List (Addr×Obj)) (s:Shared) (σ:St) (H:Hp) (Q:Bool->Hp->Prop),Inv X pins σ H s->t σ H Q->wpAny (model X.prog X.w) X.A (isTrue e X.env (eval e X.env)) (TP X pins σ Q) X.xe s
def PW (X:Cx) (e:Expr) (t:TT):Prop :=
 ∀(whole:Sem Value) (pins:List (Addr×Obj)) (s:Shared) (σ:St) (H:Hp) (Q:Bool->Hp->Prop),Inv X pins σ H s->t σ H Q->wpAny (model X.prog X.w) X.A (isTrue e X.env whole) (TP X pins σ Q) X.xe s
theorem PW.pt {X:Cx}{e:Expr}{t:TT}(h:PW X e t):PT X e t:=h _
def PA (X:Cx) (es:List Expr) (t:TA):Prop :=
 ∀(pos:Pos) (pins:List (Addr×Obj)) (s:Shared) (σ:St) (H:Hp) (Q:List V->Hp->Prop),Inv X pins σ H s->t σ H Q->wpAny (model X.prog X.w) X.A (spliced (backTo pos (starEach es X.env))) (AP X pins σ Q) X.xe s
def PS (X:Cx) (st:Stmt) (t:TS):Prop :=
 ∀(pins:List (Addr×Obj)) (s:Shared) (σ:St) (H:Hp) (D:vt),Inv X pins σ H s->t D σ H->wpAny (model X.prog X.w) X.A (exec st X.env) (SP X pins D) X.xe s
def PSs (X:Cx) (st:List Stmt) (t:TS):Prop :=
 ∀(pins:List (Addr×Obj)) (s:Shared) (σ:St) (H:Hp) (D:vt),Inv X pins σ H s->t D σ H->wpAny (model X.prog X.w) X.A (execs st X.env) (SP X pins D) X.xe s
theorem thn {α:Type}{t:Sem α}{Q Q':α->Shared->Prop}{M:Model}{A:Around}{E:Value->Shared->Prop}{s:Shared}(h:wpAny M A t Q E s) (hQ:∀a s,Q a s->Q' a s):wpAny M A t Q' E s:=yu h hQ λ_ _ x=>x
section
variable {X:Cx}
inductive zgc (i:Nat) (σ:St) (H:Hp) (Q:VK):Prop
 | mk:∀v,(σ[i]? = some (some v))->(Q v H)->zgc i σ H Q
def xG (i:Nat):TE:=λσ H Q=>zgc i σ H Q
def tC (v:V):TE:=λ_ H Q=>Q v H
theorem zha {i:Nat}{x:Str}{pos:Pos}(hN:X.N[i]? = some x) (hv:Vis X.env.scope x) (hd:(x == ("__debug__":Str))=false:=by decide) (hcd:(x == ("__classdict__":Str))=false:=by decide):PE X (.Name x pos) (xG i):=by
 intro pins s σ H Q I h
 obtain⟨v,e,h⟩:=h
 obtain⟨m,hn,hl⟩:=I.loc
 obtain⟨u,r,l⟩:=hl i x v hN e hv
 have fin:EP X pins σ Q u s:=⟨v,H,I,r,h⟩
 rcases l with⟨hk,hm⟩ | ⟨hk,c,hc,hcell⟩
 ·exact wpAny_Name (wpAny_loadName_local I.ok.kind hk hn hm fin) hd
 ·rcases hk with hk | hk
  ·exact wpAny_Name (wpAny_loadName_cell I.ok.kind hk hc hcell fin) hd
  ·exact wpAny_Name (wpAny_loadName_free I.ok.kind hk hc hcell fin hcd) hd
theorem ze {i j pos}:PE X (.Constant (.int i) j pos) (tC (.int i)):=λ_ _ _ H _ I h=>wpAny_Constant_int ⟨.int i,H,I.tok _,⟨_,rfl⟩,h⟩
theorem jx {b j pos}:PE X (.Constant (.bool b) j pos) (tC (.bl b)):=λ_ _ _ H _ I h=>Constant_bool ⟨.bl b,H,I,rfl,h⟩
theorem zW {j pos}:PE X (.Constant .none j pos) (tC .non):=λ_ _ _ H _ I h=>Constant_none ⟨.non,H,I,rfl,h⟩
theorem va {x j pos}:PE X (.Constant (.str x) j pos) (tC (.str x)):=λ_ _ _ H _ I h=>Calls.Constant_str ⟨.str x,H,I.tok _,⟨_,rfl⟩,h⟩
def Gl (X:Cx) (x:Str):Prop:=X.env.kindOf x=some .globalImplicit
theorem jX {E:Value->Shared->Prop}{pins:List (Addr×Obj)}{s:Shared}{σ:St}{H:Hp}{x:Str}{u:Value}{pos:Pos}{Q:Value->Shared->Prop}(I:Inv X pins σ H s) (hg:Gl X x) (hm:X.mg x=some u) (h:Q u s)
  (hd:(x == ("__debug__":Str))=false:=by decide):wpAny (model X.prog X.w) X.A (eval (.Name x pos) X.env) Q E s :=
 Calls.Name_function_global I.ok.kind hg (Calls.loadGlobal_global (by rw[I.ok.glob];exact I.mod.glob.keeps I.bk) hm h) hd
theorem jJ {E:Value->Shared->Prop}{pins:List (Addr×Obj)}{s:Shared}{σ:St}{H:Hp}{x:Str}{u:Value}{pos:Pos}{Q:Value->Shared->Prop}(I:Inv X pins σ H s) (hg:Gl X x) (hm:X.mg x=none) (hv:bootBuiltins x=some u) (h:Q u s)
  (hn:x≠"__name__":=by decide) (hd:(x == ("__debug__":Str))=false:=by decide):wpAny (model X.prog X.w) X.A (eval (.Name x pos) X.env) Q E s:=by
 obtain⟨mb,h1,h2⟩:=I.mod.blt
 exact Calls.Name_function_global I.ok.kind hg (Calls.loadGlobal_builtin (by rw[I.ok.glob];exact I.mod.glob.keeps I.bk) hm (by rw[I.ok.blt];exact h1.keeps I.bk) ((h2 x hn).trans hv) h) hd
theorem zaK {x:Str}{v:V}{u:Value}{pos:Pos}(hg:Gl X x) (hm:X.mg x=some u) (r:xr v u) (hd:(x == ("__debug__":Str))=false:=by decide):PE X (.Name x pos) (tC v) :=
 λ_ _ _ H _ I h=>jX I hg hm ⟨v,H,I,r,h⟩ hd
theorem XC {x:Str}{v:V}{u:Value}{pos:Pos}(hg:Gl X x) (hm:X.mg x=none) (hv:bootBuiltins x=some u) (r:xr v u) (hn:x≠"__name__":=by decide) (hd:(x == ("__debug__":Str))=false:=by decide):PE X (.Name x pos) (tC v) :=
 λ_ _ _ H _ I h=>jJ I hg hm hv ⟨v,H,I,r,h⟩ hn hd
variable {a b:Expr}{ta tb:TE}{pos:Pos}
variable {tA tB':TT}{rest:List Expr}
def tAnd (t u:TT):TT:=λσ H Q=>t σ H λc H1=>if c=true then u σ H1 Q else Q false H1
def tOr (t u:TT):TT:=λσ H Q=>t σ H λc H1=>if c=true then Q true H1 else u σ H1 Q
def zjn (t:TT):TT:=λσ H Q=>t σ H λc H1=>Q (!c) H1
theorem qm (ha:PT X a tA):PW X (.BoolOp .And [a] pos) tA:=by
 intro wh pins s σ H Q I h
 refine isTrue_and (thn (ha pins s σ H Q I h) λc s1 e=>?_)
 cases c with
 | true=>exact isTrue_and_nil e
 | false=>exact e
theorem vO (ha:PT X a tA):PW X (.BoolOp .Or [a] pos) tA:=by
 intro wh pins s σ H Q I h
 refine isTrue_or (thn (ha pins s σ H Q I h) λc s1 e=>?_)
 cases c with
 | false=>exact isTrue_or_nil e
 | true=>exact e
theorem qC (ha:PT X a tA) (hb:PW X (.BoolOp .And (b::rest) pos) tB'):PW X (.BoolOp .And (a::b::rest) pos) (tAnd tA tB'):=by
 intro wh pins s σ H Q I h
 refine isTrue_and (thn (ha pins s σ H _ I h) λc s1 ⟨H1,I1,q1⟩=>?_)
 cases c with
 | true=>exact hb wh pins s1 σ H1 Q I1 q1
 | false=>exact⟨H1,I1,q1⟩
theorem vN (ha:PT X a tA) (hb:PW X (.BoolOp .Or (b::rest) pos) tB'):PW X (.BoolOp .Or (a::b::rest) pos) (tOr tA tB'):=by
 intro wh pins s σ H Q I h
 refine isTrue_or (thn (ha pins s σ H _ I h) λc s1 ⟨H1,I1,q1⟩=>?_)
 cases c with
 | true=>exact⟨H1,I1,q1⟩
 | false=>exact hb wh pins s1 σ H1 Q I1 q1
theorem qQ (ha:PT X a tA):PT X (.UnaryOp .Not a pos) (zjn tA):=by
 intro pins s σ H Q I h
 exact isTrue_not (ha pins s σ H (λc H1=>Q (!c) H1) I h)
inductive zdL (tb:TE) (σ:St) (Q:VK) (x:V) (H1:Hp):Prop
 | mk:∀c,(x = .bl c)->(if c=true then tb σ H1 Q else Q (.bl false) H1)->zdL tb σ Q x H1
def zjh (ta tb:TE):TE:=λσ H Q=>ta σ H λx H1=>zdL tb σ Q x H1
inductive zf9 (tb:TE) (σ:St) (Q:VK) (x:V) (H1:Hp):Prop
 | mk:∀c,(x = .bl c)->(if c=true then Q (.bl true) H1 else tb σ H1 Q)->zf9 tb σ Q x H1
def zjp (ta tb:TE):TE:=λσ H Q=>ta σ H λx H1=>zf9 tb σ Q x H1
inductive zdP (Q:VK) (x:V) (H1:Hp):Prop
 | mk:∀c,(x = .bl c)->(Q (.bl (!c)) H1)->zdP Q x H1
def zjo (ta:TE):TE:=λσ H Q=>ta σ H λx H1=>zdP Q x H1
theorem vB {op}{t:TE}(h:PE X a t):PE X (.BoolOp op [a] pos) t:=λpins s σ H Q I hw=>BoolOp_one (h pins s σ H Q I hw)
theorem q8 (ha:PE X a ta) (hb:PE X (.BoolOp .And (b::rest) pos) tb):PE X (.BoolOp .And (a::b::rest) pos) (zjh ta tb):=by
 intro pins s σ H Q I h
 refine BoolOp_and (thn (ha pins s σ H _ I h) λv s1 ⟨x,H1,I1,r1,q1⟩=>?_)
 obtain⟨c,rfl,q1⟩:=q1
 cases r1
 refine yI ?_
 cases c with
 | true=>exact hb pins s1 σ H1 Q I1 q1
 | false=>exact⟨.bl false,H1,I1,rfl,q1⟩
theorem zaM (ha:PE X a ta) (hb:PE X (.BoolOp .Or (b::rest) pos) tb):PE X (.BoolOp .Or (a::b::rest) pos) (zjp ta tb):=by
 intro pins s σ H Q I h
 refine BoolOp_or (thn (ha pins s σ H _ I h) λv s1 ⟨x,H1,I1,r1,q1⟩=>?_)
 obtain⟨c,rfl,q1⟩:=q1
 cases r1
 refine yI ?_
 cases c with
 | false=>exact hb pins s1 σ H1 Q I1 q1
 | true=>exact⟨.bl true,H1,I1,rfl,q1⟩
theorem zg8 (ha:PE X a ta):PE X (.UnaryOp .Not a pos) (zjo ta):=by
 intro pins s σ H Q I h
 refine UnaryOp_ (thn (ha pins s σ H _ I h) λv s1 ⟨x,H1,I1,r1,q1⟩=>?_)
 obtain⟨c,rfl,q1⟩:=q1
 cases r1
 exact not_of (yI ⟨.bl (!c),H1,I1,rfl,q1⟩)
def tIf (t:TT) (ta tb:TE):TE:=λσ H Q=>t σ H λc H1=>if c=true then ta σ H1 Q else tb σ H1 Q
theorem zdb {c:Expr}(hc:PT X c tA) (ha:PE X a ta) (hb:PE X b tb):PE X (.IfExp c a b pos) (tIf tA ta tb):=by
 intro pins s σ H Q I h
 refine wpAny_IfExp (thn (hc pins s σ H _ I h) λd s1 ⟨H1,I1,q1⟩=>?_)
 cases d with
 | true=>exact ha pins s1 σ H1 Q I1 q1
 | false=>exact hb pins s1 σ H1 Q I1 q1
end
def SqL (K:Fg) (H:Hp) (a:Addr) (xs:List V):Prop :=
 Rd H a (.lst xs) ∨
  ∃(o:Obj) (its:Array Value) (n:Nat),K.lookup a=some o/\o.cls = .type "list"/\o.dict=none/\o.data = .seq its n/\its.size<=sizeLine/\xb xs its.toList
def SqT (K:Fg) (H:Hp) (a:Addr) (xs:List V):Prop :=
 Rd H a (.tup xs) ∨
  ∃(o:Obj) (its:Array Value) (n:Nat),K.lookup a=some o/\o.cls = .type "tuple"/\o.data = .seq its n/\its.size<=sizeLine/\xb xs its.toList
def absV:Value->Option V
 | .none=>some .non
 | .bool b=>some (.bl b)
 | .int i _=>some (.int i)
 | .str x _=>some (.str x)
 | .bytes b _=>some (.byt b)
 | .float b _=>some (.flt b)
 | .ref a=>some (.ref a)
 | .type n=>some (.ty n)
 | _=>none
theorem xr.abs {x:V}{u:Value}(r:xr x u):absV u=some x:=by
 cases x with
 | non=>cases r;rfl
 | bl _=>cases r;rfl
 | int _=>obtain⟨t,rfl⟩:=r;rfl
 | str _=>obtain⟨t,rfl⟩:=r;rfl
 | byt _=>obtain⟨t,rfl⟩:=r;rfl
 | flt _=>obtain⟨t,rfl⟩:=r;rfl
 | ref _=>cases r;rfl
 | ty _=>cases r;rfl
theorem xr.inj {x y:V}{u:Value}(r:xr x u) (q:xr y u):x=y:=Option.some.inj (r.abs.symm.trans q.abs)
theorem xb.inj:∀{xs ys:List V}{us:List Value},xb xs us->xb ys us->xs=ys
 | _,_,_,.nil,.nil=>rfl
 | _,_,_,.cons r t,.cons r' t'=>by rw[r.inj r',xb.inj t t']
section
variable {X:Cx}{pins:List (Addr×Obj)}{σ:St}{H:Hp}{s:Shared}{a:Addr}{xs ys:List V}
theorem SqL.of {K:Fg}(h:H a=some (.lst xs)):SqL K H a xs:=.inl (.inl h)
theorem SqT.of {K:Fg}(h:H a=some (.tup xs)):SqT K H a xs:=.inl (.inl h)
theorem Inv.list (I:Inv X pins σ H s) (h:SqL X.K H a xs):∃its:List Value,xb xs its/\PlainL s.heap a its.toArray/\xs.length<=sizeLine:=by
 rcases h with h | ⟨o,its,n,hk,hc,hd,hs,hz,r⟩
 ·obtain⟨z,its,n,r,e⟩:=h.ok I.hok
  exact⟨its,r,⟨_,n,e,rfl,rfl,rfl⟩,z⟩
 ·refine⟨its.toList,r,⟨o,n,I.kIn a o hk,hc,hd,by simpa using hs⟩,?_⟩
  have e:=r.length
  simp only[yU]at e
  omega
theorem Inv.tuple (I:Inv X pins σ H s) (h:SqT X.K H a xs):∃its:List Value,xb xs its/\IsTup s.heap a its.toArray/\xs.length<=sizeLine:=by
 rcases h with h | ⟨o,its,n,hk,hc,hs,hz,r⟩
 ·obtain⟨z,its,r,p⟩:=h.ok I.hok
  exact⟨its,r,p,z.1⟩
 ·refine⟨its.toList,r,⟨o,I.kIn a o hk,hc,n,by simpa using hs⟩,?_⟩
  have e:=r.length
  simp only[yU]at e
  omega
theorem Inv.list_inj (I:Inv X pins σ H s) (h:SqL X.K H a xs) (h':SqL X.K H a ys):xs=ys:=by
 obtain⟨its,r,⟨o,n,e,_,_,d⟩,_⟩:=I.list h
 obtain⟨its',r',⟨o',n',e',_,_,d'⟩,_⟩:=I.list h'
 rw[e]at e';cases e'
 rw[d]at d'
 injection d' with d1 _
 have:its=its':=by simpa using congrArg Array.toList d1
 subst this
 exact r.inj r'
theorem Inv.tuple_inj (I:Inv X pins σ H s) (h:SqT X.K H a xs) (h':SqT X.K H a ys):xs=ys:=by
 obtain⟨its,r,⟨o,e,_,n,d⟩,_⟩:=I.tuple h
 obtain⟨its',r',⟨o',e',_,n',d'⟩,_⟩:=I.tuple h'
 rw[e]at e';cases e'
 rw[d]at d'
 injection d' with d1 _
 have:its=its':=by simpa using congrArg Array.toList d1
 subst this
 exact r.inj r'
end
abbrev Cx.wish (X:Cx) (E:Value->Shared->Prop):Cx:={ X with xe:=E }
abbrev Cx.nox (X:Cx):Cx:=X.wish λ_ _=>False
theorem Cx.Ok.wish {X:Cx}(ok:X.Ok) (E:Value->Shared->Prop):(X.wish E).Ok :=
 ⟨ok.mod,ok.kind,ok.glob,ok.blt,ok.above,ok.inj,ok.has,ok.cab,ok.hd,ok.frames,ok.stk,ok.exf,ok.bs,ok.bsz,ok.noex,ok.exfs,ok.funs,ok.frf⟩
theorem Cx.Ok.unwish {X:Cx}{E:Value->Shared->Prop}(ok:(X.wish E).Ok):X.Ok :=
 ⟨ok.mod,ok.kind,ok.glob,ok.blt,ok.above,ok.inj,ok.has,ok.cab,ok.hd,ok.frames,ok.stk,ok.exf,ok.bs,ok.bsz,ok.noex,ok.exfs,ok.funs,ok.frf⟩
section
variable {X:Cx}{pins:List (Addr×Obj)}{σ:St}{H:Hp}{s:Shared}{E:Value->Shared->Prop}
theorem Inv.wish (I:Inv X pins σ H s) (E:Value->Shared->Prop):Inv (X.wish E) pins σ H s:=⟨I.ok.wish E,I.os,I.bare,I.base,I.loc,I.cell,I.free,I.freeC,I.pin,I.hok,I.len⟩
theorem Inv.unwish (I:Inv (X.wish E) pins σ H s):Inv X pins σ H s:=⟨I.ok.unwish,I.os,I.bare,I.base,I.loc,I.cell,I.free,I.freeC,I.pin,I.hok,I.len⟩
theorem SP.unwish {D:vt}{f:Flow}{s':Shared}(h:SP (X.wish E) pins D f s'):SP X pins D f s':=by
 cases f with
 | next=>obtain⟨σ',H',I,q⟩:=h;exact⟨σ',H',I.unwish,q⟩
 | brk=>obtain⟨σ',H',I,q⟩:=h;exact⟨σ',H',I.unwish,q⟩
 | cont=>obtain⟨σ',H',I,q⟩:=h;exact⟨σ',H',I.unwish,q⟩
 | ret u=>obtain⟨v,σ',H',I,r,q⟩:=h;exact⟨v,σ',H',I.unwish,r,q⟩
theorem PSs.nox {st:List Stmt}{t:TS}(h:PSs X.nox st t):PSs X st t:=λpins s σ H D I hw =>
 yu (h pins s σ H D (I.wish _) hw) (λ_ _ q=>q.unwish) λ_ _ z=>False.elim z
end
section
variable {X:Cx}{st:Stmt}{rest:List Stmt}{t u:TS}{e:Expr}{te:TE}{pos:Pos}
def zf8:TS:=λD σ H=>D.nx σ H
def Vv (t u:TS):TS:=λD σ H=>t { D with nx:=u D } σ H
theorem zT:PSs X [] zf8:=λ_ _ σ H _ I h=>Wv ⟨σ,H,I,h⟩
theorem zA (h1:PS X st t) (h2:PSs X rest u):PSs X (st::rest) (Vv t u):=by
 intro pins s σ H D I h
 refine wpAny_execs_cons (thn (h1 pins s σ H { D with nx:=u D } I h) λf s1 q=>?_)
 cases f with
 | next =>
  obtain⟨σ',H',I',q⟩:=q
  exact h2 pins s1 σ' H' D I' q
 | ret v=>exact q
 | brk=>exact q
 | cont=>exact q
theorem zh (h1:PS X st t):PSs X [st] t:=by
 intro pins s σ H D I h
 refine wpAny_execs_cons (thn (h1 pins s σ H D I h) λf s1 q=>?_)
 cases f with
 | next=>exact Wv q
 | ret v=>exact q
 | brk=>exact q
 | cont=>exact q
theorem Inv.quiet {pins:List (Addr×Obj)}{σ:St}{H:Hp}{s:Shared}(I:Inv X pins σ H s):interactive X.env=false:=by simp[interactive,I.ok.kind]
def zjk (te:TE):TS:=λD σ H=>te σ H λ_ H1=>D.nx σ H1
theorem qh (he:PE X e te) (hs:swapsWith e none pos.line X.env=pure false:=by rfl):PS X (.Expr e pos) (zjk te):=by
 intro pins s σ H D I h
 exact wpAny_Expr_any (thn (he pins s σ H _ I h) λv s1 ⟨x,H1,I1,r1,q1⟩=>⟨σ,H1,I1,q1⟩) I.quiet hs
def zad (te:TE):TS:=λD σ H=>te σ H D.rt
theorem zL (he:PE X e te):PS X (.Return (some e) pos) (zad te):=by
 intro pins s σ H D I h
 exact wpAny_Return_some (thn (he pins s σ H _ I h) λv s1 ⟨x,H1,I1,r1,q1⟩=>⟨x,σ,H1,I1,r1,q1⟩)
def zhT (c:TT) (t u:TS):TS:=λD σ H=>c σ H λb H1=>if b=true then t D σ H1 else u D σ H1
theorem xh {c:Expr}{a b:List Stmt}{tc:TT}(hc:PT X c tc) (ha:PSs X a t) (hb:PSs X b u):PS X (.If c a b pos) (zhT tc t u):=by
 intro pins s σ H D I h
 refine wpAny_If (thn (hc pins s σ H _ I h) λd s1 ⟨H1,I1,q1⟩=>?_)
 cases d with
 | true=>exact ha pins s1 σ H1 D I1 q1
 | false=>exact hb pins s1 σ H1 D I1 q1
def zhU:TS:=λ_ _ _=>False
theorem zbS {sts:List Stmt}:PSs X sts zhU:=λ_ _ _ _ _ _ h=>h.elim
end
abbrev TG:=V->St->Hp->(St->Hp->Prop)->Prop
abbrev TGs:=List V->St->Hp->(St->Hp->Prop)->Prop
def PG (X:Cx) (target:Expr) (t:TG):Prop :=
 ∀(pins:List (Addr×Obj)) (s:Shared) (σ:St) (H:Hp) (v:V) (u:Value) (Q:St->Hp->Prop),Inv X pins σ H s->xr v u->t v σ H Q →
  wpAny (model X.prog X.w) X.A (assign target X.env u) (λ_ s'=>∃σ' H',Inv X pins σ' H' s'/\Q σ' H') X.xe s
def PGs (X:Cx) (ts:List Expr) (t:TGs):Prop :=
 ∀(pins:List (Addr×Obj)) (s:Shared) (σ:St) (H:Hp) (vs:List V) (us:List Value) (Q:St->Hp->Prop),Inv X pins σ H s->xb vs us->t vs σ H Q →
  wpAny (model X.prog X.w) X.A (assignInOrder ((assignEach ts X.env).map (·.2)) us) (λ_ s'=>∃σ' H',Inv X pins σ' H' s'/\Q σ' H') X.xe s
abbrev zgi:=V->V->V->Hp->(Hp->Prop)->Prop
def zh3 (X:Cx) (t:zgi):Prop :=
 ∀(pins:List (Addr×Obj)) (s:Shared) (σ:St) (H:Hp) (o i v:V) (ov iv u:Value) (Q:Hp->Prop),Inv X pins σ H s->xr o ov->xr i iv->xr v u->t o i v H Q →
  wpAny (model X.prog X.w) X.A (setItem ov iv u) (λ_ s'=>∃H',Inv X pins σ H' s'/\Q H') X.xe s
section
variable {X:Cx}{pos:Pos}
def zO (i:Nat):TG:=λv σ H Q=>Q (σ.set i (some v)) H
theorem zK {i:Nat}{x:Str}(hN:X.N.Nodup) (hi:X.N[i]? = some x) (hx:Loc X.env.scope x) (hf:X.fn x=true\/X.env.scope.names.lookup x=some .local := by first | exact .inl rfl | exact .inr rfl | assumption):PG X (.Name x pos) (zO i):=by
 intro pins s σ H v u Q I r h
 exact wpAny_assign_Name (ZU I hN hi hx r (λs' I'=>⟨_,H,I',h⟩) hf)
def JJ:TGs:=λvs σ H Q=>vs=[]/\Q σ H
def v9 (t:TG) (u:TGs):TGs:=λvs σ H Q=>∃v r,vs=v::r/\t v σ H λσ' H'=>u r σ' H' Q
theorem xD:PGs X [] JJ:=by
 intro pins s σ H vs us Q I r h
 obtain⟨e,h⟩:=h
 subst e
 cases r
 exact assignInOrder_nil ⟨σ,H,I,h⟩
theorem zS {e:Expr}{es:List Expr}{t:TG}{u:TGs}(h1:PG X e t) (h2:PGs X es u)
  (hs:(assignEach (e::es) X.env).map (·.2)=assign e X.env::(assignEach es X.env).map (·.2):=by rfl):PGs X (e::es) (v9 t u):=by
 intro pins s σ H vs us Q I r h
 obtain⟨v,vr,e1,h⟩:=h
 subst e1
 cases r with
 | cons r rr =>
  rw[hs]
  refine assignInOrder_cons (thn (h1 pins s σ H _ _ _ I r h) λ_ s1 ⟨σ1,H1,I1,q1⟩=>?_)
  exact h2 pins s1 σ1 H1 _ _ Q I1 rr q1
def Vc (K:Fg) (n:Nat) (t:TGs):TG:=λv σ H Q=>∃a xs,v = .ref a/\SqT K H a xs/\xs.length=n/\t xs σ H Q
theorem qv {es:List Expr}{k:Nat}{t:TGs}{n:Nat}(hc:X.calm=true) (h:PGs X es t)
  (hn:(assignEach es X.env).length=n:=by rfl) (hst:(assignEach es X.env).findIdx? (·.1)=none:=by rfl):PG X (.Tuple es k pos) (Vc X.K n t):=by
 intro pins s σ H v u Q I r hw
 obtain⟨a,xs,e1,hq,hl,hw⟩:=hw
 subst e1
 cases r
 obtain⟨its,rv,ht,hz⟩:=I.tuple hq
 refine assign_Tuple_tuple (I.ok.hd hc) ht (by simp[hn,<-hl,rv.length]) hst λh' hx=>?_
 have I1:Inv X pins σ H { s with heap:=h' }:=I.kept (t':=s.toks) λb o e=>hx b o (wO (wA e)) e
 exact h pins _ σ H xs _ Q I1 (by simpa using rv) hw
def gSub (to ti:TE) (t:zgi):TG:=λv σ H Q=>to σ H λo H1=>ti σ H1 λi H2=>t o i v H2 λH3=>Q σ H3
theorem jP {o i:Expr}{to ti:TE}{t:zgi}(ho:PE X o to) (hi:PE X i ti) (hs:zh3 X t)
  (ha:∀v,assign (.Subscript o i pos) X.env v=(do
   let ov <-holding [v] (eval o X.env)
   let iv <-holding [v,ov] (eval i X.env)
   standAt pos
   holding [v,ov,iv] (setItem ov iv v)
   release [v,ov,iv] []):=by intro _;rfl):PG X (.Subscript o i pos) (gSub to ti t):=by
 intro pins s σ H v u Q I r h
 rw[ha]
 refine wc (yh (thn (ho pins s σ H _ I h) λov s1 ⟨x,H1,I1,r1,q1⟩=>?_))
 refine wc (yh (thn (hi pins s1 σ H1 _ I1 q1) λiv s2 ⟨y,H2,I2,r2,q2⟩=>?_))
 refine wc (ul (wc (yh (thn (hs pins s2 σ H2 x y v ov iv u _ I2 r1 r2 r q2) λ_ s3 ⟨H3,I3,q3⟩=>?_))))
 exact wpAny_release ⟨σ,H3,I3,q3⟩
def zdM (te:TE) (g:TG):TS:=λD σ H=>te σ H λx H1=>g x σ H1 D.nx
theorem qg {tg e:Expr}{te:TE}{g:TG}(he:PE X e te) (hg:PG X tg g) (hs:swapsWithSole [tg] e pos.line X.env=pure false:=by rfl) (hw:swappedStores [tg] e X.env=pure none:=by rfl)
  (h1:(assignEach [tg] X.env).map (·.2)=[assign tg X.env]:=by rfl):PS X (.Assign [tg] e pos) (zdM te g):=by
 intro pins s σ H D I h
 refine wpAny_Assign_stores (thn (he pins s σ H _ I h) λv s1 ⟨x,H1,I1,r1,q1⟩=>?_) hs hw
 rw[h1]
 exact thn (hg pins s1 σ H1 x v _ I1 r1 q1) λ_ s2 q=>q
theorem zQ {i:Nat}{x:Str}{e:Expr}{te:TE}{pos':Pos}(hN:X.N.Nodup) (hi:X.N[i]? = some x) (hx:Loc X.env.scope x) (he:PE X e te) (hs:swapsWith e (some (.Name x pos')) pos.line X.env=pure false:=by rfl) (hf:X.fn x=true\/X.env.scope.names.lookup x=some .local := by first | exact .inl rfl | exact .inr rfl | assumption) :
  PS X (.Assign [.Name x pos'] e pos) (zdM te (zO i)):=by
 intro pins s σ H D I h
 refine wpAny_Assign_Name (thn (he pins s σ H _ I h) λv s1 ⟨y,H1,I1,r1,q1⟩=>?_) hs
 exact ZU I1 hN hi hx r1 (λs2 I2=>⟨_,H1,I2,q1⟩) hf
def tPar (i j:Nat) (ta:TA):TS:=λD σ H=>ta σ H λvs H1=>∃v w,vs=[v,w]/\D.nx ((σ.set i (some v)).set j (some w)) H1
theorem J2 {i j:Nat}{x y:Str}{a b:Expr}{ta:TA}{px py pt:Pos} {kt k2 pt2} (hc:X.calm=true) (hN:X.N.Nodup) (hi:X.N[i]? = some x) (hj:X.N[j]? = some y) (hij:i≠j)
  (hx:X.env.scope.names.lookup x=some .local) (hy:X.env.scope.names.lookup y=some .local) (ha:PA X [a,b] ta)
  (hw:swappedStores [.Tuple [.Name x px,.Name y py] kt pt] (.Tuple [a,b] k2 pt2) X.env=pure (some [x,y]))
  (hs:swapsWithSole [.Tuple [.Name x px,.Name y py] kt pt] (.Tuple [a,b] k2 pt2) pos.line X.env=pure false:=by rfl) :
  PS X (.Assign [.Tuple [.Name x px,.Name y py] kt pt] (.Tuple [a,b] k2 pt2) pos) (tPar i j ta):=by
 intro pins s σ H D I h
 rw[exec_Assign_arm]
 refine wc (ul ?_)
 rw[hs]
 refine wc (wo ?_)
 rw[if_neg (by decide)]
 refine wc (Tuple_ (thn (ha _ pins s σ H _ I h) λus s1 ⟨vs,H1,I1,r1,q1⟩=>?_))
 obtain⟨v,w,e1,q1⟩:=q1
 subst e1
 obtain⟨u1,u2,rfl,rv,rw'⟩:∃u1 u2,us=[u1,u2]/\xr v u1/\xr w u2:=by
  cases r1 with
  | cons p q =>
   cases q with
   | cons p' q' =>
    cases q'
    exact⟨_,_,rfl,p,p'⟩
 refine yj ?_ (zL2)
 have I2:Inv X pins σ H1 { s1 with heap:=s1.heap.push { cls:=.type "tuple",data:=.seq [u1,u2].toArray } }:=I1.kept (t':=s1.toks) λb o e=>wd _ e
 rw[hw]
 refine wc (wo ?_)
 show wpAny (model X.prog X.w) X.A (do rule "assign.swapped-stores";let items <-unpackItems (.ref s1.heap.objs.size) 2 none;assignInOrder [λv=>bindName X.env y v,λv=>bindName X.env x v] items.reverse;pure Flow.next) _ _ _
 refine wc (uF (wc (unpackItems_tuple (items:=#[u1,u2]) (I.ok.hd hc) (IsTup.new s1.heap _) λh' hx'=>?_)))
 have I3:=I2.kept (h':=h') (t':=s1.toks) λb o e=>hx' b o (wO (wA e)) e
 show wpAny _ _ (assignInOrder [λv=>bindName X.env y v,λv=>bindName X.env x v] [u2,u1] >>= λ_=>pure Flow.next) _ _ _
 refine wc (assignInOrder_cons (wpAny_bindName (ZU I3 hN hj (.inl hy) rw' (λs2 I4=>?_) (.inr hy))))
 refine assignInOrder_cons (wpAny_bindName (ZU I4 hN hi (.inl hx) rv (λs3 I5=>assignInOrder_nil (wo ?_)) (.inr hx)))
 rw[List.set_comm _ _ (Ne.symm hij)]at I5
 exact⟨_,H1,I5,q1⟩
def Vw (c:TT) (tb:TS):TS:=λD σ H=>∃W:Nat->St->Hp->Prop,(∃m,W m σ H)/\∀m σ H,W m σ H →
 c σ H λb H1=>if b=true then ∃N:St->Hp->Prop,(∀σ' H',N σ' H'->∃m',m'<m/\W m' σ' H')/\tb { D with nx:=N,ct:=N,bk:=D.nx } σ H1 else D.nx σ H1
theorem ZH {c:Expr}{body:List Stmt}{tc:TT}{tb:TS}(hp:PassesOwn (model X.prog X.w) X.A X.env X.xe) (hc:PT X c tc) (hb:PSs X body tb):PS X (.While c body [] pos) (Vw tc tb):=by
 intro pins s σ H D I h
 obtain⟨W,⟨m0,w0⟩,turn⟩:=h
 refine wpAny_While (codeAny_whileLoop (λn s'=>∃σ' H',Inv X pins σ' H' s'/\W n σ' H') ?_ m0 ⟨σ,H,I,w0⟩)
 rintro n s1 ⟨σ1,H1,I1,w1⟩
 refine uc hp (thn (hc pins s1 σ1 H1 _ I1 (turn n σ1 H1 w1)) λb s2 ⟨H2,I2,q2⟩=>?_)
 cases b with
 | true =>
  obtain⟨N,hN,q2⟩:=q2
  rw[if_pos rfl]
  refine uc hp (thn (hb pins s2 σ1 H2 _ I2 q2) λf s3 q3=>?_)
  cases f with
  | next =>
   obtain⟨σ3,H3,I3,n3⟩:=q3
   obtain⟨m',hm,w3⟩:=hN σ3 H3 n3
   exact⟨m',hm,σ3,H3,I3,w3⟩
  | cont =>
   obtain⟨σ3,H3,I3,n3⟩:=q3
   obtain⟨m',hm,w3⟩:=hN σ3 H3 n3
   exact⟨m',hm,σ3,H3,I3,w3⟩
  | brk=>exact q3
  | ret v=>exact q3
 | false =>
  rw[if_neg wL]
  exact Wv ⟨σ1,H2,I2,q2⟩
end
structure It where
 go:Nat->Hp->Prop
 yld:Nat->Hp->V->Hp->Prop
 stop:Nat->Hp->Prop
def XI (X:Cx) (pins:List (Addr×Obj)) (H:Hp) (b:Addr):Prop :=
 H b=none/\b≠X.env.locals/\b∉X.fs/\(b∈X.ex\/X.s₀.heap.objs.size<=b)/\(∀x c,X.env.cells.lookup x=some c->c≠b)/\∀p∈X.pn++pins,p.1≠b
theorem Inv.fpOk {X:Cx}{pins:List (Addr×Obj)}{σ:St}{H H':Hp}{s:Shared}{b:Addr}(I:Inv X pins σ H s) (hb:s.heap.objs.size<=b) (hn:H' b=none):XI X pins H' b:=by
 refine⟨hn,uM (wK I.lt hb),I.nofs hb,.inr (wS I.sz hb),λx c e z=>?_,λp hp z=>?_⟩
 ·obtain⟨v,q⟩:=I.cell x c e
  exact absurd (wK q.lt (by rw[z];exact hb)) (ue _)
 ·exact absurd (wK (wA (I.pin p hp).1) (by rw[z];exact hb)) (ue _)
structure zbn (P:Program) (w:World) (K:Fg) (tg:Expr) (J:It) (fp:List Addr) (it:Addr) (tn:Nat->Heap->Prop):Prop where
 mem:it∈fp
 obj:∀i h,tn i h->∀b∈fp,∃o,h.get? b=some o/\∀v,o.data≠.cell v
 keep:∀i h h',tn i h->(∀b∈fp,∀o,h.get? b=some o->h'.get? b=some o)->tn i h'
 item:∀(X:Cx),X.prog=P->X.w=w->X.K=K->X.calm=true->∀(i:Nat) (pins:List (Addr×Obj)) (s:Shared) (σ:St) (H:Hp) (E:Value->Shared->Prop),Inv X pins σ H s->(∀b∈fp,XI X pins H b)->tn i s.heap->J.go i H →
  wpAny (model P w) X.A (pyNext (.ref it)) (λr s1=>∃u,r=some u ∧
   wpAny (model P w) X.A (letOwnedTupleGo tg (.ref it) u) (λ_ s2=>∃x H',Inv X pins σ H' s2/\xr x u/\J.yld i H x H'/\tn (i+1) s2.heap/\∀b∈fp,H' b=none) E s1) E s
 done:∀(X:Cx),X.prog=P->X.w=w->X.K=K->X.calm=true->∀(i:Nat) (pins:List (Addr×Obj)) (s:Shared) (σ:St) (H:Hp) (E:Value->Shared->Prop),Inv X pins σ H s->(∀b∈fp,XI X pins H b)->tn i s.heap->J.stop i H →
  wpAny (model P w) X.A (pyNext (.ref it)) (λr s1=>r=none/\Inv X pins σ H s1) E s
 self:∀(A:Around) (i:Nat) (s:Shared) (Q:Value->Shared->Prop) (E:Value->Shared->Prop),tn i s.heap->Q (.ref it) s->wpAny (model P w) A (pyIter (.ref it)) Q E s
abbrev TI:=St->Hp->(It->Hp->Prop)->Prop
def PIE (X:Cx) (pins:List (Addr×Obj)) (σ:St) (tg:Expr) (R:It->Hp->Prop) (itv:Value) (s2:Shared):Prop :=
 ∃(it:Addr) (fp:List Addr) (tn:Nat->Heap->Prop) (J:It) (H':Hp),itv = .ref it/\Inv X pins σ H' s2/\zbn X.prog X.w X.K tg J fp it tn/\tn 0 s2.heap/\(∀b∈fp,XI X pins H' b)/\R J H'
def PI (X:Cx) (tg iter:Expr) (wi:TI):Prop :=
 ∀(pins:List (Addr×Obj)) (s:Shared) (σ:St) (H:Hp) (R:It->Hp->Prop),Inv X pins σ H s->wi σ H R →
  wpAny (model X.prog X.w) X.A (eval iter X.env) (λv s1=>wpAny (model X.prog X.w) X.A (pyIter v) (PIE X pins σ tg R) X.xe s1) X.xe s
theorem zcJ {M:Model}{A:Around}{E:Value->Shared->Prop}{s:Shared}{tg:Expr}{it:Addr}{u:Value}{o:Obj}{n:String}{vs:Array Value}{Q:Unit->Shared->Prop}(ho:s.heap.get? it=some o) (hc:o.cls = .type n) (hd:o.data = .fields vs)
  (hn:["enumerate","zip","dict_itemiterator","dict_reverseitemiterator","odict_iterator","itertools.zip_longest","itertools.pairwise"].contains n=false) (hQ:Q () s):wpAny M A (letOwnedTupleGo tg (.ref it) u) Q E s:=by
 unfold letOwnedTupleGo
 cases tg <;> first
  | exact wo hQ
  | (cases u <;> first
    | exact wo hQ
    | (refine wc (wpAny_load ho ?_)
       rw[hc,hd]
       show wpAny M A (if(["enumerate","zip","dict_itemiterator","dict_reverseitemiterator","odict_iterator","itertools.zip_longest","itertools.pairwise"].contains n&&vs[0]? == some (rawInt _))=true then _ else _) Q E s
       rw[if_neg (by intro h;rw[hn,WE]at h;cases h)]
       exact wo hQ))
def Itl (K:Fg) (a:Addr):It :=
 ⟨λi H=>∃xs x,SqL K H a xs/\xs[i]? = some x,λi H x H'=>H'=H/\∀xs,SqL K H a xs->xs[i]? = some x,λi H=>∃xs,SqL K H a xs/\xs.length<=i⟩
def Itt (K:Fg) (a:Addr):It :=
 ⟨λi H=>∃xs x,SqT K H a xs/\xs[i]? = some x,λi H x H'=>H'=H/\∀xs,SqT K H a xs->xs[i]? = some x,λi H=>∃xs,SqT K H a xs/\xs.length<=i⟩
def Itr (lo:Int) (n:Nat):It:=⟨λi _=>i<n,λi H x H'=>H'=H/\x = .int (lo+i),λi _=>n<=i⟩
theorem zcc {P:Program}{w:World}{K:Fg}{tg:Expr}(a it:Addr):zbn P w K tg (Itl K a) [it] it (λi h=>h.IsListIter it a i) where
 mem:=by simp
 obj:=λi h st b hb=>by
  have e:b=it:=by simpa using hb
  subst e
  obtain⟨o,e,c,d⟩:=st
  exact⟨o,e,λv z=>by rw[d]at z;cases z⟩
 keep:=λi h h' st k=>st.at λo e=>k it (by simp) o e
 item:=by
  intro X hP hw hK hc i pins s σ H E I hf st hg
  subst hP hw hK
  obtain⟨xs,x,hq,hx⟩:=hg
  obtain⟨its,rv,p,hz⟩:=I.list hq
  obtain⟨u,hu,ru⟩:=rv.get hx
  obtain⟨f0,f1,f2,f3,f4,f5⟩:=hf it (by simp)
  refine wpAny_pyNext_list_item st p.isList (x:=u) (by simpa using hu) λh' st' sb=>?_
  have I1:Inv X pins σ H { s with heap:=h' }:=I.turned (t':=s.toks) (λb o hb e=>(sb.2 b hb).trans e) f0 f1 f3 f4 f5
  obtain⟨o,e,c,d⟩:=id st'
  exact⟨u,rfl,zcJ (s:={ s with heap:=h' }) e c d (by decide) ⟨x,H,I1,ru,⟨rfl,λys hy=>by rw[I.list_inj hy hq];exact hx⟩,st',λb hb=>(hf b hb).1⟩⟩
 done:=by
  intro X hP hw hK hc i pins s σ H E I hf st hg
  subst hP hw hK
  obtain⟨xs,hq,hx⟩:=hg
  obtain⟨its,rv,p,hz⟩:=I.list hq
  obtain⟨f0,f1,f2,f3,f4,f5⟩:=hf it (by simp)
  have hl:=rv.length
  exact wpAny_pyNext_list_end (I.ok.hd hc) st p.isList (by simp;omega) λh' eb=>⟨rfl,I.turned (t':=s.toks) (λb o hb e=>eb b o hb e) f0 f1 f3 f4 f5⟩
 self:=λ_ _ _ _ _ st h=>wpAny_pyIter_listiter st h
theorem zaf {P:Program}{w:World}{K:Fg}{tg:Expr}(a it:Addr):zbn P w K tg (Itt K a) [it] it (λi h=>h.IsTupleIter it a i) where
 mem:=by simp
 obj:=λi h st b hb=>by
  have e:b=it:=by simpa using hb
  subst e
  obtain⟨o,e,c,d⟩:=st
  exact⟨o,e,λv z=>by rw[d]at z;cases z⟩
 keep:=λi h h' st k=>st.at λo e=>k it (by simp) o e
 item:=by
  intro X hP hw hK hc i pins s σ H E I hf st hg
  subst hP hw hK
  obtain⟨xs,x,hq,hx⟩:=hg
  obtain⟨its,rv,p,hz⟩:=I.tuple hq
  obtain⟨u,hu,ru⟩:=rv.get hx
  obtain⟨f0,f1,f2,f3,f4,f5⟩:=hf it (by simp)
  refine wpAny_pyNext_tuple_item st (show s.heap.IsTuple a its.toArray from p) (x:=u) (by simpa using hu) λh' st' sb=>?_
  have I1:Inv X pins σ H { s with heap:=h' }:=I.turned (t':=s.toks) (λb o hb e=>(sb.2 b hb).trans e) f0 f1 f3 f4 f5
  obtain⟨o,e,c,d⟩:=id st'
  exact⟨u,rfl,zcJ (s:={ s with heap:=h' }) e c d (by decide) ⟨x,H,I1,ru,⟨rfl,λys hy=>by rw[I.tuple_inj hy hq];exact hx⟩,st',λb hb=>(hf b hb).1⟩⟩
 done:=by
  intro X hP hw hK hc i pins s σ H E I hf st hg
  subst hP hw hK
  obtain⟨xs,hq,hx⟩:=hg
  obtain⟨its,rv,p,hz⟩:=I.tuple hq
  obtain⟨f0,f1,f2,f3,f4,f5⟩:=hf it (by simp)
  have hl:=rv.length
  exact wpAny_pyNext_tuple_end (I.ok.hd hc) st (show s.heap.IsTuple a its.toArray from p) (by simp;omega) λh' eb=>⟨rfl,I.turned (t':=s.toks) (λb o hb e=>eb b o hb e) f0 f1 f3 f4 f5⟩
 self:=λ_ _ _ _ _ st h=>wpAny_pyIter_tupleiter st h
theorem zae {P:Program}{w:World}{K:Fg}{tg:Expr}(it:Addr) (lo:Int) (n:Nat):zbn P w K tg (Itr lo n) [it] it (λi h=>IsRangeIter h it (lo+(i:Nat)*1) ((n:Int) - (i:Nat)) 1) where
 mem:=by simp
 obj:=λi h st b hb=>by
  have e:b=it:=by simpa using hb
  subst e
  exact⟨_,st,λv z=>by
   have z':Data.fields _=Data.cell v:=z
   cases z'⟩
 keep:=λi h h' st k=>k it (by simp) _ st
 item:=by
  intro X hP hw hK hc i pins s σ H E I hf st hg
  subst hP hw hK
  obtain⟨f0,f1,f2,f3,f4,f5⟩:=hf it (by simp)
  have W:=Walks.range (prog:=X.prog) (w:=X.w) (I.ok.hd hc) it lo 1 n
  refine W.item i s _ _ hg st λv h' tk hv st' kk=>?_
  obtain⟨t,rfl⟩:=hv
  have I1:Inv X pins σ H { s with heap:=h',toks:=tk }:=I.turned (λb o hb e=>kk b o (by simpa using hb) e) f0 f1 f3 f4 f5
  refine⟨_,rfl,zcJ (s:={ s with heap:=h',toks:=tk }) (n:="range_iterator") st' rfl rfl (by decide) ⟨.int (lo+i),H,I1,⟨t,?_⟩,⟨rfl,rfl⟩,st',λb hb=>(hf b hb).1⟩⟩
  rw[Int.mul_one]
 done:=by
  intro X hP hw hK hc i pins s σ H E I hf st hg
  subst hP hw hK
  obtain⟨f0,f1,f2,f3,f4,f5⟩:=hf it (by simp)
  exact wpAny_pyNext_range_end (I.ok.hd hc) st (by have:n<=i:=hg;omega) λh' eb=>⟨rfl,I.turned (t':=s.toks) (λb o hb e=>eb b o hb e) f0 f1 f3 f4 f5⟩
 self:=λ_ _ _ _ _ st h=>wpAny_pyIter_rangeiter st h
section
variable {X:Cx}{tg:Expr}
def zfM (K:Fg) (tl:TE):TI:=λσ H R=>tl σ H λx H1=>∃a,x = .ref a/\(∃xs,SqL K H1 a xs)/\R (Itl K a) H1
def zie (K:Fg) (tl:TE):TI:=λσ H R=>tl σ H λx H1=>∃a,x = .ref a/\(∃xs,SqT K H1 a xs)/\R (Itt K a) H1
theorem xN {l:Expr}{tl:TE}(hl:PE X l tl):PI X tg l (zfM X.K tl):=by
 intro pins s σ H R I h
 refine thn (hl pins s σ H _ I h) λv s1 ⟨x,H1,I1,r1,q1⟩=>?_
 obtain⟨a,e,⟨xs,hq⟩,q⟩:=q1
 subst e
 cases r1
 obtain⟨its,rv,p,hz⟩:=I1.list hq
 refine Wc p.isList ?_
 refine⟨s1.heap.objs.size,[s1.heap.objs.size],_,_,H1,rfl,I1.kept (t':=s1.toks) λb o e=>wd _ e,zcc a _,⟨_,wB _ rfl,rfl,rfl⟩,λb hb=>?_,q⟩
 have e:b=s1.heap.objs.size:=by simpa using hb
 subst e
 exact I1.fpOk (wx _) (I1.hok.fresh (wx _))
theorem Zs {l:Expr}{tl:TE}(hl:PE X l tl):PI X tg l (zie X.K tl):=by
 intro pins s σ H R I h
 refine thn (hl pins s σ H _ I h) λv s1 ⟨x,H1,I1,r1,q1⟩=>?_
 obtain⟨a,e,⟨xs,hq⟩,q⟩:=q1
 subst e
 cases r1
 obtain⟨its,rv,p,hz⟩:=I1.tuple hq
 refine wpAny_pyIter_tuple (show s1.heap.IsTuple a its.toArray from p) ?_
 refine⟨s1.heap.objs.size,[s1.heap.objs.size],_,_,H1,rfl,I1.kept (t':=s1.toks) λb o e=>wd _ e,zaf a _,⟨_,wB _ rfl,rfl,rfl⟩,λb hb=>?_,q⟩
 have e:b=s1.heap.objs.size:=by simpa using hb
 subst e
 exact I1.fpOk (wx _) (I1.hok.fresh (wx _))
theorem Jd {pins:List (Addr×Obj)}{σ:St}{H:Hp}{s:Shared}{R:It->Hp->Prop}{E:Value->Shared->Prop}{lo hi:Int}{t u v:Tok}{tk:Nat}(I:Inv X pins σ H s) (h1 : -(2^62)<=lo) (h2:lo<2^62) (h3 : -(2^62)<=hi) (h4:hi<2^62)
  (q:R (Itr lo (hi - lo).toNat) H):wpAny (model X.prog X.w) X.A (pyIter (.ref s.heap.objs.size)) (PIE X pins σ tg R) E { s with heap:=s.heap.push { cls:=.type "range",data:=.fields #[.int lo t,.int hi u,.int 1 v] },toks:=tk }:=by
 refine wpAny_pyIter_range (IsRange.new ..) (small_one h1 h2 h3 h4) ?_
 have I1:Inv X pins σ H { s with heap:=s.heap.push { cls:=.type "range",data:=.fields #[.int lo t,.int hi u,.int 1 v] },toks:=tk }:=I.kept λb o e=>wd _ e
 refine⟨(s.heap.push { cls:=.type "range",data:=.fields #[.int lo t,.int hi u,.int 1 v] }).objs.size,[(s.heap.push { cls:=.type "range",data:=.fields #[.int lo t,.int hi u,.int 1 v] }).objs.size],_,_,H,rfl,
  I1.kept (t':=tk) λb o e=>wd _ e,zae _ lo (hi - lo).toNat,?_,λb hb=>?_,q⟩
 ·have e1:lo+((0:Nat):Int)*1=lo:=by simp
  have e2:(((hi - lo).toNat:Nat):Int) - ((0:Nat):Int)=Builtin.Range.rangeSize lo hi 1:=by rw[rangeSize_one];split <;> omega
  show IsRangeIter _ _ (lo+((0:Nat):Int)*1) ((((hi - lo).toNat:Nat):Int) - ((0:Nat):Int)) 1
  rw[e1,e2]
  exact wB _ rfl
 ·have e:b=(s.heap.push { cls:=.type "range",data:=.fields #[.int lo t,.int hi u,.int 1 v] }).objs.size:=by simpa using hb
  subst e
  exact I1.fpOk (wx _) (I1.hok.fresh (wx _))
def zic (ta:TA):TI:=λσ H R=>ta σ H λvs H1=>∃j:Int,vs=[.int j] ∧ -(2^62)<=j/\j<2^62/\R (Itr 0 j.toNat) H1
def zid (ta:TA):TI:=λσ H R=>ta σ H λvs H1=>∃i j:Int,vs=[.int i,.int j]/\(-(2^62)<=i/\i<2^62 ∧ -(2^62)<=j/\j<2^62)/\R (Itr i (j - i).toNat) H1
theorem jd {a:Expr}{ta:TA}{p pos:Pos}(hg:Gl X "range") (hm:X.mg "range" = none) (ha:PA X [a] ta) (hs:starEach [a] X.env=[(false,eval a X.env)]:=by rfl):PI X tg (.Call (.Name "range" p) [a] [] pos) (zic ta):=by
 intro pins s σ H R I h
 refine Call_ (jJ I hg hm boot_range (yC (thn (ha pos pins s σ H _ I h) λus s1 ⟨vs,H1,I1,r1,q1⟩=>?_) hs rfl))
 obtain⟨j,e,q1,q2,q⟩:=q1
 subst e
 cases r1 with
 | cons r rr =>
  cases rr
  obtain⟨t,rfl⟩:=r
  exact call_range_1 (Jd I1 (by omega) (by omega) q1 q2 (by simpa using q))
theorem zbQ {a b:Expr}{ta:TA}{p pos:Pos}(hg:Gl X "range") (hm:X.mg "range" = none) (ha:PA X [a,b] ta) (hs:starEach [a,b] X.env=[(false,eval a X.env),(false,eval b X.env)]:=by rfl) (hs2:starEach [b] X.env=[(false,eval b X.env)]:=by rfl) :
  PI X tg (.Call (.Name "range" p) [a,b] [] pos) (zid ta):=by
 intro pins s σ H R I h
 refine Call_ (jJ I hg hm boot_range (yC (thn (ha pos pins s σ H _ I h) λus s1 ⟨vs,H1,I1,r1,q1⟩=>?_) (by rw[hs,hs2]) (by rw[hs2];rfl)))
 obtain⟨i,j,e,⟨q1,q2,q3,q4⟩,q⟩:=q1
 subst e
 cases r1 with
 | cons r rr =>
  cases rr with
  | cons r' rr =>
   cases rr
   obtain⟨t,rfl⟩:=r
   obtain⟨t',rfl⟩:=r'
   exact call_range_2 (Jd I1 q1 q2 q3 q4 q)
def zfu (wi:TI) (g:TG) (tb:TS):TS:=λD σ H=>wi σ H λJ H1=>∃W:Nat->Nat->St->Hp->Prop,(∃m,W 0 m σ H1)/\∀i m σ H,W i m σ H →
 (J.stop i H/\D.nx σ H)\/(J.go i H/\∃N:St->Hp->Prop,(∀σ' H',N σ' H'->∃m',m'<m/\W (i+1) m' σ' H')/\∀x H',J.yld i H x H'->g x σ H' λσ2 H2=>tb { D with nx:=N,ct:=N,bk:=D.nx } σ2 H2)
def Xe (fp:List Addr) (h:Heap):List (Addr×Obj):=fp.filterMap λb=>(h.get? b).map λo=>(b,o)
theorem qZ {fp:List Addr}{h:Heap}{b:Addr}{o:Obj}(hb:b∈fp) (e:h.get? b=some o):(b,o)∈Xe fp h:=WA.mpr ⟨b,hb,by rw[e];rfl⟩
theorem zbP {fp:List Addr}{h:Heap}{p:Addr×Obj}(hp:p∈Xe fp h):p.1∈fp/\h.get? p.1=some p.2:=by
 obtain⟨b,hb,e⟩:=WA.mp hp
 cases q:h.get? b with
 | none=>rw[q]at e;cases e
 | some o =>
  rw[q]at e
  have e':(b,o)=p:=Option.some.inj e
  subst e'
  exact⟨hb,q⟩
theorem Inv.pinned {pins:List (Addr×Obj)}{σ:St}{H:Hp}{s:Shared}{fp:List Addr}(I:Inv X pins σ H s) (hf:∀b∈fp,XI X pins H b) (ho:∀b∈fp,∃o,s.heap.get? b=some o/\∀v,o.data≠.cell v):Inv X (pins++Xe fp s.heap) σ H s :=
 I.pins_of λp hp=>(wN.mp hp).elim (λz=>I.pin p (wC _ z)) λz=>by
  obtain⟨hb,e⟩:=zbP z
  obtain⟨f0,f1,f2,_⟩:=hf p.1 hb
  obtain⟨o,e',d⟩:=ho p.1 hb
  rw[e]at e';cases e'
  exact⟨e,f0,f1,f2,d⟩
theorem Inv.unpinned {pins pl:List (Addr×Obj)}{σ:St}{H:Hp}{s:Shared}(I:Inv X (pins++pl) σ H s):Inv X pins σ H s:=I.pins_of λp hp=>I.pin p (wC _ (wT _ hp))
theorem qJ {iter:Expr}{body:List Stmt}{wi:TI}{g:TG}{tb:TS}{pos:Pos}(hp:PassesOwn (model X.prog X.w) X.A X.env X.xe) (hc:X.calm=true) (hi:PI X tg iter wi) (hg:PG X tg g) (hb:PSs X body tb)
  (hs:∀x,foldedSetIterable iter X.env x=pure x:=by intro _;rfl):PS X (.For tg iter body [] pos) (zfu wi g tb):=by
 intro pins s σ H D I h
 refine wpAny_For (thn (hi pins s σ H _ I h) λv s1 h1=>thn h1 λitv s2 h2=>?_) hs
 obtain⟨it,fp,tn,J,H2,e,I2,T,st2,f2,W,⟨m0,w0⟩,turn⟩:=h2
 subst e
 have stat:∀{H':Hp},(∀b∈fp,H' b=none)->∀b∈fp,XI X pins H' b:=λhn b hb=>⟨hn b hb,(f2 b hb).2⟩
 refine codeAny_forLoop_any (λn s'=>∃i σ' H',Inv X pins σ' H' s'/\tn i s'.heap/\(∀b∈fp,H' b=none)/\W i n σ' H') ?_ m0 ⟨0,σ,H2,I2,st2,λb hb=>(f2 b hb).1,w0⟩
 rintro n s3 ⟨i,σ3,H3,I3,st3,fr3,w3⟩
 rcases turn i n σ3 H3 w3 with⟨stop,qn⟩ | ⟨go,N,hN,step⟩
 ·refine uc hp (thn (T.done X rfl rfl rfl hc i pins s3 σ3 H3 X.xe I3 (stat fr3) st3 stop) λr s4 ⟨hr,I4⟩=>?_)
  subst hr
  exact Wv ⟨σ3,H3,I4,qn⟩
 ·refine uc hp (thn (T.item X rfl rfl rfl hc i pins s3 σ3 H3 X.xe I3 (stat fr3) st3 go) λr s4 ⟨u,hr,h4⟩=>?_)
  subst hr
  refine uc hp (thn h4 λ_ s5 ⟨x,H5,I5,r5,y5,st5,fr5⟩=>?_)
  have I5':=I5.pinned (stat fr5) (T.obj _ _ st5)
  refine uc hp (thn (hg _ s5 σ3 H5 x u _ I5' r5 (step x H5 y5)) λ_ s6 ⟨σ6,H6,I6,q6⟩=>?_)
  refine uc hp (thn (hb _ s6 σ6 H6 _ I6 q6) λf s7 q7=>?_)
  have again:∀{σ7:St}{H7:Hp},Inv X (pins++Xe fp s5.heap) σ7 H7 s7->N σ7 H7->∃m,m<n/\∃i σ' H',Inv X pins σ' H' s7/\tn i s7.heap/\(∀b∈fp,H' b=none)/\W i m σ' H':=λ{σ7 H7} I7 n7=>by
   obtain⟨m',hm,w7⟩:=hN σ7 H7 n7
   refine⟨m',hm,i+1,σ7,H7,I7.unpinned,T.keep _ _ _ st5 λb hb o e=>(I7.pin (b,o) (wC _ (wC _ (qZ hb e)))).1,λb hb=>?_,w7⟩
   obtain⟨o,e,d⟩:=T.obj _ _ st5 b hb
   exact(I7.pin (b,o) (wC _ (wC _ (qZ hb e)))).2.1
  cases f with
  | next=>obtain⟨σ7,H7,I7,n7⟩:=q7;exact again I7 n7
  | cont=>obtain⟨σ7,H7,I7,n7⟩:=q7;exact again I7 n7
  | brk=>obtain⟨σ7,H7,I7,q7⟩:=q7;exact⟨σ7,H7,I7.unpinned,q7⟩
  | ret v=>obtain⟨x7,σ7,H7,I7,r7,q7⟩:=q7;exact⟨x7,σ7,H7,I7.unpinned,r7,q7⟩
end
theorem jG {K:Fg}{a:Addr}{xs:List V}{g:TG}{tb:TS}{D:vt}{σ:St}{H:Hp}(Pv:Nat->St->Hp->Prop) (h0:Pv 0 σ H) (hl:∀i σ H,i<=xs.length->Pv i σ H->SqL K H a xs)
  (hs:∀i x σ H,xs[i]? = some x->Pv i σ H->g x σ H λσ2 H2=>tb { D with nx:=Pv (i+1),ct:=Pv (i+1),bk:=D.nx } σ2 H2) (hd:∀σ H,Pv xs.length σ H->D.nx σ H) :
  ∃W:Nat->Nat->St->Hp->Prop,(∃m,W 0 m σ H)/\∀i m σ H,W i m σ H →
   ((Itl K a).stop i H/\D.nx σ H)\/((Itl K a).go i H/\∃N:St->Hp->Prop,(∀σ' H',N σ' H'->∃m',m'<m/\W (i+1) m' σ' H')/\∀x H',(Itl K a).yld i H x H'->g x σ H' λσ2 H2=>tb { D with nx:=N,ct:=N,bk:=D.nx } σ2 H2):=by
 refine⟨λi m σ H=>m=xs.length - i/\i<=xs.length/\Pv i σ H,⟨xs.length,by simp,yg _,h0⟩,?_⟩
 rintro i m σ H ⟨rfl,hi,p⟩
 have q:=hl i σ H hi p
 by_cases hlt:i<xs.length
 ·refine .inr ⟨⟨xs,xs[i],q,by simp[hlt]⟩,Pv (i+1),λσ' H' p'=>⟨xs.length - (i+1),by omega,rfl,hlt,p'⟩,λx H' y=>?_⟩
  obtain⟨e,y⟩:=y
  subst e
  exact hs i x σ _ (y xs q) p
 ·have e:i=xs.length:=by omega
  subst e
  exact .inl ⟨⟨xs,q,wx _⟩,hd σ H p⟩
theorem zei {K:Fg}{a:Addr}{xs:List V}{g:TG}{tb:TS}{D:vt}{σ:St}{H:Hp}(Pv:Nat->St->Hp->Prop) (h0:Pv 0 σ H) (hl:∀i σ H,i<=xs.length->Pv i σ H->SqT K H a xs)
  (hs:∀i x σ H,xs[i]? = some x->Pv i σ H->g x σ H λσ2 H2=>tb { D with nx:=Pv (i+1),ct:=Pv (i+1),bk:=D.nx } σ2 H2) (hd:∀σ H,Pv xs.length σ H->D.nx σ H) :
  ∃W:Nat->Nat->St->Hp->Prop,(∃m,W 0 m σ H)/\∀i m σ H,W i m σ H →
   ((Itt K a).stop i H/\D.nx σ H)\/((Itt K a).go i H/\∃N:St->Hp->Prop,(∀σ' H',N σ' H'->∃m',m'<m/\W (i+1) m' σ' H')/\∀x H',(Itt K a).yld i H x H'->g x σ H' λσ2 H2=>tb { D with nx:=N,ct:=N,bk:=D.nx } σ2 H2):=by
 refine⟨λi m σ H=>m=xs.length - i/\i<=xs.length/\Pv i σ H,⟨xs.length,by simp,yg _,h0⟩,?_⟩
 rintro i m σ H ⟨rfl,hi,p⟩
 have q:=hl i σ H hi p
 by_cases hlt:i<xs.length
 ·refine .inr ⟨⟨xs,xs[i],q,by simp[hlt]⟩,Pv (i+1),λσ' H' p'=>⟨xs.length - (i+1),by omega,rfl,hlt,p'⟩,λx H' y=>?_⟩
  obtain⟨e,y⟩:=y
  subst e
  exact hs i x σ _ (y xs q) p
 ·have e:i=xs.length:=by omega
  subst e
  exact .inl ⟨⟨xs,q,wx _⟩,hd σ H p⟩
theorem vL {lo:Int}{n:Nat}{g:TG}{tb:TS}{D:vt}{σ:St}{H:Hp}(Pv:Nat->St->Hp->Prop) (h0:Pv 0 σ H)
  (hs:∀i σ H,i<n->Pv i σ H->g (.int (lo+i)) σ H λσ2 H2=>tb { D with nx:=Pv (i+1),ct:=Pv (i+1),bk:=D.nx } σ2 H2) (hd:∀σ H,Pv n σ H->D.nx σ H) :
  ∃W:Nat->Nat->St->Hp->Prop,(∃m,W 0 m σ H)/\∀i m σ H,W i m σ H →
   ((Itr lo n).stop i H/\D.nx σ H)\/((Itr lo n).go i H/\∃N:St->Hp->Prop,(∀σ' H',N σ' H'->∃m',m'<m/\W (i+1) m' σ' H')/\∀x H',(Itr lo n).yld i H x H'->g x σ H' λσ2 H2=>tb { D with nx:=N,ct:=N,bk:=D.nx } σ2 H2):=by
 refine⟨λi m σ H=>m=n - i/\i<=n/\Pv i σ H,⟨n,by simp,yg _,h0⟩,?_⟩
 rintro i m σ H ⟨rfl,hi,p⟩
 by_cases hlt:i<n
 ·refine .inr ⟨hlt,Pv (i+1),λσ' H' p'=>⟨n - (i+1),by omega,rfl,hlt,p'⟩,λx H' y=>?_⟩
  obtain⟨e,y⟩:=y
  subst e y
  exact hs i σ _ hlt p
 ·have e:i=n:=by omega
  subst e
  exact .inl ⟨wx _,hd σ H p⟩
theorem Jv {c:TT}{tb:TS}{D:vt}{σ:St}{H:Hp}(Pv:St->Hp->Prop) (μ:St->Hp->Nat) (h0:Pv σ H)
  (hs:∀σ H,Pv σ H->c σ H λb H1=>if b=true then tb { D with nx:=λσ' H'=>Pv σ' H'/\μ σ' H'<μ σ H,ct:=λσ' H'=>Pv σ' H'/\μ σ' H'<μ σ H,bk:=D.nx } σ H1 else D.nx σ H1)
  (mono:∀σ H Q Q',(∀b H1,Q b H1->Q' b H1)->c σ H Q->c σ H Q'):Vw c tb D σ H:=by
 refine⟨λm σ H=>m=μ σ H/\Pv σ H,⟨_,rfl,h0⟩,?_⟩
 rintro m σ H ⟨rfl,p⟩
 refine mono σ H _ _ (λb H1 q=>?_) (hs σ H p)
 cases b with
 | true=>exact⟨_,λσ' H' ⟨p',l⟩=>⟨_,l,rfl,p'⟩,q⟩
 | false=>exact q
abbrev R2:=V->V->Hp->VK->Prop
def OpR (X:Cx) (f:Value->Value->Sem Value) (r:R2):Prop :=
 ∀(pins:List (Addr×Obj)) (s:Shared) (σ:St) (H:Hp) (x y:V) (v u:Value) (Q:VK),Inv X pins σ H s->xr x v->xr y u->r x y H Q →
  wpAny (model X.prog X.w) X.A (f v u) (EP X pins σ Q) X.xe s
def UnR (X:Cx) (f:Value->Sem Value) (r:V->Hp->VK->Prop):Prop :=
 ∀(pins:List (Addr×Obj)) (s:Shared) (σ:St) (H:Hp) (x:V) (v:Value) (Q:VK),Inv X pins σ H s->xr x v->r x H Q →
  wpAny (model X.prog X.w) X.A (f v) (EP X pins σ Q) X.xe s
def jw (X:Cx) (f:Value) (r:List V->Hp->VK->Prop):Prop :=
 ∀(pins:List (Addr×Obj)) (s:Shared) (σ:St) (H:Hp) (xs:List V) (us:List Value) (Q:VK),Inv X pins σ H s->xb xs us->r xs H Q →
  wpAny (model X.prog X.w) X.A (call f us) (EP X pins σ Q) X.xe s
def TruR (X:Cx) (r:V->Hp->(Bool->Hp->Prop)->Prop):Prop :=
 ∀(pins:List (Addr×Obj)) (s:Shared) (σ:St) (H:Hp) (x:V) (v:Value) (Q:Bool->Hp->Prop),Inv X pins σ H s->xr x v->r x H Q →
  wpAny (model X.prog X.w) X.A (truthy v) (TP X pins σ Q) X.xe s
def tOp (r:R2) (ta tb:TE):TE:=λσ H Q=>ta σ H λx H1=>tb σ H1 λy H2=>r x y H2 Q
def tUn (r:V->Hp->VK->Prop) (ta:TE):TE:=λσ H Q=>ta σ H λx H1=>r x H1 Q
inductive rIQ (C:Int->Int->Prop) (g:Int->Int->V) (x:V) (y:V) (H:Hp) (Q:VK):Prop
 | mk:∀i j,(x = .int i)->(y = .int j)->(C i j)->(Q (g i j) H)->rIQ C g x y H Q
def rI (C:Int->Int->Prop) (g:Int->Int->V):R2:=λx y H Q=>rIQ C g x y H Q
inductive ziW (g:Int->Int->V) (x:V) (y:V) (H:Hp) (Q:VK):Prop
 | mk:∀i j,(x = .int i)->(y = .int j)->(Q (g i j) H)->ziW g x y H Q
def rI0 (g:Int->Int->V):R2:=λx y H Q=>ziW g x y H Q
def rU (g:Int->V):V->Hp->VK->Prop:=λx H Q=>∃i,x = .int i/\Q (g i) H
section
variable {X:Cx}{a b c:Expr}{ta tb tc:TE}{pos:Pos}
theorem zgm (ha:PE X a ta) (hb:PE X b tb){pins:List (Addr×Obj)}{s:Shared}{σ:St}{H:Hp}{R:V->V->Hp->Prop}(I:Inv X pins σ H s)
  (h:ta σ H λx H1=>tb σ H1 λy H2=>R x y H2){Q:Value->Shared->Prop}{f:Value->Value->Sem Value}
  (hf:∀v u s2 x y H2,Inv X pins σ H2 s2->xr x v->xr y u->R x y H2->wpAny (model X.prog X.w) X.A (f v u) Q X.xe s2) :
  wpAny (model X.prog X.w) X.A (eval a X.env) (λv s₁=>wpAny (model X.prog X.w) X.A (eval b X.env) (λu s₂=>wpAny (model X.prog X.w) X.A (f v u) Q X.xe s₂) X.xe s₁) X.xe s:=by
 refine thn (ha pins s σ H _ I h) λv s1 ⟨x,H1,I1,r1,q1⟩=>?_
 refine thn (hb pins s1 σ H1 _ I1 q1) λu s2 ⟨y,H2,I2,r2,q2⟩=>?_
 exact hf v u s2 x y H2 I2 r1 r2 q2
theorem zB {op:Operator}{r:R2}(ho:OpR X (binaryOp op) r) (ha:PE X a ta) (hb:PE X b tb):PE X (.BinOp a op b pos) (tOp r ta tb):=by
 intro pins s σ H Q I h
 exact wpAny_BinOp (zgm ha hb I h λv u s2 x y H2 I2 rx ry q=>ho pins s2 σ H2 x y v u Q I2 rx ry q)
theorem QN {op:UnaryOp}{r:V->Hp->VK->Prop}(ho:UnR X (unaryOp op) r) (ha:PE X a ta):PE X (.UnaryOp op a pos) (tUn r ta):=by
 intro pins s σ H Q I h
 exact UnaryOp_ (thn (ha pins s σ H _ I h) λv s1 ⟨x,H1,I1,r1,q1⟩=>ho pins s1 σ H1 x v Q I1 r1 q1)
theorem opI {f:Value->Value->Sem Value}{C:Int->Int->Prop}{g:Int->Int->Int}
  (rule:∀(i j:Int) (t u:Tok) (s:Shared) (Q:Value->Shared->Prop) (E:Value->Shared->Prop),C i j->Q (.int (g i j) s.toks) { s with toks:=s.toks+1 }->wpAny (model X.prog X.w) X.A (f (.int i t) (.int j u)) Q E s) :
  OpR X f (rI C λi j=>.int (g i j)):=by
 intro pins s σ H x y v u Q I rx ry h
 obtain⟨i,j,rfl,rfl,hc,q⟩:=h
 obtain⟨t,rfl⟩:=rx
 obtain⟨t',rfl⟩:=ry
 exact rule i j t t' s _ _ hc ⟨.int (g i j),H,I.tok _,⟨_,rfl⟩,q⟩
theorem ziS {f:Value->Value->Sem Value}{g:Int->Int->Int}
  (rule:∀(i j:Int) (t u:Tok) (s:Shared) (Q:Value->Shared->Prop) (E:Value->Shared->Prop),Q (.int (g i j) s.toks) { s with toks:=s.toks+1 }->wpAny (model X.prog X.w) X.A (f (.int i t) (.int j u)) Q E s) :
  OpR X f (rI0 λi j=>.int (g i j)):=by
 intro pins s σ H x y v u Q I rx ry h
 obtain⟨i,j,rfl,rfl,q⟩:=h
 obtain⟨t,rfl⟩:=rx
 obtain⟨t',rfl⟩:=ry
 exact rule i j t t' s _ _ ⟨.int (g i j),H,I.tok _,⟨_,rfl⟩,q⟩
theorem zg6 {f:Value->Value->Sem Value}{g:Int->Int->Bool}
  (rule:∀(i j:Int) (t u:Tok) (s:Shared) (Q:Value->Shared->Prop) (E:Value->Shared->Prop),Q (.bool (g i j)) s->wpAny (model X.prog X.w) X.A (f (.int i t) (.int j u)) Q E s) :
  OpR X f (rI0 λi j=>.bl (g i j)):=by
 intro pins s σ H x y v u Q I rx ry h
 obtain⟨i,j,rfl,rfl,q⟩:=h
 obtain⟨t,rfl⟩:=rx
 obtain⟨t',rfl⟩:=ry
 exact rule i j t t' s _ _ ⟨.bl (g i j),H,I,rfl,q⟩
def CDiv (i j:Int):Prop:=0<j/\j<1073741824
def CPow (i j:Int):Prop:=0<=j/\j<=1000000/\i.natAbs<2^64
def zge (i j:Int):Prop:=(-(2^64)<i/\i<2^64)\/(-(2^64)<j/\j<2^64)
theorem zge.ok {i j:Int}(h:zge i j):IntMulOk i j:=by
 rcases h with⟨h1,h2⟩ | ⟨h1,h2⟩
 ·exact .of_left (intBits_le_64 h1 h2)
 ·exact .of_right (intBits_le_64 h1 h2)
theorem zZ:OpR X (binaryOp .Add) (rI0 λi j=>.int (i+j)):=ziS λ_ _ _ _ _ _ _ q=>add_int q
theorem xZ:OpR X (binaryOp .Sub) (rI0 λi j=>.int (i - j)):=ziS λ_ _ _ _ _ _ _ q=>sub_int q
theorem JY:OpR X (binaryOp .Mult) (rI zge λi j=>.int (i*j)):=opI λ_ _ _ _ _ _ _ hc q=>mul_int q hc.ok
theorem zaI:OpR X (binaryOp .FloorDiv) (rI CDiv λi j=>.int (i/j)):=opI λi j _ _ _ _ _ hc q=>by
 have h1:(0:Int)<j:=hc.1
 have h2:j<1073741824:=hc.2
 exact floordiv_int (by omega) (by rw[yd i (by omega)];exact q) (.inl (PyProof.noPylong_small (by omega)))
theorem ji:OpR X (binaryOp .Mod) (rI (λ_ j=>0<j) λi j=>.int (i % j)):=opI λi j _ _ _ _ _ hc q=>by
 have h1:(0:Int)<j:=hc
 exact mod_int' (by omega) (by rw[Int.fmod_eq_emod_of_nonneg i (by omega)];exact q)
theorem jN:OpR X (binaryOp .Pow) (rI CPow λi j=>.int (i^j.toNat)):=opI λ_ _ _ _ _ _ _ hc q=>pow_int_small hc.1 hc.2.1 hc.2.2 q
theorem unI {f:Value->Sem Value}{g:Int->Int}
  (rule:∀(i:Int) (t:Tok) (s:Shared) (Q:Value->Shared->Prop) (E:Value->Shared->Prop),Q (.int (g i) s.toks) { s with toks:=s.toks+1 }->wpAny (model X.prog X.w) X.A (f (.int i t)) Q E s) :
  UnR X f (rU λi=>.int (g i)):=by
 intro pins s σ H x v Q I rx h
 obtain⟨i,rfl,q⟩:=h
 obtain⟨t,rfl⟩:=rx
 exact rule i t s _ _ ⟨.int (g i),H,I.tok _,⟨_,rfl⟩,q⟩
theorem Xm:UnR X (unaryOp .USub) (rU λi=>.int (-i)):=unI λ_ _ _ _ _ q=>neg_int q
end
def zjf:V->V->Bool
 | .non,.non=>true | .non,.int _=>true | .int _,.non=>true | .non,.bl _=>true | .bl _,.non=>true | .non,.str _=>true | .str _,.non=>true
 | .int _,.int _=>true | .bl _,.bl _=>true | .str _,.str _=>true | .byt _,.byt _=>true
 | .int _,.str _=>true | .str _,.int _=>true | .bl _,.str _=>true | .str _,.bl _=>true
 | _,_=>false
def rEq:R2:=λx y H Q=>zjf x y=true/\Q (.bl (decide (x=y))) H
def rNe:R2:=λx y H Q=>zjf x y=true/\Q (.bl (!decide (x=y))) H
theorem zap {i j:Int}:decide (V.int i=V.int j)=(i == j):=by
 rw[yv]
 simp
theorem zcA {i j:Bool}:decide (V.bl i=V.bl j)=(i == j):=by
 rw[yv]
 simp
theorem zaq {i j:Str}:decide (V.str i=V.str j)=(i == j):=by
 rw[yv]
 simp
theorem zao {i j:Array UInt8}:decide (V.byt i=V.byt j)=(i.toList == j.toList):=by
 rw[yv]
 cases i
 cases j
 simp
section
variable {X:Cx}{a b c:Expr}{ta tb tc:TE}{pos:Pos}
theorem xt {pins:List (Addr×Obj)}{σ:St}{H:Hp}{s:Shared}{Q:VK}{k k':Bool}(I:Inv X pins σ H s) (q:Q (.bl k) H) (e:k=k'):EP X pins σ Q (.bool k') s:=by
 subst e
 exact⟨.bl k,H,I,rfl,q⟩
theorem qL:OpR X (compareOp .Eq) rEq:=by
 intro pins s σ H x y v u Q I rx ry h
 obtain⟨hs,q⟩:=h
 cases x with
 | non =>
  cases rx
  cases y with
  | non=>cases ry;exact PySem.EqNone.eq_none_none (xt I q (by simp))
  | bl j=>cases ry;exact PySem.EqNone.eq_none_bool (xt I q (by simp))
  | int j=>obtain⟨t',rfl⟩:=ry;exact PySem.EqNone.eq_none_int (xt I q (by simp))
  | str j=>obtain⟨t',rfl⟩:=ry;exact PySem.EqNone.eq_none_str (xt I q (by simp))
  | _=>exact absurd (show false=true from hs) wL
 | bl i =>
  cases rx
  cases y with
  | non=>cases ry;exact PySem.EqNone.eq_bool_none (xt I q (by simp))
  | bl j=>cases ry;exact eq_bool (xt I q zcA)
  | str j=>obtain⟨t',rfl⟩:=ry;exact PySem.EqMixed.eq_bool_str (xt I q (by simp))
  | _=>exact absurd (show false=true from hs) wL
 | int i =>
  obtain⟨t,rfl⟩:=rx
  cases y with
  | non=>cases ry;exact PySem.EqNone.eq_int_none (xt I q (by simp))
  | int j=>obtain⟨t',rfl⟩:=ry;exact eq_int (xt I q zap)
  | str j=>obtain⟨t',rfl⟩:=ry;exact PySem.EqMixed.eq_int_str (xt I q (by simp))
  | _=>exact absurd (show false=true from hs) wL
 | str i =>
  obtain⟨t,rfl⟩:=rx
  cases y with
  | non=>cases ry;exact PySem.EqNone.eq_str_none (xt I q (by simp))
  | bl j=>cases ry;exact PySem.EqMixed.eq_str_bool (xt I q (by simp))
  | int j=>obtain⟨t',rfl⟩:=ry;exact PySem.EqMixed.eq_str_int (xt I q (by simp))
  | str j=>obtain⟨t',rfl⟩:=ry;exact eq_str (xt I q zaq)
  | _=>exact absurd (show false=true from hs) wL
 | byt i =>
  obtain⟨t,rfl⟩:=rx
  cases y with
  | byt j=>obtain⟨t',rfl⟩:=ry;exact PySem.W.eq_bytes (xt I q zao)
  | _=>exact absurd (show false=true from hs) wL
 | _=>cases y <;> exact absurd (show false=true from hs) wL
theorem zc4:OpR X (compareOp .NotEq) rNe:=by
 intro pins s σ H x y v u Q I rx ry h
 obtain⟨hs,q⟩:=h
 cases x with
 | non =>
  cases rx
  cases y with
  | non=>cases ry;exact PySem.EqNone.ne_none_none (xt I q (by simp))
  | bl j=>cases ry;exact PySem.EqNone.ne_none_bool (xt I q (by simp))
  | int j=>obtain⟨t',rfl⟩:=ry;exact PySem.EqNone.ne_none_int (xt I q (by simp))
  | str j=>obtain⟨t',rfl⟩:=ry;exact PySem.EqNone.ne_none_str (xt I q (by simp))
  | _=>exact absurd (show false=true from hs) wL
 | bl i =>
  cases rx
  cases y with
  | non=>cases ry;exact PySem.EqNone.ne_bool_none (xt I q (by simp))
  | bl j=>cases ry;exact ne_bool (xt I q (congrArg not zcA))
  | str j=>obtain⟨t',rfl⟩:=ry;exact PySem.EqMixed.ne_bool_str (xt I q (by simp))
  | _=>exact absurd (show false=true from hs) wL
 | int i =>
  obtain⟨t,rfl⟩:=rx
  cases y with
  | non=>cases ry;exact PySem.EqNone.ne_int_none (xt I q (by simp))
  | int j=>obtain⟨t',rfl⟩:=ry;exact ne_int (xt I q (congrArg not zap))
  | str j=>obtain⟨t',rfl⟩:=ry;exact PySem.EqMixed.ne_int_str (xt I q (by simp))
  | _=>exact absurd (show false=true from hs) wL
 | str i =>
  obtain⟨t,rfl⟩:=rx
  cases y with
  | non=>cases ry;exact PySem.EqNone.ne_str_none (xt I q (by simp))
  | bl j=>cases ry;exact PySem.EqMixed.ne_str_bool (xt I q (by simp))
  | int j=>obtain⟨t',rfl⟩:=ry;exact PySem.EqMixed.ne_str_int (xt I q (by simp))
  | str j=>obtain⟨t',rfl⟩:=ry;exact ne_str (xt I q (congrArg not zaq))
  | _=>exact absurd (show false=true from hs) wL
 | byt i =>
  obtain⟨t,rfl⟩:=rx
  cases y with
  | byt j=>obtain⟨t',rfl⟩:=ry;exact PySem.W.ne_bytes (xt I q (congrArg not zao))
  | _=>exact absurd (show false=true from hs) wL
 | _=>cases y <;> exact absurd (show false=true from hs) wL
theorem jb:OpR X (compareOp .Lt) (rI0 λi j=>.bl (decide (i<j))):=zg6 λ_ _ _ _ _ _ _ q=>lt_int q
theorem zaJ:OpR X (compareOp .LtE) (rI0 λi j=>.bl (decide (i<=j))):=zg6 λ_ _ _ _ _ _ _ q=>le_int q
theorem Qe:OpR X (compareOp .Gt) (rI0 λi j=>.bl (decide (j<i))):=zg6 λ_ _ _ _ _ _ _ q=>gt_int q
theorem xW:OpR X (compareOp .Is) (λx y H Q=>y = .non/\Q (.bl (decide (x = .non))) H):=by
 intro pins s σ H x y v u Q I rx ry h
 obtain⟨rfl,q⟩:=h
 cases ry
 refine is_none_gen (xt I q ?_)
 cases x <;> first
  | (cases rx;rfl)
  | (obtain⟨t,rfl⟩:=rx;rfl)
theorem qz:OpR X (compareOp .IsNot) (λx y H Q=>y = .non/\Q (.bl (!decide (x = .non))) H):=by
 intro pins s σ H x y v u Q I rx ry h
 obtain⟨rfl,q⟩:=h
 cases ry
 refine isnot_none_gen (xt I q ?_)
 cases x <;> first
  | (cases rx;rfl)
  | (obtain⟨t,rfl⟩:=rx;rfl)
theorem zM (b:Expr){op:CmpOp}(h:op≠.In:=by decide) (h2:op≠.NotIn:=by decide):behindInMarks op b=false:=by
 have e1:(op == CmpOp.In)=false:=by cases op <;> first | rfl | exact absurd rfl h
 have e2:(op == CmpOp.NotIn)=false:=by cases op <;> first | rfl | exact absurd rfl h2
 cases b <;> simp[behindInMarks,e1,e2]
theorem qG {op:CmpOp}{r:R2}(ho:OpR X (compareOp op) r) (ha:PE X a ta) (hb:PE X b tb) (hm:behindInMarks op b=false):PE X (.Compare a [op] [b] pos) (tOp r ta tb):=by
 intro pins s σ H Q I h
 exact wpAny_Compare1 (zgm ha hb I h λv u s2 x y H2 I2 rx ry q=>ho pins s2 σ H2 x y v u Q I2 rx ry q) hm
def zgb (t:TE):TT:=λσ H Q=>t σ H λx H'=>∃k,x = .bl k/\Q k H'
theorem zI {op:CmpOp}{r:R2}(ho:OpR X (compareOp op) r) (ha:PE X a ta) (hb:PE X b tb) (hm:behindInMarks op b=false):PT X (.Compare a [op] [b] pos) (zgb (tOp r ta tb)):=by
 intro pins s σ H Q I h
 refine wpAny_isTrue_Compare1 (thn (ha pins s σ H _ I h) λv s1 ⟨x,H1,I1,r1,q1⟩=>thn (hb pins s1 σ H1 _ I1 q1) λu s2 ⟨y,H2,I2,r2,q2⟩ =>
  thn (ho pins s2 σ H2 x y v u _ I2 r1 r2 q2) λc s3 ⟨z,H3,I3,r3,k,e,q3⟩=>?_) hm
 subst e
 cases r3
 exact yI ⟨H3,I3,q3⟩
def zdN (r r':R2) (ta tb tc:TE):TE:=λσ H Q=>ta σ H λx H1=>tb σ H1 λy H2=>r x y H2 λz H3=>∃k,z = .bl k ∧
 (if k=true then tc σ H3 λw' H4=>r' y w' H4 Q else Q (.bl false) H3)
theorem zc9 {op op':CmpOp}{r r':R2}(ho:OpR X (compareOp op) r) (ho':OpR X (compareOp op') r') (ha:PE X a ta) (hb:PE X b tb) (hc:PE X c tc)
  (hm:lastMarks [op,op'] [b,c]=false:=by with_unfolding_all rfl):PE X (.Compare a [op,op'] [b,c] pos) (zdN r r' ta tb tc):=by
 intro pins s σ H Q I h
 refine Compare_chain (thn (ha pins s σ H _ I h) λv s1 ⟨x,H1,I1,r1,q1⟩=>chain_link (thn (hb pins s1 σ H1 _ I1 q1) λu s2 ⟨y,H2,I2,r2,q2⟩ =>
  thn (ho pins s2 σ H2 x y v u _ I2 r1 r2 q2) λd s3 ⟨z,H3,I3,r3,k,e,q3⟩=>?_)) hm
 subst e
 cases r3
 refine yI ?_
 cases k with
 | false=>exact ite_ff ⟨.bl false,H3,I3,rfl,q3⟩
 | true=>exact ite_tt (chain_last (thn (hc pins s3 σ H3 _ I3 q3) λw' s4 ⟨z',H4,I4,r4,q4⟩=>ho' pins s4 σ H4 y z' u w' Q I4 r2 r4 q4))
theorem zdf {op op':CmpOp}{r r':R2}(ho:OpR X (compareOp op) r) (ho':OpR X (compareOp op') r') (ha:PE X a ta) (hb:PE X b tb) (hc:PE X c tc)
  (hm:lastMarks [op,op'] [b,c]=false:=by with_unfolding_all rfl):PT X (.Compare a [op,op'] [b,c] pos) (zgb (zdN r r' ta tb tc)):=by
 intro pins s σ H Q I h
 refine isTrue_chain (thn (ha pins s σ H _ I h) λv s1 ⟨x,H1,I1,r1,q1⟩=>test_link (thn (hb pins s1 σ H1 _ I1 q1) λu s2 ⟨y,H2,I2,r2,q2⟩ =>
  thn (ho pins s2 σ H2 x y v u _ I2 r1 r2 q2) λd s3 ⟨z,H3,I3,r3,k,e,q3⟩=>?_)) hm
 subst e
 cases r3
 refine yI ?_
 cases k with
 | false =>
  obtain⟨k',e',q'⟩:=q3
  cases e'
  exact ite_ff ⟨H3,I3,q'⟩
 | true =>
  refine ite_tt (test_last (thn (hc pins s3 σ H3 _ I3 q3) λw' s4 ⟨z',H4,I4,r4,q4⟩=>thn (ho' pins s4 σ H4 y z' u w' _ I4 r2 r4 q4) λd' s5 ⟨z2,H5,I5,r5,k2,e2,q5⟩=>?_))
  subst e2
  cases r5
  exact yI ⟨H5,I5,q5⟩
def zh4 (K:Fg) (x:V) (H:Hp) (k:Bool):Prop :=
 match x with
 | .non=>k=false
 | .bl b=>k=b
 | .int i=>k=(i != 0)
 | .str y=>y.length<=sizeLine/\k=((y.length:Int) != 0)
 | .byt y=>y.size<=sizeLine/\k=((y.size:Int) != 0)
 | .ref p=>(∃xs,SqL K H p xs/\k = !xs.isEmpty)\/(∃xs,SqT K H p xs/\k = !xs.isEmpty)\/∃kvs,H p=some (.dK kvs)/\k = !kvs.isEmpty
 | _=>False
theorem JN {κ:Type}{kvs:List (κ×V)}{vs:List (κ×Value)} (r:KV kvs vs):(!vs.isEmpty) = !kvs.isEmpty:=by
 cases r <;> rfl
theorem XY {xs:List V}{its:List Value}(r:xb xs its):(!its.toArray.isEmpty) = !xs.isEmpty:=by
 cases r <;> simp
theorem Qa:(sizeLine:Nat)<2^63:=by rw[sizeLine_eq];decide
theorem zhW:TruR X (λx H Q=>∃k,zh4 X.K x H k/\Q k H):=by
 intro pins s σ H x v Q I rx h
 obtain⟨k,e,q⟩:=h
 have hl:=Qa
 have hs:sizeLine=16777216:=sizeLine_eq
 cases x with
 | non =>
  cases rx
  have e':k=false:=e
  subst e'
  exact truthy_none ⟨H,I,q⟩
 | bl b =>
  cases rx
  have e':k=b:=e
  subst e'
  exact yI ⟨H,I,q⟩
 | int i =>
  obtain⟨t,rfl⟩:=rx
  have e':k=(i != 0):=e
  subst e'
  exact PySem.P.truthy_int ⟨H,I,q⟩
 | str y =>
  obtain⟨t,rfl⟩:=rx
  obtain⟨hy,e'⟩:y.length<=sizeLine/\k=((y.length:Int) != 0):=e
  subst e'
  exact PySem.P.truthy_str (by omega) ⟨H,I.tok _,q⟩
 | byt y =>
  obtain⟨t,rfl⟩:=rx
  obtain⟨hy,e'⟩:y.size<=sizeLine/\k=((y.size:Int) != 0):=e
  subst e'
  exact PySem.W.truthy_bytes (by omega) ⟨H,I.tok _,q⟩
 | ref p =>
  cases rx
  have e':(∃xs,SqL X.K H p xs/\k = !xs.isEmpty)\/(∃xs,SqT X.K H p xs/\k = !xs.isEmpty)\/∃kvs,H p=some (.dK kvs)/\k = !kvs.isEmpty:=e
  rcases e' with⟨xs,hx,e'⟩ | ⟨xs,hx,e'⟩ | ⟨kvs,hx,e'⟩
  ·subst e'
   obtain⟨its,r,pl,hz⟩:=I.list hx
   have hlen:=r.length
   exact wpAny_truthy_list pl.isList (by simp only[wz];omega) ⟨H,I.tok _,by rw[XY r];exact q⟩
  ·subst e'
   obtain⟨its,r,pl,hz⟩:=I.tuple hx
   have hlen:=r.length
   exact truthy_tuple pl (by simp only[wz];omega) ⟨H,I.tok _,by rw[XY r];exact q⟩
  ·subst e'
   obtain⟨hz,hS,vs,r,m⟩:kvs.length<=sizeLine/\(p == sysModules)=false/\∃vs,KV kvs vs/\s.heap.DictOf (qf X.prog X.w) p vs:=I.hok p _ hx
   have hlen:kvs.length=vs.length:=Paired.length r
   exact wpAny_truthy_dict hS m (by omega) ⟨H,I.tok _,by rw[JN r];exact q⟩
 | _=>exact(show False from e).elim
theorem xz (ha:PE X a ta) (he:∀whole,isTrue a X.env whole=(do let v <-whole;standAt a.pos;holding [v] (truthy v))) :
  PT X a (λσ H Q=>ta σ H λx H'=>∃k,zh4 X.K x H' k/\Q k H'):=by
 intro pins s σ H Q I h
 exact isTrue_plain (thn (ha pins s σ H _ I h) λv s1 ⟨x,H1,I1,r1,q1⟩=>zhW pins s1 σ H1 x v Q I1 r1 q1) (he _)
theorem Zn {x:V}{us:List Value}(r:xb [x] us):∃u,us=[u]/\xr x u:=by
 cases r with
 | cons r1 r2=>cases r2;exact⟨_,rfl,r1⟩
theorem Jt {x y:V}{us:List Value}(r:xb [x,y] us):∃u w',us=[u,w']/\xr x u/\xr y w':=by
 cases r with
 | cons r1 r2 =>
  cases r2 with
  | cons r3 r4=>cases r4;exact⟨_,_,rfl,r1,r3⟩
theorem jF:jw X (.builtin "abs") (λxs H Q=>∃i,xs=[.int i]/\Q (.int (if i<0 then -i else i)) H):=by
 intro pins s σ H xs us Q I r h
 obtain⟨i,rfl,q⟩:=h
 obtain⟨u,rfl,t,rfl⟩:=Zn r
 exact call_abs_int λu tk=>⟨.int (if i<0 then -i else i),H,I.tok _,⟨_,rfl⟩,q⟩
theorem zbr (hc:X.calm=true):jw X (.builtin "max") (λxs H Q=>∃i j,xs=[.int i,.int j]/\Q (.int (if j>i then j else i)) H):=by
 intro pins s σ H xs us Q I r h
 obtain⟨i,j,rfl,q⟩:=h
 obtain⟨u,w',rfl,⟨t,rfl⟩,⟨t',rfl⟩⟩:=Jt r
 refine max_two_ints (I.ok.hd hc) λh' tk k=>⟨_,H,I.kept k,?_,q⟩
 by_cases hj:j>i
 ·rw[if_pos hj,if_pos hj];exact⟨_,rfl⟩
 ·rw[if_neg hj,if_neg hj];exact⟨_,rfl⟩
theorem zbs (hc:X.calm=true):jw X (.builtin "min") (λxs H Q=>∃i j,xs=[.int i,.int j]/\Q (.int (if j<i then j else i)) H):=by
 intro pins s σ H xs us Q I r h
 obtain⟨i,j,rfl,q⟩:=h
 obtain⟨u,w',rfl,⟨t,rfl⟩,⟨t',rfl⟩⟩:=Jt r
 refine min_two_ints (I.ok.hd hc) λh' tk k=>⟨_,H,I.kept k,?_,q⟩
 by_cases hj:j<i
 ·rw[if_pos hj,if_pos hj];exact⟨_,rfl⟩
 ·rw[if_neg hj,if_neg hj];exact⟨_,rfl⟩
theorem zbq:jw X (.type "int") (λxs H Q=>(∃i,xs=[.int i]/\Q (.int i) H)\/∃k,xs=[.bl k]/\Q (.int (if k then 1 else 0)) H):=by
 intro pins s σ H xs us Q I r h
 rcases h with⟨i,rfl,q⟩ | ⟨k,rfl,q⟩
 ·obtain⟨u,rfl,t,rfl⟩:=Zn r
  exact call_int_int ⟨.int i,H,I,⟨_,rfl⟩,q⟩
 ·obtain⟨u,rfl,r1⟩:=Zn r
  cases r1
  exact call_int_bool ⟨.int (if k then 1 else 0),H,I.tok _,⟨_,rfl⟩,q⟩
end
structure zbl (h:Heap) (x dx C:Addr) (mA:Str->Option Value):Prop where
 obj:h.get? x=some (PySem.W.instObj C dx)
 ns:h.Ns1 dx mA
 ne:dx≠x
theorem zbK {h:Heap}{dx:Addr}{mA:Str->Option Value}(n:h.Ns1 dx mA):∃od,h.get? dx=some od/\∀name,PySem.W.lookIn name od=some (mA name):=by
 obtain⟨o,es,ep,ho,hd,hk,_,hm⟩:=n
 refine⟨o,ho,λname=>?_⟩
 have e:=hm name
 unfold nsFind findBy at e
 rw[<-Array.find?_toList]at e
 unfold PySem.W.lookIn
 rw[hd]
 try dsimp only
 split
 ·rename_i y q
  rw[q]at e
  exact congrArg some e
 ·rename_i q
  rw[q]at e
  have a:es.toList.any (·.refKey)=false:=by
   rw[List.any_eq_false]
   intro y hy
   obtain⟨z,t,hkey⟩:=hk y (Array.mem_toList_iff.mp hy)
   simp[DictEntry.refKey,hkey]
  have a':¬es.toList.any (·.refKey)=true:=by rw[a];exact wL
  rw[if_neg a']
  exact congrArg some e
theorem zbl.look {h:Heap}{x dx C:Addr}{mA:Str->Option Value}(I:zbl h x dx C mA):∃od,PySem.W.InstAt h x (PySem.W.instObj C dx) C (some od)/\∀name,PySem.W.lookIn name od=some (mA name) :=
 let ⟨od,ho,hl⟩:=zbK I.ns
 ⟨od,⟨I.obj,rfl,rfl,ho⟩,hl⟩
section
variable {prog:Program}{w:World}{A:Around}{E:Value->Shared->Prop}{s:Shared}{K:Fg}{x dx C f:Addr}{mA:Str->Option Value}{name:Str}{v:Value}
theorem zem {expr:Bool}{Q:Value->Shared->Prop}(X:K.In s.heap) (I:zbl s.heap x dx C mA) (hg:PySem.W.plainGet K C name=true) (hh:PySem.W.hasDictIn K C=true)
  (ha:PySem.W.findIn K (.ref C) name=some none) (hv:mA name=some v) (hv':PySem.W.handedIn v=true) (h:Q v { s with toks:=s.toks+1 }) :
  wpAny (model prog w) A (getAttr (.ref x) name expr) Q E s:=by
 obtain⟨od,J,hl⟩:=I.look
 exact PySem.W.get_value X J (PySem.W.plainGet_of hg).1 (PySem.W.findObj_own hh ha rfl (by rw[hl,hv])) hv' h
theorem zfi {ns:List Str}{Q:Unit->Shared->Prop}(X:K.In s.heap) (I:zbl s.heap x dx C mA)
  (hs:PySem.W.findIn K (.ref C) "__setattr__" = some (some (.builtin "object.__setattr__"))) (hp:PySem.W.plainOver K C=true) (ht:PySem.W.takerIn K C name=some none) (hh:PySem.W.hasDictIn K C=true)
  (hw:PySem.Within mA ns) (hsz:ns.length<=sizeLine)
  (h:∀h',zbl h' x dx C (λy=>if y=name then some v else mA y)->Heap.SameBut dx s.heap h'->Q () { s with heap:=h',toks:=s.toks+2 }) :
  wpAny (model prog w) A (setAttr (.ref x) name v) Q E s:=by
 obtain⟨od,J,hl⟩:=I.look
 refine PySem.W.set_plain X J hs (PySem.W.osa_open (s:={ s with toks:=s.toks+1 }) (r:=none) X J hp ht λb=>?_)
 obtain⟨cd,hc,hd'⟩:=PySem.W.any_some hh
 have hx:s.heap.get? x=some ⟨.ref C,some dx,.plain,#[]⟩:=I.obj
 refine wc (wo (wc (wc (wpAny_loadPart hx (wc (PySem.W.Looks.here (s:={ s with toks:=s.toks+1 }) (PySem.W.looks_clsIn X hc) ?_))))))
 rw[hd']
 refine wo (a:=some dx) (wc (wo (wc ?_)))
 refine wpAny_nsSet1 (s:={ s with toks:=s.toks+1 }) I.ns λh' hn2 hs2=>?_
 obtain⟨oD,esD,epD,hoD,hdD,hcD⟩:=hn2.count (PySem.Within.cons name v hw)
 refine wc (wpAny_lookBehind hoD (by rw[hdD];exact pastItsLine_dict (wS hcD (by rw[wG];omega))) ?_)
 exact wo (h _ ⟨(hs2.2 _ (Ne.symm I.ne)).trans I.obj,hn2,I.ne⟩ hs2)
theorem zcX {R:Result->Shared->Prop}{vs:List Value}{kw:List (Str×Value)} (X:K.In s.heap) (hm:PySem.W.makesIn K C=true)
  (hi:PySem.W.findIn K (.ref C) "__init__" = some (some (.ref f))) (hf:PySem.W.typeIn K (.ref f)=some (.type "function"))
  (h:codeAny (model prog w) (A.under (.builtin "type.__call__" ⟨.ref C::vs,kw⟩)) (.call (.ref f) ⟨.ref (s.heap.objs.size+1)::vs,kw⟩) (PySem.W.InitBack (s.heap.objs.size+1) R)
   { s with heap:=(s.heap.push PySem.W.emptyDict).push (PySem.W.instObj C s.heap.objs.size) }) :
  codeAny (model prog w) A (.call (.ref C) ⟨vs,kw⟩) R s:=by
 obtain⟨hh,g,d,t,os⟩:=s
 exact PySem.W.make_core (PySem.W.makes_of X hm) (PySem.W.looks_findIn X hi) (λself=>PySem.W.bind_fn X self hf) (.inl rfl) h
end
def xX (f:Str) (v:V):List (Str×V)->List (Str×V)
 | []=>[(f,v)]
 | (g,x)::r=>if g=f then(g,v)::r else(g,x)::xX f v r
theorem xB (f g:Str) (v:V):∀fs:List (Str×V),(xX f v fs).lookup g=if g=f then some v else fs.lookup g
 | []=>by
  show List.lookup g [(f,v)]=_
  by_cases h:g=f
  ·have hb:(g == f)=true:=beq_iff_eq.mpr h
   simp only[List.lookup,hb,if_pos h]
  ·have hb:(g == f)=false:=beq_eq_false_iff_ne.mpr h
   simp only[List.lookup,hb,if_neg h]
 | (k,x)::r=>by
  have ih:=xB f g v r
  rw[show xX f v ((k,x)::r)=(if k=f then(k,v)::r else(k,x)::xX f v r)from rfl]
  by_cases hk:k=f
  ·rw[if_pos hk]
   by_cases h:g=k
   ·have hb:(g == k)=true:=beq_iff_eq.mpr h
    simp only[List.lookup,hb,if_pos (h.trans hk)]
   ·have hb:(g == k)=false:=beq_eq_false_iff_ne.mpr h
    simp only[List.lookup,hb,if_neg (λe:g=f=>h (e.trans hk.symm))]
  ·rw[if_neg hk]
   by_cases h:g=k
   ·have hb:(g == k)=true:=beq_iff_eq.mpr h
    simp only[List.lookup,hb,if_neg (λe:g=f=>hk (h.symm.trans e))]
   ·have hb:(g == k)=false:=beq_eq_false_iff_ne.mpr h
    simp only[List.lookup,hb]
    exact ih
theorem Xa (f:Str) (v:V):∀fs:List (Str×V),f∈(xX f v fs).map (·.1)/\∀g,g∈fs.map (·.1)->g∈(xX f v fs).map (·.1)
 | []=>⟨by simp[xX],λg h=>by simp at h⟩
 | (k,x)::r=>by
  obtain⟨i1,i2⟩:=Xa f v r
  rw[show xX f v ((k,x)::r)=(if k=f then(k,v)::r else(k,x)::xX f v r)from rfl]
  by_cases hk:k=f
  ·rw[if_pos hk]
   subst hk
   exact⟨by simp,λg h=>by simpa using h⟩
  ·rw[if_neg hk]
   refine⟨?_,λg h=>?_⟩
   ·rw[ye]
    exact wP _ i1
   ·rw[ye]at h ⊢
    rcases wy.mp h with e | e
    ·exact wy.mpr (.inl e)
    ·exact wP _ (i2 g e)
theorem Xp (f:Str) (v:V):∀fs:List (Str×V),(xX f v fs).length<=fs.length+1
 | []=>by simp[xX]
 | (k,x)::r=>by
  have ih:=Xp f v r
  rw[show xX f v ((k,x)::r)=(if k=f then(k,v)::r else(k,x)::xX f v r)from rfl]
  by_cases hk:k=f
  ·rw[if_pos hk,wG,wG];omega
  ·rw[if_neg hk,wG,wG];omega
theorem ZY.some_of {v:V}{o:Option Value}(r:ZY (some v) o):∃u,o=some u/\xr v u:=by
 cases o with
 | none=>exact(show False from r).elim
 | some u=>exact⟨u,rfl,r⟩
theorem zbB {v:V}{u:Value}(r:xr v u):PySem.W.handedIn u=true:=by
 cases v with
 | non=>cases(show u=Value.none from r);rfl
 | bl b=>cases(show u=Value.bool b from r);rfl
 | int i=>obtain⟨t,e⟩:=(show ∃t,u=Value.int i t from r);cases e;rfl
 | str x=>obtain⟨t,e⟩:=(show ∃t,u=Value.str x t from r);cases e;rfl
 | byt b=>obtain⟨t,e⟩:=(show ∃t,u=Value.bytes b t from r);cases e;rfl
 | flt b=>obtain⟨t,e⟩:=(show ∃t,u=Value.float b t from r);cases e;rfl
 | ref a=>cases(show u=Value.ref a from r);rfl
 | ty n=>cases(show u=Value.type n from r);rfl
section
variable {P:Program}{w:World}{H H':Hp}{h h':Heap}{a C dx:Addr}{fs fs':List (Str×V)}
theorem Ve (hok:HOk P w H h) (e:H a=some (.ins C dx fs)):∃mA,zbl h a dx C mA/\(∀f,ZY (fs.lookup f) (mA f))/\PySem.Within mA (fs.map (·.1))/\fs.length<=1000/\H dx=some (.own a):=by
 obtain⟨d,z,ne,ob,mA,n,r,q⟩:=(show xy P w H h a (.ins C dx fs)from hok a _ e)
 exact⟨mA,⟨ob,n,ne⟩,r,q,z,d⟩
end
structure Cls (K:Fg) (C:Addr):Prop where
 pg:PySem.W.plainGet K C Str.empty=true
 hd:PySem.W.hasDictIn K C=true
 po:PySem.W.plainOver K C=true
 sa:PySem.W.findIn K (.ref C) "__setattr__" = some (some (.builtin "object.__setattr__"))
theorem Cls.get {K:Fg}{C:Addr}(c:Cls K C) (f:Str):PySem.W.plainGet K C f=true:=c.pg
def xU (K:Fg) (C:Addr) (f:Str):Prop:=PySem.W.findIn K (.ref C) f=some none
theorem xU.taker {K:Fg}{C:Addr}{f:Str}(n:xU K C f):PySem.W.takerIn K C f=some none:=by
 unfold PySem.W.takerIn
 rw[show PySem.W.findIn K (.ref C) f=some none from n]
 rfl
section
variable {X:Cx}{pins:List (Addr×Obj)}{σ:St}{H:Hp}{s:Shared}{a C dx:Addr}{fs:List (Str×V)}{f:Str}{v:V}{A:Around}{E:Value->Shared->Prop}
theorem XX {b:Bool}{Q:Value->Shared->Prop}(I:Inv X pins σ H s) (e:H a=some (.ins C dx fs)) (c:Cls X.K C) (n:xU X.K C f) (l:fs.lookup f=some v)
  (h:∀u s',Inv X pins σ H s'->xr v u->Q u s'):wpAny (model X.prog X.w) A (getAttr (.ref a) f b) Q E s:=by
 obtain⟨mA,O,r,_,_,_⟩:=Ve I.hok e
 obtain⟨u,hu,ru⟩:=ZY.some_of (v:=v) (o:=mA f) (by rw[<-l];exact r f)
 exact zem I.kIn O (c.get f) c.hd n hu (zbB ru) (h u _ (I.tok _) ru)
theorem Qk {y:V}{u:Value}{Q:Unit->Shared->Prop}(I:Inv X pins σ H s) (e:H a=some (.ins C dx fs)) (c:Cls X.K C) (n:xU X.K C f) (hl:fs.length<1000) (ry:xr y u)
  (h:∀s',Inv X pins σ (upd H a (.ins C dx (xX f y fs))) s'->Q () s'):wpAny (model X.prog X.w) A (setAttr (.ref a) f u) Q E s:=by
 obtain⟨mA,O,r,wi,_,ho⟩:=Ve I.hok e
 have hz:(fs.map (·.1)).length<=sizeLine:=by rw[we,sizeLine_eq];omega
 refine zfi I.kIn O c.sa c.po n.taker c.hd wi hz λh' O' sb=>h _ ?_
 have hd:∃o,h'.get? dx=some o:=let ⟨o,_,_,e',_⟩:=O'.ns;⟨o,e'⟩
 refine I.write (x:=a) (e:=dx) (by rw[e];exact True.intro) (.inr ho) (λb q hb z=>(sb.2 b hb).trans z) hd ?_
 refine⟨by rw[zE O.ne];exact ho,?_,O.ne,O'.obj,_,O'.ns,λg=>?_,λg hg=>?_⟩
 ·have:=Xp f y fs;omega
 ·show ZY ((xX f y fs).lookup g) (if g=f then some u else mA g)
  rw[xB]
  by_cases q:g=f
  ·rw[if_pos q,if_pos q];exact ry
  ·rw[if_neg q,if_neg q];exact r g
 ·by_cases q:g=f
  ·rw[q];exact(Xa f y fs).1
  ·refine(Xa f y fs).2 g (wi g λz=>hg ?_)
   show (if g=f then some u else mA g)=none
   rw[if_neg q];exact z
theorem Inv.made (I:Inv X pins σ H s):Inv X pins σ (upd (upd H s.heap.objs.size (.own (s.heap.objs.size+1))) (s.heap.objs.size+1) (.ins C s.heap.objs.size []))
  { s with heap:=(s.heap.push PySem.W.emptyDict).push (PySem.W.instObj C s.heap.objs.size) }:=by
 have e1:(s.heap.push PySem.W.emptyDict).get? s.heap.objs.size=some PySem.W.emptyDict:=wB s.heap rfl
 have e2:((s.heap.push PySem.W.emptyDict).push (PySem.W.instObj C s.heap.objs.size)).get? (s.heap.objs.size+1)=some (PySem.W.instObj C s.heap.objs.size):=by
  have:=wB (s.heap.push PySem.W.emptyDict) (o:=PySem.W.instObj C s.heap.objs.size) rfl
  rwa [yw]at this
 have e3:(s.heap.push PySem.W.emptyDict).Ns s.heap.objs.size (λ_=>none):=⟨PySem.W.emptyDict,#[],_,e1,rfl,(λe he=>absurd he (by simp)),λ_=>rfl⟩
 have I1:=I.laid (a:=s.heap.objs.size) (o:=.own (s.heap.objs.size+1)) (h':=s.heap.push PySem.W.emptyDict) (t':=s.toks) (λb u q=>wd _ q) (wx _) ⟨_,e1⟩
 refine I1.laid (a:=s.heap.objs.size+1) (o:=.ins C s.heap.objs.size []) (t':=s.toks) (λb u q=>wd _ q) (WB (yw _ _)) ?_
 have ne:s.heap.objs.size≠s.heap.objs.size+1:=wO (Nat.lt_succ_self _)
 refine⟨by rw[zE ne,zg],yg _,ne,e2,λ_=>none,(Heap.Ns1.of_empty e3).at λo q=>wd _ q,λ_=>True.intro,λy hy=>absurd rfl hy⟩
theorem zd4 {prog:Program}{w:World}{env:Env}{e:Expr}{f:Str}{pos:Pos}{s:Shared}{Q:Value->Shared->Prop}(hb:attributeBase e f env (eval e env)=eval e env)
  (h:wpAny (model prog w) A (eval e env) (λo s₁=>wpAny (model prog w) A (getAttr o f true) Q E s₁) E s):wpAny (model prog w) A (eval (.Attribute e f pos) env) Q E s :=
 Attribute_any_ h (by rw[arm_eval_Attribute,hb])
end
inductive zf7 (K:Fg) (f:Str) (Q:VK) (x:V) (H1:Hp):Prop
 | mk:∀a C dx fs v,(x = .ref a)->(H1 a=some (.ins C dx fs))->(Cls K C)->(xU K C f)->(fs.lookup f=some v)->(Q v H1)->zf7 K f Q x H1
def tFld (K:Fg) (ta:TE) (f:Str):TE:=λσ H Q=>ta σ H λx H1=>zf7 K f Q x H1
def zhe (K:Fg) (ta tv:TE) (f:Str):TS:=λD σ H=>tv σ H λy H1=>ta σ H1 λx H2=>∃a C dx fs,x = .ref a/\H2 a=some (.ins C dx fs)/\Cls K C/\xU K C f/\fs.length<1000 ∧
 D.nx σ (upd H2 a (.ins C dx (xX f y fs)))
def zh1 (X:Cx) (op:Operator) (rd:V->V->Hp->VK->Prop):Prop :=
 ∀(pins:List (Addr×Obj)) (s:Shared) (σ:St) (H:Hp) (x y:V) (u v:Value) (Q:VK),Inv X pins σ H s->xr x u->xr y v->rd x y H Q->wpAny (model X.prog X.w) X.A (inplaceOp op u v) (EP X pins σ Q) X.xe s
def ze5 (K:Fg) (ta tv:TE) (rd:V->V->Hp->VK->Prop) (f:Str):TS:=λD σ H=>ta σ H λx H1=>∃a C dx fs v,x = .ref a/\H1 a=some (.ins C dx fs)/\Cls K C/\xU K C f/\fs.lookup f=some v ∧
 tv σ H1 λy H2=>rd v y H2 λz H3=>∃dx' fs',H3 a=some (.ins C dx' fs')/\fs'.length<1000/\D.nx σ (upd H3 a (.ins C dx' (xX f z fs')))
section
variable {X:Cx}{o e value:Expr}{f:Str}{pos pos' tpos:Pos}{ta tv:TE}
theorem xp (he:PE X e ta) (hb:attributeBase e f X.env (eval e X.env)=eval e X.env):PE X (.Attribute e f pos) (tFld X.K ta f):=by
 intro pins s σ H Q I h
 refine zd4 hb (thn (he pins s σ H _ I h) λu s1 ⟨x,H1,I1,rx,a,C,dx,fs,v,ex,ea,c,n,l,q⟩=>?_)
 subst ex
 obtain rfl:u=Value.ref a:=rx
 exact XX I1 ea c n l λu' s2 I2 ru=>⟨v,H1,I2,ru,q⟩
theorem v6 (ha:PE X o ta) (hv:PE X value tv) (hs:swapsWith value (some (.Attribute o f pos')) pos.line X.env=pure false):PS X (.Assign [.Attribute o f pos'] value pos) (zhe X.K ta tv f):=by
 intro pins s σ H D I h
 refine plainObj_wpAny_Assign_Attribute (thn (hv pins s σ H _ I h) λu s1 ⟨y,H1,I1,ry,q⟩=>thn (ha pins s1 σ H1 _ I1 q) λov s2 ⟨x,H2,I2,rx,a,C,dx,fs,ex,ea,c,n,l,q2⟩=>?_) hs
 subst ex
 obtain rfl:ov=Value.ref a:=rx
 exact Qk I2 ea c n l ry λs3 I3=>⟨σ,_,I3,q2⟩
theorem QO {op:Operator}{rd:V->V->Hp->VK->Prop}(ha:PE X o ta) (hv:PE X value tv) (hop:zh1 X op rd):PS X (.AugAssign (.Attribute o f tpos) op value pos) (ze5 X.K ta tv rd f):=by
 intro pins s σ H D I h
 refine wpAny_AugAssign_AttributeAny (thn (ha pins s σ H _ I h) λov s1 ⟨x,H1,I1,rx,a,C,dx,fs,v,ex,ea,c,n,l,q⟩=>?_)
 subst ex
 obtain rfl:ov=Value.ref a:=rx
 refine XX I1 ea c n l λu s2 I2 ru=>thn (hv pins s2 σ H1 _ I2 q) λw3 s3 ⟨y,H2,I3,ry,q3⟩=>thn (hop pins s3 σ H2 v y u w3 _ I3 ru ry q3) λw4 s4 ⟨z,H3,I4,rz,dx',fs',ea',l',q4⟩=>?_
 exact Qk I4 ea' c n l' rz λs5 I5=>⟨σ,_,I5,q4⟩
end
section
variable {X:Cx}{pins:List (Addr×Obj)}{σ:St}{H:Hp}{s:Shared}{A:Around}{E:Value->Shared->Prop}{Q:Value->Shared->Prop}{c:Value}{b:Bool}
inductive Z0 (K:Fg) (H:Hp):V->Value->Prop where
 | non:Z0 K H .non (.type "NoneType")
 | bl (x:Bool):Z0 K H (.bl x) (.type "bool")
 | int (i:Int):Z0 K H (.int i) (.type "int")
 | str (x:Str):Z0 K H (.str x) (.type "str")
 | flt (x:UInt64):Z0 K H (.flt x) (.type "float")
 | lst {a:Addr}{xs:List V}(e:H a=some (.lst xs)):Z0 K H (.ref a) (.type "list")
 | frz {a:Addr}{o:Obj}{xs:List V}(e:H a=some (.frz o (.lst xs))):Z0 K H (.ref a) (.type "list")
 | tup {a:Addr}{xs:List V}(e:H a=some (.tup xs)):Z0 K H (.ref a) (.type "tuple")
 | dK {a:Addr}{kvs:List (Key×V)} (e:H a=some (.dK kvs)):Z0 K H (.ref a) (.type "dict")
 | dT {a:Addr}{kvs:List (List Key×V)} (e:H a=some (.dT kvs)):Z0 K H (.ref a) (.type "dict")
 | ins {a C dx:Addr}{fs:List (Str×V)} (e:H a=some (.ins C dx fs)) (cl:Cls K C) (ha:PySem.W.findIn K (.ref C) "__class__" = some (some (.builtin "object.__class__")))
   (hn:PySem.W.specialIn K (.builtin "object.__class__") "__get__" = some (some (.builtin "getset_descriptor.__get__"))) (htk:PySem.W.takesIn K (.builtin "object.__class__")=some true)
   (hm:PySem.W.mroIn K C (.type "object")=some true):Z0 K H (.ref a) (.ref C)
theorem zbF {x:V}{u t:Value}(I:Inv X pins σ H s) (rx:xr x u) (ty:Z0 X.K H x t) (e:PySem.W.kitOne X.K t c=some b) (h:∀tk,Q (.bool b) { s with toks:=tk }) :
  wpAny (model X.prog X.w) A (call (.builtin "isinstance") [u,c]) Q E s:=by
 cases ty with
 | non=>cases(show u=Value.none from rx);exact yx PySem.W.kitx_none I.kIn True.intro e (λz=>nomatch z) h
 | bl y=>cases(show u=Value.bool y from rx);exact yx PySem.W.kitx_bool I.kIn True.intro e (λz=>nomatch z) h
 | int i=>obtain⟨t,q⟩:=(show ∃t,u=Value.int i t from rx);cases q;exact yx PySem.W.kitx_int I.kIn True.intro e (λz=>nomatch z) h
 | str y=>obtain⟨t,q⟩:=(show ∃t,u=Value.str y t from rx);cases q;exact yx PySem.W.kitx_str I.kIn True.intro e (λz=>nomatch z) h
 | flt y=>obtain⟨t,q⟩:=(show ∃t,u=Value.float y t from rx);cases q;exact yx PySem.W.kitx_float I.kIn True.intro e (λz=>nomatch z) h
 | @lst a xs ea =>
  cases(show u=Value.ref a from rx)
  obtain⟨_,_,n,_,h1⟩:=(show xy X.prog X.w H s.heap a (.lst xs)from I.hok a _ ea)
  exact yx PySem.W.kitx_list I.kIn ⟨_,h1,rfl⟩ e (λz=>nomatch z) h
 | @frz a ob xs ea =>
  cases(show u=Value.ref a from rx)
  obtain⟨_,_,_,n,_,h1⟩:=(show xy X.prog X.w H s.heap a (.frz ob (.lst xs))from I.hok a _ ea)
  exact yx PySem.W.kitx_list I.kIn ⟨_,h1,rfl⟩ e (λz=>nomatch z) h
 | @tup a xs ea =>
  cases(show u=Value.ref a from rx)
  obtain⟨_,_,_,p⟩:=(show xy X.prog X.w H s.heap a (.tup xs)from I.hok a _ ea)
  obtain⟨o,h1,h2,_⟩:=p
  exact yx PySem.W.kitx_tuple I.kIn ⟨o,h1,h2⟩ e (λz=>nomatch z) h
 | @dK a kvs ea =>
  cases(show u=Value.ref a from rx)
  obtain⟨_,_,vs,_,p⟩:=(show xy X.prog X.w H s.heap a (.dK kvs)from I.hok a _ ea)
  obtain⟨o,es,ep,h1,h2,_⟩:=p
  exact yx PySem.W.kitx_dict I.kIn ⟨o,h1,h2.1⟩ e (λz=>nomatch z) h
 | @dT a kvs ea =>
  cases(show u=Value.ref a from rx)
  obtain⟨_,_,xs,_,o,es,ep,h1,h2,_⟩:=(show xy X.prog X.w H s.heap a (.dT kvs)from I.hok a _ ea)
  exact yx PySem.W.kitx_dict I.kIn ⟨o,h1,h2.1⟩ e (λz=>nomatch z) h
 | @ins a C dx fs ea cl ha hn htk hm =>
  cases(show u=Value.ref a from rx)
  obtain⟨mA,O,_⟩:=Ve I.hok ea
  obtain⟨od,J,_⟩:=O.look
  exact yx (PySem.W.kitx_own (cl.get _) cl.hd ha hn htk hm) I.kIn J e (λz=>nomatch z) h
end
structure xn (k:Nat) (A:Around):Prop where
 hd:A.handled=none
 dp:A.depth+3*k+5<recursionLimit
 un:A.units+16*k+200<cLine
theorem xn.mono {j k:Nat}{A:Around}(r:xn k A) (h:j<=k):xn j A:=⟨r.hd,by have:=r.dp;omega,by have:=r.un;omega⟩
theorem xn.deeper {k:Nat}{A:Around}(r:xn (k+1) A) (env:Env):xn k (A.deeper env) :=
 ⟨r.hd,by have:=r.dp;show A.depth+1+3*k+5<_;omega,by have:=r.un;show A.units+3+16*k+200<_;omega⟩
theorem xn.in1 {k:Nat}{A:Around}(r:xn (k+1) A):xn k A.in1 :=
 ⟨r.hd,by have:=r.dp;show A.depth+3*k+5<_;omega,by have:=r.un;show A.units+1+16*k+200<_;omega⟩
theorem JS {A:Around}{C:Addr}{us:List Value}{kw:List (Str×Value)}:(A.under (.builtin "type.__call__" ⟨.ref C::us,kw⟩)).depth=A.depth+1:=by
 first | rfl | simp[Around.under,Code.weight,Code.isCreation,Code.isGuard,Code.isCaller,Code.frames,Code.isFrame,guardIds]
theorem JT {A:Around}{C:Addr}{us:List Value}{kw:List (Str×Value)}:(A.under (.builtin "type.__call__" ⟨.ref C::us,kw⟩)).units=A.units+1:=by
 first | rfl | simp[Around.under,Code.cUnits,Code.frames,Code.isFrame]
theorem xn.make {k:Nat}{A:Around}(r:xn (k+1) A) (C:Addr) (us:List Value) (kw:List (Str×Value)):xn k (A.under (.builtin "type.__call__" ⟨.ref C::us,kw⟩)) :=
 ⟨r.hd,by have:=r.dp;rw[JS];omega,by have:=r.un;rw[JT];omega⟩
theorem xn.depth {k:Nat}{A:Around}(r:xn k A):A.depth<recursionLimit:=by have:=r.dp;omega
theorem xn.units {k:Nat}{A:Around}(r:xn k A):A.units+64<cLine:=by have:=r.un;omega
def jV:TA:=λ_ H Q=>Q [] H
def xJ (ta:TE) (tr:TA):TA:=λσ H Q=>ta σ H λx H1=>tr σ H1 λxs H2=>Q (x::xs) H2
section
variable {X:Cx}{e:Expr}{es:List Expr}{te:TE}{t:TA}{pos:Pos}
theorem zf:PA X [] jV:=λ_ _ _ _ H Q I h=>Calls.spliced_nil ⟨[],H,I,.nil,h⟩
theorem zd (ha:PE X e te) (hr:PA X es t) (hs:starEach (e::es) X.env=(false,eval e X.env)::starEach es X.env:=by rfl):PA X (e::es) (xJ te t):=by
 intro pos pins s σ H Q I h
 rw[hs]
 show wpAny _ _ (spliced ((false,eval e X.env)::backTo pos (starEach es X.env))) _ _ s
 refine Calls.spliced_cons (thn (ha pins s σ H _ I h) λu s1 ⟨x,H1,I1,r1,q1⟩=>?_)
 exact thn (hr pos pins s1 σ H1 _ I1 q1) λus s2 ⟨xs,H2,I2,r2,q2⟩=>⟨x::xs,H2,I2,.cons r1 r2,q2⟩
def zdR (t:TA):TE:=λσ H Q=>t σ H λxs H1=>xs.length<=sizeLine/\∀p,H1 p=none->Q (.ref p) (upd H1 p (.tup xs))
def zjl (t:TA):TE:=λσ H Q=>t σ H λxs H1=>xs.length<=sizeLine/\∀p,H1 p=none->Q (.ref p) (upd H1 p (.lst xs))
theorem xj {x1} (h:PA X es t):PE X (.Tuple es x1 pos) (zdR t):=by
 intro pins s σ H Q I hq
 refine wpAny_Tuple_spliced (thn (h pos pins s σ H _ I hq) λus s1 ⟨xs,H1,I1,r,z,q⟩=>⟨by rw[<-r.length];exact z,?_⟩)
 have hf:H1 s1.heap.objs.size=none:=I1.hok.fresh (wx _)
 refine⟨.ref s1.heap.objs.size,upd H1 s1.heap.objs.size (.tup xs),I1.laid (t':=s1.toks) (λb u e=>wd _ e) (wx _) ?_,rfl,q _ hf⟩
 exact⟨⟨z,.new⟩,us,r,⟨_,wB _ rfl,rfl,_,rfl⟩⟩
theorem x5 (h:PA X es t):PE X (.List es pos) (zjl t):=by
 intro pins s σ H Q I hq
 refine wpAny_List_spliced (thn (h pos pins s σ H _ I hq) λus s1 ⟨xs,H1,I1,r,z,q⟩=>⟨by rw[<-r.length];exact z,?_⟩)
 have hf:H1 s1.heap.objs.size=none:=I1.hok.fresh (wx _)
 refine⟨.ref s1.heap.objs.size,upd H1 s1.heap.objs.size (.lst xs),I1.laid (t':=s1.toks) (λb u e=>wd _ e) (wx _) ?_,rfl,q _ hf⟩
 exact⟨z,us,0,r,wB _ rfl⟩
end
abbrev Sp:=List V->Hp->VK->XK->Prop
abbrev CXT:=List Env->Hp->Shared->XK->Value->Shared->Prop
structure XH (P:Program) (w:World) (K:Fg) (mg:Str->Option Value) (base:Heap) (A:Around) (outer:List Env) (s:Shared) (H:Hp):Prop where
 frames:A.frames=some outer
 mod:Mod K mg base
 bs:∀b o,base.get? b=some o->s.heap.get? b=some o/\H b=none
 bsz:base.objs.size<=s.heap.objs.size
 funs:s.heap.FunFrames base outer
 frf:∀b∈frs outer,H b=none
 hok:HOk P w H s.heap
 bare:AllBare s.gens
def CE (outer:List Env) (P:Program) (w:World) (H:Hp) (s:Shared) (Q:VK) (u:Value) (s':Shared):Prop :=
 ∃v H',s'.os=s.os/\AllBare s'.gens/\Un (frs outer) [] H H' s.heap s'.heap/\HOk P w H' s'.heap/\xr v u/\Q v H'
def CR (CX:CXT) (outer:List Env) (P:Program) (w:World) (H:Hp) (s:Shared) (Q:VK) (E:XK) (r:Result) (s':Shared):Prop :=
 match r with
 | .ok (.ret u)=>CE outer P w H s Q u s'
 | .ok _=>False
 | .error e=>CX outer H s E e s'
structure vP (P:Program) (w:World) (K:Fg) (mg:Str->Option Value) (base:Heap) (CX:CXT) (k:Nat) (f:Addr) (fd:FuncData) (ps:List Str) (sp:Sp):Prop where
 len:∀vs H Q E,sp vs H Q E->vs.length=ps.length
 run:∀(A:Around) (outer:List Env) (s:Shared) (H:Hp) (args:Args) (us:List Value) (vs:List V) (Q:VK) (E:XK),xn k A->XH P w K mg base A outer s H->BindsTo s fd args (ps.zip us)->xb vs us->sp vs H Q E →
  codeAny (model P w) A (.call (.ref f) args) (CR CX outer P w H s Q E) s
theorem XH.make {P:Program}{w:World}{K:Fg}{mg:Str->Option Value}{base:Heap}{A:Around}{outer:List Env}{s:Shared}{H:Hp}(e:XH P w K mg base A outer s H) (C:Addr) (us:List Value) (kw:List (Str×Value)) :
  XH P w K mg base (A.under (.builtin "type.__call__" ⟨.ref C::us,kw⟩)) outer s H:=⟨by first | exact e.frames | (simpa [Around.under,Code.envs,Code.isFrame,pushEnvs]using e.frames),e.mod,e.bs,e.bsz,e.funs,e.frf,e.hok,e.bare⟩
theorem XH.in1 {P:Program}{w:World}{K:Fg}{mg:Str->Option Value}{base:Heap}{A:Around}{outer:List Env}{s:Shared}{H:Hp}(e:XH P w K mg base A outer s H) :
  XH P w K mg base A.in1 outer s H:=⟨e.frames,e.mod,e.bs,e.bsz,e.funs,e.frf,e.hok,e.bare⟩
section
variable {X:Cx}{pins:List (Addr×Obj)}{σ:St}{H:Hp}{s s':Shared}
theorem Inv.env0 (I:Inv X pins σ H s):XH X.prog X.w X.K X.mg X.base X.A X.stack s H :=
 ⟨I.ok.frames,I.ok.mod,I.bs,wS I.ok.bsz I.sz,I.stack,I.stkFree,I.hok,I.bare⟩
theorem Inv.after {Q:VK}{u:Value}(I:Inv X pins σ H s) (h:CE X.stack X.prog X.w H s Q u s'):EP X pins σ Q u s':=by
 obtain⟨v,H',os,bare,un,hok,r,q⟩:=h
 obtain⟨hh,g,d,t,os'⟩:=s'
 obtain rfl:os'=s.os:=os
 exact⟨v,H',I.call (h':=hh) (g':=g) (d':=d) (t':=t) (ch:=[]) un hok bare (λb z=>absurd z (by simp)),r,q⟩
end
def jg (sp:Sp) (dvs:List V) (E:XK) (t:TA):TE:=λσ H Q=>t σ H λvs H1=>sp (vs++dvs) H1 Q E
def zjm (C:Addr) (sp:Sp) (dvs:List V) (E:XK) (t:TA):TE:=λσ H Q=>t σ H λvs H1=>∀x dx,H1 x=none->H1 dx=none->dx≠x →
 sp (.ref x::(vs++dvs)) (upd (upd H1 dx (.own x)) x (.ins C dx [])) (λv H2=>v = .non/\Q (.ref x) H2) E
def vn (K:Fg) (fd:FuncData) (ps:List Str) (ds:List Value):Prop :=
 ∀(s:Shared) (us:List Value),K.In s.heap->(us++ds).length=ps.length->BindsTo s fd ⟨us,[]⟩ (ps.zip (us++ds))
theorem vn.all {K:Fg}{fd:FuncData}{ps:List Str}(h:∀us:List Value,us.length=ps.length->bindArgs fd ⟨us,[]⟩=pure (ps.zip us)):vn K fd ps []:=λs us _ hl=>by
 rw[yb]at hl ⊢
 exact .of_eq (h us hl)
def XL (CX:CXT) (X:Cx) (E:XK):Prop:=∀(pins:List (Addr×Obj)) (σ:St) (H:Hp) (s:Shared) (e:Value) (s':Shared),Inv X pins σ H s->CX X.stack H s E e s'->X.xe e s'
section
variable {X:Cx}{CX:CXT}{k:Nat}{f C:Addr}{fd:FuncData}{ps:List Str}{sp:Sp}{dvs:List V}{ds:List Value}{E:XK}{x m:Str}{p pos apos:Pos}{e o:Expr}{es:List Expr}{ta:TE}{t:TA}
theorem zhd {pins:List (Addr×Obj)}{σ:St}{H:Hp}{s:Shared}{Q:VK}{us:List Value}{vs:List V}(F:vP X.prog X.w X.K X.mg X.base CX k f fd ps sp) (hr:xn k X.A) (hb:vn X.K fd ps ds) (hd:xb dvs ds) (hx:XL CX X E)
  (I:Inv X pins σ H s) (r:xb vs us) (h:sp (vs++dvs) H Q E):wpAny (model X.prog X.w) X.A (call (.ref f) us) (EP X pins σ Q) X.xe s:=by
 have r2:xb (vs++dvs) (us++ds):=r.append hd
 have hl:(us++ds).length=ps.length:=by rw[<-r2.length];exact F.len _ _ _ _ h
 refine Wo (codeAny_mono (F.run X.A X.stack s H ⟨us,[]⟩ (us++ds) (vs++dvs) Q E hr I.env0 (hb s us I.kIn hl) r2 h) λr s' hq=>?_)
 cases r with
 | error e=>exact hx pins σ H s e s' I hq
 | ok fl =>
  cases fl with
  | ret u=>exact I.after hq
  | next=>exact False.elim hq
  | brk=>exact False.elim hq
  | cont=>exact False.elim hq
theorem zeP (F:vP X.prog X.w X.K X.mg X.base CX k f fd ps sp) (hr:xn k X.A) (hg:Gl X x) (hm:X.mg x=some (.ref f)) (hk:PySem.W.keepIn X.K (.ref f)=true) (hb:vn X.K fd ps ds) (hd:xb dvs ds) (hx:XL CX X E)
  (ha:PA X (e::es) t) (hdb:(x == ("__debug__":Str))=false:=by decide) (he:starEach (e::es) X.env=(false,eval e X.env)::starEach es X.env:=by rfl) (hpl:(backTo pos (starEach es X.env)).any (·.1)=false:=by rfl) :
  PE X (.Call (.Name x p) (e::es) [] pos) (jg sp dvs E t):=by
 intro pins s σ H Q I h
 refine yL (jX I hg hm ?_ hdb)
 refine WC (h₀:=X.base) I.ok.mod.kin hk (thn (ha pos pins s σ H _ I h) λus s1 ⟨vs,H1,I1,r,q⟩=>⟨I1.kIn,?_⟩) he hpl
 exact zhd F hr hb hd hx I1 r q
structure Mk (K:Fg) (C f:Addr):Prop where
 makes:PySem.W.makesIn K C=true
 init:PySem.W.findIn K (.ref C) "__init__" = some (some (.ref f))
 fn:PySem.W.isFn K (.ref f)=true
 kp:PySem.W.keepIn K (.ref C)=true
theorem zdl {pins:List (Addr×Obj)}{σ:St}{H:Hp}{s:Shared}{Q:VK}{us:List Value}{vs:List V}(M:Mk X.K C f) (F:vP X.prog X.w X.K X.mg X.base CX k f fd ps sp) (hr:xn (k+1) X.A) (hb:vn X.K fd ps ds) (hd:xb dvs ds)
  (hx:XL CX X E) (I:Inv X pins σ H s) (r:xb vs us)
  (h:∀x dx,H x=none->H dx=none->dx≠x->sp (.ref x::(vs++dvs)) (upd (upd H dx (.own x)) x (.ins C dx [])) (λv H2=>v = .non/\Q (.ref x) H2) E) :
  wpAny (model X.prog X.w) X.A (call (.ref C) us) (EP X pins σ Q) X.xe s:=by
 have hq:=h (s.heap.objs.size+1) s.heap.objs.size (I.hok.fresh (Nat.le_succ _)) (I.hok.fresh (wx _)) (wO (Nat.lt_succ_self _))
 have I2:=Inv.made (C:=C) I
 have r2:xb (V.ref (s.heap.objs.size+1)::(vs++dvs)) (Value.ref (s.heap.objs.size+1)::(us++ds)):=.cons rfl (r.append hd)
 have hl:(Value.ref (s.heap.objs.size+1)::us++ds).length=ps.length:=by
  have e:=r2.length
  rw[F.len _ _ _ _ hq]at e
  exact e.symm
 refine Wo (zcX (f:=f) I.kIn M.makes M.init (beq_iff_eq.mp M.fn) (codeAny_mono (F.run _ X.stack _ _ ⟨Value.ref (s.heap.objs.size+1)::us,[]⟩ (Value.ref (s.heap.objs.size+1)::(us++ds)) _ _ E (hr.make C us [])
  (I2.env0.make C us []) (hb _ (Value.ref (s.heap.objs.size+1)::us) I2.kIn hl) r2 hq) λr s' hq'=>?_))
 cases r with
 | error e=>exact hx pins σ _ _ e s' I2 hq'
 | ok fl =>
  cases fl with
  | ret u =>
   obtain⟨v,H',I3,rv,ev,q3⟩:=I2.after hq'
   subst ev
   exact⟨rv,⟨V.ref (s.heap.objs.size+1),H',I3,rfl,q3⟩⟩
  | next=>exact False.elim hq'
  | brk=>exact False.elim hq'
  | cont=>exact False.elim hq'
theorem zaL (M:Mk X.K C f) (F:vP X.prog X.w X.K X.mg X.base CX k f fd ps sp) (hr:xn (k+1) X.A) (hg:Gl X x) (hm:X.mg x=some (.ref C)) (hb:vn X.K fd ps ds) (hd:xb dvs ds) (hx:XL CX X E)
  (ha:PA X (e::es) t) (hdb:(x == ("__debug__":Str))=false:=by decide) (he:starEach (e::es) X.env=(false,eval e X.env)::starEach es X.env:=by rfl) (hpl:(backTo pos (starEach es X.env)).any (·.1)=false:=by rfl) :
  PE X (.Call (.Name x p) (e::es) [] pos) (zjm C sp dvs E t):=by
 intro pins s σ H Q I h
 refine yL (jX I hg hm ?_ hdb)
 refine WC (h₀:=X.base) I.ok.mod.kin M.kp (thn (ha pos pins s σ H _ I h) λus s1 ⟨vs,H1,I1,r,q⟩=>⟨I1.kIn,?_⟩) he hpl
 exact zdl M F hr hb hd hx I1 r q
end
structure zF (N P:List Str) (sc:Scope):Prop where
 kind:sc.kind = .function
 co:sc.isCoroutine=false
 gen:sc.isGenerator=false
 nd:N.Nodup
 pre:N.take P.length=P
 par:∀x∈P,sc.names.lookup x=some .local ∨ sc.names.lookup x=some .cell
 nofree:∀y∈sc.names,y.2≠.free
theorem scq {N P:List Str}{sc:Scope}(a:sc.kind = .function:=by rfl) (b:sc.isCoroutine=false:=by rfl) (c:sc.isGenerator=false:=by rfl) (d:N.Nodup:=by decide +kernel) (e:N.take P.length=P:=by rfl) (f:∀x∈P,sc.names.lookup x=some .local ∨ sc.names.lookup x=some .cell:=by decide +kernel) (g:∀y∈sc.names,y.2≠.free:=by decide +kernel):zF N P sc:=⟨a,b,c,d,e,f,g⟩
theorem QF {kindOf:Str->Option NameKind}{x:Str}:∀{binds:List (Str×Value)}{m:Str->Option Value},(∀v,(x,v)∉binds)->bindL kindOf binds m x=m x
 | [],_,_=>rfl
 | (n,v)::r,m,h=>by
  unfold bindL
  rw[QF λw hw=>h w (wP _ hw)]
  split
  ·have:x≠n:=by rintro rfl;exact h v wJ
   simp[this]
  ·rfl
theorem QD {kindOf:Str->Option NameKind}{x:Str}:∀{binds:List (Str×Value)}{m:Str->Option Value},(∀v,(x,v)∉binds)->bindC kindOf binds m x=m x
 | [],_,_=>rfl
 | (n,v)::r,m,h=>by
  unfold bindC
  rw[QD λw hw=>h w (wP _ hw)]
  split
  ·rfl
  ·have:x≠n:=by rintro rfl;exact h v wJ
   simp[this]
theorem QE {kindOf:Str->Option NameKind}{x:Str}{v:Value}:∀{P:List Str}{vs:List Value}{i:Nat}{m:Str->Option Value},P.Nodup->P[i]? = some x->vs[i]? = some v->kindOf x=some .local →
  bindL kindOf (P.zip vs) m x=some v
 | [],_,_,_,_,h,_,_=>by simp at h
 | _::_,[],_,_,_,_,h,_=>by simp at h
 | p::P,w::vs,0,m,nd,h1,h2,hk=>by
  simp at h1 h2;subst h1;subst h2
  show bindL kindOf ((p,w)::P.zip vs) m p=_
  unfold bindL
  rw[QF λv hv=>(Wq.mp nd).1 (uu hv).1,if_pos hk]
  simp
 | p::P,w::vs,i+1,m,nd,h1,h2,hk=>by
  show bindL kindOf ((p,w)::P.zip vs) m x=_
  unfold bindL
  exact QE (i:=i) (Wq.mp nd).2 (by simpa using h1) (by simpa using h2) hk
theorem QC {kindOf:Str->Option NameKind}{x:Str}{v:Value}:∀{P:List Str}{vs:List Value}{i:Nat}{m:Str->Option Value},P.Nodup->P[i]? = some x->vs[i]? = some v->kindOf x≠some .local →
  bindC kindOf (P.zip vs) m x=some v
 | [],_,_,_,_,h,_,_=>by simp at h
 | _::_,[],_,_,_,_,h,_=>by simp at h
 | p::P,w::vs,0,m,nd,h1,h2,hk=>by
  simp at h1 h2;subst h1;subst h2
  show bindC kindOf ((p,w)::P.zip vs) m p=_
  unfold bindC
  rw[QD λv hv=>(Wq.mp nd).1 (uu hv).1,if_neg hk]
  simp
 | p::P,w::vs,i+1,m,nd,h1,h2,hk=>by
  show bindC kindOf ((p,w)::P.zip vs) m x=_
  unfold bindC
  exact QC (i:=i) (Wq.mp nd).2 (by simpa using h1) (by simpa using h2) hk
def vq (N:List Str) (vs:List V):St:=vs.map some++List.replicate (N.length - vs.length) none
def jh (CX:CXT) (P:Program) (w:World) (K:Fg) (mg:Str->Option Value) (base:Heap) (N:List Str) (qual:Str) (scope:Scope) (f:Addr) (cd:Value) (A:Around) (outer:List Env) (s:Shared) (H:Hp) (E:XK):Cx where
 prog:=P
 w:=w
 K:=K
 mg:=mg
 base:=base
 A:=A.deeper (envOfC qual scope s.heap.objs.size f cd)
 N:=N
 s₀:=s
 H₀:=H
 env:=envOfC qual scope s.heap.objs.size f cd
 outer:=outer
 stack:=envOfC qual scope s.heap.objs.size f cd::outer
 ex:=[]
 calm:=true
 fn:=λ_=>true
 pn:=[]
 xe:=λe s'=>wpAny (model P w) (A.deeper (envOfC qual scope s.heap.objs.size f cd)) (leaving (envOfC qual scope s.heap.objs.size f cd) e) (λ_ s''=>CX outer H s E e s'') (λe' s''=>CX outer H s E e' s'') s'
theorem VL {sc:Scope}{n:Nat}{x:Str}(h:sc.names.lookup x=some .cell):∃c,(cellsFrom n sc.names []).lookup x=some c:=by
 have q:=u5 sc.names n [] (.inl h)
 exact Option.isSome_iff_exists.mp q
theorem QK {CX:CXT}{P:Program}{w:World}{K:Fg}{mg:Str->Option Value}{base:Heap}{N ps:List Str}{qual:Str}{scope:Scope}{f:Addr}{cd:Value}{A:Around}{outer:List Env}{s s1:Shared}{H:Hp}{E:XK}{us:List Value}{vs:List V}
  (S:zF N ps scope) (hd:A.handled=none) (e0:XH P w K mg base A outer s H) (hl:vs.length=ps.length) (r:xb vs us)
  (x:InCallC s s.heap.objs.size (bindL (envOfC qual scope s.heap.objs.size f cd).kindOf (ps.zip us) λ_=>none) (cellsFrom (s.heap.objs.size+1) scope.names []) (bindC (envOfC qual scope s.heap.objs.size f cd).kindOf (ps.zip us) λ_=>none) s1) :
  Inv (jh CX P w K mg base N qual scope f cd A outer s H E) [] (vq N vs) H s1:=by
 have hpl:ps.length<=N.length:=by have:=congrArg List.length S.pre;rw[w5]at this;omega
 obtain⟨h1,tk,rfl,hk⟩:=x.done
 have noA:∀b:Addr,b∉(jh CX P w K mg base N qual scope f cd A outer s H E).ex:=λb z=>absurd (show b∈([]:List Addr)from z) (by simp)
 refine⟨⟨e0.mod,S.kind,rfl,rfl,wx _,λy z c h1 h2=>?_,λy hy=>?_,λy c _ h=>?_,λ_=>hd,Around.frames_deeper e0.frames,.inr ⟨rfl,rfl⟩,λb z=>absurd z (noA b),e0.bs,e0.bsz,λb _ _=>noA b,λb z=>absurd z (noA b),e0.funs,e0.frf⟩,
  rfl,e0.bare,Un.kept hk,⟨_,x.toInCall.ns,λi y v h1 h2 h3=>?_⟩,λy c h=>⟨_,x.cell y c h⟩,e0.hok.fresh (wx _),λy c h=>?_,λp hp=>absurd (show p∈([]:List (Addr×Obj))from hp) (by simp),e0.hok.kept hk,?_⟩
 ·exact name_of_addr x.apart (PySem.mem_of_lookup h1) (PySem.mem_of_lookup h2)
 ·have hy:scope.names.lookup y=some .cell\/scope.names.lookup y=some .free:=hy
  rcases hy with hy | hy
  ·exact VL hy
  ·exact absurd rfl (S.nofree _ (PySem.mem_of_lookup hy))
 ·exact Wz (x.above y c (PySem.mem_of_lookup h))
 ·have hi:i<vs.length:=by
   unfold vq at h2
   by_cases hi:i<vs.length
   ·exact hi
   ·rw[wm (by simpa using hi)]at h2
    rw[uR]at h2
    split at h2 <;> cases h2
  have ha:vs[i]? = some v:=by
   unfold vq at h2
   rw[wu (by simpa using hi),wg]at h2
   cases e:vs[i]? with
   | none=>rw[e]at h2;cases h2
   | some a=>rw[e]at h2;cases h2;rfl
  obtain⟨u,hu,rv⟩:=r.get ha
  have hp:ps[i]? = some y:=by
   rw[<-S.pre,List.getElem?_take_of_lt (by omega)];exact h1
  have ndP:ps.Nodup:=by rw[<-S.pre];exact S.nd.sublist (List.take_sublist _ _)
  refine⟨u,rv,?_⟩
  rcases S.par y (wj hp)with k | k
  ·exact .inl ⟨k,QE ndP hp hu k⟩
  ·obtain⟨c,e⟩:=VL (n:=s.heap.objs.size+1) k
   refine .inr ⟨.inl k,c,e,?_⟩
   have q:=x.cell y c e
   rw[QC ndP hp hu (by show scope.names.lookup y≠_;rw[k];decide)]at q
   exact q
 ·exact e0.hok.fresh (Wz (x.above y c (PySem.mem_of_lookup h)))
 ·unfold vq
  show _=N.length
  rw[wE,we,yX]
  omega
theorem zav {CX:CXT}{P:Program}{w:World}{K:Fg}{mg:Str->Option Value}{base:Heap}{k:Nat}{f:Addr}{name qual:Str}{params:Arguments}{body:List Stmt}{scope:Scope}{dV kV doc pm cdv ct oc:Value}{an od:Option Addr}
  {osl:Array (Option Value)}{N ps:List Str}{sp:Sp}(lk:K.lookup f=some ⟨oc,od,.func (PySem.W.fnOf name qual params body scope dV kV doc pm an cdv ct),osl⟩) (hcd:PySem.W.codeIn K cdv qual=true) (S:zF N ps scope)
  (len:∀vs H Q E,sp vs H Q E->vs.length=ps.length)
  (hbody:∀(A:Around) (outer:List Env) (s:Shared) (H:Hp) (vs:List V) (Q:VK) (E:XK),xn k (A.deeper (envOfC qual scope s.heap.objs.size f cdv))->sp vs H Q E →
   ∃t,PSs (jh CX P w K mg base N qual scope f cdv A outer s H E) body t/\t { nx:=λ_ H'=>Q .non H',rt:=Q } (vq N vs) H) :
  vP P w K mg base CX (k+1) f (PySem.W.fnOf name qual params body scope dV kV doc pm an cdv ct) ps sp:=by
 refine⟨len,λA outer s H args us vs Q E hr e0 hb r hsp=>?_⟩
 have hl:=len _ _ _ _ hsp
 have KX:K.In s.heap:=e0.mod.kin.keeps λb o e=>(e0.bs b o e).1
 have lim:s.heap.NoLimit:=e0.mod.nolimit.keeps λb o e=>(e0.bs b o e).1
 have hkind:∀y∈ps.zip us,scope.names.lookup y.1=some .local ∨ (scope.names.lookup y.1=some .cell/\((cellsFrom (s.heap.objs.size+1) scope.names []).lookup y.1).isSome=true):=λ⟨n,v⟩ hy=>by
  rcases S.par n (uu hy).1 with q | q
  ·exact .inl q
  ·exact .inr ⟨q,u5 _ _ _ (.inl q)⟩
 refine codeAny_call_function hr.depth (KX _ _ lk) rfl S.co S.gen rfl (PySem.W.codeRec_of KX hcd) (hb _ _ _ _ ?_)
 refine Wx S.kind hkind λenv he s1 x=>?_
 subst he
 refine⟨lim.keeps x.toInCall.keep,codeAny_func ?_⟩
 obtain⟨t,ht,hq⟩:=hbody A outer s H vs Q E (hr.deeper _) hsp
 have I:Inv (jh CX P w K mg base N qual scope f cdv A outer s H E) [] (vq N vs) H s1:=QK S hr.hd e0 hl r x
 refine yu (ht [] s1 (vq N vs) H _ I hq) (λfl s' hs=>?_) λe s' hs=>hs
 have fin:∀{σ':St}{H':Hp}{v:V}{u:Value},Inv (jh CX P w K mg base N qual scope f cdv A outer s H E) [] σ' H' s'->xr v u->Q v H'->CE outer P w H s Q u s' :=
  λ{σ' H' v u} J rv q=>⟨v,H',J.os,J.bare,J.base,J.hok,rv,q⟩
 cases fl with
 | ret u =>
  obtain⟨v,σ',H',J,rv,q⟩:=hs
  exact fin J rv q
 | next =>
  obtain⟨σ',H',J,q⟩:=hs
  exact fin (v:=V.non) (u:=Value.none) J rfl q
 | brk =>
  obtain⟨_,_,_,q⟩:=hs
  exact False.elim q
 | cont =>
  obtain⟨_,_,_,q⟩:=hs
  exact False.elim q
section
variable {X:Cx}{x:Str}{p pos:Pos}{e:Expr}{es:List Expr}{t:TA}{id T:String}{r:List V->Hp->VK->Prop}
def tCB (r:List V->Hp->VK->Prop) (t:TA):TE:=λσ H Q=>t σ H λvs H1=>r vs H1 Q
theorem zX (hc:jw X (.builtin id) r) (hg:Gl X x) (hm:X.mg x=none) (hv:bootBuiltins x=some (.builtin id)) (ha:PA X (e::es) t) (hn:x≠"__name__":=by decide) (hdb:(x == ("__debug__":Str))=false:=by decide)
  (he:starEach (e::es) X.env=(false,eval e X.env)::starEach es X.env:=by rfl) (hpl:(backTo pos (starEach es X.env)).any (·.1)=false:=by rfl):PE X (.Call (.Name x p) (e::es) [] pos) (tCB r t):=by
 intro pins s σ H Q I h
 refine yL (jJ I hg hm hv ?_ hn hdb)
 exact PyProof.Rows.callWith_builtin1 (thn (ha pos pins s σ H _ I h) λus s1 ⟨vs,H1,I1,r1,q1⟩=>hc pins s1 σ H1 vs us Q I1 r1 q1) he hpl
theorem xP (hc:jw X (.type T) r) (hg:Gl X x) (hm:X.mg x=none) (hv:bootBuiltins x=some (.type T)) (ha:PA X (e::es) t) (hn:x≠"__name__":=by decide) (hdb:(x == ("__debug__":Str))=false:=by decide)
  (he:starEach (e::es) X.env=(false,eval e X.env)::starEach es X.env:=by rfl) (hpl:(backTo pos (starEach es X.env)).any (·.1)=false:=by rfl):PE X (.Call (.Name x p) (e::es) [] pos) (tCB r t):=by
 intro pins s σ H Q I h
 refine yL (jJ I hg hm hv ?_ hn hdb)
 exact yC (thn (ha pos pins s σ H _ I h) λus s1 ⟨vs,H1,I1,r1,q1⟩=>hc pins s1 σ H1 vs us Q I1 r1 q1) he hpl
end
end L2
namespace HT
open PySem PyProof.Rows
section
variable {prog:Program}{w:World}{A:Around}{E:Value->Shared->Prop}{s:Shared}
theorem cat_tup {t b:Addr}{vs ws:List Value}{Q:Value->Shared->Prop}(ht:IsTup s.heap t vs.toArray) (hb:IsTup s.heap b ws.toArray) (hv:vs≠[])
  (h1:ws=[]->Q (.ref t) s) (h2:ws≠[]->Q (.ref s.heap.objs.size) { s with heap:=s.heap.push { cls:=.type "tuple",data:=.seq (vs++ws).toArray } })
  (hsz:vs.length+ws.length<=sizeLine):wpAny (model prog w) A (binaryOp .Add (.ref t) (.ref b)) Q E s:=by
 obtain⟨⟨cls,dd,data,sl⟩,ho,hc,n,hd⟩:=id ht
 obtain⟨⟨cls2,dd2,data2,sl2⟩,ho2,hc2,n2,hd2⟩:=id hb
 simp only at hc hd hc2 hd2
 subst hc hd hc2 hd2
 have e:vs.toArray++ws.toArray=(vs++ws).toArray:=by simp
 by_cases hw:ws=[]
 ·exact concat_meets ⟨_,ho,rfl⟩ ⟨_,ho2,rfl⟩ noFill_tuple_add seq_tuple_add u6 uS (uN _ _)
   (tuple_addW1 t b vs.toArray ws.toArray n n2 dd dd2 sl sl2 (by simpa using hv) (by simp[hw])) ⟨ho,ho2,h1 hw⟩
 ·refine concat_meets ⟨_,ho,rfl⟩ ⟨_,ho2,rfl⟩ noFill_tuple_add seq_tuple_add u6 uS (uN _ _)
   (tuple_addW2 t b vs.toArray ws.toArray n n2 dd dd2 sl sl2 (by simpa using hv) (by simpa using hw) (by rw[wz,wz];exact hsz)) ⟨ho,ho2,?_⟩
  rw[e]
  exact h2 hw
def sIx (n d:Nat):Option Int->Nat
 | none=>d
 | some v=>if v<0 then(v+(n:Int)).toNat else min v.toNat n
theorem sIx_none (n d:Nat):sIx n d none=d:=rfl
theorem sIx_nat (n d k:Nat):sIx n d (some (k:Int))=min k n:=by
 show (if(k:Int)<0 then((k:Int)+(n:Int)).toNat else min (k:Int).toNat n)=min k n
 rw[if_neg (by omega),yq]
theorem zhf (n d:Nat) (hd:d<=n) (o:Option Int):sIx n d o<=n:=by
 cases o with
 | none=>exact hd
 | some v =>
  show (if v<0 then(v+(n:Int)).toNat else min v.toNat n)<=n
  by_cases hv:v<0
  ·rw[if_pos hv];omega
  ·rw[if_neg hv];exact Nat.min_le_right _ _
theorem zam (v:Int) (n d:Nat):(if v<0 then max (v+(n:Int)) 0 else min v (n:Int))=((sIx n d (some v):Nat):Int):=by
 show (if v<0 then max (v+(n:Int)) 0 else min v (n:Int))=(((if v<0 then(v+(n:Int)).toNat else min v.toNat n):Nat):Int)
 by_cases hv:v<0
 ·simp only[if_pos hv];omega
 ·simp only[if_neg hv];omega
theorem JB (lo hi:Option Int) (n:Nat):Builtin.Slice.sliceAdjust lo hi 1 (n:Int)=(((sIx n 0 lo:Nat):Int),((sIx n n hi:Nat):Int)):=by
 have h1:¬((1:Int)<0):=by omega
 unfold Builtin.Slice.sliceAdjust
 simp only[h1,if_false]
 refine W9 ?_ ?_
 ·cases lo with
  | none=>rfl
  | some v=>exact zam v n 0
 ·cases hi with
  | none=>rfl
  | some v=>exact zam v n n
theorem J0 (i j:Nat):Builtin.Slice.slicePlaces (i:Int) (j:Int) 1=j - i:=by
 unfold Builtin.Slice.slicePlaces
 have h1:(1:Int)>0:=by omega
 simp only[h1,if_true,Int.ediv_one]
 split <;> omega
theorem Qn {v:Value}{o:Option Int}{Q:Option Int->Shared->Prop}(p:IsPart v o) (h:Q o s):wpAny (model prog w) A (Builtin.Slice.slicePartIndex v) Q E s:=by
 cases p with
 | none=>exact slicePart_none h
 | int i t=>exact slicePart_int h
theorem jf {sl:Addr}{vl vu:Value}{lo hi:Option Int}{n:Nat}{Q:Int×Int×Nat->Shared->Prop}(hs:s.heap.IsSliceOf sl vl vu .none) (pl:IsPart vl lo) (pu:IsPart vu hi)
  (h:Q (((sIx n 0 lo:Nat):Int),1,sIx n n hi - sIx n 0 lo) s):wpAny (model prog w) A (Builtin.Slice.sliceApplied (.ref sl) (pure (n:Int))) Q E s:=by
 obtain⟨os,hos,hcs,hds⟩:=id hs
 unfold Builtin.Slice.sliceApplied Builtin.Slice.sliceFields
 refine wc (wc (wZ hos hds (x:=vl) rfl (wc (wZ hos hds (x:=vu) rfl (wc (wZ hos hds (x:=.none) rfl (wo ?_)))))))
 refine wc (slicePart_none ?_)
 show wpAny _ _ (if((1:Int) == 0)=true then _ else _) _ _ s
 rw[if_neg (by decide)]
 refine wc (Qn pl (wc (Qn pu (wc (wo ?_)))))
 show wpAny _ _ (match Builtin.Slice.sliceAdjust lo hi 1 (n:Int)with | (lo,hi)=>pure (lo,(1:Int),Builtin.Slice.slicePlaces lo hi 1)) _ _ s
 rw[JB lo hi n]
 show wpAny _ _ (pure (((sIx n 0 lo:Nat):Int),(1:Int),Builtin.Slice.slicePlaces ((sIx n 0 lo:Nat):Int) ((sIx n n hi:Nat):Int) 1)) _ _ s
 rw[J0]
 exact wo h
theorem zde (xs:Array Value) (i k:Nat):((List.range k).filterMap λ(m:Nat)=>xs[((i:Int)+(m:Int)*1).toNat]?).toArray=((xs.toList.drop i).take k).toArray:=by
 have e:(λ(m:Nat)=>xs[((i:Int)+(m:Int)*1).toNat]?)=λm=>xs[i+m]?:=by
  funext m
  have:((i:Int)+(m:Int)*1).toNat=i+m:=by omega
  rw[this]
 rw[e]
 have:=pick_run xs i k
 rw[List.filterMap_map]at this
 have e2:((λx=>xs[x]?) ∘ λx=>i+x)=λm=>xs[i+m]?:=rfl
 rw[e2]at this
 rw[this]
theorem getItem_tuple_cut {t sl:Addr}{items:Array Value}{vl vu:Value}{lo hi:Option Int}{Q:Value->Shared->Prop}(ht:IsTup s.heap t items) (hs:s.heap.IsSliceOf sl vl vu .none) (pl:IsPart vl lo) (pu:IsPart vu hi)
  (hw:¬(sIx items.size 0 lo=0/\sIx items.size items.size hi=items.size))
  (h:Q (.ref s.heap.objs.size) { s with heap:=s.heap.push { cls:=.type "tuple",data:=.seq ((items.toList.drop (sIx items.size 0 lo)).take (sIx items.size items.size hi - sIx items.size 0 lo)).toArray } })
  (hsz:items.size<=sizeLine):wpAny (model prog w) A (getItem (.ref t) (.ref sl)) Q E s:=by
 have htake:sizeOk (.seq ((items.toList.drop (sIx items.size 0 lo)).take (sIx items.size items.size hi - sIx items.size 0 lo)).toArray):=by
  show ((items.toList.drop (sIx items.size 0 lo)).take (sIx items.size items.size hi - sIx items.size 0 lo)).toArray.size<=sizeLine
  rw[wz,w5,wW,yU]
  omega
 have hj:sIx items.size items.size hi<=items.size:=zhf _ _ (wx _) hi
 obtain⟨os,hos,hcs,hds⟩:=id hs
 have hTs:s.TypeIs (.ref sl) "slice":=⟨os,hos,hcs⟩
 unfold getItem
 try with_reducible refine yh ?_
 first | refine wc (wo ?_) | skip
 refine wc (WL ht.typeIs (by decide) ?_)
 refine wc (wpAny_callSpecial?_slot (name:=Str.ofString "__getitem__") ht.typeIs yi
  (yG yi ht.typeIs entry_tuple_getitem ?_ (args_tuple_getitem _ _)))
 show wpAny _ _ (Builtin.Tuple.tupleItemsOf (.ref t) >>= _) _ _ s
 refine wc (tupleItemsOf_ ht ?_)
 refine wc (Wf hTs ?_)
 rw[if_pos (by decide)]
 refine wc (jf hs pl pu ?_)
 have hno:¬((((sIx items.size 0 lo:Nat):Int) == 0&&(1:Int) == 1&&(sIx items.size items.size hi - sIx items.size 0 lo) == items.size)=true):=by
  intro q
  rw[yM,yM]at q
  have q1:((sIx items.size 0 lo:Nat):Int)=0:=eq_of_beq q.1.1
  have q2:sIx items.size items.size hi - sIx items.size 0 lo=items.size:=eq_of_beq q.2
  exact hw ⟨by omega,by omega⟩
 show wpAny _ _ (if(((sIx items.size 0 lo:Nat):Int) == 0&&(1:Int) == 1&&(sIx items.size items.size hi - sIx items.size 0 lo) == items.size)=true then _ else _) _ _ s
 rw[if_neg hno,zde]
 first
  | exact wc (m:=Builtin.Tuple.tupleExact _) (yj (wo ⟨_,rfl,wo h⟩) htake)
  | exact wc (m:=Builtin.Tuple.tupleExact _) (yj (wc (wo (wo ⟨_,rfl,wo h⟩))) htake)
  | exact wc (wc (m:=Builtin.Tuple.tupleExact _) (yj (wo (wo ⟨_,rfl,wo h⟩)) htake))
  | exact wc (wc (m:=Builtin.Tuple.tupleExact _) (yj (wo ⟨_,rfl,wo h⟩) htake))
end
end HT
namespace L2
open PySem PySem.Spec PyProof.Rows
abbrev TO:=St->Hp->(Option Int->Hp->Prop)->Prop
def PO (X:Cx) (e:Option Expr) (t:TO):Prop :=
 ∀(pins:List (Addr×Obj)) (s:Shared) (σ:St) (H:Hp) (Q:Option Int->Hp->Prop),Inv X pins σ H s->t σ H Q →
  wpAny (model X.prog X.w) X.A (evalPart e X.env) (λu s'=>∃o H',Inv X pins σ H' s'/\IsPart u o/\Q o H') X.xe s
def zba:TO:=λ_ H Q=>Q none H
def zga (t:TE):TO:=λσ H Q=>t σ H λx H1=>∃i,x = .int i/\Q (some i) H1
theorem JK {ns:List Int}:∀{us:List Value},xb (ns.map V.int) us->IntsAre us ns:=by
 induction ns with
 | nil=>intro us r;rw[uw]at r;cases r;exact .nil
 | cons n ns ih =>
  intro us r
  rw[ye]at r
  cases r with
  | cons r1 r2 =>
   obtain⟨t,e⟩:=r1
   subst e
   exact .cons n t (ih r2)
section
variable {X:Cx}{e:Expr}{te:TE}{lo hi:Option Expr}{tl th:TO}{pos p2:Pos}
theorem jZ:PO X none zba:=by
 intro pins s σ H Q I h
 rw[evalPart_none]
 exact wo ⟨none,H,I,.none,h⟩
theorem xH (h:PE X e te):PO X (some e) (zga te):=by
 intro pins s σ H Q I hw
 rw[evalPart_some]
 refine thn (h pins s σ H _ I hw) λu s1 ⟨x,H1,I1,r1,q1⟩=>?_
 obtain⟨i,rfl,q⟩:=q1
 obtain⟨t,rfl⟩:=r1
 exact⟨some i,H1,I1,.int i t,q⟩
def SlR (X:Cx) (r:V->Option Int->Option Int->Hp->VK->Prop):Prop :=
 ∀(pins:List (Addr×Obj)) (s:Shared) (σ:St) (H:Hp) (x:V) (v vl vu:Value) (lo hi:Option Int) (sl:Addr) (Q:VK),Inv X pins σ H s->xr x v->s.heap.IsSliceOf sl vl vu .none->IsPart vl lo->IsPart vu hi->r x lo hi H Q →
  ∃T id,typeLookup (.type T) "__getitem__" = pure (some (.builtin id))/\s.TypeIs v T/\wpAny (model X.prog X.w) X.A (getItem v (.ref sl)) (EP X pins σ Q) X.xe s
theorem SlR.or {r r':V->Option Int->Option Int->Hp->VK->Prop}(h:SlR X r) (h':SlR X r'):SlR X (λx lo hi H Q=>r x lo hi H Q\/r' x lo hi H Q):=by
 intro pins s σ H x v vl vu lo hi sl Q I rx hs pl pu q
 rcases q with q | q
 ·exact h pins s σ H x v vl vu lo hi sl Q I rx hs pl pu q
 ·exact h' pins s σ H x v vl vu lo hi sl Q I rx hs pl pu q
def tSl (r:V->Option Int->Option Int->Hp->VK->Prop) (te:TE) (tl th:TO):TE:=λσ H Q=>te σ H λx H1=>tl σ H1 λl H2=>th σ H2 λu H3=>r x l u H3 Q
theorem qj {r:V->Option Int->Option Int->Hp->VK->Prop}(hr:SlR X r) (he:PE X e te) (hl:PO X lo tl) (hu:PO X hi th):PE X (.Subscript e (.Slice lo hi none p2) pos) (tSl r te tl th):=by
 intro pins s σ H Q I h
 refine Subscript_ (thn (he pins s σ H _ I h) λv s1 ⟨x,H1,I1,r1,q1⟩=>?_)
 refine wpAny_Slice (thn (hl pins s1 σ H1 _ I1 q1) λvl s2 ⟨l,H2,I2,pl,q2⟩=>thn (hu pins s2 σ H2 _ I2 q2) λvu s3 ⟨u,H3,I3,pu,q3⟩=>?_)
 rw[evalPart_none]
 refine wo ?_
 have I4:Inv X pins σ H3 { s3 with heap:=s3.heap.push { cls:=.type "slice",data:=.fields #[vl,vu,.none] } }:=I3.kept (t':=s3.toks) λb ob q=>wd _ q
 obtain⟨T,id,hT,ht,hg⟩:=hr pins { s3 with heap:=s3.heap.push { cls:=.type "slice",data:=.fields #[vl,vu,.none] } } σ H3 x v vl vu l u s3.heap.objs.size Q I4 r1 (Heap.IsSliceOf.new ..) pl pu q3
 show wpAny (model X.prog X.w) X.A (subscriptTail e (.Slice lo hi none p2) v (.ref s3.heap.objs.size)) (EP X pins σ Q) X.xe { s3 with heap:=s3.heap.push { cls:=.type "slice",data:=.fields #[vl,vu,.none] } }
 exact tail_any (ops:=[.ref s3.heap.objs.size,v]) ht hT hg (by with_unfolding_all rfl)
def qt (xs:List V) (lo hi:Option Int):List V:=(xs.drop (HT.sIx xs.length 0 lo)).take (HT.sIx xs.length xs.length hi - HT.sIx xs.length 0 lo)
theorem vT (xs:List V) (lo hi:Option Int):(qt xs lo hi).length<=xs.length:=by
 unfold qt
 rw[w5,wW]
 omega
def zeY (K:Fg):V->Option Int->Option Int->Hp->VK->Prop:=λx lo hi H Q=>∃a xs,x = .ref a/\SqT K H a xs ∧
 ¬(HT.sIx xs.length 0 lo=0/\HT.sIx xs.length xs.length hi=xs.length)/\∀p,H p=none->Q (.ref p) (upd H p (.tup (qt xs lo hi)))
theorem Ql:SlR X (zeY X.K):=by
 intro pins s σ H x v vl vu lo hi sl Q I rx hs pl pu h
 obtain⟨a,xs,rfl,hx,hw,q⟩:=h
 cases rx
 obtain⟨its,r,ht,hz⟩:=I.tuple hx
 have hlen:its.toArray.size=xs.length:=by rw[wz];exact r.length.symm
 refine⟨"tuple",_,yi.lookup,ht.typeIs,?_⟩
 refine HT.getItem_tuple_cut ht hs pl pu (by rw[hlen];exact hw) ?_ (by rw[hlen];exact hz)
 rw[hlen]
 refine⟨.ref s.heap.objs.size,_,I.laid (t':=s.toks) (o:=.tup (qt xs lo hi)) (λb ob q=>wd _ q) (wx _) ?_,rfl,q _ (I.hok.fresh (wx _))⟩
 exact⟨⟨wS (vT xs lo hi) hz,.new⟩,_,(r.drop (HT.sIx xs.length 0 lo)).take (HT.sIx xs.length xs.length hi - HT.sIx xs.length 0 lo),IsTup.new _ _⟩
inductive zdi (K:Fg) (x:V) (y:V) (H:Hp) (Q:VK):Prop
 | mk:∀a b xs ys,(x = .ref a)->(y = .ref b)->(SqT K H a xs)->(SqT K H b ys)->(xs≠[])->(xs.length+ys.length<=sizeLine)->((ys=[]->Q (.ref a) H))->((ys≠[]->∀p,H p=none->Q (.ref p) (upd H p (.tup (xs++ys)))))->zdi K x y H Q
def ziV (K:Fg):R2:=λx y H Q=>zdi K x y H Q
theorem xb.nil_iff {xs:List V}{us:List Value}(r:xb xs us):us=[]↔xs=[]:=by
 cases r with
 | nil=>simp
 | cons _ _=>simp
theorem zeM:OpR X (binaryOp .Add) (ziV X.K):=by
 intro pins s σ H x y v u Q I rx ry h
 obtain⟨a,b,xs,ys,rfl,rfl,ha,hb,hx,hz,q1,q2⟩:=h
 cases rx
 cases ry
 obtain⟨its,r1,p1,_⟩:=I.tuple ha
 obtain⟨its2,r2,p2,_⟩:=I.tuple hb
 refine HT.cat_tup p1 p2 (λz=>hx (r1.nil_iff.mp z)) (λz=>⟨.ref a,H,I,rfl,q1 (r2.nil_iff.mp z)⟩) (λz=>?_) (by rw[<-r1.length,<-r2.length];exact hz)
 refine⟨.ref s.heap.objs.size,_,I.laid (t':=s.toks) (o:=.tup (xs++ys)) (λb ob q=>wd _ q) (wx _) ?_,rfl,q2 (λw=>z (r2.nil_iff.mpr w)) _ (I.hok.fresh (wx _))⟩
 exact⟨⟨by rw[wE];exact hz,.new⟩,_,r1.append r2,IsTup.new _ _⟩
end
def ixN (n:Nat) (i:Int):Option Nat:=if 0<=i then(if i<n then some i.toNat else none)else if -(n:Int)<=i then some (i+n).toNat else none
def atI {α:Type}(xs:List α) (i:Int):Option α:=(ixN xs.length i).bind λj=>xs[j]?
theorem zay {n:Nat}{i:Int}{j:Nat}(h:ixN n i=some j):seqIndex? i n=some j/\j<n ∧ -(n:Int)<=i/\i<n:=by
 unfold ixN at h
 by_cases h0:0<=i
 ·rw[if_pos h0]at h
  by_cases h1:i<n
  ·rw[if_pos h1]at h
   have e:i.toNat=j:=Option.some.inj h
   exact⟨by rw[seqIndex_of h0 h1,e],by omega,by omega,h1⟩
  ·rw[if_neg h1]at h;cases h
 ·rw[if_neg h0]at h
  by_cases h1 : -(n:Int)<=i
  ·rw[if_pos h1]at h
   have e:(i+n).toNat=j:=Option.some.inj h
   exact⟨by rw[seqIndex_neg (by omega) h1,e],by omega,h1,by omega⟩
  ·rw[if_neg h1]at h;cases h
theorem zaj {α:Type}{xs:List α}{i:Int}{v:α}(h:atI xs i=some v):∃j,seqIndex? i xs.length=some j/\xs[j]? = some v/\j<xs.length ∧ -(xs.length:Int)<=i/\i<xs.length:=by
 unfold atI at h
 cases e:ixN xs.length i with
 | none=>rw[e]at h;cases h
 | some j =>
  rw[e]at h
  obtain⟨h1,h2,h3,h4⟩:=zay e
  exact⟨j,h1,h,h2,h3,h4⟩
theorem xF {α:Type}{xs:List α}{j:Nat}{v:α}(h:xs[j]? = some v):atI xs (j:Int)=some v:=by
 have hj:j<xs.length:=(wk.mp h).1
 have e:ixN xs.length (j:Int)=some j:=by
  unfold ixN
  rw[if_pos (by omega),if_pos (by omega)];simp
 unfold atI;rw[e];exact h
theorem VG {α:Type}(xs:List α) (v:α):atI (xs++[v]) (-1)=some v:=by
 have hl:(xs++[v]).length=xs.length+1:=by simp
 have e:ixN (xs++[v]).length (-1)=some xs.length:=by
  unfold ixN
  rw[hl,if_neg (by decide),if_pos (by omega)]
  congr 1
  omega
 unfold atI
 rw[e]
 show (xs++[v])[xs.length]? = some v
 simp
def zai (b:Expr):Prop:=∀o i,subscripted b false o i=operate [o,i] (getItem o i)
def IxR (X:Cx) (r:R2):Prop :=
 ∀(value slice:Expr) (pins:List (Addr×Obj)) (s:Shared) (σ:St) (H:Hp) (x y:V) (v u:Value) (Q:VK),Inv X pins σ H s->xr x v->xr y u->r x y H Q →
  subscripted slice false v u=operate [v,u] (getItem v u)->wpAny (model X.prog X.w) X.A (subscriptTail value slice v u) (EP X pins σ Q) X.xe s
def MtR (X:Cx) (id:String) (r:V->List V->Hp->VK->Prop):Prop :=
 ∀(pins:List (Addr×Obj)) (s:Shared) (σ:St) (H:Hp) (x:V) (xs:List V) (v:Value) (us:List Value) (Q:VK),Inv X pins σ H s->xr x v->xb xs us->r x xs H Q →
  wpAny (model X.prog X.w) X.A (call (.builtin id) (v::us)) (EP X pins σ Q) X.xe s
section
variable {X:Cx}{a b:Expr}{ta tb:TE}{pos:Pos}
theorem zk {r:R2}(hr:IxR X r) (ha:PE X a ta) (hb:PE X b tb) (hs:zai b):PE X (.Subscript a b pos) (tOp r ta tb):=by
 intro pins s σ H Q I h
 exact Subscript_ (zgm ha hb I h λv u s2 x y H2 I2 rx ry q=>hr a b pins s2 σ H2 x y v u Q I2 rx ry q (hs _ _))
inductive zfV (K:Fg) (x:V) (y:V) (H:Hp) (Q:VK):Prop
 | mk:∀p xs i v,(x = .ref p)->(y = .int i)->(SqL K H p xs)->(atI xs i=some v)->(Q v H)->zfV K x y H Q
def ziX (K:Fg):R2:=λx y H Q=>zfV K x y H Q
inductive zfW (K:Fg) (x:V) (y:V) (H:Hp) (Q:VK):Prop
 | mk:∀p xs i v,(x = .ref p)->(y = .int i)->(SqT K H p xs)->(atI xs i=some v)->(Q v H)->zfW K x y H Q
def jQ (K:Fg):R2:=λx y H Q=>zfW K x y H Q
theorem xf:IxR X (ziX X.K):=by
 intro value slice pins s σ H x y v u Q I rx ry h hs
 obtain⟨p,xs,i,z,rfl,rfl,hq,he,q⟩:=h
 cases rx
 obtain⟨t,rfl⟩:=ry
 obtain⟨its,r,pl,hz⟩:=I.list hq
 obtain⟨j,h1,h2,h3,h4,h5⟩:=zaj he
 obtain⟨w,ew,rw'⟩:=r.get h2
 have hl:=r.length
 have hn:=Qa
 have fin:EP X pins σ Q w s:=⟨z,H,I,rw',q⟩
 by_cases h0:0<=i
 ·have hj:i.toNat=j:=by
   rw[seqIndex_of h0 h5]at h1
   exact Option.some.inj h1
  exact item_listR pl.isList h0 (by omega) (by rw[hj];simpa using ew) fin hs
 ·have hj:(i+(its.toArray.size:Int)).toNat=j:=by
   rw[seqIndex_neg (by omega) h4]at h1
   rw[wz,<-hl]
   exact Option.some.inj h1
  exact subscriptTail_builtinR (x:=w) pl.isList.typeIs slot_list_getitem.lookup
   (wpAny_getItem_list_neg (Q:=λr s'=>r=w/\EP X pins σ Q r s') pl.isList (by omega) (by rw[wz] <;> omega) (by omega) (by rw[hj];simpa using ew) ⟨rfl,fin⟩) hs
theorem zj:IxR X (jQ X.K):=by
 intro value slice pins s σ H x y v u Q I rx ry h hs
 obtain⟨p,xs,i,z,rfl,rfl,hq,he,q⟩:=h
 cases rx
 obtain⟨t,rfl⟩:=ry
 obtain⟨its,r,pl,hz⟩:=I.tuple hq
 obtain⟨j,h1,h2,h3,h4,h5⟩:=zaj he
 obtain⟨w,ew,rw'⟩:=r.get h2
 have hl:=r.length
 have hn:=Qa
 have fin:EP X pins σ Q w s:=⟨z,H,I,rw',q⟩
 exact subscriptTail_builtinR (x:=w) pl.typeIs slot_tuple_getitem.lookup
  (getItem_tuple (j:=j) (Q:=λr s'=>r=w/\EP X pins σ Q r s') pl (by omega) (by omega) (by rw[wz,<-hl];exact h1) (by simpa using ew) ⟨rfl,fin⟩) hs
theorem JU (its:List Value) (n j:Nat) (u:Value):Obj.mapSeq (·.setIfInBounds j u) { cls:=.type "list",data:=.seq its.toArray n } = { cls:=.type "list",data:=.seq (its.set j u).toArray n }:=by
 simp[Obj.mapSeq]
theorem Inv.lst {pins:List (Addr×Obj)}{σ:St}{H:Hp}{s:Shared}{p:Addr}{xs:List V}(I:Inv X pins σ H s) (h:H p=some (.lst xs)) :
  ∃(its:List Value) (n:Nat),xb xs its/\s.heap.get? p=some { cls:=.type "list",data:=.seq its.toArray n }/\xs.length<=sizeLine:=by
 obtain⟨z,its,n,r,e⟩:=I.hok p _ h
 exact⟨its,n,r,e,z⟩
theorem Inv.lstUpd {pins:List (Addr×Obj)}{σ:St}{H:Hp}{s:Shared}{p:Addr}{xs ys:List V}{its its':List Value}{n n':Nat}{f:Obj->Obj}(I:Inv X pins σ H s) (h:H p=some (.lst xs))
  (ho:s.heap.get? p=some { cls:=.type "list",data:=.seq its.toArray n }) (hf:f { cls:=.type "list",data:=.seq its.toArray n } = { cls:=.type "list",data:=.seq its'.toArray n' }) (r:xb ys its') (hz:ys.length<=sizeLine) (t:Nat) :
  Inv X pins σ (upd H p (.lst ys)) { s with heap:=s.heap.update p f,toks:=t }:=by
 have e:(s.heap.update p f).get? p=some { cls:=.type "list",data:=.seq its'.toArray n' }:=by
  rw[yp f ho (by rw[hf] <;> rfl),hf]
 refine I.write (x:=p) (e:=p) (by rw[h];trivial) (.inl rfl) (λb u hb q=>(yo _ _ (Ne.symm hb)).trans q) ⟨_,e⟩ ?_
 exact⟨hz,its',n',r,e⟩
def ziY:V->V->V->Hp->(Hp->Prop)->Prop:=λo i v H Q=>∃p xs k j,o = .ref p/\i = .int k/\H p=some (.lst xs)/\ixN xs.length k=some j/\Q (upd H p (.lst (xs.set j v)))
theorem vp:zh3 X ziY:=by
 intro pins s σ H o i v ov iv u Q I ro ri rv h
 obtain⟨p,xs,k,j,rfl,rfl,hp,hj,q⟩:=h
 cases ro
 obtain⟨t,rfl⟩:=ri
 obtain⟨its,n,r,ho,hz⟩:=I.lst hp
 obtain⟨h1,h2,h3,h4⟩:=zay hj
 have hl:=r.length
 have hn:=Qa
 have I':Inv X pins σ (upd H p (.lst (xs.set j v))) { s with heap:=s.heap.update p (Obj.mapSeq (·.setIfInBounds j u)) } :=
  I.lstUpd hp ho (JU its n j u) (r.set rv j) (by rw[uT];exact hz) s.toks
 by_cases h0:0<=k
 ·have hk:k.toNat=j:=by
   rw[seqIndex_of h0 h4]at h1
   exact Option.some.inj h1
  exact PySem.W.ki_setAt ho h0 (by omega) (by rw[wz,<-hl];exact h4) (by rw[hk];exact⟨_,I',q⟩)
 ·have hk:(k+(its.toArray.size:Int)).toNat=j:=by
   rw[seqIndex_neg (by omega) h3]at h1
   rw[wz,<-hl]
   exact Option.some.inj h1
  exact PySem.W.ki_setBack ho (by omega) (by rw[wz,<-hl];exact h3) (by omega) (by rw[hk];exact⟨_,I',q⟩)
theorem Vs (lo hi:Option Int) (n:Nat):(sliceBounds lo hi none n).1=((HT.sIx n 0 lo:Nat):Int)/\(sliceBounds lo hi none n).2.1=((HT.sIx n n hi:Nat):Int)/\(sliceBounds lo hi none n).2.2=1:=by
 refine⟨?_,?_,rfl⟩
 ·cases lo with
  | none=>simp[sliceBounds,HT.sIx]
  | some i =>
   simp only[sliceBounds,HT.sIx,WR,show (1:Int)>0 by decide,if_true]
   by_cases h:i<0
   ·simp only[h,if_true] <;> omega
   ·simp only[h,if_false] <;> omega
 ·cases hi with
  | none=>simp[sliceBounds,HT.sIx]
  | some i =>
   simp only[sliceBounds,HT.sIx,WR,show (1:Int)>0 by decide,if_true]
   by_cases h:i<0
   ·simp only[h,if_true] <;> omega
   ·simp only[h,if_false] <;> omega
theorem Qw (its:List Value) (lo hi:Option Int):slicePick its.toArray lo hi none=((its.drop (HT.sIx its.length 0 lo)).take (HT.sIx its.length its.length hi - HT.sIx its.length 0 lo)).toArray:=by
 obtain⟨h1,h2,h3⟩:=Vs lo hi its.toArray.size
 unfold slicePick
 rw[h1,h2,h3]
 simp only[sliceRange_one,pick_run,wz] <;> rfl
def rSlL (K:Fg):V->Option Int->Option Int->Hp->VK->Prop:=λx lo hi H Q=>∃a xs,x = .ref a/\SqL K H a xs/\∀p,H p=none->Q (.ref p) (upd H p (.lst (qt xs lo hi)))
theorem jv:SlR X (rSlL X.K):=by
 intro pins s σ H x v vl vu lo hi sl Q I rx hs pl pu h
 obtain⟨a,xs,rfl,hx,q⟩:=h
 cases rx
 obtain⟨its,r,ht,hz⟩:=I.list hx
 have hlen:=r.length
 refine⟨"list",_,slot_list_getitem.lookup,ht.isList.typeIs,?_⟩
 refine WM ht.isList hs pl pu .none (by simp) ?_ (by rw[wz] <;> omega)
 rw[Qw,<-hlen]
 refine⟨.ref s.heap.objs.size,_,I.laid (t':=s.toks) (o:=.lst (qt xs lo hi)) (λb ob q=>wd _ q) (wx _) ?_,rfl,q _ (I.hok.fresh (wx _))⟩
 exact⟨wS (vT xs lo hi) hz,_,0,(r.drop (HT.sIx xs.length 0 lo)).take (HT.sIx xs.length xs.length hi - HT.sIx xs.length 0 lo),wB _ rfl⟩
theorem xc:jw X (.builtin "len") (λxs H Q=>∃p ys,xs=[.ref p]/\(SqL X.K H p ys\/SqT X.K H p ys)/\Q (.int ys.length) H):=by
 intro pins s σ H xs us Q I r h
 obtain⟨p,ys,rfl,hq,q⟩:=h
 obtain⟨u,rfl,rx⟩:=Zn r
 cases rx
 have hn:=Qa
 rcases hq with hq | hq
 ·obtain⟨its,r',pl,hz⟩:=I.list hq
  have hlen:=r'.length
  exact Calls.call_len_list pl.isList (by simp only[wz] <;> omega) ⟨.int ys.length,H,I.tok _,⟨s.toks+1,by rw[wz,hlen]⟩,q⟩
 ·obtain⟨its,r',pl,hz⟩:=I.tuple hq
  have hlen:=r'.length
  exact len_tuple pl (by simp only[wz] <;> omega) ⟨.int ys.length,H,I.tok _,⟨s.toks+1,by rw[wz,hlen]⟩,q⟩
theorem qO:jw X (.type "list") (λxs H Q=>∃p ys,xs=[.ref p]/\(SqL X.K H p ys\/SqT X.K H p ys)/\∀l,H l=none->Q (.ref l) (upd H l (.lst ys))):=by
 intro pins s σ H xs us Q I r h
 obtain⟨p,ys,rfl,hq,q⟩:=h
 obtain⟨u,rfl,rx⟩:=Zn r
 cases rx
 have fin:∀(its:List Value),xb ys its->ys.length<=sizeLine->∀(h':Heap) (c':Nat),(∀b o',s.heap.get? b=some o'->h'.get? b=some o') →
   h'.get? s.heap.objs.size=some { cls:=.type "list",dict:=none,data:=.seq its.toArray c',slots:=#[] }->EP X pins σ Q (.ref s.heap.objs.size) { s with heap:=h' }:=λits r' hz h' c' kp e =>
  ⟨.ref s.heap.objs.size,_,I.laid (t':=s.toks) kp (wx _) (show xy X.prog X.w _ h' _ (.lst ys)from⟨hz,its,c',r',e⟩),rfl,q _ (I.hok.fresh (wx _))⟩
 rcases hq with hq | hq
 ·obtain⟨its,r',pl,hz⟩:=I.list hq
  have hlen:=r'.length
  obtain⟨o,ho,hc,n,hd⟩:=pl.isList
  exact call_list_seq p (.inl rfl) ho hc hd (λh' c' kp e=>fin its r' hz h' c' kp e) (by simp only[wz] <;> omega)
 ·obtain⟨its,r',pl,hz⟩:=I.tuple hq
  have hlen:=r'.length
  obtain⟨o,ho,hc,n,hd⟩:=pl
  exact call_list_seq p (.inr rfl) ho hc hd (λh' c' kp e=>fin its r' hz h' c' kp e) (by simp only[wz] <;> omega)
theorem qk:jw X (.type "tuple") (λxs H Q=>∃p ys,xs=[.ref p]/\((SqL X.K H p ys/\∀l,H l=none->Q (.ref l) (upd H l (.tup ys)))\/(SqT X.K H p ys/\Q (.ref p) H))):=by
 intro pins s σ H xs us Q I r h
 obtain⟨p,ys,rfl,h⟩:=h
 obtain⟨u,rfl,rx⟩:=Zn r
 cases rx
 rcases h with⟨hq,q⟩ | ⟨hq,q⟩
 ·obtain⟨its,r',pl,hz⟩:=I.list hq
  have hlen:=r'.length
  refine call_tuple_list pl.isList (λh' kp=>?_) (by simp only[wz] <;> omega)
  have I1:Inv X pins σ H { s with heap:=h' }:=I.kept (t':=s.toks) kp
  have I2:Inv X pins σ (upd H h'.objs.size (.tup ys)) { s with heap:=h'.push { cls:=.type "tuple",data:=.seq its.toArray } } :=
   I1.laid (t':=s.toks) (λb o e=>wd _ e) (wx _) (show xy X.prog X.w _ _ _ (.tup ys)from⟨⟨hz,.new⟩,its,r',IsTup.new _ _⟩)
  exact⟨.ref h'.objs.size,_,I2,rfl,q _ (I1.hok.fresh (wx _))⟩
 ·obtain⟨its,r',pl,hz⟩:=I.tuple hq
  exact call_tuple_same pl ⟨.ref p,H,I,rfl,q⟩
def tyV (K:Fg) (T:String) (x:V) (H:Hp):Prop:=match x with
 | .str _=>T = "str"
 | .int _=>T = "int"
 | .ref p=>(T = "list"/\∃xs,SqL K H p xs)\/(T = "tuple"/\∃o,K.lookup p=some o/\o.cls = .type "tuple"/\o.dict=none) ∨
   (T = "dict"/\((∃kvs,H p=some (.dK kvs))\/∃kvs,H p=some (.dT kvs)))\/(T = "set"/\∃S n,H p=some (.set S n))
 | _=>False
theorem zhX {pins:List (Addr×Obj)}{σ:St}{H:Hp}{s:Shared}{T:String}{x:V}{v:Value}(I:Inv X pins σ H s) (r:xr x v) (ty:tyV X.K T x H) :
  s.TypeIs v T/\∀a,v = .ref a->∃ob,s.heap.get? a=some ob/\ob.dict=none:=by
 cases x with
 | str z =>
  obtain⟨t,rfl⟩:=r
  cases(show T = "str" from ty)
  exact⟨typeIs_str s z t,λ_ e=>nomatch e⟩
 | int i =>
  obtain⟨t,rfl⟩:=r
  cases(show T = "int" from ty)
  exact⟨typeIs_int s i t,λ_ e=>nomatch e⟩
 | ref p =>
  cases r
  rcases ty with⟨rfl,xs,hq⟩ | ⟨rfl,o,hk,hc,hd⟩ | ⟨rfl,hk⟩ | ⟨rfl,S,n,hk⟩
  ·obtain⟨its,_,pl,_⟩:=I.list hq
   refine⟨pl.isList.typeIs,λa e=>?_⟩
   cases e
   obtain⟨o,n,e,c,hd,_⟩:=pl
   exact⟨o,e,hd⟩
  ·refine⟨⟨o,I.kIn p o hk,hc⟩,λa e=>?_⟩
   cases e
   exact⟨o,I.kIn _ o hk,hd⟩
  ·have z:∃o,s.heap.get? p=some o/\o.ExactDict:=by
    rcases hk with⟨kvs,hk⟩ | ⟨kvs,hk⟩
    ·obtain⟨_,_,_,_,o,_,_,e,ex,_⟩:=I.hok p _ hk
     exact⟨o,e,ex⟩
    ·obtain⟨_,_,_,_,o,_,_,e,ex,_⟩:=I.hok p _ hk
     exact⟨o,e,ex⟩
   obtain⟨o,e,ex⟩:=z
   refine⟨⟨o,e,ex.1⟩,λa e2=>?_⟩
   cases e2
   exact⟨o,e,ex.2.1⟩
  ·obtain⟨o,_,_,_,e,ex,_⟩:=I.hok p _ hk
   refine⟨⟨o,e,ex.1⟩,λa e2=>?_⟩
   cases e2
   exact⟨o,e,ex.2.1⟩
 | _=>exact False.elim ty
def tBM (K:Fg) (T:String) (r:V->List V->Hp->VK->Prop) (to:TE) (t:TA):TE:=λσ H Q=>to σ H λx H1=>tyV K T x H1/\t σ H1 λxs H2=>r x xs H2 Q
variable {o e:Expr}{es:List Expr}{to:TE}{t:TA}{name:Str}{apos cpos:Pos}{T id:String}{r:V->List V->Hp->VK->Prop}
theorem ZG (pa:PlainAttrs T) (slot:Slot T name id) (hty:typeOf (.builtin id)=pure (.type "method_descriptor")) (hm:MtR X id r) (ho:PE X o to) (ha:PA X (e::es) t)
  (hbase:attributeBase o name X.env (eval o X.env)=eval o X.env:=by rfl)
  (hfew:((backTo cpos (starEach (e::es) X.env)).all (λx=>!x.1)&&(backToKw cpos (keywordEach [] X.env)).all (λx=>x.1.isSome)
   && decide ((e::es).length+([]:List Keyword).length+(if([]:List Keyword).isEmpty then 0 else 1)<30))=true:=by rfl)
  (hline:(apos.endLine == cpos.line)=true:=by rfl) (hs:starEach (e::es) X.env=(false,eval e X.env)::starEach es X.env:=by rfl) (hplain:(backTo cpos (starEach es X.env)).any (·.1)=false:=by rfl) :
  PE X (.Call (.Attribute o name apos) (e::es) [] cpos) (tBM X.K T r to t):=by
 intro pins s σ H Q I h
 refine wpAny_Call_method_late hbase hfew hline rfl (thn (ho pins s σ H _ I h) λv s1 ⟨x,H1,I1,r1,ty,q1⟩=>?_)
 obtain⟨h1,h2⟩:=zhX I1 r1 ty
 refine⟨T,id,pa,slot,hty,h1,h2,?_⟩
 have hA:=ha cpos pins s1 σ H1 _ I1 q1
 rw[hs]at hA ⊢
 refine Calls.callWith_builtin (by show (false || (backTo cpos (starEach es X.env)).any (·.1))=false;rw[hplain] <;> rfl) (Calls.evalArgs_plain ?_)
 exact thn hA λus s2 ⟨vs,H2,I2,r2,q2⟩=>hm pins s2 σ H2 x vs v us Q I2 r1 r2 q2
end
def MtM (X:Cx) (id:String) (r:V->List V->Hp->VK->Prop):Prop :=
 ∀(pins:List (Addr×Obj)) (s:Shared) (σ:St) (H:Hp) (x:V) (xs:List V) (v:Value) (us:List Value) (Q:VK),Inv X pins σ H s->xr x v->xb xs us->r x xs H Q →
  wpAny (model X.prog X.w) X.A (call (.builtin id) (v::us)) (EP X pins σ Q) X.xe s
theorem xb.one:∀{x:V}{us:List Value},xb [x] us->∃u,us=[u]/\xr x u
 | _,_,.cons r .nil=>⟨_,rfl,r⟩
theorem xb.two:∀{x y:V}{us:List Value},xb [x,y] us->∃u v,us=[u,v]/\xr x u/\xr y v
 | _,_,_,.cons r (.cons q .nil)=>⟨_,_,rfl,r,q⟩
theorem xb.rep {xs:List V}{us:List Value}(h:xb xs us):∀k:Nat,xb (List.replicate k xs).flatten (List.replicate k us).flatten
 | 0=>.nil
 | k+1=>by
  rw[yH,yH,uD,uD]
  exact xb.append h (xb.rep h k)
theorem QJ (its:List Value):∀(k:Nat) (acc:List Value),
  List.foldl (λx1 x2=>x1++x2) acc.toArray (List.replicate k its.toArray)=(acc++(List.replicate k its).flatten).toArray
 | 0,acc=>by simp
 | k+1,acc=>by
  have e:acc.toArray++its.toArray=(acc++its).toArray:=by simp
  have e2:(acc++its)++(List.replicate k its).flatten=acc++(List.replicate (k+1) its).flatten:=by
   rw[yH,uD,wU]
  rw[<-e2,<-QJ its k (acc++its),<-e,yH,List.foldl_cons]
section
variable {X:Cx}{pins:List (Addr×Obj)}{σ:St}{H:Hp}{s:Shared}{l b:Addr}{xs ys zs:List V}
theorem Inv.lset {its its':List Value}{n:Nat}{f:Array Value->Array Value}{t':Nat}(I:Inv X pins σ H s) (hH:H l=some (.lst xs))
  (e:s.heap.get? l=some { cls:=.type "list",data:=.seq its.toArray n }) (hf:f its.toArray=its'.toArray) (hv:xb ys its') (hz:ys.length<=sizeLine) :
  Inv X pins σ (upd H l (.lst ys)) { s with heap:=s.heap.update l (Obj.mapSeq f),toks:=t' }:=by
 have q:=PySem.IsL.update e f
 rw[hf]at q
 refine I.write (x:=l) (e:=l) (by rw[hH];exact trivial) (.inl rfl) (λb' u hb hu=>(yo s.heap (Obj.mapSeq f) (Ne.symm hb)).trans hu) ⟨_,q⟩ ?_
 exact⟨hz,its',_,hv,q⟩
theorem Inv.lnew {its:List Value}{t':Nat}(I:Inv X pins σ H s) (hv:xb ys its) (hz:ys.length<=sizeLine) :
  Inv X pins σ (upd H s.heap.objs.size (.lst ys)) { s with heap:=s.heap.push { cls:=.type "list",data:=.seq its.toArray },toks:=t' } :=
 I.laid (λ_ _ q=>wd _ q) (wx _) ⟨hz,its,0,hv,wB _ rfl⟩
theorem Inv.fresh (I:Inv X pins σ H s):H s.heap.objs.size=none:=I.hok.fresh (wx _)
theorem Inv.lstM (I:Inv X pins σ H s) (hH:H l=some (.lst xs)):xs.length<=sizeLine/\∃(its:List Value) (n:Nat),xb xs its/\xs.length=its.length/\s.heap.get? l=some { cls:=.type "list",data:=.seq its.toArray n }:=by
 obtain⟨z,its,n,r,e⟩:=I.hok l _ hH
 exact⟨z,its,n,r,r.length,e⟩
theorem Qc {n:Nat}(h:n<=sizeLine):Builtin.List.listTooLong n=false:=by
 unfold Builtin.List.listTooLong
 exact wI (by omega)
end
section
variable {X:Cx}
def zeW:V->List V->Hp->VK->Prop:=λx vs H Q=>∃l xs y,x = .ref l/\vs=[y]/\H l=some (.lst xs)/\xs.length<sizeLine/\Q .non (upd H l (.lst (xs++[y])))
theorem qK:MtM X "list.append" zeW:=by
 intro pins s σ H x vs v us Q I rx rv h
 obtain⟨l,xs,y,rfl,rfl,hH,hz,q⟩:=h
 cases rx
 obtain⟨u,rfl,ru⟩:=rv.one
 obtain⟨z,its,n,r,hl,e⟩:=I.lstM hH
 refine call_meets F.slot_list_append ⟨_,e,rfl⟩ F.entry_list_append (F.args_list_append_2 _ _) (PySem.list_append l its.toArray n u (by rw[wz];omega)) ⟨e,?_⟩
 refine⟨.non,_,I.lset (its':=its++[u]) hH e (by simp) (r.append (.cons ru .nil)) ?_,rfl,q⟩
 rw[wE,Wd]
 omega
inductive zfT (x:V) (y:V) (H:Hp) (Q:VK):Prop
 | mk:∀l b xs zs,(x = .ref l)->(y = .ref b)->(H l=some (.lst xs))->(H b=some (.lst zs))->(xs.length+zs.length<=sizeLine)->(∀p,H p=none->Q (.ref p) (upd H p (.lst (xs++zs))))->zfT x y H Q
def rCat:R2:=λx y H Q=>zfT x y H Q
theorem Qd:OpR X (binaryOp .Add) rCat:=by
 intro pins s σ H x y v u Q I rx ry h
 obtain⟨l,b,xs,zs,rfl,rfl,hH,hB,hz,q⟩:=h
 cases rx
 cases ry
 obtain⟨z,its,n,r,hl,e⟩:=I.lstM hH
 obtain⟨z2,its2,n2,r2,hl2,e2⟩:=I.lstM hB
 refine PySem.P.add_list e e2 ?_ (by rw[wz,wz];omega)
 have ea:its.toArray++its2.toArray=(its++its2).toArray:=by simp
 rw[ea]
 exact⟨.ref _,_,I.lnew (t':=s.toks) (r.append r2) (by rw[wE];omega),rfl,q _ I.fresh⟩
inductive zfY (x:V) (y:V) (H:Hp) (Q:VK):Prop
 | mk:∀l k xs,(x = .ref l)->(y = .int k)->(H l=some (.lst xs))->(-(2^63)<=k)->(k<2^63)->(xs.length*k.toNat<=sizeLine)->(∀p,H p=none->Q (.ref p) (upd H p (.lst (List.replicate k.toNat xs).flatten)))->zfY x y H Q
def rRep:R2:=λx y H Q=>zfY x y H Q
theorem zeq {α:Type}(xs:List α) (k:Nat):(List.replicate k xs).flatten.length=k*xs.length:=by
 induction k with
 | zero=>simp
 | succ k ih=>rw[yH,uD,wE,ih,Nat.succ_mul,WW]
theorem zc5:OpR X (binaryOp .Mult) rRep:=by
 intro pins s σ H x y v u Q I rx ry h
 obtain⟨l,k,xs,rfl,rfl,hH,h1,h2,hz,q⟩:=h
 cases rx
 obtain⟨t,rfl⟩:=ry
 obtain⟨z,its,n,r,hl,e⟩:=I.lstM hH
 have hlen:its.toArray.size*k.toNat<=sizeLine:=by rw[wz,<-hl];exact hz
 have hcap:¬its.toArray.size*k.toNat>(2^63 - 1)/8:=by
  have:(sizeLine:Nat)<=(2^63 - 1)/8:=by decide
  omega
 have hfit:¬(!Builtin.List.listFitsIndex k)=true:=by
  rw[fitsIndex_both h1 h2]
  exact wL
 have hlong:¬Builtin.List.listTooLong (its.toArray.size*k.toNat)=true:=by
  rw[Qc hlen]
  exact wL
 have hnew:List.foldl (λx1 x2=>x1++x2) #[] (List.replicate (if its.toArray.isEmpty=true then 0 else k.toNat) its.toArray)=(List.replicate k.toNat its).flatten.toArray:=by
  have f0:∀m:Nat,List.foldl (λx1 x2=>x1++x2) #[] (List.replicate m its.toArray)=(List.replicate m its).flatten.toArray:=λm=>by
   have:=QJ its m []
   rw[uy]at this
   exact this
  rw[f0]
  cases its with
  | nil=>simp
  | cons a r'=>rw[if_neg (by simp)]
 refine wpAny_binaryOp_repeat_ref (T:="list") (U:="int") (by decide) ⟨_,e,rfl⟩ (λs'=>typeIs_int s' k t) noFill_list_mul F.fills_int_mul F.slot_int_rmul repeat_list F.slot_int_index.lookup
  (call_meets F.slot_int_rmul (typeIs_int s k t) F.entry_int_rmul (F.args_int_rmul_2 _ _) (int___rmul___int_list k t l its.toArray n)
   ⟨e,rfl,⟨_,e,rfl⟩,call_meets F.slot_list_mul ⟨_,e,rfl⟩ F.entry_list_mul (F.args_list_mul_2 _ _) (AutoListH.list___mul___list_int_3 l its.toArray n k t hfit hcap hlong) ⟨e,?_⟩⟩)
 rw[hnew]
 exact⟨.ref _,_,I.lnew (t':=s.toks) (r.rep k.toNat) (by rw[zeq,Nat.mul_comm];exact hz),rfl,q _ I.fresh⟩
end
section
variable {prog:Program}{w:World}{A:Around}{E:Value->Shared->Prop}{s:Shared}
theorem zb8 (its its2:List Value) (a c:Nat):its.toArray.extract 0 a++its2.toArray++its.toArray.extract c its.toArray.size=(its.take a++its2++its.drop c).toArray:=by
 apply Array.toList_inj.mp
 first
  | (simp
     exact wM (by simp))
  | simp[wM]
  | simp
theorem JD {a c n:Nat}(hac:a<=c) (hc:c<=n):sliceBounds (some (a:Int)) (some (c:Int)) none n=((a:Int),(c:Int),1):=by
 simp only[sliceBounds,WR]
 have h1:¬((a:Int)<0):=by omega
 have h2:¬((c:Int)<0):=by omega
 simp only[h1,h2,if_false,show (1:Int)>0 by decide,if_true]
 congr 1
 ·omega
 ·congr 1;omega
set_option maxRecDepth 100000 in
theorem Qu {l b sl:Addr}{items new:Array Value}{n n2:Nat}{vl vu:Value}{a c:Nat}{Q:Unit->Shared->Prop}
  (e:s.heap.get? l=some { cls:=.type "list",data:=.seq items n }) (e2:s.heap.get? b=some { cls:=.type "list",data:=.seq new n2 }) (hne:l≠b)
  (hs:s.heap.IsSliceOf sl vl vu .none) (pl:IsPart vl (some (a:Int))) (pu:IsPart vu (some (c:Int))) (hac:a<=c) (hc:c<=items.size)
  (hsz:items.size+new.size<=sizeLine) (h:Q () { s with heap:=s.heap.update l (Obj.mapSeq λxs=>xs.extract 0 a++new++xs.extract c xs.size) }) :
  wpAny (model prog w) A (setItem (.ref l) (.ref sl) (.ref b)) Q E s:=by
 have hl:s.heap.IsList l items:=PySem.IsL.isList e
 have hb:s.heap.IsList b new:=PySem.IsL.isList e2
 obtain⟨os,hos,hcs,hds⟩:=id hs
 have hTs:s.TypeIs (.ref sl) "slice":=⟨os,hos,hcs⟩
 have hstep:¬((rawPart none == rawInt 0)=true):=wL
 have hsame:Builtin.List.listSameRef (.ref l) (.ref b)=false:=by
  unfold Builtin.List.listSameRef
  exact beq_eq_false_iff_ne.mpr hne
 have hmax:(max (a:Int) (c:Int)).toNat=c:=by omega
 have hz':((λxs:Array Value=>xs.extract 0 a++new++xs.extract c xs.size) items).size<=sizeLine+1:=by
  simp only[Array.size_append,Array.size_extract]
  omega
 unfold setItem
 try with_reducible refine yh ?_
 first | refine wc (wo ?_) | skip
 refine wc (WL hl.typeIs (by decide) ?_)
 refine wc (wpAny_callSpecial?_slot (name:=Str.ofString "__setitem__") hl.typeIs slot_list_setitem
  (yG slot_list_setitem hl.typeIs entry_list_setitem ?_ (args_list_setitem _ _ _)))
 show wpAny _ _ (Builtin.List.listSubscript? (.ref sl) >>= _) _ _ s
 refine wc ?_
 unfold Builtin.List.listSubscript?
 refine wc (W5 hTs slice_no_index ?_)
 simp only[Option.isNone_none,if_true]
 refine wo ?_
 show wpAny _ _ (typeOf (.ref sl) >>= _) _ _ s
 refine wc (Wf hTs ?_)
 first
  | rw[if_neg (by decide)]
  | refine PySem.W.KFB.if_not (by decide) ?_
 rw[listSliceParts_eq]
 refine wc (wc (wZ hos hds (x:=.none) rfl (wc (W8 .none ?_))))
 rw[if_neg hstep]
 refine wc (wZ hos hds (x:=vl) rfl (wc (W8 pl ?_)))
 refine wc (wZ hos hds (x:=vu) rfl (wc (W8 pu (wo ?_))))
 first
  | simp only[hsame,yY,if_false]
  | refine PySem.W.KFB.if_not hsame ?_
  | (dsimp only
     rw[if_neg (by rw[hsame];exact wL)])
 refine wc (m:=Builtin.List.listAllItems (.ref b) "must assign iterable to extended slice") ?_
 unfold Builtin.List.listAllItems
 refine wc (Wf hb.typeIs ?_)
 first
  | refine PySem.W.KFB.if_so (by decide) ?_
  | rw[if_pos (by decide)]
  | simp only[beq_self_eq_true,Bool.true_or,if_true]
 unfold Builtin.List.listItems
 refine wc (yy e2 rfl (wo ?_))
 refine wc (wc (yy e rfl (wo ?_)))
 refine wc (wpAny_of_eq ((sliceIndices_raw (some (a:Int)) (some (c:Int)) none items.size (by simp)).trans (congrArg (pure:Int×Int×Int->Sem (Int×Int×Int)) (JD hac hc))) ?_)
 show wpAny _ _ (if((1:Int) == 1)=true then _ else _) _ _ s
 rw[if_pos (by decide)]
 refine wc (uF ?_)
 first
  | simp only[Qc hsz,yY,if_false]
  | refine PySem.W.KFB.if_not (Qc hsz) ?_
 first | refine wc (wo ?_) | skip
 show wpAny _ _ (updateSeq l (λxs=>xs.extract 0 ((a:Int)).toNat++new++xs.extract (max (a:Int) (c:Int)).toNat xs.size) >>= _) _ _ s
 rw[hmax,yq]
 refine wc (wpAny_updateSeq (hz:=wS (yN _ _) hsz) (_hz':=hz') e rfl ?_)
 refine wc (WP ?_)
 first
  | exact wc (wo (wo ⟨.none,rfl,wo h⟩))
  | exact wo ⟨.none,rfl,wo h⟩
end
section
variable {X:Cx}
theorem zbY {pins:List (Addr×Obj)}{s:Shared}{σ:St}{H:Hp}{l b sl:Addr}{xs ys:List V}{a c:Int}{vl vu:Value}{Q:Unit->Shared->Prop}(I:Inv X pins σ H s)
  (hH:H l=some (.lst xs)) (hB:H b=some (.lst ys)) (hne:l≠b) (hs:s.heap.IsSliceOf sl vl vu .none) (ra:xr (.int a) vl) (rc:xr (.int c) vu) (h0:0<=a) (hac:a<=c) (hc:c<=xs.length)
  (hz:xs.length+ys.length<=sizeLine) (h:∀s',Inv X pins σ (upd H l (.lst (xs.take a.toNat++ys++xs.drop c.toNat))) s'->Q () s') :
  wpAny (model X.prog X.w) X.A (setItem (.ref l) (.ref sl) (.ref b)) Q X.xe s:=by
 obtain⟨ta,rfl⟩:=ra
 obtain⟨tc,rfl⟩:=rc
 obtain⟨z,its,n,r,hl,e⟩:=I.lstM hH
 obtain⟨z2,its2,n2,r2,hl2,e2⟩:=I.lstM hB
 obtain⟨a',rfl⟩:=uf h0
 obtain⟨c',rfl⟩:=uf (Int.le_trans h0 hac)
 simp only[yq]at h
 refine Qu (a:=a') (c:=c') e e2 hne hs (.int _ _) (.int _ _) (by omega) (by rw[wz];omega) (by rw[wz,wz];omega) (h _ ?_)
 refine I.lset (its':=its.take a'++its2++its.drop c') (t':=s.toks) hH e ?_ (xb.append (xb.append (r.take _) r2) (r.drop _)) ?_
 ·exact zb8 its its2 a' c'
 ·rw[wE,wE,w5,wW]
  omega
end
end L2
namespace Att
open PySem PySem.W PySem.Calls PyProof.Rows
theorem Xv {P:Params}{h:Heap}:∀(ns:List Int) (vs:List Value),WellAll P h vs (ns.map WData.int)->IntsAre vs ns:=by
 intro ns
 induction ns with
 | nil =>
  intro vs w
  rw[uw]at w
  cases w
  exact .nil
 | cons n ns ih =>
  intro vs w
  rw[ye]at w
  cases w with
  | cons a b =>
   cases a
   exact .cons _ _ (ih _ b)
theorem zbX {l:OpenLaw}{n:Nat}(hn:l.most=some n){P:Params}{h:Heap}{args:List WData}{vals:List Value}
  (hpre:l.row.toRowW.claim.pre args=true) (hwl:WellAll P h vals args) :
  ∃a vs ns,vals=[Value.ref a]/\args=[WData.list (ns.map WData.int)]/\h.get? a=some { cls:=.type "list",data:=.seq vs.toArray }/\IntsAre vs ns/\ns.length<=n:=by
 have hsh:WShape.hasAll [] args [.list .int]=true:=(pre_splitW hpre).1
 have hc:l.pre.holds [] { args:=args } = true:=(pre_splitW hpre).2
 obtain⟨d,r,rfl,h1,h2⟩:=hasAllW_cons hsh
 obtain rfl:=hasAllW_nil h2
 obtain⟨xs,rfl,h3⟩:=hasW_list h1
 obtain⟨ns,rfl⟩:=items_int h3
 have hlen:ns.length<=n:=by
  unfold OpenLaw.pre at hc
  have h4:(WTm.not (.lt (.lit (.int (n:Int))) (.len (.arg 0)))).holds [] { args:=[.list (ns.map .int)] } = true:=by
   have h4:=(holds_andW hc).1
   rw[hn]at h4
   exact h4
  have h5:=condW_of h4 (w_not (w_lt w_lit (w_len_list (w_arg rfl))))
  rw[we]at h5
  refine Nat.le_of_not_lt λq=>?_
  have q':(n:Int)<((ns.length:Nat):Int):=by omega
  first
   | (rw[wq q']at h5;exact absurd h5 (by decide))
   | (simp at h5;omega)
 cases hwl with
 | cons w1 w2 =>
  cases w2
  cases w1 with
  | list ho hall=>exact⟨_,_,ns,rfl,rfl,ho,Xv ns _ hall,hlen⟩
theorem zbR (l:OpenLaw) (args:List WData):l.row.toRowW.claim.post args (.bool true) args=true :=
 postW_of (r:=l.row.toRowW) (X:=(true == true))
  (show WShape.has [] (.bool true) .bool=true by first | rfl | decide | simp[WShape.has,WShape.arms,WShape.armsAll])
  (show (WTm.eq .res (.lit (.bool true))).value [] { args:=args,res:=some (.bool true),after:=args } = some (.bool (true == true))from w_eq_bool (w_res rfl) w_lit) rfl
theorem attach_call {l:OpenLaw}{n:Nat}{q:Program}{loose:List Str}{XP:(Str->Option Value)->Heap->Prop}{YP:World->Heap->Prop}{d:DefRec}
  (hn:l.most=some n) (hdf:d.params.defaults=[])
  (call:∀(w:World) (s₀ s₁:Shared) (mg mb:Str->Option Value) (fa:Addr) (o:Obj) (pm cd doc:Value) (a:Addr) (vs:List Value) (ns:List Int),
   Ground q loose [] XP w s₀ mg mb s₁.heap->YP w s₁.heap →
   s₁.heap.get? fa=some o->o.data = .func (docDef d.name d.params d.body d.scope pm cd doc)->s₁.heap.CodeRec cd d.name->mg d.name=some (.ref fa) →
   s₁.heap.get? a=some { cls:=.type "list",data:=.seq vs.toArray }->IntsAre vs ns->ns.length<=n->s₁.gens = #[] →
   codeAny (model l.prog w) callerA (.call (.ref fa) ⟨[.ref a],[]⟩) (λr s'=>r = .ok (.ret (.bool true))/\OldK s₁.heap s'.heap/\s'.os=s₁.os/\AllBare s'.gens) s₁) :
  WalkO q loose XP YP l.row.toRowW d [] (λf vs=>PySem.call f vs):=by
 intro w s₀ s₁ mg mb G Y fa o pm cd doc dV kV ho hd hcd hD hmg hg args vals as hpre hlay hrd hwl hlo
 obtain rfl:dV = .none:=Dflts.none hD hdf
 obtain rfl:kV = .none:=Dflts.noKw hD
 obtain⟨a,vs,ns,rfl,rfl,hobj,hints,hlen⟩:=zbX hn hpre hwl
 refine enter_call (codeAny_mono (call w s₀ s₁ mg mb fa o pm cd doc a vs ns G Y ho (fd_plain hd) hcd hmg hobj hints hlen hg) λr s' hq=>?_)
 obtain⟨rfl,h2,h3,h4⟩:=hq
 exact⟨.inl ⟨.bool true,.bool true,[],rfl,λ_=>rfl,.bool true,zbR l _,λ_=>⟨List.Pairwise.nil,λ_ hm=>(nomatch hm)⟩⟩,h2,h3,h4⟩
end Att
namespace L2
open PySem PySem.Spec PyProof.Rows
theorem QW:∀{vs:List Value}{ns:List Int},IntsAre vs ns->xb (ns.map V.int) vs
 | _,_,.nil=>.nil
 | _,_,.cons n t h=>.cons ⟨t,rfl⟩ (QW h)
def Vd (s:Stmt) (j:Nat):Stmt:=match s with
 | .ClassDef _ _ _ body _ _ _ _ _ _ _=>body.getD j (.Pass ⟨0,0,0,0⟩)
 | _=>.Pass ⟨0,0,0,0⟩
def qd (s:Stmt):Arguments:=match s with
 | .FunctionDef _ a _ _ _ _ _ _ _ _=>a
 | _=>{ posonlyargs:=[],args:=[],vararg:=none,kwonlyargs:=[],kw_defaults:=[],kwarg:=none,defaults:=[] }
def xC (s:Stmt):List Stmt:=match s with
 | .FunctionDef _ _ b _ _ _ _ _ _ _=>b
 | _=>[]
def zr (s:Stmt):Scope:=match s with
 | .FunctionDef _ _ _ _ _ _ sc _ _ _=>sc
 | _=>{ kind:=.function,names:=[],isGenerator:=false,isCoroutine:=false }
abbrev CX0:CXT:=λ_ _ _ _ _ _=>False
abbrev E0:XK:=λ_ _ _=>False
theorem zc8 {X:Cx}:XL CX0 X E0:=λ_ _ _ _ _ _ _ h=>h.elim
structure Fun (K:Fg) (x qual:Str) (st:Stmt) (f:Addr) (fd:FuncData):Prop where
 ex:∃(oc:Value) (od:Option Addr) (kV doc pm:Value) (an:Option Addr) (cdv ct:Value) (osl:Array (Option Value)),
  fd=PySem.W.fnOf x qual (qd st) (xC st) (zr st) .none kV doc pm an cdv ct/\K.lookup f=some ⟨oc,od,.func fd,osl⟩/\PySem.W.codeIn K cdv qual=true
 kp:PySem.W.keepIn K (.ref f)=true
section
variable {P:Program}{w:World}{K:Fg}{mg:Str->Option Value}{base:Heap}
theorem Fun.ok {x qual:Str}{st:Stmt}{f:Addr}{fd:FuncData}{N ps:List Str}{k:Nat}{sp:Sp}(F:Fun K x qual st f fd) (S:zF N ps (zr st)) (len:∀vs H Q E,sp vs H Q E->vs.length=ps.length)
  (hbody:∀(cdv:Value) (A:Around) (outer:List Env) (s:Shared) (H:Hp) (vs:List V) (Q:VK) (E:XK),xn k (A.deeper (envOfC qual (zr st) s.heap.objs.size f cdv))->sp vs H Q E →
   ∃t,PSs (jh CX0 P w K mg base N qual (zr st) f cdv A outer s H E).nox (xC st) t/\t { nx:=λ_ H'=>Q .non H',rt:=Q } (vq N vs) H):vP P w K mg base CX0 (k+1) f fd ps sp:=by
 obtain⟨oc,od,kV,doc,pm,an,cdv,ct,osl,rfl,lk,hcd⟩:=F.ex
 refine zav lk hcd S len λA outer s H vs Q E hr hsp=>?_
 obtain⟨t,h,q⟩:=hbody cdv A outer s H vs Q E hr hsp
 exact⟨t,h.nox,q⟩
theorem Fun.binds {x qual:Str}{st:Stmt}{f:Addr}{fd:FuncData}{ps:List Str}(F:Fun K x qual st f fd)
  (h:∀(kV doc pm:Value) (an:Option Addr) (cdv ct:Value) (us:List Value),us.length=ps.length->bindArgs (PySem.W.fnOf x qual (qd st) (xC st) (zr st) .none kV doc pm an cdv ct) ⟨us,[]⟩=pure (ps.zip us)):vn K fd ps []:=by
 obtain⟨oc,od,kV,doc,pm,an,cdv,ct,osl,rfl,lk,hcd⟩:=F.ex
 exact .all (h kV doc pm an cdv ct)
theorem Vb {x qual:Str}{st:Stmt}{f:Addr}{oc:Value}{od an:Option Addr}{osl:Array (Option Value)}{kV doc pm cdv ct:Value}(l:K.lookup f=some ⟨oc,od,.func (PySem.W.fnOf x qual (qd st) (xC st) (zr st) .none kV doc pm an cdv ct),osl⟩)
  (c:PySem.W.codeIn K cdv qual=true) (k:PySem.W.keepIn K (.ref f)=true):Fun K x qual st f (PySem.W.fnOf x qual (qd st) (xC st) (zr st) .none kV doc pm an cdv ct):=⟨⟨oc,od,kV,doc,pm,an,cdv,ct,osl,rfl,l,c⟩,k⟩
end
theorem xk {n:Nat}(h:n<=1000):n<sizeLine:=uU h (by decide)
section
variable {X:Cx}
theorem pv (i:Nat){x:Str}{pos:Pos}(hN:X.N[i]? = some x:=by rfl) (hv:Vis X.env.scope x:=by first | exact Or.inl rfl | exact Or.inr (Or.inl rfl) | exact Or.inr (Or.inr rfl)) (hd:(x == ("__debug__":Str))=false:=by decide)
  (hcd:(x == ("__classdict__":Str))=false:=by decide):PE X (.Name x pos) (xG i):=zha hN hv hd hcd
end
theorem xo {A B:Prop}(h:B):if false=true then A else B:=by
 rw[if_neg wL]
 exact h
theorem xw {A B:Prop}(h:A):if true=true then A else B:=by
 rw[if_pos rfl]
 exact h
theorem qr {c A B:Prop} [Decidable c] (h1:c->A) (h2:¬c->B):if c then A else B:=by
 by_cases h:c
 ·rw[if_pos h]
  exact h1 h
 ·rw[if_neg h]
  exact h2 h
def zi (H H':Hp):Prop:=∀b o,H b=some o->H' b=some o
theorem zi.refl (H:Hp):zi H H:=λ_ _ h=>h
theorem zi.trans {H H1 H2:Hp}(a:zi H H1) (b:zi H1 H2):zi H H2:=λc o h=>b c o (a c o h)
theorem zi.free {H H':Hp}(e:zi H H'){l:Addr}(h:H' l=Option.none):H l=Option.none:=by
 cases q:H l with
 | none=>rfl
 | some o =>
  rw[e l o q]at h
  cases h
theorem zi.seq {K:Fg}{H H':Hp}{a:Addr}{xs:List V}(e:zi H H') (h:SqL K H a xs):SqL K H' a xs:=by
 rcases h with(h | ⟨o,h⟩) | h
 ·exact .inl (.inl (e _ _ h))
 ·exact .inl (.inr ⟨o,e _ _ h⟩)
 ·exact .inr h
section
variable {prog:Program}{w:World}{A:Around}{R:Result->Shared->Prop}{s:Shared}
theorem ZA {elt target iter:Expr}{ifs:List Expr}{scope:Scope}{pos:Pos}{it acc:Value}{env:Env}(I:Nat->Shared->Prop)
  (turn:∀n s,I n s->wpAny (model prog w) A (pyNext it) (λr s₁=>match r with
   | none=>R (.ok .next) s₁
   | some v=>wpAny (model prog w) A (letOwnedTupleGo target it v) (λ_ s₀=>wpAny (model prog w) A (assign target env v) (λ_ s₂ =>
     wpAny (model prog w) A (forIn ifs true λc r=>if r=true then do let ok <-isTrue c env (eval c env);pure (ForInStep.yield ok)else pure (ForInStep.yield r)) (λok s₃ =>
      if ok=true then wpAny (model prog w) A (eval elt env) (λx s₄ =>
       wpAny (model prog w) A (call (.builtin "list.append") [acc,x]) (λ_ s₅=>∃m,m<n/\I m s₅) (λ_ _=>False) s₄) (λ_ _=>False) s₃
      else ∃m,m<n/\I m s₃) (λ_ _=>False) s₂) (λ_ _=>False) s₀) (λ_ _=>False) s₁) (λ_ _=>False) s)
  (n:Nat) (h:I n s) :
  codeAny (model prog w) A (.compLoop (.ListComp elt [⟨target,iter,ifs,0⟩] scope pos) 0 it acc env) R s:=by
 refine codeAny_loop rfl I (λn s hI=>?_) n h
 show wpAny _ A ((compTurn (.ListComp elt [⟨target,iter,ifs,0⟩] scope pos) 0 it acc env).onRaise (λx=>do noteFrame x env;theTreesLotGoes x)) _ _ s
 refine wpAny_noted ?_
 rw[compTurn_list]
 have no:∀{X:Prop},∀(e:Value) (s':Shared),(λ_ _=>False:Value->Shared->Prop) e s'->X:=λ_ _ z=>False.elim z
 refine wc (ul (wc (yu (turn n s hI) (λr s₁ h₁=>?_) λe s'=>no e s')))
 cases r with
 | none=>exact wo h₁
 | some v =>
  refine wc (yu h₁ (λ_ s₀ h₀=>?_) λe s'=>no e s')
  refine wc (yu h₀ (λ_ s₂ h₂=>wc (yu h₂ (λok s₃ h₃=>?_) λe s'=>no e s')) λe s'=>no e s')
  cases ok with
  | false=>exact wo ⟨rfl,h₃⟩
  | true =>
   exact wc (wc (yu h₃ (λx s₄ h₄=>wc (yu h₄ (λ_ s₅ h₅=>wo (wo ⟨rfl,h₅⟩)) λe s'=>no e s')) λe s'=>no e s'))
end
def qX (X:Cx) (NB:List Str) (scope:Scope) (s3:Shared) (H3:Hp) (fp:List Addr):Cx :=
 { X with N:=NB,s₀:=s3,H₀:=H3,env:=compEnv scope s3.heap.objs.size X.env,outer:=X.stack,stack:=X.stack,ex:=fp,fn:=λ_=>true,pn:=[],xe:=λ_ _=>False }
def PTs (X:Cx) (ifs:List Expr) (t:TT):Prop :=
 ∀(pins:List (Addr×Obj)) (s:Shared) (σ:St) (H:Hp) (Q:Bool->Hp->Prop),Inv X pins σ H s->t σ H Q →
  wpAny (model X.prog X.w) X.A (forIn ifs true λc r=>if r=true then do let ok <-isTrue c X.env (eval c X.env);pure (ForInStep.yield ok)else pure (ForInStep.yield r)) (TP X pins σ Q) X.xe s
theorem xI {X:Cx}:PTs X [] (λ_ H Q=>Q true H):=λ_ _ _ H _ I h=>wpAny_tests_nil ⟨H,I,h⟩
theorem Vj {X:Cx}{c:Expr}{t:TT}(h:PT X c t):PTs X [c] t:=λpins s σ H Q I q=>wpAny_tests_one (h pins s σ H Q I q)
def za9 (n:Nat) (wi:TI) (g:TG) (tt:TT) (te:TE):TE:=λσ H Q=>wi σ H λJ H1=>∀D,H1 D=none->∃W:Nat->Nat->Hp->List V->Prop,(∃m,W 0 m (upd H1 D (.lst [])) []) ∧
 ∀i m H2 ys,W i m H2 ys->H2 D=some (.lst ys)->(J.stop i H2/\Q (.ref D) H2) ∨
  (J.go i H2/\∀σB x H3,σB.length=n->J.yld i H2 x H3->g x σB H3 λσ4 H4=>tt σ4 H4 λb H5=>if b=true then te σ4 H5 (λv H6=>H6 D=some (.lst ys)/\ys.length<sizeLine/\∃m',m'<m/\W (i+1) m' (upd H6 D (.lst (ys++[v]))) (ys++[v]))
   else H5 D=some (.lst ys)/\∃m',m'<m/\W (i+1) m' H5 ys)
theorem jj {X:Cx}{elt tg iter:Expr}{ifs:List Expr}{scope:Scope}{pos:Pos}{NB:List Str}{wi:TI}{g:TG}{tt:TT}{te:TE}
  (hc:X.calm=true) (hfree:∀x∈scope.names,x.2≠.free) (hcell:∀x∈scope.names,x.2≠.cell) (hkind:scope.kind = .function) (hnames:∀x∈scope.names,x.2 = .local → scope.names.lookup x.1=some .local)
  (hi:PI X tg iter wi) (hb:∀s3 H3 fp,PG (qX X NB scope s3 H3 fp) tg g/\PTs (qX X NB scope s3 H3 fp) ifs tt/\PE (qX X NB scope s3 H3 fp) elt te)
  (hs:∀x,foldedSetIterable iter X.env x=pure x:=by intro _;rfl) :
  PE X (.ListComp elt [⟨tg,iter,ifs,0⟩] scope pos) (za9 NB.length wi g tt te):=by
 intro pins s σ H Q I h
 refine wpAny_ListComp hfree hkind hnames (thn (hi pins s σ H _ I h) λv s1 h1=>thn h1 λitv s2 h2=>?_) hs
 obtain⟨it,fp,tn,J,H2,e,I2,T,st2,f2,q2⟩:=h2
 subst e
 have hf2:H2 s2.heap.objs.size=none:=I2.hok.fresh (wx _)
 obtain⟨W,⟨m0,w0⟩,turn⟩:=q2 _ hf2
 refine yj (hd:=by size_fits) ?_
 have I3:Inv X pins σ (upd H2 s2.heap.objs.size (.lst [])) { s2 with heap:=s2.heap.push { cls:=.type "list",dict:=none,data:=.seq ([]:List Value).toArray } } :=
  I2.laid (t':=s2.toks) (λb u e=>wd _ e) (wx _) ⟨by decide,[],0,.nil,wB _ rfl⟩
 generalize hD:s2.heap.objs.size=D at *
 generalize hs3:({ s2 with heap:=s2.heap.push { cls:=.type "list",dict:=none,data:=.seq ([]:List Value).toArray } }:Shared)=s3 at *
 generalize hH3:upd H2 D (.lst [])=H3 at *
 have h3D:H3 D=some (.lst []):=by rw[<-hH3];exact zg
 have fpD:∀b∈fp,b≠D:=λb hb=>by
  obtain⟨o,e,_⟩:=T.obj _ _ st2 b hb
  rw[<-hD];exact wO (wA e)
 have k23:∀b u,s2.heap.get? b=some u->s3.heap.get? b=some u:=λb u e=>by rw[<-hs3];exact wd _ e
 have st3:tn 0 s3.heap:=T.keep _ _ _ st2 λb _ o e=>k23 b o e
 have f3:∀b∈fp,XI X pins H3 b:=λb hb=>⟨by rw[<-hH3,zE (fpD b hb)];exact(f2 b hb).1,(f2 b hb).2⟩
 refine wpAny_newFunctionEnv hcell (by intro y hy;simp at hy) (λh4 hns4 hsb4=>?_) hkind
 have k34:∀b u,s3.heap.get? b=some u->h4.get? b=some u:=λb u e=>hsb4.extBut b u (wO (wA e)) (wd _ e)
 have okB:(qX X NB scope s3 H3 fp).Ok:=by
  refine⟨I3.ok.mod,hkind,I3.ok.glob,I3.ok.blt,wx _,λx y c e _=>?_,λx e=>?_,λx c _ e=>?_,I3.ok.hd,I3.ok.frames,.inl rfl,λb hb=>⟨?_,λx c e=>?_⟩,I3.bs,wS I3.ok.bsz I3.sz,λb o e hb=>?_,λb hb z=>?_,I3.stack,I3.stkFree⟩
  ·exact absurd (show ([]:List (Str×Addr)).lookup x=some c from e) (by simp)
  ·have e':scope.names.lookup x=some .cell\/scope.names.lookup x=some .free:=e
   rcases e' with e' | e'
   ·exact absurd rfl (hcell _ (PySem.mem_of_lookup e'))
   ·exact absurd rfl (hfree _ (PySem.mem_of_lookup e'))
  ·exact absurd (show ([]:List (Str×Addr)).lookup x=some c from e) (by simp)
  ·obtain⟨o,e,_⟩:=T.obj _ _ st3 b hb
   exact wO (wA e)
  ·exact absurd (show ([]:List (Str×Addr)).lookup x=some c from e) (by simp)
  ·obtain⟨_,_,_,z,_⟩:=f3 b hb
   rcases z with z | z
   ·exact I3.ok.noex b o e z
   ·exact absurd (wK (wA e) (wS I3.ok.bsz z)) (ue _)
  ·obtain⟨_,z1,z2,_⟩:=f3 b hb
   rcases wy.mp (I3.stkSub b z)with e | e
   ·exact z1 e
   ·exact z2 e
 have IB:Inv (qX X NB scope s3 H3 fp) [] (List.replicate NB.length none) H3 { s3 with heap:=h4,toks:=s3.toks+([]:List (Str×Value)).length }:=by
  refine⟨okB,rfl,I3.bare,Un.kept k34,⟨_,hns4,λi x v _ e _=>?_⟩,λx c e=>?_,I3.hok.fresh (wx _),λx c e=>?_,λp hp=>?_,I3.hok.kept k34,by simp[qX]⟩
  ·rw[uR]at e
   split at e <;> cases e
  ·exact absurd (show ([]:List (Str×Addr)).lookup x=some c from e) (by simp)
  ·exact absurd (show ([]:List (Str×Addr)).lookup x=some c from e) (by simp)
  ·exact absurd (show p∈([]:List (Addr×Obj))from hp) (by simp)
 have st4:tn 0 h4:=T.keep _ _ _ st3 λb _ o e=>k34 b o e
 have C_ne:∀b∈fp,b≠s3.heap.objs.size:=λb hb=>(okB.exf b hb).1
 have stat:∀{H':Hp},(∀b∈fp,H' b=none)->∀b∈fp,XI (qX X NB scope s3 H3 fp) [] H' b:=λhn b hb =>
  ⟨hn b hb,C_ne b hb,okB.exfs b hb,.inl hb,λx c e=>absurd (show ([]:List (Str×Addr)).lookup x=some c from e) (by simp),λp hp=>absurd (show p∈([]:List (Addr×Obj))from hp) (by simp)⟩
 obtain⟨hg,ht,he⟩:=hb s3 H3 fp
 have fin:∀{σ':St}{H':Hp}{s':Shared},Inv (qX X NB scope s3 H3 fp) [] σ' H' s'->Q (.ref D) H' →
   ∃m,s'.heap.Ns s3.heap.objs.size m/\∀h',Heap.SameBut s3.heap.objs.size s'.heap h'->EP X pins σ Q (.ref D) { s' with heap:=h' }:=λ{σ' H' s'} J q=>by
  obtain⟨m,hm,_⟩:=J.loc
  refine⟨m,hm,λh' sb=>⟨.ref D,H',?_,rfl,q⟩⟩
  have neC:∀b o,s3.heap.get? b=some o->b≠s3.heap.objs.size:=λb o e=>wO (wA e)
  have hfr:H' s3.heap.objs.size=none:=J.free
  have up:∀b o,b≠s3.heap.objs.size->s'.heap.get? b=some o->h'.get? b=some o:=λb o hb e=>(sb.2 b hb).trans e
  have hok':HOk X.prog X.w H' h':=λb ob e=>(J.hok b ob e).stay (λc w' hc q=>up c w' (by
   rintro rfl
   rcases hc with rfl | hc
   ·rw[hfr]at e;cases e
   ·rw[hfr]at hc;cases hc) q) (λ_ q=>q) λ_ _ q=>q
  have u:Un (frs X.stack) fp H3 H' s3.heap h' :=
   ⟨λb o e n hb hx=>up b o (neC b o e) (J.base.keep b o e n hb hx),λb o e n hb hx=>by
    obtain⟨sl,e'⟩:=J.base.slot b o e n hb hx
    exact⟨sl,up b _ (neC b o e) e'⟩,J.base.free,λb o e hx=>by
    obtain⟨o',e'⟩:=J.base.there b o e hx
    exact⟨o',up b _ (neC b o e) e'⟩,J.base.tups,J.base.frzs,J.base.tbls⟩
  refine I3.call' (s':={ s' with heap:=h' }) (ch:=fp) J.os u hok' J.bare λb hb=>?_
  obtain⟨z0,z1,z2,z3,z4,z5⟩:=f3 b hb
  exact⟨z3,z1,z4,z5⟩
 have loop:∀s5:Shared,s5 = { s3 with heap:=h4,toks:=s3.toks+([]:List (Str×Value)).length } →
   codeAny (model X.prog X.w) X.A (.compLoop (.ListComp elt [⟨tg,iter,ifs,0⟩] scope pos) 0 (.ref it) (.ref D) (compEnv scope s3.heap.objs.size X.env))
    (λr s'=>∃m,s'.heap.Ns s3.heap.objs.size m/\∀h',Heap.SameBut s3.heap.objs.size s'.heap h' →
     match r with | .ok _=>EP X pins σ Q (.ref D) { s' with heap:=h' } | .error x=>wpAny (model X.prog X.w) X.A (passOn "comprehension.variables-let-go" x (compEnv scope s3.heap.objs.size X.env)) (EP X pins σ Q) X.xe { s' with heap:=h' }) s5:=by
  rintro s5 rfl
  refine ZA (λn s'=>∃i σ' H' ys,Inv (qX X NB scope s3 H3 fp) [] σ' H' s'/\tn i s'.heap/\(∀b∈fp,H' b=none)/\H' D=some (.lst ys)/\W i n H' ys) ?_ m0
   ⟨0,_,H3,[],IB,st4,λb hb=>(f3 b hb).1,h3D,by rw[<-hH3]at *;exact w0⟩
  rintro n s6 ⟨i,σ6,H6,ys,I6,st6,fr6,hD6,w6⟩
  rcases turn i n H6 ys w6 hD6 with⟨stop,qn⟩ | ⟨go,step⟩
  ·refine thn (T.done (qX X NB scope s3 H3 fp) rfl rfl rfl hc i [] s6 σ6 H6 _ I6 (stat fr6) st6 stop) λr s7 ⟨hr,I7⟩=>?_
   subst hr
   exact fin I7 qn
  ·refine thn (T.item (qX X NB scope s3 H3 fp) rfl rfl rfl hc i [] s6 σ6 H6 _ I6 (stat fr6) st6 go) λr s7 ⟨u,hr,h7⟩=>?_
   subst hr
   refine thn h7 λ_ s8 ⟨x,H8,I8,r8,y8,st8,fr8⟩=>?_
   have I8':=I8.pinned (stat fr8) (T.obj _ _ st8)
   have again:∀{σ9:St}{H9:Hp}{s9:Shared}{zs:List V}{m':Nat},Inv (qX X NB scope s3 H3 fp) ([]++Xe fp s8.heap) σ9 H9 s9->H9 D=some (.lst zs)->m'<n->W (i+1) m' H9 zs →
     ∃m,m<n/\∃i σ' H' ys,Inv (qX X NB scope s3 H3 fp) [] σ' H' s9/\tn i s9.heap/\(∀b∈fp,H' b=none)/\H' D=some (.lst ys)/\W i m H' ys:=λ{σ9 H9 s9 zs m'} I9 hz hm w9=>by
    refine⟨m',hm,i+1,σ9,H9,zs,I9.unpinned,T.keep _ _ _ st8 λb hb o e=>(I9.pin (b,o) (wC _ (wC _ (qZ hb e)))).1,λb hb=>?_,hz,w9⟩
    obtain⟨o,e,d⟩:=T.obj _ _ st8 b hb
    exact(I9.pin (b,o) (wC _ (wC _ (qZ hb e)))).2.1
   refine thn (hg _ s8 σ6 H8 x u _ I8' r8 (step σ6 x H8 I6.len y8)) λ_ s9 ⟨σ9,H9,I9,q9⟩=>?_
   refine thn (ht _ s9 σ9 H9 _ I9 q9) λok s10 ⟨H10,I10,q10⟩=>?_
   cases ok with
   | false =>
    rw[if_neg (by decide)]at q10 ⊢
    obtain⟨hz,m',hm,w'⟩:=q10
    exact again I10 hz hm w'
   | true =>
    rw[if_pos rfl]at q10 ⊢
    refine thn (he _ s10 σ9 H10 _ I10 q10) λy s11 ⟨v,H11,I11,r11,hz,hlen,m',hm,w'⟩=>?_
    refine thn (qK _ s11 σ9 H11 (.ref D) [v] (.ref D) [y] (λ_ H12=>H12=upd H11 D (.lst (ys++[v]))) I11 rfl (.cons r11 .nil) ⟨D,ys,v,rfl,rfl,hz,hlen,rfl⟩) λ_ s12 ⟨_,H12,I12,_,e12⟩=>?_
    subst e12
    exact again I12 zg hm w'
 exact codeAny_compStart_list (loop _ rfl) (T.self X.A 0 _ _ _ st4 (loop _ rfl))
mutual
inductive RdD (H:Hp):V->PyData->Prop
 | non:RdD H .non .none
 | bl (b:Bool):RdD H (.bl b) (.bool b)
 | int (i:Int):RdD H (.int i) (.int i)
 | str (x:Str):RdD H (.str x) (.str x)
 | tup {a:Addr}{xs:List V}{ds:List PyData}:H a=some (.tup xs)->vo H xs ds->RdD H (.ref a) (.tuple ds)
 | lst {a:Addr}{xs:List V}{ds:List PyData}:H a=some (.lst xs)->vo H xs ds->RdD H (.ref a) (.list ds)
inductive vo (H:Hp):List V->List PyData->Prop
 | nil:vo H [] []
 | cons {x:V}{d:PyData}{xs:List V}{ds:List PyData}:RdD H x d->vo H xs ds->vo H (x::xs) (d::ds)
end
section
variable {X:Cx}{pins:List (Addr×Obj)}{σ:St}{H:Hp}{s:Shared}
mutual
theorem RdD.reads (I:Inv X pins σ H s):∀{x:V}{d:PyData},RdD H x d->∀{u:Value},xr x u->∃as,Reads s.heap u d as
 | _,_,.non,u,r=>by cases(show u=Value.none from r);exact⟨_,.none⟩
 | _,_,.bl b,u,r=>by cases(show u=Value.bool b from r);exact⟨_,.bool b⟩
 | _,_,.int i,u,r=>by obtain⟨t,e⟩:=(show ∃t,u=Value.int i t from r);subst e;exact⟨_,.int i t⟩
 | _,_,.str x,u,r=>by obtain⟨t,e⟩:=(show ∃t,u=Value.str x t from r);subst e;exact⟨_,.str x t⟩
 | _,_,@RdD.tup _ a xs ds e h,u,r=>by
  cases(show u=Value.ref a from r)
  obtain⟨_,its,rv,o,h1,h2,n,h3⟩:=(show xy X.prog X.w H s.heap a (.tup xs)from I.hok a _ e)
  obtain⟨as,ra⟩:=vo.reads I h rv
  exact⟨_,.tuple h1 h2 h3 (by simpa using ra)⟩
 | _,_,@RdD.lst _ a xs ds e h,u,r=>by
  cases(show u=Value.ref a from r)
  obtain⟨_,its,n,rv,h1⟩:=(show xy X.prog X.w H s.heap a (.lst xs)from I.hok a _ e)
  obtain⟨as,ra⟩:=vo.reads I h rv
  exact⟨_,.list h1 rfl rfl (by simpa using ra)⟩
theorem vo.reads (I:Inv X pins σ H s):∀{xs:List V}{ds:List PyData},vo H xs ds->∀{us:List Value},xb xs us->∃as,ReadsAll s.heap us ds as
 | _,_,.nil,us,r=>by cases r;exact⟨_,.nil⟩
 | _,_,.cons h t,us,r=>by
  cases r with
  | cons r1 r2 =>
   obtain⟨a1,q1⟩:=RdD.reads I h r1
   obtain⟨a2,q2⟩:=vo.reads I t r2
   exact⟨_,.cons q1 q2⟩
end
end
inductive zfU (x:V) (y:V) (H:Hp) (Q:VK):Prop
 | mk:∀d e,(RdD H x d)->(RdD H y e)->(SeqAt.shaped d=true)->(SeqAt.shaped e=true)->(Q (.bl (PyData.eqv d e)) H)->zfU x y H Q
def rEqD:R2:=λx y H Q=>zfU x y H Q
inductive zfX (x:V) (y:V) (H:Hp) (Q:VK):Prop
 | mk:∀d e,(RdD H x d)->(RdD H y e)->(SeqAt.shaped d=true)->(SeqAt.shaped e=true)->(Q (.bl (!PyData.eqv d e)) H)->zfX x y H Q
def rNeD:R2:=λx y H Q=>zfX x y H Q
section
variable {X:Cx}
theorem Xc (hu:X.A.units+64<cLine):OpR X (compareOp .Eq) rEqD:=by
 intro pins s σ H x y v u Q I rx ry h
 obtain⟨d,e,hd,he,s1,s2,q⟩:=h
 obtain⟨as,r1⟩:=hd.reads I rx
 obtain⟨bs,r2⟩:=he.reads I ry
 exact eq_dataH r1 r2 s1 s2 hu ⟨.bl _,H,I,rfl,q⟩
theorem JZ (hu:X.A.units+64<cLine):OpR X (compareOp .NotEq) rNeD:=by
 intro pins s σ H x y v u Q I rx ry h
 obtain⟨d,e,hd,he,s1,s2,q⟩:=h
 obtain⟨as,r1⟩:=hd.reads I rx
 obtain⟨bs,r2⟩:=he.reads I ry
 exact ne_dataH r1 r2 s1 s2 hu ⟨.bl _,H,I,rfl,q⟩
def Bd (n:Nat) (i:Int):Prop:=i.natAbs<2^n
theorem Bd.mono {m n:Nat}{i:Int}(h:Bd m i) (l:m<=n):Bd n i:=wK h (Nat.pow_le_pow_right (by decide) l)
theorem Bd.bits {n:Nat}{i:Int}(h:Bd n i):Builtin.Int.intBits i<=n:=intBits_le_iff.mpr h
theorem Bd.of_bits {n:Nat}{i:Int}(h:Builtin.Int.intBits i<=n):Bd n i:=intBits_le_iff.mp h
theorem Bd.mul {m n:Nat}{i j:Int}(h:Bd m i) (k:Bd n j):Bd (m+n) (i*j):=.of_bits (intBits_mul_le h.bits k.bits)
theorem Bd.add {m n:Nat}{i j:Int}(h:Bd m i) (k:Bd n j):Bd (max m n+1) (i+j):=.of_bits (intBits_add_le h.bits k.bits)
theorem Bd.neg {n:Nat}{i:Int}(h:Bd n i):Bd n (-i):=by unfold Bd;rw[Int.natAbs_neg];exact h
theorem Bd.sub {m n:Nat}{i j:Int}(h:Bd m i) (k:Bd n j):Bd (max m n+1) (i - j):=by rw[Int.sub_eq_add_neg];exact h.add k.neg
def XG (i j:Int):Prop:=Bd 1000000 i/\Bd 1000000 j
theorem zU:OpR X (binaryOp .Mult) (rI XG λi j=>.int (i*j)):=opI λ_ _ _ _ _ _ _ hc q=>mul_int q (IntMulOk.of_le hc.1.bits hc.2.bits (by decide))
def VD (i j:Int):Prop:=j≠0/\Bd 8900 j
theorem qu:OpR X (binaryOp .FloorDiv) (rI VD λi j=>.int (i.fdiv j)):=opI λ_ j _ _ _ _ _ hc q=>floordiv_int hc.1 q (.inl (PyProof.noPylong_of_log2 (by
 have h1:j.natAbs≠0:=λz=>hc.1 (Int.natAbs_eq_zero.mp z)
 have h2:j.natAbs<2^9000:=wK hc.2 (Nat.pow_le_pow_right (by decide) (by decide))
 exact(Nat.log2_lt h1).mpr h2)))
theorem zbt (hc:X.calm=true):jw X (.builtin "sum") (λxs H Q=>∃(p:Addr) (ns:List Int),xs=[.ref p]/\SqL X.K H p (ns.map V.int)/\Q (.int ns.sum) H):=by
 intro pins s σ H xs us Q I r h
 obtain⟨p,ns,rfl,hq,q⟩:=h
 obtain⟨u,rfl,ru⟩:=Zn r
 cases ru
 obtain⟨its,rv,pl,_⟩:=I.list hq
 have hi:IntsAre its ns:=JK rv
 obtain⟨ys,e⟩:=hi.allInts.items
 have hl:=pl.isList
 rw[e]at hl
 refine sum_intListG (I.ok.hd hc) hl λh' tk t' k=>⟨.int ns.sum,H,I.kept k,?_,q⟩
 have e1:preSum (numAt ys) ys.size=ns.sum:=by
  rw[preSum_eq,wM (by simp),<-nums_intItems,<-e]
  rw[show its.toArray.toList=its from rfl,hi.numsOf]
 rw[e1]
 exact⟨_,rfl⟩
theorem vS:jw X (.builtin "isinstance") (λxs H Q=>∃x t n b,xs=[x,.ty n]/\Z0 X.K H x t/\PySem.W.kitOne X.K t (.type n)=some b/\Q (.bl b) H):=by
 intro pins s σ H xs us Q I r h
 obtain⟨x,t,n,b,rfl,ty,e,q⟩:=h
 obtain⟨u,w',rfl,r1,r2⟩:=Jt r
 cases(show w'=Value.type n from r2)
 exact zbF I r1 ty e λtk=>⟨.bl b,H,I.tok tk,rfl,q⟩
end
end L2
namespace HT
open PySem PySem.Spec PyProof.Rows L2
end HT
namespace L2
open PySem PySem.Spec PyProof.Rows
section
variable {X:Cx}{e st:Expr}{te:TE}{pos p2:Pos}
theorem xb.rev:∀{xs:List V}{us:List Value},xb xs us->xb xs.reverse us.reverse
 | _,_,.nil=>.nil
 | _,_,.cons r t=>by rw[List.reverse_cons,List.reverse_cons];exact(xb.rev t).append (.cons r .nil)
end
end L2
namespace KM
theorem VP {a b:Int}(ha:0<=a) (hb:0<b):Int.gcd b (a % b)=Int.gcd a b:=by
 obtain⟨m,rfl⟩:=uf ha
 obtain⟨n,rfl⟩:=uf (Int.le_of_lt hb)
 rw[<-Int.natCast_emod,Int.gcd_comm (m:Int)]
 show Nat.gcd n (m % n)=Nat.gcd n m
 rw[Nat.gcd_comm n (m % n)]
 exact(Nat.gcd_rec n m).symm
theorem xV (q:Rat):(q.den:Int)≠0:=by have:=q.den_nz;omega
theorem den_pos (q:Rat):(0:Int)<q.den:=by have:=q.den_nz;omega
def dv (t b:Int):Int:=if b<0 then -(Int.gcd t b:Int)else(Int.gcd t b:Int)
theorem zek {t b:Int}(hb:b≠0):0<Int.gcd t b:=Int.gcd_pos_of_ne_zero_right _ hb
theorem zfJ {t b:Int}(hb:b≠0):dv t b≠0:=by
 have:=zek (t:=t) hb
 unfold dv;split <;> omega
theorem zgu {t b:Int}:(dv t b).natAbs=Int.gcd t b:=by
 unfold dv;split <;> omega
theorem zar {t b:Int}(hb:b≠0):(dv t b).natAbs<=b.natAbs:=by
 rw[zgu];exact Nat.le_of_dvd (by omega) (WH t b)
theorem JH {t b:Int}(hb:b≠0):t.fdiv (dv t b)=(Rat.divInt t b).num:=by
 rw[Rat.num_divInt,Int.gcd_comm b t]
 have h1:((Int.gcd t b:Nat):Int) ∣ t:=yF ..
 unfold dv
 split
 ·rename_i h
  rw[yR (Int.neg_dvd.mpr h1),Int.ediv_neg,Int.sign_eq_neg_one_of_neg h]
  rw[show (-1*t) = -t by omega,Int.neg_ediv_of_dvd h1]
 ·rename_i h
  rw[yR h1,Int.sign_eq_one_of_pos (by omega),Int.one_mul]
theorem zcD {t b:Int}(hb:b≠0):b.fdiv (dv t b)=((Rat.divInt t b).den:Int):=by
 rw[Rat.den_divInt,if_neg hb,Int.gcd_comm b t]
 have h1:((Int.gcd t b:Nat):Int) ∣ b:=WJ ..
 have h2:Int.gcd t b ∣ b.natAbs:=WH t b
 unfold dv
 split
 ·rename_i h
  rw[yR (Int.neg_dvd.mpr h1),Int.ediv_neg]
  rw[Int.natCast_ediv,show ((b.natAbs:Nat):Int) = -b by omega,Int.neg_ediv_of_dvd h1]
 ·rename_i h
  rw[yR h1,Int.natCast_ediv,show ((b.natAbs:Nat):Int)=b by omega]
theorem zgX {t b:Int}(hb:b≠0):(Rat.divInt t b).num.natAbs<=t.natAbs:=by
 rw[<-JH hb]
 have:t.fdiv (dv t b) ∣ t:=by
  have h1:dv t b ∣ t:=by
   unfold dv;split
   ·exact Int.neg_dvd.mpr (yF ..)
   ·exact yF ..
  obtain⟨c,hc⟩:=h1
  rw[yR ⟨c,hc⟩]
  refine⟨dv t b,?_⟩
  exact(Wr ⟨c,hc⟩).symm
 by_cases h0:t=0
 ·subst h0;simp
 ·exact Nat.le_of_dvd (by omega) (Int.natAbs_dvd_natAbs.mpr this)
theorem zgr {t b:Int}(hb:b≠0):(Rat.divInt t b).den<=b.natAbs:=by
 rw[Rat.den_divInt,if_neg hb];exact Nat.div_le_self _ _
theorem zaQ (a b:Rat):Rat.divInt (a.num*b.den+b.num*a.den) (a.den*b.den)=a+b:=by
 rw[Rat.add_def',<-WS];simp
theorem Jp (a b:Rat):Rat.divInt (a.num*b.num) (a.den*b.den)=a*b:=by
 rw[Rat.mul_def',<-WS];simp
theorem Vh (a b:Rat):Rat.divInt (a.num*b.den) (a.den*b.num)=a/b:=by
 rw[Rat.div_def,Rat.inv_def,<-Rat.divInt_mul_divInt,Rat.num_divInt_den]
theorem jL (a b:Rat):a.num*b.den<b.num*a.den↔a<b:=(Rat.lt_iff a b).symm
structure zJ where
 pl:Rat
 sp:Rat
 wt:Int
end KM
namespace L2
open PySem PySem.Spec PyProof.Rows
structure Cal (P:Program) (w:World) (K:Fg) (mg:Str->Option Value) (base:Heap) (x:Str) (k:Nat) (ps:List Str) (dvs:List V) (sp:Sp):Prop where
 ex:∃f fd ds,vP P w K mg base CX0 k f fd ps sp/\mg x=some (.ref f)/\PySem.W.keepIn K (.ref f)=true/\vn K fd ps ds/\xb dvs ds
theorem zP {X:Cx}{x:Str}{k:Nat}{ps:List Str}{dvs:List V}{sp:Sp}{p pos:Pos}{e:Expr}{es:List Expr}{t:TA}
  (c:Cal X.prog X.w X.K X.mg X.base x k ps dvs sp) (hr:xn k X.A) (ha:PA X (e::es) t) (hg:Gl X x:=by rfl) (hdb:(x == ("__debug__":Str))=false:=by decide)
  (he:starEach (e::es) X.env=(false,eval e X.env)::starEach es X.env:=by rfl) (hpl:(backTo pos (starEach es X.env)).any (·.1)=false:=by rfl) :
  PE X (.Call (.Name x p) (e::es) [] pos) (jg sp dvs E0 t):=by
 obtain⟨f,fd,ds,F,hm,hk,hb,hd⟩:=c.ex
 exact zeP F hr hg hm hk hb hd zc8 ha hdb he hpl
structure Df (K:Fg) (mg:Str->Option Value) (x:Str) (st:Stmt) (ps:List Str) (dvs:List V):Prop where
 ex:∃(f:Addr) (oc:Value) (od:Option Addr) (dV kV doc pm:Value) (an:Option Addr) (cdv ct:Value) (osl:Array (Option Value)) (ds:List Value),
  K.lookup f=some ⟨oc,od,.func (PySem.W.fnOf x x (qd st) (xC st) (zr st) dV kV doc pm an cdv ct),osl⟩/\PySem.W.codeIn K cdv x=true/\PySem.W.keepIn K (.ref f)=true/\mg x=some (.ref f) ∧
  xb dvs ds/\vn K (PySem.W.fnOf x x (qd st) (xC st) (zr st) dV kV doc pm an cdv ct) ps ds
section
variable {P:Program}{w:World}{K:Fg}{mg:Str->Option Value}{base:Heap}
theorem Df.cal {x:Str}{st:Stmt}{N ps:List Str}{dvs:List V}{k:Nat}{sp:Sp}(D:Df K mg x st ps dvs) (S:zF N ps (zr st)) (len:∀vs H Q E,sp vs H Q E->vs.length=ps.length)
  (hbody:∀(f:Addr) (cdv:Value) (A:Around) (outer:List Env) (s:Shared) (H:Hp) (vs:List V) (Q:VK) (E:XK),xn k (A.deeper (envOfC x (zr st) s.heap.objs.size f cdv))->sp vs H Q E →
   ∃t,PSs (jh CX0 P w K mg base N x (zr st) f cdv A outer s H E).nox (xC st) t/\t { nx:=λ_ H'=>Q .non H',rt:=Q } (vq N vs) H):Cal P w K mg base x (k+1) ps dvs sp:=by
 obtain⟨f,oc,od,dV,kV,doc,pm,an,cdv,ct,osl,ds,lk,hcd,hk,hm,hv,hb⟩:=D.ex
 refine⟨⟨f,_,ds,zav lk hcd S len λA outer s H vs Q E hr hsp=>?_,hm,hk,hb,hv⟩⟩
 obtain⟨t,h,q⟩:=hbody f cdv A outer s H vs Q E hr hsp
 exact⟨t,h.nox,q⟩
theorem xa {x:Str}{st:Stmt}{ps:List Str}{f:Addr}{oc:Value}{od an:Option Addr}{osl:Array (Option Value)}{dV kV doc pm cdv ct:Value}
  (l:K.lookup f=some ⟨oc,od,.func (PySem.W.fnOf x x (qd st) (xC st) (zr st) dV kV doc pm an cdv ct),osl⟩) (c:PySem.W.codeIn K cdv x=true) (k:PySem.W.keepIn K (.ref f)=true) (m:mg x=some (.ref f))
  (hb:∀us:List Value,us.length=ps.length->bindArgs (PySem.W.fnOf x x (qd st) (xC st) (zr st) dV kV doc pm an cdv ct) ⟨us,[]⟩=pure (ps.zip us)):Df K mg x st ps [] :=
 ⟨⟨f,oc,od,dV,kV,doc,pm,an,cdv,ct,osl,[],l,c,k,m,.nil,.all hb⟩⟩
end
def rp (q:Rat):List V:=[.int q.num,.int (q.den:Int)]
def zD (H:Hp) (p:Addr) (q:Rat):Prop:=H p=some (.tup (rp q))
theorem zD.same {H H':Hp}{p:Addr}{q:Rat}(h:zD H p q) (e:zi H H'):zD H' p q:=e _ _ h
def Sz (n:Nat) (q:Rat):Prop:=Bd n q.num/\Bd n (q.den:Int)
theorem Sz.mono {m n:Nat}{q:Rat}(h:Sz m q) (l:m<=n):Sz n q:=⟨h.1.mono l,h.2.mono l⟩
theorem Bd.of_le {n:Nat}{i j:Int}(h:i.natAbs<=j.natAbs) (b:Bd n j):Bd n i:=uU h b
theorem Sz.divInt {n:Nat}{t b:Int}(hb:b≠0) (h1:Bd n t) (h2:Bd n b):Sz n (Rat.divInt t b) :=
 ⟨h1.of_le (KM.zgX hb),h2.of_le (by have:=KM.zgr (t:=t) hb;omega)⟩
theorem Sz.add {m n:Nat}{x y:Rat}(h:Sz m x) (k:Sz n y):Sz (m+n+1) (x+y):=by
 rw[<-KM.zaQ]
 refine .divInt (yc (KM.xV x) (KM.xV y)) ?_ ((h.2.mul k.2).mono (by omega))
 exact((h.1.mul k.2).add (k.1.mul h.2)).mono (by omega)
theorem Sz.mul {m n:Nat}{x y:Rat}(h:Sz m x) (k:Sz n y):Sz (m+n) (x*y):=by
 rw[<-KM.Jp]
 exact .divInt (yc (KM.xV x) (KM.xV y)) (h.1.mul k.1) (h.2.mul k.2)
theorem xS (q:Rat):SeqAt.shaped (.tuple [.int q.num,.int (q.den:Int)])=true:=rfl
theorem zD.rd {H:Hp}{p:Addr}{q:Rat}(h:zD H p q):RdD H (.ref p) (.tuple [.int q.num,.int (q.den:Int)]):=.tup h (.cons (.int _) (.cons (.int _) .nil))
theorem Z9 (x y:Rat):PyData.eqv (.tuple [.int x.num,.int (x.den:Int)]) (.tuple [.int y.num,.int (y.den:Int)])=decide (x=y):=by
 simp only[PyData.eqv,PyData.eqvAll,Bool.and_true]
 rw[yv]
 simp only[yM,beq_iff_eq,wH]
 constructor
 ·rintro ⟨h1,h2⟩;exact Rat.ext h1 (by omega)
 ·rintro rfl;exact⟨rfl,rfl⟩
inductive qW  (vs:List V) (H:Hp) (Q:VK) (_e3:XK):Prop
 | mk:∀t b,(vs=[.int t,.int b])->(b≠0)->(Bd 8900 b)->(∀p H',zi H H'->zD H' p (Rat.divInt t b)->Q (.ref p) H')->qW vs H Q _e3
inductive qB (C:Rat->Rat->Prop) (f:Rat->Rat->Rat) (vs:List V) (H:Hp) (Q:VK) (_e3:XK):Prop
 | mk:∀p q x y,(vs=[.ref p,.ref q])->(zD H p x)->(zD H q y)->(C x y)->(∀r H',zi H H'->zD H' r (f x y)->Q (.ref r) H')->qB C f vs H Q _e3
def Sz2 (x y:Rat):Prop:=Sz 4000 x/\Sz 4000 y
theorem at0 {α:Type}(a b:α):atI [a,b] 0=some a:=rfl
theorem at1 {α:Type}(a b:α):atI [a,b] 1=some b:=rfl
theorem zi.upd {H:Hp}{p:Addr}{o:HO}(h:H p=none):zi H (upd H p o):=λb u e=>by rw[zE (zG e h)];exact e
def TrX (h B:Heap) (e:Addr) (cls a0:Value) (dct:Option Addr) (fl:Value):Prop :=
 ∃oe vs T oT ts,h.get? e=some oe/\oe.cls=cls/\oe.dict=dct/\oe.data = .fields vs/\vs[0]? = some a0/\vs[1]? = some (.ref T)/\B.get? T=none/\T≠e/\h.get? T=some oT/\oT.data = .fields ts/\ts[3]? = some fl
theorem zbL (o:Obj) (f:Array Value->Array Value):(Obj.mapFields f o).dict=o.dict:=by
 unfold Obj.mapFields;split <;> rfl
section
variable {M:Model}{A:Around}{E:Value->Shared->Prop}{s:Shared}{B:Heap}{env:Env}{outer l:List Env}{L e:Addr}{oe:Obj}{vs:Array Value}{a0 cls fl:Value}{dct:Option Addr}{Q:Unit->Shared->Prop}
theorem zas {head:Value}{hadNext:Bool}(hfr:A.frames=some (env::outer)) (hl:s.heap.FunFrames B (env::outer)) (hf:env.frame=some L) (he:s.heap.get? e=some oe) (hB:B.StaysIn s.heap) (hn:B.get? e=none) (hd:oe.data = .fields vs) (hz:1<vs.size) (h0:vs[0]? = some a0)
  (q:∀h',B.StaysIn h'->h'.FunFrames B (env::outer)->TrX h' B e oe.cls a0 oe.dict (rawInt L)->s.heap.UpToSlots h'->Q () { s with heap:=h' }) :
  wpAny M A (do let a <-frameOf env;let pl <-entryPlaceOf L hadNext;let b <-EntryCells.newEntry head a .none (rawInt L) .none pl;setField (.ref e) 1 b) Q E s:=by
 have nf:e∉(env::outer).filterMap (·.frame):=λm=>by
  obtain⟨_,o,ho,hnf⟩:=hl.mem m
  rw[he]at ho;cases ho;exact hnf vs hd
 refine wc (wpAny_frameOf_fun hfr hl hf λg1 k1=>wc (wpAny_entryPlaceOf λpl hpl=>?_))
 unfold EntryCells.newEntry newFields
 have e1:g1.get? e=some oe:=(k1.2.1 e nf).trans he
 have B1:B.StaysIn g1:=λb o z=>(k1.2.1 b λm=>by rw[(hl.mem m).1]at z;cases z).trans (hB b o z)
 have fr:g1.objs.size≠e:=uM (wA e1)
 have d3:=Obj.data_mapFields hd (·.setIfInBounds 1 (Value.ref g1.objs.size))
 refine wc (yj (um (wd _ e1) hd hz (q _ (λb o z=>?_) (hl.of_keeps λb o hb nn=>?_) ?_ λb o hb nn=>?_)) (hpl.sizeOk5 _ _ _ _ _))
 ·have ne:e≠b:=λr=>by rw[<-r,hn]at z;cases z
  rw[yo _ _ ne]
  exact wd _ (B1 b o z)
 ·obtain⟨sl,z⟩:=k1.2.2 b o hb
  have ne:e≠b:=λr=>by rw[<-r,he]at hb;cases hb;exact nn vs hd
  exact⟨{ o with slots:=sl },by rw[yo _ _ ne];exact wd _ z,rfl⟩
 ·refine⟨_,_,g1.objs.size,_,_,yp _ (wd _ e1) (Obj.isFreed_of_fields d3),Obj.cls_mapFields _ _,zbL _ _,d3,?_,by simp[hz],B1.fresh,fr,(yo _ _ (Ne.symm fr)).trans (wB g1 rfl),rfl,?_⟩
  ·rw[u9 (by decide)];exact h0
  ·first | (simp;done) | (rcases hpl with rfl | ⟨_,_,_,_,_,_,_,rfl⟩ <;> simp)
 ·obtain⟨sl,z⟩:=k1.2.2 b o hb
  have ne:e≠b:=λr=>by rw[<-r,he]at hb;cases hb;exact nn vs hd
  exact⟨sl,by rw[yo _ _ ne];exact wd _ z⟩
theorem JV (hfr:A.frames=some (env::outer)) (hl:s.heap.FunFrames B (env::outer)) (hf:env.frame=some L) (he:s.heap.get? e=some oe) (hB:B.StaysIn s.heap) (hn:B.get? e=none) (hd:oe.data = .fields vs) (h1:vs[1]? = some .none) (h0:vs[0]? = some a0)
  (q:∀h',B.StaysIn h'->h'.FunFrames B (env::outer)->TrX h' B e oe.cls a0 oe.dict (rawInt L)->s.heap.UpToSlots h'->Q () { s with heap:=h' }):wpAny M A (noteFrame (.ref e) env) Q E s:=by
 unfold noteFrame
 simp only[hf]
 refine wc (wZ he hd h1 ?_)
 rw[if_neg (by decide)]
 exact zas hfr hl hf he hB hn hd (yW.mp h1).1 h0 q
theorem zbO (hfr:A.frames=some (env::outer)) (hl:s.heap.FunFrames B (env::outer)) (hf:env.frame=some L) (ht:TrX s.heap B e cls a0 dct .none) (hB:B.StaysIn s.heap) (hn:B.get? e=none)
  (q:∀h',B.StaysIn h'->h'.FunFrames B (env::outer)->TrX h' B e cls a0 dct (rawInt L)->s.heap.UpToSlots h'->Q () { s with heap:=h' }):wpAny M A (noteFrame (.ref e) env) Q E s:=by
 obtain⟨oe,vs,T,oT,ts,he,rfl,rfl,hd,h0,h1,nT,Te,hT,dT,h3⟩:=ht
 unfold noteFrame
 simp only[hf]
 refine wc (wZ he hd h1 ?_)
 rw[if_pos (show (Value.ref T != Value.none)=true from by simp)]
 refine wc (wZ hT dT h3 ?_)
 rw[if_neg (show ¬((Value.none == rawInt L)=true)from by simp[rawInt])]
 have oth:∀b,b≠T->(s.heap.update T (Obj.mapFields (·.setIfInBounds 3 Value.none))).get? b=s.heap.get? b:=λb hb=>yo _ _ (Ne.symm hb)
 have nr:∀b o,s.heap.get? b=some o->(∀vs,o.data≠.fields vs)->b≠T:=λb o hb nn r=>by rw[r,hT]at hb;cases hb;exact nn ts dT
 refine wc (um hT dT (yW.mp h3).1 (zas hfr (hl.of_keeps λb o hb nn=>⟨o,(oth b (nr b o hb nn)).trans hb,rfl⟩) hf ((oth e (Ne.symm Te)).trans he) (λb o z=>(oth b λr=>by rw[r,nT]at z;cases z).trans (hB b o z)) hn hd (yW.mp h1).1 h0 λh' x1 x2 x3 x4=>q h' x1 x2 x3 λb o hb nn=>x4 b o ((oth b (nr b o hb nn)).trans hb) nn))
theorem zcH (hB:B.StaysIn s.heap) (hl:s.heap.FunFrames B l) (ht:TrX s.heap B e cls a0 dct fl)
  (q:∀h',B.StaysIn h'->h'.FunFrames B l->TrX h' B e cls a0 dct .none->s.heap.UpToSlots h'->Q () { s with heap:=h' }):wpAny M A (setFlight (.ref e) none) Q E s:=by
 obtain⟨oe,vs,T,oT,ts,he,hc,hdc,hd,h0,h1,nT,Te,hT,dT,h3⟩:=ht
 have z3:3<ts.size:=(yW.mp h3).1
 have oth:∀b,b≠T->(s.heap.update T (Obj.mapFields (·.setIfInBounds 3 ((none:Option Addr).elim Value.none λf=>rawInt f)))).get? b=s.heap.get? b:=λb hb=>yo _ _ (Ne.symm hb)
 have nr:∀b o,s.heap.get? b=some o->(∀vs,o.data≠.fields vs)->b≠T:=λb o hb nn r=>by rw[r,hT]at hb;cases hb;exact nn ts dT
 unfold setFlight
 refine wc (wZ he hd h1 ?_)
 rw[if_pos (show (Value.ref T != Value.none)=true from by simp)]
 exact um hT dT z3 (q _ (λb o z=>(oth b λr=>by rw[r,nT]at z;cases z).trans (hB b o z)) (hl.of_keeps λb o hb nn=>⟨o,(oth b (nr b o hb nn)).trans hb,rfl⟩)
  ⟨oe,vs,T,_,_,(oth e (Ne.symm Te)).trans he,hc,hdc,hd,h0,h1,nT,Te,yp _ hT (Obj.isFreed_of_fields (Obj.data_mapFields dT _)),Obj.data_mapFields dT _,by simp[z3]⟩ λb o hb nn=>⟨o.slots,(oth b (nr b o hb nn)).trans hb⟩)
end
def FlX (B:Heap) (l:List Env) (e:Addr) (cls a0:Value) (dct:Option Addr) (h:Heap):Prop:=B.StaysIn h/\B.get? e=none/\h.FunFrames B l/\TrX h B e cls a0 dct .none
def HeX (B:Heap) (l:List Env) (e:Addr) (cls a0:Value) (dct:Option Addr) (h:Heap):Prop:=B.StaysIn h/\B.get? e=none/\h.FunFrames B l/\∃fl,TrX h B e cls a0 dct fl
section
variable {M:Model}{A:Around}{E:Value->Shared->Prop}{s:Shared}{B h:Heap}{env:Env}{outer l:List Env}{L e:Addr}{a0 cls:Value}{dct:Option Addr}{Q:Unit->Shared->Prop}
theorem zes (hfr:A.frames=some (env::outer)) (hf:env.frame=some L) (x:FlX B (env::outer) e cls a0 dct s.heap) (q:∀h',HeX B (env::outer) e cls a0 dct h'->s.heap.UpToSlots h'->Q () { s with heap:=h' }):wpAny M A (noteFrame (.ref e) env) Q E s :=
 zbO hfr x.2.2.1 hf x.2.2.2 x.1 x.2.1 λh' x1 x2 x3 x4=>q h' ⟨x1,x.2.1,x2,_,x3⟩ x4
theorem zaA (x:HeX B l e cls a0 dct s.heap) (q:∀h',FlX B l e cls a0 dct h'->s.heap.UpToSlots h'->Q () { s with heap:=h' }):wpAny M A (setFlight (.ref e) none) Q E s:=by
 obtain⟨x1,x2,x3,fl,x4⟩:=x
 exact zcH x1 x3 x4 λh' y1 y2 y3 y4=>q h' ⟨y1,x2,y2,y3⟩ y4
theorem zcV (hfr:A.frames=some (env::outer)) (hf:env.frame=some L) (x:FlX B (env::outer) e cls a0 dct s.heap) (q:∀h',FlX B outer e cls a0 dct h'->s.heap.UpToSlots h'->Q () { s with heap:=h' }):wpAny M A (leaving env (.ref e)) Q E s:=by
 unfold leaving
 refine wc (zes hfr hf x λh' y up=>zaA (s:={ s with heap:=h' }) y λh2 z up2=>?_)
 obtain⟨z1,z2,⟨_,_,z3⟩,z4⟩:=z
 exact q h2 ⟨z1,z2,z3,z4⟩ (up.trans up2)
end
structure Fly (P:Program) (w:World) (l:List Env) (H:Hp) (s:Shared) (C:Addr) (H':Hp) (a:Addr) (s':Shared) (B:Heap) (a0:Value) (dct:Option Addr):Prop where
 os:s'.os=s.os
 bare:AllBare s'.gens
 un:Un (frs l) [] H H' s.heap s'.heap
 hok:HOk P w H' s'.heap
 fly:FlX B l a (.ref C) a0 dct s'.heap
 kb:∀b o,s.heap.get? b=some o->b∉frs l->(∃o',B.get? b=some o')/\(H b=none->B.get? b=some o)
 kt:∀b u,H' b=some u->∃o,B.get? b=some o
abbrev CX1 (P:Program) (w:World):CXT:=λouter H s E e s'=>∃a C H' B a0 dct,e = .ref a/\Fly P w outer H s C H' a s' B a0 dct/\E (.ref C) dct H'
section
variable {P:Program}{w:World}{H H':Hp}{h h' B:Heap}{a:Addr}{o:HO}
theorem xy.obj (x:xy P w H h a o):∃u,h.get? a=some u:=by
 cases o with
 | lst xs=>obtain⟨_,_,_,_,e⟩:=x;exact⟨_,e⟩
 | tup xs=>obtain⟨_,_,_,ob,e,_⟩:=x;exact⟨_,e⟩
 | dK kvs=>obtain⟨_,_,_,_,o,_,_,e,_⟩:=x;exact⟨_,e⟩
 | dT kvs=>obtain⟨_,_,_,_,o,_,_,e,_⟩:=x;exact⟨_,e⟩
 | set S n=>obtain⟨o,_,_,_,e,_⟩:=x;exact⟨_,e⟩
 | ins C dx fs=>obtain⟨_,_,_,e,_⟩:=x;exact⟨_,e⟩
 | own y=>obtain⟨_,e⟩:=x;exact⟨_,e⟩
 | xd fs=>obtain⟨_,⟨_,_,_,e,_⟩,_⟩:=x;exact⟨_,e⟩
 | rng lo hi=>obtain⟨_,_,_,e⟩:=x;exact⟨_,e⟩
 | frz ob u=>obtain⟨e,_⟩:=x;exact⟨_,e⟩
 | tbl ps=>exact⟨_,(show h.get? a=some _ from x)⟩
 | met f y=>exact⟨_,(show h.get? a=some _ from x)⟩
 | ext φ=>obtain⟨_,⟨_,e⟩,_⟩:=x;exact⟨_,e⟩
theorem zgC (x:HOk P w H h) (k1:B.StaysIn h) (k2:B.StaysIn h') (kt:∀b u,H b=some u->∃o,B.get? b=some o):HOk P w H h':=λa o e =>
 (x a o e).stay (λb u hb q=>by
  have ht:∃v,H b=some v:=by
   rcases hb with rfl | hb
   ·exact⟨_,e⟩
   ·exact⟨_,hb⟩
  obtain⟨v,hv⟩:=ht
  obtain⟨ob,hob⟩:=kt b v hv
  rw[k1 b ob hob]at q;cases q;exact k2 b _ hob) (λ_ q=>q) λ_ _ q=>q
end
section
variable {X:Cx}{pins:List (Addr×Obj)}{σ:St}{H H':Hp}{s:Shared}
theorem Inv.notfr (I:Inv X pins σ H s){b:Addr}{o:Obj}(e:X.s₀.heap.get? b=some o) (hb:b∉X.fs):b∉frs X.stack:=λz=>by
 rcases wy.mp (I.stkSub b z)with r | r
 ·exact absurd (wK (wA e) I.ok.above) (by rw[r];exact ue _)
 ·exact hb r
theorem zcI {g:Array GenState}{d:Drawn}{t:Nat}{C a:Addr}{B h1 h':Heap}{a0:Value}{dct:Option Addr}(I:Inv X pins σ H s) (hex:X.ex=[]) (hfr:∀b∈X.fs,b∈frs X.stack) (u:Un (frs X.stack) [] H H' s.heap h1)
  (kb:∀b o,s.heap.get? b=some o->b∉frs X.stack->(∃o',B.get? b=some o')/\(H b=none->B.get? b=some o)) (kt:∀b u,H' b=some u->∃o,B.get? b=some o)
  (hok:HOk X.prog X.w H' h1) (k1:B.StaysIn h1) (hfun:h1.FunFrames B X.stack) (up:h1.UpToSlots h') (fl:FlX B X.outer a (.ref C) a0 dct h') (hg:AllBare g) :
  Fly X.prog X.w X.outer X.H₀ X.s₀ C H' a { s with heap:=h',gens:=g,drawn:=d,toks:=t } B a0 dct where
 os:=I.os
 bare:=hg
 un:={
  keep:=λb o q n hb hx=>by
   have hx':b∉X.ex:=by rw[hex];exact hx
   exact fl.1 b o ((kb b o (I.base.keep b o q n hb hx') (I.notfr q hb)).2 (I.base.free b o q n hx'))
  slot:=λb o q n hb hx=>by
   have hx':b∉X.ex:=by rw[hex];exact hx
   obtain⟨sl,e⟩:=I.base.slot b o q n hb hx'
   obtain⟨sl1,e1⟩:=u.slot b _ e (I.base.free b o q n hx') (hfr b hb) hx
   obtain⟨_,o',ho',hd⟩:=hfun.mem (hfr b hb)
   have z:=ho'.symm.trans e1
   cases z
   obtain⟨sl2,e2⟩:=up b _ e1 hd
   exact⟨sl2,e2⟩
  free:=λb o q n hx=>by
   have hx':b∉X.ex:=by rw[hex];exact hx
   obtain⟨o',e⟩:=I.base.there b o q hx'
   exact u.free b o' e (I.base.free b o q n hx') hx
  there:=λb o q hx=>by
   have hx':b∉X.ex:=by rw[hex];exact hx
   by_cases hb:b∈X.fs
   ·obtain⟨_,o',ho',_⟩:=fl.2.2.1.mem hb
    exact⟨o',ho'⟩
   ·obtain⟨o',e⟩:=I.base.there b o q hx'
    obtain⟨o2,e2⟩:=(kb b o' e (I.notfr q hb)).1
    exact⟨o2,fl.1 b o2 e2⟩
  tups:=λb xs q=>u.tups b xs (I.base.tups b xs q)
  frzs:=λb o xs q=>u.frzs b o xs (I.base.frzs b o xs q)
  tbls:=λb ps q=>by
   obtain⟨m1,e1⟩:=I.base.tbls b ps q
   obtain⟨m2,e2⟩:=u.tbls b _ e1
   exact⟨m1++m2,by rw[e2,Wy]⟩ }
 hok:=zgC hok k1 fl.1 kt
 fly:=fl
 kb:=λb o q hb=>by
  have hx':b∉X.ex:=by rw[hex];exact wQ
  obtain⟨o',e⟩:=I.base.there b o q hx'
  have z:=kb b o' e (I.notfr q hb)
  exact⟨z.1,λn=>(kb b o (I.base.keep b o q n hb hx') (I.notfr q hb)).2 (I.base.free b o q n hx')⟩
 kt:=kt
end
abbrev XJ:=Addr->Option Addr->St->Hp->Prop
def zce (X:Cx) (J:XJ):Prop:=∀(pins:List (Addr×Obj)) (σ:St) (H:Hp) (s:Shared) (a C:Addr) (H':Hp) (s':Shared) (B:Heap) (a0:Value) (dct:Option Addr),
 Inv X pins σ H s->Fly X.prog X.w X.stack H s C H' a s' B a0 dct->J C dct σ H'->X.xe (.ref a) s'
def EJ (E:XK):XJ:=λC d _ H'=>E (.ref C) d H'
section
variable {P:Program}{w:World}{K:Fg}{mg:Str->Option Value}{base:Heap}{N:List Str}{qual:Str}{scope:Scope}{f:Addr}{cd:Value}{A:Around}{outer:List Env}{s:Shared}{H:Hp}{E:XK}
theorem Z4:zce (jh (CX1 P w) P w K mg base N qual scope f cd A outer s H E) (EJ E):=by
 intro pins σ H1 s1 a C H' s' B a0 dct I F q
 obtain⟨hh,g,d,t,os'⟩:=s'
 have e:os'=s1.os:=F.os
 subst e
 refine zcV (L:=s.heap.objs.size) I.ok.frames rfl F.fly λh' fl up=>?_
 refine⟨a,C,H',B,a0,dct,rfl,?_,q⟩
 have z:=zcI (g:=g) (d:=d) (t:=t) I rfl (λb hb=>wP _ hb) F.un F.kb F.kt F.hok F.fly.1 F.fly.2.2.1 up fl F.bare
 exact z
end
def zhS (sp:Sp) (dvs:List V) (J:XJ) (t:TA):TE:=λσ H Q=>t σ H λvs H1=>sp (vs++dvs) H1 Q λc d H'=>∃C,c = .ref C/\J C d σ H'
structure ZW (P:Program) (w:World) (K:Fg) (mg:Str->Option Value) (base:Heap) (x:Str) (k:Nat) (ps:List Str) (dvs:List V) (sp:Sp):Prop where
 ex:∃f fd ds,vP P w K mg base (CX1 P w) k f fd ps sp/\mg x=some (.ref f)/\PySem.W.keepIn K (.ref f)=true/\vn K fd ps ds/\xb dvs ds
section
variable {X:Cx}{k:Nat}{f:Addr}{fd:FuncData}{ps:List Str}{sp:Sp}{dvs:List V}{ds:List Value}{J:XJ}{x:Str}{p pos:Pos}{e:Expr}{es:List Expr}{t:TA}
theorem ze3 {pins:List (Addr×Obj)}{σ:St}{H:Hp}{s:Shared}{Q:VK}{us:List Value}{vs:List V}(F:vP X.prog X.w X.K X.mg X.base (CX1 X.prog X.w) k f fd ps sp) (hr:xn k X.A) (hb:vn X.K fd ps ds) (hd:xb dvs ds) (hx:zce X J)
  (I:Inv X pins σ H s) (r:xb vs us) (h:sp (vs++dvs) H Q λc d H'=>∃C,c = .ref C/\J C d σ H'):wpAny (model X.prog X.w) X.A (call (.ref f) us) (EP X pins σ Q) X.xe s:=by
 have r2:xb (vs++dvs) (us++ds):=r.append hd
 have hl:(us++ds).length=ps.length:=by rw[<-r2.length];exact F.len _ _ _ _ h
 refine Wo (codeAny_mono (F.run X.A X.stack s H ⟨us,[]⟩ (us++ds) (vs++dvs) Q _ hr I.env0 (hb s us I.kIn hl) r2 h) λr s' hq=>?_)
 cases r with
 | error e =>
  obtain⟨a,C,H',B,a0,dct,rfl,F,C',hC,q⟩:=hq
  cases hC
  exact hx pins σ H s a C H' s' B a0 dct I F q
 | ok fl =>
  cases fl with
  | ret u=>exact I.after hq
  | next=>exact False.elim hq
  | brk=>exact False.elim hq
  | cont=>exact False.elim hq
theorem zda (c:ZW X.prog X.w X.K X.mg X.base x k ps dvs sp) (hr:xn k X.A) (hx:zce X J) (ha:PA X (e::es) t) (hg:Gl X x:=by rfl) (hdb:(x == ("__debug__":Str))=false:=by decide)
  (he:starEach (e::es) X.env=(false,eval e X.env)::starEach es X.env:=by rfl) (hpl:(backTo pos (starEach es X.env)).any (·.1)=false:=by rfl) :
  PE X (.Call (.Name x p) (e::es) [] pos) (zhS sp dvs J t):=by
 obtain⟨f,fd,ds,F,hm,hk,hb,hd⟩:=c.ex
 intro pins s σ H Q I h
 refine yL (jX I hg hm ?_ hdb)
 refine WC (h₀:=X.base) I.ok.mod.kin hk (thn (ha pos pins s σ H _ I h) λus s1 ⟨vs,H1,I1,r,q⟩=>⟨I1.kIn,?_⟩) he hpl
 exact ze3 F hr hb hd hx I1 r q
end
section
variable {P:Program}{w:World}{K:Fg}{mg:Str->Option Value}{base:Heap}
theorem Df.cal1 {x:Str}{st:Stmt}{N ps:List Str}{dvs:List V}{k:Nat}{sp:Sp}(D:Df K mg x st ps dvs) (S:zF N ps (zr st)) (len:∀vs H Q E,sp vs H Q E->vs.length=ps.length)
  (hbody:∀(f:Addr) (cdv:Value) (A:Around) (outer:List Env) (s:Shared) (H:Hp) (vs:List V) (Q:VK) (E:XK),xn k (A.deeper (envOfC x (zr st) s.heap.objs.size f cdv))->sp vs H Q E →
   ∃t,PSs (jh (CX1 P w) P w K mg base N x (zr st) f cdv A outer s H E) (xC st) t/\t { nx:=λ_ H'=>Q .non H',rt:=Q } (vq N vs) H):ZW P w K mg base x (k+1) ps dvs sp:=by
 obtain⟨f,oc,od,dV,kV,doc,pm,an,cdv,ct,osl,ds,lk,hcd,hk,hm,hv,hb⟩:=D.ex
 exact⟨⟨f,_,ds,zav lk hcd S len λA outer s H vs Q E hr hsp=>hbody f cdv A outer s H vs Q E hr hsp,hm,hk,hb,hv⟩⟩
end
open PySem.W
section
variable {prog:Program}{w:World}{A:Around}{E:Value->Shared->Prop}{s:Shared}{K:Fg}{x D:Addr}{ox:Obj}{od:Option Obj}
structure ExcK (K:Fg) (D:Addr):Prop where
 ga:findIn K (.ref D) "__getattribute__" = some (some (.builtin "BaseException.__getattribute__"))
 no:findIn K (.ref D) "__getattr__" = some none
 bx:subIn K (.ref D) (.type "BaseException")=some true
 ob:mroIn K D (.type "object")=some true
 ds:hasDictIn K D=true
 ca:findIn K (.ref D) "__class__" = some (some (.builtin "object.__class__"))
 sp:specialIn K (.builtin "object.__class__") "__get__" = some (some (.builtin "getset_descriptor.__get__"))
 tk:takesIn K (.builtin "object.__class__")=some true
end
def qU (σ:St) (js:List Nat):St:=js.map λj=>(σ[j]?).getD none
inductive Zu (X:Cx) (scope:Scope) (cl:List (Str×Addr)):List Str->List Nat->Prop
 | nil:Zu X scope cl [] []
 | cons {x:Str}{j:Nat}{r:List Str}{js:List Nat}:X.N[j]? = some x->X.env.kindOf x=some .cell->(relabel scope X.env).names.lookup x=some .cell->(∃c,cl.lookup x=some c)->Zu X scope cl r js->Zu X scope cl (x::r) (j::js)
section
variable {X:Cx}{scope:Scope}{cl:List (Str×Addr)}
theorem Zu.length:∀{r:List Str}{js:List Nat},Zu X scope cl r js->r.length=js.length
 | _,_,.nil=>rfl
 | _,_,.cons _ _ _ _ t=>by rw[wG,wG,Zu.length t]
theorem Zu.get:∀{r:List Str}{js:List Nat}{k:Nat}{x:Str},Zu X scope cl r js->r[k]? = some x->∃j,js[k]? = some j/\X.N[j]? = some x/\X.env.kindOf x=some .cell/\(relabel scope X.env).names.lookup x=some .cell/\∃c,cl.lookup x=some c
 | _,_,_,_,.nil,e=>by simp at e
 | _,_,0,_,.cons h1 h2 h3 h4 _,e=>by
  simp at e;subst e
  exact⟨_,rfl,h1,h2,h3,h4⟩
 | _,_,k+1,x,.cons _ _ _ _ t,e=>by
  obtain⟨j,r⟩:=Zu.get (k:=k) t (by simpa using e)
  exact⟨j,by simpa using r⟩
theorem Zu.has {r:List Str}{js:List Nat}(h:Zu X scope cl r js){x:Str}(hx:x∈r):∃c,cl.lookup x=some c:=by
 obtain⟨k,hk⟩:=yO hx
 obtain⟨_,_,_,_,_,z⟩:=h.get hk
 exact z
end
def xM (X:Cx) (NB FR:List Str) (scope:Scope) (cl:List (Str×Addr)) (s3:Shared) (H3:Hp) (fp:List Addr):Cx :=
 { X with N:=NB++FR,s₀:=s3,H₀:=H3,env:=compEnvC scope cl s3.heap.objs.size X.env,outer:=X.stack,stack:=X.stack,ex:=fp,fn:=λ_=>false,pn:=[],xe:=λ_ _=>False }
def zab (n:Nat) (js:List Nat) (wi:TI) (g:TG) (tt:TT) (te:TE):TE:=λσ H Q=>wi σ H λJ H1=>∀D,H1 D=none->∃W:Nat->Nat->Hp->List V->Prop,(∃m,W 0 m (upd H1 D (.lst [])) []) ∧
 ∀i m H2 ys,W i m H2 ys->H2 D=some (.lst ys)->(J.stop i H2/\Q (.ref D) H2) ∨
  (J.go i H2/\∀zs x H3,zs.length=n->J.yld i H2 x H3->g x (zs++qU σ js) H3 λσ4 H4=>σ4.drop n=qU σ js/\tt σ4 H4 λb H5 =>
   if b=true then te σ4 H5 (λv H6=>H6 D=some (.lst ys)/\ys.length<sizeLine/\∃m',m'<m/\W (i+1) m' (upd H6 D (.lst (ys++[v]))) (ys++[v]))
   else H5 D=some (.lst ys)/\∃m',m'<m/\W (i+1) m' H5 ys)
theorem Je {scope:Scope}{env:Env}{FR:List Str}{x:Str}(h:(relabel scope env).names.all (λy=>!(y.2 == .cell || y.2 == .free) || FR.contains y.1)=true)
  (e:(relabel scope env).names.lookup x=some .cell\/(relabel scope env).names.lookup x=some .free):x∈FR:=by
 have key:∀k:NameKind,(k == .cell || k == .free)=true->(x,k)∈(relabel scope env).names->x∈FR:=λk hk hm=>by
  have z:=Wg.mp h _ hm
  simp only[hk,Bool.not_true,uV,List.contains_iff_mem]at z
  exact z
 rcases e with e | e
 ·exact key .cell rfl (PySem.mem_of_lookup e)
 ·exact key .free rfl (PySem.mem_of_lookup e)
theorem QH {X:Cx}{elt tg iter:Expr}{ifs:List Expr}{scope:Scope}{cl:List (Str×Addr)}{pos:Pos}{NB FR:List Str}{js:List Nat}{wi:TI}{g:TG}{tt:TT}{te:TE}{Q:VK}{RR:Value->Addr->Result->Shared->Prop}
  {pins:List (Addr×Obj)}{s:Shared}{σ:St}{H:Hp}(hc:X.calm=true) (hcl:∀x c,cl.lookup x=some c->X.env.cells.lookup x=some c) (hcap:Zu X scope cl FR js)
  (hnm:(relabel scope X.env).names.all (λy=>!(y.2 == .cell || y.2 == .free) || FR.contains y.1)=true) (hcell:∀x∈scope.names,x.2≠.cell) (hkind:scope.kind = .function)
  (hi:PI X tg iter wi) (hb:∀s3 H3 fp,PG (xM X NB FR scope cl s3 H3 fp) tg g/\PTs (xM X NB FR scope cl s3 H3 fp) ifs tt/\PE (xM X NB FR scope cl s3 H3 fp) elt te)
  (I:Inv X pins σ H s) (h:zab NB.length js wi g tt te σ H Q)
  (hRR:∀D C H' s',Inv X pins σ H' s'->XI X pins H' C->(∃m,s'.heap.Ns C m)->Q (.ref D) H'->RR (.ref D) C (.ok .next) s') :
  wpAny (model X.prog X.w) X.A (eval iter X.env) (λv s1=>wpAny (model X.prog X.w) X.A (pyIter v) (λit s2=>wpAny (model X.prog X.w) X.A (newList []) (λacc s3 =>
   wpAny (model X.prog X.w) X.A (newFunctionEnv scope X.env.globals cl [] X.env.qual none .none (some X.env)) (λcenv s4 =>
    codeAny (model X.prog X.w) X.A (.compStart (.ListComp elt [⟨tg,iter,ifs,0⟩] scope pos) 0 it acc { cenv with scope:=relabel scope X.env }) (RR acc cenv.locals) s4) X.xe s3) X.xe s2) X.xe s1) X.xe s:=by
 refine thn (hi pins s σ H _ I h) λv s1 h1=>thn h1 λitv s2 h2=>?_
 obtain⟨it,fp,tn,J,H2,e,I2,T,st2,f2,q2⟩:=h2
 subst e
 have hf2:H2 s2.heap.objs.size=none:=I2.hok.fresh (wx _)
 obtain⟨W,⟨m0,w0⟩,turn⟩:=q2 _ hf2
 refine yj (hd:=by size_fits) ?_
 have I3:Inv X pins σ (upd H2 s2.heap.objs.size (.lst [])) { s2 with heap:=s2.heap.push { cls:=.type "list",dict:=none,data:=.seq ([]:List Value).toArray } } :=
  I2.laid (t':=s2.toks) (λb u e=>wd _ e) (wx _) ⟨by decide,[],0,.nil,wB _ rfl⟩
 generalize hD:s2.heap.objs.size=D at *
 generalize hs3:({ s2 with heap:=s2.heap.push { cls:=.type "list",dict:=none,data:=.seq ([]:List Value).toArray } }:Shared)=s3 at *
 generalize hH3:upd H2 D (.lst [])=H3 at *
 have h3D:H3 D=some (.lst []):=by rw[<-hH3];exact zg
 have fpD:∀b∈fp,b≠D:=λb hb=>by
  obtain⟨o,e,_⟩:=T.obj _ _ st2 b hb
  rw[<-hD];exact wO (wA e)
 have k23:∀b u,s2.heap.get? b=some u->s3.heap.get? b=some u:=λb u e=>by rw[<-hs3];exact wd _ e
 have st3:tn 0 s3.heap:=T.keep _ _ _ st2 λb _ o e=>k23 b o e
 have f3:∀b∈fp,XI X pins H3 b:=λb hb=>⟨by rw[<-hH3,zE (fpD b hb)];exact(f2 b hb).1,(f2 b hb).2⟩
 refine wpAny_newFunctionEnv hcell (by intro y hy;simp at hy) (λh4 hns4 hsb4=>?_) hkind
 have k34:∀b u,s3.heap.get? b=some u->h4.get? b=some u:=λb u e=>hsb4.extBut b u (wO (wA e)) (wd _ e)
 have okB:(xM X NB FR scope cl s3 H3 fp).Ok:=by
  refine⟨I3.ok.mod,hkind,I3.ok.glob,I3.ok.blt,wx _,λx y c e1 e2=>I3.ok.inj x y c (hcl _ _ e1) (hcl _ _ e2),λx e=>hcap.has (Je hnm e),(λx c e=>nomatch e),I3.ok.hd,I3.ok.frames,.inl rfl,λb hb=>⟨?_,λx c e=>?_⟩,I3.bs,wS I3.ok.bsz I3.sz,λb o e hb=>?_,λb hb z=>?_,I3.stack,I3.stkFree⟩
  ·obtain⟨o,e,_⟩:=T.obj _ _ st3 b hb
   exact wO (wA e)
  ·exact(f3 b hb).2.2.2.2.1 x c (hcl _ _ e)
  ·obtain⟨_,_,_,z,_⟩:=f3 b hb
   rcases z with z | z
   ·exact I3.ok.noex b o e z
   ·exact absurd (wK (wA e) (wS I3.ok.bsz z)) (ue _)
  ·obtain⟨_,z1,z2,_⟩:=f3 b hb
   rcases wy.mp (I3.stkSub b z)with e | e
   ·exact z1 e
   ·exact z2 e
 have IB:Inv (xM X NB FR scope cl s3 H3 fp) [] (List.replicate NB.length none++qU σ js) H3 { s3 with heap:=h4,toks:=s3.toks+([]:List (Str×Value)).length }:=by
  refine⟨okB,rfl,I3.bare,Un.kept k34,⟨_,hns4,λi x v e1 e2 e3=>?_⟩,λx c e=>?_,I3.hok.fresh (wx _),λx c e=>I3.freeC x c (hcl _ _ e),λp hp=>?_,I3.hok.kept k34,?_⟩
  ·by_cases hi:i<NB.length
   ·rw[wu (by simpa using hi),uR,if_pos hi]at e2
    cases e2
   ·have e1':FR[i - NB.length]? = some x:=by
     have z:(NB++FR)[i]? = some x:=e1
     rw[wm (by omega)]at z;exact z
    rw[wm (by simp;omega),yX]at e2
    obtain⟨j,hj,hN,hk,hb',c,hc'⟩:=hcap.get e1'
    have e2':σ[j]? = some (some v):=by
     unfold qU at e2
     rw[wg,hj]at e2
     simp only[Option.map_some,Option.some.injEq]at e2
     cases hσ:σ[j]? with
     | none=>rw[hσ]at e2;cases e2
     | some o=>rw[hσ]at e2;simp only[WT]at e2;rw[e2]
    obtain⟨m,hn,hl⟩:=I3.loc
    obtain⟨u,ru,lu⟩:=hl j x v hN e2' (.inr (.inl hk))
    refine⟨u,ru,.inr ⟨.inl hb',c,hc',?_⟩⟩
    rcases lu with⟨z,_⟩ | ⟨_,c',z,q⟩
    ·rw[hk]at z;cases z
    ·rw[hcl _ _ hc']at z;cases z
     obtain⟨o,ho,hd⟩:=q
     exact⟨o,k34 _ _ ho,hd⟩
  ·obtain⟨v,o,ho,hd⟩:=I3.cell x c (hcl _ _ e)
   exact⟨v,o,k34 _ _ ho,hd⟩
  ·exact absurd (show p∈([]:List (Addr×Obj))from hp) (by simp)
  ·show _=(NB++FR).length
   rw[wE,wE,yX,hcap.length]
   unfold qU;rw[we]
 have st4:tn 0 h4:=T.keep _ _ _ st3 λb _ o e=>k34 b o e
 have stat:∀{H':Hp},(∀b∈fp,H' b=none)->∀b∈fp,XI (xM X NB FR scope cl s3 H3 fp) [] H' b:=λhn b hb =>
  ⟨hn b hb,(okB.exf b hb).1,okB.exfs b hb,.inl hb,λx c e=>(f3 b hb).2.2.2.2.1 x c (hcl _ _ e),λp hp=>absurd (show p∈([]:List (Addr×Obj))from hp) (by simp)⟩
 obtain⟨hg,ht,he⟩:=hb s3 H3 fp
 have fin:∀{σ':St}{H':Hp}{s':Shared},Inv (xM X NB FR scope cl s3 H3 fp) [] σ' H' s'->Q (.ref D) H'->RR (.ref D) s3.heap.objs.size (.ok .next) s':=λ{σ' H' s'} J q=>by
  have hm:∃m,s'.heap.Ns s3.heap.objs.size m:=by
   obtain⟨m,hm,_⟩:=J.loc
   exact⟨m,hm⟩
  refine hRR D _ H' s' (I3.call' (ch:=fp) J.os J.base J.hok J.bare λb hb=>?_) (I3.fpOk (wx _) J.free) hm q
  obtain⟨_,z1,z2,z3,z4,z5⟩:=f3 b hb
  exact⟨z3,z1,z4,z5⟩
 have loop:∀s5:Shared,s5 = { s3 with heap:=h4,toks:=s3.toks+([]:List (Str×Value)).length } →
   codeAny (model X.prog X.w) X.A (.compLoop (.ListComp elt [⟨tg,iter,ifs,0⟩] scope pos) 0 (.ref it) (.ref D) (compEnvC scope cl s3.heap.objs.size X.env)) (RR (.ref D) s3.heap.objs.size) s5:=by
  rintro s5 rfl
  refine ZA (λn s'=>∃i zs H' ys,zs.length=NB.length/\Inv (xM X NB FR scope cl s3 H3 fp) [] (zs++qU σ js) H' s'/\tn i s'.heap/\(∀b∈fp,H' b=none)/\H' D=some (.lst ys)/\W i n H' ys) ?_ m0
   ⟨0,_,H3,[],yX,IB,st4,λb hb=>(f3 b hb).1,h3D,by rw[<-hH3]at *;exact w0⟩
  rintro n s6 ⟨i,zs,H6,ys,hzs,I6,st6,fr6,hD6,w6⟩
  rcases turn i n H6 ys w6 hD6 with⟨stop,qn⟩ | ⟨go,step⟩
  ·refine thn (T.done (xM X NB FR scope cl s3 H3 fp) rfl rfl rfl hc i [] s6 _ H6 _ I6 (stat fr6) st6 stop) λr s7 ⟨hr,I7⟩=>?_
   subst hr
   exact fin I7 qn
  ·refine thn (T.item (xM X NB FR scope cl s3 H3 fp) rfl rfl rfl hc i [] s6 _ H6 _ I6 (stat fr6) st6 go) λr s7 ⟨u,hr,h7⟩=>?_
   subst hr
   refine thn h7 λ_ s8 ⟨x,H8,I8,r8,y8,st8,fr8⟩=>?_
   have I8':=I8.pinned (stat fr8) (T.obj _ _ st8)
   have again:∀{σ9:St}{H9:Hp}{s9:Shared}{ws:List V}{m':Nat},σ9.drop NB.length=qU σ js->Inv (xM X NB FR scope cl s3 H3 fp) ([]++Xe fp s8.heap) σ9 H9 s9->H9 D=some (.lst ws)->m'<n->W (i+1) m' H9 ws →
     ∃m,m<n/\∃i zs H' ys,zs.length=NB.length/\Inv (xM X NB FR scope cl s3 H3 fp) [] (zs++qU σ js) H' s9/\tn i s9.heap/\(∀b∈fp,H' b=none)/\H' D=some (.lst ys)/\W i m H' ys:=λ{σ9 H9 s9 ws m'} hdr I9 hz hm w9=>by
    have hl:σ9.length=(NB++FR).length:=I9.len
    rw[wE]at hl
    refine⟨m',hm,i+1,σ9.take NB.length,H9,ws,by rw[w5];omega,?_,T.keep _ _ _ st8 λb hb o e=>(I9.pin (b,o) (wC _ (wC _ (qZ hb e)))).1,λb hb=>?_,hz,w9⟩
    ·rw[<-hdr,List.take_append_drop];exact I9.unpinned
    ·obtain⟨o,e,d⟩:=T.obj _ _ st8 b hb
     exact(I9.pin (b,o) (wC _ (wC _ (qZ hb e)))).2.1
   refine thn (hg _ s8 _ H8 x u _ I8' r8 (step zs x H8 hzs y8)) λ_ s9 ⟨σ9,H9,I9,hdr,q9⟩=>?_
   refine thn (ht _ s9 σ9 H9 _ I9 q9) λok s10 ⟨H10,I10,q10⟩=>?_
   cases ok with
   | false =>
    rw[if_neg (by decide)]at q10 ⊢
    obtain⟨hz,m',hm,w'⟩:=q10
    exact again hdr I10 hz hm w'
   | true =>
    rw[if_pos rfl]at q10 ⊢
    refine thn (he _ s10 σ9 H10 _ I10 q10) λy s11 ⟨v,H11,I11,r11,hz,hlen,m',hm,w'⟩=>?_
    refine thn (qK _ s11 σ9 H11 (.ref D) [v] (.ref D) [y] (λ_ H12=>H12=upd H11 D (.lst (ys++[v]))) I11 rfl (.cons r11 .nil) ⟨D,ys,v,rfl,rfl,hz,hlen,rfl⟩) λ_ s12 ⟨_,H12,I12,_,e12⟩=>?_
    subst e12
    exact again hdr I12 zg hm w'
 exact codeAny_compStart_list (loop _ rfl) (T.self X.A 0 _ _ _ st4 (loop _ rfl))
section
variable {X:Cx}{elt tg iter:Expr}{ifs:List Expr}{scope:Scope}{cl:List (Str×Addr)}{pos spos py:Pos}{NB FR:List Str}{js:List Nat}{wi:TI}{g:TG}{tt:TT}{te:TE}
theorem jO (hc:X.calm=true) (hclos:closureFor scope X.env=pure cl) (hcl:∀x c,cl.lookup x=some c->X.env.cells.lookup x=some c) (hcap:Zu X scope cl FR js)
  (hnm:(relabel scope X.env).names.all (λy=>!(y.2 == .cell || y.2 == .free) || FR.contains y.1)=true) (hcell:∀x∈scope.names,x.2≠.cell) (hkind:scope.kind = .function) (hnames:∀x∈scope.names,x.2 = .local → scope.names.lookup x.1=some .local)
  (hi:PI X tg iter wi) (hb:∀s3 H3 fp,PG (xM X NB FR scope cl s3 H3 fp) tg g/\PTs (xM X NB FR scope cl s3 H3 fp) ifs tt/\PE (xM X NB FR scope cl s3 H3 fp) elt te)
  (hs:∀x,foldedSetIterable iter X.env x=pure x:=by intro _;rfl) :
  PE X (.ListComp elt [⟨tg,iter,ifs,0⟩] scope pos) (zab NB.length js wi g tt te):=by
 intro pins s σ H Q I h
 rw[eval_ListComp]
 refine WN (use:=none) rfl hs hclos hkind hnames (QH (RR:=λacc C=>compPost (model X.prog X.w) X.A X.xe none (EP X pins σ Q) acc C) hc hcl hcap hnm hcell hkind hi hb I h ?_)
 intro D C H' s' I' ⟨f0,f1,f2,f3,f4,f5⟩ ⟨m,hm⟩ q
 exact⟨m,hm,λh' sb=>⟨.ref D,H',I'.turned (t':=s'.toks) (λb o hb e=>(sb.2 b hb).trans e) f0 f1 f3 f4 f5,rfl,q⟩⟩
theorem vd {i:Nat}{y:Str}(hc:X.calm=true) (hclos:closureFor scope X.env=pure cl) (hcl:∀x c,cl.lookup x=some c->X.env.cells.lookup x=some c) (hcap:Zu X scope cl FR js)
  (hnm:(relabel scope X.env).names.all (λy=>!(y.2 == .cell || y.2 == .free) || FR.contains y.1)=true) (hcell:∀x∈scope.names,x.2≠.cell) (hkind:scope.kind = .function) (hnames:∀x∈scope.names,x.2 = .local → scope.names.lookup x.1=some .local)
  (hN:X.N.Nodup) (hiN:X.N[i]? = some y) (hy:X.env.kindOf y=some .local) (hsw:swapsWith (.ListComp elt [⟨tg,iter,ifs,0⟩] scope pos) (some (.Name y py)) spos.line X.env=pure true)
  (hi:PI X tg iter wi) (hb:∀s3 H3 fp,PG (xM X NB FR scope cl s3 H3 fp) tg g/\PTs (xM X NB FR scope cl s3 H3 fp) ifs tt/\PE (xM X NB FR scope cl s3 H3 fp) elt te)
  (hs:∀x,foldedSetIterable iter X.env x=pure x:=by intro _;rfl) :
  PS X (.Assign [.Name y py] (.ListComp elt [⟨tg,iter,ifs,0⟩] scope pos) spos) (zdM (zab NB.length js wi g tt te) (zO i)):=by
 intro pins s σ H D I h
 rw[exec_Assign_Name_used _ _ _ _ hsw]
 refine wc (ul (wc ?_))
 show wpAny _ _ (do let _ <-comprehension (.ListComp elt [⟨tg,iter,ifs,0⟩] scope pos) scope X.env _ (newList []) false (eval iter X.env) (some (assign (.Name y py) X.env))) _ _ s
 refine wc (yu (WN (use:=some (assign (.Name y py) X.env)) (Q:=λ_ s'=>SP X pins D .next s') rfl hs hclos hkind hnames
  (QH (RR:=λacc C=>compPost (model X.prog X.w) X.A X.xe (some (assign (.Name y py) X.env)) (λ_ s'=>SP X pins D .next s') acc C) hc hcl hcap hnm hcell hkind hi hb I h ?_)) (λ_ s' hq=>wo (wo hq)) λ_ _ e=>e)
 intro DD C H' s' I' ⟨f0,f1,f2,f3,f4,f5⟩ ⟨m,hm⟩ q
 show wpAny _ _ (assign (.Name y py) X.env (.ref DD)) _ _ s'
 refine wpAny_assign_Name (QV (v:=.ref DD) I' hN hiN (.inl hy) rfl (λs'' I'' ⟨a,sa,ha⟩=>?_) (.inr hy))
 have hCa:C≠a:=by
  rcases ha with rfl | ha
  ·exact f1
  ·exact λz=>f4 y a ha z.symm
 exact⟨m,hm.sameBut sa hCa,λh' sb=>⟨_,H',I''.turned (t':=s''.toks) (λb o hb e=>(sb.2 b hb).trans e) f0 f1 f3 f4 f5,q⟩⟩
end
section
variable {prog:Program}{w:World}{A:Around}{E:Value->Shared->Prop}{s:Shared}
theorem zez {j t:Addr}{i:Nat}{vs:Array Value}{x:Value}{Q:Value->Shared->Prop}(kj:s.heap.IsTupleIter j t i) (kt:s.heap.IsTuple t vs) (kx:vs[i]? = some x)
  (q:∀h',h'.IsTupleIter j t (i+1)->Heap.SameBut j s.heap h'->Q x { s with heap:=h' }):wpAny (model prog w) A (Builtin.SmallTypes.nextOf (.ref j)) Q E s:=by
 obtain⟨oj,e1,e2,e3⟩:=id kj
 obtain⟨ot,f1,_,nt,f3⟩:=kt
 unfold Builtin.SmallTypes.nextOf
 refine wc (wpAny_callSpecial?_slot (name:=Str.ofString "__next__") kj.typeIs F.slot_tuple_iterator_next (yG F.slot_tuple_iterator_next kj.typeIs F.entry_tuple_iterator_next ?_ (F.args_tuple_iterator_next_1 _)))
 show wpAny _ _ (field (.ref j) 0 >>= _) _ _ s
 refine wc (wZ e1 e3 (x:=.ref t) rfl ?_)
 show wpAny _ _ (if(Value.ref t == .none)=true then _ else _) _ _ s
 rw[if_neg (show ¬((Value.ref t == .none)=true)from wL)]
 show wpAny _ _ (field (.ref j) 1 >>= _) _ _ s
 refine wc (wZ e1 e3 (x:=.int i 0) rfl (?_:wpAny _ _ (seqItems? (.ref t) >>= _) _ _ s))
 refine wc (yy f1 f3 ?_)
 simp only[yq,kx]
 refine wc (um e1 e3 (by simp) (wo ⟨x,rfl,wo (q _ ⟨_,yp _ e1 (Obj.isFreed_of_fields (Obj.data_mapFields e3 _)),(Obj.cls_mapFields ..).trans e2,?_⟩ (Heap.SameBut.update ..))⟩))
 rw[Obj.data_mapFields e3];simp[rawInt]
theorem zgW {j t:Addr}{i:Nat}{vs:Array Value}{Q:Value->Shared->Prop}(hh:A.handled=none) (kj:s.heap.IsTupleIter j t i) (kt:s.heap.IsTuple t vs) (kx:vs[i]? = none)
  (q:∀h' e,Heap.ExtBut j s.heap h'->(∃o,h'.get? e=some o/\o.cls = .type "StopIteration")->E (.ref e) { s with heap:=h' }):wpAny (model prog w) A (Builtin.SmallTypes.nextOf (.ref j)) Q E s:=by
 obtain⟨oj,e1,e2,e3⟩:=id kj
 obtain⟨ot,f1,_,nt,f3⟩:=kt
 unfold Builtin.SmallTypes.nextOf
 refine wc (wpAny_callSpecial?_slot (name:=Str.ofString "__next__") kj.typeIs F.slot_tuple_iterator_next (yG F.slot_tuple_iterator_next kj.typeIs F.entry_tuple_iterator_next ?_ (F.args_tuple_iterator_next_1 _)))
 show wpAny _ _ (field (.ref j) 0 >>= _) _ _ s
 refine wc (wZ e1 e3 (x:=.ref t) rfl ?_)
 show wpAny _ _ (if(Value.ref t == .none)=true then _ else _) _ _ s
 rw[if_neg (show ¬((Value.ref t == .none)=true)from wL)]
 show wpAny _ _ (field (.ref j) 1 >>= _) _ _ s
 refine wc (wZ e1 e3 (x:=.int i 0) rfl (?_:wpAny _ _ (seqItems? (.ref t) >>= _) _ _ s))
 refine wc (yy f1 f3 ?_)
 simp only[yq,kx]
 refine wc (uF (wc (um e1 e3 (by simp) (?_:wpAny _ _ (newExc (.type "StopIteration") [] >>= _) _ _ _))))
 refine wc ?_
 simp only[newExc,newTuple]
 refine wc (yj (wc (m:=firstArgMember _ _) (wpAny_of_eq (a:=Value.none) (by first | rfl | (simp only[firstArgMember];rfl)) (yj ?_ (by size_fits)))) (by size_fits))
 simp only[raiseNew]
 refine wc (wpAny_handled (?_))
 first | rw[show A.in1.handled=none from hh] | rw[hh]
 exact wc (wo (wpAny_throw (q _ _ (((Heap.SameBut.update ..).extBut.push _).push _) ⟨_,wB _ rfl,rfl⟩)))
section
variable {z TI TO j1 j2 t1 t2:Addr}{i:Nat}{xs ys:Array Value}
theorem zdS {h:Heap}{f0:Value}{vs:Array Value}{t:Addr}(ht:h.IsTuple t vs) (hz:IsZip h z TI TO f0):t≠z:=λe=>by
 obtain⟨o,e1,e2,_⟩:=ht
 rw[e,hz]at e1;cases e1;simp at e2
end
end
def Itz (K:Fg) (t1 t2:Addr):It :=
 ⟨λi H=>∃xs ys x y,SqT K H t1 xs/\SqT K H t2 ys/\xs[i]? = some x/\ys[i]? = some y,
  λi H v H'=>∃T x y,v = .ref T/\H T=none/\H'=upd H T (.tup [x,y])/\(∀xs,SqT K H t1 xs->xs[i]? = some x)/\∀ys,SqT K H t2 ys->ys[i]? = some y,
  λi H=>∃xs ys,SqT K H t1 xs/\SqT K H t2 ys/\(xs.length<=i\/ys.length<=i)⟩
section
variable {X:Cx}
def zif (K:Fg) (t:TA):TI:=λσ H R=>t σ H λvs H1=>∃t1 t2,vs=[.ref t1,.ref t2]/\(∃xs,SqT K H1 t1 xs)/\(∃ys,SqT K H1 t2 ys)/\R (Itz K t1 t2) H1
theorem nne {a b:Nat}(h:a<b):a≠b:=wO h
theorem zal:∀{bs:List Bool}{us:List Value}{i:Nat}{v:Value},xb (bs.map V.bl) us->us[i]? = some v->∃b,bs[i]? = some b/\v = .bool b
 | [],_,_,_,r,e=>by cases r;simp at e
 | b::bs,_,i,v,r,e=>by
  cases r with
  | cons h t =>
   cases i with
   | zero=>simp at e;subst e;exact⟨b,rfl,h⟩
   | succ i=>obtain⟨c,e1,e2⟩:=zal (i:=i) t (by simpa using e);exact⟨c,by simpa using e1,e2⟩
theorem QA:∀(bs:List Bool) (k:Nat),((List.range' k bs.length).all λi=>(bs[i - k]?).getD true)=bs.all id
 | [],k=>rfl
 | b::bs,k=>by
  rw[wG,WU,List.all_cons,List.all_cons]
  simp only[Nat.sub_self,List.getElem?_cons_zero,WT,id]
  congr 1
  rw[<-QA bs (k+1)]
  apply yv.mpr
  simp only[Wg,List.mem_range'_1]
  constructor
  ·intro h i hi
   have:=h i hi
   rw[show i - k=(i - (k+1))+1 by omega,List.getElem?_cons_succ]at this;exact this
  ·intro h i hi
   rw[show i - k=(i - (k+1))+1 by omega,List.getElem?_cons_succ];exact h i hi
theorem XQ (hc:X.calm=true):jw X (.builtin "all") (λxs H Q=>∃(p:Addr) (bs:List Bool),xs=[.ref p]/\SqL X.K H p (bs.map V.bl)/\Q (.bl (bs.all id)) H):=by
 intro pins s σ H xs us Q I r h
 obtain⟨p,bs,rfl,hq,q⟩:=h
 obtain⟨u,rfl,ru⟩:=Zn r
 cases ru
 obtain⟨its,rv,pl,_⟩:=I.list hq
 have hlt:p<s.heap.objs.size:=by obtain⟨o,n,e,_⟩:=pl;exact wA e
 have hl:=rv.length
 rw[we]at hl
 refine call_all_walk (Wc pl.isList ⟨s.heap.objs.size,_,_,_,_,_,λi=>(bs[i]?).getD true,rfl,Walks.list (A:=X.A.in1) (show X.A.in1.handled=none from I.ok.hd hc) s.heap.objs.size p (wO hlt) its.toArray,
  ⟨⟨_,wB _ rfl,rfl,rfl⟩,pl.isList.push _⟩,λi v s' Q' E' hv hQ'=>?_,λh' tk k=>⟨.bl (bs.all id),H,I.kept λb o e=>k b o (by simpa using wO (wA e)) (wd _ e),?_,q⟩⟩)
 ·obtain⟨b,e1,rfl⟩:=zal rv (by simpa using hv)
  simp only[e1,WT]at hQ'
  exact wo hQ'
 ·have:=QA bs 0
  simp only[Nat.sub_zero]at this
  rw[show its.toArray.size=bs.length by simp[hl],List.range_eq_range',this];rfl
end
end L2
namespace HT
open PySem PyProof.Rows
section
variable {prog:Program}{w:World}{A:Around}{E:Value->Shared->Prop}{s:Shared}
theorem whole_cut {t sl:Addr}{items:Array Value}{vl vu:Value}{lo hi:Option Int}{Q:Value->Shared->Prop}(ht:IsTup s.heap t items) (hs:s.heap.IsSliceOf sl vl vu .none) (pl:IsPart vl lo) (pu:IsPart vu hi)
  (hw:sIx items.size 0 lo=0/\sIx items.size items.size hi=items.size) (h:Q (.ref t) s):wpAny (model prog w) A (getItem (.ref t) (.ref sl)) Q E s:=by
 obtain⟨os,hos,hcs,hds⟩:=id hs
 have hTs:s.TypeIs (.ref sl) "slice":=⟨os,hos,hcs⟩
 unfold getItem
 try with_reducible refine yh ?_
 first | refine wc (wo ?_) | skip
 refine wc (WL ht.typeIs (by decide) ?_)
 refine wc (wpAny_callSpecial?_slot (name:=Str.ofString "__getitem__") ht.typeIs yi
  (yG yi ht.typeIs entry_tuple_getitem ?_ (args_tuple_getitem _ _)))
 show wpAny _ _ (Builtin.Tuple.tupleItemsOf (.ref t) >>= _) _ _ s
 refine wc (tupleItemsOf_ ht ?_)
 refine wc (Wf hTs ?_)
 rw[if_pos (by decide)]
 refine wc (jf hs pl pu ?_)
 show wpAny _ _ (if(((sIx items.size 0 lo:Nat):Int) == 0&&(1:Int) == 1&&(sIx items.size items.size hi - sIx items.size 0 lo) == items.size)=true then _ else _) _ _ s
 rw[if_pos (by rw[hw.1,hw.2];simp)]
 refine wc ?_
 unfold Builtin.Tuple.tupleIsExact
 refine wc (Wf ht.typeIs (wo ?_))
 rw[if_pos (by decide)]
 first
  | exact wc (uF (wo ⟨_,rfl,wo h⟩))
  | exact wc (uF (wc (wo (wo ⟨_,rfl,wo h⟩))))
  | exact wc (uF (wc (wo ⟨_,rfl,wo h⟩)))
end
end HT
namespace L2
open PySem PySem.Spec PyProof.Rows
section
variable {X:Cx}
def zhc (K:Fg):V->Option Int->Option Int->Hp->VK->Prop:=λx lo hi H Q=>∃a xs,x = .ref a/\SqT K H a xs/\(HT.sIx xs.length 0 lo=0/\HT.sIx xs.length xs.length hi=xs.length)/\Q x H
theorem Qm:SlR X (zhc X.K):=by
 intro pins s σ H x v vl vu lo hi sl Q I rx hs pl pu h
 obtain⟨a,xs,rfl,hx,hw,q⟩:=h
 cases rx
 obtain⟨its,r,ht,hz⟩:=I.tuple hx
 have hlen:its.toArray.size=xs.length:=by rw[wz];exact r.length.symm
 exact⟨"tuple",_,yi.lookup,ht.typeIs,HT.whole_cut ht hs pl pu (by rw[hlen];exact hw) ⟨.ref a,H,I,rfl,q⟩⟩
end
section
variable {J:It}{D:Addr}{N n:Nat}{js:List Nat}{σ:St}{g:TG}{tt:TT}{te:TE}{Q:VK}{H:Hp}
theorem Xz (Pv:Nat->Hp->List V->Prop) (h0:Pv 0 (upd H D (.lst [])) []) (hgo:∀i H ys,i<N->Pv i H ys->J.go i H) (hst:∀H ys,Pv N H ys->J.stop N H)
  (hs:∀i x zs H2 H3 ys (Nx:Hp->List V->Prop),(∀H ys,Pv (i+1) H ys->Nx H ys)->i<N->zs.length=n->J.yld i H2 x H3->Pv i H2 ys->H2 D=some (.lst ys)->g x zs H3 λσ4 H4=>tt σ4 H4 λb H5 =>
   if b=true then te σ4 H5 (λv H6=>H6 D=some (.lst ys)/\ys.length<sizeLine/\Nx (upd H6 D (.lst (ys++[v]))) (ys++[v]))else H5 D=some (.lst ys)/\Nx H5 ys)
  (hd:∀H ys,Pv N H ys->H D=some (.lst ys)->Q (.ref D) H) :
  ∃W:Nat->Nat->Hp->List V->Prop,(∃m,W 0 m (upd H D (.lst [])) [])/\∀i m H2 ys,W i m H2 ys->H2 D=some (.lst ys)->(J.stop i H2/\Q (.ref D) H2) ∨
   (J.go i H2/\∀σB x H3,σB.length=n->J.yld i H2 x H3->g x σB H3 λσ4 H4=>tt σ4 H4 λb H5=>if b=true then te σ4 H5 (λv H6=>H6 D=some (.lst ys)/\ys.length<sizeLine/\∃m',m'<m/\W (i+1) m' (upd H6 D (.lst (ys++[v]))) (ys++[v]))
    else H5 D=some (.lst ys)/\∃m',m'<m/\W (i+1) m' H5 ys):=by
 refine⟨λi m H ys=>m=N - i/\i<=N/\Pv i H ys,⟨N,by simp,yg _,h0⟩,?_⟩
 rintro i m H2 ys ⟨rfl,hi,p⟩ hD
 by_cases hlt:i<N
 ·exact .inr ⟨hgo i H2 ys hlt p,λσB x H3 hB y=>hs i x σB H2 H3 ys (λH' ys'=>∃m',m'<N - i/\(m'=N - (i+1)/\i+1<=N/\Pv (i+1) H' ys')) (λH' ys' z=>⟨N - (i+1),by omega,rfl,hlt,z⟩) hlt hB y p hD⟩
 ·obtain rfl:i=N:=by omega
  exact .inl ⟨hst H2 ys p,hd H2 ys p hD⟩
theorem Zy (Pv:Nat->Hp->List V->Prop) (h0:Pv 0 (upd H D (.lst [])) []) (hgo:∀i H ys,i<N->Pv i H ys->J.go i H) (hst:∀H ys,Pv N H ys->J.stop N H)
  (hs:∀i x zs H2 H3 ys (Nx:Hp->List V->Prop),(∀H ys,Pv (i+1) H ys->Nx H ys)->i<N->zs.length=n->J.yld i H2 x H3->Pv i H2 ys->H2 D=some (.lst ys)->g x (zs++qU σ js) H3 λσ4 H4=>σ4.drop n=qU σ js/\tt σ4 H4 λb H5 =>
   if b=true then te σ4 H5 (λv H6=>H6 D=some (.lst ys)/\ys.length<sizeLine/\Nx (upd H6 D (.lst (ys++[v]))) (ys++[v]))else H5 D=some (.lst ys)/\Nx H5 ys)
  (hd:∀H ys,Pv N H ys->H D=some (.lst ys)->Q (.ref D) H) :
  ∃W:Nat->Nat->Hp->List V->Prop,(∃m,W 0 m (upd H D (.lst [])) [])/\∀i m H2 ys,W i m H2 ys->H2 D=some (.lst ys)->(J.stop i H2/\Q (.ref D) H2) ∨
   (J.go i H2/\∀zs x H3,zs.length=n->J.yld i H2 x H3->g x (zs++qU σ js) H3 λσ4 H4=>σ4.drop n=qU σ js/\tt σ4 H4 λb H5=>if b=true then te σ4 H5 (λv H6=>H6 D=some (.lst ys)/\ys.length<sizeLine/\∃m',m'<m/\W (i+1) m' (upd H6 D (.lst (ys++[v]))) (ys++[v]))
    else H5 D=some (.lst ys)/\∃m',m'<m/\W (i+1) m' H5 ys):=by
 refine⟨λi m H ys=>m=N - i/\i<=N/\Pv i H ys,⟨N,by simp,yg _,h0⟩,?_⟩
 rintro i m H2 ys ⟨rfl,hi,p⟩ hD
 by_cases hlt:i<N
 ·exact .inr ⟨hgo i H2 ys hlt p,λσB x H3 hB y=>hs i x σB H2 H3 ys (λH' ys'=>∃m',m'<N - i/\(m'=N - (i+1)/\i+1<=N/\Pv (i+1) H' ys')) (λH' ys' z=>⟨N - (i+1),by omega,rfl,hlt,z⟩) hlt hB y p hD⟩
 ·obtain rfl:i=N:=by omega
  exact .inl ⟨hst H2 ys p,hd H2 ys p hD⟩
end
theorem zd2 {α:Type}(a:α) (r:List α):atI (a::r) 0=some a:=xF (xs:=a::r) (j:=0) rfl
theorem zh5 {α:Type}(a b:α) (r:List α):atI (a::b::r) 1=some b:=xF (xs:=a::b::r) (j:=1) rfl
theorem zaU {H H2 H3:Hp}{D:Addr}{o:HO}(hD:H D=none) (e:zi H H2) (e2:zi H2 H3):zi H (upd H3 D o):=λb u z=>by rw[zE (zG z hD)];exact e2 _ _ (e _ _ z)
section
variable {prog:Program}{w:World}{A:Around}{E:Value->Shared->Prop}{s:Shared}
theorem zcs {t b:Addr}{ws:List Value}{Q:Value->Shared->Prop}(ht:IsTup s.heap t ([]:List Value).toArray) (hb:IsTup s.heap b ws.toArray) (h0:Q (.ref b) s):wpAny (model prog w) A (binaryOp .Add (.ref t) (.ref b)) Q E s:=by
 obtain⟨⟨cls,dd,data,sl⟩,ho,hc,n,hd⟩:=id ht
 obtain⟨⟨cls2,dd2,data2,sl2⟩,ho2,hc2,n2,hd2⟩:=id hb
 simp only at hc hd hc2 hd2
 subst hc hd hc2 hd2
 exact concat_meets ⟨_,ho,rfl⟩ ⟨_,ho2,rfl⟩ noFill_tuple_add seq_tuple_add u6 uS (uN _ _)
   (tuple_addW0 t b ([]:List Value).toArray ws.toArray n n2 dd dd2 sl sl2 (by simp)) ⟨ho,ho2,h0⟩
end
inductive zdg (K:Fg) (x:V) (y:V) (H:Hp) (Q:VK):Prop
 | mk:∀a b xs ys,(x = .ref a)->(y = .ref b)->(SqT K H a xs)->(SqT K H b ys)->(xs.length+ys.length<=sizeLine)->((xs=[]->Q (.ref b) H))->((xs≠[]->ys=[]->Q (.ref a) H))->((xs≠[]->ys≠[]->∀p,H p=none->Q (.ref p) (upd H p (.tup (xs++ys)))))->zdg K x y H Q
def ziT (K:Fg):R2:=λx y H Q=>zdg K x y H Q
theorem zeK {X:Cx}:OpR X (binaryOp .Add) (ziT X.K):=by
 intro pins s σ H x y v u Q I rx ry h
 have h':=h
 obtain⟨a,b,xs,ys,rfl,rfl,ha,hb,hz,q0,q1,q2⟩:=h'
 by_cases hx:xs=[]
 ·cases rx
  cases ry
  obtain⟨its,r1,p1,_⟩:=I.tuple ha
  obtain⟨its2,r2,p2,_⟩:=I.tuple hb
  subst hx
  cases r1
  exact zcs p1 p2 ⟨.ref b,H,I,rfl,q0 rfl⟩
 ·exact zeM pins s σ H _ _ v u Q I rx ry ⟨a,b,xs,ys,rfl,rfl,ha,hb,hx,hz,q1 hx,q2 hx⟩
mutual
theorem RdD.same {H H':Hp}(e:zi H H'):∀{v:V}{d:PyData},RdD H v d->RdD H' v d
 | _,_,.non=>.non
 | _,_,.bl b=>.bl b
 | _,_,.int i=>.int i
 | _,_,.str x=>.str x
 | _,_,.tup h r=>.tup (e _ _ h) (vo.same e r)
 | _,_,.lst h r=>.lst (e _ _ h) (vo.same e r)
theorem vo.same {H H':Hp}(e:zi H H'):∀{vs:List V}{ds:List PyData},vo H vs ds->vo H' vs ds
 | _,_,.nil=>.nil
 | _,_,.cons h t=>.cons (RdD.same e h) (vo.same e t)
end
theorem vo.len {H:Hp}:∀{xs:List V}{ds:List PyData},vo H xs ds->xs.length=ds.length
 | _,_,.nil=>rfl
 | _,_,.cons _ t=>by rw[wG,wG,vo.len t]
theorem vo.get {H:Hp}:∀{xs:List V}{ds:List PyData}{i:Nat}{d:PyData},vo H xs ds->ds[i]? = some d->∃x,xs[i]? = some x/\RdD H x d
 | _,_,_,_,.nil,e=>by simp at e
 | _,_,0,_,.cons h _,e=>by simp at e;subst e;exact⟨_,rfl,h⟩
 | _,_,i+1,_,.cons _ t,e=>by
  obtain⟨x,h1,h2⟩:=vo.get t (i:=i) (by simpa using e)
  exact⟨x,by simpa using h1,h2⟩
section
variable {N:List Addr}{σ:St}{H:Hp}{K:Fg}
def vA {α:Type}(xs:List α) (lo hi:Option Int):List α:=(xs.drop (HT.sIx xs.length 0 lo)).take (HT.sIx xs.length xs.length hi - HT.sIx xs.length 0 lo)
end
def rD (x:Rat):PyData:=.tuple [.int x.num,.int (x.den:Int)]
theorem v7 {H:Hp}{p:Addr}{x:Rat}(h:zD H p x):RdD H (.ref p) (rD x):=h.rd
theorem szl {n:Nat}(h:n<=1000):n<=sizeLine:=Wz (xk h)
theorem QI {α:Type}(xs:List α) (j:Nat):vA xs (some (j:Int)) none=xs.drop j:=by
 unfold vA
 rw[HT.sIx_none,HT.sIx_nat]
 rcases Nat.le_total j xs.length with h | h
 ·rw[WX h,wM (by rw[wW];exact wx _)]
 ·rw[Nat.min_eq_right h,Nat.sub_self,List.take_zero,u7 h]
theorem Xk {te:TE}{i:Nat}{u:TS}{D:vt}{σ:St}{H:Hp}(h:te σ H λv H1=>u D (σ.set i (some v)) H1):Vv (zdM te (zO i)) u D σ H:=h
theorem zaa {wi:TI}{g:TG}{tb:TS}{u:TS}{D:vt}{σ:St}{H:Hp}(h:zfu wi g tb { D with nx:=u D } σ H):Vv (zfu wi g tb) u D σ H:=h
theorem zdI {c:TT}{tb:TS}{u:TS}{D:vt}{σ:St}{H:Hp}(h:Vw c tb { D with nx:=u D } σ H):Vv (Vw c tb) u D σ H:=h
inductive Bx (p:Prop):Prop
 | mk (h:p):Bx p
section
variable {X:Cx}
theorem Z5:Bx (PA X [] jV):=⟨zf⟩
theorem xu {e:Expr}{es:List Expr}{te:TE}{t:TA}(ha:Bx (PE X e te)) (hr:Bx (PA X es t)) (hs:starEach (e::es) X.env=(false,eval e X.env)::starEach es X.env:=by rfl):Bx (PA X (e::es) (xJ te t)):=by
 obtain⟨ha⟩:=ha;obtain⟨hr⟩:=hr;exact⟨zd ha hr hs⟩
theorem zcr {es:List Expr}{t:TA}{x1:Nat}{pos:Pos}(h:Bx (PA X es t)):Bx (PE X (.Tuple es x1 pos) (zdR t)):=by
 obtain⟨h⟩:=h;exact⟨xj h⟩
theorem Q0 {es:List Expr}{t:TA}{pos:Pos}(h:Bx (PA X es t)):Bx (PE X (.List es pos) (zjl t)):=by
 obtain⟨h⟩:=h;exact⟨x5 h⟩
theorem XN {i:Nat}{x:Str}{e:Expr}{te:TE}{pos pos':Pos}(hN:X.N.Nodup) (hi:X.N[i]? = some x) (hx:Loc X.env.scope x) (he:Bx (PE X e te)) (hs:swapsWith e (some (.Name x pos')) pos.line X.env=pure false:=by rfl)
  (hf:X.fn x=true\/X.env.scope.names.lookup x=some .local := by first | exact .inl rfl | exact .inr rfl | assumption):Bx (PS X (.Assign [.Name x pos'] e pos) (zdM te (zO i))):=by
 obtain⟨he⟩:=he;exact⟨zQ hN hi hx he hs hf⟩
theorem zC {st:Stmt}{rest:List Stmt}{t u:TS}(h1:Bx (PS X st t)) (h2:Bx (PSs X rest u)):Bx (PSs X (st::rest) (Vv t u)):=by
 obtain⟨h1⟩:=h1;obtain⟨h2⟩:=h2;exact⟨zA h1 h2⟩
end
section
variable {P:Program}{w:World}{K:Fg}{mg:Str->Option Value}{base:Heap}
theorem Df.calB {x:Str}{st:Stmt}{N ps:List Str}{dvs:List V}{k:Nat}{sp:Sp}(D:Df K mg x st ps dvs) (S:zF N ps (zr st)) (len:∀vs H Q E,sp vs H Q E->vs.length=ps.length)
  (hbody:∀(f:Addr) (cdv:Value) (A:Around) (outer:List Env) (s:Shared) (H:Hp) (vs:List V) (Q:VK) (E:XK),xn k (A.deeper (envOfC x (zr st) s.heap.objs.size f cdv))->sp vs H Q E →
   ∃t,Bx (PSs (jh CX0 P w K mg base N x (zr st) f cdv A outer s H E).nox (xC st) t)/\t { nx:=λ_ H'=>Q .non H',rt:=Q } (vq N vs) H):Cal P w K mg base x (k+1) ps dvs sp :=
 D.cal S len λf cdv A outer s H vs Q E hr h=>by
  obtain⟨t,⟨p⟩,q⟩:=hbody f cdv A outer s H vs Q E hr h
  exact⟨t,p,q⟩
end
abbrev Vz:List Value:=[.type "ValueError",.type "Exception",.type "BaseException",.type "object"]
section
variable {prog:Program}{w:World}{A:Around}{E:Value->Shared->Prop}{h:Heap}{g:Array GenState}{d:Drawn}{t:Nat}{os:OsState}
variable {nm qn:Str}{C N:Addr}{bs bm:List Value}{hd:Bool}{sn:List Str}{sub:List Value}{ab:Bool}{col:Option Bool}{dd:Option Addr}{k0 k1 k2 k3 k5:Option Value}
theorem Jw (T:OwnTail h Vz bm){mN:Str->Option Value}{us:List Value}{fI:Addr}{oI:Obj}{Q:Fin->Shared->Prop}(hC:h.get? C=some (excClassObj nm qn C N bs bm hd sn sub ab col dd k0 k1 k2 k3 k5 "ValueError.__new__")) (hn:h.Ns N mN)
  (hi:mN "__init__" = some (.ref fI)) (hf:h.get? fI=some oI) (hfc:oI.cls = .type "function") (hz:us.length<=sizeLine)
  (hq:∀h2 e,Heap.MadeExcOf h h2 e (.ref C) us->wpAny (model prog w) A (call (.ref fI) (.ref e::us)) (λr s2=>r = .none/\Q (.done (.ret (.ref e))) s2) E ⟨h2,g,d,t,os⟩) :
  wpAny (model prog w) A (Builtin.«type.__call__» ⟨.ref C::us,[]⟩) Q E ⟨h,g,d,t,os⟩:=by
 have FV:=Ww
 repeat (first | (with_reducible refine uG hC ?_) | (with_reducible refine wpAny_madeBy_exc hC ?_) | wp_step)
 refine codeAny_call_builtin_code (Code.quiet_builtin _ FV.quiet) (wpAny_check_new_subU FV (by decide +kernel) T hC ?_)
 refine codeAny_exc_new_subU FV (by decide +kernel) FV T hC ?_ hz
 show wpAny _ _ _ _ _ _
 generalize ho:({ cls:=.ref C,data:=.fields #[.ref h.objs.size,.none,.none,.none,.bool false,.none] }:Obj)=oe
 generalize ht:({ cls:=.type "tuple",data:=.seq us.toArray }:Obj)=ot
 have kp:∀b o,h.get? b=some o->((h.push ot).push oe).get? b=some o:=λb o q=>wd oe (wd ot q)
 have hC2:=kp _ _ hC
 have hf2:=kp _ _ hf
 have hn2:((h.push ot).push oe).Ns N mN:=let ⟨o,es,ep,e,r⟩:=hn;⟨o,es,ep,kp _ _ e,r⟩
 have hg:((h.push ot).push oe).get? (h.objs.size+1)=some oe:=by
  have:=wB (h.push ot) (o:=oe) (by rw[<-ho];rfl)
  rwa [yw]at this
 have hgt:((h.push ot).push oe).get? h.objs.size=some ot:=wd oe (wB h (by rw[<-ht];rfl))
 have hcls:oe.cls = .ref C:=by rw[<-ho]
 have hsub:(Value.ref C::bm).contains (.ref C)=true:=by simp
 unfold isInstance
 repeat (first | (with_reducible refine uG hg ?_;rw[hcls]) | (with_reducible refine wpAny_isSubtype_exc hC2 ?_;rw[hsub]) | wp_step)
 show wpAny _ _ (typeLookup (.ref C) _) _ _ _
 refine wpAny_typeLookup_tail hC2 hn2 (T.keeps kp) FV.mroIs FV.init.lookup ?_
 rw[hi]
 refine yh (wc ?_)
 unfold bindSpecial
 refine wc (Wf (T:="function") ⟨_,hf2,hfc⟩ ?_)
 rw[if_pos (by decide)]
 refine wo (wc (yu (hq _ (h.objs.size+1) ⟨kp,Wj (Nat.le_succ _),h.objs.size,by rw[hg,<-ho],Wj (wx _),by rw[hgt,<-ht]⟩) (λr s2 hr=>?_) λ_ _ x=>x))
 obtain⟨rfl,hQ⟩:=hr
 wp_walk
 exact hQ
theorem zah (T:OwnTail h Vz bm){mN:Str->Option Value}{us:List Value}{fI:Addr}{oI:Obj}{Q:Value->Shared->Prop}(hC:h.get? C=some (excClassObj nm qn C N bs bm hd sn sub ab col dd k0 k1 k2 k3 k5 "ValueError.__new__")) (hn:h.Ns N mN)
  (hi:mN "__init__" = some (.ref fI)) (hf:h.get? fI=some oI) (hfc:oI.cls = .type "function") (hz:us.length<=sizeLine)
  (hq:∀h2 e,Heap.MadeExcOf h h2 e (.ref C) us->wpAny (model prog w) (A.under (.builtin "type.__call__" ⟨.ref C::us,[]⟩)) (call (.ref fI) (.ref e::us)) (λr s2=>r = .none/\Q (.ref e) s2) E ⟨h2,g,d,t,os⟩) :
  wpAny (model prog w) A (call (.ref C) us) Q E ⟨h,g,d,t,os⟩:=by
 have c1:=tc_lookup
 have c2:=tc_bind (.ref C)
 have hT:(⟨h,g,d,t,os⟩:Shared).TypeIs (.ref C) "type":=⟨_,hC,rfl⟩
 refine Wo (codeAny_of_tree ?_)
 show wpAny _ _ (callAny (.ref C) _) _ _ _
 repeat (any_goals (first | assumption | (with_reducible refine uG hC ?_) | wp_step))
 refine⟨rfl,?_⟩
 exact codeAny_call_builtin_at (Code.quiet_builtin _ (by decide +kernel)) entry_typeCall (wpAny_check_type_call_sub hC (Jw T hC hn hi hf hfc hz λh2 e hm=>hq h2 e hm))
end
open PySem.W
def XO (a C:Addr) (dct:Option Addr):HO:=.ext λh=>∃ox vs,h.get? a=some ox/\ox.cls = .ref C/\ox.data = .fields vs/\ox.dict=dct/\(∃t0,vs[0]? = some (.ref t0))/\vs[1]? = some .none
theorem zdY {P:Program}{w:World}{H:Hp}{h:Heap}{a C:Addr}{dct:Option Addr}{ox:Obj}{vs:Array Value}(e:h.get? a=some ox) (c:ox.cls = .ref C) (d:ox.data = .fields vs) (k:ox.dict=dct){t0:Addr}(h0:vs[0]? = some (.ref t0)) (hv:vs[1]? = some .none):xy P w H h a (XO a C dct) :=
 ⟨⟨ox,vs,e,c,d,k,⟨t0,h0⟩,hv⟩,⟨ox,e⟩,λh1 h2 ⟨o,us,e1,r⟩ q=>⟨o,us,q _ e1,r⟩⟩
theorem VB {P:Program}{w:World}{H:Hp}{h:Heap}{a C:Addr}{dct:Option Addr}(x:HOk P w H h) (e:H a=some (XO a C dct)):∃ox vs,h.get? a=some ox/\ox.cls = .ref C/\ox.data = .fields vs/\ox.dict=dct/\(∃t0,vs[0]? = some (.ref t0))/\vs[1]? = some .none :=
 (show xy P w H h a (XO a C dct)from x a _ e).1
section
variable {P:Program}{w:World}{H:Hp}{h h2:Heap}{a:Addr}{o:HO}
theorem jH (x:HOk P w H h) (e:h.get? a=none):H a=none:=by
 cases q:H a with
 | none=>rfl
 | some u =>
  obtain⟨ob,z⟩:=xy.obj (x a u q)
  rw[e]at z;cases z
theorem zbD (x:HOk P w H h) (k:∀b u,h.get? b=some u->h2.get? b=some u) (e:h.get? a=none) (new:xy P w (upd H a o) h2 a o):HOk P w (upd H a o) h2:=λb u q=>by
 have hn:=jH x e
 by_cases hb:b=a
 ·subst hb;rw[zg]at q;cases q;exact new
 ·rw[zE hb]at q
  exact(x b u q).stay (λc v _ z=>k c v z) (λc z=>by rw[zE (zG z hn)];exact z) λc xs z=>by rw[zE (zG z hn)];exact z
theorem Jq {fs ex:List Addr}(k:∀b u,h.get? b=some u->h2.get? b=some u) (e:h.get? a=none) (hn:H a=none):Un fs ex H (upd H a o) h h2 where
 keep:=λb u q _ _ _=>k b u q
 slot:=λb u q _ _ _=>⟨u.slots,k b u q⟩
 free:=λb u q n _=>by rw[zE (λz=>by subst z;rw[e]at q;cases q)];exact n
 there:=λb u q _=>⟨u,k b u q⟩
 tups:=λb xs q=>by rw[zE (zG q hn)];exact q
 frzs:=λb u xs q=>by rw[zE (zG q hn)];exact q
 tbls:=λb ps q=>⟨#[],by rw[zE (zG q hn),q];simp⟩
end
section
variable {X:Cx}{pins:List (Addr×Obj)}{σ:St}{H:Hp}{s:Shared}{h2:Heap}
theorem zbE {a:Addr}{o:HO}{t2:Nat}(I:Inv X pins σ H s) (k:∀b u,s.heap.get? b=some u->h2.get? b=some u) (e:s.heap.get? a=none) (new:xy X.prog X.w (upd H a o) h2 a o) :
  Inv X pins σ (upd H a o) { s with heap:=h2,toks:=t2 }:=I.un (Jq k e (jH I.hok e)) (zbD I.hok k e new)
theorem zcM {C e:Addr}{us:List Value}{t2:Nat}(I:Inv X pins σ H s) (m:Heap.MadeExcOf s.heap h2 e (.ref C) us):Inv X pins σ (upd H e (XO e C none)) { s with heap:=h2,toks:=t2 }:=by
 obtain⟨tt,h1,_,_⟩:=m.there
 exact zbE I m.keeps m.new (zdY h1 rfl rfl rfl (t0:=tt) rfl rfl)
end
def Xq:List Value->Bool
 | .ref _::r=>Xq r
 | l=>l == Vz
theorem ZJ (self:Value):∀{l:List Value},Xq l=true->refuseLoop self "__setattr__" l=pure ()
 | l,e=>by
  unfold Xq at e
  split at e
  ·rw[refuseLoop_ref];exact ZJ self e
  ·rw[show l=Vz from beq_iff_eq.mp e];exact PySem.F.store_ValueError.passes self
section
variable {prog:Program}{w:World}{A:Around}{s:Shared}{K:Fg}{x C:Addr}{ox:Obj}{od:Option Obj}{name:Str}{v:Value}
theorem zeN {tk:Tok}{cd:ClassData}{R:Result->Shared->Prop}(X:K.In s.heap) (I:InstAt s.heap x ox C od) (hc:clsIn K C=some cd) (ho:Xq cd.mro=true) (hob:mroIn K C (.type "object")=some true) (ha:findIn K (.ref C) name=some none)
  (h:wpAny (model prog w) A.in1 (Builtin.ObjectAttr.storeInOwnDict (.ref x) (.ref C) (.str name tk) name v false)
   (λfin s2=>match fin with | .done f=>R (.ok f) s2 | .again c2=>c2.quiet=true/\codeAny (model prog w) A c2 R s2) (λe s2=>R (.error e) s2) s) :
  codeAny (model prog w) A (.call (.builtin "object.__setattr__") ⟨[.ref x,.str name tk,v],[]⟩) R s:=by
 have SF:=PySem.F.store_object
 have sub:Looks (model prog w) s.heap (isInstance (.ref x) (.type "object")) true:=I.type.andThen (looks_mroIn X hob)
 refine codeAny_call_builtin SF.slot.plain SF.entry (@check_slot (model prog w) _ _ s "object.__setattr__" "object" "__setattr__" (.ref x) [.str name tk,v] [] _ SF.kind SF.split sub (SF.args (.ref x) (.str name tk) v) ?_)
 have hm:Looks (model prog w) s.heap (mroOf (.ref C)) cd.mro:=(looks_clsIn X hc).andThen .now
 have L3:Looks (model prog w) s.heap (Builtin.ObjectAttr.storeTaker? none) none:=.now
 rw[osa_eq,refuse_eq]
 refine wc (wc (I.type.here (wc (hm.here ?_))))
 rw[ZJ _ ho]
 refine wo (wc (I.type.here (wc ((looks_findIn X ha).here (wc (L3.here ?_))))))
 exact h
theorem zfh {E:Value->Shared->Prop}{Q:Unit->Shared->Prop}{vs:Array Value}{cd:ClassData}(X:K.In s.heap) (hx:s.heap.get? x=some ox) (hcl:ox.cls = .ref C) (hdt:ox.data = .fields vs) (hdn:ox.dict=none) (hc:clsIn K C=some cd) (hh:cd.hasDict=true) (ho:Xq cd.mro=true)
  (hob:mroIn K C (.type "object")=some true) (hs:findIn K (.ref C) "__setattr__" = some (some (.builtin "object.__setattr__"))) (ha:findIn K (.ref C) name=some none)
  (h:∀h2,h2.get? x=some { ox with dict:=some s.heap.objs.size }->h2.Ns1 s.heap.objs.size (λy=>if y=name then some v else none)->(∀b o,b≠x->s.heap.get? b=some o->h2.get? b=some o)->Q () { s with heap:=h2,toks:=s.toks+2 }) :
  wpAny (model prog w) A (setAttr (.ref x) name v) Q E s:=by
 have I:InstAt s.heap x ox C none:=⟨hx,hcl,by unfold notCls;rw[hdt],by rw[hdn];trivial⟩
 refine set_plain X I hs (zeN (s:={ s with toks:=s.toks+1 }) X I hc ho hob ha ?_)
 obtain⟨hp,g,d,t,os⟩:=s
 obtain⟨oc,odi,oda,osl⟩:=ox
 dsimp only at hcl hdt hdn hx h
 subst hcl hdt hdn
 have hx1:(hp.push { cls:=.type "dict",data:=.dict #[] }).get? x=some ⟨.ref C,none,.fields vs,osl⟩:=wd _ hx
 have hxs:x≠hp.objs.size:=wO (wA hx)
 refine wc (wo (wc (wc (wpAny_loadPart hx (wc (PySem.W.Looks.here (s:=⟨hp,g,d,t+1,os⟩) (looks_clsIn X hc) ?_))))))
 rw[hh]
 rw[if_neg (by decide),if_neg (by simp[typeHasDict])]
 refine wc (wpAny_alloc' ?_)
 refine wc (wpAny_update' hx1 ?_)
 refine wo ?_
 have u1:((hp.push { cls:=.type "dict",data:=.dict #[] }).update x λo=>{ cls:=o.cls,dict:=some hp.objs.size,data:=o.data,slots:=o.slots }).get? hp.objs.size=some { cls:=.type "dict",data:=.dict #[] }:=(uL _ _ _ _ hxs.symm).trans (Heap.get?_push_at rfl rfl)
 have u2:((hp.push { cls:=.type "dict",data:=.dict #[] }).update x λo=>{ cls:=o.cls,dict:=some hp.objs.size,data:=o.data,slots:=o.slots }).get? x=some ⟨.ref C,some hp.objs.size,.fields vs,osl⟩:=yp _ hx1 rfl
 have u3:∀b o,b≠x->hp.get? b=some o->((hp.push { cls:=.type "dict",data:=.dict #[] }).update x λo=>{ cls:=o.cls,dict:=some hp.objs.size,data:=o.data,slots:=o.slots }).get? b=some o:=λb o hb q=>(uL _ _ _ _ hb).trans (wd _ q)
 generalize ((hp.push { cls:=.type "dict",data:=.dict #[] }).update x λo=>{ cls:=o.cls,dict:=some hp.objs.size,data:=o.data,slots:=o.slots })=h1 at u1 u2 u3
 have u4:h1.Ns hp.objs.size (λ_=>none):=⟨_,#[],_,u1,rfl,λe he=>absurd he (by simp),λ_=>rfl⟩
 show wpAny _ _ (Builtin.ObjectAttr.storeInDict hp.objs.size (.str name t) name v) _ _ _
 unfold Builtin.ObjectAttr.storeInDict Builtin.ObjectAttr.newKeyGuard
 refine wc (wo (wc (wpAny_nsSet1 (Heap.Ns1.of_empty u4) λh2 n2 s2=>?_)))
 obtain⟨oD,eD,pD,g1,g2,g3⟩:=n2.count (Within.cons name v Within.nil)
 refine wc (wpAny_lookBehind g1 (by rw[g2];exact pastItsLine_dict (wS g3 (by rw[wG,yJ,sizeLine_eq];omega))) ?_)
 exact wo (h h2 ((s2.2 x hxs).trans u2) n2 λb o hb q=>(s2.2 b (wO (wA q))).trans (u3 b o hb q))
end
structure zcj (K:Fg) (C:Addr) (cd:ClassData):Prop where
 hc:clsIn K C=some cd
 hh:cd.hasDict=true
 ho:Xq cd.mro=true
 ob:mroIn K C (.type "object")=some true
 sa:findIn K (.ref C) "__setattr__" = some (some (.builtin "object.__setattr__"))
section
variable {X:Cx}{pins:List (Addr×Obj)}{σ:St}{H:Hp}{s:Shared}{h2:Heap}
theorem zcN {a C dx:Addr}{fs:List (Str×V)}{mA:Str->Option Value}{t2:Nat}{ox:Obj}{vs:Array Value}(I:Inv X pins σ H s) (ea:H a=some (XO a C none)) (hd:s.heap.objs.size<=dx) (e1:h2.get? a=some ox) (c1:ox.cls = .ref C) (d1:ox.data = .fields vs) (k1:ox.dict=some dx){t0:Addr}(h0:vs[0]? = some (.ref t0)) (hv:vs[1]? = some .none)
  (n1:h2.Ns1 dx mA) (r1:∀f,ZY (fs.lookup f) (mA f)) (k:∀b o,b≠a->s.heap.get? b=some o->h2.get? b=some o) :
  Inv X pins σ (upd (upd H dx (.xd fs)) a (XO a C (some dx))) { s with heap:=h2,toks:=t2 }:=by
 have hn:H dx=none:=I.hok.fresh hd
 have nda:dx≠a:=λz=>by subst z;rw[hn]at ea;cases ea
 have lt:∀b o,s.heap.get? b=some o->b≠dx:=λb o q=>wO (wK (wA q) hd)
 have na:∀b,H b=none->b≠a:=λb n z=>by subst z;rw[n]at ea;cases ea
 have two:∀b u,H b=some u->b≠a->upd (upd H dx (.xd fs)) a (XO a C (some dx)) b=some u:=λb u q z=>by rw[zE z,zE (zG q hn)];exact q
 refine I.un ⟨λb u q n _ _=>k b u (na b n) q,λb u q n _ _=>⟨u.slots,k b u (na b n) q⟩,λb u q n _=>by rw[zE (na b n),zE (lt b u q)];exact n,λb u q _=>?_,
  λb xs q=>two b _ q (λz=>by subst z;rw[ea]at q;cases q),λb u xs q=>two b _ q (λz=>by subst z;rw[ea]at q;cases q),λb ps q=>⟨#[],by rw[two b _ q (λz=>by subst z;rw[ea]at q;cases q)];simp⟩⟩ ?_
 ·by_cases hb:b=a
  ·subst hb;exact⟨_,e1⟩
  ·exact⟨u,k b u hb q⟩
 ·intro b u q
  by_cases hb:b=a
  ·subst hb;rw[zg]at q;cases q;exact zdY e1 c1 d1 k1 h0 hv
  ·rw[zE hb]at q
   by_cases hbd:b=dx
   ·subst hbd;rw[zg]at q;cases q;exact⟨mA,n1,r1⟩
   ·rw[zE hbd]at q
    have hown:∀c y,H c=some (.own y)->c≠a:=λc y r z=>by subst z;rw[ea]at r;cases r
    refine(I.hok b u q).stay (λc v hc r=>k c v ?_ r) (λc r=>two c _ r (hown c b r)) λc xs r=>two c _ r (λz=>by subst z;rw[ea]at r;cases r)
    rcases hc with rfl | hc
    ·exact hb
    ·exact hown c b hc
theorem JL {a C:Addr}{t2:Nat}{ox:Obj}{vs:Array Value}(I:Inv X pins σ H s) (ea:H a=some (XO a C none)) (e1:h2.get? a=some ox) (c1:ox.cls = .ref C) (d1:ox.data = .fields vs) (k1:ox.dict=none){t0:Addr}(h0:vs[0]? = some (.ref t0)) (hv:vs[1]? = some .none)
  (k:∀b o,b≠a->s.heap.get? b=some o->h2.get? b=some o):Inv X pins σ (upd H a (XO a C none)) { s with heap:=h2,toks:=t2 } :=
 I.write (x:=a) (e:=a) (by rw[ea];exact trivial) (.inl rfl) k ⟨_,e1⟩ (zdY e1 c1 d1 k1 h0 hv)
end
def sXF (K:Fg) (ta tv:TE) (f:Str):TS:=λD σ H=>tv σ H λy H1=>ta σ H1 λx H2=>∃a C cd,x = .ref a/\H2 a=some (XO a C none)/\zcj K C cd/\xU K C f ∧
 ∀dx,H2 dx=none->D.nx σ (upd (upd H2 dx (.xd [(f,y)])) a (XO a C (some dx)))
theorem zfS {X:Cx}{o value:Expr}{f:Str}{pos pos':Pos}{ta tv:TE}(ha:PE X o ta) (hv:PE X value tv) (hs:swapsWith value (some (.Attribute o f pos')) pos.line X.env=pure false):PS X (.Assign [.Attribute o f pos'] value pos) (sXF X.K ta tv f):=by
 intro pins s σ H D I h
 refine plainObj_wpAny_Assign_Attribute (thn (hv pins s σ H _ I h) λu s1 ⟨y,H1,I1,ry,q⟩=>thn (ha pins s1 σ H1 _ I1 q) λov s2 ⟨x,H2,I2,rx,a,C,cd,ex,ea,S,n,q2⟩=>?_) hs
 subst ex
 obtain rfl:ov=Value.ref a:=rx
 obtain⟨ox,vs,g1,g2,g3,g4,⟨t0,h0⟩,hv1⟩:=VB I2.hok ea
 refine zfh I2.kIn g1 g2 g3 g4 S.hc S.hh S.ho S.ob S.sa n λh2 e1 n1 k1=>?_
 refine⟨σ,_,zcN (fs:=[(f,y)]) I2 ea (wx _) e1 g2 g3 rfl h0 hv1 n1 (λg=>?_) k1,q2 _ I2.fresh⟩
 show ZY (List.lookup g [(f,y)]) (if g=f then some u else none)
 by_cases z:g=f
 ·rw[if_pos z,show List.lookup g [(f,y)]=some y by simp[List.lookup,z]];exact ry
 ·rw[if_neg z,show List.lookup g [(f,y)]=none by simp[List.lookup,beq_eq_false_iff_ne.mpr z]];exact trivial
def XB (h:Heap) (C:Addr):Prop:=∃nm qn N bs bm hd sn sub ab col dd k0 k1 k2 k3 k5 ni,h.get? C=some (excClassObj nm qn C N bs bm hd sn sub ab col dd k0 k1 k2 k3 k5 ni)/\OwnTail h Vz bm
section
variable {prog:Program}{w:World}{A:Around}{E:Value->Shared->Prop}{s:Shared}
theorem zbo {a C:Addr}{y:Value}{t0:Addr}{vs:Array Value}{osl:Array (Option Value)}{Q:Value->Shared->Prop}(hx:s.heap.get? a=some ⟨.ref C,none,.fields vs,osl⟩) (B:XB s.heap C) (h0:vs[0]? = some (.ref t0))
  (h:∀h2 us t1,h2.get? a=some ⟨.ref C,none,.fields us,osl⟩->us[0]? = some (.ref t1)->us[1]? = vs[1]?->(∀b o,b≠a->s.heap.get? b=some o->h2.get? b=some o)->Q .none { s with heap:=h2 }) :
  wpAny (model prog w) A (call (.builtin "ValueError.__init__") [.ref a,y]) Q E s:=by
 have FV:=Ww
 obtain⟨nm,qn,N,bs,bm,hd,sn,sub,ab,col,dd,k0,k1,k2,k3,k5,ni,hC,T⟩:=B
 obtain⟨hp,g,d,t,os⟩:=s
 dsimp only at hx hC T h
 refine Wo (codeAny_call_builtin FV.init.plain FV.initEntry (wpAny_check_init_subU FV T hC hx rfl ?_))
 wp_walk
 rw[h0]
 wp_walk
 rw[if_pos (by cases q:vs.size with | zero=>(rw[Array.getElem?_eq_none (by omega)]at h0;cases h0) | succ n=>omega)]
 have hx1:(hp.push { cls:=.type "tuple",data:=.seq #[y] }).get? a=some ⟨.ref C,none,.fields vs,osl⟩:=wd _ hx
 refine wpAny_update' hx1 ?_
 wp_walk
 have hz:0<vs.size:=by cases q:vs.size with | zero=>(rw[Array.getElem?_eq_none (by omega)]at h0;cases h0) | succ n=>omega
 exact h _ (vs.setIfInBounds 0 (.ref hp.objs.size)) hp.objs.size (yp _ hx1 rfl) (by rw[Array.getElem?_setIfInBounds_self_of_lt hz]) (by rw[u9 (by decide)]) λb o hb q=>(uL _ _ _ _ hb).trans (wd _ q)
end
theorem XB.keeps {h h2:Heap}{C:Addr}(B:XB h C) (k:∀b o,h.get? b=some o->h2.get? b=some o):XB h2 C:=by
 obtain⟨nm,qn,N,bs,bm,hd,sn,sub,ab,col,dd,k0,k1,k2,k3,k5,ni,hC,T⟩:=B
 exact⟨nm,qn,N,bs,bm,hd,sn,sub,ab,col,dd,k0,k1,k2,k3,k5,ni,k _ _ hC,T.keeps k⟩
structure XUp (K:Fg) (C0:Addr) (mc:Value):Prop where
 rd:readsIn K C0 mc=true
 ga:specialIn K (.ref C0) "__getattribute__" = some (some (.builtin "type.__getattribute__"))
 it:findCls K (.ref C0) mc "__init__" = some (.val (.builtin "ValueError.__init__"))
inductive zjr (B:Heap) (Q:VK) (vs:List V) (H1:Hp):Prop
 | mk:∀a C y,(vs=[.ref a,y])->(H1 a=some (XO a C none))->(XB B C)->(Q .non (upd H1 a (XO a C none)))->zjr B Q vs H1
def tXI (B:Heap) (t:TA):TE:=λσ H Q=>t σ H λvs H1=>zjr B Q vs H1
section
variable {X:Cx}{x:Str}{C C0 f:Addr}{mc:Value}{p pos apos:Pos}{e:Expr}{es:List Expr}{t:TA}
theorem zfR {pl:Sem Bool}(U:XUp X.K C0 mc) (hm:X.mg x=some (.ref C0)) (ha:PA X (e::es) t) (hg:Gl X x:=by rfl) (hdb:(x == ("__debug__":Str))=false:=by decide)
  (hst:starEach (e::es) X.env=(false,eval e X.env)::starEach es X.env:=by rfl) (hpl:(backTo pos (starEach es X.env)).any (·.1)=false:=by rfl)
  (ht:eval (.Call (.Attribute (.Name x p) "__init__" apos) (e::es) [] pos) X.env=(do
   let ov <-eval (.Name x p) X.env
   standAt apos.atName
   let (f,first) <-holding [ov] (getMethod ov "__init__" pl)
   callWith pos f first (backTo pos (starEach (e::es) X.env)) (backToKw pos (keywordEach [] X.env))):=by rfl) :
  PE X (.Call (.Attribute (.Name x p) "__init__" apos) (e::es) [] pos) (tXI X.base t):=by
 intro pins s σ H Q I h
 refine methodCall_KW (pl:=pl) (jX I hg hm ?_ hdb) ht
 refine method_cls I.kIn U.ga (cls_value I.kIn U.rd U.it rfl ?_)
 refine callWith_builtin1 (thn (ha pos pins _ σ H _ (I.tok _) h) λus s1 ⟨vs,H1,I1,r,a,C,y,ev,ea,B,q⟩=>?_) hst hpl
 subst ev
 obtain⟨u,w,rfl,r1,r2⟩:=Jt r
 cases(show u=Value.ref a from r1)
 obtain⟨⟨oc,odi,oda,osl⟩,vs,g1,g2,g3,g4,⟨t0,h0⟩,hv1⟩:=VB I1.hok ea
 dsimp only at g2 g3 g4
 subst g2 g3 g4
 refine zbo g1 (B.keeps I1.bk) h0 λh2 us t1 e1 e2 e3 k1=>?_
 exact⟨.non,_,JL (t2:=s1.toks) I1 ea e1 rfl rfl rfl e2 (e3.trans hv1) k1,rfl,q⟩
structure XMk (K:Fg) (B:Heap) (C f:Addr):Prop where
 obj:∃nm qn N bs bm hd sn sub ab col dd k0 k1 k2 k3 k5 mN,B.get? C=some (excClassObj nm qn C N bs bm hd sn sub ab col dd k0 k1 k2 k3 k5 "ValueError.__new__")/\B.Ns N mN/\mN "__init__" = some (.ref f)/\OwnTail B Vz bm
 fn:∃oI,B.get? f=some oI/\oI.cls = .type "function"
 kp:keepIn K (.ref C)=true
end
def XT (a:Addr) (H:Hp):Hp:=λb=>if b=a then none else H b
theorem Z7 {a:Addr}{H:Hp}:XT a H a=none:=if_pos rfl
theorem qF {a b:Addr}{H:Hp}(h:b≠a):XT a H b=H b:=if_neg h
section
variable {P:Program}{w:World}{H H1:Hp}{h h1:Heap}{a C:Addr}{dct:Option Addr}{fs:List Addr}
theorem zen (x:HOk P w H h) (ea:H a=some (XO a C dct)):HOk P w (XT a H) h:=λb u q=>by
 by_cases hb:b=a
 ·subst hb;rw[Z7]at q;cases q
 ·rw[qF hb]at q
  exact(x b u q).stay (λ_ _ _ r=>r) (λc r=>by rw[qF (λz=>by subst z;rw[ea]at r;cases r)];exact r) λc xs r=>by rw[qF (λz=>by subst z;rw[ea]at r;cases r)];exact r
theorem zhY (u:Un fs [] H H1 h h1) (n:H a=none):Un fs [] H (XT a H1) h h1 where
 keep:=u.keep
 slot:=u.slot
 free:=λb o q n hx=>by
  by_cases hb:b=a
  ·subst hb;exact Z7
  ·rw[qF hb];exact u.free b o q n hx
 there:=u.there
 tups:=λb xs q=>by rw[qF (zG q n)];exact u.tups b xs q
 frzs:=λb o xs q=>by rw[qF (zG q n)];exact u.frzs b o xs q
 tbls:=λb ps q=>by rw[qF (zG q n)];exact u.tbls b ps q
end
section
variable {M:Model}{A:Around}{E:Value->Shared->Prop}{s:Shared}{B:Heap}{env:Env}{outer:List Env}{L e:Addr}{a0:Value}{oe:Obj}{vs:Array Value}{Q:Unit->Shared->Prop}
theorem JP (hfr:A.frames=some (env::outer)) (hf:env.frame=some L) (hB:B.StaysIn s.heap) (hl:s.heap.FunFrames B (env::outer)) (hn:B.get? e=none) (he:s.heap.get? e=some oe) (hd:oe.data = .fields vs) (h1:vs[1]? = some .none) (h0:vs[0]? = some a0)
  (q:∀h',FlX B outer e oe.cls a0 oe.dict h'->s.heap.UpToSlots h'->Q () { s with heap:=h' }):wpAny M A (leaving env (.ref e)) Q E s:=by
 unfold leaving
 refine wc (JV (a0:=a0) hfr hl hf he hB hn hd h1 h0 λh' x1 x2 x3 x4=>?_)
 refine zaA (s:={ s with heap:=h' }) ⟨x1,hn,x2,_,x3⟩ λh2 z up2=>?_
 obtain⟨z1,z2,⟨_,_,z3⟩,z4⟩:=z
 exact q h2 ⟨z1,z2,z3,z4⟩ (x4.trans up2)
end
def Qz (X:Cx) (J:XJ):Prop:=∀(pins:List (Addr×Obj)) (σ:St) (H:Hp) (s:Shared) (a C:Addr) (H':Hp) (s':Shared) (dct:Option Addr),
 Inv X pins σ H s->s.heap.get? a=none->s'.os=s.os->AllBare s'.gens->Un (frs X.stack) [] H H' s.heap s'.heap->HOk X.prog X.w H' s'.heap->H' a=some (XO a C dct)->J C dct σ (XT a H')->X.xe (.ref a) s'
section
variable {P:Program}{w:World}{K:Fg}{mg:Str->Option Value}{base:Heap}{N:List Str}{qual:Str}{scope:Scope}{f:Addr}{cd:Value}{A:Around}{outer:List Env}{s:Shared}{H:Hp}{E:XK}
theorem Zk:Qz (jh (CX1 P w) P w K mg base N qual scope f cd A outer s H E) (EJ E):=by
 intro pins σ H1 s1 a C H' s' dct I new eos bare un hok ea q
 obtain⟨hh,g,d,t,os'⟩:=s'
 have e:os'=s1.os:=eos
 subst e
 have I':=I.call' (s':=⟨hh,g,d,t,s1.os⟩) rfl un hok bare (λb z=>absurd z (by simp))
 obtain⟨ox,vs,g1,g2,g3,g4,⟨t0,h0⟩,hv⟩:=VB hok ea
 have hH1:H1 a=none:=jH I.hok new
 generalize hl:a::frs (jh (CX1 P w) P w K mg base N qual scope f cd A outer s H E).stack=l
 have hin:∀b o,hh.get? b=some o->b∉l->(PySem.W.hideAll hh l).get? b=some o:=λb o e n=>PySem.W.hideAll_get _ e n
 have hst:(PySem.W.hideAll hh l).StaysIn hh:=λb o q=>PySem.W.of_hideAll _ q
 have hff:hh.FunFrames (PySem.W.hideAll hh l) (jh (CX1 P w) P w K mg base N qual scope f cd A outer s H E).stack :=
  PySem.W.funFrames_hide I'.stack λenv he b hb=>by rw[<-hl];exact wP _ (WA.mpr ⟨env,he,hb⟩)
 have hna:(PySem.W.hideAll hh l).get? a=none:=PySem.W.hideAll_none _ (by rw[<-hl];exact wJ)
 have nl:∀b,b≠a->b∉frs (jh (CX1 P w) P w K mg base N qual scope f cd A outer s H E).stack->b∉l:=λb x y z=>by
  rw[<-hl]at z
  rcases wy.mp z with r | r
  ·exact x r
  ·exact y r
 refine JP (L:=s.heap.objs.size) (B:=PySem.W.hideAll hh l) (s:=⟨hh,g,d,t,s1.os⟩) I.ok.frames rfl hst hff hna g1 g3 hv h0 λh' fl up=>?_
 rw[g2,g4]at fl
 have ud:=zhY (a:=a) un hH1
 have z:=zcI (g:=g) (d:=d) (t:=t) (h1:=hh) (C:=C) I rfl (λb hb=>wP _ hb) ud (λb o e n=>by
   have hb:b≠a:=λz=>by subst z;rw[new]at e;cases e
   obtain⟨o',ho'⟩:=un.there b o e wQ
   exact⟨⟨o',hin b o' ho' (nl b hb n)⟩,λhn=>hin b o (un.keep b o e hn n wQ) (nl b hb n)⟩)
  (λb u e=>by
   by_cases hb:b=a
   ·subst hb;rw[Z7]at e;cases e
   ·rw[qF hb]at e
    obtain⟨o,ho⟩:=(hok b u e).obj
    exact⟨o,hin b o ho (nl b hb λz=>by rw[I'.stkFree b z]at e;cases e)⟩) (zen hok ea) hst hff up fl bare
 exact⟨a,C,XT a H',_,_,_,rfl,z,q⟩
end
section
variable {M:Model}{A:Around}{E:Value->Shared->Prop}{s:Shared}{env:Env}
theorem zbU {x:Expr}{pos:Pos}{Q:Flow->Shared->Prop}(hh:A.handled=none)
  (h:wpAny M A (eval x env) (λv s₁=>∃e C ox,v = .ref e/\s₁.heap.get? e=some ox/\ox.cls = .ref C/\(∃vs,ox.data = .fields vs/\vs[1]? = some .none)/\XB s₁.heap C/\E (.ref e) s₁) E s) :
  wpAny M A (exec (.Raise (some x) none pos) env) Q E s:=by
 rw[arm_exec_Raise]
 simp only[evalOpt,Option.map]
 refine wc (ul ?_)
 unfold raiseStmt
 refine wc (wc (yu h (λv s₁ h₁=>wc (ul (wo ?_))) λ_ _ x=>x))
 obtain⟨e,C,ox,rfl,he,hc,⟨vs,hdt,hv⟩,⟨nm,qn,N,bs,bm,hd,sn,sub,ab,col,dd,k0,k1,k2,k3,k5,ni,hC,T⟩,hE⟩:=h₁
 have hcB:(Value.ref C::bm).contains (.type "BaseException")=true:=by rw[List.contains_cons,T.hasType (show Vz.contains (.type "BaseException")=true by decide +kernel),Bool.or_true]
 obtain⟨hp,g,d,tk,os⟩:=s₁
 obtain⟨oc,odi,oda,osl⟩:=ox
 dsimp only at hc hdt
 subst hc hdt
 repeat (first | (with_reducible refine wZ he rfl hv ?_) | with_reducible refine uG he ?_ | with_reducible refine uG hC ?_ | (with_reducible refine wpAny_isSubtype_exc hC ?_;rw[hcB]) | wp_step)
 exact wpAny_raiseNew_none hh hE
end
def zfv (C:Addr) (sp:Sp) (J:XJ) (t:TA):TS:=λ_ σ H=>t σ H λvs H1=>vs.length<=sizeLine/\∀p,H1 p=none->sp (.ref p::vs) (upd H1 p (XO p C none)) (λv H2=>v = .non/\∃dct,H2 p=some (XO p C dct)/\J C dct σ (XT p H2)) E0
section
variable {X:Cx}{J:XJ}{x:Str}{C f:Addr}{np cpos pos:Pos}{e:Expr}{es:List Expr}{t:TA}
theorem QP {k:Nat}{fd:FuncData}{ps:List Str}{sp:Sp}(M:XMk X.K X.base C f) (F:vP X.prog X.w X.K X.mg X.base CX0 k f fd ps sp) (hr:xn (k+1) X.A) (hm:X.mg x=some (.ref C)) (hb:vn X.K fd ps []) (hh:X.A.handled=none) (hJ:Qz X J) (ha:PA X (e::es) t)
  (hg:Gl X x:=by rfl) (hdb:(x == ("__debug__":Str))=false:=by decide) (he:starEach (e::es) X.env=(false,eval e X.env)::starEach es X.env:=by rfl) (hpl:(backTo cpos (starEach es X.env)).any (·.1)=false:=by rfl) :
  PS X (.Raise (some (.Call (.Name x np) (e::es) [] cpos)) none pos) (zfv C sp J t):=by
 intro pins s σ H D I h
 refine zbU hh ?_
 refine yL (jX I hg hm ?_ hdb)
 refine callWith_K (h₀:=X.base) I.ok.mod.kin M.kp (thn (ha cpos pins s σ H _ I h) λus s1 ⟨vs,H1,I1,r,z,q⟩=>⟨I1.kIn,?_⟩) he hpl
 obtain⟨nm,qn,N,bs,bm,hd,sn,sub,ab,col,dd,k0,k1,k2,k3,k5,mN,hC,hN,hi,T⟩:=M.obj
 obtain⟨oI,hf,hfc⟩:=M.fn
 have hC1:=I1.bk _ _ hC
 have hN1:=hN.keeps I1.bk
 have T1:=T.keeps I1.bk
 have hf1:=I1.bk _ _ hf
 obtain⟨hh,g,d,tk,os⟩:=s1
 refine zah T1 hC1 hN1 hi hf1 hfc (by show us.length<=sizeLine;rw[<-r.length];exact z) λh2 a hma=>?_
 have I2:=zcM (t2:=tk) I1 hma
 have hq:=q a (jH I1.hok hma.new)
 have r2:xb (V.ref a::vs) (Value.ref a::us):=.cons rfl r
 have hl:(Value.ref a::us++[]).length=ps.length:=by
  have e:=r2.length
  rw[F.len _ _ _ _ hq]at e
  rw[yb];exact e.symm
 refine Wo (codeAny_mono (F.run _ X.stack _ _ ⟨Value.ref a::us,[]⟩ (Value.ref a::us) _ _ E0 (hr.make C us []) (I2.env0.make C us []) (by have:=hb _ (Value.ref a::us) I2.kIn hl;rwa [yb]at this) r2 hq) λr3 s3 hq3=>?_)
 cases r3 with
 | error e=>exact(show False from hq3).elim
 | ok fl =>
  cases fl with
  | ret u =>
   obtain⟨v,H3,os3,bare3,un3,hok3,rv,ev,dct,ea,q3⟩:=hq3
   subst ev
   have I3:=I2.call' os3 un3 hok3 bare3 (λb z=>absurd z (by simp))
   obtain⟨ox,vs',g1,g2,g3,_,_,hv⟩:=VB hok3 ea
   have un1:Un (frs X.stack) [] H1 (upd H1 a (XO a C none)) hh h2:=Jq hma.keeps hma.new (jH I1.hok hma.new)
   refine⟨rv,a,C,ox,rfl,g1,g2,⟨vs',g3,hv⟩,⟨nm,qn,N,bs,bm,hd,sn,sub,ab,col,dd,k0,k1,k2,k3,k5,_,I3.bk _ _ hC,T.keeps I3.bk⟩,?_⟩
   exact hJ pins σ H1 _ a C H3 s3 dct I1 hma.new os3 bare3 (un1.trans un3) hok3 ea q3
  | next=>exact False.elim hq3
  | brk=>exact False.elim hq3
  | cont=>exact False.elim hq3
end
def zY (H H':Hp):Prop:=∀b xs,H b=some (.tup xs)->H' b=some (.tup xs)
theorem zY.of {H H':Hp}(h:zi H H'):zY H H':=λb xs e=>h b _ e
theorem zY.trans {H H1 H2:Hp}(a:zY H H1) (b:zY H1 H2):zY H H2:=λc xs e=>b c xs (a c xs e)
theorem zY.upd {H:Hp}{D:Addr}{ys:List V}{o:HO}(h:H D=some (.lst ys)):zY H (upd H D o):=λb xs e=>by rw[zE (λz=>by subst z;rw[h]at e;cases e)];exact e
structure zbm (J:It) (H:Hp) (xs:List V):Prop where
 go:∀i H',i<xs.length->zi H H'->J.go i H'
 stop:∀H',zi H H'->J.stop xs.length H'
 yld:∀i x H2 H3,zi H H2->J.yld i H2 x H3->H3=H2/\xs[i]? = some x
theorem xQ {K:Fg}{H:Hp}{a:Addr}{xs:List V}(h:H a=some (.lst xs)):zbm (Itl K a) H xs :=
 ⟨λi H' hi s=>⟨xs,xs[i],.of (s _ _ h),by simp[hi]⟩,λH' s=>⟨xs,.of (s _ _ h),wx _⟩,λi x H2 H3 s y=>⟨y.1,y.2 xs (.of (s _ _ h))⟩⟩
theorem jR {K:Fg}{H:Hp}{a:Addr}{xs:List V}(h:H a=some (.tup xs)):zbm (Itt K a) H xs :=
 ⟨λi H' hi s=>⟨xs,xs[i],.of (s _ _ h),by simp[hi]⟩,λH' s=>⟨xs,.of (s _ _ h),wx _⟩,λi x H2 H3 s y=>⟨y.1,y.2 xs (.of (s _ _ h))⟩⟩
section
variable {J:It}{D:Addr}{n:Nat}{js:List Nat}{σ:St}{g:TG}{te:TE}{Z:Hp->Prop}{H:Hp}{xs:List V}
theorem Z6 (R:Nat->V->Hp->Prop) (hR:∀i v H H',zY H H'->R i v H->R i v H') (hD:H D=none) (hJ:zbm J H xs) (hl:xs.length<sizeLine)
  (hs:∀i x zs H2 Q',xs[i]? = some x->zs.length=n->zi H H2->(∀v H6,zi H2 H6->R i v H6->Q' v H6)->g x zs H2 λσ4 H4=>te σ4 H4 Q')
  (k:∀ys H',zi H H'->H' D=some (.lst ys)->ys.length=xs.length->(∀i v,ys[i]? = some v->R i v H')->Z H') :
  ∃W:Nat->Nat->Hp->List V->Prop,(∃m,W 0 m (upd H D (.lst [])) [])/\∀i m H2 ys,W i m H2 ys->H2 D=some (.lst ys)->(J.stop i H2/\Z H2) ∨
   (J.go i H2/\∀σB x H3,σB.length=n->J.yld i H2 x H3->g x σB H3 λσ4 H4=>(λ_ H Q=>Q true H:TT) σ4 H4 λb H5=>if b=true then te σ4 H5 (λv H6=>H6 D=some (.lst ys)/\ys.length<sizeLine/\∃m',m'<m/\W (i+1) m' (upd H6 D (.lst (ys++[v]))) (ys++[v]))
    else H5 D=some (.lst ys)/\∃m',m'<m/\W (i+1) m' H5 ys):=by
 refine Xz (Q:=λ_ H=>Z H) (tt:=λ_ H Q=>Q true H) (N:=xs.length) (λi H2 ys=>zi H H2/\ys.length=i/\∀j v,ys[j]? = some v->R j v H2) ⟨zi.upd hD,rfl,λj v e=>by simp at e⟩ (λi H2 ys hi p=>hJ.go i H2 hi p.1) (λH2 ys p=>hJ.stop H2 p.1) ?_ (λH2 ys p e=>k ys H2 p.1 e p.2.1 p.2.2)
 rintro i x zs H2 H3 ys Nx hN hi hz hy ⟨s2,hyl,hyR⟩ hD2
 obtain⟨rfl,hx⟩:=hJ.yld i x H2 H3 s2 hy
 refine hs i x zs H3 _ hx hz s2 λv H6 s6 r6=>⟨s6 _ _ hD2,by omega,hN _ _ ⟨λc o e=>?_,by simp[hyl],λj u e=>?_⟩⟩
 ·rw[zE (zG e hD)];exact s6 _ _ (s2 _ _ e)
 ·have T6:zY H6 (upd H6 D (.lst (ys++[v]))):=.upd (s6 _ _ hD2)
  by_cases hj:j<ys.length
  ·rw[wu hj]at e
   exact hR _ _ _ _ ((zY.of s6).trans T6) (hyR j u e)
  ·rw[wm (by omega)]at e
   have:j - ys.length=0:=by
    rcases yZ (j - ys.length)with z | z
    ·exact z
    ·rw[wY (by simp;omega)]at e;cases e
   rw[this]at e
   simp at e
   subst e
   rw[show j=i by omega]
   exact hR _ _ _ _ T6 r6
theorem xK (R:Nat->V->Hp->Prop) (hR:∀i v H H',zY H H'->R i v H->R i v H') (hD:H D=none) (hJ:zbm J H xs) (hl:xs.length<sizeLine)
  (hs:∀i x zs H2 Q',xs[i]? = some x->zs.length=n->zi H H2->(∀v H6,zi H2 H6->R i v H6->Q' v H6)->g x (zs++qU σ js) H2 λσ4 H4=>σ4.drop n=qU σ js/\te σ4 H4 Q')
  (k:∀ys H',zi H H'->H' D=some (.lst ys)->ys.length=xs.length->(∀i v,ys[i]? = some v->R i v H')->Z H') :
  ∃W:Nat->Nat->Hp->List V->Prop,(∃m,W 0 m (upd H D (.lst [])) [])/\∀i m H2 ys,W i m H2 ys->H2 D=some (.lst ys)->(J.stop i H2/\Z H2) ∨
   (J.go i H2/\∀zs x H3,zs.length=n->J.yld i H2 x H3->g x (zs++qU σ js) H3 λσ4 H4=>σ4.drop n=qU σ js/\(λ_ H Q=>Q true H:TT) σ4 H4 λb H5=>if b=true then te σ4 H5 (λv H6=>H6 D=some (.lst ys)/\ys.length<sizeLine/\∃m',m'<m/\W (i+1) m' (upd H6 D (.lst (ys++[v]))) (ys++[v]))
    else H5 D=some (.lst ys)/\∃m',m'<m/\W (i+1) m' H5 ys):=by
 refine Zy (Q:=λ_ H=>Z H) (tt:=λ_ H Q=>Q true H) (N:=xs.length) (λi H2 ys=>zi H H2/\ys.length=i/\∀j v,ys[j]? = some v->R j v H2) ⟨zi.upd hD,rfl,λj v e=>by simp at e⟩ (λi H2 ys hi p=>hJ.go i H2 hi p.1) (λH2 ys p=>hJ.stop H2 p.1) ?_ (λH2 ys p e=>k ys H2 p.1 e p.2.1 p.2.2)
 rintro i x zs H2 H3 ys Nx hN hi hz hy ⟨s2,hyl,hyR⟩ hD2
 obtain⟨rfl,hx⟩:=hJ.yld i x H2 H3 s2 hy
 refine hs i x zs H3 _ hx hz s2 λv H6 s6 r6=>⟨s6 _ _ hD2,by omega,hN _ _ ⟨λc o e=>?_,by simp[hyl],λj u e=>?_⟩⟩
 ·rw[zE (zG e hD)];exact s6 _ _ (s2 _ _ e)
 ·have T6:zY H6 (upd H6 D (.lst (ys++[v]))):=.upd (s6 _ _ hD2)
  by_cases hj:j<ys.length
  ·rw[wu hj]at e
   exact hR _ _ _ _ ((zY.of s6).trans T6) (hyR j u e)
  ·rw[wm (by omega)]at e
   have:j - ys.length=0:=by
    rcases yZ (j - ys.length)with z | z
    ·exact z
    ·rw[wY (by simp;omega)]at e;cases e
   rw[this]at e
   simp at e
   subst e
   rw[show j=i by omega]
   exact hR _ _ _ _ T6 r6
end
section
variable {J:It}{D:Addr}{n:Nat}{σ:St}{g:TG}{tt:TT}{te:TE}{Z:Hp->Prop}{H:Hp}{xs:List V}
theorem zcx (p:V->Bool) (hD:H D=none) (hJ:zbm J H xs) (hl:xs.length<sizeLine)
  (hs:∀(i:Nat) (x:V) (zs:St) (H2:Hp) (A:VK) (B:Hp->Prop),xs[i]? = some x->zs.length=n->zi H H2->(p x=true->A x H2)->(p x=false->B H2)->g x zs H2 λσ4 H4=>tt σ4 H4 λb H5=>if b=true then te σ4 H5 A else B H5)
  (k:∀H',zi H H'->H' D=some (.lst (xs.filter p))->Z H') :
  ∃W:Nat->Nat->Hp->List V->Prop,(∃m,W 0 m (upd H D (.lst [])) [])/\∀i m H2 ys,W i m H2 ys->H2 D=some (.lst ys)->(J.stop i H2/\Z H2) ∨
   (J.go i H2/\∀σB x H3,σB.length=n->J.yld i H2 x H3->g x σB H3 λσ4 H4=>tt σ4 H4 λb H5=>if b=true then te σ4 H5 (λv H6=>H6 D=some (.lst ys)/\ys.length<sizeLine/\∃m',m'<m/\W (i+1) m' (upd H6 D (.lst (ys++[v]))) (ys++[v]))
    else H5 D=some (.lst ys)/\∃m',m'<m/\W (i+1) m' H5 ys):=by
 refine Xz (Q:=λ_ H=>Z H) (tt:=tt) (N:=xs.length) (λi H2 ys=>zi H H2/\ys=(xs.take i).filter p) ⟨zi.upd hD,rfl⟩ (λi H2 ys hi p=>hJ.go i H2 hi p.1) (λH2 ys p=>hJ.stop H2 p.1) ?_ (λH2 ys q e=>k H2 q.1 (by rw[e,q.2,Wh]))
 rintro i x zs H2 H3 ys Nx hN hi hz hy ⟨s2,rfl⟩ hD2
 obtain⟨rfl,hx⟩:=hJ.yld i x H2 H3 s2 hy
 have et:xs.take (i+1)=xs.take i++[x]:=by rw[ym,hx];rfl
 refine hs i x zs H3 _ _ hx hz s2 (λhp=>⟨hD2,?_,hN _ _ ⟨λc o e=>?_,?_⟩⟩) (λhp=>⟨hD2,hN _ _ ⟨s2,?_⟩⟩)
 ·have:=uz p (xs.take i)
  have:=List.length_take_le i xs
  omega
 ·rw[zE (zG e hD)];exact s2 _ _ e
 ·rw[et,yD];simp[hp]
 ·rw[et,yD];simp[hp]
end
section
variable {prog:Program}{w:World}{A:Around}{E:Value->Shared->Prop}{s:Shared}
theorem zey {j t:Addr}{i:Nat}{vs:Array Value}{x:Value}{Q:Value->Shared->Prop}(kj:s.heap.IsListIter j t i) (kt:s.heap.IsList t vs) (kx:vs[i]? = some x)
  (q:∀h',h'.IsListIter j t (i+1)->Heap.SameBut j s.heap h'->Q x { s with heap:=h' }):wpAny (model prog w) A (Builtin.SmallTypes.nextOf (.ref j)) Q E s:=by
 obtain⟨oj,e1,e2,e3⟩:=id kj
 obtain⟨ot,f1,_,nt,f3⟩:=kt
 unfold Builtin.SmallTypes.nextOf
 refine wc (wpAny_callSpecial?_slot (name:=Str.ofString "__next__") kj.typeIs slot_listiter_next (yG slot_listiter_next kj.typeIs entry_listiter_next ?_ (args_listiter_next _)))
 show wpAny _ _ (field (.ref j) 0 >>= _) _ _ s
 refine wc (wZ e1 e3 (x:=.ref t) rfl ?_)
 show wpAny _ _ (if(Value.ref t == .none)=true then _ else _) _ _ s
 rw[if_neg (show ¬((Value.ref t == .none)=true)from wL)]
 show wpAny _ _ (field (.ref j) 1 >>= _) _ _ s
 refine wc (wZ e1 e3 (x:=.int i 0) rfl (?_:wpAny _ _ (seqItems? (.ref t) >>= _) _ _ s))
 refine wc (yy f1 f3 ?_)
 simp only[yq,kx]
 refine wc (um e1 e3 (by simp) (wo ⟨x,rfl,wo (q _ ⟨_,yp _ e1 (Obj.isFreed_of_fields (Obj.data_mapFields e3 _)),(Obj.cls_mapFields ..).trans e2,?_⟩ (Heap.SameBut.update ..))⟩))
 rw[Obj.data_mapFields e3];simp[rawInt]
theorem zgV {j t:Addr}{i:Nat}{vs:Array Value}{Q:Value->Shared->Prop}(hh:A.handled=none) (kj:s.heap.IsListIter j t i) (kt:s.heap.IsList t vs) (kx:vs[i]? = none)
  (q:∀h' e,Heap.ExtBut j s.heap h'->(∃o,h'.get? e=some o/\o.cls = .type "StopIteration")->E (.ref e) { s with heap:=h' }):wpAny (model prog w) A (Builtin.SmallTypes.nextOf (.ref j)) Q E s:=by
 obtain⟨oj,e1,e2,e3⟩:=id kj
 obtain⟨ot,f1,_,nt,f3⟩:=kt
 unfold Builtin.SmallTypes.nextOf
 refine wc (wpAny_callSpecial?_slot (name:=Str.ofString "__next__") kj.typeIs slot_listiter_next (yG slot_listiter_next kj.typeIs entry_listiter_next ?_ (args_listiter_next _)))
 show wpAny _ _ (field (.ref j) 0 >>= _) _ _ s
 refine wc (wZ e1 e3 (x:=.ref t) rfl ?_)
 show wpAny _ _ (if(Value.ref t == .none)=true then _ else _) _ _ s
 rw[if_neg (show ¬((Value.ref t == .none)=true)from wL)]
 show wpAny _ _ (field (.ref j) 1 >>= _) _ _ s
 refine wc (wZ e1 e3 (x:=.int i 0) rfl (?_:wpAny _ _ (seqItems? (.ref t) >>= _) _ _ s))
 refine wc (yy f1 f3 ?_)
 simp only[yq,kx]
 refine wc (uF (wc (um e1 e3 (by simp) (?_:wpAny _ _ (newExc (.type "StopIteration") [] >>= _) _ _ _))))
 refine wc ?_
 simp only[newExc,newTuple]
 refine wc (yj (wc (m:=firstArgMember _ _) (wpAny_of_eq (a:=Value.none) (by first | rfl | (simp only[firstArgMember];rfl)) (yj ?_ (by size_fits)))) (by size_fits))
 simp only[raiseNew]
 refine wc (wpAny_handled (?_))
 first | rw[show A.in1.handled=none from hh] | rw[hh]
 exact wc (wo (wpAny_throw (q _ _ (((Heap.SameBut.update ..).extBut.push _).push _) ⟨_,wB _ rfl,rfl⟩)))
section
variable {z TI TO j1 j2 t1 t2:Addr}{i:Nat}{xs ys:Array Value}
theorem zcW {h:Heap}{f0:Value}{vs:Array Value}{t:Addr}(ht:h.IsList t vs) (hz:IsZip h z TI TO f0):t≠z:=λe=>by
 obtain⟨o,e1,e2,_⟩:=ht
 rw[e,hz]at e1;cases e1;simp at e2
end
end
def zcf (K:Fg) (t1 t2:Addr):It :=
 ⟨λi H=>∃xs ys x y,SqL K H t1 xs/\SqL K H t2 ys/\xs[i]? = some x/\ys[i]? = some y,
  λi H v H'=>∃T x y,v = .ref T/\H T=none/\H'=upd H T (.tup [x,y])/\(∀xs,SqL K H t1 xs->xs[i]? = some x)/\∀ys,SqL K H t2 ys->ys[i]? = some y,
  λi H=>∃xs ys,SqL K H t1 xs/\SqL K H t2 ys/\(xs.length<=i\/ys.length<=i)⟩
section
variable {X:Cx}
def zih (K:Fg) (t:TA):TI:=λσ H R=>t σ H λvs H1=>∃t1 t2,vs=[.ref t1,.ref t2]/\(∃xs,SqL K H1 t1 xs)/\(∃ys,SqL K H1 t2 ys)/\R (zcf K t1 t2) H1
end
def Ite (K:Fg) (l:Addr):It :=
 ⟨λi H=>∃xs x,SqL K H l xs/\xs[i]? = some x,
  λi H v H'=>∃T x,v = .ref T/\H T=none/\H'=upd H T (.tup [.int i,x])/\∀xs,SqL K H l xs->xs[i]? = some x,
  λi H=>∃xs,SqL K H l xs/\xs.length<=i⟩
theorem zcb {P:Program}{w:World}{K:Fg}{elts:List Expr}{kc:Nat}{tp:Pos}(e it l:Addr) (hne:e≠it) :
  zbn P w K (.Tuple elts kc tp) (Ite K l) [e,it] e (λi h=>(∃old,IsEnum h e it (i:Int) old)/\h.IsListIter it l i) where
 mem:=by simp
 obj:=λi h st b hb=>by
  obtain⟨⟨old,Z⟩,o1,e1,_,d1⟩:=st
  simp only[wy,wQ,or_false]at hb
  rcases hb with rfl | rfl
  ·exact⟨_,Z,λ_ r=>by cases r⟩
  ·exact⟨_,e1,λ_ r=>by rw[d1]at r;cases r⟩
 keep:=λi h h' st k=>by
  obtain⟨⟨old,Z⟩,Z1⟩:=st
  exact⟨⟨old,k e (by simp) _ Z⟩,Z1.at λo q=>k it (by simp) o q⟩
 item:=by
  intro X hP hw hK hc i pins s σ H E I hf st hg
  subst hP hw hK
  obtain⟨xs,x,h1,ex⟩:=hg
  obtain⟨us,r1,p1,_⟩:=I.list h1
  obtain⟨ux,eu,rx⟩:=r1.get ex
  obtain⟨⟨old,Z⟩,Z1⟩:=st
  refine wpAny_pyNext_enum_item Z Z1 p1.isList (x:=ux) (by simpa using eu) hne λh' Zo Zi pr sz kk=>⟨_,rfl,?_⟩
  refine wpAny_letOwnedTupleGo_enum (s:={ s with heap:=h',toks:=s.toks+1 }) Zo λh2' Zz' sb=>?_
  replace sb:Heap.SameBut e h' h2':=sb
  have hTz:s.heap.objs.size≠e:=uM (wA Z)
  have kk2:∀c o,c≠e->c≠it->s.heap.get? c=some o->h2'.get? c=some o:=λc o c1 c2 q=>(sb.2 c c1).trans (kk c o c1 c2 q)
  have prT:h2'.get? s.heap.objs.size=some { cls:=.type "tuple",data:=.seq #[.int i s.toks,ux] }:=(sb.2 _ hTz).trans pr
  have hT:H s.heap.objs.size=none:=I.hok.fresh (wx _)
  have neC:∀b,b∉[e,it]->b≠e/\b≠it:=λb hb=>by simpa using hb
  have trk:∀b u,H b=some u->b≠e/\b≠it:=λb u q=>by
   refine⟨?_,?_⟩ <;> rintro rfl
   ·rw[(hf b (by simp)).1]at q;cases q
   ·rw[(hf b (by simp)).1]at q;cases q
  have ltT:∀b o,s.heap.get? b=some o->b≠s.heap.objs.size:=λb o q=>wO (wA q)
  have u:Un (frs X.stack) [e,it] H (upd H s.heap.objs.size (.tup [.int i,x])) s.heap h2' :=
   ⟨λb o q n _ hb=>by obtain⟨c1,c2⟩:=neC b hb;exact kk2 b o c1 c2 q,λb o q n _ hb=>by obtain⟨c1,c2⟩:=neC b hb;exact⟨o.slots,kk2 b o c1 c2 q⟩,
    λb o q n hb=>by rw[zE (ltT b o q)];exact n,λb o q hb=>by obtain⟨c1,c2⟩:=neC b hb;exact⟨o,kk2 b o c1 c2 q⟩,
    λb ws q=>by rw[zE (zG q hT)];exact q,λb o ws q=>by rw[zE (zG q hT)];exact q,λb ps q=>⟨#[],by rw[zE (zG q hT),q];simp⟩⟩
  have hok:HOk X.prog X.w (upd H s.heap.objs.size (.tup [.int i,x])) h2':=λb ob q=>by
   by_cases hb:b=s.heap.objs.size
   ·subst hb
    rw[zg]at q;cases q
    exact⟨⟨zL2,_,prT,rfl⟩,[.int i s.toks,ux],.cons ⟨_,rfl⟩ (.cons rx .nil),_,prT,rfl,0,rfl⟩
   ·rw[zE hb]at q
    refine(I.hok b ob q).stay (λc v hc' qc=>?_) (λc q=>by rw[zE (zG q hT)];exact q) λc ws q=>by rw[zE (zG q hT)];exact q
    have:∃o,H c=some o:=by
     rcases hc' with rfl | hc'
     ·exact⟨_,q⟩
     ·exact⟨_,hc'⟩
    obtain⟨o,ho⟩:=this
    obtain⟨c1,c2⟩:=trk c o ho
    exact kk2 c v c1 c2 qc
  refine⟨.ref s.heap.objs.size,upd H s.heap.objs.size (.tup [.int i,x]),?_,rfl,⟨_,x,rfl,hT,rfl,λxs' h=>by rw[I.list_inj h h1];exact ex⟩,
   ⟨⟨_,by rw[Int.natCast_add];exact Zz'⟩,Zi.at λo q=>(sb.2 _ hne.symm).trans q⟩,λb hb=>?_⟩
  ·refine I.call' (s':={ s with heap:=h2',toks:=s.toks+1 }) (ch:=[e,it]) rfl u hok I.bare λb hb=>?_
   obtain⟨_,z1,z2,z3,z4,z5⟩:=hf b hb
   exact⟨z3,z1,z4,z5⟩
  ·obtain⟨o,q⟩:∃o,s.heap.get? b=some o:=by
    obtain⟨o1,e1,_⟩:=Z1
    simp only[wy,wQ,or_false]at hb
    rcases hb with rfl | rfl
    ·exact⟨_,Z⟩
    ·exact⟨_,e1⟩
   rw[zE (ltT b o q)];exact(hf b hb).1
 done:=by
  intro X hP hw hK hc i pins s σ H E I hf st hg
  subst hP hw hK
  obtain⟨xs,h1,en⟩:=hg
  obtain⟨us,r1,p1,_⟩:=I.list h1
  have l1:=r1.length
  obtain⟨⟨old,Z⟩,Z1⟩:=st
  obtain⟨f0,f1,f2,f3,f4,f5⟩:=hf it (by simp)
  exact wpAny_pyNext_enum_end (I.ok.hd hc) Z Z1 p1.isList (by simp;omega) λh' eb=>⟨rfl,I.turned (t':=s.toks) (λb o hb q=>eb b o hb q) f0 f1 f3 f4 f5⟩
 self:=λ_ _ _ _ _ st h=>by obtain⟨⟨old,Z⟩,_⟩:=st;exact wpAny_pyIter_enum Z h
def zib (K:Fg) (t:TA):TI:=λσ H R=>t σ H λvs H1=>∃l xs,vs=[.ref l]/\H1 l=some (.lst xs)/\R (Ite K l) H1
theorem zaO {X:Cx}{a:Expr}{ta:TA}{p pos tp:Pos}{elts:List Expr}{kc:Nat}(hg:Gl X "enumerate") (hm:X.mg "enumerate" = none) (ha:PA X [a] ta) (hs:starEach [a] X.env=[(false,eval a X.env)]:=by rfl) :
  PI X (.Tuple elts kc tp) (.Call (.Name "enumerate" p) [a] [] pos) (zib X.K ta):=by
 intro pins s σ H R I h
 refine Call_ (jJ I hg hm (by decide +kernel:bootBuiltins "enumerate" = some (.type "enumerate")) (yC (thn (ha pos pins s σ H _ I h) λus s1 ⟨vs,H1,I1,r1,q1⟩=>?_) (by rw[hs];rfl) (by rfl)))
 obtain⟨l,xs,e,hl,q⟩:=q1
 subst e
 obtain⟨u1,rfl,ru1⟩:=Zn r1
 cases(show u1=Value.ref l from ru1)
 obtain⟨z,its,n,rv,hol⟩:=(show xy X.prog X.w H1 s1.heap l (.lst xs)from I1.hok l _ hl)
 refine callType_new F.called_enumerate (by decide) (F.typeCall_enumerate_1 _) (F.newCall_enumerate_1 _) (λobj=>F.args_object_init_2 obj _) F.entry_enumerate_new (meets_enumerate_new l its.toArray n) ⟨hol,?_⟩
 have z1:(s1.heap.push { cls:=.type "list_iterator",data:=.fields #[.ref l,.int 0 0] }).objs.size=s1.heap.objs.size+1:=yw ..
 have g1:IsEnum ((s1.heap.push { cls:=.type "list_iterator",data:=.fields #[.ref l,.int 0 0] }).push { cls:=.type "enumerate",data:=.fields #[.none,.bool false,.ref s1.heap.objs.size,rawInt 0,.none,.none] }) (s1.heap.push { cls:=.type "list_iterator",data:=.fields #[.ref l,.int 0 0] }).objs.size s1.heap.objs.size 0 .none:=wB _ rfl
 have g2:((s1.heap.push { cls:=.type "list_iterator",data:=.fields #[.ref l,.int 0 0] }).push { cls:=.type "enumerate",data:=.fields #[.none,.bool false,.ref s1.heap.objs.size,rawInt 0,.none,.none] }).IsListIter s1.heap.objs.size l 0:=⟨_,wd _ (wB _ rfl),rfl,rfl⟩
 have g3:∀c o,s1.heap.get? c=some o->((s1.heap.push { cls:=.type "list_iterator",data:=.fields #[.ref l,.int 0 0] }).push { cls:=.type "enumerate",data:=.fields #[.none,.bool false,.ref s1.heap.objs.size,rawInt 0,.none,.none] }).get? c=some o:=λc o e=>wd _ (wd _ e)
 rw[z1]at g1 ⊢
 show _/\_
 refine⟨⟨_,g1,rfl⟩,wpAny_pyIter_enum g1 ⟨s1.heap.objs.size+1,[s1.heap.objs.size+1,s1.heap.objs.size],_,_,H1,rfl,I1.kept (t':=s1.toks) g3,zcb (s1.heap.objs.size+1) s1.heap.objs.size l (Nat.succ_ne_self _),⟨⟨_,g1⟩,g2⟩,λb hb=>?_,q⟩⟩
 have hb':s1.heap.objs.size<=b:=by
  simp only[wy,wQ,or_false]at hb
  rcases hb with rfl | rfl
  ·exact yN _ _
  ·exact wx _
 exact I1.fpOk hb' (I1.hok.fresh hb')
structure zfF (J:It) (H:Hp) (N:Nat) (xs ys:List V):Prop where
 go:∀i H',i<N->zi H H'->J.go i H'
 stop:∀H',zi H H'->J.stop N H'
 yld:∀i v H2 H3,zi H H2->J.yld i H2 v H3->∃T x y,v = .ref T/\H2 T=none/\H3=upd H2 T (.tup [x,y])/\xs[i]? = some x/\ys[i]? = some y
def sel (p:Nat->Bool) (N:Nat):List Nat:=(List.range N).filter p
theorem jS (p:Nat->Bool) (N:Nat):sel p (N+1)=sel p N++(if p N=true then [N]else []):=by
 unfold sel
 rw[List.range_succ,yD]
 by_cases h:p N=true <;> simp[h]
section
variable {J:It}{D:Addr}{n N:Nat}{js:List Nat}{σ:St}{g:TG}{tt:TT}{te:TE}{Z:Hp->Prop}{H:Hp}{xs ys:List V}
theorem zbx (p:Nat->Bool) (R:Nat->V->Hp->Prop) (hR:∀i v H H',zY H H'->R i v H->R i v H') (hD:H D=none) (hJ:zfF J H N xs ys) (hl:N<sizeLine)
  (hs:∀(i:Nat) (T:Addr) (x y:V) (zs:St) (H2:Hp) (A:VK) (B:Hp->Prop),xs[i]? = some x->ys[i]? = some y->zs.length=n->zi H H2->H2 T=some (.tup [x,y])->(p i=true->∀v H6,zi H2 H6->R i v H6->A v H6)->(p i=false->∀H6,zi H2 H6->B H6) →
   g (.ref T) (zs++qU σ js) H2 λσ4 H4=>σ4.drop n=qU σ js/\tt σ4 H4 λb H5=>if b=true then te σ4 H5 A else B H5)
  (k:∀us H',zi H H'->H' D=some (.lst us)->us.length=(sel p N).length->(∀(j i:Nat) (v:V),(sel p N)[j]? = some i->us[j]? = some v->R i v H')->Z H') :
  ∃W:Nat->Nat->Hp->List V->Prop,(∃m,W 0 m (upd H D (.lst [])) [])/\∀i m H2 ys,W i m H2 ys->H2 D=some (.lst ys)->(J.stop i H2/\Z H2) ∨
   (J.go i H2/\∀zs x H3,zs.length=n->J.yld i H2 x H3->g x (zs++qU σ js) H3 λσ4 H4=>σ4.drop n=qU σ js/\tt σ4 H4 λb H5=>if b=true then te σ4 H5 (λv H6=>H6 D=some (.lst ys)/\ys.length<sizeLine/\∃m',m'<m/\W (i+1) m' (upd H6 D (.lst (ys++[v]))) (ys++[v]))
    else H5 D=some (.lst ys)/\∃m',m'<m/\W (i+1) m' H5 ys):=by
 refine Zy (Q:=λ_ H=>Z H) (N:=N) (λi H2 us=>zi H H2/\us.length=(sel p i).length/\∀(j q:Nat) (v:V),(sel p i)[j]? = some q->us[j]? = some v->R q v H2)
  ⟨zi.upd hD,rfl,λj q v e=>by simp[sel]at e⟩ (λi H2 us hi q=>hJ.go i H2 hi q.1) (λH2 us q=>hJ.stop H2 q.1) ?_ (λH2 us q e=>k us H2 q.1 e q.2.1 q.2.2)
 rintro i x zs H2 H3 us Nx hN hi hz hy ⟨s2,hul,huR⟩ hD2
 obtain⟨T,a,b,rfl,hT,rfl,e1,e2⟩:=hJ.yld i x H2 H3 s2 hy
 have hDT:D≠T:=λz=>by rw[z,hT]at hD2;cases hD2
 have s3:zi H2 (upd H2 T (.tup [a,b])):=zi.upd hT
 have hD3:upd H2 T (.tup [a,b]) D=some (.lst us):=s3 _ _ hD2
 have hsl:us.length<sizeLine:=by
  have h1:(sel p i).length<=i:=by
   have:=uz p (List.range i)
   rw[WK]at this;exact this
  omega
 refine hs i T a b zs _ _ _ e1 e2 hz (s2.trans s3) zg (λhp v H6 s6 r6=>⟨s6 _ _ hD3,hsl,hN _ _ ⟨λc o e=>?_,?_,λj q u f1 f2=>?_⟩⟩) (λhp H6 s6=>⟨s6 _ _ hD3,hN _ _ ⟨λc o e=>s6 _ _ (s3 _ _ (s2 _ _ e)),?_,λj q u f1 f2=>?_⟩⟩)
 ·rw[zE (zG e hD)];exact s6 _ _ (s3 _ _ (s2 _ _ e))
 ·rw[jS,if_pos hp];simp[hul]
 ·rw[jS,if_pos hp]at f1
  have T6:zY H6 (upd H6 D (.lst (us++[v]))):=.upd (s6 _ _ hD3)
  by_cases hj:j<us.length
  ·rw[wu hj]at f2
   rw[wu (by omega)]at f1
   exact hR _ _ _ _ ((zY.of (s3.trans s6)).trans T6) (huR j q u f1 f2)
  ·rw[wm (by omega)]at f2
   rw[wm (by omega)]at f1
   have:j - us.length=0:=by
    rcases yZ (j - us.length)with z | z
    ·exact z
    ·rw[wY (by simp;omega)]at f2;cases f2
   rw[this]at f2
   rw[show j - (sel p i).length=0 by omega]at f1
   simp at f1 f2
   subst f1;subst f2
   exact hR _ _ _ _ T6 r6
 ·rw[jS,if_neg (by simp[hp])];simp[hul]
 ·rw[jS,if_neg (by simp[hp])]at f1
  rw[yb]at f1
  exact hR _ _ _ _ (zY.of (s3.trans s6)) (huR j q u f1 f2)
end
def KIt (k:Bool) (h:Heap) (j t:Addr) (i:Nat):Prop:=match k with | true=>h.IsTupleIter j t i | false=>h.IsListIter j t i
def KSq (k:Bool) (h:Heap) (t:Addr) (xs:Array Value):Prop:=match k with | true=>h.IsTuple t xs | false=>h.IsList t xs
def SqK (k:Bool) (K:Fg) (H:Hp) (t:Addr) (xs:List V):Prop:=match k with | true=>SqT K H t xs | false=>SqL K H t xs
def Xw (k:Bool) (t:Addr):Obj:={ cls:=.type (match k with | true=>"tuple_iterator" | false=>"list_iterator"),data:=.fields #[.ref t,.int 0 0] }
theorem KIt.at {k:Bool}{h h':Heap}{j t:Addr}{i:Nat}(x:KIt k h j t i) (e:∀o,h.get? j=some o->h'.get? j=some o):KIt k h' j t i:=by
 cases k
 ·exact Heap.IsListIter.at x e
 ·exact Heap.IsTupleIter.at x e
theorem KIt.ob {k:Bool}{h:Heap}{j t:Addr}{i:Nat}(x:KIt k h j t i):∃o,h.get? j=some o/\∀v,o.data≠.cell v:=by
 cases k
 ·obtain⟨o,e,_,d⟩:=x;exact⟨o,e,λ_ r=>by rw[d]at r;cases r⟩
 ·obtain⟨o,e,_,d⟩:=x;exact⟨o,e,λ_ r=>by rw[d]at r;cases r⟩
theorem KSq.keep {k:Bool}{h h':Heap}{t:Addr}{xs:Array Value}(x:KSq k h t xs) (e:∀o,h.get? t=some o->h'.get? t=some o):KSq k h' t xs:=by
 cases k
 ·obtain⟨o,ho,r⟩:=x;exact⟨o,e _ ho,r⟩
 ·obtain⟨o,ho,r⟩:=x;exact⟨o,e _ ho,r⟩
theorem KSq.push {k:Bool}{h:Heap}{t:Addr}{xs:Array Value}{ob:Obj}(x:KSq k h t xs):KSq k (h.push ob) t xs:=x.keep λ_ e=>wd _ e
theorem KSq.lt {k:Bool}{h:Heap}{t:Addr}{xs:Array Value}(x:KSq k h t xs):t<h.objs.size:=by
 cases k
 ·obtain⟨o,ho,r⟩:=x;exact wA ho
 ·obtain⟨o,ho,r⟩:=x;exact wA ho
theorem KSq.ne_z {k:Bool}{h:Heap}{f0:Value}{vs:Array Value}{t z TI TO:Addr}(x:KSq k h t vs) (hz:IsZip h z TI TO f0):t≠z:=by
 cases k
 ·exact zcW x hz
 ·exact zdS x hz
theorem KSq.ne_j {k k':Bool}{h:Heap}{vs:Array Value}{t j u:Addr}{n:Nat}(x:KSq k h t vs) (hj:KIt k' h j u n):t≠j:=by
 rintro rfl
 cases k <;> cases k' <;> (obtain⟨o,e1,e2,_⟩:=x;obtain⟨o',f1,f2,_⟩:=hj;rw[f1]at e1;cases e1;rw[f2]at e2;simp at e2)
theorem Vk {h:Heap}{a:Addr}{o o':Obj}(e:a=h.objs.size) (q:o=o') (f:o.isFreed=false:=by rfl):(h.push o).get? a=some o':=by subst e;subst q;exact wB _ f
theorem zaz {k:Bool}{h:Heap}{j t:Addr}(e:h.get? j=some (Xw k t)):KIt k h j t 0:=by
 cases k
 ·exact⟨_,e,rfl,rfl⟩
 ·exact⟨_,e,rfl,rfl⟩
section
variable {prog:Program}{w:World}{A:Around}{E:Value->Shared->Prop}{s:Shared}
theorem JO {k:Bool}{j t:Addr}{i:Nat}{vs:Array Value}{x:Value}{Q:Value->Shared->Prop}(kj:KIt k s.heap j t i) (kt:KSq k s.heap t vs) (kx:vs[i]? = some x)
  (q:∀h',KIt k h' j t (i+1)->Heap.SameBut j s.heap h'->Q x { s with heap:=h' }):wpAny (model prog w) A (Builtin.SmallTypes.nextOf (.ref j)) Q E s:=by
 cases k
 ·exact zey kj kt kx q
 ·exact zez kj kt kx q
theorem zfP {k:Bool}{j t:Addr}{i:Nat}{vs:Array Value}{Q:Value->Shared->Prop}(hh:A.handled=none) (kj:KIt k s.heap j t i) (kt:KSq k s.heap t vs) (kx:vs[i]? = none)
  (q:∀h' e,Heap.ExtBut j s.heap h'->(∃o,h'.get? e=some o/\o.cls = .type "StopIteration")->E (.ref e) { s with heap:=h' }):wpAny (model prog w) A (Builtin.SmallTypes.nextOf (.ref j)) Q E s:=by
 cases k
 ·exact zgV hh kj kt kx q
 ·exact zgW hh kj kt kx q
theorem zfO {k:Bool}{t:Addr}{vs:Array Value}{Q:Value->Shared->Prop}(kt:KSq k s.heap t vs) (q:Q (.ref s.heap.objs.size) { s with heap:=s.heap.push (Xw k t) }):wpAny (model prog w) A (pyIter (.ref t)) Q E s:=by
 cases k
 ·exact Wc kt q
 ·exact wpAny_pyIter_tuple kt q
end
theorem Xj {k:Bool}{X:Cx}{pins:List (Addr×Obj)}{σ:St}{H:Hp}{s:Shared}{a:Addr}{xs:List V}(I:Inv X pins σ H s) (h:SqK k X.K H a xs):∃its:List Value,xb xs its/\KSq k s.heap a its.toArray:=by
 cases k
 ·obtain⟨us,r,p,_⟩:=I.list h;exact⟨us,r,p.isList⟩
 ·obtain⟨us,r,p,_⟩:=I.tuple h;exact⟨us,r,p⟩
theorem za5 {k:Bool}{X:Cx}{pins:List (Addr×Obj)}{σ:St}{H:Hp}{s:Shared}{a:Addr}{xs ys:List V}(I:Inv X pins σ H s) (h:SqK k X.K H a xs) (h':SqK k X.K H a ys):xs=ys:=by
 cases k
 ·exact I.list_inj h h'
 ·exact I.tuple_inj h h'
structure ZN2 (z TI TO j1 j2:Addr):Prop where
 z_TI:z≠TI
 z_TO:z≠TO
 z_j1:z≠j1
 z_j2:z≠j2
 TI_TO:TI≠TO
 TI_j1:TI≠j1
 TI_j2:TI≠j2
 TO_j1:TO≠j1
 TO_j2:TO≠j2
 j1_j2:j1≠j2
abbrev ZX (h:Heap) (T:Addr) (a1 a2:Value):Prop:=h.get? T=some { cls:=.type "tuple",data:=.seq #[a1,a2] }
section
variable {prog:Program}{w:World}{A:Around}{E:Value->Shared->Prop}{s:Shared}
theorem zag {T:Addr}{a1 a2 x:Value}{k:Nat}{Q:Unit->Shared->Prop}(hT:ZX s.heap T a1 a2)
  (h:∀h',h'.get? T=some { cls:=.type "tuple",data:=.seq ((#[a1,a2]:Array Value).setIfInBounds k x) }->Heap.SameBut T s.heap h'->Q () { s with heap:=h' }) :
  wpAny (model prog w) A (updateSeq T (·.setIfInBounds k x)) Q E s:=by
 refine wpAny_updateSeq hT rfl (h _ ?_ (Heap.SameBut.update ..))
 rw[yp _ hT rfl]
 simp[Obj.mapSeq]
structure ZS2 (z TI TO j1 j2 t1 t2:Addr) (k1 k2:Bool) (f0:Value) (i:Nat) (h:Heap):Prop where
 z:IsZip h z TI TO f0
 ti:ZX h TI (.ref j1) (.ref j2)
 to:∃a1 a2,ZX h TO a1 a2
 i1:KIt k1 h j1 t1 i
 i2:KIt k2 h j2 t2 i
variable {z TI TO j1 j2 t1 t2:Addr}{k1 k2:Bool}{i:Nat}{xs1 xs2:Array Value}
theorem zfC {x1 x2:Value}{Q:Option Value->Shared->Prop}(D:ZN2 z TI TO j1 j2) (Z:ZS2 z TI TO j1 j2 t1 t2 k1 k2 .none i s.heap) (q1:KSq k1 s.heap t1 xs1) (q2:KSq k2 s.heap t2 xs2) (n1:t1≠TO) (n2:t2≠TO) (ex1:xs1[i]? = some x1) (ex2:xs2[i]? = some x2)
  (q:∀h',ZS2 z TI TO j1 j2 t1 t2 k1 k2 (rawInt s.heap.objs.size) (i+1) h'->ZX h' s.heap.objs.size x1 x2->h'.objs.size=s.heap.objs.size+1 →
   (∀c o,c≠z->c≠TO->c≠j1->c≠j2->s.heap.get? c=some o->h'.get? c=some o)->Q (some (.ref s.heap.objs.size)) { s with heap:=h' }):wpAny (model prog w) A (pyNext (.ref z)) Q E s:=by
 obtain⟨Zz,Zi,⟨a1,a2,Zo⟩,Z1,Z2⟩:=Z
 have ty:s.TypeIs (.ref z) "zip":=⟨_,Zz,rfl⟩
 unfold pyNext
 refine wc (wpAny_attempt (wpAny_callSpecial?_slot (name:=Str.ofString "__next__") ty F.slot_zip_next (yG F.slot_zip_next ty F.entry_zip_next ?_ (F.args_zip_next_1 _))))
 show wpAny _ _ (field (.ref z) 2 >>= _) _ _ s
 refine wc (wZ Zz rfl (x:=.bool false) rfl (?_:wpAny _ _ (field (.ref z) 3 >>= _) _ _ s))
 refine wc (wZ Zz rfl (x:=.ref TI) rfl (wc (yy Zi rfl (?_:wpAny _ _ (Builtin.SmallTypes.ownedTupleIsFree (.ref z) >>= _) _ _ s))))
 refine wc ?_;unfold Builtin.SmallTypes.ownedTupleIsFree
 refine wc (wZ Zz rfl (x:=.none) rfl (wo ?_))
 simp only[if_true]
 refine wc (uF (wc (wZ Zz rfl (x:=.ref TO) rfl (wc (y9 Zz (by simp) λg1 Zz1 m1=>?_)))))
 replace Zz1:IsZip g1 z TI TO .ellipsis:=Zz1
 refine wc ?_;simp only[List.zipIdx_cons,List.zipIdx_nil,List.forIn_cons,List.forIn_nil]
 refine wc (wc (WQ (?_:wpAny _ _ (Builtin.SmallTypes.nextOf (.ref j1) >>= _) _ _ _)))
 refine wc (JO (Z1.at λo e=>(m1.extBut _ _ D.z_j1.symm e)) (q1.keep λo e=>(m1.extBut _ _ (q1.ne_z Zz) e)) ex1 λg2 Y1 m2=>wo ?_)
 have Zo2:ZX g2 TO a1 a2:=m2.extBut _ _ D.TO_j1 (m1.extBut _ _ D.z_TO.symm Zo)
 refine wc (yy Zo2 rfl (wc (zag Zo2 λg3 Zo3 m3=>wc (WP (wo ?_)))))
 replace Zo3:ZX g3 TO x1 a2:=Zo3
 refine wc (wc (WQ (?_:wpAny _ _ (Builtin.SmallTypes.nextOf (.ref j2) >>= _) _ _ _)))
 refine wc (JO (Z2.at λo e=>(m3.extBut _ _ D.TO_j2.symm (m2.extBut _ _ D.j1_j2.symm (m1.extBut _ _ D.z_j2.symm e)))) (q2.keep λo e=>(m3.extBut _ _ n2 (m2.extBut _ _ (q2.ne_j Z1) (m1.extBut _ _ (q2.ne_z Zz) e)))) ex2 λg4 Y2 m4=>wo ?_)
 have Zo4:ZX g4 TO x1 a2:=m4.extBut _ _ D.TO_j2 Zo3
 refine wc (yy Zo4 rfl (wc (zag Zo4 λg5 Zo5 m5=>wc (WP (wo (wo ?_))))))
 replace Zo5:ZX g5 TO x1 x2:=Zo5
 refine wc (yy Zo5 rfl (wc (wpAny_newTuple ?_)))
 have sz:g5.objs.size=s.heap.objs.size:=by rw[m5.1,m4.1,m3.1,m2.1,m1.1]
 have ZzL:IsZip g5 z TI TO .ellipsis:=(m5.extBut _ _ D.z_TO (m4.extBut _ _ D.z_j2 (m3.extBut _ _ D.z_TO (m2.extBut _ _ D.z_j1 Zz1))))
 have kp:∀c o,c≠z->c≠TO->c≠j1->c≠j2->s.heap.get? c=some o->g5.get? c=some o:=λc o c_z c_TO c_j1 c_j2 e=>(m5.extBut _ _ c_TO (m4.extBut _ _ c_j2 (m3.extBut _ _ c_TO (m2.extBut _ _ c_j1 (m1.extBut _ _ c_z e)))))
 have W1:KIt k1 g5 j1 t1 (i+1):=Y1.at λo e=>(m5.extBut _ _ D.TO_j1.symm (m4.extBut _ _ D.j1_j2 (m3.extBut _ _ D.TO_j1.symm e)))
 have W2:KIt k2 g5 j2 t2 (i+1):=Y2.at λo e=>(m5.extBut _ _ D.TO_j2.symm e)
 have zlt:g5.objs.size≠z:=uM (wA ZzL)
 show wpAny _ _ (Builtin.SmallTypes.ownedTupleHandOut (.ref z) (.ref g5.objs.size) >>= _) _ _ _
 refine wc ?_;unfold Builtin.SmallTypes.ownedTupleHandOut
 refine wc (y9 (wd _ ZzL) (by simp) λh7 Zz7 p7=>?_)
 replace Zz7:IsZip h7 z TI TO (rawInt g5.objs.size):=Zz7
 refine y9 Zz7 (by simp) λh8 Zz8 p8=>?_
 replace Zz8:IsZip h8 z TI TO (rawInt g5.objs.size):=Zz8
 have up:∀c o,c≠z->g5.get? c=some o->h8.get? c=some o:=λc o c1 e=>p8.extBut _ _ c1 (p7.extBut _ _ c1 (wd _ e))
 have T8:ZX h8 g5.objs.size x1 x2:=p8.extBut _ _ zlt (p7.extBut _ _ zlt (wB _ rfl))
 have s8:h8.objs.size=g5.objs.size+1:=by rw[p8.1,p7.1,yw]
 refine wo ⟨_,rfl,wo ?_⟩
 rw[sz]at Zz8 T8 s8
 show Q (some (.ref g5.objs.size)) _
 rw[sz]
 exact q h8 ⟨Zz8,up _ _ D.z_TI.symm (kp _ _ D.z_TI.symm D.TI_TO D.TI_j1 D.TI_j2 Zi),⟨_,_,up _ _ D.z_TO.symm Zo5⟩,W1.at λo e=>up _ o D.z_j1.symm e,W2.at λo e=>up _ o D.z_j2.symm e⟩ T8 s8 λc o c_z c_TO c_j1 c_j2 e=>up c o c_z (kp c o c_z c_TO c_j1 c_j2 e)
theorem zhZ {Q:Option Value->Shared->Prop}(hh:A.handled=none) (D:ZN2 z TI TO j1 j2) (Z:ZS2 z TI TO j1 j2 t1 t2 k1 k2 .none i s.heap) (q1:KSq k1 s.heap t1 xs1) (q2:KSq k2 s.heap t2 xs2) (n1:t1≠TO) (n2:t2≠TO) (en:xs1[i]? = none\/xs2[i]? = none)
  (q:∀h',(∀c o,c≠z->c≠TO->c≠j1->c≠j2->s.heap.get? c=some o->h'.get? c=some o)->Q none { s with heap:=h' }):wpAny (model prog w) A (pyNext (.ref z)) Q E s:=by
 obtain⟨Zz,Zi,⟨a1,a2,Zo⟩,Z1,Z2⟩:=Z
 have ty:s.TypeIs (.ref z) "zip":=⟨_,Zz,rfl⟩
 have fin:∀(g':Heap) (e:Addr),(∀c o,c≠z->c≠TO->c≠j1->c≠j2->s.heap.get? c=some o->g'.get? c=some o)->(∃o,g'.get? e=some o/\o.cls = .type "StopIteration") →
   wpAny (model prog w) A (do if <-isInstance (.ref e) (.type "StopIteration")then pure none else throw (.ref e):Sem (Option Value)) Q E { s with heap:=g' }:=λg' e kk ⟨o,ho,hc⟩ =>
  wc (wpAny_isInstance (T:="StopIteration") (b:=true) ⟨o,ho,hc⟩ isSubtype_stop (wo (q g' kk)))
 unfold pyNext
 refine wc (wpAny_attempt (wpAny_callSpecial?_slot (name:=Str.ofString "__next__") ty F.slot_zip_next (yG F.slot_zip_next ty F.entry_zip_next ?_ (F.args_zip_next_1 _))))
 show wpAny _ _ (field (.ref z) 2 >>= _) _ _ s
 refine wc (wZ Zz rfl (x:=.bool false) rfl (?_:wpAny _ _ (field (.ref z) 3 >>= _) _ _ s))
 refine wc (wZ Zz rfl (x:=.ref TI) rfl (wc (yy Zi rfl (?_:wpAny _ _ (Builtin.SmallTypes.ownedTupleIsFree (.ref z) >>= _) _ _ s))))
 refine wc ?_;unfold Builtin.SmallTypes.ownedTupleIsFree
 refine wc (wZ Zz rfl (x:=.none) rfl (wo ?_))
 simp only[if_true]
 refine wc (uF (wc (wZ Zz rfl (x:=.ref TO) rfl (wc (y9 Zz (by simp) λg1 Zz1 m1=>?_)))))
 replace Zz1:IsZip g1 z TI TO .ellipsis:=Zz1
 refine wc ?_;simp only[List.zipIdx_cons,List.zipIdx_nil,List.forIn_cons,List.forIn_nil]
 refine wc (wc (WQ (?_:wpAny _ _ (Builtin.SmallTypes.nextOf (.ref j1) >>= _) _ _ _)))
 cases ex1:xs1[i]? with
 | none =>
  refine wc (zfP hh (Z1.at λo e=>(m1.extBut _ _ D.z_j1.symm e)) (q1.keep λo e=>(m1.extBut _ _ (q1.ne_z Zz) e)) ex1 λg2 e m2 ⟨oe,e1,e2⟩=>?_)
  have ZzE:IsZip g2 z TI TO .ellipsis:=m2 _ _ D.z_j1 Zz1
  have nz:e≠z:=λr=>by subst r;rw[ZzE]at e1;cases e1;simp at e2
  exact y9 ZzE (by simp) λgE _ mE=>fin gE e (λc o c_z c_TO c_j1 c_j2 r=>mE.extBut _ _ c_z (m2 _ _ c_j1 (m1.extBut _ _ c_z r))) ⟨oe,mE.extBut _ _ nz e1,e2⟩
 | some x1 =>
  refine wc (JO (Z1.at λo e=>(m1.extBut _ _ D.z_j1.symm e)) (q1.keep λo e=>(m1.extBut _ _ (q1.ne_z Zz) e)) ex1 λg2 Y1 m2=>wo ?_)
  have Zo2:ZX g2 TO a1 a2:=m2.extBut _ _ D.TO_j1 (m1.extBut _ _ D.z_TO.symm Zo)
  refine wc (yy Zo2 rfl (wc (zag Zo2 λg3 Zo3 m3=>wc (WP (wo ?_)))))
  replace Zo3:ZX g3 TO x1 a2:=Zo3
  refine wc (wc (WQ (?_:wpAny _ _ (Builtin.SmallTypes.nextOf (.ref j2) >>= _) _ _ _)))
  have ex2:xs2[i]? = none:=by
   rcases en with r | r
   ·rw[ex1]at r;cases r
   ·exact r
  refine wc (zfP hh (Z2.at λo e=>(m3.extBut _ _ D.TO_j2.symm (m2.extBut _ _ D.j1_j2.symm (m1.extBut _ _ D.z_j2.symm e)))) (q2.keep λo e=>(m3.extBut _ _ n2 (m2.extBut _ _ (q2.ne_j Z1) (m1.extBut _ _ (q2.ne_z Zz) e)))) ex2 λg4 e m4 ⟨oe,e1,e2⟩=>?_)
  have ZzE:IsZip g4 z TI TO .ellipsis:=m4 _ _ D.z_j2 (m3.extBut _ _ D.z_TO (m2.extBut _ _ D.z_j1 Zz1))
  have nz:e≠z:=λr=>by subst r;rw[ZzE]at e1;cases e1;simp at e2
  exact y9 ZzE (by simp) λgE _ mE=>fin gE e (λc o c_z c_TO c_j1 c_j2 r=>mE.extBut _ _ c_z (m4 _ _ c_j2 (m3.extBut _ _ c_TO (m2.extBut _ _ c_j1 (m1.extBut _ _ c_z r))))) ⟨oe,mE.extBut _ _ nz e1,e2⟩
end
def zbk (k1 k2:Bool) (K:Fg) (t1 t2:Addr):It :=
 ⟨λi H=>∃(xs1:List V) (xs2:List V) (x1:V) (x2:V),SqK k1 K H t1 xs1/\SqK k2 K H t2 xs2/\xs1[i]? = some x1/\xs2[i]? = some x2,
  λi H v H'=>∃(T:Addr) (x1 x2:V),v = .ref T/\H T=none/\H'=upd H T (.tup [x1,x2])/\(∀xs,SqK k1 K H t1 xs->xs[i]? = some x1)/\(∀xs,SqK k2 K H t2 xs->xs[i]? = some x2),
  λi H=>∃(xs1:List V) (xs2:List V),SqK k1 K H t1 xs1/\SqK k2 K H t2 xs2/\(xs1.length<=i\/xs2.length<=i)⟩
theorem zfy {P:Program}{w:World}{K:Fg}{elts:List Expr}{kc:Nat}{tp:Pos}(k1 k2:Bool) (z TI TO j1 j2 t1 t2:Addr) (D:ZN2 z TI TO j1 j2) (n1:t1≠TO) (n2:t2≠TO) :
  zbn P w K (.Tuple elts kc tp) (zbk k1 k2 K t1 t2) [z,TI,TO,j1,j2] z (λi h=>ZS2 z TI TO j1 j2 t1 t2 k1 k2 .none i h) where
 mem:=by simp
 obj:=λi h st b hb=>by
  obtain⟨Zz,Zi,⟨a1,a2,Zo⟩,Z1,Z2⟩:=st
  simp only[wy,wQ,or_false]at hb
  rcases hb with rfl | rfl | rfl | rfl | rfl
  ·exact⟨_,Zz,λ_ r=>by cases r⟩
  ·exact⟨_,Zi,λ_ r=>by cases r⟩
  ·exact⟨_,Zo,λ_ r=>by cases r⟩
  ·exact Z1.ob
  ·exact Z2.ob
 keep:=λi h h' st k=>by
  obtain⟨Zz,Zi,⟨a1,a2,Zo⟩,Z1,Z2⟩:=st
  exact⟨k z (by simp) _ Zz,k TI (by simp) _ Zi,⟨a1,a2,k TO (by simp) _ Zo⟩,Z1.at λo e=>k j1 (by simp) o e,Z2.at λo e=>k j2 (by simp) o e⟩
 item:=by
  intro X hP hw hK hc i pins s σ H E I hf st hg
  subst hP hw hK
  obtain⟨xs1,xs2,x1,x2,h1,h2,ex1,ex2⟩:=hg
  obtain⟨us1,r1,p1⟩:=Xj I h1
  obtain⟨us2,r2,p2⟩:=Xj I h2
  obtain⟨u1,eu1,rx1⟩:=r1.get ex1
  obtain⟨u2,eu2,rx2⟩:=r2.get ex2
  refine zfC D st (xs1:=us1.toArray) (xs2:=us2.toArray) p1 p2 n1 n2 (by simpa using eu1) (by simpa using eu2) λh' st' pr sz kk=>⟨_,rfl,?_⟩
  obtain⟨Zz,Zi,⟨a1,a2,Zo⟩,Z1,Z2⟩:=st'
  refine wpAny_letOwnedTupleGo_zip Zz λh2' Zz' sb=>?_
  have hTz:s.heap.objs.size≠z:=uM (wA st.z)
  have kk2:∀c o,c≠z->c≠TO->c≠j1->c≠j2->s.heap.get? c=some o->h2'.get? c=some o:=λc o c_z c_TO c_j1 c_j2 e=>(sb.2 c c_z).trans (kk c o c_z c_TO c_j1 c_j2 e)
  have prT:h2'.get? s.heap.objs.size=some { cls:=.type "tuple",data:=.seq #[u1,u2] }:=(sb.2 _ hTz).trans pr
  have hT:H s.heap.objs.size=none:=I.hok.fresh (wx _)
  have neC:∀b,b∉[z,TO,j1,j2]->b≠z/\b≠TO/\b≠j1/\b≠j2:=λb hb=>by simpa using hb
  have trk:∀b u,H b=some u->b≠z/\b≠TO/\b≠j1/\b≠j2:=λb u e=>by
   refine⟨?_,?_,?_,?_⟩ <;> rintro rfl
   ·rw[(hf b (by simp)).1]at e;cases e
   ·rw[(hf b (by simp)).1]at e;cases e
   ·rw[(hf b (by simp)).1]at e;cases e
   ·rw[(hf b (by simp)).1]at e;cases e
  have ltT:∀b o,s.heap.get? b=some o->b≠s.heap.objs.size:=λb o e=>wO (wA e)
  have u:Un (frs X.stack) [z,TO,j1,j2] H (upd H s.heap.objs.size (.tup [x1,x2])) s.heap h2' :=
   ⟨λb o e n _ hb=>by obtain⟨d0,d1,d2,d3⟩:=neC b hb;exact kk2 b o d0 d1 d2 d3 e,λb o e n _ hb=>by obtain⟨d0,d1,d2,d3⟩:=neC b hb;exact⟨o.slots,kk2 b o d0 d1 d2 d3 e⟩,
    λb o e n hb=>by rw[zE (ltT b o e)];exact n,λb o e hb=>by obtain⟨d0,d1,d2,d3⟩:=neC b hb;exact⟨o,kk2 b o d0 d1 d2 d3 e⟩,
    λb ws e=>by rw[zE (zG e hT)];exact e,λb o ws e=>by rw[zE (zG e hT)];exact e,λb ps e=>⟨#[],by rw[zE (zG e hT),e];simp⟩⟩
  have hok:HOk X.prog X.w (upd H s.heap.objs.size (.tup [x1,x2])) h2':=λb ob e=>by
   by_cases hb:b=s.heap.objs.size
   ·subst hb
    rw[zg]at e;cases e
    exact⟨⟨zL2,_,prT,rfl⟩,[u1,u2],(.cons rx1 (.cons rx2 .nil)),_,prT,rfl,0,rfl⟩
   ·rw[zE hb]at e
    refine(I.hok b ob e).stay (λc v hc' qc=>?_) (λc q=>by rw[zE (zG q hT)];exact q) λc ws q=>by rw[zE (zG q hT)];exact q
    have:∃o,H c=some o:=by
     rcases hc' with rfl | hc'
     ·exact⟨_,e⟩
     ·exact⟨_,hc'⟩
    obtain⟨o,ho⟩:=this
    obtain⟨d0,d1,d2,d3⟩:=trk c o ho
    exact kk2 c v d0 d1 d2 d3 qc
  refine⟨.ref s.heap.objs.size,upd H s.heap.objs.size (.tup [x1,x2]),?_,rfl,⟨_,x1,x2,rfl,hT,rfl,λxs' h=>by rw[za5 I h h1];exact ex1,λxs' h=>by rw[za5 I h h2];exact ex2⟩,
   ⟨Zz',(sb.2 _ D.z_TI.symm).trans Zi,⟨_,_,(sb.2 _ D.z_TO.symm).trans Zo⟩,Z1.at λo e=>(sb.2 _ D.z_j1.symm).trans e,Z2.at λo e=>(sb.2 _ D.z_j2.symm).trans e⟩,λb hb=>?_⟩
  ·refine I.call' (s':={ s with heap:=h2' }) (ch:=[z,TO,j1,j2]) rfl u hok I.bare λb hb=>?_
   obtain⟨_,y1,y2,y3,y4,y5⟩:=hf b (by simp only[wy,wQ,or_false]at hb ⊢;rcases hb with r | r | r | r <;> simp[r])
   exact⟨y3,y1,y4,y5⟩
  ·obtain⟨o,e,_⟩:∃o,s.heap.get? b=some o/\True:=by
    obtain⟨Zz,Zi,⟨a1,a2,Zo⟩,Z1,Z2⟩:=st
    simp only[wy,wQ,or_false]at hb
    rcases hb with rfl | rfl | rfl | rfl | rfl
    ·exact⟨_,Zz,trivial⟩
    ·exact⟨_,Zi,trivial⟩
    ·exact⟨_,Zo,trivial⟩
    ·obtain⟨o,e,_⟩:=Z1.ob;exact⟨o,e,trivial⟩
    ·obtain⟨o,e,_⟩:=Z2.ob;exact⟨o,e,trivial⟩
   rw[zE (ltT b o e)];exact(hf b hb).1
 done:=by
  intro X hP hw hK hc i pins s σ H E I hf st hg
  subst hP hw hK
  obtain⟨xs1,xs2,h1,h2,en⟩:=hg
  obtain⟨us1,r1,p1⟩:=Xj I h1
  have l1:=r1.length
  obtain⟨us2,r2,p2⟩:=Xj I h2
  have l2:=r2.length
  refine zhZ (I.ok.hd hc) D st (xs1:=us1.toArray) (xs2:=us2.toArray) p1 p2 n1 n2 (by rcases en with r | r;exact .inl (by simp;omega);exact .inr ((by simp;omega))) λh' kk=>⟨rfl,?_⟩
  have neC:∀b,b∉[z,TO,j1,j2]->b≠z/\b≠TO/\b≠j1/\b≠j2:=λb hb=>by simpa using hb
  have u:Un (frs X.stack) [z,TO,j1,j2] H H s.heap h' :=
   ⟨λb o e n _ hb=>by obtain⟨d0,d1,d2,d3⟩:=neC b hb;exact kk b o d0 d1 d2 d3 e,λb o e n _ hb=>by obtain⟨d0,d1,d2,d3⟩:=neC b hb;exact⟨o.slots,kk b o d0 d1 d2 d3 e⟩,
    λb o e n hb=>n,λb o e hb=>by obtain⟨d0,d1,d2,d3⟩:=neC b hb;exact⟨o,kk b o d0 d1 d2 d3 e⟩,λb ws e=>e,λb o ws e=>e,λb ps e=>⟨#[],by rw[e];simp⟩⟩
  have hok:HOk X.prog X.w H h':=λb ob e=>by
   refine(I.hok b ob e).stay (λc v hc' qc=>?_) (λc q=>q) λc ws q=>q
   have:∃o,H c=some o:=by
    rcases hc' with rfl | hc'
    ·exact⟨_,e⟩
    ·exact⟨_,hc'⟩
   obtain⟨o,ho⟩:=this
   have nn:∀d∈[z,TI,TO,j1,j2],c≠d:=λd hd r=>by subst r;rw[(hf c hd).1]at ho;cases ho
   exact kk c v (nn _ (by simp)) (nn _ (by simp)) (nn _ (by simp)) (nn _ (by simp)) qc
  refine I.call' (s':={ s with heap:=h' }) (ch:=[z,TO,j1,j2]) rfl u hok I.bare λb hb=>?_
  obtain⟨_,y1,y2,y3,y4,y5⟩:=hf b (by simp only[wy,wQ,or_false]at hb ⊢;rcases hb with r | r | r | r <;> simp[r])
  exact⟨y3,y1,y4,y5⟩
 self:=λ_ _ _ _ _ st h=>wpAny_pyIter_zip st.z h
def VC (h:Heap) (k1 k2:Bool) (t1 t2:Addr):Heap:=((((h.push (Xw k1 t1)).push (Xw k2 t2)).push { cls:=.type "tuple",data:=.seq #[.ref h.objs.size,.ref (h.objs.size+1)] }).push { cls:=.type "tuple",data:=.seq #[.none,.none] }).push { cls:=.type "zip",data:=.fields #[.none,.bool false,.bool false,.ref (h.objs.size+2),.ref (h.objs.size+3)] }
theorem zdZ (k1 k2:Bool) (t1 t2:Addr) (xs1 xs2:Array Value):Meets (Builtin.«zip.__new__» ⟨[.type "zip",.ref t1,.ref t2],[]⟩) (λ_ R s=>KSq k1 s.heap t1 xs1/\KSq k2 s.heap t2 xs2/\R (.ok (.ret (.ref (s.heap.objs.size+4)))) { s with heap:=VC s.heap k1 k2 t1 t2 }) :=
 .of_wp λprog w A R s h=>by
  obtain⟨hp,g,d,tk,os⟩:=s;obtain⟨q1,q2,h⟩:=h
  have hs:=sub_zip
  have K1:KSq k1 (Shared.heap ⟨hp,g,d,tk,os⟩) t1 xs1:=q1
  have K2:KSq k2 (Shared.heap ⟨(hp.push (Xw k1 t1)),g,d,tk,os⟩) t2 xs2:=(KSq.push q2)
  wp_walk using zfO K1,zfO K2
  refine⟨_,rfl,?_⟩
  unfold VC at h
  simp only[yw]at h ⊢
  exact h
section
variable {X:Cx}
def zig (K:Fg) (t:TA):TI:=λσ H R=>t σ H λvs H1=>∃(k1 k2:Bool) (t1 t2:Addr),vs=[.ref t1,.ref t2]/\(∃xs,SqK k1 K H1 t1 xs)/\(∃xs,SqK k2 K H1 t2 xs)/\R (zbk k1 k2 K t1 t2) H1
theorem zd1 {h:Heap}{k1 k2:Bool}{t1 t2:Addr}:IsZip (VC h k1 k2 t1 t2) (h.objs.size+4) (h.objs.size+2) (h.objs.size+3) .none/\ZX (VC h k1 k2 t1 t2) (h.objs.size+2) (.ref h.objs.size) (.ref (h.objs.size+1))/\ZX (VC h k1 k2 t1 t2) (h.objs.size+3) .none .none ∧
  KIt k1 (VC h k1 k2 t1 t2) (h.objs.size) t1 0/\KIt k2 (VC h k1 k2 t1 t2) (h.objs.size+1) t2 0/\∀c o,h.get? c=some o->(VC h k1 k2 t1 t2).get? c=some o:=by
 have z1:(h.push (Xw k1 t1)).objs.size=h.objs.size+1:=by rw[yw]
 have z2:((h.push (Xw k1 t1)).push (Xw k2 t2)).objs.size=h.objs.size+2:=by rw[yw,z1]
 have z3:(((h.push (Xw k1 t1)).push (Xw k2 t2)).push { cls:=.type "tuple",data:=.seq #[.ref h.objs.size,.ref (h.objs.size+1)] }).objs.size=h.objs.size+3:=by rw[yw,z2]
 have z4:((((h.push (Xw k1 t1)).push (Xw k2 t2)).push { cls:=.type "tuple",data:=.seq #[.ref h.objs.size,.ref (h.objs.size+1)] }).push { cls:=.type "tuple",data:=.seq #[.none,.none] }).objs.size=h.objs.size+4:=by rw[yw,z3]
 unfold VC
 refine⟨?_,?_,?_,?_,?_,λc o e=>?_⟩
 ·rw[<-z4];exact wB _ rfl
 ·refine wd _ (wd _ ?_)
  refine Vk z2.symm ?_
  rfl
 ·refine wd _ ?_
  refine Vk z3.symm ?_
  rfl
 ·refine zaz (wd _ (wd _ (wd _ (wd _ ?_))))
  exact wB _ rfl
 ·refine zaz (wd _ (wd _ (wd _ ?_)))
  exact Vk z1.symm rfl
 ·exact(wd _ (wd _ (wd _ (wd _ (wd _ e)))))
theorem Vi {Fz:List V->Hp->(It->Hp->Prop)->Prop} (hF:∀vs H R,Fz vs H R->∃(k1 k2:Bool) (t1 t2:Addr),vs=[.ref t1,.ref t2]/\(∃xs,SqK k1 X.K H t1 xs)/\(∃xs,SqK k2 X.K H t2 xs)/\R (zbk k1 k2 X.K t1 t2) H){a b:Expr}{ta:TA}{p pos tp:Pos}{elts:List Expr}{kc:Nat}(hg:Gl X "zip") (hm:X.mg "zip" = none) (ha:PA X [a,b] ta) (hs:starEach [a,b] X.env=[(false,eval a X.env),(false,eval b X.env)]:=by rfl) (hs1:starEach [b] X.env=[(false,eval b X.env)]:=by rfl) :
  PI X (.Tuple elts kc tp) (.Call (.Name "zip" p) [a,b] [] pos) (λσ H R=>ta σ H λvs H1=>Fz vs H1 R):=by
 intro pins s σ H R I h
 refine Call_ (jJ I hg hm (by decide +kernel:bootBuiltins "zip" = some (.type "zip")) (yC (thn (ha pos pins s σ H _ I h) λus s1 ⟨vs,H1,I1,r1,q1⟩=>?_) (by rw[hs,hs1]) (by rw[hs1];rfl)))
 obtain⟨k1,k2,t1,t2,e,⟨xs1,k_1⟩,⟨xs2,k_2⟩,q⟩:=hF _ _ _ q1
 subst e
 obtain⟨u1,u2,rfl,ru1,ru2⟩:=Jt r1
 cases(show u1=Value.ref t1 from ru1)
 cases(show u2=Value.ref t2 from ru2)
 obtain⟨as1,ra1,pa1⟩:=Xj I1 k_1
 obtain⟨as2,ra2,pa2⟩:=Xj I1 k_2
 refine callType_new F.called_zip (by decide) (F.typeCall_zip_2 _ _) (F.newCall_zip_2 _ _) (λobj=>F.args_object_init_3 obj _ _) F.entry_zip_new (zdZ k1 k2 t1 t2 as1.toArray as2.toArray) ⟨pa1,pa2,?_⟩
 obtain⟨g1,g2,g3,g4,g5,g6⟩:=zd1 (h:=s1.heap) (k1:=k1) (k2:=k2) (t1:=t1) (t2:=t2)
 show _/\_
 refine⟨⟨_,g1,rfl⟩,wpAny_pyIter_zip g1 ⟨_,[s1.heap.objs.size+4,s1.heap.objs.size+2,s1.heap.objs.size+3,s1.heap.objs.size,s1.heap.objs.size+1],_,_,H1,rfl,I1.kept (t':=s1.toks) g6,
  zfy k1 k2 (s1.heap.objs.size+4) (s1.heap.objs.size+2) (s1.heap.objs.size+3) s1.heap.objs.size (s1.heap.objs.size+1) t1 t2 ?_ (nne (wK pa1.lt (yN _ _))) (nne (wK pa2.lt (yN _ _))),⟨g1,g2,⟨_,_,g3⟩,g4,g5⟩,λb hb=>?_,q⟩⟩
 ·constructor <;> (intro z;simp only[Nat.add_right_inj,Nat.add_eq_left,Nat.left_eq_add]at z;try omega)
 ·have hb':s1.heap.objs.size<=b:=by
   simp only[wy,wQ,or_false]at hb
   rcases hb with rfl | rfl | rfl | rfl | rfl
   ·exact yN _ _
   ·exact yN _ _
   ·exact yN _ _
   ·exact wx _
   ·exact yN _ _
  exact I1.fpOk hb' (I1.hok.fresh hb')
theorem zeT {a b:Expr}{ta:TA}{p pos tp:Pos}{elts:List Expr}{kc:Nat}(hg:Gl X "zip") (hm:X.mg "zip" = none) (ha:PA X [a,b] ta) (hs:starEach [a,b] X.env=[(false,eval a X.env),(false,eval b X.env)]:=by rfl) (hs1:starEach [b] X.env=[(false,eval b X.env)]:=by rfl) :
  PI X (.Tuple elts kc tp) (.Call (.Name "zip" p) [a,b] [] pos) (zig X.K ta):=Vi (Fz:=λvs H1 R=>∃(k1 k2:Bool) (t1 t2:Addr),vs=[.ref t1,.ref t2]/\(∃xs,SqK k1 X.K H1 t1 xs)/\(∃xs,SqK k2 X.K H1 t2 xs)/\R (zbk k1 k2 X.K t1 t2) H1) (λ_ _ _ h=>h) hg hm ha hs hs1
theorem zaP {a b:Expr}{ta:TA}{p pos tp:Pos}{elts:List Expr}{kc:Nat}(hg:Gl X "zip") (hm:X.mg "zip" = none) (ha:PA X [a,b] ta) (hs:starEach [a,b] X.env=[(false,eval a X.env),(false,eval b X.env)]:=by rfl) (hs1:starEach [b] X.env=[(false,eval b X.env)]:=by rfl) :
  PI X (.Tuple elts kc tp) (.Call (.Name "zip" p) [a,b] [] pos) (zih X.K ta):=Vi (Fz:=λvs H1 R=>∃t1 t2,vs=[.ref t1,.ref t2]/\(∃xs,SqL X.K H1 t1 xs)/\(∃ys,SqL X.K H1 t2 ys)/\R (zcf X.K t1 t2) H1) (λ_ _ _ ⟨t1,t2,e,hx,hy,q⟩=>⟨false,false,t1,t2,e,hx,hy,q⟩) hg hm ha hs hs1
theorem zhb {a b:Expr}{ta:TA}{p pos tp:Pos}{elts:List Expr}{kc:Nat}(hg:Gl X "zip") (hm:X.mg "zip" = none) (ha:PA X [a,b] ta) (hs:starEach [a,b] X.env=[(false,eval a X.env),(false,eval b X.env)]:=by rfl) (hs1:starEach [b] X.env=[(false,eval b X.env)]:=by rfl) :
  PI X (.Tuple elts kc tp) (.Call (.Name "zip" p) [a,b] [] pos) (zif X.K ta):=Vi (Fz:=λvs H1 R=>∃t1 t2,vs=[.ref t1,.ref t2]/\(∃xs,SqT X.K H1 t1 xs)/\(∃ys,SqT X.K H1 t2 ys)/\R (Itz X.K t1 t2) H1) (λ_ _ _ ⟨t1,t2,e,hx,hy,q⟩=>⟨true,true,t1,t2,e,hx,hy,q⟩) hg hm ha hs hs1
end
def HSq (k:Bool) (H:Hp) (a:Addr) (xs:List V):Prop:=match k with | true=>H a=some (.tup xs) | false=>H a=some (.lst xs)
theorem HSq.sq {k:Bool}{K:Fg}{H:Hp}{a:Addr}{xs:List V}(h:HSq k H a xs):SqK k K H a xs:=by
 cases k
 ·exact SqL.of h
 ·exact SqT.of h
theorem HSq.same {k:Bool}{H H':Hp}{a:Addr}{xs:List V}(h:HSq k H a xs) (e:zi H H'):HSq k H' a xs:=by
 cases k <;> exact e _ _ h
theorem ze4 {k1 k2:Bool}{K:Fg}{H:Hp}{a b:Addr}{xs ys:List V}(ha:HSq k1 H a xs) (hb:HSq k2 H b ys) (e:xs.length<=ys.length):zfF (zbk k1 k2 K a b) H xs.length xs ys :=
 ⟨λi H' hi s=>⟨xs,ys,xs[i],ys[i],(ha.same s).sq,(hb.same s).sq,by simp[hi],wf _⟩,λH' s=>⟨xs,ys,(ha.same s).sq,(hb.same s).sq,.inl (wx _)⟩,
  λi v H2 H3 s ⟨T,x,y,z,h1,h2,h3,h4⟩=>⟨T,x,y,z,h1,h2,h3 xs (ha.same s).sq,h4 ys (hb.same s).sq⟩⟩
end L2
namespace KM
theorem Qb (a b:Rat):Rat.divInt (a.num*b.den - b.num*a.den) (a.den*b.den)=a - b:=by
 rw[Rat.sub_def',<-WS];simp
theorem Z8 {a b d:Int}(hd:0<d):Rat.divInt a d<Rat.divInt b d↔a<b:=by
 rw[yz,yz]
 have h:(0:Rat)<d:=Rat.intCast_pos.mpr hd
 rw[W6 h,Rat.div_mul_cancel (by grind)];exact Rat.intCast_lt_intCast
def mo (l r:Rat×Rat):Rat:=(r.1 - l.1)/(l.2 - r.2)
def x8 (f:Option Rat) (p:(Rat×Rat)×(Rat×Rat)):Option Rat :=
 if p.2.2<p.1.2 then(match f with
  | none=>some (mo p.1 p.2)
  | some u=>if mo p.1 p.2<u then some (mo p.1 p.2)else some u)else f
def qq (ch:List (Rat×Rat)):Option Rat:=(ch.zip ch.tail).foldl x8 none
theorem zaD (x:Rat):x*((x.den:Int):Rat)=((x.num:Int):Rat):=by
 have h:=Rat.num_divInt_den x
 rw[yz]at h
 have hd:((x.den:Int):Rat)≠0:=by
  intro z
  exact xV x (by exact_mod_cast z)
 have e:x*((x.den:Int):Rat)=((x.num:Int):Rat)/((x.den:Int):Rat)*((x.den:Int):Rat):=by rw[h]
 rw[e];grind
theorem byq {x:Rat}{b:Int}(h:(x.den:Int) ∣ b):((x.num*b.fdiv (x.den:Int):Int):Rat)=x*(b:Rat):=by
 obtain⟨k,rfl⟩:=h
 rw[Int.mul_fdiv_cancel_left _ (xV x)]
 have e:=zaD x
 rw[yK,yK,<-Rat.mul_assoc,e]
theorem zex (tk:Rat){a b:Int}(hb:b≠0):Rat.divInt (a*tk.num) (b*(tk.den:Int))=(a:Rat)*tk/(b:Rat):=by
 have e:=zaD tk
 have hd:((tk.den:Int):Rat)≠0:=by
  intro z
  exact xV tk (by exact_mod_cast z)
 have hb':((b:Int):Rat)≠0:=by
  intro z
  exact hb (by exact_mod_cast z)
 rw[yz,yK,yK,<-e]
 grind
theorem zcZ {l r:Rat×Rat}{p s:Rat}(hp:0<p) (hs:0<s) (h:r.2<l.2):(r.1*p - l.1*p)*(s/p)/(l.2*s - r.2*s)=mo l r:=by
 unfold mo
 have h1:l.2 - r.2≠0:=by grind
 have h2:l.2*s - r.2*s=(l.2 - r.2)*s:=by grind
 rw[h2]
 have h3:p≠0:=by grind
 have h4:s≠0:=by grind
 have h5:(l.2 - r.2)*s≠0:=by
  intro z
  rcases Rat.mul_eq_zero.mp z with y | y
  ·exact h1 y
  ·exact h4 y
 grind
theorem zej {a b c d t:Rat}(hb:0<b) (hd:0<d) (ht:0<t):a*t/b<c*t/d↔a*d<c*b:=by
 rw[W6 hb]
 have e:c*t/d*b=(c*b*t)/d:=by
  have:d≠0:=by grind
  grind
 rw[e,W7 hd]
 have e2:a*t*d=a*d*t:=by grind
 rw[e2,Rat.mul_lt_mul_right ht]
theorem zcY {α:Type}{L:List α}{p:α×α}(h:p∈L.zip L.tail):∃i,L[i]? = some p.1/\L[i+1]? = some p.2:=by
 obtain⟨i,hi⟩:=yO h
 rw[yn]at hi
 refine⟨i,hi.1,?_⟩
 have:=hi.2
 rw[uW]at this
 exact this
def xY (pl m:Rat) (ss:List Rat):List (Rat×Rat):=ss.map λs=>(pl - s*m,s)
theorem zew {pl m s s':Rat}(h:s'<s):mo (pl - s*m,s) (pl - s'*m,s')=m:=by
 unfold mo
 show (pl - s'*m - (pl - s*m))/(s - s')=m
 have h1:s - s'≠0:=by grind
 have e:pl - s'*m - (pl - s*m)=m*(s - s'):=by grind
 rw[e]
 grind
end KM
namespace L2
open PySem PySem.Spec PyProof.Rows
structure Jn (n₀:Nat) (J:Shared->Prop):Prop where
 kept:∀(s:Shared) (h':Heap) (tk:Nat),J s->(∀b o,s.heap.get? b=some o->h'.get? b=some o)->J { s with heap:=h',toks:=tk }
 upd:∀(s:Shared) (h':Heap) (tk:Nat) (a:Addr),n₀<=a->J s->Heap.SameBut a s.heap h'->(∃o,s.heap.get? a=some o)->(∃o,h'.get? a=some o)->J { s with heap:=h',toks:=tk }
 size:∀s,J s->n₀<=s.heap.objs.size
section
variable {prog:Program}{w:World}{A:Around}{E:Value->Shared->Prop}{s:Shared}{n₀:Nat}{J:Shared->Prop}{a kS:Addr}{vs:List Value}{kz:List Int}{keys:Array Value}{e e1:Nat}{P:PySem.Fin->Shared->Prop}
theorem za0 {st:SortSt}(U:Jn n₀ J) (j:J s) (nk:s.heap.get? kS=some (seqObj "list" keys e)) (na:s.heap.get? a=some (seqObj "list" #[] e1)) (hka:kS≠a) (gk:n₀<=kS) (ga:n₀<=a)
  (hk:IntsAre keys.toList kz) (hlen:kz.length=vs.length) (h64:vs.length<64) (hp:(arrOf st).Perm (keys.zip vs.toArray)) (hs:SortedTo (arrOf st) (arrOf st).size) (hfl:failedOf st=none)
  (h:∀s' out c,J s'->s'.heap.get? a=some (seqObj "list" out c)->KskOut false kz vs out.toList->P (.done (.ret .none)) s') :
  wpAny (model prog w) A (ksk_tail a false e1 (.ref kS) st) P E s:=by
 have hsz:keys.size=vs.length:=by
  have h1:=hk.length
  rw[yU]at h1
  omega
 have hsz2:(arrOf st).size=vs.length:=by rw[hp.size_eq,Array.size_zip,hsz,wz,WY]
 have hout:((arrOf st).map (·.2)).size=vs.length:=by rw[Array.size_map];exact hsz2
 have s1:=Heap.SameBut.update s.heap kS (Obj.mapSeq λ_=>(#[]:Array Value))
 have na1:(s.heap.update kS (Obj.mapSeq λ_=>(#[]:Array Value))).get? a=some (seqObj "list" #[] e1):=(s1.2 a hka.symm).trans na
 have s2:=Heap.SameBut.update (s.heap.update kS (Obj.mapSeq λ_=>(#[]:Array Value))) a (Obj.mapSeq λ_=>(arrOf st).map (·.2))
 obtain⟨c2,hc2⟩:∃c2,((s.heap.update kS (Obj.mapSeq λ_=>(#[]:Array Value))).update a (Obj.mapSeq λ_=>(arrOf st).map (·.2))).get? a=some (seqObj "list" ((arrOf st).map (·.2)) c2) :=
  ⟨_,get?_update_seq na1 λ_=>(arrOf st).map (·.2)⟩
 obtain⟨c1,hc1⟩:∃c1,(s.heap.update kS (Obj.mapSeq λ_=>(#[]:Array Value))).get? kS=some (seqObj "list" #[] c1):=⟨_,get?_update_seq nk λ_=>#[]⟩
 have j1:=U.upd s _ s.toks kS gk j s1 ⟨_,nk⟩ ⟨_,hc1⟩
 have j2:=U.upd _ _ s.toks a ga j1 s2 ⟨_,na1⟩ ⟨_,hc2⟩
 unfold ksk_tail
 try dsimp only
 refine wc (listUpdate_at nk rfl ?_ (by rw[hsz,sizeLine_eq];omega) (yg _))
 refine wc (WP ?_)
 refine wc (seqEpoch_at na1 rfl ?_)
 refine wc (listUpdate_at na1 rfl ?_ (yg _) (wS (WB hout) (by rw[sizeLine_eq];omega)))
 rw[hfl]
 simp only[bne_self_eq_false,yY,if_false]
 refine wo (h _ _ c2 j2 hc2 ?_)
 exact ksk_out (b:=false) hk hp hs
theorem zhm (U:Jn n₀ J) (j:J s) (nk:s.heap.get? kS=some (seqObj "list" keys e)) (na:s.heap.get? a=some (seqObj "list" #[] e1)) (hka:kS≠a) (gk:n₀<=kS) (ga:n₀<=a)
  (hk:IntsAre keys.toList kz) (hlen:kz.length=vs.length) (h64:vs.length<64)
  (h:∀s' out c,J s'->s'.heap.get? a=some (seqObj "list" out c)->KskOut false kz vs out.toList->P (.done (.ret .none)) s') :
  wpAny (model prog w) A (ksk_end a false vs.toArray e1 (.ref kS) keys) P E s:=by
 have hsz:keys.size=vs.length:=by
  have h1:=hk.length
  rw[yU]at h1
  omega
 have hzs:(keys.zip vs.toArray).size=vs.length:=by rw[Array.size_zip,hsz,wz,WY]
 unfold ksk_end
 simp only[yY,if_false]
 by_cases h2:vs.toArray.size<2
 ·rw[if_pos h2,if_pos h2]
  refine wc (wo ?_)
  rw[StateT.run_pure]
  refine wc (wo ?_)
  try dsimp only
  refine za0 (st:=SortSt.mk' general' (keys.zip vs.toArray) #[] 7 none) U j nk na hka gk ga hk hlen h64 (Array.Perm.refl _) ?_ rfl h
  intro i i' hij hj
  have hj2:i'<(keys.zip vs.toArray).size:=hj
  rw[hzs]at hj2
  rw[wz]at h2
  have:i=i':=by omega
  subst this
  exact Int.le_refl _
 ·rw[if_neg h2,if_neg h2]
  rw[wz]at h2
  rw[ksk_kind hk (by rw[hsz];omega)]
  refine wc (wo ?_)
  refine wc (yu (wpS_sortRuns (a₀:=keys.zip vs.toArray) (st:=SortSt.mk' oneType' (keys.zip vs.toArray) #[] 7 none)
   (Q:=λ_ st'=>(arrOf st').Perm (keys.zip vs.toArray)/\failedOf st'=none/\SortedTo (arrOf st') (keys.zip vs.toArray).size)
   (ksk_intKeys hk) ⟨Array.Perm.refl _,rfl,rfl,rfl⟩ (by rw[hzs];omega) (by rw[hzs];exact h64) λst' a1 a2 a3=>⟨a1,a2,a3⟩) ?_ λ_ _ e=>e)
  rintro ⟨⟨⟩,st'⟩ s' ⟨rfl,hp,hf,hs⟩
  try dsimp only
  exact za0 U j nk na hka gk ga hk hlen h64 hp (by rw[hp.size_eq];exact hs) hf h
theorem zfj {f:Value}(U:Jn n₀ J) (j:J s) (nk:s.heap.get? kS=some (seqObj "list" #[] 0)) (na:s.heap.get? a=some (seqObj "list" #[] e1)) (hka:kS≠a) (gk:n₀<=kS) (ga:n₀<=a)
  (hlen:kz.length=vs.length) (h64:vs.length<64)
  (turn:∀(i:Nat) (v:Value) (k:Int),vs[i]? = some v->kz[i]? = some k->∀s':Shared,J s' →
   wpAny (model prog w) A (call f [v]) (λu s''=>∃t',u = .int k t'/\J s''/\∀b o,n₀<=b->s'.heap.get? b=some o->s''.heap.get? b=some o) (λ_ _=>False) s')
  (h:∀s' out c,J s'->s'.heap.get? a=some (seqObj "list" out c)->KskOut false kz vs out.toList->P (.done (.ret .none)) s') :
  wpAny (model prog w) A (ksk_rest a f false vs.toArray e1 (.ref kS)) P E s:=by
 unfold ksk_rest
 refine wc (uF ?_)
 first
  | rw[List.forIn_toArray]
  | (rw[<-Array.forIn_toList];simp only[List.toList_toArray])
  | rw[<-Array.forIn_toList]
 refine wc (ksk_fold (λi s'=>∃kA e,J s'/\s'.heap.get? kS=some (seqObj "list" kA e)/\s'.heap.get? a=some (seqObj "list" #[] e1)/\IntsAre kA.toList (kz.take i)) vs 0 s
  ⟨#[],0,j,nk,na,by simpa using IntsAre.nil⟩ ?step ?done)
 case step =>
  rintro i x s' hx ⟨kA,e,j',nk',na',hk⟩
  simp only[Nat.zero_add]at hk ⊢
  have hj:i<vs.length:=(wk.mp hx).1
  obtain⟨k,hkj⟩:∃k,kz[i]? = some k:=⟨_,wf (by omega)⟩
  have hz:kA.size<=vs.length:=by
   have h1:=hk.length
   rw[yU,w5]at h1
   omega
  refine wc (wpAny_attempt (yu (turn i x k hx hkj s' j') (λv s'' he=>?_) λ_ _ hF=>hF.elim))
  obtain⟨t2,rfl,j2,kp⟩:=he
  try dsimp only
  have nk2:=kp _ _ gk nk'
  have na2:=kp _ _ ga na'
  have s1:=Heap.SameBut.update s''.heap kS (Obj.mapSeq (·.push (.int k t2)))
  obtain⟨c2,hc2⟩:∃c2,(s''.heap.update kS (Obj.mapSeq (·.push (.int k t2)))).get? kS=some (seqObj "list" (kA.push (.int k t2)) c2):=⟨_,get?_update_seq nk2 (·.push (.int k t2))⟩
  have ek:kz.take (i+1)=kz.take i++[k]:=by rw[ym,hkj];simp
  have ea:(kA.push (Value.int k t2)).toList=kA.toList++[Value.int k t2]:=by simp
  refine wc (listUpdate_at nk2 rfl ?_ (by rw[sizeLine_eq];omega) (wS (WB (Array.size_push ..)) (by rw[sizeLine_eq];omega)))
  exact wo ⟨rfl,kA.push (.int k t2),c2,U.upd _ _ _ kS gk j2 s1 ⟨_,nk2⟩ ⟨_,hc2⟩,hc2,(s1.2 a hka.symm).trans na2,by rw[ea,ek];exact ksk_snoc hk⟩
 case done =>
  rintro s' ⟨kA,e,j',nk',na',hk⟩
  have hk':IntsAre kA.toList kz:=by
   have e3:kz.take (0+vs.length)=kz:=wM (by omega)
   rw[e3]at hk
   exact hk
  try dsimp only
  refine wc (listItems_at nk' rfl ?_)
  exact zhm U j' nk' na' hka gk ga hk' hlen h64 h
theorem zfk {f:Value}{n:Nat}(U:Jn n₀ J) (j:J s) (ho:s.heap.get? a=some (seqObj "list" vs.toArray n)) (ga:n₀<=a) (hlen:kz.length=vs.length) (h64:vs.length<64)
  (turn:∀(i:Nat) (v:Value) (k:Int),vs[i]? = some v->kz[i]? = some k->∀s':Shared,J s' →
   wpAny (model prog w) A (call f [v]) (λu s''=>∃t',u = .int k t'/\J s''/\∀b o,n₀<=b->s'.heap.get? b=some o->s''.heap.get? b=some o) (λ_ _=>False) s')
  (h:∀s' out c,J s'->s'.heap.get? a=some (seqObj "list" out c)->KskOut false kz vs out.toList->P (.done (.ret .none)) s') :
  wpAny (model prog w) A (ksk_tree a f false) P E s:=by
 have ha:a<s.heap.objs.size:=wA ho
 have s1:=Heap.SameBut.update s.heap a (Obj.mapSeq λ_=>(#[]:Array Value))
 obtain⟨e1,ho1⟩:∃e1,(s.heap.update a (Obj.mapSeq λ_=>(#[]:Array Value))).get? a=some (seqObj "list" #[] e1):=⟨_,get?_update_seq ho λ_=>#[]⟩
 have j1:=U.upd s _ s.toks a ga j s1 ⟨_,ho⟩ ⟨_,ho1⟩
 have hkS:((s.heap.update a (Obj.mapSeq λ_=>(#[]:Array Value))).push (seqObj "tuple" vs.toArray 0)).objs.size=s.heap.objs.size+1:=by rw[size_push',Heap.size_update]
 have j2:=U.kept _ (((s.heap.update a (Obj.mapSeq λ_=>(#[]:Array Value))).push (seqObj "tuple" vs.toArray 0)).push (seqObj "list" #[] 0)) s.toks j1 λb o q=>wd _ (wd _ q)
 unfold ksk_tree
 refine wc (listItems_at ho rfl ?_)
 refine wc (listUpdate_at ho rfl ?_ (by rw[wz,sizeLine_eq];omega) (yg _))
 refine wc (seqEpoch_at ho1 rfl ?_)
 refine wc (wpAny_newTuple ?_ (by show vs.length<=_;rw[sizeLine_eq];omega))
 refine wc (wpAny_newList ?_ (yg _))
 refine yh ?_
 refine zfj (s:={ s with heap:=((s.heap.update a (Obj.mapSeq λ_=>(#[]:Array Value))).push (seqObj "tuple" vs.toArray 0)).push (seqObj "list" #[] 0) }) (kS:=((s.heap.update a (Obj.mapSeq λ_=>(#[]:Array Value))).push (seqObj "tuple" vs.toArray 0)).objs.size)
  U j2 (wB _ rfl) (wd _ (wd _ ho1)) (by rw[hkS];exact uM (Nat.lt_succ_of_lt ha)) (by rw[hkS];have:=U.size s j;omega) ga hlen h64 turn h
theorem zbZ {Q:Value->Shared->Prop}{l q:Addr}(U:Jn n₀ J) (j:J s) (hl:s.heap.IsList l vs.toArray) (hlen:kz.length=vs.length) (h64:vs.length<64)
  (turn:∀(i:Nat) (v:Value) (k:Int),vs[i]? = some v->kz[i]? = some k->∀s':Shared,J s' →
   wpAny (model prog w) A.in1.in1 (call (.ref q) [v]) (λu s''=>∃t',u = .int k t'/\J s''/\∀b o,n₀<=b->s'.heap.get? b=some o->s''.heap.get? b=some o) (λ_ _=>False) s')
  (h:∀D s' out c,n₀<=D->J s'->s'.heap.get? D=some (seqObj "list" out c)->KskOut false kz vs out.toList->Q (.ref D) s') :
  wpAny (model prog w) A (call (.builtin "sorted") [.ref l] [(Str.ofString "key",.ref q)]) Q E s:=by
 refine call_function_entry_kw kind_sorted plain_sorted entry_sorted (ksk_s1 _ _) ?_
 unfold Builtin.«sorted»
 refine wc (m:=checkCount "sorted" 1 1 _) (wo ?_)
 refine wc (collect_list hl ?_ (by rw[sizeLine_eq];omega))
 refine wc (wpAny_newList ?_ (by rw[sizeLine_eq];omega))
 have hsz:((s.heap.push (seqObj "list" #[] 0)).update s.heap.objs.size (Obj.mapSeq (·++vs.toArray))).objs.size=s.heap.objs.size+1:=by
  rw[Heap.size_update,size_push']
 have hoL:(((s.heap.push (seqObj "list" #[] 0)).update s.heap.objs.size (Obj.mapSeq (·++vs.toArray))).push (seqObj "list" vs.toArray 0)).get? (s.heap.objs.size+1)=some (seqObj "list" vs.toArray 0):=by
  rw[<-hsz];exact wB _ rfl
 have keep:∀b o,s.heap.get? b=some o->(((s.heap.push (seqObj "list" #[] 0)).update s.heap.objs.size (Obj.mapSeq (·++vs.toArray))).push (seqObj "list" vs.toArray 0)).get? b=some o:=λb o q=>by
  have hlt:b<s.heap.objs.size:=wA q
  rw[Heap.get?_push_ne _ _ _ (by rw[hsz];exact wO (Nat.lt_succ_of_lt hlt)),uL _ _ _ _ (wO hlt),Heap.get?_push_ne _ _ _ (wO hlt)]
  exact q
 have ge:n₀<=s.heap.objs.size+1:=Nat.le_succ_of_le (U.size s j)
 show wpAny _ _ _ _ _ { s with heap:=((s.heap.push (seqObj "list" #[] 0)).update s.heap.objs.size (Obj.mapSeq (·++vs.toArray))).push (seqObj "list" vs.toArray 0) }
 rw[hsz]
 refine wc (yh (wpAny_call_entry_kw slot_list_sort ⟨_,hoL,rfl⟩ entry_list_sort ?body (ksk_l1 _ _)))
 case body =>
  have ht':=ksk_t1 q (s.heap.objs.size+1)
  show wpAny (model prog w) A.in1.in1 (Builtin.«list.sort» ⟨[.ref (s.heap.objs.size+1)],[(Str.ofString "key",.ref q)]⟩) _ _ _
  rw[ht']
  refine zfk (s:={ s with heap:=((s.heap.push (seqObj "list" #[] 0)).update s.heap.objs.size (Obj.mapSeq (·++vs.toArray))).push (seqObj "list" vs.toArray 0) })
   U (U.kept s _ s.toks j keep) hoL ge hlen h64 turn λs' out c j' hD k'=>⟨_,rfl,?_⟩
  exact wo ⟨_,rfl,h _ s' out c ge j' hD k'⟩
end
theorem zeo {P:Program}{w:World}{K:Fg}{mg:Str->Option Value}{base:Heap}{k:Nat}{f c':Addr}{name qual:Str}{params:Arguments}{body:Expr}{scope:Scope}{pm ctv:Value}{N ps:List Str}{A:Around}{outer:List Env}{s:Shared}{H:Hp}{args:Args}{us:List Value}{vs:List V}{Q:VK}{E:XK}
  (hr:xn (k+1) A) (e0:XH P w K mg base A outer s H) (ho:s.heap.get? f=some (PySem.W.kla_obj name qual params body scope [] pm c' ctv)) (hcd:s.heap.CodeRec (.ref c') qual) (S:zF N ps scope)
  (hb:bindArgs (PySem.W.kla_fn name qual params body scope [] pm (.ref c') ctv) args=pure (ps.zip us)) (hl:vs.length=ps.length) (r:xb vs us){t:TE}
  (ht:PE (jh CX0 P w K mg base N qual scope f (.ref c') A outer s H E) body t) (hq:t (vq N vs) H Q) :
  codeAny (model P w) A (.call (.ref f) args) (CR CX0 outer P w H s Q E) s:=by
 have lim:s.heap.NoLimit:=e0.mod.nolimit.keeps λb o e=>(e0.bs b o e).1
 have hkind:∀y∈ps.zip us,scope.names.lookup y.1=some .local ∨ (scope.names.lookup y.1=some .cell/\((cellsFrom (s.heap.objs.size+1) scope.names []).lookup y.1).isSome=true):=λ⟨n,v⟩ hy=>by
  rcases S.par n (uu hy).1 with q | q
  ·exact .inl q
  ·exact .inr ⟨q,u5 _ _ _ (.inl q)⟩
 refine PySem.W.kla_callFunE hr.depth ho rfl S.co S.gen rfl hcd ?_
 rw[hb]
 refine wo (Wx S.kind hkind λenv he s1 x=>?_)
 subst he
 refine⟨lim.keeps x.toInCall.keep,PySem.W.kla_codeExpr ?_⟩
 have I:Inv (jh CX0 P w K mg base N qual scope f (.ref c') A outer s H E) [] (vq N vs) H s1:=QK S hr.hd e0 hl r x
 refine yu (ht [] s1 (vq N vs) H _ I hq) (λu s' hs=>?_) λe s' hs=>hs
 obtain⟨v,H',J,rv,q⟩:=hs
 exact⟨v,H',J.os,J.bare,J.base,J.hok,rv,q⟩
theorem jM {a b n:Nat}(h:a<n) (g:n<=b):a≠b:=wO (wK h g)
section
variable {X:Cx}{pins:List (Addr×Obj)}{σ:St}{H:Hp}{s:Shared}
theorem Inv.jn {q:Addr}{oq:Obj}(I:Inv X pins σ H s) (hq:(q,oq)∈pins) (hs:q+1=s.heap.objs.size):Jn (q+1) (λs'=>Inv X pins σ H s'):=by
 refine⟨λs' h' tk J k=>J.kept k,λs' h' tk a ge J sb _ _=>?_,λs' J=>?_⟩
 ·rw[hs]at ge
  refine J.turned (it:=a) (λb o hb e=>(sb.2 b hb).trans e) (I.hok.fresh ge) ?_ (.inr (wS I.sz ge)) (λx c e=>?_) λp hp=>?_
  ·exact(jM I.lt ge).symm
  ·obtain⟨v,o,ho,_⟩:=I.cell x c e
   exact jM (wA ho) ge
  ·exact jM (wA (I.pin p hp).1) ge
 ·exact wA (J.pin (q,oq) (wC _ hq)).1
theorem Inv.track {D:Addr}{o:HO}(I:Inv X pins σ H s) (hD:X.s₀.heap.objs.size<=D) (hn:H D=none) (hL:D≠X.env.locals) (hC:∀x c,X.env.cells.lookup x=some c->c≠D) (hp:∀p∈X.pn++pins,p.1≠D) (new:xy X.prog X.w (upd H D o) s.heap D o):Inv X pins σ (upd H D o) s:=by
 have ne:∀b u,X.s₀.heap.get? b=some u->b≠D:=λb u e=>jM (wA e) hD
 have tr:∀b u,H b=some u->upd H D o b=some u:=λb u e=>by rw[zE (zG e hn)];exact e
 refine⟨I.ok,I.os,I.bare,⟨I.base.keep,I.base.slot,λb u e n hx=>by rw[zE (ne b u e)];exact I.base.free b u e n hx,I.base.there,λb xs e=>tr _ _ (I.base.tups b xs e),λb u v e=>tr _ _ (I.base.frzs b u v e),λb ps e=>let ⟨m,z⟩:=I.base.tbls b ps e;⟨m,tr _ _ z⟩⟩,
  I.loc,I.cell,by rw[zE (Ne.symm hL)];exact I.free,λx c e=>by rw[zE (hC x c e)];exact I.freeC x c e,λp m=>by obtain⟨g1,g2,g3⟩:=I.pin p m;exact⟨g1,by rw[zE (hp p m)];exact g2,g3⟩,λb u e=>?_,I.len⟩
 by_cases hb:b=D
 ·subst hb;rw[zg]at e;cases e;exact new
 ·rw[zE hb]at e
  exact(I.hok b u e).stay (λ_ _ _ z=>z) (λc z=>tr _ _ z) λc xs z=>tr _ _ z
end
inductive Zp:List (Int×V)->List (Int×Value)->Prop where
 | nil:Zp [] []
 | cons {k:Int}{v:V}{u:Value}{l:List (Int×V)}{m:List (Int×Value)} (r:xr v u) (t:Zp l m):Zp ((k,v)::l) ((k,u)::m)
theorem zd0:∀{kz:List Int}{xs:List V}{vs:List Value},xb xs vs->Zp (kz.zip xs) (kz.zip vs)
 | [],_,_,_=>by simp;exact .nil
 | _::_,_,_,.nil=>by simp;exact .nil
 | k::kz,_,_,.cons r t=>by rw[WD,WD];exact .cons r (zd0 t)
theorem zfD {l1 l2:List (Int×Value)} (p:l1.Perm l2):∀{m2:List (Int×V)},Zp m2 l2->∃m1,m1.Perm m2/\Zp m1 l1:=by
 induction p with
 | nil=>intro m2 h;cases h;exact⟨[],.refl _,.nil⟩
 | cons x p ih=>intro m2 h;cases h with | cons r t=>obtain⟨m1,a,b⟩:=ih t;exact⟨_,a.cons _,.cons r b⟩
 | swap x y l=>intro m2 h;cases h with | cons r t=>cases t with | cons r' t'=>exact⟨_,List.Perm.swap ..,.cons r' (.cons r t')⟩
 | trans p1 p2 ih1 ih2=>intro m2 h;obtain⟨m1,a,b⟩:=ih2 h;obtain⟨m0,c,d⟩:=ih1 b;exact⟨m0,c.trans a,d⟩
theorem zju {m:List (Int×V)}{l:List (Int×Value)} (h:Zp m l) (p:l.Pairwise λa b=>a.1<=b.1):m.Pairwise λa b=>a.1<=b.1:=by
 have e:∀{m:List (Int×V)}{l:List (Int×Value)},Zp m l->m.map Prod.fst=l.map Prod.fst:=λh=>by
  induction h with
  | nil=>rfl
  | cons r t ih=>simp[ih]
 have p':(l.map Prod.fst).Pairwise (·<=·):=yr.mpr p
 rw[<-e h]at p'
 exact yr.mp p'
theorem zh0 {m:List (Int×V)}{l:List (Int×Value)} (h:Zp m l):xb (m.map Prod.snd) (l.map Prod.snd):=by
 induction h with
 | nil=>exact .nil
 | cons r t ih=>exact .cons r ih
def zcg (kz:List Int) (xs ys:List V):Prop:=∃ps:List (Int×V),ps.Perm (kz.zip xs)/\ys=ps.map Prod.snd/\ps.Pairwise λa b=>a.1<=b.1
section
variable {X:Cx}{pins:List (Addr×Obj)}{σ:St}{H:Hp}{s:Shared}
theorem J7 {l q c':Addr}{name qual x:Str}{params:Arguments}{body:Expr}{scope:Scope}{pm ctv:Value}{N:List Str}{xs:List V}{kz:List Int}{Qv:Value->Shared->Prop}{φ:Heap->Prop}(I:Inv X pins σ H s) (hq:(q,PySem.W.kla_obj name qual params body scope [] pm c' ctv)∈pins) (hs:q+1=s.heap.objs.size)
  (hc:H c'=some (.ext φ)) (hφ:∀h,φ h->h.CodeRec (.ref c') qual) (hr:xn 3 X.A) (S:zF N [x] scope) (hb:∀v,bindArgs (PySem.W.kla_fn name qual params body scope [] pm (.ref c') ctv) ⟨[v],[]⟩=pure [(x,v)])
  (hl:SqL X.K H l xs) (hlen:kz.length=xs.length) (h64:xs.length<64)
  (ht:∀(i:Nat) (v:V) (k:Int),xs[i]? = some v->kz[i]? = some k->∀s':Shared,∃t,PE (jh CX0 X.prog X.w X.K X.mg X.base N qual scope q (.ref c') X.A.in1.in1 X.stack s' H (λ_ _ _=>False)) body t/\t (vq N [v]) H (λu H'=>u = .int k/\H'=H))
  (h:∀D ys s',H D=none->zcg kz xs ys->Inv X pins σ (upd H D (.lst ys)) s'->Qv (.ref D) s') :
  wpAny (model X.prog X.w) X.A (call (.builtin "sorted") [.ref l] [(Str.ofString "key",.ref q)]) Qv X.xe s:=by
 obtain⟨its,rv,pl,hz⟩:=I.list hl
 have hlv:xs.length=its.length:=rv.length
 have hr1:xn 1 X.A.in1.in1:=(hr.in1).in1
 refine zbZ (U:=I.jn hq hs) I pl.isList (by rw[hlen,hlv]) (by omega) (λi v k ev ek s' J=>?_) λD s' out c ge J hD ko=>?_
 ·have hi:i<xs.length:=by have:=(wk.mp ek).1;omega
  obtain⟨u,eu⟩:∃u,xs[i]? = some u:=⟨_,wf hi⟩
  obtain⟨t,hp,hq'⟩:=ht i u k eu ek s'
  have ru:xr u v:=by
   obtain⟨v',e',r'⟩:=xb.get rv eu
   rw[ev]at e';cases e';exact r'
  have e0:=(J.env0.in1).in1
  refine Wo (codeAny_mono (zeo (k:=0) (E:=λ_ _ _=>False) hr1 e0 (J.pin _ (wC _ hq)).1 (hφ _ (J.hok c' _ hc).1) (us:=[v]) S (hb v) rfl (.cons ru .nil) hp hq') λr s'' hr'=>?_)
  cases r with
  | error e=>exact False.elim hr'
  | ok fl =>
   cases fl with
   | next=>exact False.elim hr'
   | brk=>exact False.elim hr'
   | cont=>exact False.elim hr'
   | ret w' =>
    have hr2:CE X.stack X.prog X.w H s' (λu H'=>u = .int k/\H'=H) w' s'':=hr'
    obtain⟨v1,H1,J1,r1,e1,e2⟩:=J.after hr2
    subst e1;subst e2
    obtain⟨t',rfl⟩:=(show ∃t',w'=Value.int k t' from r1)
    refine⟨t',rfl,J1,λb o gb e=>?_⟩
    obtain⟨_,H2,_,_,un,_,_,_,rfl⟩:=hr2
    have gb':s.heap.objs.size<=b:=wS (WB hs.symm) gb
    have nb:H2 b=none:=I.hok.fresh gb'
    refine un.keep b o e nb (λz=>?_) (by simp)
    rcases wy.mp (I.stkSub b z)with rfl | z
    ·exact(jM I.lt gb') rfl
    ·exact I.nofs gb' z
 ·rw[hs]at ge
  obtain⟨ps,hp,ho,hpw⟩:=ko
  obtain⟨ms,hm,hzp⟩:=zfD hp (zd0 rv)
  have hpw':ms.Pairwise λa b=>a.1<=b.1:=zju hzp (by simpa using hpw)
  have hv:=zh0 hzp
  rw[<-ho]at hv
  have hlm:(ms.map Prod.snd).length=xs.length:=by rw[we,hm.length_eq,ua,hlen,WY]
  refine h D (ms.map Prod.snd) s' (I.hok.fresh ge) ⟨ms,hm,rfl,hpw'⟩ (J.track (wS I.sz ge) (I.hok.fresh ge) ?_ (λx c e=>?_) (λp hp=>?_) ?_)
  ·exact(jM I.lt ge).symm
  ·obtain⟨v,o,ho,_⟩:=I.cell x c e
   exact jM (wA ho) ge
  ·exact jM (wA (I.pin p hp).1) ge
  ·refine⟨by rw[hlm];exact hz,out.toList,c,hv,?_⟩
   rw[hD]
end
theorem jW:∀{l:List Value},TriplesOk l->∀{m:List Value},TriplesOk m->TriplesOk (l++m)
 | [],_,_,h=>h
 | .int _ _::.int _ _::_::rest,h,m,k=>jW (l:=rest) h k
abbrev cdX (qual:Str) (c':Addr):HO:=.ext λh=>h.CodeRec (.ref c') qual
def vQ (P:Addr) (qual:Str) (pos:Pos) (H:Hp):Prop:=∃ps:Array Value,H P=some (.tbl ps)/\TriplesOk ps.toList/\(codeAmong pos ps.toList=none\/∃c',codeAmong pos ps.toList=some (.ref c')/\H c'=some (cdX qual c'))
def StT (P:Addr) (H H':Hp):Prop:=∀b o,H b=some o->b≠P->H' b=some o
theorem StT.refl {P:Addr}{H:Hp}:StT P H H:=λ_ _ e _=>e
theorem vQ.same {P:Addr}{qual:Str}{pos:Pos}{H H':Hp}(T:vQ P qual pos H) (e:zi H H'):vQ P qual pos H':=by
 obtain⟨ps,h1,h2,h3⟩:=T
 refine⟨ps,e _ _ h1,h2,?_⟩
 rcases h3 with h3 | ⟨c',h3,h4⟩
 ·exact .inl h3
 ·exact .inr ⟨c',h3,e _ _ h4⟩
theorem VM {qual:Str}{c':Addr}{h1 h2:Heap}(x:h1.CodeRec (.ref c') qual) (k:∀o,h1.get? c'=some o->h2.get? c'=some o):h2.CodeRec (.ref c') qual:=by
 obtain⟨c,o,vs,t,e,g,r⟩:=x
 cases e
 exact⟨c',o,vs,t,rfl,k _ g,r⟩
theorem JE {P:Program}{w:World}{H:Hp}{h:Heap}{qual:Str}{c':Addr}(x:h.CodeRec (.ref c') qual):xy P w H h c' (cdX qual c'):=by
 refine⟨x,?_,λh1 h2 a b=>VM a b⟩
 obtain⟨c,o,vs,t,e,g,r⟩:=x
 cases e
 exact⟨o,g⟩
section
variable {X:Cx}{pins:List (Addr×Obj)}{σ:St}{H:Hp}{s:Shared}
theorem Inv.pin1 {q:Addr}{oq:Obj}(I:Inv X pins σ H s) (h1:s.heap.get? q=some oq) (h2:H q=none) (h3:q≠X.env.locals) (h4:q∉X.fs) (h5:∀v,oq.data≠.cell v):Inv X (pins++[(q,oq)]) σ H s :=
 I.pins_of λp hp=>by
  rcases wN.mp hp with hp | hp
  ·exact I.pin p (wC _ hp)
  ·rw[wF.mp hp];exact⟨h1,h2,h3,h4,h5⟩
theorem zcR {P c:Addr}{qual:Str}{params:Arguments}{body:Expr}{scope:Scope}{pos:Pos}{Qv:Value->Shared->Prop}{E:Value->Shared->Prop}(I:Inv X pins σ H s) (hge:X.env.globals=mainGlobals) (hcode:X.env.code = .ref c) (hC:PySem.W.codeHdIn X.K c P=true)
  (hcl:closureFor scope X.env=pure []) (hdef:defaultsOf params X.env=([],[])) (hB:X.base.BuiltinsAt X.mg P) (hqu:X.env.qual++"<lambda>" = qual) (T:vQ P qual pos H)
  (h:∀q c' ctv s' H',vQ P qual pos H'->StT P H H'->H' c'=some (cdX qual c')->Inv X (pins++[(q,PySem.W.kla_obj "<lambda>" qual params body scope [] ((X.mg "__name__").getD .none) c' ctv)]) σ H' s'->q+1=s'.heap.objs.size->Qv (.ref q) s') :
  wpAny (model X.prog X.w) X.A (eval (.Lambda params body scope pos) X.env) Qv E s:=by
 obtain⟨ps,hT,tr,hcase⟩:=T
 have hP:s.heap.get? P=some (PySem.W.tabObj ps):=I.hok P _ hT
 have hG:s.heap.Ns mainGlobals X.mg:=I.mod.glob.keeps I.bk
 have CH:=PySem.W.codeHd_of_K I.kIn hC
 have hgP:mainGlobals≠P:=λz=>by
  obtain⟨o,es,ep,e,_⟩:=I.mod.glob
  have:=(I.bs _ _ e).2
  rw[z,hT]at this;cases this
 have hB':s.heap.BuiltinsAt X.mg P:=by
  obtain⟨bm,o,b1,b2,b3,b4,b5,b6⟩:=hB
  exact⟨bm,o,b1,b2,b3,b4,I.bk _ _ b5,b6⟩
 refine PySem.W.kla_eval hdef ?_
 rw[hqu]
 rcases hcase with hnf | ⟨c',hf,hc'⟩
 ·refine PySem.W.kla_makeFunction (mg:=X.mg) hcl hge hG hcode CH hP tr hnf hgP hB' λc' ctv h' tk hx hge' hlt hrec htb=>?_
  have hq0:s.heap.objs.size<=h'.objs.size:=wS hge' (Wz hlt)
  have hfc:H c'=none:=I.hok.fresh hge'
  have hcP:c'≠P:=λz=>by rw[z,hT]at hfc;cases hfc
  have kf:∀b o,b≠P->s.heap.get? b=some o->(h'.push (PySem.W.kla_obj "<lambda>" qual params body scope [] ((X.mg "__name__").getD .none) c' ctv)).get? b=some o:=λb o n e=>wd _ (hx b o n e)
  have neP:∀b,H b=none->b≠P:=λb e z=>by rw[z,hT]at e;cases e
  have neC:∀b o,s.heap.get? b=some o->b≠c':=λb o e=>jM (wA e) hge'
  have tr':∀b o,H b=some o->b≠P->upd (upd H P (.tbl (ps++#[rawInt pos.line,rawInt pos.col,.ref c']))) c' (cdX qual c') b=some o:=λb o e n=>by
   rw[zE (zG e hfc),zE n];exact e
  have J:Inv X pins σ (upd (upd H P (.tbl (ps++#[rawInt pos.line,rawInt pos.col,.ref c']))) c' (cdX qual c')) { s with heap:=h'.push (PySem.W.kla_obj "<lambda>" qual params body scope [] ((X.mg "__name__").getD .none) c' ctv),toks:=tk }:=by
   refine I.step (g':=s.gens) (d':=s.drawn) (ch:=[]) (λ_ z=>nomatch z) (λb o _ _ _ e n=>kf b o (neP b n) e) (λb o _ _ _ e n=>⟨o.slots,kf b o (neP b n) e⟩) (λb o _ e n=>by rw[zE (neC b o e),zE (neP b n)];exact n) (λb o _ e=>?_) (λb xs e=>tr' _ _ e λz=>by rw[z,hT]at e;cases e) (λb o u e=>tr' _ _ e λz=>by rw[z,hT]at e;cases e) (λb qs e=>?_) (λm hm=>?_) (λb u e=>?_) I.bare
   ·by_cases z:b=P
    ·subst z;exact⟨_,wd _ htb⟩
    ·exact⟨o,kf b o z e⟩
   ·by_cases z:b=P
    ·subst z
     rw[hT]at e;cases e
     exact⟨#[rawInt pos.line,rawInt pos.col,.ref c'],by rw[zE hcP.symm,zg]⟩
    ·exact⟨#[],by rw[tr' _ _ e z];simp⟩
   ·obtain⟨o,es,ep,ho,r⟩:=hm
    exact⟨o,es,ep,kf _ o (neP _ I.free) ho,r⟩
   ·by_cases zc:b=c'
    ·subst zc
     rw[zg]at e;cases e
     exact JE (hrec.push _)
    ·rw[zE zc]at e
     by_cases zp:b=P
     ·subst zp
      rw[zg]at e;cases e
      exact wd _ htb
     ·rw[zE zp]at e
      refine(I.hok b u e).stay (λd v hd ev=>kf d v ?_ ev) (λd ed=>tr' _ _ ed λz=>by rw[z,hT]at ed;cases ed) λd xs ed=>tr' _ _ ed λz=>by rw[z,hT]at ed;cases ed
      rcases hd with rfl | hd
      ·exact zp
      ·intro z;rw[z,hT]at hd;cases hd
  refine h h'.objs.size c' ctv _ _ ⟨_,by rw[zE hcP.symm,zg],?_,.inr ⟨c',?_,zg⟩⟩ (λb o e n=>tr' b o e n) zg (J.pin1 (wB _ rfl) ?_ (jM I.lt hq0).symm (I.nofs hq0) (λv=>by intro z;cases z)) (by rw[yw])
  ·rw[Array.toList_append]
   exact jW tr (show TriplesOk [rawInt pos.line,rawInt pos.col,.ref c']from trivial)
  ·rw[Array.toList_append]
   exact codeAmong_snoc _ tr hnf
  ·rw[zE (uM hlt),zE (neP _ (I.hok.fresh hq0))];exact I.hok.fresh hq0
 ·refine PySem.W.kla_makeFunctionHit (mg:=X.mg) hcl hge hG hcode CH hP tr hf hB' λctv h' tk hk hsz=>?_
  have J:Inv X pins σ H { s with heap:=h'.push (PySem.W.kla_obj "<lambda>" qual params body scope [] ((X.mg "__name__").getD .none) c' ctv),toks:=tk }:=I.kept λb o e=>wd _ (hk b o e)
  exact h h'.objs.size c' ctv _ _ ⟨ps,hT,tr,.inr ⟨c',hf,hc'⟩⟩ StT.refl hc' (J.pin1 (wB _ rfl) (I.hok.fresh hsz) (jM I.lt hsz).symm (I.nofs hsz) (λv=>by intro z;cases z)) (by rw[yw])
end
section
variable {X:Cx}{te to ta tc:TE}{p2 pos kpos p:Pos}
def zgz (to:TE) (tl th:TO):TG:=λv σ H Q=>to σ H λx H1=>tl σ H1 λi H2=>th σ H2 λj H3=>∃l b xs ys a c,x = .ref l/\v = .ref b/\i=some a/\j=some c/\H3 l=some (.lst xs)/\H3 b=some (.lst ys)/\l≠b/\0<=a/\a<=c/\c<=(xs.length:Int)/\xs.length+ys.length<=sizeLine ∧
 Q σ (upd H3 l (.lst (xs.take a.toNat++ys++xs.drop c.toNat)))
theorem zdd {o:Expr}{lo hi:Option Expr}{tl th:TO}(ho:PE X o to) (hl:PO X lo tl) (hh:PO X hi th)
  (ha:∀v,assign (.Subscript o (.Slice lo hi none p2) pos) X.env v=(do
   let ov <-holding [v] (eval o X.env)
   let iv <-holding [v,ov] (eval (.Slice lo hi none p2) X.env)
   standAt pos
   holding [v,ov,iv] (setItem ov iv v)
   release [iv,v,ov] []):=by intro _;rfl):PG X (.Subscript o (.Slice lo hi none p2) pos) (zgz to tl th):=by
 intro pins s σ H v u Q I r h
 rw[ha]
 refine wc (yh (thn (ho pins s σ H _ I h) λov s1 ⟨x,H1,I1,r1,q1⟩=>?_))
 refine wc (yh (wpAny_Slice (thn (hl pins s1 σ H1 _ I1 q1) λvl s2 ⟨l,H2,I2,pl,q2⟩=>thn (hh pins s2 σ H2 _ I2 q2) λvu s3 ⟨u',H3,I3,pu,q3⟩=>?_)))
 rw[evalPart_none]
 refine wo ?_
 obtain⟨l',b,xs,ys,a,c,rfl,rfl,rfl,rfl,h1,h2,h3,h4,h5,h6,h7,q⟩:=q3
 cases r
 cases r1
 have I4:Inv X pins σ H3 { s3 with heap:=s3.heap.push { cls:=.type "slice",data:=.fields #[vl,vu,.none] } }:=I3.kept (t':=s3.toks) λb ob q=>wd _ q
 refine wc (ul (wc (yh (zbY I4 h1 h2 h3 (Heap.IsSliceOf.new ..) (by cases pl;exact⟨_,rfl⟩) (by cases pu;exact⟨_,rfl⟩) h4 h5 h6 h7 λs' I'=>?_))))
 exact wpAny_release ⟨σ,_,I',q⟩
inductive zbb (P:Addr) (qual:Str) (lpos:Pos) (N:List Str) (tb:TE) (Q:VK) (vs:List V) (H1:Hp):Prop
 | mk:∀l xs kz,(vs=[.ref l])->(H1 l=some (.lst xs))->(vQ P qual lpos H1)->(kz.length=xs.length)->(xs.length<64)->((∀(i:Nat) (v:V) (k:Int),xs[i]? = some v->kz[i]? = some k->∀H2,StT P H1 H2->tb (vq N [v]) H2 (λu H'=>u = .int k/\H'=H2)))->(∀D ys H2,StT P H1 H2->vQ P qual lpos H2->H2 D=none->zcg kz xs ys->Q (.ref D) (upd H2 D (.lst ys)))->zbb P qual lpos N tb Q vs H1
def zhV (P:Addr) (qual:Str) (lpos:Pos) (N:List Str) (ta:TA) (tb:TE):TE:=λσ H Q=>ta σ H λvs H1=>zbb P qual lpos N tb Q vs H1
theorem zdc {e body:Expr}{params:Arguments}{scope:Scope}{lpos:Pos}{P c:Addr}{x qual:Str}{N:List Str}{ta:TA}{tb:TE}(hge:X.env.globals=mainGlobals) (hcode:X.env.code = .ref c) (hC:PySem.W.codeHdIn X.K c P=true)
  (hcl:closureFor scope X.env=pure []) (hdef:defaultsOf params X.env=([],[])) (hB:X.base.BuiltinsAt X.mg P) (hqu:X.env.qual++"<lambda>" = qual) (hr:xn 3 X.A) (S:zF N [x] scope)
  (hb:∀(pm cd ctv v:Value),bindArgs (PySem.W.kla_fn "<lambda>" qual params body scope [] pm cd ctv) ⟨[v],[]⟩=pure [(x,v)])
  (hg:Gl X "sorted") (hm:X.mg "sorted" = none) (ha:PA X [e] ta)
  (hpe:∀(q c':Addr) (s':Shared) (H':Hp),PE (jh CX0 X.prog X.w X.K X.mg X.base N qual scope q (.ref c') X.A.in1.in1 X.stack s' H' (λ_ _ _=>False)) body tb)
  (hbt:backTo pos (starEach [e] X.env)=(false,eval e X.env)::backTo pos (starEach [] X.env):=by rfl) :
  PE X (.Call (.Name "sorted" p) [e] [⟨some "key",.Lambda params body scope lpos,kpos⟩] pos) (zhV P qual lpos N ta tb):=by
 intro pins s σ H Q I h
 refine yL (jJ I hg hm boot_sorted ?_ (by decide) (by decide))
 refine callWith_kw ?_ hbt (by rw[hbt];rfl) rfl rfl
 refine thn (ha pos pins s σ H _ I h) λus s1 ⟨vs,H1,I1,r1,q1⟩=>?_
 obtain⟨l,xs,kz,rfl,h1,h2,h3,h4,h5,h6⟩:=q1
 obtain⟨u,rfl,ru⟩:=Zn r1
 cases ru
 have hlP:l≠P:=λz=>by
  obtain⟨ps,e,_⟩:=h2
  rw[<-z,h1]at e;cases e
 refine kws_cons (zcR I1 hge hcode hC hcl hdef hB hqu h2 λq c' ctv s' H' T' st' hc' J hq=>kws_nil ?_)
 show wpAny (model X.prog X.w) X.A (call (.builtin "sorted") [.ref l] [(Str.ofString "key",.ref q)]) _ _ s'
 refine J7 (φ:=λh=>h.CodeRec (.ref c') qual) J (wC _ (wF.mpr rfl)) hq hc' (λ_ z=>z) hr S (hb _ _ _) (SqL.of (st' l _ h1 hlP)) h3 h4 (λi v k ev ek s''=>⟨tb,hpe q c' s'' H',h5 i v k ev ek H' st'⟩) λD ys s'' hD hK J'=>?_
 exact⟨.ref D,_,J'.unpinned,rfl,h6 D ys H' st' T' hD hK⟩
end
theorem zbI {P:Program}{w:World}{K:Fg}{mg mb:Str->Option Value}{CX:CXT}{k:Nat}{fa a Tb c:Addr}{fd:FuncData}{x:Str}{sp:Sp}{s₁:Shared}{vs:List Value}{ns:List Int}
  (KX:K.In s₁.heap) (hns:s₁.heap.Ns mainGlobals mg) (hb:s₁.heap.Ns builtinsNs mb) (hbb:∀x:Str,x≠"__name__"->mb x=bootBuiltins x) (hlim:s₁.heap.NoLimit) (hg:s₁.gens = #[])
  (hbm:∃bm ob,mg "__builtins__" = some (.ref bm)/\bm≠builtinsNs/\s₁.heap.get? bm=some ob/\ob.cls = .type "module"/\ob.dict=some builtinsNs/\ob.data = .plain)
  (hTb:s₁.heap.get? Tb=some (PySem.W.tabObj #[])) (hKT:K.lookup Tb=none) (hC:PySem.W.codeHdIn K c Tb=true)
  (ha:s₁.heap.get? a=some { cls:=.type "list",data:=.seq vs.toArray }) (hi:IntsAre vs ns) (hl:ns.length<=sizeLine) (hr:xn k callerA)
  (F:∀base:Heap,K.In base->base.Ns mainGlobals mg->base.BuiltinsAt mg Tb->vP P w K mg base CX k fa fd [x] sp) (hbind:∀(s:Shared) (u:Value),BindsTo s fd ⟨[u],[]⟩ [(x,u)])
  (hsp:∀H:Hp,H Tb=some (.tbl #[])->SqL K H a (ns.map V.int)->sp [.ref a] H (λv _=>v = .bl true) λ_ _ _=>False)
  (hCX:∀H e s',CX [] H s₁ (λ_ _ _=>False) e s'->False) :
  codeAny (model P w) callerA (.call (.ref fa) ⟨[.ref a],[]⟩) (λr s'=>r = .ok (.ret (.bool true))/\OldK s₁.heap s'.heap/\s'.os=s₁.os/\AllBare s'.gens) s₁:=by
 have rv:=QW hi
 have lenV:=hi.length
 have haT:a≠Tb:=λz=>by rw[z,hTb]at ha;cases ha
 have core:∀H:Hp,H Tb=some (.tbl #[])->SqL K H a (ns.map V.int)->HOk P w H s₁.heap->(∀b,b≠Tb->H b=none\/(b=a/\∃o xs,H b=some (.frz o (.lst xs))))->(H a≠none->K.lookup a=none) →
   codeAny (model P w) callerA (.call (.ref fa) ⟨[.ref a],[]⟩) (λr s'=>r = .ok (.ret (.bool true))/\OldK s₁.heap s'.heap/\s'.os=s₁.os/\AllBare s'.gens) s₁:=by
  intro H hT hS hok hO hK
  have base_of:∀{b:Addr}{o:Obj},s₁.heap.get? b=some o->H b=none->(Qt s₁.heap H).get? b=some o:=λe n=>zcL e n
  have noA:∀{b:Addr}{o:Obj},s₁.heap.get? b=some o->(∀xs n,o.data≠.seq xs n)->(∀xs,o.data≠.fields xs)->H b=none:=λ{b o} e d1 d2=>by
   by_cases hbT:b=Tb
   ·subst hbT;rw[hTb]at e;cases e;exact absurd rfl (d2 #[])
   ·rcases hO b hbT with z | ⟨rfl,_⟩
    ·exact z
    ·rw[ha]at e;cases e;exact absurd rfl (d1 _ _)
  have nsK:∀{b:Addr}{m:Str->Option Value},s₁.heap.Ns b m->(Qt s₁.heap H).Ns b m:=λ{b m} ⟨o,es,ep,e,d,r⟩=>⟨o,es,ep,base_of e (noA e (λ_ _ z=>by rw[d]at z;cases z) λ_ z=>by rw[d]at z;cases z),d,r⟩
  have hKb:K.In (Qt s₁.heap H):=λb o e=>base_of (KX b o e) (by
   by_cases hbT:b=Tb
   ·subst hbT;rw[hKT]at e;cases e
   ·rcases hO b hbT with z | ⟨rfl,o',xs,z⟩
    ·exact z
    ·rw[hK (by rw[z];simp)]at e;cases e)
  have hM:Mod K mg (Qt s₁.heap H):=⟨hKb,nsK hns,⟨mb,nsK hb,hbb⟩,let ⟨mc,h1,h2⟩:=hlim;⟨mc,nsK h1,h2⟩⟩
  have hBA:(Qt s₁.heap H).BuiltinsAt mg Tb:=by
   obtain⟨bm,ob,b1,b2,b3,b4,b5,b6⟩:=hbm
   refine⟨bm,ob,b1,b2,λz=>?_,λz=>?_,base_of b3 (noA b3 (λ_ _ z=>by rw[b6]at z;cases z) λ_ z=>by rw[b6]at z;cases z),b4,b5,b6⟩
   ·obtain⟨o,es,ep,e,d,_⟩:=hns
    rw[z,e]at b3;cases b3;rw[d]at b6;cases b6
   ·rw[z,hTb]at b3;cases b3;cases b4
  have e0:XH P w K mg (Qt s₁.heap H) callerA [] s₁ H:=⟨rfl,hM,λb o e=>zeA e,WB (zbC _ _),trivial,λb hb=>absurd (show b∈([]:List Addr)from hb) (by simp),hok,.of_eq hg⟩
  refine codeAny_mono ((F _ hKb (nsK hns) hBA).run callerA [] s₁ H ⟨[.ref a],[]⟩ [.ref a] [.ref a] _ _ hr e0 (hbind s₁ (.ref a)) (.cons rfl .nil) (hsp H hT hS)) λr s' h=>?_
  cases r with
  | error e=>exact(hCX H e s' h).elim
  | ok fl =>
   cases fl with
   | next=>exact False.elim h
   | brk=>exact False.elim h
   | cont=>exact False.elim h
   | ret u =>
    obtain⟨v,H',os,bare,un,hok',r',q⟩:=h
    have q':v = .bl true:=q
    subst q'
    obtain rfl:u=Value.bool true:=r'
    have old:∀b o,b≠Tb->s₁.heap.get? b=some o->s'.heap.get? b=some o:=λb o hbT e=>by
     rcases hO b hbT with z | ⟨_,ob,xs,z⟩
     ·exact un.keep b o e z (by intro z;exact absurd (show b∈([]:List Addr)from z) (by simp)) (by simp)
     ·have z2:=un.frzs b ob _ z
      obtain⟨e1,_⟩:=hok b _ z
      obtain⟨e2,_⟩:=hok' b _ z2
      rw[e]at e1;cases e1
      exact e2
    obtain⟨more,eT⟩:=un.tbls Tb #[] hT
    have gT:s'.heap.get? Tb=some (PySem.W.tabObj (#[]++more)):=hok' Tb _ eT
    refine⟨rfl,⟨λb o e=>?_,λb o e=>?_⟩,os,bare⟩
    ·by_cases hbT:b=Tb
     ·subst hbT
      rw[hTb]at e;cases e
      exact .inr (.inl ⟨((PySem.W.codeHd_of_K KX hC).tab hTb).isCodeTable,rfl,#[],more,rfl,gT⟩)
     ·exact .inl (old b o hbT e)
    ·by_cases hbT:b=Tb
     ·subst hbT;exact⟨_,gT⟩
     ·exact⟨o,old b o hbT e⟩
 cases hk:K.lookup a with
 | some o =>
  have e:=KX a o hk
  rw[ha]at e
  cases e
  refine core (λb=>if b=Tb then some (.tbl #[])else none) (if_pos rfl) (.inr ⟨_,vs.toArray,_,hk,rfl,rfl,rfl,by rw[wz,lenV];exact hl,by simpa using rv⟩) (λb u z=>?_) (λb hb=>.inl (if_neg hb)) λz=>absurd (if_neg haT) z
  by_cases hb:b=Tb
  ·have z':=(if_pos hb).symm.trans z
   cases z'
   subst hb
   exact hTb
  ·have z':=(if_neg hb).symm.trans z
   cases z'
 | none =>
  refine core (λb=>if b=Tb then some (.tbl #[])else if b=a then some (.frz { cls:=.type "list",data:=.seq vs.toArray } (.lst (ns.map V.int)))else none) (if_pos rfl) (.inl (.inr ⟨{ cls:=.type "list",data:=.seq vs.toArray },by show (if a=Tb then _ else _)=_;rw[if_neg haT,if_pos rfl]⟩)) (λb u z=>?_) (λb hb=>?_) λ_=>hk
  ·by_cases hb:b=Tb
   ·have z':=(if_pos hb).symm.trans z
    cases z'
    subst hb
    exact hTb
   ·have z1:=(if_neg hb).symm.trans z
    by_cases hb2:b=a
    ·have z':=(if_pos hb2).symm.trans z1
     cases z'
     subst hb2
     exact⟨ha,by rw[we];exact hl,vs,_,rv,ha⟩
    ·have z':=(if_neg hb2).symm.trans z1
     cases z'
  ·by_cases hb2:b=a
   ·exact .inr ⟨hb2,_,_,by show (if b=Tb then _ else _)=_;rw[if_neg hb,if_pos hb2]⟩
   ·exact .inl (by show (if b=Tb then _ else _)=_;rw[if_neg hb,if_neg hb2])
theorem zdV {l:PySem.W.OpenLaw}{n k:Nat}{q:Program}{loose:List Str}{XP:(Str->Option Value)->Heap->Prop}{YP:World->Heap->Prop}{d:DefRec}{K:Params->Fg}{CX:World->CXT}{sp:World->Sp}{x:Str}{Tb c:Addr}
  (hn:l.most=some n) (hn2:n<=sizeLine) (hdf:d.params.defaults=[]) (hr:xn k callerA)
  (hY:∀(w:World) (h:Heap),YP w h->(K w.params).In h/\h.get? Tb=some (PySem.W.tabObj #[])) (hKT:∀w:World,(K w.params).lookup Tb=none) (hC:∀w:World,PySem.W.codeHdIn (K w.params) c Tb=true)
  (F:∀(w:World) (mg:Str->Option Value) (fa:Addr) (h:Heap),(K w.params).In h->h.Ns mainGlobals mg->mg d.name=some (.ref fa) →
   ∃fd:FuncData,(∀(s:Shared) (u:Value),BindsTo s fd ⟨[u],[]⟩ [(x,u)]) ∧
    ∀base:Heap,(K w.params).In base->base.Ns mainGlobals mg->base.BuiltinsAt mg Tb->vP l.prog w (K w.params) mg base (CX w) k fa fd [x] (sp w))
  (hsp:∀(w:World) (H:Hp) (a:Addr) (ns:List Int),ns.length<=n->H Tb=some (.tbl #[])->SqL (K w.params) H a (ns.map V.int)->sp w [.ref a] H (λv _=>v = .bl true) λ_ _ _=>False)
  (hCX:∀(w:World) (H:Hp) (s:Shared) (e:Value) (s':Shared),CX w [] H s (λ_ _ _=>False) e s'->False) :
  PySem.W.WalkO q loose XP YP l.row.toRowW d [] (λf vs=>PySem.call f vs):=by
 refine Att.attach_call hn hdf λw s₀ s₁ mg mb fa o pm cd doc a vs ns G Y ho hd hcd hmg hobj hints hlen hg=>?_
 obtain⟨KX,hT⟩:=hY w _ Y
 obtain⟨fd,hb,hF⟩:=F w mg fa _ KX G.T.g hmg
 exact zbI KX G.T.g G.T.b G.T.builtins G.T.nolimit hg G.T.bmain hT (hKT w) (hC w) hobj hints (wS hlen hn2) hr hF hb (λH hO hS=>hsp w H a ns hlen hO hS) λH e s'=>hCX w H s₁ e s'
section
variable {prog:Program}{w:World}{A:Around}{E:Value->Shared->Prop}{s:Shared}
theorem VT {h h':Heap}{l a:Addr}{items:Array Value}(hl:h.IsList l items) (he:Heap.ExtBut a h h') (n:l≠a):h'.IsList l items:=by
 obtain⟨o,ho,r⟩:=hl
 exact⟨o,he l o n ho,r⟩
theorem XU {it l:Addr}{items:Array Value}(hne:l≠it):∀(n i:Nat) (s:Shared) (Q:List Value->Shared->Prop),s.heap.IsListIter it l i->s.heap.IsList l items->i+n<=items.size →
  (∀h',h'.IsListIter it l (i+n)->Heap.SameBut it s.heap h'->Q ((items.toList.drop i).take n) { s with heap:=h' })->wpAny (model prog w) A (draw (.ref it) n) Q E s
 | 0,i,s,Q,hit,_,_,hQ=>by
  show wpAny _ _ (pure []) Q E s
  exact wo (by simpa using hQ s.heap hit (Heap.SameBut.refl ..))
 | n+1,i,s,Q,hit,ht,hle,hQ=>by
  have hlt:i<items.size:=by omega
  show wpAny _ _ (pyNext (.ref it) >>= _) Q E s
  refine wc (wpAny_pyNext_list_item hit ht (x:=items[i]) (by simp[hlt]) λh₁ hit₁ hs₁=>?_)
  refine wc (yh (XU hne n (i+1) _ _ hit₁ (VT ht hs₁.extBut hne) (by omega) λh₂ hit₂ hs₂=>wo ?_))
  have hd:items.toList.drop i=items[i]::items.toList.drop (i+1):=by simp[ya,hlt]
  have:=hQ h₂ (by rw[show i+(n+1)=i+1+n by omega];exact hit₂) (hs₁.trans hs₂)
  rw[hd,uh]at this
  exact this
theorem ZV {l:Addr}{items:Array Value}{Q:List Value->Shared->Prop}(hh:A.handled=none) (ht:s.heap.IsList l items)
  (hQ:∀h',Heap.ExtBut s.heap.objs.size s.heap h'->Q items.toList { s with heap:=h' }):wpAny (model prog w) A (unpackItems (.ref l) items.size none) Q E s:=by
 have hlt:l≠s.heap.objs.size:=by obtain⟨o,ho,_⟩:=ht;exact wO (wA ho)
 have pu:(s.heap.push { cls:=.type "list_iterator",data:=.fields #[.ref l,.int 0 0] }).IsList l items:=by
  obtain⟨o,ho,r⟩:=ht;exact⟨o,wd _ ho,r⟩
 unfold unpackItems
 refine wc ?_
 unfold notIterableAtAll
 refine wc (W5 ht.typeIs slot_list_iter.lookup ?_)
 refine wo ?_
 simp only[yY,if_false]
 refine wc (yh (Wc ht ?_))
 refine wc (yh (XU hlt items.size 0 _ _ ⟨_,wB _ rfl,rfl,rfl⟩ pu (by omega) λh₁ hit₁ hs₁=>?_))
 have hall:List.take items.size (List.drop 0 items.toList)=items.toList:=by
  rw[List.drop_zero];exact wM (by simp)
 rw[hall]
 rw[if_neg (by simp)]
 have ht₁:h₁.IsList l items:=VT pu hs₁.extBut hlt
 refine wc (yh (wpAny_pyNext_list_end hh hit₁ ht₁ (by simp) λh₂ he₂=>?_))
 simp only[Option.isSome_none,yY,if_false]
 refine wo (hQ h₂ λb o hb e=>he₂ b o hb (hs₁.extBut b o hb (wd _ e)))
end
section
variable {X:Cx}{pos:Pos}
def zia (K:Fg) (n:Nat) (t:TGs):TG:=λv σ H Q=>∃a xs,v = .ref a/\SqL K H a xs/\xs.length=n/\t xs σ H Q
theorem zaN {es:List Expr}{k:Nat}{t:TGs}{n:Nat}(hc:X.calm=true) (h:PGs X es t)
  (hn:(assignEach es X.env).length=n:=by rfl) (hst:(assignEach es X.env).findIdx? (·.1)=none:=by rfl):PG X (.Tuple es k pos) (zia X.K n t):=by
 intro pins s σ H v u Q I r hw
 obtain⟨a,xs,e1,hq,hl,hw⟩:=hw
 subst e1
 cases r
 obtain⟨its,rv,ht,hz⟩:=I.list hq
 rw[assign_Tuple]
 refine wc (ul ?_)
 unfold unpack
 have hsz:(assignEach es X.env).length=its.toArray.size:=by simp[hn,<-hl,rv.length]
 rw[hsz,hst]
 refine wc (yh (ZV (I.ok.hd hc) ht.isList λh' hx=>?_))
 have I1:Inv X pins σ H { s with heap:=h' }:=I.kept (t':=s.toks) λb o e=>hx b o (wO (wA e)) e
 exact h pins _ σ H xs _ Q I1 (by simpa using rv) hw
end
section
variable {κ:Type} [DecidableEq κ]
def VA (kvs:List (κ×V)) (k:κ):Option V:=(kvs.find? λkv=>decide (kv.1=k)).map (·.2)
def Jc (kvs:List (κ×V)) (k:κ) (v:V):List (κ×V) :=
 if(kvs.any λkv=>decide (kv.1=k))=true then kvs.map (λkv=>if kv.1=k then(kv.1,v)else kv)else kvs++[(k,v)]
theorem Js {p:κ×V}{r:List (κ×V)}{k:κ}(e:p.1=k):VA (p::r) k=some p.2:=by simp[VA,uA,e]
theorem Jr {p:κ×V}{r:List (κ×V)}{k:κ}(e:¬p.1=k):VA (p::r) k=VA r k:=by simp[VA,uA,e]
theorem VS (kvs:List (κ×V)) (k:κ) (v:V):(Jc kvs k v).length<=kvs.length+1:=by
 unfold Jc
 split
 ·rw[we];omega
 ·rw[wE,wG,yJ];omega
theorem KV.val {kvs:List (κ×V)}{vs:List (κ×Value)} (r:KV kvs vs) (k:κ):ZY (VA kvs k) (valueAt vs k):=by
 unfold KV at r
 induction r with
 | nil=>exact True.intro
 | @cons p q ps qs h t ih =>
  obtain⟨h1,h2⟩:=h
  by_cases e:p.1=k
  ·have e':q.1=k:=h1.symm.trans e
   have b:valueAt (q::qs) k=some q.2:=by simp[valueAt,uA,e']
   rw[Js e,b];exact h2
  ·have e':¬q.1=k:=λz=>e (h1.trans z)
   have b:valueAt (q::qs) k=valueAt qs k:=by simp[valueAt,uA,e']
   rw[Jr e,b];exact ih
theorem KV.any {kvs:List (κ×V)}{vs:List (κ×Value)} (r:KV kvs vs) (k:κ):(kvs.any λkv=>decide (kv.1=k))=vs.any λkv=>decide (kv.1=k):=by
 unfold KV at r
 induction r with
 | nil=>rfl
 | cons h t ih=>rw[List.any_cons,List.any_cons,ih,h.1]
theorem KV.repl {kvs:List (κ×V)}{vs:List (κ×Value)} (r:KV kvs vs) (k:κ){y:V}{u:Value}(ry:xr y u) :
  KV (kvs.map λkv=>if kv.1=k then(kv.1,y)else kv) (vs.map λkv=>if kv.1=k then(kv.1,u)else kv):=by
 unfold KV at r ⊢
 induction r with
 | nil=>exact .nil
 | @cons p q ps qs h t ih =>
  rw[ye,ye]
  refine .cons ?_ ih
  obtain⟨h1,h2⟩:=h
  by_cases e:p.1=k
  ·rw[if_pos e,if_pos (h1.symm.trans e)];exact⟨h1,ry⟩
  ·rw[if_neg e,if_neg (λz=>e (h1.trans z))];exact⟨h1,h2⟩
theorem KV.put {kvs:List (κ×V)}{vs:List (κ×Value)} (r:KV kvs vs) (k:κ){y:V}{u:Value}(ry:xr y u):KV (Jc kvs k y) (stored vs k u):=by
 unfold Jc stored
 rw[r.any k]
 by_cases e:(vs.any λkv=>decide (kv.1=k))=true
 ·rw[if_pos e,if_pos e];exact r.repl k ry
 ·rw[if_neg e,if_neg e];exact Paired.snoc r ⟨rfl,ry⟩
end
theorem zcP {P:Program}{w:World}{k:Key}{u:Value}(r:xr (kV k) u):(qf P w).is k u=true:=by
 cases k with
 | inl i=>obtain⟨t,e⟩:=(show ∃t,u=Value.int i t from r);subst e;exact VU P w i t
 | inr x=>obtain⟨t,e⟩:=(show ∃t,u=Value.str x t from r);subst e;exact VW P w x t
theorem QL {P:Program}{w:World}:∀{ks:List Key}{us:List Value},xb (ks.map kV) us->ItemsAre (qf P w) ks us
 | [],_,r=>by rw[uw]at r;cases r;exact .nil
 | k::ks,_,r=>by
  rw[ye]at r
  cases r with
  | cons h t=>exact .cons (zcP h) (QL t)
abbrev KT (H:Hp):List (List Key×V)->List (List Key×Addr×Value)->Prop:=Paired λp q=>p.1=q.1/\H q.2.1=some (.tup (p.1.map kV))/\xr p.2 q.2.2
theorem KT.val {H:Hp}{kvs:List (List Key×V)}{xs:List (List Key×Addr×Value)} (r:KT H kvs xs) (k:List Key):ZY (VA kvs k) ((atKey xs k).map (·.2)):=by
 induction r with
 | nil=>exact True.intro
 | @cons p q ps qs h t ih =>
  obtain⟨h1,_,h2⟩:=h
  by_cases e:p.1=k
  ·have e':q.1=k:=h1.symm.trans e
   have b:atKey (q::qs) k=some q.2:=by simp[atKey,uA,e']
   rw[Js e,b];exact h2
  ·have e':¬q.1=k:=λz=>e (h1.trans z)
   have b:atKey (q::qs) k=atKey qs k:=by simp[atKey,uA,e']
   rw[Jr e,b];exact ih
section
variable {P:Program}{w:World}{H:Hp}{h:Heap}{a:Addr}
theorem zfZ {u:HO}(ok:HOk P w H h) (e:Rd H a u):xy P w H h a u:=e.ok ok
theorem zcC {kvs:List (Key×V)} (ok:HOk P w H h) (e:Rd H a (.dK kvs)):kvs.length<=sizeLine/\(a == sysModules)=false/\∃vs,KV kvs vs/\h.DictOf (qf P w) a vs :=
 show xy P w H h a (.dK kvs)from zfZ ok e
theorem zh9 {kvs:List (Key×V)} (ok:HOk P w H h) (e:H a=some (.dK kvs)):kvs.length<=sizeLine/\(a == sysModules)=false/\∃vs,KV kvs vs/\h.DictOf (qf P w) a vs:=zcC ok (.inl e)
theorem zcQ {ks:List Key}(ok:HOk P w H h) (e:H a=some (.tup (ks.map kV))):(tupleKind (qf P w)).is h ks a:=by
 obtain⟨_,its,r,o,h1,h2,n,h3⟩:=(show xy P w H h a (.tup (ks.map kV))from ok a _ e)
 exact⟨o,its.toArray,n,h1,h2,h3,by simpa using QL r⟩
theorem zfI {kvs:List (List Key×V)} (ok:HOk P w H h) (e:Rd H a (.dT kvs)):kvs.length<=sizeLine/\(a == sysModules)=false ∧
  ∃xs,KT H kvs xs/\h.DictOfH (tupleKind (qf P w)) a xs:=by
 obtain⟨z,y,xs,r,o,es,ep,h1,h2,h3,h4,h5⟩:=(show xy P w H h a (.dT kvs)from zfZ ok e)
 refine⟨z,y,xs,r,o,es,ep,h1,h2,h3,h4,λx hx=>?_,h5⟩
 have all:∀{l:List (List Key×V)}{m:List (List Key×Addr×Value)},KT H l m->∀x∈m,(tupleKind (qf P w)).is h x.1 x.2.1:=by
  intro l m q
  induction q with
  | nil=>intro x hx;exact nomatch hx
  | @cons p q ps qs hq t ih =>
   intro x hx
   rcases wy.mp hx with e | hx
   ·subst e
    exact zcQ ok (by rw[<-hq.1];exact hq.2.1)
   ·exact ih x hx
 exact all r x hx
end
def zgf (H:Hp) (a:Addr) (y:V) (r:Option V):Prop :=
 (∃kvs k,Rd H a (.dK kvs)/\y=kV k/\r=VA kvs k)\/∃kvs k b,Rd H a (.dT kvs)/\y = .ref b/\H b=some (.tup (k.map kV))/\r=VA kvs k
section
variable {X:Cx}{pins:List (Addr×Obj)}{σ:St}{H:Hp}{s:Shared}{a:Addr}{y v:V}{u r:Value}{o:Option V}{A:Around}{E:Value->Shared->Prop}
theorem Inv.big (I:Inv X pins σ H s):sysModules<s.heap.objs.size:=by
 have h:mainGlobals<s.heap.objs.size:=(I.mod.glob.keeps I.bk).lt
 exact Nat.lt_trans (by decide) h
theorem zby {Q:Value->Shared->Prop}(hu:A.units+1<cLine) (I:Inv X pins σ H s) (g:zgf H a y (some v)) (ry:xr y u) (h:∀w' s',Inv X pins σ H s'->xr v w'->Q w' s') :
  wpAny (model X.prog X.w) A (getItem (.ref a) u) Q E s:=by
 rcases g with⟨kvs,k,e,ey,l⟩ | ⟨kvs,k,b,e,ey,eb,l⟩
 ·subst ey
  obtain⟨z,hd,vs,rel,dd⟩:=zcC I.hok e
  obtain⟨w',hw,rw'⟩:=ZY.some_of (v:=v) (o:=valueAt vs k) (by rw[l];exact rel.val k)
  exact wpAny_getItem_of (zcP ry) dd.mapOf hw (h w' _ (I.tok _) rw')
 ·subst ey
  cases(show u=Value.ref b from ry)
  obtain⟨z,hd,xs,rel,dd⟩:=zfI I.hok e
  obtain⟨w',hw,rw'⟩:=ZY.some_of (v:=v) (o:=(atKey xs k).map (·.2)) (by rw[l];exact rel.val k)
  obtain⟨p,hp,hp2⟩:=uo.mp hw
  refine wpAny_getItem_heap (tupleKind_room_in1 hu) (zcQ I.hok eb) dd hp ?_
  rw[hp2]
  exact h w' _ (I.tok _) rw'
theorem zeb {h':Heap}{t':Nat}{ob:HO}(I:Inv X pins σ H s) (mu:Mut (H a)) (hs:Heap.SameBut a s.heap h') (he:∃q,h'.get? a=some q) (new:xy X.prog X.w (upd H a ob) h' a ob) :
  Inv X pins σ (upd H a ob) { s with heap:=h',toks:=t' } :=
 I.write (x:=a) (e:=a) mu (.inl rfl) (λb q hb z=>(hs.2 b hb).trans z) he new
theorem zgt {P:Program}{w:World}{H':Hp}{h':Heap}{kvs:List (Key×V)}{vs:List (Key×Value)} (z:kvs.length<=sizeLine) (hd:(a == sysModules)=false) (rel:KV kvs vs) (dd:h'.DictOf (qf P w) a vs) :
  xy P w H' h' a (.dK kvs):=⟨z,hd,vs,rel,dd⟩
end
def zh2 (i:Expr):Prop:=∀ov iv,subscripted i false ov iv=operate [ov,iv] (getItem ov iv)
theorem zfr {prog:Program}{w:World}{A:Around}{E:Value->Shared->Prop}{s:Shared}{env:Env}{value slice:Expr}{pos:Pos}{T id:String}{Q:Value->Shared->Prop}
  (hl:typeLookup (.type T) "__getitem__" = pure (some (.builtin id))) (hs:zh2 slice)
  (h:wpAny (model prog w) A (eval value env) (λo s₁=>wpAny (model prog w) A (eval slice env) (λi s₂=>s₂.TypeIs o T/\wpAny (model prog w) A (getItem o i) Q E s₂) E s₁) E s) :
  wpAny (model prog w) A (eval (.Subscript value slice pos) env) Q E s:=by
 refine Subscript_ (yu h (λo s₁ h₁=>yu h₁ (λi s₂ h₂=>?_) λ_ _ x=>x) λ_ _ x=>x)
 obtain⟨hT,h₂⟩:=h₂
 unfold subscriptTail
 refine wc ?_
 rw[getitemInPython_of_ne hT.not_modules]
 refine wc (W5 hT hl ?_)
 have fin:wpAny (model prog w) A (subscripted slice false o i) (λr s₃=>wpAny (model prog w) A (letTemporaryGo value o r >>= λ_=>pure r) Q E s₃) E s₂:=by
  rw[hs o i]
  exact wpAny_operating (yu h₂ (λr s₃ h₃=>wc (wpAny_letTemporaryGo (wo h₃))) λ_ _ x=>x)
 first
  | exact wo (wc fin)
  | exact wc (wo (wc fin))
  | exact wc fin
theorem VN {X:Cx}{pins:List (Addr×Obj)}{σ:St}{H:Hp}{s:Shared}{a:Addr}{y:V}{o:Option V}(I:Inv X pins σ H s) (g:zgf H a y o):s.TypeIs (.ref a) "dict":=by
 rcases g with⟨kvs,k,e,_,_⟩ | ⟨kvs,k,b,e,_,_,_⟩
 ·obtain⟨_,_,vs,_,dd⟩:=zcC I.hok e
  exact dd.typeIs
 ·obtain⟨_,_,xs,_,dd⟩:=zfI I.hok e
  exact dd.typeIs
inductive zdO (Q:VK) (x:V) (y:V) (H2:Hp):Prop
 | mk:∀a v,(x = .ref a)->(zgf H2 a y (some v))->(Q v H2)->zdO Q x y H2
def zji (td ty:TE):TE:=λσ H Q=>td σ H λx H1=>ty σ H1 λy H2=>zdO Q x y H2
section
variable {X:Cx}{o i e value:Expr}{pos pos' tpos:Pos}{td ty tv:TE}
theorem zeQ (hu:X.A.units+1<cLine) (ho:PE X o td) (hi:PE X i ty) (hs:zh2 i):PE X (.Subscript o i pos) (zji td ty):=by
 intro pins s σ H Q I h
 refine zfr PySem.F.slot_dict_getitem.lookup hs (thn (ho pins s σ H _ I h) λu s1 ⟨x,H1,I1,rx,q1⟩=>thn (hi pins s1 σ H1 _ I1 q1) λiv s2 ⟨y,H2,I2,ry,a,v,ex,g,q2⟩=>?_)
 subst ex
 obtain rfl:u=Value.ref a:=rx
 exact⟨VN I2 g,zby hu I2 g ry λw' s3 I3 rw'=>⟨v,H2,I3,rw',q2⟩⟩
end
theorem zcB {P:Program}{w:World}{H:Hp}(h:Heap) (hb:sysModules<h.objs.size):xy P w H (h.push { cls:=.type "dict",data:=.dict #[] }) h.objs.size (.dK []) :=
 ⟨yg _,beq_eq_false_iff_ne.mpr (Ne.symm (wO hb)),[],.nil,Heap.DictOf.new h⟩
def zac:List (TE×TE)->St->Hp->(List (V×V)->Hp->Prop)->Prop
 | [],_,H,Q=>Q [] H
 | (tk,tv)::r,σ,H,Q=>tk σ H λx H1=>tv σ H1 λy H2=>zac r σ H2 λps H3=>Q ((x,y)::ps) H3
abbrev VV:List (V×V)->List (Value×Value)->Prop:=Paired λp q=>xr p.1 q.1/\xr p.2 q.2
def PPs (X:Cx) (pos:Pos) (keys:List (Option Expr)) (values:List Expr) (trs:List (TE×TE)):Prop :=
 ∀(pins:List (Addr×Obj)) (s:Shared) (σ:St) (H:Hp) (Q:List (V×V)->Hp->Prop),Inv X pins σ H s->zac trs σ H Q →
  wpAny (model X.prog X.w) X.A (evalPairs (pairTrees keys values X.env pos)) (λvs s'=>∃ps H',Inv X pins σ H' s'/\VV ps vs/\Q ps H') X.xe s
theorem zeU {X:Cx}{pos:Pos}:PPs X pos [] [] []:=λpins s σ H Q I h=>pairTrees_nil_walk ⟨[],H,I,.nil,h⟩
theorem Qf {X:Cx}{pos:Pos}{k v:Expr}{ks:List (Option Expr)}{vs:List Expr}{tk tv:TE}{trs:List (TE×TE)} (hk:PE X k tk) (hv:PE X v tv) (hr:PPs X pos ks vs trs) :
  PPs X pos (some k::ks) (v::vs) ((tk,tv)::trs):=λpins s σ H Q I h =>
 pairTrees_cons_walk (thn (hk pins s σ H _ I h) λu s1 ⟨x,H1,I1,rx,q1⟩=>thn (hv pins s1 σ H1 _ I1 q1) λw2 s2 ⟨y,H2,I2,ry,q2⟩ =>
  thn (hr pins s2 σ H2 _ I2 q2) λws s3 ⟨ps,H3,I3,rel,q3⟩=>⟨(x,y)::ps,H3,I3,.cons ⟨rx,ry⟩ rel,q3⟩)
def Zr (kvs more:List (Key×V)):List (Key×V):=more.foldl (λacc kv=>Jc acc kv.1 kv.2) kvs
theorem KV.merge:∀{more:List (Key×V)}{rs:List (Key×Value)}{kvs:List (Key×V)}{vs:List (Key×Value)},KV more rs->KV kvs vs->KV (Zr kvs more) (merged vs rs):=by
 intro more rs kvs vs r
 unfold KV at r
 induction r generalizing kvs vs with
 | nil=>intro q;exact q
 | @cons p q ps qs h t ih =>
  intro r0
  have e:KV (Jc kvs p.1 p.2) (stored vs q.1 q.2):=by
   have:=r0.put p.1 h.2
   rw[<-h.1];exact this
  exact ih e
theorem Zl:∀(more kvs:List (Key×V)),(Zr kvs more).length<=kvs.length+more.length
 | [],kvs=>by show kvs.length<=kvs.length+0;omega
 | p::r,kvs=>by
  have h1:=Zl r (Jc kvs p.1 p.2)
  have h2:=VS kvs p.1 p.2
  show (Zr (Jc kvs p.1 p.2) r).length<=_
  rw[wG];omega
theorem XR {P:Program}{w:World}:∀{kvs:List (Key×V)}{ws:List (Value×Value)},VV (kvs.map λkv=>(kV kv.1,kv.2)) ws->∃rs,Carries (qf P w) ws rs/\KV kvs rs
 | [],_,r=>by rw[uw]at r;cases r;exact⟨[],True.intro,.nil⟩
 | p::kvs,_,r=>by
  rw[ye]at r
  cases r with
  | @cons a b as bs h t =>
   obtain⟨rs,c,q⟩:=XR (P:=P) (w:=w) t
   obtain⟨b1,b2⟩:=b
   exact⟨(p.1,b2)::rs,⟨zcP h.1,rfl,c⟩,.cons ⟨rfl,h.2⟩ q⟩
def zjj (trs:List (TE×TE)):TE:=λσ H Q=>∀p,H p=none->zac trs σ (upd H p (.dK [])) λps H2=>H2 p=some (.dK [])/\∃kvs:List (Key×V),ps=kvs.map (λkv=>(kV kv.1,kv.2))/\kvs.length<=15/\Q (.ref p) (upd H2 p (.dK (Zr [] kvs)))
theorem zeR {X:Cx}{pos:Pos}{keys:List (Option Expr)}{values:List Expr}{trs:List (TE×TE)} (h:PPs X pos keys values trs) (hall:keys.all (·.isSome)=true) (hl:keys.length=values.length) (h0:keys≠[])
  (h15:keys.length<=15):PE X (.Dict keys values pos) (zjj trs):=by
 intro pins s σ H Q I q
 have hn:=I.hok.fresh (wx s.heap.objs.size)
 have I1:=I.laid (a:=s.heap.objs.size) (o:=.dK []) (h':=s.heap.push { cls:=.type "dict",data:=.dict #[] }) (t':=s.toks) (λ_ _ q=>wd _ q) (wx _) (zcB s.heap I.big)
 refine wpAny_Dict_walk (knd:=qf X.prog X.w) hall hl h0 h15 (thn (h pins _ σ _ _ I1 (q _ hn)) λws s2 ⟨ps,H2,I2,rel,e,kvs,ep,lk,q2⟩=>?_)
 subst ep
 obtain⟨rs,c,rk⟩:=XR (P:=X.prog) (w:=X.w) rel
 obtain⟨z,hd,vs0,r0,dd⟩:=zh9 I2.hok e
 cases r0
 refine⟨rs,c,dd,λh' dd' hs=>⟨.ref s.heap.objs.size,_,?_,rfl,q2⟩⟩
 have hz:(Zr [] kvs).length<=sizeLine:=by
  have h1:=Zl kvs []
  rw[yJ]at h1
  rw[sizeLine_eq];omega
 have he:∃q,h'.get? s.heap.objs.size=some q:=let ⟨q,_,_,hq,_⟩:=dd';⟨q,hq⟩
 exact zeb I2 (by rw[e];exact True.intro) hs he (zgt hz hd (rk.merge .nil) dd')
end L2
namespace Att
open PySem PySem.W PySem.Calls PyProof.Rows
end Att
namespace L2
open PySem PySem.Spec PyProof.Rows
open MeetsSeq MeetsSeq2 MeetsSeq3 SeqRoads2 SeqAt AutoSeq1
theorem zfB {M:Model}{A:Around}{E:Value->Shared->Prop}{s:Shared}{β:Type}{b:Nat}(f:Nat->β->Sem (ForInStep β)) (I:Nat->β->Shared->Prop) (Q:β->Shared->Prop)
  (turn:∀i c s,i<b->I i c s->wpAny M A (f i c) (λr s'=>match r with | .yield b'=>I (i+1) b' s' | .done b'=>Q b' s') E s)
  (fin:∀c s,I b c s->Q c s) (c:β) (h:I 0 c s):wpAny M A (forIn [0:b] c f) Q E s:=by
 rw[Std.Legacy.Range.forIn_eq_forIn_range']
 have hsz:([0:b]:Std.Legacy.Range).size=b:=by simp[Std.Legacy.Range.size]
 show wpAny M A (forIn (List.range' 0 ([0:b]:Std.Legacy.Range).size 1) c f) Q E s
 rw[hsz]
 refine wpAny_forIn_list f (λl c s=>∃i,i<=b/\l=List.range' i (b - i) 1/\I i c s) Q ?_ ?_ _ c ⟨0,yg _,rfl,h⟩
 ·rintro x rest c s ⟨i,hib,hl,hI⟩
  have hlt:i<b:=by
   rcases uB i b with h' | h'
   ·exact h'
   ·rw[show b - i=0 by omega]at hl;simp at hl
  rw[show b - i=(b - (i+1))+1 by omega,WU]at hl
  obtain⟨rfl,rfl⟩:=List.cons.inj hl
  refine yu (turn x c s hlt hI) (λr s' h'=>?_) λ_ _ z=>z
  cases r with
  | done c'=>exact h'
  | yield c'=>exact⟨x+1,hlt,rfl,h'⟩
 ·rintro c s ⟨i,hib,hl,hI⟩
  have:i=b:=by
   rcases uB i b with h' | h'
   ·rw[show b - i=(b - (i+1))+1 by omega,WU]at hl;cases hl
   ·omega
  subst this
  exact fin c s hI
theorem Qy (l:Addr) (items:Array Value) (n:Nat) (dd:Option Addr) (sl:Array (Option Value)) (x:Value) (e:Nat->Bool) (i:Nat) (hi:i<items.size) (hit:e i=true) (hno:∀j,j<i->e j=false) :
  Meets (Builtin.«tuple.index» ⟨[.ref l,x],[]⟩)
   (λA R s=>s.heap.get? l=some { cls:=.type "tuple",dict:=dd,data:=.seq items n,slots:=sl }/\(∀j (hj:j<items.size),EqAt A.in1 s items[j] x (e j))/\R (.ok (.ret (.int (i:Nat) s.toks))) { s with toks:=s.toks+1 }) :=
 .of_wp λprog w A R s h=>by
  obtain⟨hp,g,d,tk,os⟩:=s;obtain⟨hl,he,h⟩:=h
  wp_walk using wpAny_loadPart' hl,zfB _ (λj b s'=>b=(none,())/\s' = ⟨hp,g,d,tk,os⟩/\j<=i) _
  case turn =>
   rintro j c s' hj ⟨rfl,rfl,hji⟩
   have hj':j<items.size:=by omega
   rw[Array.getElem?_eq_getElem hj']
   refine wc (he j hj' prog w _ _ ?_)
   by_cases ej:j=i
   ·subst ej
    rw[hit]
    wp_walk
    exact⟨_,rfl,h⟩
   ·rw[hno j (by omega)]
    wp_walk
    exact⟨rfl,rfl,by omega⟩
  case fin =>
   rintro c s' ⟨rfl,rfl,hji⟩
   omega
  case h=>exact⟨rfl,rfl,yg _⟩
section
variable {X:Cx}
def ziZ (K:Fg):V->List V->Hp->VK->Prop:=λx vs H Q=>∃(t:Addr) (xs:List V) (y:V) (ds:List PyData) (d:PyData) (i:Nat),x = .ref t/\vs=[y]/\H t=some (.tup xs)/\vo H xs ds/\RdD H y d/\(∀c∈ds,c.canLay0=true)/\d.canLay0=true/\d.depth<=60 ∧
 (∃c,ds[i]? = some c/\PyData.eqv c d=true)/\(∀(j:Nat) (c:PyData),j<i->ds[j]? = some c->PyData.eqv c d=false)/\Q (.int (i:Int)) H
theorem zbN (hu:X.A.units+64<cLine):MtR X "tuple.index" (ziZ X.K):=by
 intro pins s σ H x vs v us Q I rx rv h
 obtain⟨t,xs,y,ds,d,i,rfl,rfl,ht,hds,hd,hs,hsd,hdd,⟨c,ec,hc⟩,hno,q⟩:=h
 cases rx
 obtain⟨u,rfl,ru⟩:=rv.one
 obtain⟨_,its,rt,o,h1,h2,n,h3⟩:=(show xy X.prog X.w H s.heap t (.tup xs)from I.hok t _ ht)
 obtain⟨cls,dd,data,sl⟩:=o
 simp only at h2 h3
 subst h2 h3
 have hl:=rt.length
 have hdl:=hds.len
 obtain⟨bs,rb⟩:=hd.reads I ru
 have key:∀j (hj:j<its.toArray.size),EqAt X.A.in1 s its.toArray[j] u (PyData.eqv ((ds[j]?).getD .none) d):=λj hj=>by
  have hj':j<its.length:=by simpa using hj
  obtain⟨c',ec'⟩:∃c',ds[j]? = some c':=⟨_,wf (by omega)⟩
  obtain⟨xv,exv,hc'⟩:=hds.get ec'
  obtain⟨uv,euv,ruv⟩:=rt.get exv
  obtain⟨as,ra⟩:=hc'.reads I ruv
  have eu:its.toArray[j]=uv:=by
   have:its[j]? = some its[j]:=wf hj'
   rw[euv]at this
   simpa using (Option.some.inj this).symm
  rw[eu,ec']
  exact eqAt_reads _ _ _ _ _ _ _ _ ra rb (hs c' (wj ec')) hsd (by show X.A.units+1+min c'.depth d.depth<cLine;omega)
 refine call_meets F.slot_tuple_index ⟨_,h1,rfl⟩ F.entry_tuple_index (F.args_tuple_index_2 _ _) (Qy t its.toArray n dd sl u (λj=>PyData.eqv ((ds[j]?).getD .none) d) i ?_ ?_ ?_) ⟨h1,key,?_⟩
 ·have:=(wk.mp ec).1
  simp;omega
 ·show PyData.eqv ((ds[i]?).getD .none) d=true
  rw[ec];exact hc
 ·intro j hj
  have hi:=(wk.mp ec).1
  obtain⟨c',ec'⟩:∃c',ds[j]? = some c':=⟨_,wf (by omega)⟩
  show PyData.eqv ((ds[j]?).getD .none) d=false
  rw[ec'];exact hno j c' hj ec'
 ·exact⟨.int (i:Int),H,I.tok _,⟨_,rfl⟩,q⟩
def tTIx (K:Fg) (to:TE) (t:TA):TE:=λσ H Q=>to σ H λx H1=>(∃(a:Addr) (xs:List V),x = .ref a/\H1 a=some (.tup xs))/\t σ H1 λvs H2=>ziZ K x vs H2 Q
theorem zg9 {o e:Expr}{es:List Expr}{to:TE}{t:TA}{apos cpos:Pos}(hu:X.A.units+64<cLine) (ho:PE X o to) (ha:PA X (e::es) t)
  (hbase:attributeBase o "index" X.env (eval o X.env)=eval o X.env:=by rfl)
  (hfew:((backTo cpos (starEach (e::es) X.env)).all (λx=>!x.1)&&(backToKw cpos (keywordEach [] X.env)).all (λx=>x.1.isSome)
   && decide ((e::es).length+([]:List Keyword).length+(if([]:List Keyword).isEmpty then 0 else 1)<30))=true:=by rfl)
  (hline:(apos.endLine == cpos.line)=true:=by rfl) (hs:starEach (e::es) X.env=(false,eval e X.env)::starEach es X.env:=by rfl) (hplain:(backTo cpos (starEach es X.env)).any (·.1)=false:=by rfl) :
  PE X (.Call (.Attribute o "index" apos) (e::es) [] cpos) (tTIx X.K to t):=by
 intro pins s σ H Q I h
 refine wpAny_Call_method_late hbase hfew hline rfl (thn (ho pins s σ H _ I h) λv s1 ⟨x,H1,I1,r1,⟨a,xs,ex,hx⟩,q1⟩=>?_)
 subst ex
 cases r1
 obtain⟨⟨_,od,ed,hd⟩,its,rt,ob,h1,h2,n,h3⟩:=(show xy X.prog X.w H1 s1.heap a (.tup xs)from I1.hok a _ hx)
 refine⟨"tuple","tuple.index",PySem.F.plainAttrs_tuple,PySem.F.slot_tuple_index,PySem.F.type_tuple_index,⟨ob,h1,h2⟩,λb e=>?_,?_⟩
 ·cases e;exact⟨od,ed,hd⟩
 have hA:=ha cpos pins s1 σ H1 _ I1 q1
 rw[hs]at hA ⊢
 refine Calls.callWith_builtin (by show (false || (backTo cpos (starEach es X.env)).any (·.1))=false;rw[hplain] <;> rfl) (Calls.evalArgs_plain ?_)
 exact thn hA λus s2 ⟨vs,H2,I2,r2,q2⟩=>zbN hu pins s2 σ H2 (.ref a) vs _ us Q I2 rfl r2 q2
end
end L2
namespace KK
open PySem L2
def top (i:Nat):Stmt:=PySem.Challenge.pw_clackrow_k12_groups_of_one_weight.main.body.getD i (.Pass ⟨0,0,0,0⟩)
abbrev jm:Stmt:=top 6
abbrev jl:Stmt:=top 7
abbrev qi:Stmt:=top 8
abbrev jk:Stmt:=top 9
abbrev ZP:Stmt:=top 10
abbrev XD:Stmt:=top 11
abbrev Vm:Stmt:=top 12
abbrev Xi:Stmt:=top 13
abbrev qA:Stmt:=top 16
abbrev qH:Stmt:=top 17
abbrev ju:Stmt:=top 18
abbrev v3:Stmt:=top 19
abbrev vj:Stmt:=top 20
abbrev Zc:Stmt:=top 21
abbrev Zd:Stmt:=top 22
abbrev Zb:Stmt:=top 23
abbrev vU:Stmt:=top 24
abbrev Ze:Stmt:=top 25
abbrev qR:Stmt:=top 26
abbrev j9:Stmt:=top 27
abbrev Zt:Stmt:=top 28
abbrev Vn:Stmt:=top 29
abbrev ZQ:Stmt:=top 30
abbrev Za:Stmt:=top 31
abbrev qo:Stmt:=top 32
abbrev ZO:Stmt:=top 33
abbrev ve:Stmt:=top 35
abbrev vi:Stmt:=top 36
abbrev ZK:Stmt:=top 37
abbrev j4:Stmt:=top 41
abbrev qT:Stmt:=top 42
abbrev vK:Stmt:=top 43
abbrev qS:Stmt:=top 44
abbrev vV:Stmt:=top 45
abbrev j3:Stmt:=top 46
abbrev j0:Stmt:=top 47
abbrev vE:Stmt:=top 48
abbrev vF:Stmt:=top 49
abbrev vD:Stmt:=top 50
abbrev ZL:Stmt:=top 51
abbrev jo:Stmt:=top 53
abbrev jp:Stmt:=top 54
abbrev jq:Stmt:=top 55
abbrev jt:Stmt:=top 56
abbrev j7:Stmt:=top 57
abbrev j5:Stmt:=top 58
abbrev j8:Stmt:=top 59
abbrev ZM:Stmt:=top 60
abbrev jr:Stmt:=top 61
abbrev vW:Stmt:=top 62
abbrev vY:Stmt:=top 63
abbrev vZ:Stmt:=top 64
abbrev vH:Stmt:=top 65
abbrev vg:Stmt:=top 66
abbrev ZN:Stmt:=top 67
abbrev vf:Stmt:=top 68
abbrev vh:Stmt:=top 69
abbrev vI:Stmt:=top 70
abbrev vJ:Stmt:=top 71
abbrev vX:Stmt:=top 72
abbrev vG:Stmt:=top 73
abbrev j6:Stmt:=top 74
abbrev s_law:Stmt:=top 75
abbrev xR:Stmt:=Vd (top 3) 0
abbrev qM:Stmt:=Vd (top 4) 0
abbrev ql:Stmt:=Vd (top 15) 0
structure TxB (K:Fg) (mg:Str->Option Value):Prop where
 ii:PySem.W.kitOne K (.type "int") (.type "int")=some true
 ib:PySem.W.kitOne K (.type "int") (.type "bool")=some false
 nIs:mg "isinstance" = none
 nInt:mg "int" = none
 nBool:mg "bool" = none
 nAbs:mg "abs" = none
 nLen:mg "len" = none
 nMax:mg "max" = none
 nMin:mg "min" = none
 nRange:mg "range" = none
 nTuple:mg "tuple" = none
 nSum:mg "sum" = none
section
variable {P:Program}{w:World}{K:Fg}{mg:Str->Option Value}{base:Heap}
inductive Zf  (vs:List V) (H:Hp) (Q:VK) (_e3:XK):Prop
 | mk:∀i,(vs=[.int i])->(Q (.bl true) H)->Zf vs H Q _e3
theorem zdy:zF ["thing"] ["thing"] (zr jm):=scq
theorem zc3 (D:Df K mg "is_whole" jm ["thing"] []) (T:TxB K mg):Cal P w K mg base "is_whole" 1 ["thing"] [] Zf:=by
 refine D.cal (k:=0) zdy (λvs H Q E h=>by obtain⟨i,rfl,_⟩:=h;rfl) (λf cdv A outer s H vs Q E hr h=>?_)
 obtain⟨i,rfl,k⟩:=h
 refine⟨_,zh (zL (q8
  (zX vS rfl T.nIs yS (zd (pv 0) (zd (XC (v:=.ty "int") (u:=.type "int") rfl T.nInt PyProof.Rows.boot_int rfl) zf)))
  (vB (zg8 (zX vS rfl T.nIs yS (zd (pv 0) (zd (XC (v:=.ty "bool") (u:=.type "bool") rfl T.nBool (by decide +kernel) rfl) zf))))))),?_⟩
 refine⟨_,rfl,_,_,_,true,rfl,.int i,T.ii,true,rfl,xw ?_⟩
 exact⟨_,rfl,_,_,_,false,rfl,.int i,T.ib,false,rfl,k⟩
inductive QU  (vs:List V) (H:Hp) (Q:VK) (_e3:XK):Prop
 | mk:∀a b:Int,(vs=[.int a,.int b])->(0<=a)->(0<=b)->(Q (.int (Int.gcd a b:Nat)) H)->QU vs H Q _e3
theorem zdq:zF ["one","other"] ["one","other"] (zr qi):=scq
theorem zgZ (D:Df K mg "greatest_divisor" qi ["one","other"] []):Cal P w K mg base "greatest_divisor" 1 ["one","other"] [] QU:=by
 refine D.cal (k:=0) zdq (λvs H Q E h=>by obtain⟨a,b,rfl,_⟩:=h;rfl) (λf cdv A outer s H vs Q E hr h=>?_)
 obtain⟨a,b,rfl,ha,hb,k⟩:=h
 refine⟨_,zA (ZH PassesOwn.never (zI Qe (pv 1) ze (zM _))
   (zh (J2 (i:=0) (j:=1) rfl zdq.nd rfl rfl (by decide) rfl rfl (zd (pv 1) (zd (zB ji (pv 0) (pv 1)) zf)) (by rfl))))
  (zh (zL (pv 0))),?_⟩
 refine Jv (λσ H1=>H1=H/\∃x y:Int,σ=[some (.int x),some (.int y)]/\0<=x/\0<=y/\Int.gcd x y=Int.gcd a b)
  (λσ _=>match σ with | [_,some (.int y)]=>y.toNat | _=>0) ⟨rfl,a,b,rfl,ha,hb,rfl⟩ ?_ ?_
 ·rintro σ H1 ⟨rfl,x,y,rfl,hx,hy,e⟩
  refine⟨_,rfl,_,_,rfl,rfl,_,rfl,qr (λh=>?_) (λh=>?_)⟩
  ·have h':0<y:=wD h
   refine⟨_,rfl,_,rfl,_,rfl,_,_,rfl,rfl,h',_,_,rfl,⟨rfl,_,_,rfl,hy,uX _ (by omega),?_⟩,?_⟩
   ·rw[KM.VP hx h'];exact e
   ·show (x % y).toNat<y.toNat
    have:=ut x h'
    omega
  ·have h':¬ 0<y:=λz=>h (wq z)
   have:y=0:=by omega
   subst this
   refine⟨_,rfl,?_⟩
   have e2:x=(Int.gcd a b:Nat):=by rw[<-e,Int.gcd_zero_right];omega
   rw[e2];exact k
 ·rintro σ H1 Q1 Q2 hq ⟨v,e,i,j,e1,e2,k1,e3,q⟩
  exact⟨v,e,i,j,e1,e2,k1,e3,hq _ _ q⟩
theorem Qh:zF ["top","bottom","divisor"] ["top","bottom"] (zr ZP):=scq
theorem v5 (i:Int):(if i<0 then -i else i)=(i.natAbs:Int):=by split <;> omega
theorem zc2 {dvs:List V}(D:Df K mg "ratio" ZP ["top","bottom"] dvs) (T:TxB K mg) (cW:Cal P w K mg base "is_whole" 1 ["thing"] [] Zf) (cG:Cal P w K mg base "greatest_divisor" 1 ["one","other"] [] QU) :
  Cal P w K mg base "ratio" 2 ["top","bottom"] dvs qW:=by
 refine D.cal (k:=1) Qh (λvs H Q E h=>by obtain⟨a,b,rfl,_⟩:=h;rfl) (λf cdv A outer s H vs Q E hr h=>?_)
 obtain⟨t,b,rfl,hb,hz,k⟩:=h
 refine⟨_,zA (xh (vN (qQ (xz (zP cW hr (zd (pv 0) zf)) λ_=>rfl)) (vN (qQ (xz (zP cW hr (zd (pv 1) zf)) λ_=>rfl)) (vO (zI qL (pv 1) ze (zM _))))).pt zbS zT)
  (zA (zQ (i:=2) Qh.nd rfl (Or.inl rfl) (zP cG hr (zd (zX jF rfl T.nAbs y6 (zd (pv 0) zf)) (zd (zX jF rfl T.nAbs y6 (zd (pv 1) zf)) zf))))
  (zA (xh (zI jb (pv 1) ze (zM _)) (zh (zQ (i:=2) Qh.nd rfl (Or.inl rfl) (QN Xm (pv 2)))) zT)
  (zh (zL (xj (zd (zB qu (pv 0) (pv 2)) (zd (zB qu (pv 1) (pv 2)) zf))))))),?_⟩
 refine⟨_,rfl,t,rfl,true,rfl,xo ?_⟩
 refine⟨_,rfl,b,rfl,true,rfl,xo ?_⟩
 refine⟨_,rfl,rfl,_,rfl,qr (λh=>absurd (wD h) (by intro z;injection z with z;exact hb z)) (λ_=>?_)⟩
 refine⟨_,rfl,t,rfl,⟨_,rfl,b,rfl,⟨_,_,rfl,(by rw[v5];omega),(by rw[v5];omega),?_⟩⟩⟩
 have hd:=KM.zfJ (t:=t) hb
 have hdz:Bd 8900 (KM.dv t b):=hz.of_le (KM.zar hb)
 have fin:∀σ:St,σ=[some (.int t),some (.int b),some (.int (KM.dv t b))]->zad (zdR (xJ (tOp (rI VD λi j=>V.int (i.fdiv j)) (xG 0) (xG 2)) (xJ (tOp (rI VD λi j=>V.int (i.fdiv j)) (xG 1) (xG 2)) jV))) { nx:=λ_ H'=>Q .non H',rt:=Q } σ H:=by
  rintro σ rfl
  refine⟨_,rfl,_,rfl,_,_,rfl,rfl,⟨hd,hdz⟩,_,rfl,_,rfl,_,_,rfl,rfl,⟨hd,hdz⟩,?_⟩
  refine⟨zL2,λp hp=>k p _ (zi.upd hp) ?_⟩
  show upd H p _ p=_
  rw[zg]
  try dsimp only
  rw[KM.JH hb,KM.zcD hb];rfl
 have ge:(Int.gcd (if t<0 then -t else t) (if b<0 then -b else b):Nat)=Int.gcd t b:=by
  rw[v5,v5];simp[Int.gcd]
 refine⟨_,rfl,_,_,rfl,rfl,_,rfl,qr (λh=>?_) (λh=>?_)⟩
 ·have h':b<0:=wD h
  refine⟨_,rfl,_,rfl,fin _ ?_⟩
  rw[ge];unfold KM.dv;rw[if_pos h'];rfl
 ·have h':¬b<0:=λz=>h (wq z)
  refine fin _ ?_
  rw[ge];unfold KM.dv;rw[if_neg h'];rfl
theorem Bd4 {x:Rat}(h:Sz 4000 x):Bd 1000000 x.num/\Bd 1000000 (x.den:Int):=⟨h.1.mono (by decide),h.2.mono (by decide)⟩
section
variable {x y:Rat}{p q:Addr}{H:Hp}
theorem zeZ {Q:VK}(hp:zD H p x) (hq:zD H q y) (hx:Sz 4000 x) (hy:Sz 4000 y) (k:∀r H',zi H H'->zD H' r (x+y)->Q (.ref r) H') :
  zad (jg qW [] E0 (xJ (tOp (rI0 λi j=>.int (i+j)) (tOp (rI XG λi j=>.int (i*j)) (tOp (jQ K) (xG 0) (tC (.int 0))) (tOp (jQ K) (xG 1) (tC (.int 1)))) (tOp (rI XG λi j=>.int (i*j)) (tOp (jQ K) (xG 1) (tC (.int 0))) (tOp (jQ K) (xG 0) (tC (.int 1)))))
   (xJ (tOp (rI XG λi j=>.int (i*j)) (tOp (jQ K) (xG 0) (tC (.int 1))) (tOp (jQ K) (xG 1) (tC (.int 1)))) jV))) { nx:=λ_ H'=>Q .non H',rt:=Q } [some (.ref p),some (.ref q)] H:=by
 have bx:=Bd4 hx
 have b_y:=Bd4 hy
 refine⟨_,rfl,p,_,_,_,rfl,rfl,.of hp,at0 ..,_,rfl,q,_,_,_,rfl,rfl,.of hq,at1 ..,_,_,rfl,rfl,⟨bx.1,b_y.2⟩,?_⟩
 refine⟨_,rfl,q,_,_,_,rfl,rfl,.of hq,at0 ..,_,rfl,p,_,_,_,rfl,rfl,.of hp,at1 ..,_,_,rfl,rfl,⟨b_y.1,bx.2⟩,_,_,rfl,rfl,?_⟩
 refine⟨_,rfl,p,_,_,_,rfl,rfl,.of hp,at1 ..,_,rfl,q,_,_,_,rfl,rfl,.of hq,at1 ..,_,_,rfl,rfl,⟨bx.2,b_y.2⟩,?_⟩
 refine⟨_,_,rfl,yc (KM.xV x) (KM.xV y),(hx.2.mul hy.2).mono (by decide),λr H' e h=>k r H' e ?_⟩
 rw[<-KM.zaQ];exact h
theorem zdj {Q:VK}(hp:zD H p x) (hq:zD H q y) (hx:Sz 4000 x) (hy:Sz 4000 y) (k:∀r H',zi H H'->zD H' r (x*y)->Q (.ref r) H') :
  zad (jg qW [] E0 (xJ (tOp (rI XG λi j=>.int (i*j)) (tOp (jQ K) (xG 0) (tC (.int 0))) (tOp (jQ K) (xG 1) (tC (.int 0))))
   (xJ (tOp (rI XG λi j=>.int (i*j)) (tOp (jQ K) (xG 0) (tC (.int 1))) (tOp (jQ K) (xG 1) (tC (.int 1)))) jV))) { nx:=λ_ H'=>Q .non H',rt:=Q } [some (.ref p),some (.ref q)] H:=by
 have bx:=Bd4 hx
 have b_y:=Bd4 hy
 refine⟨_,rfl,p,_,_,_,rfl,rfl,.of hp,at0 ..,_,rfl,q,_,_,_,rfl,rfl,.of hq,at0 ..,_,_,rfl,rfl,⟨bx.1,b_y.1⟩,?_⟩
 refine⟨_,rfl,p,_,_,_,rfl,rfl,.of hp,at1 ..,_,rfl,q,_,_,_,rfl,rfl,.of hq,at1 ..,_,_,rfl,rfl,⟨bx.2,b_y.2⟩,?_⟩
 refine⟨_,_,rfl,yc (KM.xV x) (KM.xV y),(hx.2.mul hy.2).mono (by decide),λr H' e h=>k r H' e ?_⟩
 rw[<-KM.Jp];exact h
end
theorem zfg:zF ["one","other"] ["one","other"] (zr Vm):=scq
theorem zeJ (D:Df K mg "over" Vm ["one","other"] []) (c:Cal P w K mg base "ratio" 2 ["top","bottom"] [] qW):Cal P w K mg base "over" 3 ["one","other"] [] (qB (λx y=>Sz2 x y/\y≠0) (· / ·)):=by
 refine D.cal (k:=2) zfg (λvs H Q E h=>by obtain⟨_,_,_,_,rfl,_⟩:=h;rfl) (λf cdv A outer s H vs Q E hr h=>?_)
 obtain⟨p,q,x,y,rfl,hp,hq,⟨⟨hx,hy⟩,hy0⟩,k⟩:=h
 have bx:=Bd4 hx
 have b_y:=Bd4 hy
 refine⟨_,zh (zL (zP c hr (zd (zB zU (zk zj (pv 0) ze (λ_ _=>rfl)) (zk zj (pv 1) ze (λ_ _=>rfl)))
  (zd (zB zU (zk zj (pv 0) ze (λ_ _=>rfl)) (zk zj (pv 1) ze (λ_ _=>rfl))) zf)))),?_⟩
 refine⟨_,rfl,p,_,_,_,rfl,rfl,.of hp,at0 ..,_,rfl,q,_,_,_,rfl,rfl,.of hq,at1 ..,_,_,rfl,rfl,⟨bx.1,b_y.2⟩,?_⟩
 refine⟨_,rfl,p,_,_,_,rfl,rfl,.of hp,at1 ..,_,rfl,q,_,_,_,rfl,rfl,.of hq,at0 ..,_,_,rfl,rfl,⟨bx.2,b_y.1⟩,?_⟩
 refine⟨_,_,rfl,yc (KM.xV x) (λz=>hy0 (WZ.mp z)),(hx.2.mul hy.1).mono (by decide),λr H' e h=>k r H' e ?_⟩
 show zD H' r (x/y)
 rw[<-KM.Vh];exact h
end
def jE (H:Hp) (p:Addr):Prop:=∃a b c:Int,H p=some (.lst [.int a,.int b,.int c])
structure xA (p:Addr) (H H':Hp):Prop where
 pool:jE H' p
 keep:∀b o,H b=some o->b≠p->H' b=some o
theorem xA.trans {p:Addr}{H H1 H2:Hp}(a:xA p H H1) (b:xA p H1 H2):xA p H H2:=⟨b.pool,λc o e n=>b.keep c o (a.keep c o e n) n⟩
theorem xA.same {p:Addr}{H H1 H2:Hp}(a:xA p H H1) (b:zi H1 H2):xA p H H2:=⟨by obtain⟨x,y,z,e⟩:=a.pool;exact⟨x,y,z,b _ _ e⟩,λc o e n=>b c o (a.keep c o e n)⟩
theorem xA.pre {p:Addr}{H H1 H2:Hp}(b:xA p H1 H2) (a:zi H H1):xA p H H2:=⟨b.pool,λc o e n=>b.keep c o (a c o e) n⟩
theorem jE.new {H:Hp}{p l:Addr}{o:HO}(h:jE H p) (hl:H l=none):jE (upd H l o) p:=by obtain⟨a,b,c,e⟩:=h;exact⟨a,b,c,zi.upd hl _ _ e⟩
theorem jE.ne {H:Hp}{p l:Addr}(h:jE H p) (hl:H l=none):l≠p:=by obtain⟨a,b,c,e⟩:=h;exact(zG e hl).symm
theorem xA.refl {p:Addr}{H:Hp}(h:jE H p):xA p H H:=⟨h,λ_ _ e _=>e⟩
theorem xA.tup {p a:Addr}{H H':Hp}{xs:List V}(s:xA p H H') (hp:jE H p) (h:H a=some (.tup xs)):H' a=some (.tup xs):=by
 obtain⟨_,_,_,e⟩:=hp
 exact s.keep a _ h (zik h e (by intro z;cases z))
section
variable {P:Program}{w:World}{K:Fg}{mg:Str->Option Value}{base:Heap}
inductive zdB  (vs:List V) (H:Hp) (Q:VK) (_e3:XK):Prop
 | mk:∀c:Int,(vs=[.int c])->(∀p H',H p=none->zi H H'->jE H' p->Q (.ref p) H')->zdB vs H Q _e3
theorem zhg:zF ["cell"] ["cell"] (zr jp):=scq
theorem zgY (D:Df K mg "_law_left" jp ["cell"] []) (T:TxB K mg):Cal P w K mg base "_law_left" 1 ["cell"] [] zdB:=by
 refine D.cal (k:=0) zhg (λvs H Q E h=>by obtain⟨a,rfl,_⟩:=h;rfl) (λf cdv A outer s H vs Q E hr h=>?_)
 obtain⟨c,rfl,k⟩:=h
 refine⟨_,zh (zL (x5 (zd (zX (zbr rfl) (by rfl) T.nMax PyProof.Rows.boot_max (zd ze (zd (zB xZ (pv 0) (zB jN ze ze)) zf))) (zd (zB ji (pv 0) (zB jN ze ze)) (zd ze zf))))),?_⟩
 refine⟨_,rfl,_,_,rfl,rfl,⟨by decide,by decide,by decide⟩,_,_,rfl,rfl,_,_,rfl,?_⟩
 refine⟨_,rfl,_,_,rfl,rfl,⟨by decide,by decide,by decide⟩,_,_,rfl,rfl,(by show (0:Int)<10^18;decide),(zL3),λp hp=>?_⟩
 exact k p _ hp (zi.upd hp) ⟨_,_,_,zg⟩
inductive jT  (vs:List V) (H:Hp) (Q:VK) (_e3:XK):Prop
 | mk:∀(p:Addr) (n:Int),(vs=[.ref p,.int n])->(0<n)->(n<1073741824)->(jE H p)->(∀(d:Int) H',0<=d->d<n->xA p H H'->Q (.int d) H')->jT vs H Q _e3
theorem XE:zF ["pool","base","digit","mixed","stir"] ["pool","base"] (zr jq):=scq
theorem Jo {H:Hp}{p:Addr}{a b c:Int}:xA p H (upd H p (.lst [.int a,.int b,.int c])):=⟨⟨a,b,c,zg⟩,λd o e n=>by rw[zE n];exact e⟩
theorem zeI (D:Df K mg "_law_next" jq ["pool","base"] []):Cal P w K mg base "_law_next" 1 ["pool","base"] [] jT:=by
 refine D.cal (k:=0) XE (λvs H Q E h=>by obtain⟨a,b,rfl,_⟩:=h;rfl) (λf cdv A outer s H vs Q E hr h=>?_)
 obtain⟨p,n,rfl,n0,n1,⟨a,b,c,hp⟩,k⟩:=h
 refine⟨_,zA (xh (zI Qe (zk xf (pv 0) ze (λ_ _=>rfl)) ze (zM _))
   (zA (zQ (i:=2) XE.nd rfl (Or.inl rfl) (zB ji (zk xf (pv 0) ze (λ_ _=>rfl)) (pv 1)))
   (zA (qg (zB zaI (zk xf (pv 0) ze (λ_ _=>rfl)) (pv 1)) (jP (pv 0) ze vp))
   (zh (zL (pv 2))))) zT)
  (zA (qg (zB zZ (zk xf (pv 0) ze (λ_ _=>rfl)) ze) (jP (pv 0) ze vp))
  (zA (zQ (i:=3) XE.nd rfl (Or.inl rfl) (zB ji (zB zZ (zk xf (pv 0) ze (λ_ _=>rfl)) (zB JY ze (zk xf (pv 0) ze (λ_ _=>rfl)))) ze))
  (zA (zQ (i:=4) XE.nd rfl (Or.inl rfl) (zB ji (zB JY (zB zZ (pv 3) ze) (zB zZ (pv 3) ze)) ze))
  (zh (zL (zB ji (zB zaI (zB ji (zB JY (pv 4) (pv 4)) ze) ze) (pv 1))))))),?_⟩
 refine⟨_,rfl,p,_,_,_,rfl,rfl,.of hp,rfl,_,_,rfl,rfl,_,rfl,qr (λh=>?_) (λh=>?_)⟩
 ·refine⟨_,rfl,p,_,_,_,rfl,rfl,.of hp,rfl,_,rfl,_,_,rfl,rfl,n0,?_⟩
  refine⟨_,rfl,p,_,_,_,rfl,rfl,.of hp,rfl,_,rfl,_,_,rfl,rfl,⟨n0,n1⟩,?_⟩
  refine⟨_,rfl,p,_,_,0,rfl,rfl,hp,rfl,?_⟩
  exact⟨_,rfl,k _ _ (uX _ (by omega)) (ut _ n0) Jo⟩
 ·refine⟨_,rfl,p,_,_,_,rfl,rfl,.of hp,rfl,_,_,rfl,rfl,?_⟩
  refine⟨_,rfl,p,_,_,2,rfl,rfl,hp,rfl,?_⟩
  refine⟨_,rfl,p,_,_,_,rfl,rfl,.of zg,rfl,_,rfl,p,_,_,_,rfl,rfl,.of zg,rfl,_,_,rfl,rfl,.inl ⟨by decide,by decide⟩,_,_,rfl,rfl,_,_,rfl,rfl,(by show (0:Int)<1000000007;decide),?_⟩
  refine⟨_,rfl,_,_,rfl,rfl,_,rfl,_,_,rfl,rfl,_,_,rfl,rfl,.inl (by constructor <;> omega),_,_,rfl,rfl,(by show (0:Int)<998244353;decide),?_⟩
  refine⟨_,rfl,_,rfl,_,_,rfl,rfl,.inl (by constructor <;> omega),_,_,rfl,rfl,(by show (0:Int)<2147483647;decide),_,_,rfl,rfl,⟨by decide,by decide⟩,_,rfl,_,_,rfl,rfl,n0,?_⟩
  exact k _ _ (uX _ (by omega)) (ut _ n0) Jo
end
open KM
inductive zH (H:Hp):List V->List zJ->Prop
 | nil:zH H [] []
 | cons {a p q:Addr}{b:zJ}{vs:List V}{bs:List zJ}:H a=some (.tup [.ref p,.ref q,.int b.wt])->zD H p b.pl->zD H q b.sp->zH H vs bs->zH H (.ref a::vs) (b::bs)
theorem zH.mono {H H':Hp}(m:∀b xs,H b=some (.tup xs)->H' b=some (.tup xs)):∀{vs:List V}{bs:List zJ},zH H vs bs->zH H' vs bs
 | _,_,.nil=>.nil
 | _,_,.cons h1 h2 h3 t=>.cons (m _ _ h1) (m _ _ h2) (m _ _ h3) (zH.mono m t)
theorem zH.same {H H':Hp}{vs:List V}{bs:List zJ}(h:zH H vs bs) (e:zi H H'):zH H' vs bs:=h.mono λb xs z=>e b _ z
theorem zH.length {H:Hp}:∀{vs:List V}{bs:List zJ},zH H vs bs->vs.length=bs.length
 | _,_,.nil=>rfl
 | _,_,.cons _ _ _ t=>by rw[wG,wG,zH.length t]
theorem zH.append {H:Hp}{us:List V}{cs:List zJ}(k:zH H us cs):∀{vs:List V}{bs:List zJ},zH H vs bs->zH H (vs++us) (bs++cs)
 | _,_,.nil=>k
 | _,_,.cons h1 h2 h3 t=>.cons h1 h2 h3 (zH.append k t)
theorem zH.one {H:Hp}{a p q:Addr}{b:zJ}(h1:H a=some (.tup [.ref p,.ref q,.int b.wt])) (h2:zD H p b.pl) (h3:zD H q b.sp):zH H [.ref a] [b]:=.cons h1 h2 h3 .nil
theorem zH.get {H:Hp}:∀{vs:List V}{bs:List zJ}{i:Nat}{v:V},zH H vs bs->vs[i]? = some v->∃(a p q:Addr) (b:zJ),bs[i]? = some b/\v = .ref a/\H a=some (.tup [.ref p,.ref q,.int b.wt])/\zD H p b.pl/\zD H q b.sp
 | _,_,_,_,.nil,e=>by simp at e
 | _,_,0,_,.cons h1 h2 h3 _,e=>by
  simp at e;subst e
  exact⟨_,_,_,_,rfl,rfl,h1,h2,h3⟩
 | _,_,i+1,v,.cons _ _ _ t,e=>by
  obtain⟨a,p,q,b,e1,r⟩:=zH.get (i:=i) t (by simpa using e)
  exact⟨a,p,q,b,by simpa using e1,r⟩
theorem zH.last {H:Hp}{vs:List V}{bs:List zJ}{b:zJ}(h:zH H vs (bs++[b])):∃(us:List V) (a p q:Addr),vs=us++[.ref a]/\H a=some (.tup [.ref p,.ref q,.int b.wt])/\zD H p b.pl/\zD H q b.sp:=by
 have hl:=h.length
 rw[wE,Wd]at hl
 have hi:bs.length<vs.length:=by omega
 obtain⟨a,p,q,c,e1,e2,r⟩:=h.get (i:=bs.length) (wf hi)
 rw[wm (wx _)]at e1
 simp at e1;subst e1
 refine⟨vs.take bs.length,a,p,q,?_,r⟩
 rw[<-e2]
 have:=List.take_append_getElem hi
 rw[this,wM (by omega)]
def JQ (b c:zJ):Prop:=b.pl<c.pl\/(b.pl=c.pl/\b.sp<c.sp)
structure zgg (bs:List zJ):Prop where
 wt:∀b∈bs,1<=b.wt/\b.wt<=1000
 sz:∀b∈bs,Sz 300 b.pl/\Sz 80 b.sp
 pw:bs.Pairwise JQ
end KK
namespace L2
open PySem PySem.Spec PyProof.Rows
section
variable {X:Cx}
theorem zh6 {op:Operator}{r:R2}{a b:Expr}{ta tb:TE}{pos:Pos}(ho:OpR X (binaryOp op) r) (ha:Bx (PE X a ta)) (hb:Bx (PE X b tb)):Bx (PE X (.BinOp a op b pos) (tOp r ta tb)):=by obtain⟨ha⟩:=ha;obtain⟨hb⟩:=hb;exact⟨zB ho ha hb⟩
theorem zcp {r:R2}{a b:Expr}{ta tb:TE}{pos:Pos}(hr:IxR X r) (ha:Bx (PE X a ta)) (hb:Bx (PE X b tb)) (hs:zai b):Bx (PE X (.Subscript a b pos) (tOp r ta tb)):=by obtain⟨ha⟩:=ha;obtain⟨hb⟩:=hb;exact⟨zk hr ha hb hs⟩
theorem zcq {p:Prop}(h:Bx p):p:=by obtain⟨h⟩:=h;exact h
end
end L2
namespace KK
open PySem L2 KM
theorem jY {X:Cx}{es:List Expr}{k:Nat}{pos:Pos}{t:TGs}{n:Nat}{K:Fg}(hK:X.K=K) (hc:X.calm=true) (h:PGs X es t)
  (hn:(assignEach es X.env).length=n:=by rfl) (hst:(assignEach es X.env).findIdx? (·.1)=none:=by rfl):PG X (.Tuple es k pos) (Vc K n t):=by subst hK;exact qv hc h hn hst
theorem qy {X:Cx}{K:Fg}(hK:X.K=K):IxR X (jQ K):=by subst hK;exact zj
theorem X9 (x y:Rat):decide (x.num*(y.den:Int)<y.num*(x.den:Int))=decide (x<y):=by
 by_cases h:x<y
 ·rw[wq h,wq ((KM.jL x y).mpr h)]
 ·rw[wI h,wI λz=>h ((KM.jL x y).mp z)]
theorem bdn {n:Nat}{i:Int}(h0:0<=i) (h1:i<2^n):Bd n i:=by
 unfold Bd
 have:((2^n:Nat):Int)=(2:Int)^n:=by push_cast;rfl
 omega
theorem bdz {n:Nat}{i:Int}(h0 : -(2^n)<i) (h1:i<2^n):Bd n i:=by
 unfold Bd
 have:((2^n:Nat):Int)=(2:Int)^n:=by push_cast;rfl
 omega
section
variable {P:Program}{w:World}{K:Fg}{mg:Str->Option Value}{base:Heap}
theorem Vq:zF ["top","bottom","one","other"] ["top","bottom"] (zr j7):=scq
theorem zg3 (D:Df K mg "_law_low" j7 ["top","bottom"] []) (T:TxB K mg):Cal P w K mg base "_law_low" 1 ["top","bottom"] [] qW:=by
 refine D.cal (k:=0) Vq (λvs H Q E h=>by obtain⟨a,b,rfl,_⟩:=h;rfl) (λf cdv A outer s H vs Q E hr h=>?_)
 obtain⟨t,b,rfl,hb,hz,k⟩:=h
 refine⟨_,(zA (J2 (i:=2) (j:=3) rfl Vq.nd rfl rfl (by decide) rfl rfl (zd (zX jF (by rfl) T.nAbs y6 (zd (pv 0) zf)) (zd (zX jF (by rfl) T.nAbs y6 (zd (pv 1) zf)) zf)) (by rfl))
  (zA (ZH PassesOwn.never (zI zc4 (pv 3) ze (zM _)) (zh (J2 (i:=2) (j:=3) rfl Vq.nd rfl rfl (by decide) rfl rfl (zd (pv 3) (zd (zB ji (pv 2) (pv 3)) zf)) (by rfl))))
  (zA (xh (zI jb (pv 1) ze (zM _)) (zh (zQ (i:=2) Vq.nd rfl (Or.inl rfl) (zB xZ ze (pv 2)))) zT)
  (zh (zL (xj (zd (zB qu (pv 0) (pv 2)) (zd (zB qu (pv 1) (pv 2)) zf)))))))),?_⟩
 have hd:=KM.zfJ (t:=t) hb
 have hdz:Bd 8900 (KM.dv t b):=hz.of_le (KM.zar hb)
 have ge:(Int.gcd (if t<0 then -t else t) (if b<0 then -b else b):Nat)=Int.gcd t b:=by
  rw[v5,v5];simp[Int.gcd]
 refine⟨_,rfl,t,rfl,⟨_,rfl,b,rfl,_,_,rfl,?_⟩⟩
 have fin:∀(σ:St) (z:Option V),σ=[some (.int t),some (.int b),some (.int (KM.dv t b)),z]->zad (zdR (xJ (tOp (rI VD λi j=>V.int (i.fdiv j)) (xG 0) (xG 2)) (xJ (tOp (rI VD λi j=>V.int (i.fdiv j)) (xG 1) (xG 2)) jV))) { nx:=λ_ H'=>Q .non H',rt:=Q } σ H:=by
  rintro σ z rfl
  refine⟨_,rfl,_,rfl,_,_,rfl,rfl,⟨hd,hdz⟩,_,rfl,_,rfl,_,_,rfl,rfl,⟨hd,hdz⟩,?_⟩
  refine⟨zL2,λp hp=>k p _ (zi.upd hp) ?_⟩
  show upd H p _ p=_
  rw[zg]
  try dsimp only
  rw[KM.JH hb,KM.zcD hb];rfl
 refine Jv (λσ H1=>H1=H/\∃x y:Int,σ=[some (.int t),some (.int b),some (.int x),some (.int y)]/\0<=x/\0<=y/\Int.gcd x y=Int.gcd t b)
  (λσ _=>match σ with | [_,_,_,some (.int y)]=>y.toNat | _=>0) ⟨rfl,_,_,rfl,(by rw[v5];omega),(by rw[v5];omega),ge⟩ ?_ ?_
 ·rintro σ H1 ⟨rfl,x,y,rfl,hx,hy,e⟩
  refine⟨_,rfl,rfl,_,rfl,qr (λh=>?_) (λh=>?_)⟩
  ·have h':0<y:=by
    have:y≠0:=λz=>by subst z;simp at h
    omega
   refine⟨_,rfl,_,rfl,_,rfl,_,_,rfl,rfl,h',_,_,rfl,⟨rfl,_,_,rfl,hy,uX _ (by omega),?_⟩,?_⟩
   ·rw[KM.VP hx h'];exact e
   ·show (x % y).toNat<y.toNat
    have:=ut x h'
    omega
  ·have:y=0:=by simpa using h
   subst this
   have e2:x=(Int.gcd t b:Nat):=by rw[<-e,Int.gcd_zero_right];omega
   refine⟨_,rfl,_,_,rfl,rfl,_,rfl,qr (λh=>?_) (λh=>?_)⟩
   ·have h':b<0:=wD h
    refine⟨_,rfl,0,_,rfl,rfl,fin _ (some (.int 0)) ?_⟩
    rw[e2];unfold KM.dv;rw[if_pos h',<-Int.zero_sub];rfl
   ·have h':¬b<0:=λz=>h (wq z)
    refine fin _ (some (.int 0)) ?_
    rw[e2];unfold KM.dv;rw[if_neg h']
 ·rintro σ H1 Q1 Q2 hq ⟨v,e,e1,k1,e3,q⟩
  exact⟨v,e,e1,k1,e3,hq _ _ q⟩
theorem zfc:zF ["a","b"] ["a","b"] (zr j5):=scq
theorem zeE (D:Df K mg "_law_add" j5 ["a","b"] []) (cL:Cal P w K mg base "_law_low" 1 ["top","bottom"] [] qW):Cal P w K mg base "_law_add" 2 ["a","b"] [] (qB Sz2 (· + ·)):=by
 refine D.cal (k:=1) zfc (λvs H Q E h=>by obtain⟨_,_,_,_,rfl,_⟩:=h;rfl) (λf cdv A outer s H vs Q E hr h=>?_)
 obtain⟨p,q,x,y,rfl,hp,hq,⟨hx,hy⟩,k⟩:=h
 exact⟨_,(zh (zL (zP cL hr (zd (zB zZ (zB zU (zk zj (pv 0) ze (λ_ _=>rfl)) (zk zj (pv 1) ze (λ_ _=>rfl))) (zB zU (zk zj (pv 1) ze (λ_ _=>rfl)) (zk zj (pv 0) ze (λ_ _=>rfl)))) (zd (zB zU (zk zj (pv 0) ze (λ_ _=>rfl)) (zk zj (pv 1) ze (λ_ _=>rfl))) zf))))),zeZ hp hq hx hy k⟩
theorem zhj:zF ["a","b"] ["a","b"] (zr ZM):=scq
theorem zg1 (D:Df K mg "_law_by" ZM ["a","b"] []) (cL:Cal P w K mg base "_law_low" 1 ["top","bottom"] [] qW):Cal P w K mg base "_law_by" 2 ["a","b"] [] (qB Sz2 (· * ·)):=by
 refine D.cal (k:=1) zhj (λvs H Q E h=>by obtain⟨_,_,_,_,rfl,_⟩:=h;rfl) (λf cdv A outer s H vs Q E hr h=>?_)
 obtain⟨p,q,x,y,rfl,hp,hq,⟨hx,hy⟩,k⟩:=h
 exact⟨_,(zh (zL (zP cL hr (zd (zB zU (zk zj (pv 0) ze (λ_ _=>rfl)) (zk zj (pv 1) ze (λ_ _=>rfl))) (zd (zB zU (zk zj (pv 0) ze (λ_ _=>rfl)) (zk zj (pv 1) ze (λ_ _=>rfl))) zf))))),zdj hp hq hx hy k⟩
theorem zff:zF ["a","b"] ["a","b"] (zr j8):=scq
theorem zeH (D:Df K mg "_law_off" j8 ["a","b"] []) (cL:Cal P w K mg base "_law_low" 1 ["top","bottom"] [] qW):Cal P w K mg base "_law_off" 2 ["a","b"] [] (qB Sz2 (· - ·)):=by
 refine D.cal (k:=1) zff (λvs H Q E h=>by obtain⟨_,_,_,_,rfl,_⟩:=h;rfl) (λf cdv A outer s H vs Q E hr h=>?_)
 obtain⟨p,q,x,y,rfl,hp,hq,⟨hx,hy⟩,k⟩:=h
 have bx:=Bd4 hx
 have b_y:=Bd4 hy
 refine⟨_,(zh (zL (zP cL hr (zd (zB xZ (zB zU (zk zj (pv 0) ze (λ_ _=>rfl)) (zk zj (pv 1) ze (λ_ _=>rfl))) (zB zU (zk zj (pv 1) ze (λ_ _=>rfl)) (zk zj (pv 0) ze (λ_ _=>rfl)))) (zd (zB zU (zk zj (pv 0) ze (λ_ _=>rfl)) (zk zj (pv 1) ze (λ_ _=>rfl))) zf))))),?_⟩
 refine⟨_,rfl,p,_,_,_,rfl,rfl,.of hp,at0 ..,_,rfl,q,_,_,_,rfl,rfl,.of hq,at1 ..,_,_,rfl,rfl,⟨bx.1,b_y.2⟩,_,rfl,q,_,_,_,rfl,rfl,.of hq,at0 ..,_,rfl,p,_,_,_,rfl,rfl,.of hp,at1 ..,_,_,rfl,rfl,⟨b_y.1,bx.2⟩,_,_,rfl,rfl,?_⟩
 refine⟨_,rfl,p,_,_,_,rfl,rfl,.of hp,at1 ..,_,rfl,q,_,_,_,rfl,rfl,.of hq,at1 ..,_,_,rfl,rfl,⟨bx.2,b_y.2⟩,?_⟩
 refine⟨_,_,rfl,yc (xV x) (xV y),(hx.2.mul hy.2).mono (by decide),λr H' e h=>k r H' e ?_⟩
 show zD H' r (x - y)
 rw[<-KM.Qb];exact h
inductive Qo  (vs:List V) (H:Hp) (Q:VK) (_e3:XK):Prop
 | mk:∀p q x y,(vs=[.ref p,.ref q])->(zD H p x)->(zD H q y)->(Sz2 x y)->(Q (.bl (decide (x<y))) H)->Qo vs H Q _e3
theorem zfd:zF ["a","b"] ["a","b"] (zr vW):=scq
theorem zeF (D:Df K mg "_law_below" vW ["a","b"] []):Cal P w K mg base "_law_below" 1 ["a","b"] [] Qo:=by
 refine D.cal (k:=0) zfd (λvs H Q E h=>by obtain⟨_,_,_,_,rfl,_⟩:=h;rfl) (λf cdv A outer s H vs Q E hr h=>?_)
 obtain⟨p,q,x,y,rfl,hp,hq,⟨hx,hy⟩,k⟩:=h
 have bx:=Bd4 hx
 have b_y:=Bd4 hy
 refine⟨_,(zh (zL (qG jb (zB zU (zk zj (pv 0) ze (λ_ _=>rfl)) (zk zj (pv 1) ze (λ_ _=>rfl))) (zB zU (zk zj (pv 1) ze (λ_ _=>rfl)) (zk zj (pv 0) ze (λ_ _=>rfl))) (zM _)))),?_⟩
 refine⟨_,rfl,p,_,_,_,rfl,rfl,.of hp,at0 ..,_,rfl,q,_,_,_,rfl,rfl,.of hq,at1 ..,_,_,rfl,rfl,⟨bx.1,b_y.2⟩,_,rfl,q,_,_,_,rfl,rfl,.of hq,at0 ..,_,rfl,p,_,_,_,rfl,rfl,.of hp,at1 ..,_,_,rfl,rfl,⟨b_y.1,bx.2⟩,_,_,rfl,rfl,?_⟩
 show Q (.bl (decide (x.num*(y.den:Int)<y.num*(x.den:Int)))) H
 rw[X9];exact k
inductive Vu (K:Fg) (vs:List V) (H:Hp) (Q:VK) (_e3:XK):Prop
 | mk:∀(a:Addr) (ns:List Int) (k:Int),(vs=[.ref a,.int k])->(SqL K H a (ns.map V.int))->(0<=k)->(∀i,Q (.int i) H)->Vu K vs H Q _e3
theorem ze7:zF ["script","k"] ["script","k"] (zr jo):=scq
theorem zeB (D:Df K mg "_law_cell" jo ["script","k"] []) (T:TxB K mg):Cal P w K mg base "_law_cell" 1 ["script","k"] [] (Vu K):=by
 refine D.cal (k:=0) ze7 (λvs H Q E h=>by obtain⟨a,ns,i,rfl,_⟩:=h;rfl) (λf cdv A outer s H vs Q E hr h=>?_)
 obtain⟨a,ns,i,rfl,hS,h0,k⟩:=h
 refine⟨_,(zA (xh (zI jb (pv 1) (zX xc (by rfl) T.nLen PySem.boot_len (zd (pv 0) zf)) (zM _)) (zh (zL (zk xf (pv 0) (pv 1) (λ_ _=>rfl)))) zT)
  (zh (zL ze))),?_⟩
 refine⟨_,rfl,_,rfl,a,_,rfl,.inl hS,_,_,rfl,rfl,_,rfl,qr (λh=>?_) (λh=>k _)⟩
 have h':i<((ns.map V.int).length:Int):=wD h
 rw[we]at h'
 have hl:i.toNat<ns.length:=by omega
 have e:(ns.map V.int)[i.toNat]? = some (.int ns[i.toNat]):=by rw[wg,wf hl];rfl
 have e2:=xF e
 rw[show ((i.toNat:Nat):Int)=i by omega]at e2
 exact⟨_,rfl,_,rfl,a,_,_,_,rfl,rfl,hS,e2,k _⟩
inductive J9  (vs:List V) (H:Hp) (Q:VK) (_e3:XK):Prop
 | mk:∀(p:Addr) (n:Int),(vs=[.ref p,.int n])->(100000000<=n)->(jE H p)->(∀(d:Int) H',0<=d->d<n->xA p H H'->Q (.int d) H')->J9 vs H Q _e3
theorem zaX:zF ["pool","base","found","k"] ["pool","base"] (zr jt):=scq
theorem ziQ (D:Df K mg "_law_wide" jt ["pool","base"] []) (T:TxB K mg) (cN:Cal P w K mg base "_law_next" 1 ["pool","base"] [] jT):Cal P w K mg base "_law_wide" 2 ["pool","base"] [] J9:=by
 refine D.cal (k:=1) zaX (λvs H Q E h=>by obtain⟨_,_,rfl,_⟩:=h;rfl) (λf cdv A outer s H vs Q E hr h=>?_)
 obtain⟨p,n,rfl,hn,hP,k⟩:=h
 refine⟨_,(zA (xh (zI jb (pv 1) (zB jN ze ze) (zM _)) (zh (zL (zP cN hr (zd (pv 0) (zd (pv 1) zf))))) zT)
  (zA (zQ (i:=2) zaX.nd rfl (Or.inl rfl) ze)
  (zA (qJ PassesOwn.never rfl (jd rfl T.nRange (zd ze zf)) (zK (i:=3) zaX.nd rfl (Or.inl rfl)) (zh (zQ (i:=2) zaX.nd rfl (Or.inl rfl) (zB zZ (zB zU (pv 2) (zB jN ze ze)) (zP cN hr (zd (pv 0) (zd (zB jN ze ze) zf)))))))
  (zh (zL (zB ji (pv 2) (pv 1))))))),?_⟩
 refine⟨_,rfl,_,_,rfl,rfl,⟨by decide,by decide,by decide⟩,_,_,rfl,rfl,_,rfl,qr (λh=>?_) (λh=>?_)⟩
 ·exact absurd (wD h) (by show ¬n<10^8;have:(10:Int)^8=100000000:=by decide
                          omega)
 refine⟨_,rfl,by decide,by decide,?_⟩
 refine vL (n:=(4:Int).toNat) (lo:=0) (λi σ G=>∃(z:Option V) (g:Int),σ=[some (.ref p),some (.int n),some (.int g),z]/\Bd (30+40*i) g/\xA p H G) ⟨none,0,rfl,Bd.mono (m:=1) (show (0:Int).natAbs<2^1 by decide) (by decide),xA.refl hP⟩ ?_ ?_
 ·rintro i σ G hi ⟨z,g,rfl,hg,tG⟩
  have hi4:i<4:=hi
  refine⟨_,rfl,_,_,rfl,rfl,⟨by decide,by decide,by decide⟩,_,_,rfl,rfl,⟨hg.mono (by omega),Bd.mono (m:=30) (bdn (by decide) (by decide)) (by decide)⟩,?_⟩
  refine⟨_,rfl,_,_,rfl,rfl,⟨by decide,by decide,by decide⟩,p,_,rfl,by decide,by decide,tG.pool,λd G2 d0 d1 t2=>⟨_,_,rfl,rfl,_,_,rfl,?_,tG.trans t2⟩⟩
  have e:((2:Int)^(28:Int).toNat)=268435456:=by decide
  have d1':d<268435456:=by rw[<-e];exact d1
  have b1:Bd 30 ((2:Int)^(28:Int).toNat):=bdn (by decide) (by decide)
  have b2:Bd 30 d:=bdn d0 (by omega)
  exact((hg.mul b1).add b2).mono (by omega)
 ·rintro σ G ⟨z,g,rfl,hg,tG⟩
  exact⟨_,rfl,_,rfl,_,_,rfl,rfl,by omega,k _ _ (uX _ (by omega)) (ut _ (by omega)) tG⟩
inductive zhF  (vs:List V) (H:Hp) (Q:VK) (_e3:XK):Prop
 | mk:∀(p:Addr) (n:Int),(vs=[.ref p,.int n])->(0<=n)->(n<=1000000)->(jE H p)->(∀r x H',xA p H H'->zD H' r x->Sz 80 x->Q (.ref r) H')->zhF vs H Q _e3
theorem zgU {d:Int}(h0:0<=d) (h1:d<8):∃v:Int,atI [V.int 1,.int 1,.int 1,.int 2,.int 3,.int 4,.int 6,.int ((10:Int)^(5:Int).toNat)] d=some (.int v)/\1<=v/\v<=100000:=by
 have:d=0\/d=1\/d=2\/d=3\/d=4\/d=5\/d=6\/d=7:=by omega
 rcases this with rfl | rfl | rfl | rfl | rfl | rfl | rfl | rfl
 all_goals exact⟨_,rfl,by decide,by decide⟩
theorem zf4:zF ["pool","size","bottom"] ["pool","size"] (zr vY):=scq
theorem ziG (D:Df K mg "_law_ratio" vY ["pool","size"] []) (cN:Cal P w K mg base "_law_next" 1 ["pool","base"] [] jT) (cWi:Cal P w K mg base "_law_wide" 2 ["pool","base"] [] J9) (cL:Cal P w K mg base "_law_low" 1 ["top","bottom"] [] qW):Cal P w K mg base "_law_ratio" 3 ["pool","size"] [] zhF:=by
 refine D.calB (k:=2) zf4 (λvs H Q E h=>by obtain⟨_,_,rfl,_⟩:=h;rfl) (λf cdv A outer s H vs Q E hr h=>?_)
 obtain⟨p,n,rfl,n0,n1,hP,k⟩:=h
 have hr1:xn 1 _:=hr.mono (by decide)
 refine⟨_,(zC (XN (i:=2) zf4.nd rfl (Or.inl rfl) (zcp xf (Q0 (xu (Bx.mk ze) (xu (Bx.mk ze) (xu (Bx.mk ze) (xu (Bx.mk ze) (xu (Bx.mk ze) (xu (Bx.mk ze) (xu (Bx.mk ze) (xu (Bx.mk (zB jN ze ze)) Z5))))))))) (Bx.mk (zP cN hr1 (zd (pv 0) (zd ze zf)))) (λ_ _=>rfl))) (Bx.mk (zA (xh (zI qL (zP cN hr1 (zd (pv 0) (zd ze zf))) ze (zM _)) (zh (zL (zP cL hr1 (zd (zB xZ (zP cWi hr (zd (pv 0) (zd (zB zZ (zB zU ze (zB jN ze ze)) ze) zf))) (zB jN ze ze)) (zd (pv 2) zf))))) zT)
  (zh (zL (zP cL hr1 (zd (zB xZ (zP cN hr1 (zd (pv 0) (zd (zB zZ (zB zU ze (pv 1)) ze) zf))) (pv 1)) (zd (pv 2) zf)))))))),?_⟩
 refine⟨_,_,rfl,rfl,⟨by decide,by decide,by decide⟩,zL8,λl1 hl1=>?_⟩
 refine⟨_,rfl,p,_,rfl,by decide,by decide,hP.new hl1,λd1 G1 a1 b1 t1=>?_⟩
 obtain⟨v,ev,v0,v1⟩:=zgU a1 b1
 refine⟨l1,_,_,_,rfl,rfl,.of (t1.keep l1 _ zg (hP.ne hl1)),ev,?_⟩
 have T1:xA p H G1:=t1.pre (zi.upd hl1)
 have vb:Bd 8900 v:=Bd.mono (m:=20) (bdn (by omega) (by omega)) (by decide)
 refine⟨_,rfl,p,_,rfl,by decide,by decide,t1.pool,λd2 G2 a2 b2 t2=>⟨rfl,_,rfl,qr (λh=>?_) (λh=>?_)⟩⟩
 ·refine⟨_,rfl,_,_,rfl,rfl,⟨by decide,by decide,by decide⟩,_,_,rfl,rfl,⟨Bd.mono (m:=2) (bdn (by decide) (by decide)) (by decide),Bd.mono (m:=80) (bdn (by decide) (by decide)) (by decide)⟩,_,_,rfl,rfl,p,_,rfl,by decide,t2.pool,λd3 G3 a3 b3 t3=>?_⟩
  refine⟨_,_,rfl,rfl,⟨by decide,by decide,by decide⟩,_,_,rfl,rfl,_,rfl,_,_,rfl,by omega,vb,λr H' e h=>k r _ H' (((T1.trans t2).trans t3).same e) h (.divInt (by omega) ?_ (Bd.mono (m:=20) (bdn (by omega) (by omega)) (by decide)))⟩
  have e20:((10:Int)^(20:Int).toNat)=100000000000000000000:=by decide
  have b3':d3<2*((10:Int)^(20:Int).toNat)+1:=b3
  show Bd 80 (d3 - (10:Int)^(20:Int).toNat)
  rw[e20]at b3' ⊢
  exact Bd.mono (m:=68) (bdz (by omega) (by omega)) (by decide)
 ·refine⟨_,rfl,_,rfl,_,_,rfl,rfl,⟨Bd.mono (m:=2) (bdn (by decide) (by decide)) (by decide),Bd.mono (m:=30) (bdn (by omega) (by omega)) (by decide)⟩,_,_,rfl,rfl,p,_,rfl,by omega,by omega,t2.pool,λd3 G3 a3 b3 t3=>?_⟩
  refine⟨_,rfl,_,_,rfl,rfl,_,rfl,_,_,rfl,by omega,vb,λr H' e h=>k r _ H' (((T1.trans t2).trans t3).same e) h (.divInt (by omega) ?_ (Bd.mono (m:=20) (bdn (by omega) (by omega)) (by decide)))⟩
  exact Bd.mono (m:=30) (bdz (by omega) (by omega)) (by decide)
theorem zgS {d:Int}(h0:0<=d) (h1:d<4):∃v:Int,atI [V.int 1,.int 1,.int 2,.int 3] d=some (.int v)/\1<=v/\v<=3:=by
 have:d=0\/d=1\/d=2\/d=3:=by omega
 rcases this with rfl | rfl | rfl | rfl
 all_goals exact⟨_,rfl,by decide,by decide⟩
theorem zdx:zF ["pool"] ["pool"] (zr vZ):=scq
end
end KK
namespace L2
open PySem PySem.Spec PyProof.Rows
theorem zbw {J:It}{D:Addr}{N n:Nat}{js:List Nat}{σ:St}{g:TG}{tt:TT}{te:TE}{Z:Hp->Prop}{H:Hp}(Pv:Nat->Hp->List V->Prop) (h0:Pv 0 (upd H D (.lst [])) []) (hgo:∀i H ys,i<N->Pv i H ys->J.go i H) (hst:∀H ys,Pv N H ys->J.stop N H)
  (hs:∀i x zs H2 H3 ys (Nx:Hp->List V->Prop),(∀H ys,Pv (i+1) H ys->Nx H ys)->i<N->zs.length=n->J.yld i H2 x H3->Pv i H2 ys->H2 D=some (.lst ys)->g x (zs++qU σ js) H3 λσ4 H4=>σ4.drop n=qU σ js/\tt σ4 H4 λb H5 =>
   if b=true then te σ4 H5 (λv H6=>H6 D=some (.lst ys)/\ys.length<sizeLine/\Nx (upd H6 D (.lst (ys++[v]))) (ys++[v]))else H5 D=some (.lst ys)/\Nx H5 ys)
  (hd:∀H ys,Pv N H ys->H D=some (.lst ys)->Z H) :
  ∃W:Nat->Nat->Hp->List V->Prop,(∃m,W 0 m (upd H D (.lst [])) [])/\∀i m H2 ys,W i m H2 ys->H2 D=some (.lst ys)->(J.stop i H2/\Z H2) ∨
   (J.go i H2/\∀zs x H3,zs.length=n->J.yld i H2 x H3->g x (zs++qU σ js) H3 λσ4 H4=>σ4.drop n=qU σ js/\tt σ4 H4 λb H5=>if b=true then te σ4 H5 (λv H6=>H6 D=some (.lst ys)/\ys.length<sizeLine/\∃m',m'<m/\W (i+1) m' (upd H6 D (.lst (ys++[v]))) (ys++[v]))
    else H5 D=some (.lst ys)/\∃m',m'<m/\W (i+1) m' H5 ys):=Zy (Q:=λ_ H=>Z H) Pv h0 hgo hst hs hd
end L2
namespace KK
open PySem L2 KM
theorem za6 {D:vt}{σ:St}{H:Hp}(h:D.nx σ H):zf8 D σ H:=h
theorem xE {t u:TS}{D:vt}{σ:St}{H:Hp}(R:St->Hp->Prop) (h2:∀σ' H',R σ' H'->u D σ' H') (h1:∀nx:St->Hp->Prop,(∀σ' H',R σ' H'->nx σ' H')->t { D with nx:=nx } σ H):Vv t u D σ H:=h1 (u D) h2
theorem xq {p:Addr}{H H':Hp}(hp:jE H p) (s:xA p H H'):zY H H':=λb xs e=>s.tup hp e
theorem xA.free {p l:Addr}{H G:Hp}(s:xA p H G) (h:G l=none):H l=none:=by
 cases hh:H l with
 | none=>rfl
 | some o =>
  by_cases e:l=p
  ·subst e;obtain⟨_,_,_,z⟩:=s.pool;rw[z]at h;cases h
  ·rw[s.keep _ _ hh e]at h;cases h
theorem xA.put {p l:Addr}{H G:Hp}(s:xA p H G) (h:H l=none) (n:l≠p) (o:HO):xA p H (upd G l o) :=
 ⟨by obtain⟨q1,q2,q3,e⟩:=s.pool;exact⟨q1,q2,q3,by rw[zE (Ne.symm n)];exact e⟩,λb u e m=>by rw[zE (λz=>by rw[z,h]at e;cases e)];exact s.keep b u e m⟩
theorem jK {α:Type}{xs:List α}(h:xs.length=1):∃a,xs=[a]:=by
 match xs,h with
 | [a],_=>exact⟨a,rfl⟩
theorem Vl {α:Type}(v:α):∀n:Nat,(List.replicate n [v]).flatten=List.replicate n v
 | 0=>rfl
 | n+1=>by rw[yH,uD,Vl v n,yH];rfl
abbrev Wl:=Option (Rat×Rat)
def zV (H:Hp) (v:V):Wl->Prop
 | none=>v = .non
 | some (x,y)=>∃a p q,v = .ref a/\H a=some (.tup [.ref p,.ref q])/\zD H p x/\zD H q y
theorem zV.tups {H H':Hp}{v:V}{l:Wl}(h:zV H v l) (e:zY H H'):zV H' v l:=by
 cases l with
 | none=>exact h
 | some z=>obtain⟨x,y⟩:=z;obtain⟨a,p,q,e1,e2,e3,e4⟩:=h;exact⟨a,p,q,e1,e _ _ e2,e _ _ e3,e _ _ e4⟩
structure Box (bs:List zJ) (l1 l2:Wl):Prop where
 z1:∀x y,l1=some (x,y)->Sz 320 x/\Sz 80 y
 z2:∀x y,l2=some (x,y)->Sz 320 x/\Sz 80 y
 lo:∀x y b,l1=some (x,y)->bs[0]? = some b->x<=b.pl/\(x=b.pl->y<=b.sp)
 hi:∀x y cs b,l2=some (x,y)->bs=cs++[b]->b.pl<=x/\(x=b.pl->b.sp<=y)
 lt:∀x y x' y',l1=some (x,y)->l2=some (x',y')->x<x'
end KK
namespace L2
open PySem PySem.Spec PyProof.Rows
section
variable {X:Cx}{e st:Expr}{te:TE}{pos p2:Pos}
inductive zdQ (K:Fg) (Q:VK) (x:V) (y:V) (H2:Hp):Prop
 | mk:∀a xs,(x = .ref a)->(y = .int (-1))->(SqL K H2 a xs)->(∀p,H2 p=none->Q (.ref p) (upd H2 p (.lst xs.reverse)))->zdQ K Q x y H2
def zjq (K:Fg) (te ts:TE):TE:=λσ H Q=>te σ H λx H1=>ts σ H1 λy H2=>zdQ K Q x y H2
theorem zeS {ts:TE}(he:PE X e te) (hs:PE X st ts):PE X (.Subscript e (.Slice none none (some st) p2) pos) (zjq X.K te ts):=by
 intro pins s σ H Q I h
 refine Subscript_ (thn (he pins s σ H _ I h) λv s1 ⟨x,H1,I1,r1,q1⟩=>?_)
 refine wpAny_Slice ?_
 rw[evalPart_none]
 refine wo (wo ?_)
 rw[evalPart_some]
 refine thn (hs pins s1 σ H1 _ I1 q1) λu s3 ⟨y,H3,I3,r3,q3⟩=>?_
 obtain⟨a,xs,rfl,rfl,hx,q⟩:=q3
 cases r1
 obtain⟨t,rfl⟩:=r3
 have I4:Inv X pins σ H3 { s3 with heap:=s3.heap.push { cls:=.type "slice",data:=.fields #[.none,.none,.int (-1) t] } }:=I3.kept (t':=s3.toks) λb ob q=>wd _ q
 obtain⟨its,r,ht,hz⟩:=I4.list hx
 have hlen:=r.length
 show wpAny (model X.prog X.w) X.A (subscriptTail e (.Slice none none (some st) p2) (.ref a) (.ref s3.heap.objs.size)) (EP X pins σ Q) X.xe { s3 with heap:=s3.heap.push { cls:=.type "slice",data:=.fields #[.none,.none,.int (-1) t] } }
 refine tail_any (ops:=[.ref a,.ref s3.heap.objs.size]) ht.isList.typeIs slot_list_getitem.lookup (WM ht.isList (Heap.IsSliceOf.new ..) .none .none (.int (-1) t) (by simp) ?_ (by rw[wz] <;> omega)) (by with_unfolding_all rfl)
 rw[PySem.W.krv_pick]
 refine⟨.ref _,_,I4.laid (t':=s3.toks) (o:=.lst xs.reverse) (λb ob q=>wd _ q) (wx _) ?_,rfl,q _ (I4.hok.fresh (wx _))⟩
 exact⟨by rw[uj];exact hz,_,0,r.rev,wB _ rfl⟩
end
section
variable {X:Cx}
def zeX:V->List V->Hp->VK->Prop:=λx vs H Q=>∃(l:Addr) (xs:List V) (i:Int) (y:V),x = .ref l/\vs=[.int i,y]/\H l=some (.lst xs)/\0<=i/\i<=xs.length/\xs.length<=1000/\Q .non (upd H l (.lst (xs.take i.toNat++y::xs.drop i.toNat)))
theorem zgD (its:List Value) (i:Int) (u:Value) (h0:0<=i) (h1:i<=its.length) :
  ((its.toArray.extract 0 (if i<0 then(i+((its.toArray.size:Nat):Int)).toNat else min i.toNat its.toArray.size)).push u++its.toArray.extract (if i<0 then(i+((its.toArray.size:Nat):Int)).toNat else min i.toNat its.toArray.size))=(its.take i.toNat++u::its.drop i.toNat).toArray:=by
 rw[if_neg (by omega),wz,show min i.toNat its.length=i.toNat by omega]
 apply Array.toList_inj.mp
 simp
 exact wM (by simp)
theorem Xb:MtM X "list.insert" zeX:=by
 intro pins s σ H x vs v us Q I rx rv h
 obtain⟨l,xs,i,y,rfl,rfl,hH,h0,h1,hz,q⟩:=h
 cases rx
 obtain⟨u1,u2,rfl,⟨t,rfl⟩,ru⟩:=rv.two
 obtain⟨z,its,n,r,hl,e⟩:=I.lstM hH
 have hf:Builtin.List.listFitsIndex i=true:=fitsIndex_both (by omega) (by omega)
 have hz2:its.toArray.size<=sizeLine:=by rw[wz,<-hl];exact z
 refine call_meets F.slot_list_insert ⟨_,e,rfl⟩ F.entry_list_insert (F.args_list_insert_3 _ _ _) (AutoSeq1.list_insert_list_int_val_1 l its.toArray n i t u2 (by simp[hf]) hz2) ⟨e,?_⟩
 refine⟨.non,_,I.lset (its':=its.take i.toNat++u2::its.drop i.toNat) hH e (zgD its i u2 h0 (by omega)) ((r.take i.toNat).append (.cons ru (r.drop i.toNat))) ?_,rfl,q⟩
 have:xs.length<sizeLine:=xk hz
 rw[wE,wG,w5,wW]
 omega
end
end L2
namespace KK
open PySem L2 KM
theorem XW {K:Fg}{a:Addr}{xs:List V}{g:TG}{tb:TS}{D:vt}{σ:St}{H:Hp}(Pv:Nat->St->Hp->Prop) (h0:Pv 0 σ H) (hl:∀i σ H,Pv i σ H->SqL K H a xs)
  (hs:∀(i:Nat) (x:V) (σ:St) (H:Hp) (T:Addr),xs[i]? = some x->Pv i σ H->H T=none->g (.ref T) σ (upd H T (.tup [.int i,x])) λσ2 H2=>tb { D with nx:=Pv (i+1),ct:=Pv (i+1),bk:=D.nx } σ2 H2)
  (hd:∀σ H,Pv xs.length σ H->D.nx σ H) :
  ∃W:Nat->Nat->St->Hp->Prop,(∃m,W 0 m σ H)/\∀i m σ H,W i m σ H →
   ((Ite K a).stop i H/\D.nx σ H)\/((Ite K a).go i H/\∃N:St->Hp->Prop,(∀σ' H',N σ' H'->∃m',m'<m/\W (i+1) m' σ' H')/\∀x H',(Ite K a).yld i H x H'->g x σ H' λσ2 H2=>tb { D with nx:=N,ct:=N,bk:=D.nx } σ2 H2):=by
 refine⟨λi m σ H=>m=xs.length - i/\i<=xs.length/\Pv i σ H,⟨xs.length,by simp,yg _,h0⟩,?_⟩
 rintro i m σ H ⟨rfl,hi,p⟩
 have q1:=hl i σ H p
 by_cases hlt:i<xs.length
 ·refine .inr ⟨⟨xs,xs[i],q1,by simp⟩,Pv (i+1),λσ' H' p'=>⟨xs.length - (i+1),by omega,rfl,hlt,p'⟩,λx H' y=>?_⟩
  obtain⟨T,u,rfl,hT,rfl,e1⟩:=y
  exact hs i u σ H T (e1 xs q1) p hT
 ·have e:i=xs.length:=by omega
  subst e
  exact .inl ⟨⟨xs,q1,wx _⟩,hd σ H p⟩
theorem Sz.sub {m n:Nat}{x y:Rat}(h:Sz m x) (k:Sz n y):Sz (m+n+1) (x - y):=by
 rw[Rat.sub_eq_add_neg]
 exact h.add ⟨by rw[Rat.neg_num];exact k.1.neg,by rw[Rat.neg_den];exact k.2⟩
theorem zcu {a b:Str}{m n:Addr}(x:Str) (c:Addr) (e:List.lookup x [(a,m)]=some c):List.lookup x [(a,m),(b,n)]=some c:=by
 simp only[List.lookup]at e ⊢
 cases h1:(x == a)with
 | true=>rw[h1]at e;exact e
 | false=>rw[h1]at e;cases e
theorem zcv {a b:Str}{m n:Addr}(h:a≠b) (x:Str) (c:Addr) (e:List.lookup x [(b,n)]=some c):List.lookup x [(a,m),(b,n)]=some c:=by
 simp only[List.lookup]at e ⊢
 cases h1:(x == b)with
 | true =>
  cases h2:(x == a)with
  | true=>exact absurd ((eq_of_beq h2).symm.trans (eq_of_beq h1)) h
  | false=>rw[h1]at e;exact e
 | false=>rw[h1]at e;cases e
structure NEn (mg:Str->Option Value):Prop where
 nEnum:mg "enumerate" = none
theorem zhR {t b:Int}{n:Nat}(h0 : -(2^n)<t) (h1:t<2^n) (b0:0<b) (b1:b<2^n):Sz n (Rat.divInt t b):=.divInt (by omega) (bdz h0 h1) (bdn (by omega) b1)
theorem zgT {d:Int}(h0:0<=d) (h1:d<8):∃v:Int,atI [V.int 2,.int 2,.int 3,.int 3,.int 4,.int 5,.int 6,.int 7] d=some (.int v)/\2<=v/\v<=7:=by
 have:d=0\/d=1\/d=2\/d=3\/d=4\/d=5\/d=6\/d=7:=by omega
 rcases this with rfl | rfl | rfl | rfl | rfl | rfl | rfl | rfl
 all_goals exact⟨_,rfl,by decide,by decide⟩
def ZB (bs:List zJ):Prop:=∀b∈bs,Sz 300 b.pl/\Sz 80 b.sp/\1<=b.wt/\b.wt<=1000
structure ERQ (H:Hp) (n:Nat) (us:List V) (qs:List Rat):Prop where
 len:us.length=qs.length
 at':∀(i:Nat) (v:V),us[i]? = some v->∃r q,v = .ref r/\qs[i]? = some q/\zD H r q
 sz:∀q∈qs,Sz n q
theorem ERQ.tups {H H':Hp}{n:Nat}{us:List V}{qs:List Rat}(h:ERQ H n us qs) (e:zY H H'):ERQ H' n us qs:=⟨h.len,λi v f=>let ⟨r,q,a,b,c⟩:=h.at' i v f;⟨r,q,a,b,e _ _ c⟩,h.sz⟩
theorem ERQ.mono {H:Hp}{n n':Nat}{us:List V}{qs:List Rat}(h:ERQ H n us qs) (l:n<=n'):ERQ H n' us qs:=⟨h.len,h.at',λq m=>(h.sz q m).mono l⟩
theorem ERQ.nil {H:Hp}{n:Nat}:ERQ H n [] []:=⟨rfl,λi v e=>by simp at e,λq m=>by cases m⟩
theorem ERQ.cons {H:Hp}{n:Nat}{us:List V}{qs:List Rat}{r:Addr}{q:Rat}(h:ERQ H n us qs) (hr:zD H r q) (z:Sz n q):ERQ H n (.ref r::us) (q::qs):=by
 refine⟨by simp[h.len],λi v e=>?_,λx m=>?_⟩
 ·match i,e with
  | 0,e=>cases e;exact⟨r,q,rfl,rfl,hr⟩
  | i+1,e=>exact h.at' i v (by simpa using e)
 ·rcases wy.mp m with rfl | m
  ·exact z
  ·exact h.sz x m
theorem ERQ.snoc {H:Hp}{n:Nat}{us:List V}{qs:List Rat}{r:Addr}{q:Rat}(h:ERQ H n us qs) (hr:zD H r q) (z:Sz n q):ERQ H n (us++[.ref r]) (qs++[q]):=by
 refine⟨by simp[h.len],λi v e=>?_,λx m=>?_⟩
 ·by_cases hi:i<us.length
  ·rw[wu hi]at e
   rw[wu (by rw[<-h.len];exact hi)]
   exact h.at' i v e
  ·rw[wm (by omega)]at e
   have hj:i - us.length=0:=by
    rcases yZ (i - us.length)with z | z
    ·exact z
    ·rw[wY (by simp;omega)]at e;cases e
   rw[hj]at e;cases e
   exact⟨r,q,rfl,by rw[wm (by rw[<-h.len];omega),<-h.len,hj];rfl,hr⟩
 ·rcases wN.mp m with y | y
  ·exact h.sz x y
  ·have:x=q:=by simpa using y
   rw[this];exact z
def bq (n:Nat):Rat:=((4*(n:Int):Int):Rat)
theorem QZ (n:Nat):bq (n+1)=bq n+4:=by
 unfold bq
 have:(4*((n+1:Nat):Int):Int)=4*(n:Int)+4:=by omega
 rw[this,Rat.intCast_add];rfl
theorem zfG (n:Nat):0<=bq n:=by
 have:((0:Int):Rat)<=((4*(n:Int):Int):Rat):=u8.mpr (by omega)
 exact this
def FQ (ow b:Rat) (qs:List Rat):Prop:=∀q∈qs,ow - b<=q/\q<=ow+b
def FA (ow:Rat) (qs:List Rat):Prop:=qs.Pairwise (· > ·)/\(∀q∈qs,ow<q)/\FQ ow (bq qs.length) qs
theorem FA.cons {ow q0 x:Rat}{qs:List Rat}(h:FA ow (q0::qs)) (lt:q0<x) (le:x<=q0+4):FA ow (x::q0::qs):=by
 refine⟨w4.mpr ⟨λa m=>?_,h.1⟩,λq m=>?_,λq m=>?_⟩
 ·rcases wy.mp m with rfl | m
  ·exact lt
  ·have:=(w4.mp h.1).1 a m
   grind
 ·rcases wy.mp m with rfl | m
  ·have:=h.2.1 q0 (wJ ..)
   grind
  ·exact h.2.1 q m
 ·have e:bq (x::q0::qs).length=bq (q0::qs).length+4:=QZ _
  rw[e]
  rcases wy.mp m with rfl | m
  ·have:=h.2.2 q0 (wJ ..)
   grind
  ·have:=h.2.2 q m
   grind
def FB (wh:Int) (ow:Rat) (qs:List Rat):Prop:=qs.Pairwise (· > ·)/\(wh=1->∀q∈qs,q<ow)/\(wh≠1->∀q∈qs,ow<q)/\FQ ow (bq qs.length) qs
def Ex (wh:Int) (ow:Rat) (qs:List Rat):Prop:=(∃q∈qs,(wh=1->q<ow)/\(wh≠1->ow<q))/\(wh=0->2<=qs.length)
def FC (wh:Int) (ow:Rat) (qs:List Rat):Prop:=qs.Pairwise (· > ·)/\(wh=1->∀q∈qs,q<=ow)/\(wh≠1->∀q∈qs,ow<q)/\FQ ow (bq qs.length) qs/\Ex wh ow qs
def FD (wh:Int) (ow:Rat) (qs:List Rat):Prop:=qs.Pairwise (· > ·)/\(wh=1->∀q∈qs,q<=ow)/\(wh=2->∀q∈qs,ow<=q)/\FQ ow (bq qs.length) qs/\Ex wh ow qs
theorem FA.mirror {ow:Rat}{qs:List Rat}(h:FA ow qs):FB 1 ow (qs.reverse.map λq=>ow+ow - q):=by
 refine⟨?_,λ_ q m=>?_,λz=>absurd rfl z,λq m=>?_⟩
 ·rw[yr,List.pairwise_reverse]
  exact h.1.imp λ{a b} lt=>by show ow+ow - b>ow+ow - a;grind
 ·obtain⟨x,mx,rfl⟩:=ww.mp m
  have:=h.2.1 x (Wi.mp mx)
  grind
 ·obtain⟨x,mx,rfl⟩:=ww.mp m
  have:=h.2.2 x (Wi.mp mx)
  rw[we,uj]
  grind
theorem FA.fb {wh:Int}{ow:Rat}{qs:List Rat}(h:FA ow qs) (w:wh≠1):FB wh ow qs:=⟨h.1,λz=>absurd z w,λ_=>h.2.1,h.2.2⟩
theorem FB.ex {wh:Int}{ow:Rat}{qs:List Rat}(h:FB wh ow qs) (n:1<=qs.length) (n2:wh=0->2<=qs.length):Ex wh ow qs:=by
 cases qs with
 | nil=>simp at n
 | cons q qs=>exact⟨⟨q,wJ ..,λz=>h.2.1 z q (wJ ..),λz=>h.2.2.1 z q (wJ ..)⟩,n2⟩
theorem FB.fc {wh:Int}{ow:Rat}{qs:List Rat}(h:FB wh ow qs) (n:1<=qs.length) (n2:wh=0->2<=qs.length):FC wh ow qs:=⟨h.1,λz q m=>by have:=h.2.1 z q m;grind,h.2.2.1,h.2.2.2,h.ex n n2⟩
theorem FB.rest {ow:Rat}{qs:List Rat}(h:FB 1 ow qs) (n:1<=qs.length):FC 1 ow (ow::qs):=by
 obtain⟨⟨q0,m0,e0⟩,_⟩:=h.ex n (λz=>absurd z (by decide))
 refine⟨w4.mpr ⟨λa m=>h.2.1 rfl a m,h.1⟩,λ_ q m=>?_,λz=>absurd rfl z,λq m=>?_,⟨⟨q0,wP _ m0,e0⟩,λz=>absurd z (by decide)⟩⟩
 ·rcases wy.mp m with rfl | m
  ·grind
  ·have:=h.2.1 rfl q m
   grind
 ·have e:bq (ow::qs).length=bq qs.length+4:=QZ _
  have n:=zfG qs.length
  rw[e]
  rcases wy.mp m with rfl | m
  ·grind
  ·have:=h.2.2.2 q m
   grind
theorem FC.fd {wh:Int}{ow:Rat}{qs:List Rat}(h:FC wh ow qs):FD wh ow qs:=⟨h.1,h.2.1,λz q m=>by have:=h.2.2.1 (by omega) q m;grind,h.2.2.2⟩
theorem FC.rest {ow:Rat}{qs:List Rat}(h:FC 2 ow qs):FD 2 ow (qs++[ow]):=by
 refine⟨wX.mpr ⟨h.1,by simp,λa m b mb=>?_⟩,λz=>absurd z (by decide),λ_ q m=>?_,λq m=>?_,⟨by obtain⟨q0,m0,e0⟩:=h.2.2.2.2.1;exact⟨q0,wT _ m0,e0⟩,λz=>absurd z (by decide)⟩⟩
 ·have e:b=ow:=by simpa using mb
  rw[e];exact h.2.2.1 (by decide) a m
 ·rcases wN.mp m with y | y
  ·have:=h.2.2.1 (by decide) q y
   grind
  ·have e:q=ow:=by simpa using y
   grind
 ·have e:bq (qs++[ow]).length=bq qs.length+4:=by rw[wE];exact QZ _
  have n:=zfG qs.length
  rw[e]
  rcases wN.mp m with y | y
  ·have:=h.2.2.2.1 q y
   grind
  ·have e:q=ow:=by simpa using y
   grind
theorem JG {t b c:Int}(hb:0<b) (h0 : -c*b<=t) (h1:t<=c*b) : -(c:Rat)<=Rat.divInt t b/\Rat.divInt t b<=(c:Rat):=by
 have hb':(0:Rat)<(b:Rat):=by exact_mod_cast hb
 rw[yz]
 have g0:((-c*b:Int):Rat)<=(t:Rat):=u8.mpr h0
 have g1:(t:Rat)<=((c*b:Int):Rat):=u8.mpr h1
 rw[yK]at g0 g1
 rw[Rat.intCast_neg]at g0
 constructor
 ·rcases Classical.em ((t:Rat)/(b:Rat) < -(c:Rat))with z | z
  ·rw[W6 hb']at z;grind
  ·grind
 ·rcases Classical.em ((c:Rat)<(t:Rat)/(b:Rat))with z | z
  ·rw[W7 hb']at z;grind
  ·grind
section
variable {P:Program}{w:World}{K:Fg}{mg:Str->Option Value}{base:Heap}
inductive zdE  (vs:List V) (H:Hp) (Q:VK) (_e3:XK):Prop
 | mk:∀(p:Addr),(vs=[.ref p])->(jE H p)->(∀r x H',xA p H H'->zD H' r x->Sz 5 x → -6<=x->x<=6->Q (.ref r) H')->zdE vs H Q _e3
theorem zg4 (D:Df K mg "_law_speed" vZ ["pool"] []) (cN:Cal P w K mg base "_law_next" 1 ["pool","base"] [] jT) (cL:Cal P w K mg base "_law_low" 1 ["top","bottom"] [] qW):Cal P w K mg base "_law_speed" 2 ["pool"] [] zdE:=by
 refine D.cal (k:=1) zdx (λvs H Q E h=>by obtain⟨_,rfl,_⟩:=h;rfl) (λf cdv A outer s H vs Q E hr h=>?_)
 obtain⟨p,rfl,hP,k⟩:=h
 refine⟨_,(zh (zL (zP cL hr (zd (zB xZ (zP cN hr (zd (pv 0) (zd ze zf))) ze) (zd (zk xf (x5 (zd ze (zd ze (zd ze (zd ze zf))))) (zP cN hr (zd (pv 0) (zd ze zf))) (λ_ _=>rfl)) zf))))),?_⟩
 refine⟨_,rfl,p,_,rfl,by decide,by decide,hP,λd1 G1 a1 b1 t1=>⟨_,_,rfl,rfl,zL4,λl1 hl1=>?_⟩⟩
 refine⟨_,rfl,p,_,rfl,by decide,by decide,t1.pool.new hl1,λd2 G2 a2 b2 t2=>?_⟩
 obtain⟨v,ev,v0,v1⟩:=zgS a2 b2
 refine⟨l1,_,_,_,rfl,rfl,.of (t2.keep l1 _ zg (t1.pool.ne hl1)),ev,?_⟩
 have hb:=JG (t:=d1 - 6) (b:=v) (c:=6) (by omega) (by omega) (by omega)
 refine⟨_,_,rfl,by omega,Bd.mono (m:=5) (bdn (by omega) (by omega)) (by decide),λr H' e h=>k r _ H' ((t1.trans (t2.pre (zi.upd hl1))).same e) h (.divInt (by omega) (bdz (by omega) (by omega)) (bdn (by omega) (by omega))) hb.1 hb.2⟩
inductive zhp  (vs:List V) (H:Hp) (Q:VK) (_e3:XK):Prop
 | mk:∀(p pp pm:Addr) (wh:Int) (al:Bool) (x m:Rat),(vs=[.ref p,.int wh,.ref pp,.ref pm,.bl al])->(0<=wh)->(wh<=2)->(zD H pp x)->(Sz 80 x)->(zD H pm m)->(Sz 5 m)->(jE H p)->(∀t r wl us bs ra rb y z H',xA p H H'->H' t=some (.tup [.ref r,.ref wl])->H' r=some (.tup us)->zH H' us bs->ZB bs->1<=bs.length->bs.length<=8->H' wl=some (.tup [.ref ra,.ref rb])->zD H' ra y->zD H' rb z->Sz 300 y->Sz 80 z->(∃qs,bs.map (λb=>(b.pl,b.sp))=xY x m qs/\FD wh z qs/\y=x - z*m ∧ -6<=z/\z<=6)->((al=true->∃w0:Int,∀b∈bs,b.wt=w0)/\∀b∈bs,b.wt<=9)->Q (.ref t) H')->zhp vs H Q _e3
theorem jz:zF ["pool","where","place","moment","alike","rest","many","own","speeds","k","weights","row","speed"] ["pool","where","place","moment","alike"] (zr vH):=scq
theorem zim (D:Df K mg "_law_bundle" vH ["pool","where","place","moment","alike"] []) (T:TxB K mg) (TW:NEn mg) (cN:Cal P w K mg base "_law_next" 1 ["pool","base"] [] jT) (cSp:Cal P w K mg base "_law_speed" 2 ["pool"] [] zdE)
  (cL:Cal P w K mg base "_law_low" 1 ["top","bottom"] [] qW) (cA:Cal P w K mg base "_law_add" 2 ["a","b"] [] (qB Sz2 (· + ·))) (cO:Cal P w K mg base "_law_off" 2 ["a","b"] [] (qB Sz2 (· - ·))) (cBy:Cal P w K mg base "_law_by" 2 ["a","b"] [] (qB Sz2 (· * ·))):Cal P w K mg base "_law_bundle" 3 ["pool","where","place","moment","alike"] [] zhp:=by
 refine D.calB (k:=2) jz (λvs H Q E h=>by obtain⟨_,_,_,_,_,_,_,rfl,_⟩:=h;rfl) (λf cdv A outer s H vs Q E hr h=>?_)
 obtain⟨p,pp,pm,wh,al,px,mm,rfl,w0,w2,hpp,zpp,hpm,zpm,hP,k⟩:=h
 have hr1:xn 1 _:=hr.mono (by decide)
 refine⟨_,(zC (Bx.mk (zQ (i:=5) jz.nd rfl (Or.inl rfl) (xP zbq (by rfl) T.nInt PyProof.Rows.boot_int (zd (q8 (qG Qe (pv 1) ze (zM _)) (vB (qG qL (zP cN hr1 (zd (pv 0) (zd ze zf))) ze (zM _)))) zf))))
  (zC (XN (i:=6) jz.nd rfl (Or.inl rfl) (zh6 xZ (zcp xf (Q0 (xu (Bx.mk ze) (xu (Bx.mk ze) (xu (Bx.mk ze) (xu (Bx.mk ze) (xu (Bx.mk ze) (xu (Bx.mk ze) (xu (Bx.mk ze) (xu (Bx.mk ze) Z5))))))))) (Bx.mk (zP cN hr1 (zd (pv 0) (zd ze zf)))) (λ_ _=>rfl)) (Bx.mk (pv 5))))
  (zC (XN (i:=7) jz.nd rfl (Or.inr rfl) (zcp xf (Q0 (xu (zcr (xu (Bx.mk ze) (xu (Bx.mk ze) Z5))) (xu (zcr (xu (Bx.mk ze) (xu (Bx.mk ze) Z5))) (xu (Bx.mk (zP cSp hr (zd (pv 0) zf))) Z5)))) (Bx.mk (zP cN hr1 (zd (pv 0) (zd ze zf)))) (λ_ _=>rfl)))
  (zC (Bx.mk (zQ (i:=8) jz.nd rfl (Or.inl rfl) (x5 (zd (zP cA hr (zd (pv 7) (zd (zP cL hr1 (zd (zB zZ ze (zP cN hr1 (zd (pv 0) (zd ze zf)))) (zd (zB zZ ze (zP cN hr1 (zd (pv 0) (zd ze zf)))) zf))) zf))) zf))))
  (zC (Bx.mk (qJ PassesOwn.never rfl (jd rfl T.nRange (zd (zB xZ (pv 6) ze) zf)) (zK (i:=9) jz.nd rfl (Or.inl rfl)) (zh (qh (ZG yf uO uP Xb (pv 8) (zd ze (zd (zP cA hr (zd (zk xf (pv 8) ze (λ_ _=>rfl)) (zd (zP cL hr1 (zd (zB zZ ze (zP cN hr1 (zd (pv 0) (zd ze zf)))) (zd (zB zZ ze (zP cN hr1 (zd (pv 0) (zd ze zf)))) zf))) zf))) zf)))))))
  (zC (Bx.mk (xh (zI qL (pv 1) ze (zM _)) (zh (vd (i:=8) (NB:=["speed"]) (FR:=["own"]) (js:=[7]) rfl rfl zcu (.cons rfl rfl rfl ⟨_,rfl⟩ .nil) rfl (by decide +kernel) rfl (by decide +kernel) jz.nd rfl rfl (by rfl) (xN (zeS (pv 8) (QN Xm ze))) (by intro _ _ _;refine⟨?_,?_,?_⟩;(exact(zK (i:=0) (show List.Nodup (["speed","own"]:List Str) by decide +kernel) rfl (Or.inl rfl)));(exact xI);(exact(zP cO hr (zd (zP cA hr (zd (pv 1) (zd (pv 1) zf))) (zd (pv 0) zf))))))) zT))
  (zC (Bx.mk (xh (qC (zI qL (pv 5) ze (zM _)) (qm (zI qL (pv 1) ze (zM _)))).pt (zh (qh (ZG yf uO uP Xb (pv 8) (zd ze (zd (pv 7) zf))))) zT))
  (zC (Bx.mk (xh (qC (zI qL (pv 5) ze (zM _)) (qm (zI qL (pv 1) ze (zM _)))).pt (zh (qh (ZG yf yA yB qK (pv 8) (zd (pv 7) zf)))) zT))
  (zC (Bx.mk (vd (i:=10) (NB:=["speed"]) (FR:=["pool"]) (js:=[0]) rfl rfl (zcv (a:="own") (b:="pool") (by decide)) (.cons rfl rfl rfl ⟨_,rfl⟩ .nil) rfl (by decide +kernel) rfl (by decide +kernel) jz.nd rfl rfl (by rfl) (xN (pv 8)) (by intro _ _ _;refine⟨?_,?_,?_⟩;(exact(zK (i:=0) (show List.Nodup (["speed","pool"]:List Str) by decide +kernel) rfl (Or.inl rfl)));(exact xI);(exact(zB zZ ze (zP cN hr1 (zd (pv 1) (zd ze zf))))))))
  (zC (Bx.mk (xh (xz (pv 4) λ_=>rfl) (zh (zQ (i:=10) jz.nd rfl (Or.inl rfl) (zB zc5 (x5 (zd (zk xf (pv 10) ze (λ_ _=>rfl)) zf)) (zX xc (by rfl) T.nLen PySem.boot_len (zd (pv 10) zf))))) zT))
  (zC (Bx.mk (zQ (i:=11) jz.nd rfl (Or.inl rfl) (x5 zf)))
  (zC (Bx.mk (qJ PassesOwn.never rfl (zaO (by rfl) TW.nEnum (zd (pv 8) zf)) (qv rfl (zS (zK (i:=9) jz.nd rfl (Or.inl rfl)) (zS (zK (i:=12) jz.nd rfl (Or.inl rfl)) xD))) (zh (qh (ZG yf yA yB qK (pv 11) (zd (xj (zd (zP cO hr (zd (pv 2) (zd (zP cBy hr (zd (pv 12) (zd (pv 3) zf))) zf))) (zd (pv 12) (zd (zk xf (pv 10) (pv 9) (λ_ _=>rfl)) zf)))) zf))))))
  (Bx.mk (zh (zL (xj (zd (xP qk (by rfl) T.nTuple yl (zd (pv 11) zf)) (zd (xj (zd (zP cO hr (zd (pv 2) (zd (zP cBy hr (zd (pv 7) (zd (pv 3) zf))) zf))) (zd (pv 7) zf))) zf)))))))))))))))))),?_⟩
 refine xE (λσ' G=>∃rs:Int,(rs=0\/rs=1)/\(wh=0->rs=0)/\σ'=[some (.ref p),some (.int wh),some (.ref pp),some (.ref pm),some (.bl al),some (.int rs),none,none,none,none,none,none,none]/\xA p H G) ?_ ?_
 rotate_left
 ·intro nx hnx
  refine⟨_,rfl,_,_,rfl,rfl,_,rfl,qr (λh=>?_) (λh=>?_)⟩
  ·refine⟨_,rfl,p,_,rfl,by decide,by decide,hP,λd1 G1 a1 b1 t1=>⟨rfl,.inr ⟨_,rfl,?_⟩⟩⟩
   exact hnx _ _ ⟨_,by split <;> omega,λz=>absurd (wD h:0<wh) (by omega),rfl,t1⟩
  ·exact .inr ⟨_,rfl,hnx _ _ ⟨0,.inl rfl,λ_=>rfl,rfl,xA.refl hP⟩⟩
 rintro σ' G1 ⟨rs,hrs,hrs0,rfl,T1⟩
 refine xE (λσ' G=>∃mn:Int,1<=mn/\mn+rs<=7/\2<=mn+rs/\σ'=[some (.ref p),some (.int wh),some (.ref pp),some (.ref pm),some (.bl al),some (.int rs),some (.int mn),none,none,none,none,none,none]/\xA p H G) ?_ ?_
 rotate_left
 ·intro nx hnx
  refine⟨zL8,λl1 hl1=>?_⟩
  refine⟨_,rfl,p,_,rfl,by decide,by decide,T1.pool.new hl1,λd2 G2 a2 b2 t2=>?_⟩
  obtain⟨v,ev,v0,v1⟩:=zgT a2 b2
  refine⟨l1,_,_,_,rfl,rfl,.of (t2.keep l1 _ zg (T1.pool.ne hl1)),ev,?_⟩
  exact⟨_,rfl,_,_,rfl,rfl,hnx _ _ ⟨v - rs,by omega,by omega,by omega,rfl,T1.trans (t2.pre (zi.upd hl1))⟩⟩
 rintro σ' G2 ⟨mn,m1,m7,m2,rfl,T2⟩
 refine xE (λσ' G=>∃ro ow,σ'=[some (.ref p),some (.int wh),some (.ref pp),some (.ref pm),some (.bl al),some (.int rs),some (.int mn),some (.ref ro),none,none,none,none,none]/\xA p H G/\zD G ro ow/\Sz 5 ow ∧ -6<=ow/\ow<=6) ?_ ?_
 rotate_left
 ·intro nx hnx
  refine⟨zL2,λq1 h1=>?_⟩
  refine⟨zL2,λq2 h2=>?_⟩
  have T2':=T2.same ((zi.upd (o:=.tup [.int 0,.int 1]) h1).trans (zi.upd (o:=.tup [.int 0,.int 1]) h2))
  refine⟨_,rfl,p,rfl,T2'.pool,λr3 x3 G3 t3 hr3 z3 y3a y3b=>?_⟩
  have g1:zD G3 q1 0:=xq T2'.pool t3 _ _ (zi.upd h2 _ _ zg)
  have g2:zD G3 q2 0:=xq T2'.pool t3 _ _ zg
  have T3:=T2'.trans t3
  refine⟨zL3,λl3 hl3=>?_⟩
  refine⟨_,rfl,p,_,rfl,by decide,by decide,T3.pool.new hl3,λd4 G4 a4 b4 t4=>?_⟩
  have Tu4:zY G3 G4:=(zY.of (zi.upd hl3)).trans (xq (T3.pool.new hl3) t4)
  have T4:xA p H G4:=T3.trans (t4.pre (zi.upd hl3))
  obtain⟨ro,ow,ers,hro,zow,yowa,yowb⟩:∃rs sp,atI [V.ref q1,.ref q2,.ref r3] d4=some (.ref rs)/\zD G3 rs sp/\Sz 5 sp ∧ -6<=sp/\sp<=6:=by
   have zz:Sz 5 (0:Rat):=⟨show (0:Int).natAbs<2^5 by decide,show (1:Int).natAbs<2^5 by decide⟩
   have:d4=0\/d4=1\/d4=2:=by omega
   rcases this with rfl | rfl | rfl
   ·exact⟨q1,0,rfl,g1,zz,by decide,by decide⟩
   ·exact⟨q2,0,rfl,g2,zz,by decide,by decide⟩
   ·exact⟨r3,x3,rfl,hr3,z3,y3a,y3b⟩
  exact⟨l3,_,_,_,rfl,rfl,.of (t4.keep l3 _ zg (T3.pool.ne hl3)),ers,hnx _ _ ⟨ro,ow,rfl,T4,Tu4 _ _ hro,zow,yowa,yowb⟩⟩
 rintro σ' G3 ⟨ro,ow,rfl,T3,hro,zow,yowa,yowb⟩
 refine xE (λσ' G=>∃ls us qs,σ'=[some (.ref p),some (.int wh),some (.ref pp),some (.ref pm),some (.bl al),some (.int rs),some (.int mn),some (.ref ro),some (.ref ls),none,none,none,none]/\xA p H G/\zD G ro ow/\H ls=none/\ls≠p/\G ls=some (.lst us)/\us.length=1/\ERQ G 10 us qs/\FA ow qs) ?_ ?_
 rotate_left
 ·intro nx hnx
  refine⟨_,rfl,_,rfl,p,_,rfl,by decide,by decide,T3.pool,λd4 G4 a4 b4 t4=>⟨_,_,rfl,rfl,?_⟩⟩
  refine⟨_,rfl,p,_,rfl,by decide,by decide,t4.pool,λd5 G5 a5 b5 t5=>⟨_,_,rfl,rfl,?_⟩⟩
  have Tu5:zY G3 G5:=(xq T3.pool t4).trans (xq t4.pool t5)
  refine⟨_,_,rfl,by omega,Bd.mono (m:=5) (bdn (by omega) (by omega)) (by decide),λr6 G6 e6 hr6=>?_⟩
  have z6:Sz 3 (Rat.divInt (1+d4) (1+d5)):=zhR (by omega) (by omega) (by omega) (by omega)
  refine⟨ro,r6,_,_,rfl,e6 _ _ (Tu5 _ _ hro),hr6,⟨zow.mono (by decide),z6.mono (by decide)⟩,λr7 G7 e7 hr7=>⟨zL1,λls hls=>?_⟩⟩
  have T7:xA p H G7:=(((T3.trans t4).trans t5).same e6).same e7
  have p6:0<Rat.divInt (1+d4) (1+d5):=by
   rw[<-W0 (1+d5)];exact(Z8 (by omega)).mpr (by omega)
  refine hnx _ _ ⟨ls,_,_,rfl,T7.same (zi.upd hls),zi.upd hls _ _ (e7 _ _ (e6 _ _ (Tu5 _ _ hro))),T7.free hls,T7.pool.ne hls,zg,rfl,ERQ.nil.cons (zi.upd hls _ _ hr7) ((zow.add z6).mono (by decide)),by simp,λq m=>?_,λq m=>?_⟩
  ·have e:q=ow+Rat.divInt (1+d4) (1+d5):=by simpa using m
   grind
  ·have e:q=ow+Rat.divInt (1+d4) (1+d5):=by simpa using m
   have hb:=(JG (t:=1+d4) (b:=1+d5) (c:=4) (by omega) (by omega) (by omega)).2
   have e1:bq [ow+Rat.divInt (1+d4) (1+d5)].length=4:=rfl
   have e2:((4:Int):Rat)=4:=rfl
   rw[e1]
   grind
 rintro σ' G4 ⟨ls,us,qs,rfl,T4,hro4,hlsH,hlsp,hls,hul,hus,hFA⟩
 refine xE (λσ' G=>∃us qs z9,σ'=[some (.ref p),some (.int wh),some (.ref pp),some (.ref pm),some (.bl al),some (.int rs),some (.int mn),some (.ref ro),some (.ref ls),z9,none,none,none]/\xA p H G/\zD G ro ow/\G ls=some (.lst us)/\(us.length:Int)=mn/\ERQ G 40 us qs/\FA ow qs) ?_ ?_
 rotate_left
 ·intro nx hnx
  refine⟨_,rfl,_,_,rfl,rfl,mn - 1,rfl,by omega,by omega,?_⟩
  refine vL (n:=(mn - 1).toNat) (lo:=0) (λi σ G=>∃us qs z9,σ=[some (.ref p),some (.int wh),some (.ref pp),some (.ref pm),some (.bl al),some (.int rs),some (.int mn),some (.ref ro),some (.ref ls),z9,none,none,none]/\xA p H G/\zD G ro ow/\G ls=some (.lst us)/\us.length=i+1/\ERQ G (10+5*i) us qs/\FA ow qs)
   ⟨us,qs,_,rfl,T4,hro4,hls,hul,hus,hFA⟩ ?_ ?_
  ·rintro i σ G hi ⟨us,qs,z9,rfl,TG,hroG,hlsG,hulG,husG,hFA⟩
   have hi7:i<6:=by omega
   obtain⟨v0,us',rfl⟩:∃v0 us',us=v0::us':=by
    cases us with
    | nil=>simp at hulG
    | cons v0 us'=>exact⟨v0,us',rfl⟩
   obtain⟨r0,q0,rfl,eq0,hr0⟩:=husG.at' 0 v0 rfl
   have z0:=husG.sz q0 (wj eq0)
   obtain⟨qs',rfl⟩:∃qs',qs=q0::qs':=by
    cases qs with
    | nil=>simp at eq0
    | cons a r=>simp at eq0;exact⟨r,by rw[eq0]⟩
   have e0:atI (V.ref r0::us') 0=some (.ref r0):=xF (j:=0) rfl
   refine⟨_,rfl,.inl ⟨rfl,_,SqL.of hlsG⟩,_,rfl,ls,_,_,_,rfl,rfl,.of hlsG,e0,?_⟩
   refine⟨_,rfl,p,_,rfl,by decide,by decide,TG.pool,λd4 G5 a4 b4 t5=>⟨_,_,rfl,rfl,?_⟩⟩
   refine⟨_,rfl,p,_,rfl,by decide,by decide,t5.pool,λd5 G6 a5 b5 t6=>⟨_,_,rfl,rfl,?_⟩⟩
   have Tu6:zY G G6:=(xq TG.pool t5).trans (xq t5.pool t6)
   refine⟨_,_,rfl,by omega,Bd.mono (m:=5) (bdn (by omega) (by omega)) (by decide),λr6 G7 e7 hr6=>?_⟩
   have z6:Sz 3 (Rat.divInt (1+d4) (1+d5)):=zhR (by omega) (by omega) (by omega) (by omega)
   refine⟨r0,r6,_,_,rfl,e7 _ _ (Tu6 _ _ hr0),hr6,⟨z0.mono (by omega),z6.mono (by decide)⟩,λr7 G8 e8 hr7=>?_⟩
   have T8:xA p H G8:=(((TG.trans t5).trans t6).same e7).same e8
   have hls8:=e8 _ _ (e7 _ _ (t6.keep _ _ (t5.keep _ _ hlsG hlsp) hlsp))
   have Tu8:zY G G8:=(Tu6.trans (.of e7)).trans (.of e8)
   refine⟨ls,_,0,_,rfl,rfl,hls8,by decide,by omega,by simp at hulG ⊢;omega,?_⟩
   have TuL:zY G8 (upd G8 ls (.lst (.ref r7::.ref r0::us'))):=.upd hls8
   have p6:0<Rat.divInt (1+d4) (1+d5):=by
    rw[<-W0 (1+d5)];exact(Z8 (by omega)).mpr (by omega)
   exact⟨.ref r7::.ref r0::us',_,_,rfl,T8.put hlsH hlsp _,TuL _ _ (Tu8 _ _ hroG),zg,by simp at hulG ⊢;omega,(((husG.mono (by omega)).tups Tu8).tups TuL).cons (TuL _ _ hr7) ((z0.add z6).mono (by omega)),hFA.cons (by show q0<q0+Rat.divInt (1+d4) (1+d5);grind) (by
    have hb:=(JG (t:=1+d4) (b:=1+d5) (c:=4) (by omega) (by omega) (by omega)).2
    have e2:((4:Int):Rat)=4:=rfl
    show q0+Rat.divInt (1+d4) (1+d5)<=q0+4;grind)⟩
  ·rintro σ G ⟨us,qs,z9,rfl,TG,hroG,hlsG,hulG,husG,hFA⟩
   exact hnx _ _ ⟨us,qs,z9,rfl,TG,hroG,hlsG,by omega,husG.mono (by omega),hFA⟩
 rintro σ' G5 ⟨us5,qs5,z9,rfl,T5,hro5,hls5,hul5,hus5,hFA5⟩
 refine xE (λσ' G=>∃ls us qs,σ'=[some (.ref p),some (.int wh),some (.ref pp),some (.ref pm),some (.bl al),some (.int rs),some (.int mn),some (.ref ro),some (.ref ls),z9,none,none,none]/\xA p H G/\zD G ro ow/\H ls=none/\ls≠p/\G ls=some (.lst us)/\(us.length:Int)=mn/\ERQ G 60 us qs/\FB wh ow qs) ?_ ?_
 rotate_left
 ·intro nx hnx
  refine⟨_,rfl,rfl,_,rfl,qr (λh=>?_) (λh=>?_)⟩
  ·refine⟨_,rfl,_,rfl,ls,us5,rfl,rfl,.of hls5,λlv hlv=>?_⟩
   refine⟨lv,rfl,⟨_,.of zg⟩,λDc hDc=>?_⟩
   have hlvD:lv≠Dc:=λz=>by rw[<-z,zg]at hDc;cases hDc
   have T6:=T5.same (zi.upd (o:=.lst us5.reverse) hlv)
   have hlv6:upd G5 lv (.lst us5.reverse) lv=some (.lst us5.reverse):=zg
   have hro6:zD (upd G5 lv (.lst us5.reverse)) ro ow:=zi.upd hlv _ _ hro5
   have hus6:=hus5.tups (.of (zi.upd (o:=.lst us5.reverse) hlv))
   generalize upd G5 lv (.lst us5.reverse)=G6 at *
   have hw1:wh=1:=by simpa using h
   have hl5:=hus5.len
   have rget:∀(i:Nat) (v:V),us5.reverse[i]? = some v->∃r q,v = .ref r/\qs5.reverse[i]? = some q/\zD G6 r q:=λi v e=>by
    have hi:i<us5.length:=by have:=(wk.mp e).1;rw[uj]at this;exact this
    rw[List.getElem?_reverse hi]at e
    rw[List.getElem?_reverse (by omega),<-hl5]
    exact hus6.at' _ v e
   refine xK (js:=[7]) (J:=Itl K lv) (g:=zO 0) (te:=_) (n:=1) (xs:=us5.reverse) (λi v G=>∃r q,v = .ref r/\(qs5.reverse.map λq=>ow+ow - q)[i]? = some q/\zD G r q) (λi v G G' e ⟨r,q,a,b,c⟩=>⟨r,q,a,b,e _ _ c⟩) hDc (xQ hlv6) (xk (by rw[uj];omega)) ?_ ?_
   ·intro i x zs G7 Q' hx hz S7 hQ
    obtain⟨y1,rfl⟩:=jK hz
    obtain⟨r,q,rfl,eq,hrq⟩:=rget i x hx
    have zq:=hus5.sz q (Wi.mp (wj eq))
    refine⟨rfl,?_⟩
    refine⟨_,rfl,_,rfl,ro,ro,ow,ow,rfl,S7 _ _ hro6,S7 _ _ hro6,⟨zow.mono (by decide),zow.mono (by decide)⟩,λr8 G8 e8 hr8=>?_⟩
    refine⟨_,rfl,r8,r,_,_,rfl,hr8,e8 _ _ (S7 _ _ hrq),⟨(zow.add zow).mono (by decide),zq.mono (by decide)⟩,λr9 G9 e9 hr9=>hQ _ _ (e8.trans e9) ⟨r9,_,rfl,by rw[wg,eq];rfl,hr9⟩⟩
   ·intro ys G7 S7 hD7 hl7 hR7
    refine hnx _ _ ⟨Dc,ys,_,rfl,T6.same S7,S7 _ _ hro6,T6.free hDc,T6.pool.ne hDc,hD7,by rw[hl7,uj];exact hul5,⟨by rw[hl7];simp[hl5],hR7,λq m=>?_⟩,by rw[hw1];exact hFA5.mirror⟩
    obtain⟨x,mx,rfl⟩:=ww.mp m
    exact(Sz.sub (zow.add zow) (hus5.sz x (Wi.mp mx))).mono (by decide)
  ·have hw1:wh≠1:=λz=>h (by rw[z];decide)
   exact hnx _ _ ⟨ls,us5,qs5,rfl,T5,hro5,hlsH,hlsp,hls5,hul5,hus5.mono (by decide),hFA5.fb hw1⟩
 clear hls hus hul hlsH hlsp hls5 hFA
 clear qs us
 rintro σ' G6 ⟨ls,us,qs,rfl,T6,hro6,hlsH,hlsp,hls6,hul6,hus6,hFB6⟩
 refine xE (λσ' G=>∃us qs,σ'=[some (.ref p),some (.int wh),some (.ref pp),some (.ref pm),some (.bl al),some (.int rs),some (.int mn),some (.ref ro),some (.ref ls),z9,none,none,none]/\xA p H G/\zD G ro ow/\G ls=some (.lst us)/\1<=us.length/\us.length<=7/\(wh≠1->(us.length:Int)+rs<=7)/\ERQ G 60 us qs/\FC wh ow qs) ?_ ?_
 rotate_left
 ·intro nx hnx
  have no:nx [some (.ref p),some (.int wh),some (.ref pp),some (.ref pm),some (.bl al),some (.int rs),some (.int mn),some (.ref ro),some (.ref ls),z9,none,none,none] G6:=hnx _ _ ⟨us,qs,rfl,T6,hro6,hls6,by omega,by omega,λ_=>by omega,hus6,hFB6.fc (by have:=hus6.len;omega) (λz=>by have:=hus6.len;have:=hrs0 z;omega)⟩
  refine⟨_,rfl,rfl,_,rfl,qr (λh=>?_) (λh=>xo no)⟩
  refine⟨_,rfl,rfl,_,rfl,qr (λh2=>?_) (λh2=>no)⟩
  have TuL:zY G6 (upd G6 ls (.lst (.ref ro::us))):=.upd hls6
  have hw:wh=1:=by simpa using h2
  have hs:rs=1:=by simpa using h
  exact⟨_,rfl,.inl ⟨rfl,_,SqL.of hls6⟩,_,rfl,ls,_,0,_,rfl,rfl,hls6,by decide,by omega,by omega,hnx _ _ ⟨.ref ro::us,_,rfl,T6.put hlsH hlsp _,TuL _ _ hro6,zg,by simp,by simp only[wG];omega,λz=>absurd hw z,(hus6.tups TuL).cons (TuL _ _ hro6) (zow.mono (by decide)),by subst hw;exact hFB6.rest (by have:=hus6.len;omega)⟩⟩
 clear hls6 hus6 hul6 hro6 hFB6
 clear qs us
 rintro σ' G7 ⟨us,qs,rfl,T7,hro7,hls7,hu1,hu7,hur,hus7,hFC7⟩
 refine xE (λσ' G=>∃us qs,σ'=[some (.ref p),some (.int wh),some (.ref pp),some (.ref pm),some (.bl al),some (.int rs),some (.int mn),some (.ref ro),some (.ref ls),z9,none,none,none]/\xA p H G/\zD G ro ow/\G ls=some (.lst us)/\1<=us.length/\us.length<=7/\ERQ G 60 us qs/\FD wh ow qs) ?_ ?_
 rotate_left
 ·intro nx hnx
  have no:nx [some (.ref p),some (.int wh),some (.ref pp),some (.ref pm),some (.bl al),some (.int rs),some (.int mn),some (.ref ro),some (.ref ls),z9,none,none,none] G7:=hnx _ _ ⟨us,qs,rfl,T7,hro7,hls7,by omega,by omega,hus7,hFC7.fd⟩
  refine⟨_,rfl,rfl,_,rfl,qr (λh=>?_) (λh=>xo no)⟩
  refine⟨_,rfl,rfl,_,rfl,qr (λh2=>?_) (λh2=>no)⟩
  have TuL:zY G7 (upd G7 ls (.lst (us++[.ref ro]))):=.upd hls7
  have hw:wh=2:=by simpa using h2
  have hs:rs=1:=by simpa using h
  have:=hur (by omega)
  exact⟨_,rfl,.inl ⟨rfl,_,SqL.of hls7⟩,_,rfl,ls,_,_,rfl,rfl,hls7,xk (by omega),hnx _ _ ⟨us++[.ref ro],_,rfl,T7.put hlsH hlsp _,TuL _ _ hro7,zg,by simp,by simp only[wE,Wd];omega,(hus7.tups TuL).snoc (TuL _ _ hro7) (zow.mono (by decide)),by subst hw;exact hFC7.rest⟩⟩
 clear hls7 hus7 hu1 hu7 hur hro7 hFC7
 clear qs us
 rintro σ' G8 ⟨us,qs,rfl,T8,hro8,hls8,hu1,hu7,hus8,hFD8⟩
 refine xE (λσ' G=>∃(lw:Addr) (ws:List Int),σ'=[some (.ref p),some (.int wh),some (.ref pp),some (.ref pm),some (.bl al),some (.int rs),some (.int mn),some (.ref ro),some (.ref ls),z9,some (.ref lw),none,none]/\xA p G8 G/\H lw=none/\lw≠p/\lw≠ls/\G lw=some (.lst (ws.map V.int))/\ws.length=us.length/\∀x∈ws,1<=x/\x<=9) ?_ ?_
 rotate_left
 ·intro nx hnx
  refine⟨_,rfl,ls,rfl,⟨_,.of hls8⟩,λDc hDc=>?_⟩
  have hDp:Dc≠p:=T8.pool.ne hDc
  have hDl:Dc≠ls:=λz=>by rw[z,hls8]at hDc;cases hDc
  refine zbw (js:=[0]) (J:=Itl K ls) (g:=zO 0) (tt:=λ_ H Q=>Q true H) (te:=_) (N:=us.length) (n:=1) (λi G ys=>xA p G8 G/\∃ws:List Int,ys=ws.map V.int/\ws.length=i/\∀x∈ws,1<=x/\x<=9)
   ⟨⟨T8.pool.new hDc,λb o e _=>zi.upd hDc _ _ e⟩,[],rfl,rfl,λv hv=>by cases hv⟩ (λi G ys hi z=>⟨us,us[i],.of (z.1.keep _ _ hls8 hlsp),wf hi⟩) (λG ys z=>⟨us,.of (z.1.keep _ _ hls8 hlsp),wx _⟩) ?_ ?_
  ·rintro i x zs G_ G ys Nx hN hi hz1 ⟨rfl,_⟩ ⟨tG,ws,rfl,hwl,hwv⟩ hGD
   obtain⟨y1,rfl⟩:=jK hz1
   refine⟨rfl,xw ?_⟩
   refine⟨_,rfl,p,_,rfl,by decide,by decide,tG.pool,λd2 G3 a2 b2 t3=>⟨_,_,rfl,rfl,?_⟩⟩
   have h3:=t3.keep _ _ hGD hDp
   refine⟨h3,xk (by simp;omega),hN _ _ ⟨(tG.trans t3).put hDc hDp _,ws++[1+d2],by simp,by simp[hwl],λv hv=>?_⟩⟩
   rcases wN.mp hv with z | z
   ·exact hwv v z
   ·have:v=1+d2:=by simpa using z
    omega
  ·rintro G ys ⟨tG,ws,rfl,hwl,hwv⟩ hGD
   exact hnx _ _ ⟨Dc,ws,rfl,tG,T8.free hDc,hDp,hDl,hGD,hwl,hwv⟩
 rintro σ' G9 ⟨lw,ws,rfl,T9,hlwH,hlwp,hlwl,hlw9,hwl,hwv⟩
 have T9':=T8.trans T9
 refine xE (λσ' G=>∃(lw:Addr) (ws:List Int),σ'=[some (.ref p),some (.int wh),some (.ref pp),some (.ref pm),some (.bl al),some (.int rs),some (.int mn),some (.ref ro),some (.ref ls),z9,some (.ref lw),none,none]/\xA p G8 G/\H lw=none/\lw≠p/\lw≠ls/\G lw=some (.lst (ws.map V.int))/\ws.length=us.length/\(∀x∈ws,1<=x/\x<=9)/\(al=true->∃w0:Int,∀x∈ws,x=w0)) ?_ ?_
 rotate_left
 ·intro nx hnx
  refine⟨_,rfl,_,rfl,qr (λh=>?_) (λh=>hnx _ _ ⟨lw,ws,rfl,T9,hlwH,hlwp,hlwl,hlw9,hwl,hwv,λz=>absurd z h⟩)⟩
  obtain⟨w0,ew0⟩:∃w0,ws[0]? = some w0:=⟨_,wf (by omega)⟩
  have e0:atI (ws.map V.int) 0=some (.int w0):=xF (j:=0) (by rw[wg,ew0];rfl)
  refine⟨_,rfl,lw,_,_,_,rfl,rfl,.of hlw9,e0,zL1,λl2 hl2=>?_⟩
  have hlw9':=zi.upd (o:=.lst [.int w0]) hl2 _ _ hlw9
  refine⟨_,rfl,lw,_,rfl,.inl (.of hlw9'),l2,_,_,rfl,rfl,zg,by (first | (simp;omega) | simp),by (first | (simp;omega) | simp),szl (by (first | (simp;omega) | simp)),λl3 hl3=>?_⟩
  have T10:=T9.same ((zi.upd (o:=.lst [.int w0]) hl2).trans (zi.upd (o:=.lst ((List.replicate ((ws.map V.int).length:Int).toNat [V.int w0]).flatten)) hl3))
  have T9a:=T9'.same (zi.upd (o:=.lst [.int w0]) hl2)
  have hls9:=T9.keep _ _ hls8 hlsp
  refine hnx _ _ ⟨l3,List.replicate ws.length w0,rfl,T10,T9a.free hl3,T9a.pool.ne hl3,λz=>?_,?_,by simp[hwl],λx m=>by have:=uQ m;subst this;exact hwv _ (wj ew0),λ_=>⟨w0,λx m=>uQ m⟩⟩
  ·have:=zi.upd (o:=.lst [.int w0]) hl2 _ _ hls9
   rw[<-z,hl3]at this;cases this
  ·rw[zg,Vl];simp
 clear hlw9 hwl hwv hlwH hlwp hlwl T9' T9
 rintro σ' G10 ⟨lw,ws,rfl,T10,hlwH,hlwp,hlwl,hlw10,hwl,hwv,hal⟩
 have Tu10:=xq T8.pool T10
 have hls10:=T10.keep _ _ hls8 hlsp
 have hro10:zD G10 ro ow:=Tu10 _ _ hro8
 have hus10:=hus8.tups Tu10
 have T11:=T8.trans T10
 have TuH:zY H G10:=xq hP T11
 refine xE (λσ' G=>∃lr,σ'=[some (.ref p),some (.int wh),some (.ref pp),some (.ref pm),some (.bl al),some (.int rs),some (.int mn),some (.ref ro),some (.ref ls),z9,some (.ref lw),some (.ref lr),none]/\zi G10 G/\G10 lr=none/\G lr=some (.lst [])) ?_ ?_
 rotate_left
 ·intro nx hnx
  exact⟨by show 0<=sizeLine;exact yg _,λlr hlr=>hnx _ _ ⟨lr,rfl,zi.upd hlr,hlr,zg⟩⟩
 rintro σ' G12 ⟨lr,rfl,S12,hlr10,hlr12⟩
 have hlrp:lr≠p:=T11.pool.ne hlr10
 have hlrH:=T11.free hlr10
 have hlrl:ls≠lr:=λz=>by rw[<-z,hls10]at hlr10;cases hlr10
 have hlrw:lw≠lr:=λz=>by rw[<-z,hlw10]at hlr10;cases hlr10
 have T12:=T11.same S12
 refine xE (λσ' G=>∃z9 z12 vs bs,σ'=[some (.ref p),some (.int wh),some (.ref pp),some (.ref pm),some (.bl al),some (.int rs),some (.int mn),some (.ref ro),some (.ref ls),z9,some (.ref lw),some (.ref lr),z12]/\xA p H G/\zY G12 G/\G lr=some (.lst vs)/\zH G vs bs/\bs.length=us.length/\ZB bs/\bs.map (λb=>(b.pl,b.sp))=xY px mm qs/\bs.map zJ.wt=ws) ?_ ?_
 rotate_left
 ·intro nx hnx
  refine⟨_,rfl,ls,us,rfl,S12 _ _ hls10,XW (xs:=us) (λi σ G=>∃z9 z12 vs bs,σ=[some (.ref p),some (.int wh),some (.ref pp),some (.ref pm),some (.bl al),some (.int rs),some (.int mn),some (.ref ro),some (.ref ls),z9,some (.ref lw),some (.ref lr),z12]/\xA p H G/\zY G12 G/\G ls=some (.lst us)/\G lw=some (.lst (ws.map V.int))/\G lr=some (.lst vs)/\zH G vs bs/\bs.length=i/\ZB bs/\bs.map (λb=>(b.pl,b.sp))=xY px mm (qs.take i)/\bs.map zJ.wt=ws.take i)
   ⟨_,_,[],[],rfl,T12,λ_ _ e=>e,S12 _ _ hls10,S12 _ _ hlw10,hlr12,.nil,rfl,(λ_ m=>by cases m),rfl,by simp⟩ (λi σ G ⟨_,_,_,_,_,_,_,z,_⟩=>.of z) ?_ ?_⟩
  ·rintro i x σ G Tt hx ⟨z9,z12,vs,bs,rfl,TG,TuG,hlsG,hlwG,hlrG,hB,hbl,hZ,hLn,hW⟩ hTt
   have sT:zi G (upd G Tt (.tup [.int i,x])):=zi.upd hTt
   have hTT:upd G Tt (.tup [.int i,x]) Tt=some (.tup [.int i,x]):=zg
   generalize upd G Tt (.tup [.int i,x])=G1 at sT hTT
   have hi7:i<us.length:=(wk.mp hx).1
   obtain⟨r,q,rfl,eq,hrq⟩:=hus10.at' i x hx
   have zq:=hus10.sz q (wj eq)
   obtain⟨wt,ewt⟩:∃wt,ws[i]? = some wt:=⟨_,wf (by omega)⟩
   have hwt:=hwv wt (wj ewt)
   have eat:atI (ws.map V.int) (i:Int)=some (.int wt):=xF (by rw[wg,ewt];rfl)
   have hr1:zD G1 r q:=sT _ _ (TuG _ _ (S12 _ _ hrq))
   have hpm1:zD G1 pm mm:=sT _ _ (TuG _ _ (S12 _ _ (TuH _ _ hpm)))
   have hpp1:zD G1 pp px:=sT _ _ (TuG _ _ (S12 _ _ (TuH _ _ hpp)))
   refine⟨Tt,_,rfl,.of hTT,rfl,_,_,rfl,_,_,rfl,rfl,?_⟩
   refine⟨_,rfl,.inl ⟨rfl,_,SqL.of (sT _ _ hlrG)⟩,_,rfl,_,rfl,_,rfl,r,pm,q,mm,rfl,hr1,hpm1,⟨zq.mono (by decide),zpm.mono (by decide)⟩,λr2 G2 e2 h2=>?_⟩
   have zqm:=zq.mul zpm
   refine⟨pp,r2,px,_,rfl,e2 _ _ hpp1,h2,⟨zpp.mono (by decide),zqm.mono (by decide)⟩,λr3 G3 e3 h3=>?_⟩
   have S3:=sT.trans (e2.trans e3)
   have hlw3:=S3 _ _ hlwG
   refine⟨_,rfl,_,rfl,_,rfl,lw,_,_,_,rfl,rfl,.of hlw3,eat,zL3,λt ht=>?_⟩
   have hlr4:=zi.upd (o:=.tup [.ref r3,.ref r,.int wt]) ht _ _ (S3 _ _ hlrG)
   refine⟨lr,vs,_,rfl,rfl,hlr4,xk (by rw[hB.length];omega),?_⟩
   have Tu:zY G3 (upd (upd G3 t (.tup [.ref r3,.ref r,.int wt])) lr (.lst (vs++[.ref t]))):=(zY.of (zi.upd ht)).trans (.upd hlr4)
   have TuA:zY G (upd (upd G3 t (.tup [.ref r3,.ref r,.int wt])) lr (.lst (vs++[.ref t]))):=(zY.of S3).trans Tu
   refine⟨_,_,vs++[.ref t],bs++[⟨px - q*mm,q,wt⟩],rfl,((TG.same S3).same (zi.upd ht)).put hlrH hlrp _,TuG.trans TuA,?_,?_,zg,?_,by simp[hbl],?_,?_,?_⟩
   ·rw[zE hlrl];exact zi.upd ht _ _ (S3 _ _ hlsG)
   ·rw[zE hlrw];exact zi.upd ht _ _ hlw3
   ·exact zH.append (.one (b:=⟨px - q*mm,q,wt⟩) (zY.upd hlr4 _ _ zg) (Tu _ _ h3) (Tu _ _ ((e2.trans e3) _ _ hr1))) (hB.mono TuA)
   ·intro b mb
    rcases wN.mp mb with z | z
    ·exact hZ b z
    ·have:b = ⟨px - q*mm,q,wt⟩:=by simpa using z
     subst this
     exact⟨(Sz.sub zpp zqm).mono (by decide),zq.mono (by decide),hwt.1,Int.le_trans hwt.2 (by decide)⟩
   ·rw[w8,hLn,ym,eq];simp[xY]
   ·rw[w8,hW,ym,ewt];simp
  ·rintro σ G ⟨z9,z12,vs,bs,rfl,TG,TuG,hlsG,hlwG,hlrG,hB,hbl,hZ,hLn,hW⟩
   rw[wM (by rw[<-hus10.len];omega)]at hLn
   rw[wM (by omega)]at hW
   exact hnx _ _ ⟨z9,z12,vs,bs,rfl,TG,TuG,hlrG,hB,hbl,hZ,hLn,hW⟩
 rintro σ' G13 ⟨z9',z12,vs,bs,rfl,T13,Tu13,hlr13,hB,hbl,hZ,hLn,hW⟩
 have hro13:zD G13 ro ow:=Tu13 _ _ (S12 _ _ hro10)
 have hpm13:zD G13 pm mm:=Tu13 _ _ (S12 _ _ (TuH _ _ hpm))
 have hpp13:zD G13 pp px:=Tu13 _ _ (S12 _ _ (TuH _ _ hpp))
 refine⟨_,rfl,lr,vs,rfl,.inl ⟨.of hlr13,λr hr'=>?_⟩⟩
 have S14:zi G13 (upd G13 r (.tup vs)):=zi.upd hr'
 have hr14:upd G13 r (.tup vs) r=some (.tup vs):=zg
 generalize upd G13 r (.tup vs)=G14 at S14 hr14
 refine⟨_,rfl,_,rfl,_,rfl,ro,pm,ow,mm,rfl,S14 _ _ hro13,S14 _ _ hpm13,⟨zow.mono (by decide),zpm.mono (by decide)⟩,λr2 G15 e15 h2=>?_⟩
 have zom:=zow.mul zpm
 refine⟨pp,r2,px,_,rfl,e15 _ _ (S14 _ _ hpp13),h2,⟨zpp.mono (by decide),zom.mono (by decide)⟩,λr3 G16 e16 h3=>?_⟩
 have S16:=e15.trans e16
 refine⟨_,rfl,zL2,λwl hwl'=>⟨zL2,λt ht=>?_⟩⟩
 have S17:=S16.trans ((zi.upd (o:=.tup [.ref r3,.ref ro]) hwl').trans (zi.upd (o:=.tup [.ref r,.ref wl]) ht))
 have S17':zi G16 _:=(zi.upd (o:=.tup [.ref r3,.ref ro]) hwl').trans (zi.upd (o:=.tup [.ref r,.ref wl]) ht)
 exact k t r wl vs bs r3 ro _ ow _ (T13.same (S14.trans S17)) zg (S17 _ _ hr14) (hB.same (S14.trans S17)) hZ (by omega) (by omega) (zi.upd ht _ _ zg) (S17' _ _ h3) (S17 _ _ (S14 _ _ hro13)) ((Sz.sub zpp zom).mono (by decide)) (zow.mono (by decide)) ⟨qs,hLn,hFD8,rfl,yowa,yowb⟩ ⟨λz=>by obtain⟨w0,h⟩:=hal z;exact⟨w0,λb mb=>h _ (by rw[<-hW];exact ww.mpr ⟨b,mb,rfl⟩)⟩,λb mb=>(hwv b.wt (by rw[<-hW];exact ww.mpr ⟨b,mb,rfl⟩)).2⟩
end
theorem zgR {d:Int}(h0:0<=d) (h1:d<3):∃v:Int,atI [V.int 1,.int 2,.int 3] d=some (.int v)/\1<=v/\v<=3:=by
 have:d=0\/d=1\/d=2:=by omega
 rcases this with rfl | rfl | rfl
 all_goals exact⟨_,rfl,by decide,by decide⟩
theorem zbJ {bs:List zJ}{pl m:Rat}{qs:List Rat}(h:bs.map (λb=>(b.pl,b.sp))=xY pl m qs) (pw:qs.Pairwise (· > ·)) (hm:0<m) (z:ZB bs):zgg bs:=by
 refine⟨λb mb=>⟨(z b mb).2.2.1,(z b mb).2.2.2⟩,λb mb=>⟨(z b mb).1,(z b mb).2.1⟩,?_⟩
 have h1:(xY pl m qs).Pairwise (λa b=>a.1<b.1):=by
  unfold xY
  rw[yr]
  refine pw.imp λ{a b} lt=>?_
  have:=uC (show b<a from lt) hm
  show pl - a*m<pl - b*m
  grind
 rw[<-h,yr]at h1
 exact h1.imp λ{a b} lt=>.inl lt
theorem ZF {bs:List zJ}{pl m:Rat}{qs:List Rat}(h:bs.map (λb=>(b.pl,b.sp))=xY pl m qs){b:zJ}(mb:b∈bs):b.sp∈qs/\b.pl=pl - b.sp*m:=by
 have:(b.pl,b.sp)∈xY pl m qs:=by rw[<-h];exact ww.mpr ⟨b,mb,rfl⟩
 unfold xY at this
 obtain⟨q,mq,e⟩:=ww.mp this
 simp only[Prod.mk.injEq]at e
 obtain⟨e1,e2⟩:=e
 subst e2
 exact⟨mq,e1.symm⟩
theorem VX {a b m:Rat}(h:a<=b) (hm:0<m):a*m<=b*m:=We h (Rat.le_of_lt hm)
theorem zaE {a b m:Rat}(h:a*m=b*m) (hm:0<m):a=b:=by
 have:m≠0:=by grind
 grind
theorem zgp {bs:List zJ}:Box bs none none:=⟨λx y e=>by (cases e),λx y e=>by (cases e),λx y b e=>by (cases e),λx y cs b e=>by (cases e),λx y x' y' e=>by (cases e)⟩
theorem zgo {bs:List zJ}{pl m ow:Rat}{qs:List Rat}(h:bs.map (λb=>(b.pl,b.sp))=xY pl m qs) (hm:0<m) (hq:∀q∈qs,q<=ow) (z1:Sz 300 (pl - ow*m)) (z2:Sz 80 ow):Box bs (some (pl - ow*m,ow)) none:=by
 refine⟨λx y e=>by cases e;exact⟨z1.mono (by decide),z2⟩,(λx y e=>by cases e),λx y b e eb=>?_,(λx y cs b e=>by cases e),(λx y x' y' _ e=>by cases e)⟩
 cases e
 obtain⟨m1,e1⟩:=ZF h (wj eb)
 have le:=VX (hq _ m1) hm
 refine⟨by rw[e1];grind,λe2=>?_⟩
 have:ow*m=b.sp*m:=by rw[e1]at e2;grind
 rw[zaE this hm];grind
theorem zgn {bs:List zJ}{pl m ow:Rat}{qs:List Rat}(h:bs.map (λb=>(b.pl,b.sp))=xY pl m qs) (hm:0<m) (hq:∀q∈qs,ow<=q) (z1:Sz 300 (pl - ow*m)) (z2:Sz 80 ow):Box bs none (some (pl - ow*m,ow)):=by
 refine⟨(λx y e=>by cases e),λx y e=>by cases e;exact⟨z1.mono (by decide),z2⟩,(λx y b e=>by cases e),λx y cs b e eb=>?_,(λx y x' y' e=>by cases e)⟩
 cases e
 obtain⟨m1,e1⟩:=ZF h (show b∈bs by rw[eb];simp)
 have le:=VX (hq _ m1) hm
 refine⟨by rw[e1];grind,λe2=>?_⟩
 have:ow*m=b.sp*m:=by rw[e1]at e2;grind
 rw[zaE this hm];grind
def FoR (bs:List zJ) (l1 l2:Wl):Prop:=∃pl m z qs wh,bs.map (λb=>(b.pl,b.sp))=xY pl m qs/\0<m/\FD wh z qs/\((wh=0/\l1=none/\l2=none)\/(wh=1/\l1=some (pl - z*m,z)/\l2=none)\/(wh=2/\l1=none/\l2=some (pl - z*m,z)))
def StK (al:Bool) (p:Addr) (H:Hp) (Q:VK):Prop:=∀t r ws us bs v1 v2 l1 l2 H',xA p H H'->H' t=some (.tup [.ref r,.ref ws])->H' r=some (.tup us)->zH H' us bs->zgg bs->1<=bs.length->bs.length<=8->H' ws=some (.tup [v1,v2])->zV H' v1 l1->zV H' v2 l2->Box bs l1 l2->FoR bs l1 l2->((al=true->∃w0:Int,∀b∈bs,b.wt=w0)/\∀b∈bs,b.wt<=9)->Q (.ref t) H'
section
variable {P:Program}{w:World}{K:Fg}{mg:Str->Option Value}{base:Heap}
inductive Qx  (vs:List V) (H:Hp) (Q:VK) (_e3:XK):Prop
 | mk:∀(p:Addr) (al:Bool),(vs=[.ref p,.bl al])->(jE H p)->(StK al p H Q)->Qx vs H Q _e3
theorem QS:zF ["pool","alike","moment","where","row","wall","walls"] ["pool","alike"] (zr vg):=scq
theorem ok_fo (D:Df K mg "_law_focused" vg ["pool","alike"] []) (T:TxB K mg) (cN:Cal P w K mg base "_law_next" 1 ["pool","base"] [] jT) (cRa:Cal P w K mg base "_law_ratio" 3 ["pool","size"] [] zhF)
  (cL:Cal P w K mg base "_law_low" 1 ["top","bottom"] [] qW) (cBu:Cal P w K mg base "_law_bundle" 3 ["pool","where","place","moment","alike"] [] zhp):Cal P w K mg base "_law_focused" 4 ["pool","alike"] [] Qx:=by
 refine D.calB (k:=3) QS (λvs H Q E h=>by obtain⟨_,_,rfl,_⟩:=h;rfl) (λf cdv A outer s H vs Q E hr h=>?_)
 obtain⟨p,al,rfl,hP,k⟩:=h
 have hr1:xn 1 _:=hr.mono (by decide)
 refine⟨_,(zC (XN (i:=2) QS.nd rfl (Or.inl rfl) (Bx.mk (zP cL hr1 (zd (zB zZ ze (zP cN hr1 (zd (pv 0) (zd ze zf)))) (zd (zk xf (x5 (zd ze (zd ze (zd ze zf)))) (zP cN hr1 (zd (pv 0) (zd ze zf))) (λ_ _=>rfl)) zf)))))
  (zC (Bx.mk (zQ (i:=3) QS.nd rfl (Or.inl rfl) (zP cN hr1 (zd (pv 0) (zd ze zf)))))
  (zC (Bx.mk (qg (zP cBu hr (zd (pv 0) (zd (pv 3) (zd (zP cRa hr (zd (pv 0) (zd ze zf))) (zd (pv 2) (zd (pv 1) zf)))))) (qv rfl (zS (zK (i:=4) QS.nd rfl (Or.inl rfl)) (zS (zK (i:=5) QS.nd rfl (Or.inl rfl)) xD)))))
  (zC (XN (i:=6) QS.nd rfl (Or.inl rfl) (Q0 (xu (Bx.mk zW) (xu (Bx.mk zW) Z5))))
  (zC (Bx.mk (xh (zI Qe (pv 3) ze (zM _)) (zh (qg (pv 5) (jP (pv 6) (zB xZ (pv 3) ze) vp))) zT))
  (Bx.mk (zh (zL (xj (zd (pv 4) (zd (xP qk (by rfl) T.nTuple yl (zd (pv 6) zf)) zf))))))))))),?_⟩
 refine xE (λσ' G=>∃rm mm,σ'=[some (.ref p),some (.bl al),some (.ref rm),none,none,none,none]/\xA p H G/\zD G rm mm/\Sz 5 mm/\0<mm) ?_ ?_
 rotate_left
 ·intro nx hnx
  refine⟨_,rfl,p,_,rfl,by decide,by decide,hP,λd1 G1 a1 b1 t1=>⟨_,_,rfl,rfl,zL3,λl1 hl1=>?_⟩⟩
  refine⟨_,rfl,p,_,rfl,by decide,by decide,t1.pool.new hl1,λd2 G2 a2 b2 t2=>?_⟩
  obtain⟨v,ev,v0,v1⟩:=zgR a2 b2
  refine⟨l1,_,_,_,rfl,rfl,.of (t2.keep l1 _ zg (t1.pool.ne hl1)),ev,?_⟩
  exact⟨_,_,rfl,by omega,Bd.mono (m:=5) (bdn (by omega) (by omega)) (by decide),λr H' e h=>hnx _ _ ⟨r,_,rfl,(t1.trans (t2.pre (zi.upd hl1))).same e,h,zhR (by omega) (by omega) (by omega) (by omega),by rw[<-W0 v];exact(Z8 (by omega)).mpr (by omega)⟩⟩
 rintro σ' G1 ⟨rm,mm,rfl,T1,hrm,zmm,pmm⟩
 refine⟨_,rfl,p,_,rfl,by decide,by decide,T1.pool,λwh G2 w0 w3 t2=>?_⟩
 have T2:=T1.trans t2
 refine⟨_,rfl,_,rfl,_,rfl,p,_,rfl,by decide,by decide,T2.pool,λrp px G3 t3 hrp zrp=>?_⟩
 have T3:=T2.trans t3
 have hrm3:zD G3 rm mm:=xq T2.pool t3 _ _ (xq T1.pool t2 _ _ hrm)
 refine⟨_,rfl,_,rfl,p,rp,rm,wh,al,px,mm,rfl,w0,by omega,hrp,zrp,hrm3,zmm,T3.pool,λt r wl us bs ra rb y z G4 t4 ht hrr hB hZ h1 h8 hwl hra hrb zy zz hln hal=>?_⟩
 obtain⟨qs,hL,hFD,rfl,_,_⟩:=hln
 have hG:=zbJ hL hFD.1 pmm hZ
 have T4:=T3.trans t4
 refine⟨t,_,rfl,.of ht,rfl,_,_,rfl,_,_,rfl,rfl,?_⟩
 refine⟨zL2,λlw hlw=>?_⟩
 have hlwH:=T4.free hlw
 have hlwp:=T4.pool.ne hlw
 have Tu5:zY G4 (upd G4 lw (.lst [.non,.non])):=.of (zi.upd hlw)
 have hlw5:upd G4 lw (.lst [.non,.non]) lw=some (.lst [.non,.non]):=zg
 have T5:=T4.same (zi.upd (o:=.lst [.non,.non]) hlw)
 generalize upd G4 lw (.lst [.non,.non])=G5 at *
 dsimp only[zO]
 refine xE (λσ' G=>∃v1 v2 l1 l2,σ'=[some (.ref p),some (.bl al),some (.ref rm),some (.int wh),some (.ref r),some (.ref wl),some (.ref lw)]/\xA p H G/\zY G4 G/\G lw=some (.lst [v1,v2])/\zV G v1 l1/\zV G v2 l2/\Box bs l1 l2/\FoR bs l1 l2) ?_ ?_
 rotate_left
 ·intro nx hnx
  refine⟨_,rfl,_,_,rfl,rfl,_,rfl,qr (λh=>?_) (λh=>hnx _ _ ⟨.non,.non,none,none,rfl,T5,Tu5,hlw5,rfl,rfl,zgp,px,mm,z,qs,wh,hL,pmm,hFD,.inl ⟨by have:¬ 0<wh:=λz=>h (wq z);omega,rfl,rfl⟩⟩)⟩
  have hw:wh=1\/wh=2:=by have:0<wh:=wD h
                         omega
  have wa:∀G,zY G4 G->zV G (.ref wl) (some (px - z*mm,z)):=λG e=>⟨wl,ra,rb,rfl,e _ _ hwl,e _ _ hra,e _ _ hrb⟩
  have TuL:∀xs,zY G5 (upd G5 lw (.lst xs)):=λxs=>.upd hlw5
  rcases hw with rfl | rfl
  ·exact⟨_,rfl,_,rfl,_,rfl,_,_,rfl,rfl,lw,_,_,0,rfl,rfl,hlw5,rfl,hnx _ _ ⟨.ref wl,.non,some (px - z*mm,z),none,rfl,T5.put hlwH hlwp _,Tu5.trans (TuL _),zg,wa _ (Tu5.trans (TuL _)),rfl,zgo hL pmm (hFD.2.1 rfl) zy zz,px,mm,z,qs,1,hL,pmm,hFD,.inr (.inl ⟨rfl,rfl,rfl⟩)⟩⟩
  ·exact⟨_,rfl,_,rfl,_,rfl,_,_,rfl,rfl,lw,_,_,1,rfl,rfl,hlw5,rfl,hnx _ _ ⟨.non,.ref wl,none,some (px - z*mm,z),rfl,T5.put hlwH hlwp _,Tu5.trans (TuL _),zg,rfl,wa _ (Tu5.trans (TuL _)),zgn hL pmm (hFD.2.2.1 rfl) zy zz,px,mm,z,qs,2,hL,pmm,hFD,.inr (.inr ⟨rfl,rfl,rfl⟩)⟩⟩
 rintro σ' G6 ⟨v1,v2,l1,l2,rfl,T6,Tu6,hlw6,hv1,hv2,hBx,hFo⟩
 refine⟨_,rfl,_,rfl,lw,_,rfl,.inl ⟨.of hlw6,λws hws=>⟨zL2,λtt htt=>?_⟩⟩⟩
 have S:=(zi.upd (o:=.tup [v1,v2]) hws).trans (zi.upd (o:=.tup [.ref r,.ref ws]) htt)
 exact k tt r ws us bs v1 v2 l1 l2 _ (T6.same S) zg (S _ _ (Tu6 _ _ hrr)) ((hB.mono Tu6).same S) hG h1 h8 (zi.upd htt _ _ zg) (hv1.tups (.of S)) (hv2.tups (.of S)) hBx hFo hal
end
end KK
namespace KQ
open PySem L2 KM KK
theorem jY {X:Cx}{es:List Expr}{k:Nat}{pos:Pos}{t:TGs}{n:Nat}{K:Fg}(hK:X.K=K) (hc:X.calm=true) (h:PGs X es t)
  (hn:(assignEach es X.env).length=n:=by rfl) (hst:(assignEach es X.env).findIdx? (·.1)=none:=by rfl):PG X (.Tuple es k pos) (Vc K n t):=by subst hK;exact qv hc h hn hst
theorem qy {X:Cx}{K:Fg}(hK:X.K=K):IxR X (jQ K):=by subst hK;exact zj
theorem zcO {X:Cx}{K:Fg}(hK:X.K=K):IxR X (ziX K):=by subst hK;exact xf
section
variable {P:Program}{w:World}{K:Fg}{mg:Str->Option Value}{base:Heap}
theorem zbM (x y:Rat):Rat.divInt (x.num*y.den - y.num*x.den) (x.den*y.den)=x - y:=by
 exact KM.Qb x y
theorem zdu:zF ["one","other"] ["one","other"] (zr XD):=scq
theorem zc1 (D:Df K mg "minus" XD ["one","other"] []) (c:Cal P w K mg base "ratio" 2 ["top","bottom"] [] qW):Cal P w K mg base "minus" 3 ["one","other"] [] (qB Sz2 (· - ·)):=by
 refine D.cal (k:=2) zdu (λvs H Q E h=>by obtain⟨_,_,_,_,rfl,_⟩:=h;rfl) (λf cdv A outer s H vs Q E hr h=>?_)
 obtain⟨p,q,x,y,rfl,hp,hq,⟨hx,hy⟩,k⟩:=h
 have bx:=Bd4 hx
 have b_y:=Bd4 hy
 refine⟨_,zh (zL (zP c hr (zd (zB xZ (zB zU (zk zj (pv 0) ze (λ_ _=>rfl)) (zk zj (pv 1) ze (λ_ _=>rfl))) (zB zU (zk zj (pv 1) ze (λ_ _=>rfl)) (zk zj (pv 0) ze (λ_ _=>rfl))))
  (zd (zB zU (zk zj (pv 0) ze (λ_ _=>rfl)) (zk zj (pv 1) ze (λ_ _=>rfl))) zf)))),?_⟩
 refine⟨_,rfl,p,_,_,_,rfl,rfl,.of hp,at0 ..,_,rfl,q,_,_,_,rfl,rfl,.of hq,at1 ..,_,_,rfl,rfl,⟨bx.1,b_y.2⟩,_,rfl,q,_,_,_,rfl,rfl,.of hq,at0 ..,_,rfl,p,_,_,_,rfl,rfl,.of hp,at1 ..,_,_,rfl,rfl,⟨b_y.1,bx.2⟩,_,_,rfl,rfl,?_⟩
 refine⟨_,rfl,p,_,_,_,rfl,rfl,.of hp,at1 ..,_,rfl,q,_,_,_,rfl,rfl,.of hq,at1 ..,_,_,rfl,rfl,⟨bx.2,b_y.2⟩,?_⟩
 refine⟨_,_,rfl,yc (xV x) (xV y),(hx.2.mul hy.2).mono (by decide),λr H' e h=>k r H' e ?_⟩
 show zD H' r (x - y)
 rw[<-zbM];exact h
inductive za3  (vs:List V) (H:Hp) (Q:VK) (_e3:XK):Prop
 | mk:∀p q a b c d,(vs=[.ref p,.ref q])->(H p=some (.tup [.int a,.int b]))->(H q=some (.tup [.int c,.int d]))->(Bd 8900 a)->(Bd 8900 b)->(Bd 8900 c)->(Bd 8900 d)->(Q (.bl (decide (a*d<c*b))) H)->za3 vs H Q _e3
theorem zfe:zF ["one","other"] ["one","other"] (zr Xi):=scq
theorem Bd9 {i:Int}(h:Bd 8900 i):Bd 1000000 i:=h.mono (by decide)
theorem zeG (D:Df K mg "less" Xi ["one","other"] []):Cal P w K mg base "less" 1 ["one","other"] [] za3:=by
 refine D.cal (k:=0) zfe (λvs H Q E h=>by obtain⟨_,_,_,_,_,_,rfl,_⟩:=h;rfl) (λf cdv A outer s H vs Q E hr h=>?_)
 obtain⟨p,q,a,b,c,d,rfl,hp,hq,ha,hb,hc,hd,k⟩:=h
 refine⟨_,zh (zL (qG jb (zB zU (zk zj (pv 0) ze (λ_ _=>rfl)) (zk zj (pv 1) ze (λ_ _=>rfl))) (zB zU (zk zj (pv 1) ze (λ_ _=>rfl)) (zk zj (pv 0) ze (λ_ _=>rfl))) (zM _))),?_⟩
 refine⟨_,rfl,p,_,_,_,rfl,rfl,.of hp,at0 ..,_,rfl,q,_,_,_,rfl,rfl,.of hq,at1 ..,_,_,rfl,rfl,⟨Bd9 ha,Bd9 hd⟩,?_⟩
 refine⟨_,rfl,q,_,_,_,rfl,rfl,.of hq,at0 ..,_,rfl,p,_,_,_,rfl,rfl,.of hp,at1 ..,_,_,rfl,rfl,⟨Bd9 hc,Bd9 hb⟩,_,_,rfl,rfl,?_⟩
 exact k
theorem X9 (x y:Rat):decide (x.num*(y.den:Int)<y.num*(x.den:Int))=decide (x<y):=by
 by_cases h:x<y
 ·rw[wq h,wq ((KM.jL x y).mpr h)]
 ·rw[wI h,wI λz=>h ((KM.jL x y).mp z)]
def ja (ks:List Int):Int:=ks.foldl (λc n=>c/(Int.gcd c n:Int)*n) 1
theorem X8 {c n:Int}(hc:0<c) (hn:0<n):0<c/(Int.gcd c n:Int)*n:=by
 refine WO ?_ hn
 have hg:0<(Int.gcd c n:Int):=by have:=yE n (a:=c) (by omega);omega
 exact Int.ediv_pos_of_pos_of_dvd hc (by omega) (yF c n)
theorem zgP {c n:Int}(hc:0<c) (hn:0<n):c/(Int.gcd c n:Int)*n<=c*n:=by
 have hg:0<(Int.gcd c n:Int):=by have:=yE n (a:=c) (by omega);omega
 exact Int.mul_le_mul_of_nonneg_right (uJ _ (by omega)) (by omega)
theorem zcn {m n:Nat}{c k:Int}(hc:0<c) (hk:0<k) (h:Bd m c) (h':Bd n k):Bd (m+n) (c/(Int.gcd c k:Int)*k) :=
 (h.mul h').of_le (by have:=zgP hc hk;have:=X8 hc hk;omega)
def Pos (n:Nat) (ks:List Int):Prop:=∀k∈ks,0<k/\Bd n k
inductive zdD  (vs:List V) (H:Hp) (Q:VK) (_e3:XK):Prop
 | mk:∀p ks,(vs=[.ref p])->(H p=some (.lst (ks.map V.int)))->(Pos 400 ks)->(ks.length<=20)->(Q (.int (ja ks)) H)->zdD vs H Q _e3
theorem Vp:zF ["numbers","common","number"] ["numbers"] (zr qA):=scq
theorem zg2 (D:Df K mg "least_multiple" qA ["numbers"] []) (cG:Cal P w K mg base "greatest_divisor" 1 ["one","other"] [] QU):Cal P w K mg base "least_multiple" 2 ["numbers"] [] zdD:=by
 refine D.cal (k:=1) Vp (λvs H Q E h=>by obtain⟨_,_,rfl,_⟩:=h;rfl) (λf cdv A outer s H vs Q E hr h=>?_)
 obtain⟨p,ks,rfl,hp,hk,hl,k⟩:=h
 refine⟨_,(zA (zQ (i:=1) Vp.nd rfl (Or.inl rfl) ze)
  (zA (qJ PassesOwn.never rfl (xN (pv 0)) (zK (i:=2) Vp.nd rfl (Or.inl rfl)) (zh (zQ (i:=1) Vp.nd rfl (Or.inl rfl) (zB zU (zB qu (pv 1) (zP cG hr (zd (pv 1) (zd (pv 2) zf)))) (pv 2)))))
  (zh (zL (pv 1))))),?_⟩
 refine⟨_,rfl,p,rfl,⟨_,SqL.of hp⟩,jG (xs:=ks.map V.int) (λi σ H1=>H1=H/\∃z,σ=[some (.ref p),some (.int (ja (ks.take i))),z]/\0<ja (ks.take i)/\Bd (1+400*i) (ja (ks.take i))) ⟨rfl,none,rfl,(by show (0:Int)<1;decide),(show (1:Int).natAbs<2^1 by decide)⟩ ?_ ?_ ?_⟩
 ·rintro i σ H1 _ ⟨rfl,_⟩;exact .of hp
 ·rintro i x σ H1 hx ⟨rfl,z,rfl,h1,h2⟩
  have hi:i<ks.length:=by
   have:=(wk.mp hx).1
   simpa using this
  obtain⟨n,hn,rfl⟩:∃n,ks[i]? = some n/\V.int n=x:=by simpa using hx
  have hn':=hk n (wj hn)
  have et:ja (ks.take (i+1))=ja (ks.take i)/(Int.gcd (ja (ks.take i)) n:Int)*n:=by
   rw[ym,hn];simp[ja,Wa]
  have hg:0<(Int.gcd (ja (ks.take i)) n:Int):=by have:=yE n (a:=ja (ks.take i)) (by omega);omega
  have b1:Bd 8900 (ja (ks.take i)):=h2.mono (by omega)
  have hgb:Bd 8900 (Int.gcd (ja (ks.take i)) n:Int):=b1.of_le (by have:=Int.le_of_dvd h1 (yF (ja (ks.take i)) n);omega)
  have hq:Bd 8900 ((ja (ks.take i)).fdiv (Int.gcd (ja (ks.take i)) n:Int)):=by
   rw[yd _ (by omega)]
   exact b1.of_le (by have:=uJ (Int.gcd (ja (ks.take i)) n:Int) (a:=ja (ks.take i)) (by omega);have:=W3 (a:=ja (ks.take i)) (b:=(Int.gcd (ja (ks.take i)) n:Int)) (by omega) (by omega);omega)
  refine⟨_,rfl,_,rfl,_,rfl,⟨_,_,rfl,by omega,by omega,?_⟩⟩
  refine⟨_,_,rfl,rfl,⟨by omega,hgb⟩,_,rfl,_,_,rfl,rfl,⟨Bd9 hq,hn'.2.mono (by decide)⟩,?_⟩
  refine⟨rfl,some (.int n),?_,?_,?_⟩
  ·rw[et,<-yd _ (by omega)];rfl
  ·rw[et];exact X8 h1 hn'.1
  ·rw[et];exact(zcn h1 hn'.1 h2 hn'.2).mono (by omega)
 ·rintro σ H1 ⟨rfl,z,rfl,_⟩
  refine⟨_,rfl,?_⟩
  rw[we,Wh];exact k
end
def zfE (H:Hp) (us:List V) (qs:List Rat):Prop:=us.length=qs.length/\∀(i:Nat) (v:V),us[i]? = some v->∃a q,v=V.ref a/\qs[i]? = some q/\zD H a q
theorem zcE {α:Type}{f:α->V}{ys:List V}{qs:List α}(h:ys.length=qs.length) (k:∀(i:Nat) (v:V),ys[i]? = some v->∃q,qs[i]? = some q/\v=f q):ys=qs.map f:=by
 refine uE λi=>?_
 by_cases hi:i<ys.length
 ·obtain⟨q,e1,e2⟩:=k i ys[i] (by simp[hi])
  rw[wg,e1,wf hi,e2];rfl
 ·rw[wY (by omega),wY (by rw[we];omega)]
theorem zii {σ:St}(h:σ.length=2):∃a b,σ=[a,b]:=by
 match σ,h with
 | [a,b],_=>exact⟨a,b,rfl⟩
theorem jK {σ:St}(h:σ.length=1):∃a,σ=[a]:=by
 match σ,h with
 | [a],_=>exact⟨a,rfl⟩
theorem vk {n:Nat}(h:n<=20):n<sizeLine:=uU h (by decide)
section
variable {P:Program}{w:World}{K:Fg}{mg:Str->Option Value}{base:Heap}
def Vg (qs:List Rat):Int:=ja (qs.map λq=>(q.den:Int))
inductive zhr  (vs:List V) (H:Hp) (Q:VK) (_e3:XK):Prop
 | mk:∀p us qs,(vs=[.ref p])->(H p=some (.lst us))->(zfE H us qs)->((∀q∈qs,Bd 400 (q.den:Int)))->(qs.length<=20)->(∀H',zi H H'->Q (.int (Vg qs)) H')->zhr vs H Q _e3
theorem zi4:zF ["ratios"] ["ratios"] (zr qH):=scq
theorem zio (D:Df K mg "common_bottom" qH ["ratios"] []) (cL:Cal P w K mg base "least_multiple" 2 ["numbers"] [] zdD):Cal P w K mg base "common_bottom" 3 ["ratios"] [] zhr:=by
 refine D.cal (k:=2) zi4 (λvs H Q E h=>by obtain⟨_,_,_,rfl,_⟩:=h;rfl) (λf cdv A outer s H vs Q E hr h=>?_)
 obtain⟨p,us,qs,rfl,hp,hR,hb,hl,k⟩:=h
 refine⟨_,(zh (zL (zP cL hr (zd (jj (NB:=["top","bottom"]) rfl (by decide +kernel) (by decide +kernel) rfl (by decide +kernel) (xN (pv 0)) (by intro _ _ _;refine⟨?_,?_,?_⟩;(exact(jY (K:=K) (n:=2) rfl rfl (zS (zK (i:=0) (show List.Nodup (["top","bottom"]:List Str) by decide +kernel) rfl (Or.inl rfl)) (zS (zK (i:=1) (show List.Nodup (["top","bottom"]:List Str) by decide +kernel) rfl (Or.inl rfl)) xD))));(exact xI);(exact(pv 1)))) zf)))),?_⟩
 refine⟨_,rfl,p,rfl,⟨_,SqL.of hp⟩,λDa hD=>?_⟩
 refine Z6 (J:=Itl K p) (n:=2) (g:=Vc K 2 (v9 (zO 0) (v9 (zO 1) JJ))) (te:=xG 1) (xs:=us) (λi v _=>∃q:Rat,qs[i]? = some q/\v = .int (q.den:Int)) (λ_ _ _ _ _ z=>z) hD (xQ hp) (vk (by rw[hR.1];exact hl)) ?_ ?_
 ·intro i x zs H2 Q' hx hz s2 hk
  obtain⟨a,q,rfl,hq,ha⟩:=hR.2 i x hx
  obtain⟨z1,z2,rfl⟩:=zii hz
  exact⟨a,_,rfl,SqT.of (s2 _ _ ha),rfl,_,_,rfl,_,_,rfl,rfl,_,rfl,hk _ _ (zi.refl _) ⟨q,hq,rfl⟩⟩
 ·intro ys H' s' hy hyl hyR
  have e:=zcE (f:=λq:Rat=>V.int (q.den:Int)) (hyl.trans hR.1) hyR
  refine⟨Da,qs.map λq:Rat=>(q.den:Int),rfl,?_,λn hn=>?_,by simpa using hl,k H' s'⟩
  ·rw[hy,e,wV];rfl
  ·obtain⟨q,hq,rfl⟩:=ww.mp hn
   exact⟨by have:=q.den_pos;omega,hb q hq⟩
theorem zcl {a:V}{r:List V}:atI (a::r) 0=some a:=by
 unfold atI ixN;rw[if_pos (by decide),if_pos (by simp only[wG];omega)];rfl
theorem JC {a b:V}{r:List V}:atI (a::b::r) 1=some b:=by
 unfold atI ixN;rw[if_pos (by decide),if_pos (by simp only[wG];omega)];rfl
structure TCo (K:Fg) (C:Addr):Prop where
 cls:Cls K C
 pb:xU K C "place_bottom"
 sb:xU K C "speed_bottom"
 tick:xU K C "tick"
 weights:xU K C "weights"
 tracks:xU K C "tracks"
 low:xU K C "low"
 high:xU K C "high"
def vz (H:Hp) (a:Addr) (x y:Rat):Prop:=∃p q r,H a=some (.tup (.ref p::.ref q::r))/\zD H p x/\zD H q y
theorem vz.keeps {H H':Hp}{a:Addr}{x y:Rat}(h:vz H a x y) (t:zY H H'):vz H' a x y:=by
 obtain⟨p,q,r,h1,h2,h3⟩:=h
 exact⟨p,q,r,t _ _ h1,t _ _ h2,t _ _ h3⟩
def byB (x:Rat) (b:Int):Int:=x.num*b.fdiv (x.den:Int)
inductive zdG (C:Addr) (vs:List V) (H:Hp) (Q:VK) (_e3:XK):Prop
 | mk:∀(c dx:Addr) (fs:List (Str×V)) (pb sb:Int),(H c=some (.ins C dx fs))->(fs.lookup ("place_bottom":Str)=some (V.int pb))->(fs.lookup ("speed_bottom":Str)=some (V.int sb))->(((vs=[.ref c,.non]/\Q .non H)\/∃a x y,vs=[.ref c,.ref a]/\vz H a x y/\Sz 400 x/\Sz 400 y/\0<pb/\0<sb/\Bd 8900 pb/\Bd 8900 sb/\∀r H',zi H H'->H' r=some (.tup [.int (byB x pb),.int (byB y sb)])->Q (.ref r) H'))->zdG C vs H Q _e3
theorem zf5:zF ["course","thing","start"] ["course","thing"] (zr ju):=scq
theorem zak {b d:Int}(hb:0<b) (hd:0<d) (h:Bd 8900 b):Bd 8900 (b.fdiv d):=by
 rw[yd _ (by omega)]
 exact h.of_le (by have:=uJ d (a:=b) (by omega);have:=W3 (a:=b) (b:=d) (by omega) (by omega);omega)
theorem ziP {C:Addr}(D:Df K mg "track_of" ju ["course","thing"] []) (TC:TCo K C):Cal P w K mg base "track_of" 1 ["course","thing"] [] (zdG C):=by
 refine D.cal (k:=0) zf5 (λvs H Q E h=>by obtain⟨_,_,_,_,_,_,_,_,⟨rfl,_⟩ | ⟨_,_,_,rfl,_⟩⟩:=h <;> rfl) (λf cdv A outer s H vs Q E hr h=>?_)
 obtain⟨c,dx,fs,pb,sb,hc,e1,e2,h⟩:=h
 refine⟨_,(zA (xh (zI xW (pv 1) zW (zM _)) (zh (zL zW)) zT)
  (zA (zQ (i:=2) zf5.nd rfl (Or.inl rfl) (zB zU (zk zj (zk zj (pv 1) ze (λ_ _=>rfl)) ze (λ_ _=>rfl)) (zB qu (xp (pv 0) rfl) (zk zj (zk zj (pv 1) ze (λ_ _=>rfl)) ze (λ_ _=>rfl)))))
  (zh (zL (xj (zd (pv 2) (zd (zB zU (zk zj (zk zj (pv 1) ze (λ_ _=>rfl)) ze (λ_ _=>rfl)) (zB qu (xp (pv 0) rfl) (zk zj (zk zj (pv 1) ze (λ_ _=>rfl)) ze (λ_ _=>rfl)))) zf))))))),?_⟩
 rcases h with⟨rfl,k⟩ | ⟨a,x,y,rfl,⟨p,q,r,ha,hp,hq⟩,hx,hy,p1,p2,b1,b2,k⟩
 ·refine⟨_,rfl,rfl,_,rfl,xw k⟩
 ·refine⟨_,rfl,rfl,_,rfl,xo ?_⟩
  have d1:0<(x.den:Int):=by have:=x.den_pos;omega
  have d2:0<(y.den:Int):=by have:=y.den_pos;omega
  have z1:=zak p1 d1 b1
  have z2:=zak p2 d2 b2
  refine⟨_,rfl,a,_,_,_,rfl,rfl,.of ha,zcl,p,_,_,_,rfl,rfl,.of hp,at0 ..,_,rfl,c,C,dx,fs,_,rfl,hc,TC.cls,TC.pb,e1,_,rfl,a,_,_,_,rfl,rfl,.of ha,zcl,p,_,_,_,rfl,rfl,.of hp,at1 ..,_,_,rfl,rfl,⟨by omega,hx.2.mono (by decide)⟩,_,_,rfl,rfl,⟨hx.1.mono (by decide),Bd9 z1⟩,?_⟩
  refine⟨_,rfl,_,rfl,a,_,_,_,rfl,rfl,.of ha,JC,q,_,_,_,rfl,rfl,.of hq,at0 ..,_,rfl,c,C,dx,fs,_,rfl,hc,TC.cls,TC.sb,e2,_,rfl,a,_,_,_,rfl,rfl,.of ha,JC,q,_,_,_,rfl,rfl,.of hq,at1 ..,_,_,rfl,rfl,⟨by omega,hy.2.mono (by decide)⟩,_,_,rfl,rfl,⟨hy.1.mono (by decide),Bd9 z2⟩,?_⟩
  exact⟨zL2,λr hr=>k r _ (zi.upd hr) (by rw[zg];rfl)⟩
end
theorem zep {c n:Int}(hc:0<c) (hn:0<n):c ∣ c/(Int.gcd c n:Int)*n/\n ∣ c/(Int.gcd c n:Int)*n:=by
 refine⟨?_,Int.dvd_mul_left ..⟩
 obtain⟨m,hm⟩:=WJ c n
 have hg:0<(Int.gcd c n:Int):=by have:=yE n (a:=c) (by omega);omega
 refine⟨m,?_⟩
 have e1:c/(Int.gcd c n:Int)*(Int.gcd c n:Int)=c:=Wr (yF c n)
 calc c/(Int.gcd c n:Int)*n=c/(Int.gcd c n:Int)*((Int.gcd c n:Int)*m):=by rw[<-hm]
  _=c/(Int.gcd c n:Int)*(Int.gcd c n:Int)*m:=by rw[Int.mul_assoc]
  _=c*m:=by rw[e1]
theorem X0 {n:Nat}:∀{ks:List Int}{c:Int}{m:Nat},0<c->Bd m c->Pos n ks →
  0<ks.foldl (λc n=>c/(Int.gcd c n:Int)*n) c/\Bd (m+n*ks.length) (ks.foldl (λc n=>c/(Int.gcd c n:Int)*n) c)/\c ∣ ks.foldl (λc n=>c/(Int.gcd c n:Int)*n) c/\∀k∈ks,k ∣ ks.foldl (λc n=>c/(Int.gcd c n:Int)*n) c
 | [],c,m,hc,hm,_=>⟨hc,hm,Int.dvd_refl c,λk hk=>by cases hk⟩
 | k::r,c,m,hc,hm,hp=>by
  have hk:=hp k wJ
  have d:=zep hc hk.1
  obtain⟨a1,a2,a3,a4⟩:=X0 (ks:=r) (X8 hc hk.1) (zcn hc hk.1 hm hk.2) λx hx=>hp x (wP _ hx)
  refine⟨a1,a2.mono (by rw[wG,Nat.mul_add];omega),Int.dvd_trans d.1 a3,λx hx=>?_⟩
  rcases wy.mp hx with rfl | hx
  ·exact Int.dvd_trans d.2 a3
  ·exact a4 x hx
theorem zaB {qs:List Rat}(h:∀q∈qs,Bd 400 (q.den:Int)) (hl:qs.length<=20):0<Vg qs/\Bd 8900 (Vg qs)/\∀q∈qs,(q.den:Int) ∣ Vg qs:=by
 obtain⟨a1,a2,_,a4⟩:=X0 (n:=400) (ks:=qs.map λq=>(q.den:Int)) (c:=1) (m:=1) (by decide) (show (1:Int).natAbs<2^1 by decide) (λk hk=>by
  obtain⟨q,hq,rfl⟩:=ww.mp hk
  exact⟨by have:=q.den_pos;omega,h q hq⟩)
 exact⟨a1,a2.mono (by rw[we];omega),λq hq=>a4 _ (ww.mpr ⟨q,hq,rfl⟩)⟩
structure Bl where
 pl:Rat
 sp:Rat
 wt:Int
def zbj (H:Hp) (v:V) (b:Bl):Prop:=∃a p q,v=V.ref a/\H a=some (.tup [.ref p,.ref q,.int b.wt])/\zD H p b.pl/\zD H q b.sp
def ZZ (H:Hp) (us:List V) (bs:List Bl):Prop:=us.length=bs.length/\∀(i:Nat) (v:V),us[i]? = some v->∃b,bs[i]? = some b/\zbj H v b
def qI (H:Hp) (v:V):Option (Rat×Rat)->Prop
 | none=>v = .non
 | some w=>∃a,v=V.ref a/\vz H a w.1 w.2
theorem zbj.keeps {H H':Hp}{v:V}{b:Bl}(h:zbj H v b) (t:zY H H'):zbj H' v b:=by
 obtain⟨a,p,q,e,h1,h2,h3⟩:=h
 exact⟨a,p,q,e,t _ _ h1,t _ _ h2,t _ _ h3⟩
theorem ZZ.keeps {H H':Hp}{us:List V}{bs:List Bl}(h:ZZ H us bs) (t:zY H H'):ZZ H' us bs :=
 ⟨h.1,λi v e=>by obtain⟨b,e1,e2⟩:=h.2 i v e;exact⟨b,e1,e2.keeps t⟩⟩
theorem qI.keeps {H H':Hp}{v:V}{w:Option (Rat×Rat)} (h:qI H v w) (t:zY H H'):qI H' v w:=by
 cases w with
 | none=>exact h
 | some w=>obtain⟨a,e,h⟩:=h;exact⟨a,e,h.keeps t⟩
def TsI (H:Hp) (vs:List V) (ts:List (Rat×Rat)):Prop:=vs.length=ts.length/\∀(i:Nat) (v:V),vs[i]? = some v->∃t a,ts[i]? = some t/\v=V.ref a/\vz H a t.1 t.2
theorem TsI.keeps {H H':Hp}{vs:List V}{ts:List (Rat×Rat)} (h:TsI H vs ts) (t:zY H H'):TsI H' vs ts :=
 ⟨h.1,λi v e=>by obtain⟨x,a,e1,e2,e3⟩:=h.2 i v e;exact⟨x,a,e1,e2,e3.keeps t⟩⟩
theorem TsI.nil {H:Hp}:TsI H [] []:=⟨rfl,λi v e=>by simp at e⟩
theorem TsI.cons {H:Hp}{a:Addr}{t:Rat×Rat}{vs:List V}{ts:List (Rat×Rat)} (h:vz H a t.1 t.2) (r:TsI H vs ts):TsI H (.ref a::vs) (t::ts):=by
 refine⟨by simp[r.1],λi v e=>?_⟩
 cases i with
 | zero=>simp at e;subst e;exact⟨t,a,rfl,rfl,h⟩
 | succ i=>obtain⟨x,b,e1,e2⟩:=r.2 i v (by simpa using e);exact⟨x,b,by simpa using e1,e2⟩
theorem TsI.append {H:Hp}{vs vs':List V}{ts ts':List (Rat×Rat)} (h:TsI H vs ts) (h':TsI H vs' ts'):TsI H (vs++vs') (ts++ts'):=by
 refine⟨by simp[h.1,h'.1],λi v e=>?_⟩
 by_cases hi:i<vs.length
 ·rw[wu hi]at e
  rw[wu (by rw[<-h.1];exact hi)]
  exact h.2 i v e
 ·rw[wm (by omega)]at e
  rw[wm (by rw[<-h.1];omega),<-h.1]
  exact h'.2 _ v e
theorem ZZ.ts {H:Hp}{us:List V}{bs:List Bl}(h:ZZ H us bs):TsI H us (bs.map λb=>(b.pl,b.sp)):=by
 refine⟨by simp[h.1],λi v e=>?_⟩
 obtain⟨b,e1,a,p,q,rfl,h1,h2,h3⟩:=h.2 i v e
 exact⟨(b.pl,b.sp),a,by rw[wg,e1];rfl,rfl,p,q,_,h1,h2,h3⟩
def xx:Option (Rat×Rat)->List (Rat×Rat)
 | none=>[]
 | some w=>[w]
theorem zdW {H:Hp}{v1 v2:V}{lo hi:Option (Rat×Rat)} (h1:qI H v1 lo) (h2:qI H v2 hi):TsI H ([v1,v2].filter λv=>!decide (v = .non)) (xx lo++xx hi):=by
 have one:∀{v:V}{w:Option (Rat×Rat)},qI H v w->TsI H ([v].filter λv=>!decide (v = .non)) (xx w):=λ{v w} h=>by
  cases w with
  | none =>
   have e:v = .non:=h
   subst e;exact .nil
  | some w =>
   obtain⟨a,e,h⟩:=h
   subst e
   rw[uY (by simp)]
   exact .cons h .nil
 have e:([v1,v2].filter λv=>!decide (v = .non))=([v1].filter λv=>!decide (v = .non))++([v2].filter λv=>!decide (v = .non)):=by
  rw[<-yD];rfl
 rw[e];exact(one h1).append (one h2)
def xi (c:Addr) (H H':Hp):Prop:=∀b o,b≠c->H b=some o->H' b=some o
theorem xi.of {c:Addr}{H H':Hp}(h:zi H H'):xi c H H':=λb o _ e=>h b o e
theorem xi.trans {c:Addr}{H H1 H2:Hp}(a:xi c H H1) (b:xi c H1 H2):xi c H H2:=λx o n e=>b x o n (a x o n e)
theorem xi.upd {c:Addr}{H:Hp}{o:HO}:xi c H (upd H c o):=λb u n e=>by rw[zE n];exact e
theorem xi.tup {c C dx:Addr}{fs:List (Str×V)}{H H':Hp}(h:xi c H H') (e:H c=some (.ins C dx fs)):zY H H':=λb xs q=>h b _ (λz=>by subst z;rw[e]at q;cases q) q
structure TxQ (K:Fg) (mg:Str->Option Value):Prop extends TxB K mg where
 nList:mg "list" = none
 nZip:mg "zip" = none
def vR (H:Hp) (v:V):Option (Int×Int)->Prop
 | none=>v = .non
 | some t=>∃a,v=V.ref a/\H a=some (.tup [.int t.1,.int t.2])
def qa (H:Hp) (vs:List V) (ts:List (Int×Int)):Prop:=vs.length=ts.length/\∀(i:Nat) (v:V),vs[i]? = some v->∃t,ts[i]? = some t/\vR H v (some t)
theorem vR.keeps {H H':Hp}{v:V}{w:Option (Int×Int)} (h:vR H v w) (t:zY H H'):vR H' v w:=by
 cases w with
 | none=>exact h
 | some w=>obtain⟨a,e,h⟩:=h;exact⟨a,e,t _ _ h⟩
theorem qa.keeps {H H':Hp}{vs:List V}{ts:List (Int×Int)} (h:qa H vs ts) (t:zY H H'):qa H' vs ts :=
 ⟨h.1,λi v e=>by obtain⟨x,e1,e2⟩:=h.2 i v e;exact⟨x,e1,e2.keeps t⟩⟩
structure CoF (H:Hp) (fs:List (Str×V)) (pb sb:Int) (tk:Rat) (ws:List Int) (trs:List (Int×Int)) (lo hi:Option (Int×Int)):Prop where
 pb:fs.lookup ("place_bottom":Str)=some (V.int pb)
 sb:fs.lookup ("speed_bottom":Str)=some (V.int sb)
 tick:∃tp,fs.lookup ("tick":Str)=some (V.ref tp)/\zD H tp tk
 weights:∃wl,fs.lookup ("weights":Str)=some (V.ref wl)/\H wl=some (.lst (ws.map V.int))
 tracks:∃tl tv,fs.lookup ("tracks":Str)=some (V.ref tl)/\H tl=some (.lst tv)/\qa H tv trs
 low:∃v,fs.lookup ("low":Str)=some v/\vR H v lo
 high:∃v,fs.lookup ("high":Str)=some v/\vR H v hi
 len:fs.length<=20
def Qr (H:Hp) (C c:Addr) (pb sb:Int) (tk:Rat) (ws:List Int) (trs:List (Int×Int)) (lo hi:Option (Int×Int)):Prop:=∃dx fs,H c=some (.ins C dx fs)/\CoF H fs pb sb tk ws trs lo hi
def CoN (H0 H:Hp) (C c:Addr) (pb sb:Int) (tk:Rat) (ws:List Int) (trs:List (Int×Int)) (lo hi:Option (Int×Int)):Prop:=∃dx fs tl,H c=some (.ins C dx fs)/\CoF H fs pb sb tk ws trs lo hi/\fs.lookup ("tracks":Str)=some (V.ref tl)/\H0 tl=none
theorem CoN.co {H0 H:Hp}{C c:Addr}{pb sb:Int}{tk:Rat}{ws:List Int}{trs:List (Int×Int)}{lo hi:Option (Int×Int)} (h:CoN H0 H C c pb sb tk ws trs lo hi):Qr H C c pb sb tk ws trs lo hi:=by
 obtain⟨dx,fs,tl,h1,h2,_⟩:=h;exact⟨dx,fs,h1,h2⟩
def ths (bs:List Bl) (lo hi:Option (Rat×Rat)):List (Rat×Rat):=bs.map (λb=>(b.pl,b.sp))++(xx lo++xx hi)
def pbO (bs:List Bl) (lo hi:Option (Rat×Rat)):Int:=Vg ((ths bs lo hi).map (·.1))
def sbO (bs:List Bl) (lo hi:Option (Rat×Rat)):Int:=Vg ((ths bs lo hi).map (·.2))
def trB (pb sb:Int) (t:Rat×Rat):Int×Int:=(byB t.1 pb,byB t.2 sb)
section
variable {P:Program}{w:World}{K:Fg}{mg:Str->Option Value}{base:Heap}
inductive zfl (C:Addr) (vs:List V) (H:Hp) (Q:VK) (_e3:XK):Prop
 | mk:∀c dx r wa us bs v1 v2 lo hi,(vs=[V.ref c,.ref r,.ref wa])->(H c=some (.ins C dx []))->(H r=some (.tup us))->(ZZ H us bs)->(H wa=some (.tup [v1,v2]))->(qI H v1 lo)->(qI H v2 hi)->(bs.length<=8)->((∀t∈ths bs lo hi,Sz 400 t.1/\Sz 400 t.2))->(∀H',xi c H H'->CoN H H' C c (pbO bs lo hi) (sbO bs lo hi) (Rat.divInt (sbO bs lo hi) (pbO bs lo hi)) (bs.map Bl.wt) (bs.map λb=>trB (pbO bs lo hi) (sbO bs lo hi) (b.pl,b.sp)) (lo.map (trB (pbO bs lo hi) (sbO bs lo hi))) (hi.map (trB (pbO bs lo hi) (sbO bs lo hi)))->Q .non H')->zfl C vs H Q _e3
theorem zf1:zF ["self","row","walls","things"] ["self","row","walls"] (zr ql):=scq
theorem Zh {bs:List Bl}{lo hi:Option (Rat×Rat)} (h:bs.length<=8):(ths bs lo hi).length<=20:=by
 unfold ths
 have e:∀w:Option (Rat×Rat),(xx w).length<=1:=λw=>by cases w <;> simp[xx]
 have:=e lo
 have:=e hi
 simp only[wE,we];omega
theorem zan {σ:St}{H:Hp}{Q:VK}{L:Addr}{vs:List V}{ts:List (Rat×Rat)}{j:Nat}{i:Int}(f:Rat×Rat->Rat) (hσ:σ[j]? = some (some (.ref L))) (hL:H L=some (.lst vs)) (hT:TsI H vs ts) (hl:ts.length<=20)
  (hf:∀H2 a t,vz H2 a t.1 t.2->∃xs p,H2 a=some (.tup xs)/\atI xs i=some (.ref p)/\zD H2 p (f t))
  (k:∀D ys H',zi H H'->H' D=some (.lst ys)->zfE H' ys (ts.map f)->Q (.ref D) H') :
  za9 1 (zfM K (xG j)) (zO 0) (λ_ H Q=>Q true H) (tOp (jQ K) (xG 0) (tC (.int i))) σ H Q:=by
 refine⟨_,hσ,L,rfl,⟨_,SqL.of hL⟩,λD hD=>?_⟩
 refine Z6 (J:=Itl K L) (n:=1) (g:=zO 0) (te:=tOp (jQ K) (xG 0) (tC (.int i))) (xs:=vs) (λm v H=>∃t p,ts[m]? = some t/\v = .ref p/\zD H p (f t)) (λ_ _ _ _ t ⟨x,p,e1,e2,e3⟩=>⟨x,p,e1,e2,t _ _ e3⟩) hD (xQ hL) (vk (by rw[hT.1];exact hl)) ?_ ?_
 ·intro m x zs H2 Q' hx hz s2 hk
  obtain⟨t,a,e,rfl,ha⟩:=hT.2 m x hx
  obtain⟨z1,rfl⟩:=jK hz
  obtain⟨xs,p,h1,h2,h3⟩:=hf H2 a t (ha.keeps (.of s2))
  dsimp only[zO]
  try rw[if_pos rfl]
  exact⟨_,rfl,a,_,_,_,rfl,rfl,.of h1,h2,hk _ _ (zi.refl _) ⟨t,p,e,rfl,h3⟩⟩
 ·intro ys H' s' hy hyl hyR
  refine k D ys H' s' hy ⟨by simp[hyl,hT.1],λm v e=>?_⟩
  obtain⟨t,p,e1,e2,e3⟩:=hyR m v e
  exact⟨p,f t,e2,by rw[wg,e1];rfl,e3⟩
theorem th0:∀(H2:Hp) (a:Addr) (t:Rat×Rat),vz H2 a t.1 t.2->∃xs p,H2 a=some (.tup xs)/\atI xs 0=some (.ref p)/\zD H2 p t.1:=λH2 a t ⟨p,q,r,h1,h2,h3⟩=>⟨_,p,h1,zcl,h2⟩
theorem th1:∀(H2:Hp) (a:Addr) (t:Rat×Rat),vz H2 a t.1 t.2->∃xs p,H2 a=some (.tup xs)/\atI xs 1=some (.ref p)/\zD H2 p t.2:=λH2 a t ⟨p,q,r,h1,h2,h3⟩=>⟨_,q,h1,JC,h3⟩
theorem v4 {tv:TE}{rest:TS}{f:Str}{D:vt}{σ:St}{H:Hp}(h:tv σ H λy H1=>xG 0 σ H1 λx H2=>∃a C dx fs,x = .ref a/\H2 a=some (.ins C dx fs)/\Cls K C/\xU K C f/\fs.length<1000/\rest D σ (upd H2 a (.ins C dx (xX f y fs)))):Vv (zhe K (xG 0) tv f) rest D σ H:=h
theorem zaG {tv:TE}{f:Str}{D:vt}{σ:St}{H:Hp}(h:tv σ H λy H1=>xG 0 σ H1 λx H2=>∃a C dx fs,x = .ref a/\H2 a=some (.ins C dx fs)/\Cls K C/\xU K C f/\fs.length<1000/\D.nx σ (upd H2 a (.ins C dx (xX f y fs)))):zhe K (xG 0) tv f D σ H:=h
theorem zfH {te:TE}{sp:Sp}{σ:St}{H:Hp}{Q:VK}(h:te σ H λx H1=>sp [x] H1 Q E0):jg sp [] E0 (xJ te jV) σ H Q:=h
theorem VJ {ta tb:TE}{sp:Sp}{σ:St}{H:Hp}{Q:VK}(h:ta σ H λx H1=>tb σ H1 λy H2=>sp [x,y] H2 Q E0):jg sp [] E0 (xJ ta (xJ tb jV)) σ H Q:=h
theorem qE {c C dx:Addr}{fs:List (Str×V)}{f:Str}{y:V}{rest:TS}{D:vt}{σ:St}{H3:Hp}(hσ:σ[0]? = some (some (.ref c))) (hc:H3 c=some (.ins C dx fs)) (cl:Cls K C) (na:xU K C f) (hl:fs.length<1000)
  (k:∀G,xi c H3 G->G c=some (.ins C dx (xX f y fs))->rest D σ G):xG 0 σ H3 λx H2=>∃a C dx fs,x = .ref a/\H2 a=some (.ins C dx fs)/\Cls K C/\xU K C f/\fs.length<1000/\rest D σ (upd H2 a (.ins C dx (xX f y fs))) :=
 ⟨_,hσ,c,C,dx,fs,rfl,hc,cl,na,hl,k _ .upd zg⟩
theorem zbc {C c dx:Addr}{fs:List (Str×V)}{pb sb:Int}{G:Hp}{v:V}{w:Option (Rat×Rat)}{Q:VK}{E:XK}(hc:G c=some (.ins C dx fs)) (e1:fs.lookup ("place_bottom":Str)=some (V.int pb)) (e2:fs.lookup ("speed_bottom":Str)=some (V.int sb)) (hw:qI G v w)
  (hz:∀t,w=some t->Sz 400 t.1/\Sz 400 t.2) (p1:0<pb/\Bd 8900 pb) (p2:0<sb/\Bd 8900 sb) (k:∀v' H',zi G H'->vR H' v' (w.map (trB pb sb))->Q v' H'):zdG C [.ref c,v] G Q E:=by
 refine⟨c,dx,fs,pb,sb,hc,e1,e2,?_⟩
 cases w with
 | none =>
  have e:v = .non:=hw
  subst e
  exact .inl ⟨rfl,k _ _ (zi.refl _) rfl⟩
 | some t =>
  obtain⟨a,rfl,ha⟩:=hw
  have z:=hz t rfl
  exact .inr ⟨a,t.1,t.2,rfl,ha,z.1,z.2,p1.1,p2.1,p1.2,p2.2,λr H' s h=>k _ _ s ⟨r,rfl,h⟩⟩
theorem ziq {C f:Addr}{fd:FuncData}(F:Fun K "__init__" "Course.__init__" ql f fd) (T:TxQ K mg) (TC:TCo K C) (cB:Cal P w K mg base "common_bottom" 3 ["ratios"] [] zhr) (cR:Cal P w K mg base "ratio" 2 ["top","bottom"] [] qW)
  (cT:Cal P w K mg base "track_of" 1 ["course","thing"] [] (zdG C)):vP P w K mg base CX0 4 f fd ["self","row","walls"] (zfl C):=by
 refine F.ok (k:=3) zf1 (λvs H Q E h=>by obtain⟨_,_,_,_,_,_,_,_,_,_,rfl,_⟩:=h;rfl) (λcdv A outer s H vs Q E hr h=>?_)
 obtain⟨c,dx,r,wa,us,bs,v1,v2,lo,hi,rfl,hc,hrr,hB,hw,h1,h2,hl,hz,k⟩:=h
 have hr2:xn 2 _:=hr.mono (by decide)
 have hr1:xn 1 _:=hr.mono (by decide)
 refine⟨_,(zA (zQ (i:=3) zf1.nd rfl (Or.inl rfl) (zB Qd (xP qO (by rfl) T.nList yV (zd (pv 1) zf)) (jj (NB:=["wall"]) rfl (by decide +kernel) (by decide +kernel) rfl (by decide +kernel) (Zs (pv 2)) (by intro _ _ _;refine⟨?_,?_,?_⟩;(exact(zK (i:=0) (show List.Nodup (["wall"]:List Str) by decide +kernel) rfl (Or.inl rfl)));(exact(Vj (zI qz (pv 0) zW (zM _))));(exact(pv 0))))))
  (zA (v6 (pv 0) (zP cB hr (zd (jj (NB:=["thing"]) rfl (by decide +kernel) (by decide +kernel) rfl (by decide +kernel) (xN (pv 3)) (by intro _ _ _;refine⟨?_,?_,?_⟩;(exact(zK (i:=0) (show List.Nodup (["thing"]:List Str) by decide +kernel) rfl (Or.inl rfl)));(exact xI);(exact(zk (qy (K:=K) rfl) (pv 0) ze (λ_ _=>rfl))))) zf)) rfl)
  (zA (v6 (pv 0) (zP cB hr (zd (jj (NB:=["thing"]) rfl (by decide +kernel) (by decide +kernel) rfl (by decide +kernel) (xN (pv 3)) (by intro _ _ _;refine⟨?_,?_,?_⟩;(exact(zK (i:=0) (show List.Nodup (["thing"]:List Str) by decide +kernel) rfl (Or.inl rfl)));(exact xI);(exact(zk (qy (K:=K) rfl) (pv 0) ze (λ_ _=>rfl))))) zf)) rfl)
  (zA (v6 (pv 0) (zP cR hr2 (zd (xp (pv 0) rfl) (zd (xp (pv 0) rfl) zf))) rfl)
  (zA (v6 (pv 0) (jj (NB:=["ball"]) rfl (by decide +kernel) (by decide +kernel) rfl (by decide +kernel) (Zs (pv 1)) (by intro _ _ _;refine⟨?_,?_,?_⟩;(exact(zK (i:=0) (show List.Nodup (["ball"]:List Str) by decide +kernel) rfl (Or.inl rfl)));(exact xI);(exact(zk (qy (K:=K) rfl) (pv 0) ze (λ_ _=>rfl))))) rfl)
  (zA (v6 (pv 0) (jO (NB:=["ball"]) (FR:=["self"]) (js:=[0]) rfl rfl (λ_ _ h=>h) (.cons rfl rfl rfl ⟨_,rfl⟩ .nil) rfl (by decide +kernel) rfl (by decide +kernel) (Zs (pv 1)) (by intro _ _ _;refine⟨?_,?_,?_⟩;(exact(zK (i:=0) (show List.Nodup (["ball","self"]:List Str) by decide +kernel) rfl (Or.inl rfl)));(exact xI);(exact(zP cT hr1 (zd (pv 1) (zd (pv 0) zf)))))) rfl)
  (zA (v6 (pv 0) (zP cT hr1 (zd (pv 0) (zd (zk zj (pv 2) ze (λ_ _=>rfl)) zf))) rfl)
  (zh (v6 (pv 0) (zP cT hr1 (zd (pv 0) (zd (zk zj (pv 2) ze (λ_ _=>rfl)) zf))) rfl))))))))),?_⟩
 refine⟨_,rfl,r,us,rfl,.inr (.of hrr),λl hll=>?_⟩
 refine⟨_,rfl,wa,rfl,⟨_,SqT.of (zi.upd hll _ _ hw)⟩,λDa hD=>?_⟩
 refine zcx (J:=Itt K wa) (n:=1) (g:=zO 0) (te:=xG 0) (xs:=[v1,v2]) (λv=>!decide (v = .non)) hD (jR (zi.upd hll _ _ hw)) (vk (by show 2<=20;decide)) ?_ ?_
 ·intro m x zs H2 A2 B2 hx hz2 s2 ka kb
  obtain⟨z1,rfl⟩:=jK hz2
  dsimp only[zO]
  refine⟨_,rfl,rfl,_,rfl,?_⟩
  cases e:decide (x=V.non)with
  | true=>exact kb (by simp[e])
  | false=>exact⟨_,rfl,ka (by simp[e])⟩
 intro H1 s1 hy
 have hl1:H1 l=some (.lst us):=s1 _ _ zg
 refine⟨l,Da,us,_,rfl,rfl,hl1,hy,?_,λL hL=>?_⟩
 ·have z1:=uz (λv=>!decide (v=V.non)) [v1,v2]
  have z2:=hB.1
  have z3:20<sizeLine:=vk (wx _)
  simp only[wG,yJ]at z1
  omega
 have S1:zi H H1:=(zi.upd hll).trans s1
 have S2:zi H (upd H1 L (.lst (us++[v1,v2].filter λv=>!decide (v = .non)))):=S1.trans (zi.upd hL)
 have hT:TsI H (us++[v1,v2].filter λv=>!decide (v = .non)) (ths bs lo hi):=hB.ts.append (zdW h1 h2)
 have hLL:upd H1 L (.lst (us++[v1,v2].filter λv=>!decide (v = .non))) L=some (.lst (us++[v1,v2].filter λv=>!decide (v = .non))):=zg
 generalize upd H1 L (.lst (us++[v1,v2].filter λv=>!decide (v = .non)))=G0 at S2 hLL
 generalize (us++[v1,v2].filter λv=>!decide (v = .non))=tv at hT hLL
 have hw0:=S2 _ _ hw
 have hr0:=S2 _ _ hrr
 have hc0:=S2 _ _ hc
 have cL:L≠c:=λz=>by subst z;rw[hLL]at hc0;cases hc0
 dsimp only[zO]
 refine v4 (K:=K) ?_
 refine zfH ?_
 refine zan (λt=>t.1) (by rfl) hLL (hT.keeps (.of S2)) (Zh hl) th0 λD1 y1 H2 s2 hy1 hR1=>?_
 refine⟨D1,y1,_,rfl,hy1,hR1,λq hq=>?_,by rw[we];exact Zh hl,λH3 s3=>?_⟩
 ·obtain⟨t,ht,rfl⟩:=ww.mp hq
  exact(hz t ht).1.2
 have p1:=zaB (qs:=(ths bs lo hi).map (·.1)) (λq hq=>by obtain⟨t,ht,rfl⟩:=ww.mp hq;exact(hz t ht).1.2) (by rw[we];exact Zh hl)
 have p2:=zaB (qs:=(ths bs lo hi).map (·.2)) (λq hq=>by obtain⟨t,ht,rfl⟩:=ww.mp hq;exact(hz t ht).2.2) (by rw[we];exact Zh hl)
 refine qE (by rfl) (s3 _ _ (s2 _ _ hc0)) TC.cls TC.pb (by decide) λG1 X1 c1=>?_
 replace X1:xi c G0 G1:=(xi.of (s2.trans s3)).trans X1
 have t1:zY H G1:=(zY.of S2).trans (X1.tup hc0)
 refine v4 (K:=K) ?_
 refine zfH ?_
 refine zan (λt=>t.2) (by rfl) (X1 _ _ cL hLL) (hT.keeps t1) (Zh hl) th1 λD2 y2 H4 s4 hy2 hR2=>?_
 refine⟨D2,y2,_,rfl,hy2,hR2,λq hq=>?_,by rw[we];exact Zh hl,λH5 s5=>?_⟩
 ·obtain⟨t,ht,rfl⟩:=ww.mp hq
  exact(hz t ht).2.2
 refine qE (by rfl) (s5 _ _ (s4 _ _ c1)) TC.cls TC.sb (by show 1<1000;decide) λG2 X2 c2=>?_
 replace X2:xi c G0 G2:=X1.trans ((xi.of (s4.trans s5)).trans X2)
 refine v4 (K:=K) ?_
 refine⟨_,rfl,c,C,dx,_,_,rfl,c2,TC.cls,TC.sb,rfl,_,rfl,c,C,dx,_,_,rfl,c2,TC.cls,TC.pb,rfl,_,_,rfl,by have:=p1.1;omega,p1.2.1,λtp H6 s6 htp=>?_⟩
 refine qE (by rfl) (s6 _ _ c2) TC.cls TC.tick (by show 2<1000;decide) λG3 X3' c3=>?_
 have X3:xi c G0 G3:=X2.trans ((xi.of s6).trans X3')
 have htp3:zD G3 tp _:=X3' _ _ (λz=>by subst z;have:=s6 _ _ c2;rw[htp]at this;cases this) htp
 have t3:zY H G3:=(zY.of S2).trans (X3.tup hc0)
 refine v4 (K:=K) ?_
 have l20:us.length<sizeLine:=vk (by rw[hB.1];omega)
 refine⟨_,rfl,r,rfl,⟨_,SqT.of (t3 _ _ hrr)⟩,λD4 hD4=>?_⟩
 refine Z6 (J:=Itt K r) (n:=1) (g:=zO 0) (te:=tOp (jQ K) (xG 0) (tC (.int 2))) (xs:=us) (λm v _=>∃b:Bl,bs[m]? = some b/\v = .int b.wt) (λ_ _ _ _ _ z=>z) hD4 (jR (t3 _ _ hrr)) l20 ?_ ?_
 ·intro m x zs H7 Q' hx hz7 s7 hk
  obtain⟨b,e,a,p,q,rfl,ha,_⟩:=(hB.keeps (t3.trans (.of s7))).2 m x hx
  obtain⟨z1,rfl⟩:=jK hz7
  dsimp only[zO]
  exact⟨_,rfl,a,_,_,_,rfl,rfl,.of ha,rfl,hk _ _ (zi.refl _) ⟨b,e,rfl⟩⟩
 intro y4 H7 s7 hy4 hyl4 hyR4
 have e4:y4=(bs.map Bl.wt).map V.int:=by
  rw[wV]
  exact zcE (hyl4.trans hB.1) hyR4
 refine qE (by rfl) (s7 _ _ c3) TC.cls TC.weights (by show 3<1000;decide) λG4 X4' c4=>?_
 have X4:xi c G0 G4:=X3.trans ((xi.of s7).trans X4')
 have nc:∀{G:Hp}{fs:List (Str×V)}{b:Addr}{o:HO},G c=some (.ins C dx fs)->G b=some o->(∀fs,o≠.ins C dx fs)->b≠c:=λh1 h2 h3 z=>by subst z;rw[h1]at h2;cases h2;exact h3 _ rfl
 have wl4:G4 D4=some (.lst ((bs.map Bl.wt).map V.int)):=by
  rw[<-e4];exact X4' _ _ (nc (s7 _ _ c3) hy4 (λ_ z=>by cases z)) hy4
 have htp4:zD G4 tp _:=X4' _ _ (nc (s7 _ _ c3) (s7 _ _ htp3) (λ_ z=>by cases z)) (s7 _ _ htp3)
 have t4:zY H G4:=(zY.of S2).trans (X4.tup hc0)
 refine v4 (K:=K) ?_
 refine⟨_,rfl,r,rfl,⟨_,SqT.of (t4 _ _ hrr)⟩,λD5 hD5=>?_⟩
 refine xK (J:=Itt K r) (n:=1) (js:=[0]) (g:=zO 0) (te:=jg (zdG C) [] E0 (xJ (xG 1) (xJ (xG 0) jV))) (xs:=us) (λm v H=>∃t,(bs.map λb=>trB (pbO bs lo hi) (sbO bs lo hi) (b.pl,b.sp))[m]? = some t/\vR H v (some t)) (λ_ _ _ _ t ⟨x,e1,e2⟩=>⟨x,e1,e2.keeps t⟩) hD5 (jR (t4 _ _ hrr)) l20 ?_ ?_
 ·intro m x zs H8 Q' hx hz8 s8 hk
  obtain⟨b,e,a,p,q,rfl,ha,hp,hq⟩:=(hB.keeps (t4.trans (.of s8))).2 m x hx
  obtain⟨z1,rfl⟩:=jK hz8
  dsimp only[zO]
  have zb:=hz (b.pl,b.sp) (wT _ (ww.mpr ⟨b,wj e,rfl⟩))
  refine⟨rfl,_,rfl,_,rfl,c,dx,_,_,_,s8 _ _ c4,rfl,rfl,.inr ⟨a,b.pl,b.sp,rfl,⟨p,q,_,ha,hp,hq⟩,zb.1,zb.2,p1.1,p2.1,p1.2.1,p2.2.1,λr' H9 s9 h9=>hk _ _ s9 ⟨_,by rw[wg,e];rfl,r',rfl,h9⟩⟩⟩
 intro y5 H8 s8 hy5 hyl5 hyR5
 refine qE (by rfl) (s8 _ _ c4) TC.cls TC.tracks (by show 4<1000;decide) λG5 X5' c5=>?_
 have X5:xi c G0 G5:=X4.trans ((xi.of s8).trans X5')
 have tl5:G5 D5=some (.lst y5):=X5' _ _ (nc (s8 _ _ c4) hy5 (λ_ z=>by cases z)) hy5
 have tr5:qa G5 y5 (bs.map λb=>trB (pbO bs lo hi) (sbO bs lo hi) (b.pl,b.sp)):=⟨by rw[hyl5,we,hB.1],λm v e=>by
  obtain⟨t,e1,e2⟩:=hyR5 m v e
  exact⟨t,e1,e2.keeps (X5'.tup (s8 _ _ c4))⟩⟩
 have wl5:=X5' _ _ (nc (s8 _ _ c4) (s8 _ _ wl4) (λ_ z=>by cases z)) (s8 _ _ wl4)
 have htp5:zD G5 tp _:=X5' _ _ (nc (s8 _ _ c4) (s8 _ _ htp4) (λ_ z=>by cases z)) (s8 _ _ htp4)
 have t5:zY H G5:=(zY.of S2).trans (X5.tup hc0)
 have zlo:∀t,lo=some t->Sz 400 t.1/\Sz 400 t.2:=λt e=>hz t (by unfold ths;rw[e];simp[xx])
 have zhi:∀t,hi=some t->Sz 400 t.1/\Sz 400 t.2:=λt e=>hz t (by unfold ths;rw[e];simp[xx])
 refine v4 (K:=K) ?_
 refine VJ ⟨_,rfl,_,rfl,wa,_,_,_,rfl,rfl,.of (t5 _ _ hw),at0 ..,?_⟩
 refine zbc c5 rfl rfl (h1.keeps t5) zlo ⟨p1.1,p1.2.1⟩ ⟨p2.1,p2.2.1⟩ λlv H9 s9 hlv=>?_
 refine qE (by rfl) (s9 _ _ c5) TC.cls TC.low (by show 5<1000;decide) λG6 X6' c6=>?_
 have X6:xi c G0 G6:=X5.trans ((xi.of s9).trans X6')
 have t6:zY H G6:=(zY.of S2).trans (X6.tup hc0)
 have X56:xi c G5 G6:=(xi.of s9).trans X6'
 refine zaG (K:=K) ?_
 refine VJ ⟨_,rfl,_,rfl,wa,_,_,_,rfl,rfl,.of (t6 _ _ hw),at1 ..,?_⟩
 refine zbc c6 rfl rfl (h2.keeps t6) zhi ⟨p1.1,p1.2.1⟩ ⟨p2.1,p2.2.1⟩ λhv H10 s10 hhv=>?_
 refine qE (rest:=vt.nx) (by rfl) (s10 _ _ c6) TC.cls TC.high (by show 6<1000;decide) λG7 X7' c7=>?_
 have X67:xi c G6 G7:=(xi.of s10).trans X7'
 have X57:xi c G5 G7:=X56.trans X67
 have X7:xi c G0 G7:=X6.trans X67
 have hD5H:H D5=none:=by
  cases e:H D5 with
  | none=>rfl
  | some o =>
   by_cases z:D5=c
   ·rw[z,c4]at hD5;cases hD5
   ·rw[X4 _ _ z (S2 _ _ e)]at hD5;cases hD5
 refine k G7 ((xi.of S2).trans X7) ⟨dx,_,D5,c7,⟨rfl,rfl,⟨tp,rfl,X57 _ _ (nc c5 htp5 (λ_ z=>by cases z)) htp5⟩,⟨D4,rfl,X57 _ _ (nc c5 wl5 (λ_ z=>by cases z)) wl5⟩,
  ⟨D5,y5,rfl,X57 _ _ (nc c5 tl5 (λ_ z=>by cases z)) tl5,tr5.keeps (X57.tup c5)⟩,⟨lv,rfl,(hlv.keeps (X6'.tup (s9 _ _ c5))).keeps (X67.tup c6)⟩,⟨hv,rfl,hhv.keeps (X7'.tup (s10 _ _ c6))⟩,by show 7<=20;decide⟩,rfl,hD5H⟩
end
theorem zci {m n:Nat}{x y:Rat}(h:Sz m x) (k:Sz n y):Sz (m+n+1) (x - y):=by
 rw[<-KM.Qb]
 refine .divInt (yc (KM.xV x) (KM.xV y)) ?_ ((h.2.mul k.2).mono (by omega))
 rw[Int.sub_eq_add_neg]
 have h2:Bd (n+m) (-(y.num*(x.den:Int))):=by
  have:=k.1.mul h.2
  unfold Bd at *
  rw[Int.natAbs_neg];exact this
 exact Bd.mono (Bd.add (h.1.mul k.2) h2) (by omega)
section
variable {P:Program}{w:World}{K:Fg}{mg:Str->Option Value}{base:Heap}
inductive zb4 (C:Addr) (vs:List V) (H:Hp) (Q:VK) (_e3:XK):Prop
 | mk:∀c t dx fs tp tk a b,(vs=[V.ref c,.ref t])->(H c=some (.ins C dx fs))->(fs.lookup ("tick":Str)=some (V.ref tp))->(zD H tp tk)->(H t=some (.tup [.int a,.int b]))->(b≠0)->(Bd 4400 a)->(Bd 4400 b)->(Sz 4400 tk)->(∀r H',zi H H'->zD H' r (Rat.divInt (a*tk.num) (b*(tk.den:Int)))->Q (.ref r) H')->zb4 C vs H Q _e3
theorem zi9:zF ["course","ticks"] ["course","ticks"] (zr v3):=scq
theorem ziz {C:Addr}(D:Df K mg "moment_of" v3 ["course","ticks"] []) (TC:TCo K C) (cR:Cal P w K mg base "ratio" 2 ["top","bottom"] [] qW):Cal P w K mg base "moment_of" 3 ["course","ticks"] [] (zb4 C):=by
 refine D.cal (k:=2) zi9 (λvs H Q E h=>by obtain⟨_,_,_,_,_,_,_,_,rfl,_⟩:=h;rfl) (λf cdv A outer s H vs Q E hr h=>?_)
 obtain⟨c,t,dx,fs,tp,tk,a,b,rfl,hc,e,htp,ht,hb,ba,bb,hz,k⟩:=h
 refine⟨_,(zh (zL (zP cR hr (zd (zB zU (zk zj (pv 1) ze (λ_ _=>rfl)) (zk zj (xp (pv 0) rfl) ze (λ_ _=>rfl))) (zd (zB zU (zk zj (pv 1) ze (λ_ _=>rfl)) (zk zj (xp (pv 0) rfl) ze (λ_ _=>rfl))) zf))))),?_⟩
 refine VJ (Q:=Q) ?_
 refine⟨_,rfl,t,_,_,_,rfl,rfl,.of ht,at0 ..,_,rfl,c,C,dx,fs,_,rfl,hc,TC.cls,TC.tick,e,tp,_,_,_,rfl,rfl,.of htp,at0 ..,_,_,rfl,rfl,⟨ba.mono (by decide),hz.1.mono (by decide)⟩,?_⟩
 refine⟨_,rfl,t,_,_,_,rfl,rfl,.of ht,at1 ..,_,rfl,c,C,dx,fs,_,rfl,hc,TC.cls,TC.tick,e,tp,_,_,_,rfl,rfl,.of htp,at1 ..,_,_,rfl,rfl,⟨bb.mono (by decide),hz.2.mono (by decide)⟩,?_⟩
 exact⟨_,_,rfl,yc hb (KM.xV tk),(bb.mul hz.2).mono (by decide),k⟩
def xL:Option (Rat×Rat)->Option (Rat×Rat)->Option Rat
 | some l,some h=>if h.2<l.2 then some ((h.1 - l.1)/(l.2 - h.2))else none
 | _,_=>none
def vM (H:Hp) (v:V):Option Rat->Prop
 | none=>v = .non
 | some q=>∃a,v=V.ref a/\zD H a q
inductive zhJ  (vs:List V) (H:Hp) (Q:VK) (_e3:XK):Prop
 | mk:∀wa v1 v2 lo hi,(vs=[V.ref wa])->(H wa=some (.tup [v1,v2]))->(qI H v1 lo)->(qI H v2 hi)->((∀t,lo=some t->Sz 400 t.1/\Sz 400 t.2))->((∀t,hi=some t->Sz 400 t.1/\Sz 400 t.2))->(∀v H',zi H H'->vM H' v (xL lo hi)->Q v H')->zhJ vs H Q _e3
theorem zdw:zF ["walls","low","high"] ["walls"] (zr vj):=scq
theorem ziK (D:Df K mg "shut_moment" vj ["walls"] []) (cLs:Cal P w K mg base "less" 1 ["one","other"] [] za3) (cM:Cal P w K mg base "minus" 3 ["one","other"] [] (qB Sz2 (· - ·)))
  (cO:Cal P w K mg base "over" 3 ["one","other"] [] (qB (λx y=>Sz2 x y/\y≠0) (· / ·))):Cal P w K mg base "shut_moment" 4 ["walls"] [] zhJ:=by
 refine D.cal (k:=3) zdw (λvs H Q E h=>by obtain⟨_,_,_,_,_,rfl,_⟩:=h;rfl) (λf cdv A outer s H vs Q E hr h=>?_)
 obtain⟨wa,v1,v2,lo,hi,rfl,hw,h1,h2,z1,z2,k⟩:=h
 have hr1:xn 1 _:=hr.mono (by decide)
 refine⟨_,(zA (qg (pv 0) (qv rfl (zS (zK (i:=1) zdw.nd rfl (Or.inl rfl)) (zS (zK (i:=2) zdw.nd rfl (Or.inl rfl)) xD))))
  (zA (xh ((vN (zI xW (pv 1) zW (zM _)) (vN (zI xW (pv 2) zW (zM _)) (vO (qQ (xz (zP cLs hr1 (zd (zk zj (pv 2) ze (λ_ _=>rfl)) (zd (zk zj (pv 1) ze (λ_ _=>rfl)) zf))) λ_=>rfl)))))).pt (zh (zL zW)) zT)
  (zh (zL (zP cO hr (zd (zP cM hr (zd (zk zj (pv 2) ze (λ_ _=>rfl)) (zd (zk zj (pv 1) ze (λ_ _=>rfl)) zf))) (zd (zP cM hr (zd (zk zj (pv 1) ze (λ_ _=>rfl)) (zd (zk zj (pv 2) ze (λ_ _=>rfl)) zf))) zf))))))),?_⟩
 refine⟨_,rfl,wa,_,rfl,.of hw,rfl,_,_,rfl,_,_,rfl,rfl,?_⟩
 refine⟨_,rfl,rfl,_,rfl,?_⟩
 cases lo with
 | none =>
  have e:v1 = .non:=h1
  subst e
  exact xw (k _ _ (zi.refl _) rfl)
 | some l =>
  obtain⟨a1,rfl,p1,q1,r1,ha1,hp1,hq1⟩:=h1
  refine xo ?_
  refine⟨_,rfl,rfl,_,rfl,?_⟩
  cases hi with
  | none =>
   have e:v2 = .non:=h2
   subst e
   exact xw (k _ _ (zi.refl _) rfl)
  | some h =>
   obtain⟨a2,rfl,p2,q2,r2,ha2,hp2,hq2⟩:=h2
   have y1:=z1 l rfl
   have y2:=z2 h rfl
   refine xo ?_
   refine⟨_,rfl,a2,_,_,_,rfl,rfl,.of ha2,JC,_,rfl,a1,_,_,_,rfl,rfl,.of ha1,JC,q2,q1,_,_,_,_,rfl,hq2,hq1,y2.2.1.mono (by decide),y2.2.2.mono (by decide),y1.2.1.mono (by decide),y1.2.2.mono (by decide),?_⟩
   refine⟨_,rfl,?_⟩
   have el:=X9 h.2 l.2
   by_cases hlt:h.2<l.2
   ·rw[wq hlt]at el
    rw[el]
    refine xo ?_
    have sM:xL (some l) (some h)=some ((h.1 - l.1)/(l.2 - h.2)):=if_pos hlt
    rw[sM]at k
    refine⟨_,rfl,a2,_,_,_,rfl,rfl,.of ha2,zcl,_,rfl,a1,_,_,_,rfl,rfl,.of ha1,zcl,p2,p1,_,_,rfl,hp2,hp1,⟨y2.1.mono (by decide),y1.1.mono (by decide)⟩,λm1 H1 s1 hm1=>?_⟩
    refine⟨_,rfl,a1,_,_,_,rfl,rfl,.of (s1 _ _ ha1),JC,_,rfl,a2,_,_,_,rfl,rfl,.of (s1 _ _ ha2),JC,q1,q2,_,_,rfl,hq1.same s1,hq2.same s1,⟨y1.2.mono (by decide),y2.2.mono (by decide)⟩,λm2 H2 s2 hm2=>?_⟩
    refine⟨m1,m2,_,_,rfl,hm1.same s2,hm2,⟨⟨(zci y2.1 y1.1).mono (by decide),(zci y1.2 y2.2).mono (by decide)⟩,?_⟩,λr H3 s3 h3=>k _ _ (s1.trans (s2.trans s3)) ⟨r,rfl,h3⟩⟩
    intro z
    have z':l.2 - h.2=0:=z
    grind
   ·rw[wI hlt]at el
    rw[el]
    have sM:xL (some l) (some h)=none:=if_neg hlt
    rw[sM]at k
    exact xw (k _ _ (zi.refl _) rfl)
end
end KQ
namespace L2
open PySem PySem.Spec PyProof.Rows
section
variable {J:It}{D:Addr}{n:Nat}{js:List Nat}{σ:St}{g:TG}{tt:TT}{te:TE}{Z:Hp->Prop}{H:Hp}{xs:List V}
theorem QG (p:V->Bool) (hD:H D=none) (hJ:zbm J H xs) (hl:xs.length<sizeLine)
  (hs:∀(i:Nat) (x:V) (zs:St) (H2:Hp) (A:VK) (B:Hp->Prop),xs[i]? = some x->zs.length=n->zi H H2->(p x=true->A x H2)->(p x=false->B H2)->g x (zs++qU σ js) H2 λσ4 H4=>σ4.drop n=qU σ js/\tt σ4 H4 λb H5=>if b=true then te σ4 H5 A else B H5)
  (k:∀H',zi H H'->H' D=some (.lst (xs.filter p))->Z H') :
  ∃W:Nat->Nat->Hp->List V->Prop,(∃m,W 0 m (upd H D (.lst [])) [])/\∀i m H2 ys,W i m H2 ys->H2 D=some (.lst ys)->(J.stop i H2/\Z H2) ∨
   (J.go i H2/\∀zs x H3,zs.length=n->J.yld i H2 x H3->g x (zs++qU σ js) H3 λσ4 H4=>σ4.drop n=qU σ js/\tt σ4 H4 λb H5=>if b=true then te σ4 H5 (λv H6=>H6 D=some (.lst ys)/\ys.length<sizeLine/\∃m',m'<m/\W (i+1) m' (upd H6 D (.lst (ys++[v]))) (ys++[v]))
    else H5 D=some (.lst ys)/\∃m',m'<m/\W (i+1) m' H5 ys):=by
 refine Zy (Q:=λ_ H=>Z H) (tt:=tt) (N:=xs.length) (λi H2 ys=>zi H H2/\ys=(xs.take i).filter p) ⟨zi.upd hD,rfl⟩ (λi H2 ys hi p=>hJ.go i H2 hi p.1) (λH2 ys p=>hJ.stop H2 p.1) ?_ (λH2 ys q e=>k H2 q.1 (by rw[e,q.2,Wh]))
 rintro i x zs H2 H3 ys Nx hN hi hz hy ⟨s2,rfl⟩ hD2
 obtain⟨rfl,hx⟩:=hJ.yld i x H2 H3 s2 hy
 have et:xs.take (i+1)=xs.take i++[x]:=by rw[ym,hx];rfl
 refine hs i x zs H3 _ _ hx hz s2 (λhp=>⟨hD2,?_,hN _ _ ⟨λc o e=>?_,?_⟩⟩) (λhp=>⟨hD2,hN _ _ ⟨s2,?_⟩⟩)
 ·have:=uz p (xs.take i)
  have:=List.length_take_le i xs
  omega
 ·rw[zE (zG e hD)];exact s2 _ _ e
 ·rw[et,yD];simp[hp]
 ·rw[et,yD];simp[hp]
end
end L2
namespace KQ
open PySem L2 KM KK
theorem qP {K:Fg}{a b:Addr}{xs ys:List V}{g:TG}{tb:TS}{D:vt}{σ:St}{H:Hp}(Pv:Nat->St->Hp->Prop) (h0:Pv 0 σ H) (hl:∀i σ H,Pv i σ H->SqL K H a xs/\SqL K H b ys)
  (hs:∀(i:Nat) (x y:V) (σ:St) (H:Hp) (T:Addr),xs[i]? = some x->ys[i]? = some y->Pv i σ H->H T=none->g (.ref T) σ (upd H T (.tup [x,y])) λσ2 H2=>tb { D with nx:=Pv (i+1),ct:=Pv (i+1),bk:=D.nx } σ2 H2)
  (hd:∀σ H,Pv (min xs.length ys.length) σ H->D.nx σ H) :
  ∃W:Nat->Nat->St->Hp->Prop,(∃m,W 0 m σ H)/\∀i m σ H,W i m σ H →
   ((zcf K a b).stop i H/\D.nx σ H)\/((zcf K a b).go i H/\∃N:St->Hp->Prop,(∀σ' H',N σ' H'->∃m',m'<m/\W (i+1) m' σ' H')/\∀x H',(zcf K a b).yld i H x H'->g x σ H' λσ2 H2=>tb { D with nx:=N,ct:=N,bk:=D.nx } σ2 H2):=by
 refine⟨λi m σ H=>m=min xs.length ys.length - i/\i<=min xs.length ys.length/\Pv i σ H,⟨min xs.length ys.length,by simp,yg _,h0⟩,?_⟩
 rintro i m σ H ⟨rfl,hi,p⟩
 obtain⟨q1,q2⟩:=hl i σ H p
 by_cases hlt:i<min xs.length ys.length
 ·refine .inr ⟨⟨xs,ys,xs[i]'(by omega),ys[i]'(by omega),q1,q2,by simp,by simp⟩,Pv (i+1),λσ' H' p'=>⟨min xs.length ys.length - (i+1),by omega,rfl,hlt,p'⟩,λx H' y=>?_⟩
  obtain⟨T,u,v,rfl,hT,rfl,e1,e2⟩:=y
  exact hs i u v σ H T (e1 xs q1) (e2 ys q2) p hT
 ·have e:i=min xs.length ys.length:=by omega
  subst e
  exact .inl ⟨⟨xs,ys,q1,q2,by omega⟩,hd σ H p⟩
theorem zh7 {us:List V}:qt us (some 1) none=us.drop 1:=by
 cases us with
 | nil=>rfl
 | cons a r =>
  unfold qt HT.sIx
  simp
theorem QY {n:Nat}{a b:Int}(h:Bd n a) (k:Bd n b):Bd (n+1) (a - b):=by
 unfold Bd at *
 have:=Int.natAbs_sub_le a b
 rw[Nat.pow_succ];omega
def VZ:Option (Int×Int)->List (Int×Int)
 | none=>[]
 | some w=>[w]
def chn (trs:List (Int×Int)) (lo hi:Option (Int×Int)):List (Int×Int):=VZ lo++trs++VZ hi
def qx (f:Option (Int×Int)) (p:(Int×Int)×(Int×Int)):Option (Int×Int) :=
 if p.2.2<p.1.2 then(match f with
  | none=>some (p.2.1 - p.1.1,p.1.2 - p.2.2)
  | some u=>if(p.2.1 - p.1.1)*u.2<u.1*(p.1.2 - p.2.2)then some (p.2.1 - p.1.1,p.1.2 - p.2.2)else some u)else f
theorem za7 {l r:Int×Int}(h:r.2<l.2):qx none (l,r)=some (r.1 - l.1,l.2 - r.2):=if_pos h
theorem za8 {l r u:Int×Int}(h:r.2<l.2):qx (some u) (l,r)=if(r.1 - l.1)*u.2<u.1*(l.2 - r.2)then some (r.1 - l.1,l.2 - r.2)else some u:=if_pos h
def soon (ch:List (Int×Int)):Option (Int×Int):=(ch.zip ch.tail).foldl qx none
theorem zfx {H:Hp}:qa H [] []:=⟨rfl,λi v e=>by simp at e⟩
theorem zbd {H:Hp}{v:V}{w:Option (Int×Int)} (h:vR H v w):qa H ([v].filter λv=>!decide (v = .non)) (VZ w):=by
 cases w with
 | none =>
  have e:v = .non:=h
  subst e;exact zfx
 | some w =>
  obtain⟨a,e,h⟩:=h
  subst e
  rw[uY (by simp)]
  refine⟨rfl,λi v e=>?_⟩
  cases i with
  | zero=>simp at e;subst e;exact⟨w,rfl,a,rfl,h⟩
  | succ i=>simp at e
theorem zfw {H:Hp}{vs:List V}{ts:List (Int×Int)} (h:qa H vs ts):(vs.filter λv=>!decide (v = .non))=vs:=by
 refine List.filter_eq_self.mpr λv hv=>?_
 obtain⟨i,hi⟩:=yO hv
 obtain⟨t,_,a,rfl,_⟩:=h.2 i v hi
 simp
theorem Qq {H:Hp}{vs vs':List V}{ts ts':List (Int×Int)} (h:qa H vs ts) (h':qa H vs' ts'):qa H (vs++vs') (ts++ts'):=by
 refine⟨by simp[h.1,h'.1],λi v e=>?_⟩
 by_cases hi:i<vs.length
 ·rw[wu hi]at e
  rw[wu (by rw[<-h.1];exact hi)]
  exact h.2 i v e
 ·rw[wm (by omega)]at e
  rw[wm (by rw[<-h.1];omega),<-h.1]
  exact h'.2 _ v e
section
variable {P:Program}{w:World}{K:Fg}{mg:Str->Option Value}{base:Heap}
inductive zhM (C:Addr) (vs:List V) (H:Hp) (Q:VK) (_e3:XK):Prop
 | mk:∀c pb sb tk ws trs lo hi,(vs=[V.ref c])->(Qr H C c pb sb tk ws trs lo hi)->(trs.length<=8)->((∀t∈chn trs lo hi,Bd 4000 t.1/\Bd 4000 t.2))->(∀v H',zi H H'->vR H' v (soon (chn trs lo hi))->Q v H')->zhM C vs H Q _e3
theorem jB:zF ["course","chain","found","left","right","ticks"] ["course"] (zr Zc):=scq
theorem ziN {C:Addr}(D:Df K mg "soonest" Zc ["course"] []) (T:TxQ K mg) (TC:TCo K C) (cLs:Cal P w K mg base "less" 1 ["one","other"] [] za3):Cal P w K mg base "soonest" 2 ["course"] [] (zhM C):=by
 refine D.cal (k:=1) jB (λvs H Q E h=>by obtain⟨_,_,_,_,_,_,_,_,rfl,_⟩:=h;rfl) (λf cdv A outer s H vs Q E hr h=>?_)
 obtain⟨c,pb,sb,tk,ws,trs,lo,hi,rfl,⟨dx,fs,hc,F⟩,hl,hz,k⟩:=h
 obtain⟨tl,tv,e1,htl,htr⟩:=F.tracks
 obtain⟨lv,e2,hlv⟩:=F.low
 obtain⟨hv,e3,hhv⟩:=F.high
 have z20:20<sizeLine:=vk (wx _)
 have lt:=htr.1
 refine⟨_,(zA (vd (i:=1) (NB:=["track"]) (FR:=[]) (js:=[]) rfl rfl (λ_ _ h=>by cases h) .nil rfl (by decide +kernel) rfl (by decide +kernel) jB.nd rfl rfl (by rfl) (xN (zB Qd (zB Qd (x5 (zd (xp (pv 0) rfl) zf)) (xp (pv 0) rfl)) (x5 (zd (xp (pv 0) rfl) zf)))) (by intro _ _ _;refine⟨?_,?_,?_⟩;(exact(zK (i:=0) (show List.Nodup (["track"]:List Str) by decide +kernel) rfl (Or.inl rfl)));(exact(Vj (zI qz (pv 0) zW (zM _))));(exact(pv 0))))
  (zA (zQ (i:=2) jB.nd rfl (Or.inl rfl) zW)
  (zA (qJ PassesOwn.never rfl (zaP (by rfl) T.nZip (zd (pv 1) (zd (qj jv (pv 1) (xH ze) jZ) zf))) (qv rfl (zS (zK (i:=3) jB.nd rfl (Or.inl rfl)) (zS (zK (i:=4) jB.nd rfl (Or.inl rfl)) xD))) (zh (xh (zI Qe (zk zj (pv 3) ze (λ_ _=>rfl)) (zk zj (pv 4) ze (λ_ _=>rfl)) (zM _)) (zA (zQ (i:=5) jB.nd rfl (Or.inl rfl) (xj (zd (zB xZ (zk zj (pv 4) ze (λ_ _=>rfl)) (zk zj (pv 3) ze (λ_ _=>rfl))) (zd (zB xZ (zk zj (pv 3) ze (λ_ _=>rfl)) (zk zj (pv 4) ze (λ_ _=>rfl))) zf))))
  (zh (xh ((vN (zI xW (pv 2) zW (zM _)) (vO (xz (zP cLs hr (zd (pv 5) (zd (pv 2) zf))) λ_=>rfl)))).pt (zh (zQ (i:=2) jB.nd rfl (Or.inl rfl) (pv 5))) zT))) zT)))
  (zh (zL (pv 2)))))),?_⟩
 refine⟨_,rfl,c,C,dx,fs,lv,rfl,hc,TC.cls,TC.low,e2,zL1,λp1 hp1=>?_⟩
 have S1:zi H (upd H p1 (.lst [lv])):=zi.upd hp1
 refine⟨_,rfl,c,C,dx,fs,_,rfl,S1 _ _ hc,TC.cls,TC.tracks,e1,p1,tl,_,_,rfl,rfl,zg,S1 _ _ htl,by rw[wG,yJ];omega,λp2 hp2=>?_⟩
 have S2:=S1.trans (zi.upd (o:=.lst ([lv]++tv)) hp2)
 refine⟨_,rfl,c,C,dx,fs,hv,rfl,S2 _ _ hc,TC.cls,TC.high,e3,zL1,λp3 hp3=>?_⟩
 have S3:=S2.trans (zi.upd (o:=.lst [hv]) hp3)
 refine⟨p2,p3,_,_,rfl,rfl,zi.upd hp3 _ _ zg,zg,by simp only[wE,wG,yJ];omega,λp4 hp4=>?_⟩
 have S4:=S3.trans (zi.upd (o:=.lst ([lv]++tv++[hv])) hp4)
 refine⟨p4,rfl,⟨_,SqL.of zg⟩,λDa hD=>?_⟩
 refine QG (J:=Itl K p4) (n:=1) (js:=[]) (g:=zO 0) (te:=xG 0) (xs:=[lv]++tv++[hv]) (λv=>!decide (v = .non)) hD (xQ zg) (vk (by simp only[wE,wG,yJ];omega)) ?_ ?_
 ·intro m x zs H2 A2 B2 hx hz2 s2 ka kb
  obtain⟨z1,rfl⟩:=jK hz2
  dsimp only[zO]
  refine⟨rfl,_,rfl,rfl,_,rfl,?_⟩
  cases e:decide (x=V.non)with
  | true=>exact kb (by simp[e])
  | false=>exact⟨_,rfl,ka (by simp[e])⟩
 intro H5 s5 hy
 have S5:zi H H5:=S4.trans s5
 have hT:qa H5 (([lv]++tv++[hv]).filter λv=>!decide (v = .non)) (chn trs lo hi):=by
  rw[yD,yD,zfw htr]
  exact(Qq (Qq (zbd hlv) htr) (zbd hhv)).keeps (.of S5)
 generalize (([lv]++tv++[hv]).filter λv=>!decide (v = .non))=ys at hT hy
 dsimp only[zO]
 refine⟨_,rfl,_,rfl,1,rfl,Da,ys,rfl,.of hy,λp5 hp5=>?_⟩
 rw[zh7]
 have S6:zi H5 (upd H5 p5 (.lst (ys.drop 1))):=zi.upd hp5
 have hy6:=S6 _ _ hy
 have hp6:upd H5 p5 (.lst (ys.drop 1)) p5=some (.lst (ys.drop 1)):=zg
 replace hT:=hT.keeps (.of S6)
 have S7:zi H (upd H5 p5 (.lst (ys.drop 1))):=S5.trans S6
 generalize upd H5 p5 (.lst (ys.drop 1))=G at S6 hy6 hp6 hT S7
 generalize chn trs lo hi=ch at hT hz k
 refine⟨Da,p5,rfl,⟨_,.of hy6⟩,⟨_,.of hp6⟩,qP (xs:=ys) (ys:=ys.drop 1) (λi σ H'=>zi G H'/\∃fv z3 z4 z5,σ=[some (.ref c),some (.ref Da),some fv,z3,z4,z5]/\vR H' fv (((ch.zip ch.tail).take i).foldl qx none)/\∀u,((ch.zip ch.tail).take i).foldl qx none=some u->Bd 4001 u.1/\Bd 4001 u.2)
  ⟨zi.refl _,.non,_,_,_,rfl,rfl,λu e=>by cases e⟩ (λi σ H' ⟨s',_⟩=>⟨.of (s' _ _ hy6),.of (s' _ _ hp6)⟩) ?_ ?_⟩
 ·rintro i x y σ H' T' hx hy' ⟨s',fv,z3,z4,z5,rfl,hfv,hsz⟩ hT'
  obtain⟨t1,et1,a1,rfl,ha1⟩:=hT.2 i x hx
  rw[yk]at hy'
  obtain⟨t2,et2,a2,rfl,ha2⟩:=hT.2 _ y hy'
  have S8:zi G (upd H' T' (.tup [.ref a1,.ref a2])):=s'.trans (zi.upd hT')
  have hfv':=hfv.keeps (.of (zi.upd (o:=.tup [.ref a1,.ref a2]) hT'))
  have hTT:upd H' T' (.tup [.ref a1,.ref a2]) T'=some (.tup [.ref a1,.ref a2]):=zg
  generalize upd H' T' (.tup [.ref a1,.ref a2])=G2 at S8 hfv' hTT
  have b1:=hz t1 (wj et1)
  have b2:=hz t2 (wj et2)
  have ez:(ch.zip ch.tail)[i]? = some (t1,t2):=by
   rw[yn]
   refine⟨et1,?_⟩
   rw[<-List.drop_one,yk];exact et2
  have ef:((ch.zip ch.tail).take (i+1)).foldl qx none=qx (((ch.zip ch.tail).take i).foldl qx none) (t1,t2):=by
   rw[ym,ez];simp[Wa]
  rw[ef]
  generalize ((ch.zip ch.tail).take i).foldl qx none=fo at hfv hfv' hsz
  refine⟨T',_,rfl,.of hTT,rfl,_,_,rfl,_,_,rfl,rfl,?_⟩
  have ga1:=S8 _ _ ha1
  have ga2:=S8 _ _ ha2
  refine⟨_,rfl,a1,_,_,_,rfl,rfl,.of ga1,at1 ..,_,rfl,a2,_,_,_,rfl,rfl,.of ga2,at1 ..,_,_,rfl,rfl,_,rfl,qr (λh=>?_) (λh=>?_)⟩
  ·have h':t2.2<t1.2:=wD h
   refine⟨_,rfl,a2,_,_,_,rfl,rfl,.of ga2,at0 ..,_,rfl,a1,_,_,_,rfl,rfl,.of ga1,at0 ..,_,_,rfl,rfl,_,rfl,a1,_,_,_,rfl,rfl,.of ga1,at1 ..,_,rfl,a2,_,_,_,rfl,rfl,.of ga2,at1 ..,_,_,rfl,rfl,zL2,λtp htp=>?_⟩
   have d1:=QY b2.1 b1.1
   have d2:=QY b1.2 b2.2
   refine⟨_,rfl,rfl,_,rfl,?_⟩
   cases fo with
   | none =>
    have e:fv = .non:=hfv
    subst e
    refine xw ⟨_,rfl,⟨S8.trans (zi.upd htp),.ref tp,_,_,_,rfl,?_,?_⟩⟩
    ·rw[za7 h'];exact⟨tp,rfl,zg⟩
    ·rw[za7 h'];intro u eu;cases eu;exact⟨d1,d2⟩
   | some u =>
    obtain⟨af,rfl,haf⟩:=hfv'
    have bu:=hsz u rfl
    refine xo ?_
    refine⟨_,rfl,_,rfl,tp,af,_,_,_,_,rfl,zg,zi.upd htp _ _ haf,d1.mono (by decide),d2.mono (by decide),bu.1.mono (by decide),bu.2.mono (by decide),_,rfl,qr (λhh=>?_) (λhh=>?_)⟩
    ·have es':qx (some u) (t1,t2)=some (t2.1 - t1.1,t1.2 - t2.2):=(za8 h').trans (if_pos (wD hh))
     refine⟨_,rfl,⟨S8.trans (zi.upd htp),.ref tp,_,_,_,rfl,?_,?_⟩⟩
     ·rw[es'];exact⟨tp,rfl,zg⟩
     ·rw[es'];intro u eu;cases eu;exact⟨d1,d2⟩
    ·have es':qx (some u) (t1,t2)=some u:=(za8 h').trans (if_neg λz=>hh (wq z))
     refine⟨S8.trans (zi.upd htp),.ref af,_,_,_,rfl,?_,?_⟩
     ·rw[es'];exact⟨af,rfl,zi.upd htp _ _ haf⟩
     ·rw[es'];exact hsz
  ·have es:qx fo (t1,t2)=fo:=if_neg λz=>h (wq z)
   refine⟨S8,fv,_,_,_,rfl,?_,?_⟩
   ·rw[es];exact hfv'
   ·rw[es];exact hsz
 ·rintro σ H' ⟨s',fv,z3,z4,z5,rfl,hfv,hsz⟩
  refine⟨_,rfl,k _ _ (S7.trans s') ?_⟩
  have e:(ch.zip ch.tail).take (min ys.length (ys.drop 1).length)=ch.zip ch.tail:=wM (by rw[ua,wW,List.length_tail,hT.1];omega)
  rw[e]at hfv
  exact hfv
end
theorem zdU {H:Hp}{a:Addr}{o:HO}(h:H a=some o):upd H a o=H:=by
 funext b
 by_cases e:b=a
 ·subst e;rw[zg];exact h.symm
 ·rw[zE e]
section
variable {P:Program}{w:World}{K:Fg}{mg:Str->Option Value}{base:Heap}{C0:Addr}
inductive zdC (C:Addr) (vs:List V) (H:Hp) (Q:VK) (_e3:XK):Prop
 | mk:∀a y,(vs=[.ref a,y])->(H a=some (XO a C none))->(∀dx,H dx=none->Q .non (upd (upd H dx (.xd [("moment",y)])) a (XO a C (some dx))))->zdC C vs H Q _e3
theorem ze8:zF ["self","moment"] ["self","moment"] (zr qM):=scq
theorem zeC {C f:Addr}{fd:FuncData}{mc:Value}{cd:ClassData}(F:Fun K "__init__" "Shut.__init__" qM f fd) (U:XUp K C0 mc) (hm:mg "ClackError" = some (.ref C0)) (B:XB base C) (S:zcj K C cd) (n:xU K C "moment"):vP P w K mg base CX0 1 f fd ["self","moment"] (zdC C):=by
 refine F.ok (k:=0) ze8 (λvs H Q E h=>by obtain⟨_,_,rfl,_⟩:=h;rfl) (λcdv A outer s H vs Q E hr h=>?_)
 obtain⟨a,y,rfl,ea,k⟩:=h
 refine⟨_,zA (qh (zfR U hm (zd (pv 0) (zd va zf)))) (zh (zfS (pv 0) (pv 1) rfl)),?_⟩
 refine⟨_,rfl,a,C,_,rfl,ea,B,?_⟩
 rw[zdU ea]
 exact⟨_,rfl,_,rfl,a,C,cd,rfl,ea,S,n,k⟩
def qD (tk:Rat) (t:Int×Int):Rat:=Rat.divInt (t.1*tk.num) (t.2*(tk.den:Int))
inductive zfm (C:Addr) (CS:Addr) (vs:List V) (H:Hp) (Q:VK) (E:XK):Prop
 | mk:∀c pb sb tk ws trs lo hi wa v1 v2 wlo whi,(vs=[V.ref c,.ref wa])->(Qr H C c pb sb tk ws trs lo hi)->(trs.length<=8)->((∀t∈chn trs lo hi,Bd 4000 t.1/\Bd 4000 t.2))->(Sz 4400 tk)->(H wa=some (.tup [v1,v2]))->(qI H v1 wlo)->(qI H v2 whi)->((∀t,wlo=some t->Sz 400 t.1/\Sz 400 t.2))->((∀t,whi=some t->Sz 400 t.1/\Sz 400 t.2))->((∀H',zi H H'->soon (chn trs lo hi)=none->Q .non H'))->((∀v t H',zi H H'->soon (chn trs lo hi)=some t->xL wlo whi≠some (qD tk t)->vR H' v (some t)->Q v H'))->((∀t p dx H',zi H H'->soon (chn trs lo hi)=some t->xL wlo whi=some (qD tk t)->H' dx=some (.xd [("moment",.ref p)])->zD H' p (qD tk t)->E (.ref CS) (some dx) H'))->zfm C CS vs H Q E
theorem zdp:zF ["course","walls","ticks","shut"] ["course","walls"] (zr ve):=scq
theorem Jk:∀{l:List ((Int×Int)×(Int×Int))}{f:Option (Int×Int)},(∀u,f=some u->0<u.2)->(∀u,l.foldl qx f=some u->0<u.2)
 | [],_,h=>h
 | p::l,f,h=>by
  refine Jk (l:=l) (f:=qx f p) λu hu=>?_
  unfold qx at hu
  split at hu
  ·split at hu
   ·cases hu;show 0<_;omega
   ·split at hu
    ·cases hu;show 0<_;omega
    ·exact h u hu
  ·exact h u hu
theorem za1:∀{l:List ((Int×Int)×(Int×Int))}{f:Option (Int×Int)},(∀p∈l,(Bd 4000 p.1.1/\Bd 4000 p.1.2)/\Bd 4000 p.2.1/\Bd 4000 p.2.2)->(∀u,f=some u->Bd 4001 u.1/\Bd 4001 u.2)->(∀u,l.foldl qx f=some u->Bd 4001 u.1/\Bd 4001 u.2)
 | [],_,_,h=>h
 | p::l,f,hp,h=>by
  have z:=hp p wJ
  refine za1 (l:=l) (f:=qx f p) (λx hx=>hp x (wP _ hx)) λu hu=>?_
  have d:Bd 4001 (p.2.1 - p.1.1)/\Bd 4001 (p.1.2 - p.2.2):=⟨QY z.2.1 z.1.1,QY z.1.2 z.2.2⟩
  unfold qx at hu
  split at hu
  ·split at hu
   ·cases hu;exact d
   ·split at hu
    ·cases hu;exact d
    ·exact h u hu
  ·exact h u hu
theorem Vt {ch:List (Int×Int)} (hz:∀t∈ch,Bd 4000 t.1/\Bd 4000 t.2){t:Int×Int}(h:soon ch=some t):0<t.2/\Bd 4001 t.1/\Bd 4001 t.2:=by
 refine⟨Jk (λu e=>by cases e) t h,za1 (λp hp=>?_) (λu e=>by cases e) t h⟩
 have z:=uu hp
 exact⟨hz _ z.1,hz _ (List.mem_of_mem_tail z.2)⟩
theorem ziw {C CS f11:Addr}{fd11:FuncData}(D:Df K mg "first_ticks" ve ["course","walls"] []) (TC:TCo K C) (cSo:Cal P w K mg base "soonest" 2 ["course"] [] (zhM C)) (cSh:Cal P w K mg base "shut_moment" 4 ["walls"] [] zhJ)
  (cMo:Cal P w K mg base "moment_of" 3 ["course","ticks"] [] (zb4 C)) (XM:XMk K base CS f11) (F11:vP P w K mg base CX0 1 f11 fd11 ["self","moment"] (zdC CS)) (hmS:mg "Shut" = some (.ref CS)) (B11:vn K fd11 ["self","moment"] []) :
  ZW P w K mg base "first_ticks" 5 ["course","walls"] [] (zfm C CS):=by
 refine D.cal1 (k:=4) zdp (λvs H Q E h=>by obtain⟨_,_,_,_,_,_,_,_,_,_,_,_,_,rfl,_⟩:=h;rfl) (λf cdv A outer s H vs Q E hr h=>?_)
 obtain⟨c,pb,sb,tk,ws,trs,lo,hi,wa,v1,v2,wlo,whi,rfl,hco,hl,hz,htk,hw,h1,h2,z1,z2,k1,k2,k3⟩:=h
 have hr2:xn 2 _:=hr.mono (by decide)
 have hr3:xn 3 _:=hr.mono (by decide)
 have hu:=hr.units
 refine⟨_,(zA (zQ (i:=2) zdp.nd rfl (Or.inl rfl) (zP cSo hr2 (zd (pv 0) zf)))
  (zA (xh (zI xW (pv 2) zW (zM _)) (zh (zL zW)) zT)
  (zA (zQ (i:=3) zdp.nd rfl (Or.inl rfl) (zP cSh hr (zd (pv 1) zf)))
  (zA (xh ((qC (zI qz (pv 3) zW (zM _)) (qm (zI (Xc hu) (pv 3) (zP cMo hr3 (zd (pv 0) (zd (pv 2) zf))) (zM _))))).pt (zh (QP XM F11 hr2 hmS B11 hr.hd Zk (zd (pv 3) zf))) zT)
  (zh (zL (pv 2))))))),?_⟩
 refine⟨_,rfl,c,pb,sb,tk,ws,trs,lo,hi,rfl,hco,hl,hz,λtv H1 s1 htv=>?_⟩
 dsimp only[zO]
 refine⟨_,rfl,rfl,_,rfl,?_⟩
 cases es:soon (chn trs lo hi)with
 | none =>
  rw[es]at htv
  have e:tv = .non:=htv
  subst e
  exact xw (k1 H1 s1 es)
 | some t =>
  rw[es]at htv
  obtain⟨ta,rfl,hta⟩:=htv
  refine xo ?_
  refine⟨_,rfl,wa,v1,v2,wlo,whi,rfl,s1 _ _ hw,h1.keeps (.of s1),h2.keeps (.of s1),z1,z2,λsv H2 s2 hsv=>?_⟩
  have so:=Vt hz es
  obtain⟨dx,fs,hc,Fc⟩:=hco
  obtain⟨tp,etp,htp⟩:=Fc.tick
  dsimp only[zO]
  refine⟨_,rfl,rfl,_,rfl,?_⟩
  cases em:xL wlo whi with
  | none =>
   rw[em]at hsv
   have e:sv = .non:=hsv
   subst e
   refine xo ⟨_,rfl,k2 _ t H2 (s1.trans s2) es (by rw[em];intro z;cases z) ⟨ta,rfl,s2 _ _ hta⟩⟩
  | some q =>
   rw[em]at hsv
   obtain⟨sa,rfl,hsa⟩:=hsv
   refine xw ?_
   refine⟨_,rfl,_,rfl,_,rfl,c,ta,dx,fs,tp,tk,t.1,t.2,rfl,s2 _ _ (s1 _ _ hc),etp,s2 _ _ (s1 _ _ htp),s2 _ _ hta,by omega,so.2.1.mono (by decide),so.2.2.mono (by decide),htk,λmr H3 s3 hmr=>?_⟩
   refine⟨_,_,(hsa.same s3).rd,hmr.rd,xS _,xS _,_,rfl,?_⟩
   rw[Z9]
   by_cases e:q=qD tk t
   ·rw[wq (show q=Rat.divInt (t.1*tk.num) (t.2*(tk.den:Int))from e)]
    refine xw ?_
    refine⟨_,rfl,zL1,λp hp=>⟨p,_,rfl,zg,λd hd=>⟨rfl,some d,zg,?_⟩⟩⟩
    have hdp:d≠p:=λz=>by subst z;rw[zg]at hd;cases hd
    have hd3:H3 d=none:=by rw[zE hdp]at hd;exact hd
    have eG:∀b,b≠p->b≠d->XT p (upd (upd (upd H3 p (XO p CS none)) d (.xd [("moment",.ref sa)])) p (XO p CS (some d))) b=H3 b:=λb hb hb2=>by
     rw[qF hb,zE hb,zE hb2,zE hb]
    have SG:zi H3 (XT p (upd (upd (upd H3 p (XO p CS none)) d (.xd [("moment",.ref sa)])) p (XO p CS (some d)))):=λb o eb=>by
     rw[eG b (zG eb hp) (zG eb hd3)];exact eb
    refine k3 t sa d _ (s1.trans (s2.trans (s3.trans SG))) es (by rw[em,e]) ?_ ?_
    ·rw[qF hdp,zE hdp,zg]
    ·rw[<-e];exact SG _ _ (s3 _ _ hsa)
   ·rw[wI (show ¬q=Rat.divInt (t.1*tk.num) (t.2*(tk.den:Int))from e)]
    refine xo ⟨_,rfl,k2 _ t H3 (s1.trans (s2.trans s3)) es (by rw[em];intro z;cases z;exact e rfl) ⟨ta,rfl,s3 _ _ (s2 _ _ hta)⟩⟩
end
def tkO (bs:List Bl) (lo hi:Option (Rat×Rat)):Rat:=Rat.divInt (sbO bs lo hi) (pbO bs lo hi)
def trO (bs:List Bl) (lo hi:Option (Rat×Rat)):List (Int×Int):=bs.map λb=>trB (pbO bs lo hi) (sbO bs lo hi) (b.pl,b.sp)
def chO (bs:List Bl) (lo hi:Option (Rat×Rat)):List (Int×Int):=chn (trO bs lo hi) (lo.map (trB (pbO bs lo hi) (sbO bs lo hi))) (hi.map (trB (pbO bs lo hi) (sbO bs lo hi)))
structure In (H:Hp) (r wa:Addr) (bs:List Bl) (lo hi:Option (Rat×Rat)):Prop where
 row:∃us,H r=some (.tup us)/\ZZ H us bs
 walls:∃v1 v2,H wa=some (.tup [v1,v2])/\qI H v1 lo/\qI H v2 hi
 len:bs.length<=8
 sz:∀t∈ths bs lo hi,Sz 400 t.1/\Sz 400 t.2
 bd:∀t∈chO bs lo hi,Bd 4000 t.1/\Bd 4000 t.2
 tk:Sz 4400 (tkO bs lo hi)
theorem In.lo {H:Hp}{r wa:Addr}{bs:List Bl}{lo hi:Option (Rat×Rat)} (I:In H r wa bs lo hi):∀t,lo=some t->Sz 400 t.1/\Sz 400 t.2:=λt e=>I.sz t (by unfold ths;rw[e];simp[xx])
theorem In.hi {H:Hp}{r wa:Addr}{bs:List Bl}{lo hi:Option (Rat×Rat)} (I:In H r wa bs lo hi):∀t,hi=some t->Sz 400 t.1/\Sz 400 t.2:=λt e=>I.sz t (by unfold ths;rw[e];simp[xx])
section
variable {P:Program}{w:World}{K:Fg}{mg:Str->Option Value}{base:Heap}
def xl (l t:Int×Int):Int:=l.1*t.2+l.2*t.1
def BdP (n:Nat) (t:Int×Int):Prop:=Bd n t.1/\Bd n t.2
inductive zb6  (vs:List V) (H:Hp) (Q:VK) (_e3:XK):Prop
 | mk:∀a b l t,(vs=[V.ref a,.ref b])->(H a=some (.tup [.int l.1,.int l.2]))->(H b=some (.tup [.int t.1,.int t.2]))->(BdP 4400 l)->(BdP 4400 t)->(Q (.int (xl l t)) H)->zb6 vs H Q _e3
theorem zdx:zF ["track","ticks"] ["track","ticks"] (zr Zd):=scq
theorem ziO (D:Df K mg "spot_at" Zd ["track","ticks"] []):Cal P w K mg base "spot_at" 1 ["track","ticks"] [] zb6:=by
 refine D.cal (k:=0) zdx (λvs H Q E h=>by obtain⟨_,_,_,_,rfl,_⟩:=h;rfl) (λf cdv A outer s H vs Q E hr h=>?_)
 obtain⟨a,b,l,t,rfl,ha,hb,zl,zt,k⟩:=h
 refine⟨_,(zh (zL (zB zZ (zB zU (zk zj (pv 0) ze (λ_ _=>rfl)) (zk zj (pv 1) ze (λ_ _=>rfl))) (zB zU (zk zj (pv 0) ze (λ_ _=>rfl)) (zk zj (pv 1) ze (λ_ _=>rfl)))))),?_⟩
 exact⟨_,rfl,a,_,_,_,rfl,rfl,.of ha,at0 ..,_,rfl,b,_,_,_,rfl,rfl,.of hb,at1 ..,_,_,rfl,rfl,⟨zl.1.mono (by decide),zt.2.mono (by decide)⟩,_,rfl,a,_,_,_,rfl,rfl,.of ha,at1 ..,_,rfl,b,_,_,_,rfl,rfl,.of hb,at0 ..,_,_,rfl,rfl,⟨zl.2.mono (by decide),zt.1.mono (by decide)⟩,_,_,rfl,rfl,k⟩
def atS (w:Option (Int×Int)) (t:Int×Int) (s:Int):Bool:=match w with
 | none=>false
 | some l=>decide (s=xl l t)
def x6 (lo hi:Option (Int×Int)) (t:Int×Int) (s:Int):Str:=if atS lo t s then "low" else if atS hi t s then "high" else ""
inductive zhK (C:Addr) (vs:List V) (H:Hp) (Q:VK) (_e3:XK):Prop
 | mk:∀c b pb sb tk ws trs lo hi s t,(vs=[V.ref c,.int s,.ref b])->(Qr H C c pb sb tk ws trs lo hi)->(H b=some (.tup [.int t.1,.int t.2]))->(BdP 4400 t)->((∀l,lo=some l->BdP 4400 l))->((∀l,hi=some l->BdP 4400 l))->(Q (.str (x6 lo hi t s)) H)->zhK C vs H Q _e3
theorem zjd:zF ["course","spot","ticks"] ["course","spot","ticks"] (zr Zb):=scq
theorem ziL {C:Addr}(D:Df K mg "side_at" Zb ["course","spot","ticks"] []) (TC:TCo K C) (cSp:Cal P w K mg base "spot_at" 1 ["track","ticks"] [] zb6):Cal P w K mg base "side_at" 2 ["course","spot","ticks"] [] (zhK C):=by
 refine D.cal (k:=1) zjd (λvs H Q E h=>by obtain⟨_,_,_,_,_,_,_,_,_,_,_,rfl,_⟩:=h;rfl) (λf cdv A outer s H vs Q E hr h=>?_)
 obtain⟨c,b,pb,sb,tk,ws,trs,lo,hi,sp,t,rfl,⟨dx,fs,hc,F⟩,hb,zt,zlo,zhi,k⟩:=h
 obtain⟨lv,e2,hlv⟩:=F.low
 obtain⟨hv,e3,hhv⟩:=F.high
 refine⟨_,(zA (xh ((qC (zI qz (xp (pv 0) rfl) zW (zM _)) (qm (zI qL (pv 1) (zP cSp hr (zd (xp (pv 0) rfl) (zd (pv 2) zf))) (zM _))))).pt (zh (zL va)) zT)
  (zA (xh ((qC (zI qz (xp (pv 0) rfl) zW (zM _)) (qm (zI qL (pv 1) (zP cSp hr (zd (xp (pv 0) rfl) (zd (pv 2) zf))) (zM _))))).pt (zh (zL va)) zT)
  (zh (zL va)))),?_⟩
 refine⟨_,rfl,c,C,dx,fs,lv,rfl,hc,TC.cls,TC.low,e2,rfl,_,rfl,?_⟩
 cases elo:lo with
 | none =>
  subst elo
  have e:lv = .non:=hlv
  subst e
  have e0:atS none t sp=false:=rfl
  generalize hlo:(none:Option (Int×Int))=lo at e0 k
  refine xo ?_
  refine⟨_,rfl,c,C,dx,fs,hv,rfl,hc,TC.cls,TC.high,e3,rfl,_,rfl,?_⟩
  cases hi with
  | none =>
   have e:hv = .non:=hhv
   subst e
   refine xo ?_
   have es:x6 lo none t sp = "":=by unfold x6;rw[if_neg (by rw[e0];simp)];rfl
   rw[es]at k;exact k
  | some h =>
   obtain⟨ah,rfl,hah⟩:=hhv
   refine xw ?_
   refine⟨_,rfl,_,rfl,c,C,dx,fs,_,rfl,hc,TC.cls,TC.high,e3,_,rfl,ah,b,h,t,rfl,hah,hb,zhi h rfl,zt,rfl,_,rfl,qr (λhh=>?_) (λhh=>?_)⟩
   ·have e':sp=xl h t:=by have:=wD hh;injection this
    have es:x6 lo (some h) t sp = "high":=by unfold x6;rw[if_neg (by rw[e0];simp),if_pos (show atS (some h) t sp=true from wq e')]
    rw[es]at k;exact k
   ·have e':¬sp=xl h t:=λz=>hh (wq (by rw[z]))
    have es:x6 lo (some h) t sp = "":=by unfold x6;rw[if_neg (by rw[e0];simp),if_neg (show ¬atS (some h) t sp=true from λz=>e' (wD z))]
    rw[es]at k;exact k
 | some l =>
  subst elo
  obtain⟨al,rfl,hal⟩:=hlv
  refine xw ?_
  refine⟨_,rfl,_,rfl,c,C,dx,fs,_,rfl,hc,TC.cls,TC.low,e2,_,rfl,al,b,l,t,rfl,hal,hb,zlo l rfl,zt,rfl,_,rfl,qr (λhh=>?_) (λhh=>?_)⟩
  ·have e':sp=xl l t:=by have:=wD hh;injection this
   have es:x6 (some l) hi t sp = "low":=by unfold x6;rw[if_pos (show atS (some l) t sp=true from wq e')]
   rw[es]at k;exact k
  ·have e':¬sp=xl l t:=λz=>hh (wq (by rw[z]))
   have e0:atS (some l) t sp=false:=wI e'
   generalize hlo:some l=lo at e0 k
   refine⟨_,rfl,c,C,dx,fs,hv,rfl,hc,TC.cls,TC.high,e3,rfl,_,rfl,?_⟩
   cases hi with
   | none =>
    have e:hv = .non:=hhv
    subst e
    refine xo ?_
    have es:x6 lo none t sp = "":=by unfold x6;rw[if_neg (by rw[e0];simp)];rfl
    rw[es]at k;exact k
   | some h =>
    obtain⟨ah,rfl,hah⟩:=hhv
    refine xw ?_
    refine⟨_,rfl,_,rfl,c,C,dx,fs,_,rfl,hc,TC.cls,TC.high,e3,_,rfl,ah,b,h,t,rfl,hah,hb,zhi h rfl,zt,rfl,_,rfl,qr (λhh=>?_) (λhh=>?_)⟩
    ·have e':sp=xl h t:=by have:=wD hh;injection this
     have es:x6 lo (some h) t sp = "high":=by unfold x6;rw[if_neg (by rw[e0];simp),if_pos (show atS (some h) t sp=true from wq e')]
     rw[es]at k;exact k
    ·have e':¬sp=xl h t:=λz=>hh (wq (by rw[z]))
     have es:x6 lo (some h) t sp = "":=by unfold x6;rw[if_neg (by rw[e0];simp),if_neg (show ¬atS (some h) t sp=true from λz=>e' (wD z))]
     rw[es]at k;exact k
end
end KQ
namespace L2
open PySem PySem.Spec PyProof.Rows
theorem XA {tc:TT}{ta tb:TS}{D:vt}{σ:St}{H:Hp}(R:Hp->Prop) (c:Bool) (h1:∀(Q':Bool->Hp->Prop),(∀H',R H'->Q' c H')->tc σ H Q') (ha:c=true->∀H',R H'->ta D σ H') (hb:c=false->∀H',R H'->tb D σ H'):zhT tc ta tb D σ H:=h1 _ λH' r=>by
 cases c with
 | true=>exact xw (ha rfl H' r)
 | false=>exact xo (hb rfl H' r)
theorem VR {tc:TT}{ta tb u:TS}{D:vt}{σ:St}{H:Hp}(R:Hp->Prop) (c:Bool) (h1:∀(Q':Bool->Hp->Prop),(∀H',R H'->Q' c H')->tc σ H Q') (ha:c=true->∀H',R H'->ta { D with nx:=u D } σ H') (hb:c=false->∀H',R H'->tb { D with nx:=u D } σ H'):Vv (zhT tc ta tb) u D σ H:=XA (D:={ D with nx:=u D }) R c h1 ha hb
end L2
namespace KQ
open PySem L2 KM KK
section
variable {P:Program}{w:World}{K:Fg}{mg:Str->Option Value}{base:Heap}
def xm (wh:Str) (lo hi:Option (Int×Int)):Option (Int×Int):=if wh = "" then none else if wh = "low" then lo else hi
inductive zfq (C:Addr) (vs:List V) (H:Hp) (Q:VK) (_e3:XK):Prop
 | mk:∀c pb sb tk ws trs lo hi wh,(vs=[V.ref c,.str wh])->(Qr H C c pb sb tk ws trs lo hi)->(∀v,vR H v (xm wh lo hi)->Q v H)->zfq C vs H Q _e3
theorem zje:zF ["course","where"] ["course","where"] (zr Ze):=scq
theorem ziR {C:Addr}(D:Df K mg "wall_of" Ze ["course","where"] []) (TC:TCo K C):Cal P w K mg base "wall_of" 1 ["course","where"] [] (zfq C):=by
 refine D.cal (k:=0) zje (λvs H Q E h=>by obtain⟨_,_,_,_,_,_,_,_,_,rfl,_⟩:=h;rfl) (λf cdv A outer s H vs Q E hr h=>?_)
 obtain⟨c,pb,sb,tk,ws,trs,lo,hi,wh,rfl,⟨dx,fs,hc,F⟩,k⟩:=h
 obtain⟨lv,e2,hlv⟩:=F.low
 obtain⟨hv,e3,hhv⟩:=F.high
 refine⟨_,(zA (xh (zI qL (pv 1) va (zM _)) (zh (zL zW)) zT)
  (zh (zL (zdb (zI qL (pv 1) va (zM _)) (xp (pv 0) rfl) (xp (pv 0) rfl))))),?_⟩
 refine⟨_,rfl,rfl,_,rfl,qr (λh=>?_) (λh=>?_)⟩
 ·have e:wh = "":=by have:=wD h;injection this
  exact k _ (by unfold xm;rw[if_pos e];exact rfl)
 ·have n:¬wh = "":=λz=>h (wq (by rw[z]))
  refine⟨_,rfl,rfl,_,rfl,qr (λh=>?_) (λh=>?_)⟩
  ·have e:wh = "low":=by have:=wD h;injection this
   exact⟨_,rfl,c,C,dx,fs,lv,rfl,hc,TC.cls,TC.low,e2,k _ (by unfold xm;rw[if_neg n,if_pos e];exact hlv)⟩
  ·have n2:¬wh = "low":=λz=>h (wq (by rw[z]))
   exact⟨_,rfl,c,C,dx,fs,hv,rfl,hc,TC.cls,TC.high,e3,k _ (by unfold xm;rw[if_neg n,if_neg n2];exact hhv)⟩
def cwN (trs:List (Int×Int)) (w:Option (Int×Int)) (a b:Nat):Nat:=match w with
 | none=>0
 | some u=>(((trs.drop a).take (b+1 - a)).filter λt=>decide (t.2≠u.2)).length
inductive zht (C:Addr) (vs:List V) (H:Hp) (Q:VK) (_e3:XK):Prop
 | mk:∀(c g:Addr) (pb sb:Int) (tk:Rat) (ws:List Int) (trs:List (Int×Int)) (lo hi:Option (Int×Int)) (a b:Nat) (wh:Str),(vs=[V.ref c,.ref g])->(Qr H C c pb sb tk ws trs lo hi)->(trs.length<=8)->(a<=b)->(b<trs.length)->(H g=some (.tup [.int (a:Int),.int (b:Int),.str wh]))->(∀H',zi H H'->Q (.int (cwN trs (xm wh lo hi) a b:Nat)) H')->zht C vs H Q _e3
theorem Jh:zF ["course","group","first","last","where","wall"] ["course","group"] (zr qR):=scq
theorem zev {xs:List V}{lo hi:Option Int}{v:V}(h:v∈qt xs lo hi):v∈xs:=yP (yQ h)
def JX (H:Hp) (s:Int) (v:V):Bool:=match v with
 | .ref a=>(match H a with | some (.tup [_,.int y])=>decide (y≠s) | _=>false)
 | _=>false
theorem zaF {H:Hp}{s:Int}:∀{vs:List V}{ts:List (Int×Int)},vs.length=ts.length->(∀(i:Nat) (v:V),vs[i]? = some v->∃t,ts[i]? = some t/\vR H v (some t))->(vs.filter (JX H s)).length=(ts.filter λt=>decide (t.2≠s)).length
 | [],[],_,_=>rfl
 | [],_::_,h,_=>by simp at h
 | _::_,[],h,_=>by simp at h
 | v::vs,t::ts,h,k=>by
  obtain⟨t',e,a,rfl,ha⟩:=k 0 v rfl
  cases e
  have ih:=zaF (H:=H) (s:=s) (vs:=vs) (ts:=ts) (by simpa using h) λi v e=>k (i+1) v (by simpa using e)
  have e1:JX H s (.ref a)=decide (t.2≠s):=by unfold JX;dsimp only;rw[ha]
  rw[List.filter_cons,List.filter_cons,e1]
  by_cases c:t.2≠s
  ·rw[if_pos (wq c),if_pos (wq c),wG,wG,ih]
  ·rw[wI c,if_neg (by simp),if_neg (by simp),ih]
theorem zgq {α:Type}{xs:List α}{a b:Nat}(hb:b<xs.length):vA xs (some (a:Int)) (some ((b:Int)+1))=(xs.drop a).take (b+1 - a):=by
 unfold vA
 rw[show ((b:Int)+1)=((b+1:Nat):Int)from rfl,HT.sIx_nat,HT.sIx_nat]
 rw[WX (by omega:b+1<=xs.length)]
 rcases Nat.le_total a xs.length with h | h
 ·rw[WX h]
 ·rw[Nat.min_eq_right h,u7 h,u7 (wx _)];simp
theorem zis {C:Addr}(D:Df K mg "came_to_wall" qR ["course","group"] []) (T:TxQ K mg) (TC:TCo K C) (cW:Cal P w K mg base "wall_of" 1 ["course","where"] [] (zfq C)):Cal P w K mg base "came_to_wall" 2 ["course","group"] [] (zht C):=by
 refine D.cal (k:=1) Jh (λvs H Q E h=>by obtain⟨_,_,_,_,_,_,_,_,_,_,_,_,rfl,_⟩:=h;rfl) (λf cdv A outer s H vs Q E hr h=>?_)
 obtain⟨c,g,pb,sb,tk,ws,trs,lo,hi,a,b,wh,rfl,hco,hl,hab,hbl,hg,k⟩:=h
 refine⟨_,(zA (qg (pv 1) (qv rfl (zS (zK (i:=2) Jh.nd rfl (Or.inl rfl)) (zS (zK (i:=3) Jh.nd rfl (Or.inl rfl)) (zS (zK (i:=4) Jh.nd rfl (Or.inl rfl)) xD)))))
  (zA (zQ (i:=5) Jh.nd rfl (Or.inr rfl) (zP cW hr (zd (pv 0) (zd (pv 4) zf))))
  (zA (xh (zI xW (pv 5) zW (zM _)) (zh (zL ze)) zT)
  (zh (zL (zX xc (by rfl) T.nLen PySem.boot_len (zd (jO (NB:=["track"]) (FR:=["wall"]) (js:=[5]) rfl rfl (λ_ _ h=>h) (.cons rfl rfl rfl ⟨_,rfl⟩ .nil) rfl (by decide +kernel) rfl (by decide +kernel) (xN (qj jv (xp (pv 0) rfl) (xH (pv 2)) (xH (zB zZ (pv 3) ze)))) (by intro _ _ _;refine⟨?_,?_,?_⟩;(exact(zK (i:=0) (show List.Nodup (["track","wall"]:List Str) by decide +kernel) rfl (Or.inl rfl)));(exact(Vj (zI zc4 (zk (qy (K:=K) rfl) (pv 0) ze (λ_ _=>rfl)) (zk (qy (K:=K) rfl) (pv 1) ze (λ_ _=>rfl)) (zM _))));(exact(pv 0)))) zf))))))),?_⟩
 refine⟨_,rfl,g,_,rfl,.of hg,rfl,_,_,rfl,_,_,rfl,_,_,rfl,rfl,?_⟩
 refine⟨_,rfl,_,rfl,c,pb,sb,tk,ws,trs,lo,hi,wh,rfl,hco,λv hv=>?_⟩
 obtain⟨dx,fs,hc,F⟩:=hco
 obtain⟨tl,tv,e1,htl,htr⟩:=F.tracks
 dsimp only[zO]
 refine⟨_,rfl,rfl,_,rfl,?_⟩
 cases ew:xm wh lo hi with
 | none =>
  rw[ew]at hv k
  have e:v = .non:=hv
  subst e
  exact xw (k H (zi.refl _))
 | some wl =>
  rw[ew]at hv k
  obtain⟨aw,rfl,haw⟩:=hv
  refine xo ?_
  refine⟨_,rfl,c,C,dx,fs,_,rfl,hc,TC.cls,TC.tracks,e1,_,rfl,a,rfl,_,rfl,_,_,rfl,rfl,_,rfl,tl,tv,rfl,.of htl,λp hp=>?_⟩
  have S1:zi H (upd H p (.lst (qt tv (some a) (some (b+1))))):=zi.upd hp
  refine⟨p,rfl,⟨_,SqL.of zg⟩,λDa hD=>?_⟩
  have lc:(qt tv (some a) (some (b+1))).length<=8:=wS (vT ..) (by rw[htr.1];exact hl)
  have hlt:=htr.1
  have ecut:qt tv (some (a:Int)) (some ((b:Int)+1))=(tv.drop a).take (b+1 - a):=zgq (by omega)
  refine QG (J:=Itl K p) (n:=1) (js:=[5]) (g:=zO 0) (te:=xG 0) (xs:=qt tv (some a) (some (b+1))) (JX H wl.2) hD (xQ zg) (vk (by omega)) ?_ ?_
  ·intro i x zs H2 A2 B2 hx hz2 s2 ka kb
   obtain⟨m,hm⟩:=yO (zev (wj hx))
   obtain⟨t,_,ax,rfl,hax⟩:=htr.2 m x hm
   obtain⟨z1,rfl⟩:=jK hz2
   dsimp only[zO]
   have s3:=S1.trans s2
   have eo:JX H wl.2 (.ref ax)=decide (t.2≠wl.2):=by unfold JX;dsimp only;rw[hax]
   refine⟨rfl,_,rfl,ax,_,_,_,rfl,rfl,.of (s3 _ _ hax),at1 ..,_,rfl,aw,_,_,_,rfl,rfl,.of (s3 _ _ haw),at1 ..,rfl,_,rfl,?_⟩
   by_cases c':t.2=wl.2
   ·have:(!decide (V.int t.2=V.int wl.2))=false:=by rw[c'];simp
    rw[this]
    exact kb (by rw[eo];simp[c'])
   ·have:(!decide (V.int t.2=V.int wl.2))=true:=by
     have:¬V.int t.2=V.int wl.2:=λz=>c' (by injection z)
     rw[wI this];rfl
    rw[this]
    exact⟨_,rfl,ka (by rw[eo];simp[c'])⟩
  ·intro H2 s2 hy
   refine⟨Da,_,rfl,.inl (.of hy),?_⟩
   have el:((qt tv (some (a:Int)) (some ((b:Int)+1))).filter (JX H wl.2)).length=cwN trs (some wl) a b:=by
    rw[ecut]
    refine zaF (by simp[hlt]) λi v e=>?_
    rw[y7]at e
    split at e
    ·rw[yk]at e
     rw[y7,if_pos ‹_›,yk]
     exact htr.2 _ v e
    ·cases e
   rw[el]
   exact k _ (S1.trans s2)
end
theorem Qr.same {H H':Hp}{C c:Addr}{pb sb:Int}{tk:Rat}{ws:List Int}{trs:List (Int×Int)}{lo hi:Option (Int×Int)} (h:Qr H C c pb sb tk ws trs lo hi) (s:zi H H'):Qr H' C c pb sb tk ws trs lo hi:=by
 obtain⟨dx,fs,hc,F⟩:=h
 obtain⟨tp,a1,a2⟩:=F.tick
 obtain⟨wl,b1,b2⟩:=F.weights
 obtain⟨tl,tv,c1,c2,c3⟩:=F.tracks
 obtain⟨lv,d1,d2⟩:=F.low
 obtain⟨hv,e1,e2⟩:=F.high
 exact⟨dx,fs,s _ _ hc,⟨F.pb,F.sb,⟨tp,a1,s _ _ a2⟩,⟨wl,b1,s _ _ b2⟩,⟨tl,tv,c1,s _ _ c2,c3.keeps (.of s)⟩,⟨lv,d1,d2.keeps (.of s)⟩,⟨hv,e1,e2.keeps (.of s)⟩,F.len⟩⟩
theorem XW {K:Fg}{a:Addr}{xs:List V}{g:TG}{tb:TS}{D:vt}{σ:St}{H:Hp}(Pv:Nat->St->Hp->Prop) (h0:Pv 0 σ H) (hl:∀i σ H,Pv i σ H->SqL K H a xs)
  (hs:∀(i:Nat) (x:V) (σ:St) (H:Hp) (T:Addr),xs[i]? = some x->Pv i σ H->H T=none->g (.ref T) σ (upd H T (.tup [.int i,x])) λσ2 H2=>tb { D with nx:=Pv (i+1),ct:=Pv (i+1),bk:=D.nx } σ2 H2)
  (hd:∀σ H,Pv xs.length σ H->D.nx σ H) :
  ∃W:Nat->Nat->St->Hp->Prop,(∃m,W 0 m σ H)/\∀i m σ H,W i m σ H →
   ((Ite K a).stop i H/\D.nx σ H)\/((Ite K a).go i H/\∃N:St->Hp->Prop,(∀σ' H',N σ' H'->∃m',m'<m/\W (i+1) m' σ' H')/\∀x H',(Ite K a).yld i H x H'->g x σ H' λσ2 H2=>tb { D with nx:=N,ct:=N,bk:=D.nx } σ2 H2):=by
 refine⟨λi m σ H=>m=xs.length - i/\i<=xs.length/\Pv i σ H,⟨xs.length,by simp,yg _,h0⟩,?_⟩
 rintro i m σ H ⟨rfl,hi,p⟩
 have q1:=hl i σ H p
 by_cases hlt:i<xs.length
 ·refine .inr ⟨⟨xs,xs[i],q1,by simp⟩,Pv (i+1),λσ' H' p'=>⟨xs.length - (i+1),by omega,rfl,hlt,p'⟩,λx H' y=>?_⟩
  obtain⟨T,u,rfl,hT,rfl,e1⟩:=y
  exact hs i u σ H T (e1 xs q1) p hT
 ·have e:i=xs.length:=by omega
  subst e
  exact .inl ⟨⟨xs,q1,wx _⟩,hd σ H p⟩
theorem zd3 {xs:List V}{n:Nat}{v:V}(h:xs[n]? = some v):atI xs (n:Int)=some v:=by
 have hl:=(wk.mp h).1
 unfold atI ixN
 rw[if_pos (by omega),if_pos (by omega)]
 show xs[(n:Int).toNat]? = _
 rw[yq];exact h
section
variable {P:Program}{w:World}{K:Fg}{mg:Str->Option Value}{base:Heap}
def brk {α:Type} [DecidableEq α] (ss:List α) (i:Nat):Bool:=decide (i+1=ss.length) || decide (ss[i+1]?≠ss[i]?)
def stG {α:Type} [DecidableEq α] (ss:List α):Nat->Nat
 | 0=>0
 | i+1=>if brk ss i=true then i+1 else stG ss i
def rlG {α γ:Type} [DecidableEq α] (ss:List α) (f:Nat->Nat->Option γ):Nat->List γ
 | 0=>[]
 | i+1=>if brk ss i=true then rlG ss f i++(f (stG ss i) i).toList else rlG ss f i
theorem vC {α:Type} [DecidableEq α] (ss:List α):∀i,stG ss i<=i
 | 0=>wx _
 | i+1=>by
  have:=vC ss i
  show (if brk ss i=true then i+1 else stG ss i)<=i+1
  split <;> omega
def Xu (H:Hp) (v:V) (g:Nat×Nat×Str):Prop:=∃a,v = .ref a/\H a=some (.tup [.int (g.1:Int),.int (g.2.1:Int),.str g.2.2])
def vv (H:Hp) (vs:List V) (gs:List (Nat×Nat×Str)):Prop:=vs.length=gs.length/\∀(i:Nat) (v:V),vs[i]? = some v->∃g,gs[i]? = some g/\Xu H v g
theorem vv.keeps {H H':Hp}{vs:List V}{gs:List (Nat×Nat×Str)} (h:vv H vs gs) (t:zY H H'):vv H' vs gs :=
 ⟨h.1,λi v e=>by obtain⟨g,e1,a,e2,e3⟩:=h.2 i v e;exact⟨g,e1,a,e2,t _ _ e3⟩⟩
theorem vv.snoc {H:Hp}{vs:List V}{gs:List (Nat×Nat×Str)}{v:V}{g:Nat×Nat×Str}(h:vv H vs gs) (k:Xu H v g):vv H (vs++[v]) (gs++[g]):=by
 refine⟨by simp[h.1],λi u e=>?_⟩
 by_cases hi:i<vs.length
 ·rw[wu hi]at e
  rw[wu (by rw[<-h.1];exact hi)]
  exact h.2 i u e
 ·rw[wm (by omega)]at e
  have hj:i - vs.length=0:=by
   rcases yZ (i - vs.length)with z | z
   ·exact z
   ·rw[wY (by simp;omega)]at e;cases e
  rw[hj]at e;cases e
  exact⟨g,by rw[wm (by rw[<-h.1];omega),<-h.1,hj];rfl,k⟩
def fP (trs:List (Int×Int)) (lo hi:Option (Int×Int)) (t:Int×Int) (a b:Nat):Option (Nat×Nat×Str) :=
 let s:=x6 lo hi t (((trs.map λl=>xl l t)[b]?).getD 0)
 if a<b\/0<cwN trs (xm s lo hi) a b then some (a,b,s)else none
def grP (trs:List (Int×Int)) (lo hi:Option (Int×Int)) (t:Int×Int):List (Nat×Nat×Str):=rlG (trs.map λl=>xl l t) (fP trs lo hi t) trs.length
inductive zfn (C:Addr) (vs:List V) (H:Hp) (Q:VK) (_e3:XK):Prop
 | mk:∀c b pb sb tk ws trs lo hi t,(vs=[V.ref c,.ref b])->(Qr H C c pb sb tk ws trs lo hi)->(trs.length<=8)->(H b=some (.tup [.int t.1,.int t.2]))->(BdP 4400 t)->((∀l∈trs,BdP 4400 l))->((∀l,lo=some l->BdP 4400 l))->((∀l,hi=some l->BdP 4400 l))->(∀G gs H',zi H H'->H G=none->H' G=some (.lst gs)->vv H' gs (grP trs lo hi t)->Q (.ref G) H')->zfn C vs H Q _e3
theorem Xs:zF ["course","ticks","spots","groups","first","last","spot","group"] ["course","ticks"] (zr vU):=scq
theorem zix {C:Addr}(D:Df K mg "groups_at" vU ["course","ticks"] []) (T:TxQ K mg) (hE:mg "enumerate" = none) (TC:TCo K C) (cSp:Cal P w K mg base "spot_at" 1 ["track","ticks"] [] zb6) (cSi:Cal P w K mg base "side_at" 2 ["course","spot","ticks"] [] (zhK C))
  (cCw:Cal P w K mg base "came_to_wall" 2 ["course","group"] [] (zht C)):Cal P w K mg base "groups_at" 3 ["course","ticks"] [] (zfn C):=by
 refine D.cal (k:=2) Xs (λvs H Q E h=>by obtain⟨_,_,_,_,_,_,_,_,_,_,rfl,_⟩:=h;rfl) (λf cdv A outer s H vs Q E hr h=>?_)
 obtain⟨c,b,pb,sb,tk,ws,trs,lo,hi,t,rfl,CO,hl,hb,zt,ztr,zlo,zhi,k⟩:=h
 have hr2:xn 2 _:=hr
 have hr1:xn 1 _:=hr.mono (by decide)
 obtain⟨dx,fs,hc,F⟩:=id CO
 obtain⟨tl,tv,e1,htl,htr⟩:=F.tracks
 refine⟨_,(zA (vd (i:=2) (NB:=["track"]) (FR:=["ticks"]) (js:=[1]) rfl rfl (λ_ _ h=>h) (.cons rfl rfl rfl ⟨_,rfl⟩ .nil) rfl (by decide +kernel) rfl (by decide +kernel) Xs.nd rfl rfl (by rfl) (xN (xp (pv 0) rfl)) (by intro _ _ _;refine⟨?_,?_,?_⟩;(exact(zK (i:=0) (show List.Nodup (["track","ticks"]:List Str) by decide +kernel) rfl (Or.inl rfl)));(exact xI);(exact(zP cSp hr1 (zd (pv 0) (zd (pv 1) zf))))))
  (zA (zQ (i:=3) Xs.nd rfl (Or.inl rfl) (x5 zf))
  (zA (zQ (i:=4) Xs.nd rfl (Or.inl rfl) ze)
  (zA (qJ PassesOwn.never rfl (zaO (by rfl) hE (zd (pv 2) zf)) (qv rfl (zS (zK (i:=5) Xs.nd rfl (Or.inl rfl)) (zS (zK (i:=6) Xs.nd rfl (Or.inl rfl)) xD))) (zh (xh ((vN (zI qL (zB zZ (pv 5) ze) (zX xc (by rfl) T.nLen PySem.boot_len (zd (pv 2) zf)) (zM _)) (vO (zI zc4 (zk xf (pv 2) (zB zZ (pv 5) ze) (λ_ _=>rfl)) (pv 6) (zM _))))).pt (zA (zQ (i:=7) Xs.nd rfl (Or.inl rfl) (xj (zd (pv 4) (zd (pv 5) (zd (zP cSi hr2 (zd (pv 0) (zd (pv 6) (zd (pv 1) zf)))) zf)))))
  (zA (xh ((vN (zI jb (pv 4) (pv 5) (zM _)) (vO (zI Qe (zP cCw hr2 (zd (pv 0) (zd (pv 7) zf))) ze (zM _))))).pt (zh (qh (ZG yf yA yB qK (pv 3) (zd (pv 7) zf)))) zT)
  (zh (zQ (i:=4) Xs.nd rfl (Or.inl rfl) (zB zZ (pv 5) ze))))) zT)))
  (zh (zL (pv 3))))))),?_⟩
 refine⟨_,rfl,c,C,dx,fs,_,rfl,hc,TC.cls,TC.tracks,e1,tl,rfl,⟨_,SqL.of htl⟩,λDa hD=>?_⟩
 refine xK (J:=Itl K tl) (n:=1) (js:=[1]) (g:=zO 0) (te:=jg zb6 [] E0 (xJ (xG 0) (xJ (xG 1) jV))) (xs:=tv) (λm v _=>∃z:Int,(trs.map λl=>xl l t)[m]? = some z/\v = .int z) (λ_ _ _ _ _ z=>z) hD (xQ htl) (vk (by rw[htr.1];omega)) ?_ ?_
 ·intro m x zs H2 Q' hx hz s2 hk
  obtain⟨l,el,a,rfl,ha⟩:=htr.2 m x hx
  obtain⟨z1,rfl⟩:=jK hz
  dsimp only[zO]
  exact⟨rfl,_,rfl,_,rfl,a,b,l,t,rfl,s2 _ _ ha,s2 _ _ hb,ztr l (wj el),zt,hk _ _ (zi.refl _) ⟨_,by rw[wg,el];rfl,rfl⟩⟩
 intro ys H1 s1 hy hyl hyR
 dsimp only[zO]
 refine⟨zL0,λG hG=>?_⟩
 dsimp only[zO]
 have S2:zi H1 (upd H1 G (.lst [])):=zi.upd hG
 have hyl8:ys.length<=8:=by rw[hyl,htr.1];exact hl
 have hsl:(trs.map λl=>xl l t).length=ys.length:=by rw[we,hyl,htr.1]
 obtain⟨ss,ess⟩:∃ss,ss=trs.map λl=>xl l t:=⟨_,rfl⟩
 rw[<-ess]at hyR hsl
 refine⟨_,rfl,Da,ys,rfl,S2 _ _ hy,XW (xs:=ys) (λi σ H'=>zi H1 H'/\(∃gs,H' G=some (.lst gs)/\gs.length<=i/\vv H' gs (rlG ss (fP trs lo hi t) i))/\∃(z5 z6 z7:Option V),σ=[some (.ref c),some (.ref b),some (.ref Da),some (.ref G),some (.int (stG ss i:Nat)),z5,z6,z7])
  ⟨S2,⟨[],zg,wx _,rfl,λi v e=>by simp at e⟩,_,_,_,rfl⟩ (λi σ H' ⟨s',_⟩=>.of (s' _ _ hy)) ?_ ?_⟩
 ·rintro i x σ H' T' hx ⟨s',⟨gs,hgs,hgl,hgr⟩,z5,z6,z7,rfl⟩ hT'
  obtain⟨z,ez,rfl⟩:=hyR i x hx
  have sT:zi H' (upd H' T' (.tup [.int i,.int z])):=zi.upd hT'
  have hTT:upd H' T' (.tup [.int i,.int z]) T'=some (.tup [.int i,.int z]):=zg
  have hgs2:=sT _ _ hgs
  have hgr2:=hgr.keeps (.of sT)
  replace sT:=s'.trans sT
  generalize upd H' T' (.tup [.int i,.int z])=G2 at sT hTT hgs2 hgr2
  have sG:zi H G2:=s1.trans sT
  refine⟨T',_,rfl,.of hTT,rfl,_,_,rfl,_,_,rfl,rfl,?_⟩
  have hil:i<ys.length:=(wk.mp hx).1
  have hst:=vC ss i
  refine XA (λH'=>H'=G2) (brk ss i) (λQ' q=>?_) (λhbk H3 e3=>?_) (λhbk H3 e3=>?_)
  ·refine⟨_,rfl,_,_,rfl,rfl,_,rfl,Da,ys,rfl,.inl (.of (sT _ _ hy)),rfl,_,rfl,qr (λh0=>?_) (λh0=>?_)⟩
   ·have e0:i+1=ss.length:=by
     have:=wD h0
     injection this with this
     omega
    have:brk ss i=true:=by unfold brk;rw[wq e0];rfl
    rw[this]at q
    exact q _ rfl
   ·have hne:i+1<ys.length:=by
     have:¬((i:Int)+1=ys.length):=λz=>h0 (wq (show V.int ((i:Int)+1)=V.int (ys.length:Int) by rw[z]))
     omega
    obtain⟨z',ez',hz'⟩:=hyR (i+1) ys[i+1] (by simp[hne])
    have ha:atI ys ((i:Int)+1)=some (.int z'):=by
     have:=zd3 (xs:=ys) (n:=i+1) (v:=ys[i+1]) (by simp[hne])
     rw[hz']at this
     rw[<-this];rfl
    refine⟨_,rfl,_,rfl,_,_,rfl,rfl,Da,_,_,_,rfl,rfl,.of (sT _ _ hy),ha,_,rfl,rfl,_,rfl,?_⟩
    have:(!decide (V.int z'=V.int z))=brk ss i:=by
     unfold brk
     rw[wI (by omega:¬i+1=ss.length),uV,ez,ez']
     by_cases c:z'=z
     ·rw[c];simp
     ·have c1:¬V.int z'=V.int z:=λy=>c (by injection y)
      rw[wI c1];simp[c]
    rw[this]
    exact q _ rfl
  ·subst e3
   have est:stG ss (i+1)=i+1:=if_pos hbk
   have erl:rlG ss (fP trs lo hi t) (i+1)=rlG ss (fP trs lo hi t) i++(fP trs lo hi t (stG ss i) i).toList:=if_pos hbk
   have hb':i<trs.length:=by rw[ess,we]at hsl;omega
   refine⟨_,rfl,_,rfl,_,rfl,_,rfl,_,rfl,c,b,pb,sb,tk,ws,trs,lo,hi,z,t,rfl,CO.same sG,sG _ _ hb,zt,zlo,zhi,zL3,λgp hgp=>?_⟩
   have s5:zi H3 (upd H3 gp (.tup [.int (stG ss i:Nat),.int i,.str (x6 lo hi t z)])):=zi.upd hgp
   have h5:upd H3 gp (.tup [.int (stG ss i:Nat),.int i,.str (x6 lo hi t z)]) gp=some (.tup [.int (stG ss i:Nat),.int i,.str (x6 lo hi t z)]):=zg
   generalize upd H3 gp (.tup [.int (stG ss i:Nat),.int i,.str (x6 lo hi t z)])=G5 at s5 h5
   have efP:fP trs lo hi t (stG ss i) i=if stG ss i<i\/0<cwN trs (xm (x6 lo hi t z) lo hi) (stG ss i) i then some (stG ss i,i,x6 lo hi t z)else none:=by
    unfold fP
    rw[<-ess,ez];rfl
   dsimp only[zO]
   refine VR (λH'=>zi G5 H') (decide (stG ss i<i\/0<cwN trs (xm (x6 lo hi t z) lo hi) (stG ss i) i)) (λQ' q=>?_) (λhc6 H6 s6=>?_) (λhc6 H6 s6=>?_)
   ·refine⟨_,rfl,_,rfl,_,_,rfl,rfl,_,rfl,qr (λh1=>?_) (λh1=>?_)⟩
    ·have h1':stG ss i<i:=by have:=wD h1;omega
     rw[wq (Or.inl h1')]at q
     exact q _ (zi.refl _)
    ·have h1':¬stG ss i<i:=λz=>h1 (wq (by omega))
     refine⟨_,rfl,_,rfl,c,gp,pb,sb,tk,ws,trs,lo,hi,stG ss i,i,_,rfl,CO.same (sG.trans s5),hl,hst,hb',h5,λH6 s6=>⟨_,_,rfl,rfl,_,rfl,?_⟩⟩
     have:decide ((0:Int)<((cwN trs (xm (x6 lo hi t z) lo hi) (stG ss i) i:Nat):Int))=decide (stG ss i<i\/0<cwN trs (xm (x6 lo hi t z) lo hi) (stG ss i) i):=by
      rw[yv,wH,wH]
      constructor
      ·intro y;exact .inr (by omega)
      ·rintro (y | y)
       ·exact absurd y h1'
       ·omega
     rw[this]
     exact q _ s6
   ·have S6:=sT.trans (s5.trans s6)
    have hgs6:=(s5.trans s6) _ _ hgs2
    refine⟨_,rfl,.inl ⟨rfl,gs,.of hgs6⟩,_,rfl,G,gs,_,rfl,rfl,hgs6,vk (by omega),?_⟩
    have TuG:zY H6 (upd H6 G (.lst (gs++[.ref gp]))):=.upd hgs6
    refine⟨_,rfl,_,_,rfl,rfl,⟨λb' o' e'=>?_,⟨gs++[.ref gp],zg,by simp;omega,?_⟩,some (.int i),some (.int z),some (.ref gp),?_⟩⟩
    ·rw[zE (zG e' hG)];exact S6 _ _ e'
    ·rw[erl,efP,if_pos (wD hc6)]
     exact(((hgr2.keeps (.of s5)).keeps (.of s6)).keeps TuG).snoc ⟨gp,rfl,TuG _ _ (s6 _ _ h5)⟩
    ·rw[est];rfl
   ·have S6:=sT.trans (s5.trans s6)
    refine⟨_,rfl,_,_,rfl,rfl,⟨S6,⟨gs,(s5.trans s6) _ _ hgs2,by omega,?_⟩,some (.int i),some (.int z),some (.ref gp),?_⟩⟩
    ·rw[erl,efP,if_neg (of_decide_eq_false hc6)]
     show vv H6 gs (_++[])
     rw[yb]
     exact(hgr2.keeps (.of s5)).keeps (.of s6)
    ·rw[est];rfl
  ·subst e3
   have est:stG ss (i+1)=stG ss i:=if_neg (by rw[hbk];simp)
   have erl:rlG ss (fP trs lo hi t) (i+1)=rlG ss (fP trs lo hi t) i:=if_neg (by rw[hbk];simp)
   exact⟨sT,⟨gs,hgs2,by omega,by rw[erl];exact hgr2⟩,some (.int i),some (.int z),z7,by rw[est];rfl⟩
 ·rintro σ H' ⟨s',⟨gs,hgs,_,hgr⟩,z5,z6,z7,rfl⟩
  refine⟨_,rfl,k G gs H' (s1.trans s') (s1.free hG) hgs ?_⟩
  unfold grP
  rw[<-ess]
  have:ys.length=trs.length:=by rw[<-hsl,ess,we]
  rw[<-this];exact hgr
end
section
variable {P:Program}{w:World}{K:Fg}{mg:Str->Option Value}{base:Heap}{C0:Addr}
inductive zb5 (CS:Addr) (vs:List V) (H:Hp) (Q:VK) (E:XK):Prop
 | mk:∀r wa bs lo hi,(vs=[V.ref r,.ref wa])->(In H r wa bs lo hi)->((∀H',zi H H'->soon (chO bs lo hi)=none->Q .non H'))->((∀t p m G H',zi H H'->soon (chO bs lo hi)=some t->xL lo hi≠some (qD (tkO bs lo hi) t)->H' p=some (.tup [.ref m,.ref G])->zD H' m (qD (tkO bs lo hi) t)->H G=none->(∃gs,H' G=some (.lst gs)/\vv H' gs (grP (trO bs lo hi) (lo.map (trB (pbO bs lo hi) (sbO bs lo hi))) (hi.map (trB (pbO bs lo hi) (sbO bs lo hi))) t))->Q (.ref p) H'))->((∀t p dx H',zi H H'->soon (chO bs lo hi)=some t->xL lo hi=some (qD (tkO bs lo hi) t)->H' dx=some (.xd [("moment",.ref p)])->zD H' p (qD (tkO bs lo hi) t)->E (.ref CS) (some dx) H'))->zb5 CS vs H Q E
theorem zdv:zF ["row","walls","course","ticks"] ["row","walls"] (zr vi):=scq
theorem ziA {C CS fi:Addr}{fdi:FuncData}(D:Df K mg "next_coming" vi ["row","walls"] []) (M:Mk K C fi) (Fi:vP P w K mg base CX0 4 fi fdi ["self","row","walls"] (zfl C)) (hmC:mg "Course" = some (.ref C)) (Bi:vn K fdi ["self","row","walls"] [])
  (cFT:ZW P w K mg base "first_ticks" 5 ["course","walls"] [] (zfm C CS)) (cMo:Cal P w K mg base "moment_of" 3 ["course","ticks"] [] (zb4 C)) (cGr:Cal P w K mg base "groups_at" 3 ["course","ticks"] [] (zfn C)):ZW P w K mg base "next_coming" 6 ["row","walls"] [] (zb5 CS):=by
 refine D.cal1 (k:=5) zdv (λvs H Q E h=>by obtain⟨_,_,_,_,_,rfl,_⟩:=h;rfl) (λf cdv A outer s H vs Q E hr h=>?_)
 obtain⟨r,wa,bs,lo,hi,rfl,I,k1,k2,k3⟩:=h
 obtain⟨us,hrr,hB⟩:=I.row
 obtain⟨v1,v2,hw,h1,h2⟩:=I.walls
 have hr3:xn 3 _:=hr.mono (by decide)
 refine⟨_,zA (zQ (i:=2) zdv.nd rfl (Or.inl rfl) (zaL M Fi hr (by rfl) hmC Bi .nil zc8 (zd (pv 0) (zd (pv 1) zf))))
  (zA (zQ (i:=3) zdv.nd rfl (Or.inl rfl) (zda cFT hr Z4 (zd (pv 2) (zd (pv 1) zf))))
  (zA (xh (zI xW (pv 3) zW (zM _)) (zh (zL zW)) zT)
  (zh (zL (xj (zd (zP cMo hr3 (zd (pv 2) (zd (pv 3) zf))) (zd (zP cGr hr3 (zd (pv 2) (zd (pv 3) zf))) zf))))))),?_⟩
 refine⟨_,rfl,_,rfl,λc dx hc hdx ne=>?_⟩
 have S0:zi H (upd (upd H dx (.own c)) c (.ins C dx [])):=(zi.upd hdx).trans (zi.upd (by rw[zE ne.symm];exact hc))
 refine⟨c,dx,r,wa,us,bs,v1,v2,lo,hi,rfl,zg,S0 _ _ hrr,hB.keeps (.of S0),S0 _ _ hw,h1.keeps (.of S0),h2.keeps (.of S0),I.len,I.sz,λH1 X1 hcn=>⟨rfl,?_⟩⟩
 have hco:=hcn.co
 have S1:zi H H1:=λb o e=>X1 b o (zG e hc) (S0 b o e)
 dsimp only[zO]
 refine⟨_,rfl,_,rfl,c,_,_,_,_,_,_,_,wa,v1,v2,lo,hi,rfl,hco,by rw[we];exact I.len,I.bd,I.tk,S1 _ _ hw,h1.keeps (.of S1),h2.keeps (.of S1),I.lo,I.hi,?_,?_,?_⟩
 ·intro H2 s2 e
  dsimp only[zO]
  exact⟨_,rfl,rfl,_,rfl,xw (k1 H2 (S1.trans s2) e)⟩
 ·intro v t H2 s2 e n hv
  obtain⟨ta,rfl,hta⟩:=hv
  dsimp only[zO]
  refine⟨_,rfl,rfl,_,rfl,xo ?_⟩
  have so:=Vt I.bd e
  obtain⟨dx',fs,hc2,F⟩:=hco.same s2
  obtain⟨tp,etp,htp⟩:=F.tick
  refine⟨_,rfl,_,rfl,c,ta,dx',fs,tp,_,t.1,t.2,rfl,hc2,etp,htp,hta,by omega,so.2.1.mono (by decide),so.2.2.mono (by decide),I.tk,λm H3 s3 hm=>?_⟩
  refine⟨_,rfl,_,rfl,c,ta,_,_,_,_,_,_,_,t,rfl,hco.same (s2.trans s3),by rw[we];exact I.len,s3 _ _ hta,⟨so.2.1.mono (by decide),so.2.2.mono (by decide)⟩,?_,?_,?_,λG gs H4 s4 hGn hG hgr=>?_⟩
  ·intro l hl
   have:=I.bd l (wT _ (wC _ hl))
   exact⟨this.1.mono (by decide),this.2.mono (by decide)⟩
  ·intro l hl
   have:=I.bd l (wT _ (wT _ (by rw[hl];simp[VZ])))
   exact⟨this.1.mono (by decide),this.2.mono (by decide)⟩
  ·intro l hl
   have:=I.bd l (wC _ (by rw[hl];simp[VZ]))
   exact⟨this.1.mono (by decide),this.2.mono (by decide)⟩
  ·refine⟨zL2,λp hp=>?_⟩
   exact k2 t p m G _ (S1.trans (s2.trans (s3.trans (s4.trans (zi.upd hp))))) e n zg (zi.upd hp _ _ (s4 _ _ hm)) ((S1.trans (s2.trans s3)).free hGn) ⟨gs,zi.upd hp _ _ hG,hgr.keeps (.of (zi.upd hp))⟩
 ·intro t p d H2 s2 e e' hd hp
  exact⟨CS,rfl,k3 t p d H2 (S1.trans s2) e e' hd hp⟩
end
end KQ
namespace L2
open PySem PySem.Spec PyProof.Rows
structure DfC (K:Fg) (mg:Str->Option Value) (x:Str) (st:Stmt) (ps:List Str) (c P:Addr):Prop where
 ex:∃(f:Addr) (oc:Value) (od:Option Addr) (dV kV doc pm:Value) (an:Option Addr) (ct:Value) (osl:Array (Option Value)),
  K.lookup f=some ⟨oc,od,.func (PySem.W.fnOf x x (qd st) (xC st) (zr st) dV kV doc pm an (.ref c) ct),osl⟩/\PySem.W.codeIn K (.ref c) x=true/\PySem.W.keepIn K (.ref f)=true/\mg x=some (.ref f) ∧
  vn K (PySem.W.fnOf x x (qd st) (xC st) (zr st) dV kV doc pm an (.ref c) ct) ps []
 hd:PySem.W.codeHdIn K c P=true
theorem DfC.calB {P:Program}{w:World}{K:Fg}{mg:Str->Option Value}{base:Heap}{c Tb:Addr}{x:Str}{st:Stmt}{N ps:List Str}{k:Nat}{sp:Sp}(D:DfC K mg x st ps c Tb) (S:zF N ps (zr st)) (len:∀vs H Q E,sp vs H Q E->vs.length=ps.length)
  (hbody:∀(f:Addr) (A:Around) (outer:List Env) (s:Shared) (H:Hp) (vs:List V) (Q:VK) (E:XK),xn k (A.deeper (envOfC x (zr st) s.heap.objs.size f (.ref c)))->sp vs H Q E →
   ∃t,Bx (PSs (jh CX0 P w K mg base N x (zr st) f (.ref c) A outer s H E).nox (xC st) t)/\t { nx:=λ_ H'=>Q .non H',rt:=Q } (vq N vs) H):Cal P w K mg base x (k+1) ps [] sp:=by
 obtain⟨f,oc,od,dV,kV,doc,pm,an,ct,osl,lk,hcd,hk,hm,hb⟩:=D.ex
 refine⟨⟨f,_,[],zav lk hcd S len λA outer s H vs Q E hr hsp=>?_,hm,hk,hb,.nil⟩⟩
 obtain⟨t,⟨h⟩,q⟩:=hbody f A outer s H vs Q E hr hsp
 exact⟨t,h.nox,q⟩
end L2
namespace KQ
open PySem L2 KM KK
theorem xE {t u:TS}{D:vt}{σ:St}{H:Hp}(R:St->Hp->Prop) (h2:∀σ' H',R σ' H'->u D σ' H') (h1:∀nx:St->Hp->Prop,(∀σ' H',R σ' H'->nx σ' H')->t { D with nx:=nx } σ H):Vv t u D σ H:=h1 (u D) h2
def jy (wl:Option (Int×Int)) (t:Int×Int):Int×Int:=match wl with
 | none=>t
 | some w=>(2*w.1 - t.1,2*w.2 - t.2)
def Chg (S:List Addr) (H H':Hp):Prop:=∀b o,b∉S->H b=some o->H' b=some o
def CoT (H:Hp) (C c tl:Addr) (pb sb:Int) (tk:Rat) (ws:List Int) (trs:List (Int×Int)) (lo hi:Option (Int×Int)):Prop:=∃dx fs tv,H c=some (.ins C dx fs)/\CoF H fs pb sb tk ws trs lo hi/\fs.lookup ("tracks":Str)=some (V.ref tl)/\H tl=some (.lst tv)/\qa H tv trs
abbrev laS:Scope:=match (xC Zt).getD 2 (.Pass ⟨0,0,0,0⟩)with
 | .Assign _ (.Call _ _ [⟨_,.Lambda _ _ sc _,_⟩] _) _=>sc
 | _=>zr Zt
abbrev laP:PySem.Pos:=match (xC Zt).getD 2 (.Pass ⟨0,0,0,0⟩)with
 | .Assign _ (.Call _ _ [⟨_,.Lambda _ _ _ p,_⟩] _) _=>p
 | _=>⟨0,0,0,0⟩
abbrev laQ:Str:=(("deal":Str)++(".<locals>.":Str))++("<lambda>":Str)
theorem zi7:zF ["track"] ["track"] laS:=scq
theorem qa.cut {H:Hp}{tv:List V}{trs:List (Int×Int)} (h:qa H tv trs) (lo hi:Option Int):qa H (qt tv lo hi) (vA trs lo hi):=by
 have e:qt tv lo hi=(tv.drop (HT.sIx trs.length 0 lo)).take (HT.sIx trs.length trs.length hi - HT.sIx trs.length 0 lo):=by
  unfold qt;rw[h.1]
 rw[e];unfold vA
 refine⟨by simp only[w5,wW,h.1],λi v ev=>?_⟩
 rw[y7]at ev ⊢
 split at ev
 ·rw[if_pos ‹_›]
  rw[yk]at ev ⊢
  exact h.2 _ v ev
 ·cases ev
theorem qa.map {H:Hp}{tv:List V}{trs:List (Int×Int)}{f:Int×Int->Int×Int}(hl:tv.length=trs.length) (h:∀(i:Nat) (v:V),tv[i]? = some v->∃t,trs[i]? = some t/\vR H v (some (f t))):qa H tv (trs.map f) :=
 ⟨by rw[we];exact hl,λi v e=>by obtain⟨t,e1,e2⟩:=h i v e;exact⟨f t,by rw[wg,e1];rfl,e2⟩⟩
theorem Jb {α β:Type}{f:α->β}{ps qs:List β}(p:ps.Perm qs):∀{l:List α},qs=l.map f->∃l':List α,l'.Perm l/\ps=l'.map f:=by
 induction p with
 | nil=>intro l e;cases l with
  | nil=>exact⟨[],.refl _,rfl⟩
  | cons x l=>cases e
 | cons x p ih=>intro l e;cases l with
  | nil=>cases e
  | cons y l =>
   rw[ye]at e;injection e with e1 e2
   obtain⟨l',h1,h2⟩:=ih e2
   exact⟨y::l',h1.cons _,by rw[ye,h2,e1]⟩
 | swap x y l0=>intro l e;cases l with
  | nil=>cases e
  | cons a l=>cases l with
   | nil=>rw[ye]at e;injection e with _ e2;cases e2
   | cons b l =>
    rw[ye,ye]at e;injection e with e1 e2;injection e2 with e2 e3
    exact⟨b::a::l,List.Perm.swap ..,by rw[ye,ye,e1,e2,e3]⟩
 | trans p1 p2 ih1 ih2 =>
  intro l e
  obtain⟨l1,h1,h2⟩:=ih2 e
  obtain⟨l2,h3,h4⟩:=ih1 h2
  exact⟨l2,h3.trans h1,h4⟩
theorem zb3 {H:Hp}{tv ys:List V}{ts:List (Int×Int)} (h:qa H tv ts) (s:zcg (ts.map Prod.snd) tv ys):∃seg,qa H ys seg/\seg.Perm ts/\seg.Pairwise λx y=>x.2<=y.2:=by
 obtain⟨ps,hp,rfl,hw⟩:=s
 have e:(ts.map Prod.snd).zip tv=(ts.zip tv).map λz=>(z.1.2,z.2):=by rw[List.zip_map_left];rfl
 obtain⟨zs,hz,rfl⟩:=Jb hp e
 have hm:∀z∈zs,vR H z.2 (some z.1):=λz mz=>by
  have mz':=hz.mem_iff.mp mz
  obtain⟨i,hi,ez⟩:=List.getElem_of_mem mz'
  have hi1:i<ts.length:=by rw[ua]at hi;omega
  have hi2:i<tv.length:=by rw[ua]at hi;omega
  obtain⟨t,e1,e2⟩:=h.2 i tv[i] (wf hi2)
  rw[wf hi1]at e1;cases e1
  rw[<-ez,List.getElem_zip];exact e2
 refine⟨zs.map Prod.fst,⟨by simp,λi v ev=>?_⟩,?_,?_⟩
 ·rw[wV,wg]at ev
  cases ez:zs[i]? with
  | none=>rw[ez]at ev;cases ev
  | some z =>
   rw[ez]at ev;cases ev
   exact⟨z.1,by rw[wg,ez];rfl,hm z (wj ez)⟩
 ·have:=hz.map Prod.fst
  rwa [List.map_fst_zip (by rw[h.1];exact wx _)]at this
 ·rw[yr]at hw ⊢
  exact hw
theorem qa.app {H:Hp}{tv uv:List V}{ts us:List (Int×Int)} (h:qa H tv ts) (k:qa H uv us):qa H (tv++uv) (ts++us):=by
 refine⟨by simp[h.1,k.1],λi v e=>?_⟩
 by_cases hi:i<tv.length
 ·rw[wu hi]at e
  rw[wu (by rw[<-h.1];exact hi)]
  exact h.2 i v e
 ·rw[wm (by omega)]at e
  rw[wm (by rw[<-h.1];omega),<-h.1]
  exact k.2 _ v e
theorem qa.take {H:Hp}{tv:List V}{ts:List (Int×Int)} (h:qa H tv ts) (n:Nat):qa H (tv.take n) (ts.take n):=by
 refine⟨by simp[h.1],λi v e=>?_⟩
 rw[y7]at e ⊢
 split at e
 ·rw[if_pos ‹_›];exact h.2 i v e
 ·cases e
theorem qa.drop {H:Hp}{tv:List V}{ts:List (Int×Int)} (h:qa H tv ts) (n:Nat):qa H (tv.drop n) (ts.drop n):=by
 refine⟨by simp[h.1],λi v e=>?_⟩
 rw[yk]at e ⊢
 exact h.2 _ v e
theorem zbV:(jy none)=id:=rfl
section
variable {P:Program}{w:World}{K:Fg}{mg:Str->Option Value}{base:Heap}
inductive zhu (C:Addr) (Tb:Addr) (vs:List V) (H:Hp) (Q:VK) (_e3:XK):Prop
 | mk:∀c tl a b wv pb sb tk ws trs lo hi wl,(vs=[V.ref c,.int (a:Nat),.int (b:Nat),wv])->(CoT H C c tl pb sb tk ws trs lo hi)->(vR H wv wl)->(a<=b)->(b<trs.length)->(trs.length<=8)->((∀t∈trs,BdP 4600 t))->((∀l,wl=some l->BdP 4600 l))->(vQ Tb laQ laP H)->(∀H' seg,Chg [Tb,tl] H H'->vQ Tb laQ laP H'->seg.Perm ((vA trs (some (a:Int)) (some ((b:Int)+1))).map (jy wl))->seg.Pairwise (λx y=>x.2<=y.2)->CoT H' C c tl pb sb tk ws (trs.take a++seg++trs.drop (b+1)) lo hi->Q .non H')->zhu C Tb vs H Q _e3
theorem zdo:zF ["course","first","last","wall","tracks"] ["course","first","last","wall"] (zr Zt):=scq
theorem zit {C cd Tb:Addr}(D:DfC K mg "deal" Zt ["course","first","last","wall"] cd Tb) (TC:TCo K C) (hSo:mg "sorted" = none) (hB:base.BuiltinsAt mg Tb):Cal P w K mg base "deal" 4 ["course","first","last","wall"] [] (zhu C Tb):=by
 refine D.calB (k:=3) zdo (λvs H Q E h=>by obtain⟨_,_,_,_,_,_,_,_,_,_,_,_,_,rfl,_⟩:=h;rfl) (λf A outer s H vs Q E hr h=>?_)
 obtain⟨c,tl,a,b,wv,pb,sb,tk,ws,trs,lo,hi,wl,rfl,⟨dx,fs,tv,hc,F,elt,htl,hTv⟩,hwv,hab,hbl,hl8,zt,zw,T0,k⟩:=h
 refine⟨_,(zC (Bx.mk (zQ (i:=4) zdo.nd rfl (Or.inl rfl) (qj jv (xp (pv 0) rfl) (xH (pv 1)) (xH (zB zZ (pv 2) ze)))))
  (zC (Bx.mk (xh (zI qz (pv 3) zW (zM _)) (zh (vd (i:=4) (NB:=["start","speed"]) (FR:=["wall"]) (js:=[3]) rfl rfl (λ_ _ h=>h) (.cons rfl rfl rfl ⟨_,rfl⟩ .nil) rfl (by decide +kernel) rfl (by decide +kernel) zdo.nd rfl rfl (by rfl) (xN (pv 4)) (by intro _ _ _;refine⟨?_,?_,?_⟩;(exact(jY (K:=K) (n:=2) rfl rfl (zS (zK (i:=0) (show List.Nodup (["start","speed","wall"]:List Str) by decide +kernel) rfl (Or.inl rfl)) (zS (zK (i:=1) (show List.Nodup (["start","speed","wall"]:List Str) by decide +kernel) rfl (Or.inl rfl)) xD))));(exact xI);(exact(xj (zd (zB xZ (zB zU ze (zk (qy (K:=K) rfl) (pv 2) ze (λ_ _=>rfl))) (pv 0)) (zd (zB xZ (zB zU ze (zk (qy (K:=K) rfl) (pv 2) ze (λ_ _=>rfl))) (pv 1)) zf))))))) zT))
  (Bx.mk (zh (qg (zdc rfl rfl D.hd rfl rfl hB rfl hr zi7 (λ_ _ _ _=>rfl) rfl hSo (zd (pv 4) zf) (λ_ _ _ _=>zk (qy (K:=K) rfl) (pv 0) ze (λ_ _=>rfl))) (zdd (xp (pv 0) rfl) (xH (pv 1)) (xH (zB zZ (pv 2) ze)))))))),?_⟩
 refine⟨_,rfl,c,C,dx,_,_,rfl,hc,TC.cls,TC.tracks,elt,?_⟩
 refine⟨_,rfl,_,rfl,_,rfl,_,_,rfl,rfl,_,rfl,tl,tv,rfl,.of htl,λq1 hq1=>?_⟩
 have s1:=zi.upd (o:=.lst (qt tv (some (a:Int)) (some ((b:Int)+1)))) hq1
 have hq1':upd H q1 (.lst (qt tv (some (a:Int)) (some ((b:Int)+1)))) q1=some (.lst (qt tv (some (a:Int)) (some ((b:Int)+1)))):=zg
 generalize upd H q1 (.lst (qt tv (some (a:Int)) (some ((b:Int)+1))))=G1 at s1 hq1'
 have hcut:=(hTv.cut (some (a:Int)) (some ((b:Int)+1)))
 have hcl:(qt tv (some (a:Int)) (some ((b:Int)+1))).length<=8:=wS (vT _ _ _) (by rw[hTv.1];exact hl8)
 have zc:∀t∈vA trs (some (a:Int)) (some ((b:Int)+1)),BdP 4600 t:=λt mt=>zt t (yP (yQ mt))
 dsimp only[zO]
 refine xE (λσ' G=>∃q2 tv2,σ'=[some (.ref c),some (.int (a:Int)),some (.int (b:Int)),some wv,some (.ref q2)]/\zi H G/\H q2=none/\G q2=some (.lst tv2)/\qa G tv2 ((vA trs (some (a:Int)) (some ((b:Int)+1))).map (jy wl))) ?_ ?_
 rotate_left
 ·intro nx hnx
  cases wl with
  | none =>
   obtain rfl:wv = .non:=hwv
   exact⟨_,rfl,rfl,_,rfl,xo (hnx _ _ ⟨q1,_,rfl,s1,hq1,hq1',by rw[zbV,List.map_id];exact hcut.keeps (.of s1)⟩)⟩
  | some w0 =>
   obtain⟨aw,rfl,haw⟩:=hwv
   have zw0:=zw w0 rfl
   refine⟨_,rfl,rfl,_,rfl,xw ?_⟩
   refine⟨_,rfl,q1,rfl,⟨_,SqL.of hq1'⟩,λDc hDc=>?_⟩
   refine xK (js:=[3]) (J:=Itl K q1) (g:=Vc K 2 (v9 (zO 0) (v9 (zO 1) JJ))) (te:=_) (n:=2) (xs:=qt tv (some (a:Int)) (some ((b:Int)+1))) (λi v G=>∃t,(vA trs (some (a:Int)) (some ((b:Int)+1)))[i]? = some t/\vR G v (some (jy (some w0) t))) (λi v G G' e ⟨t,h1,h2⟩=>⟨t,h1,h2.keeps e⟩) hDc (xQ hq1') (xk (by omega)) ?_ ?_
   ·intro i x zs H2 Q' hx hz s2 hk
    obtain⟨z1,z2,rfl⟩:=zii hz
    obtain⟨t,et,at',rfl,hat⟩:=(hcut.keeps (.of (s1.trans s2))).2 i x hx
    have zt0:=zc t (wj et)
    have haw2:=s2 _ _ (s1 _ _ haw)
    refine⟨at',_,rfl,.of hat,rfl,_,_,rfl,_,_,rfl,rfl,rfl,?_⟩
    refine⟨_,rfl,aw,_,_,_,rfl,rfl,.of haw2,rfl,_,_,rfl,rfl,⟨Bd.mono (m:=3) (show (2:Int).natAbs<2^3 by decide) (by decide),zw0.1.mono (by decide)⟩,_,rfl,_,_,rfl,rfl,?_⟩
    refine⟨_,rfl,aw,_,_,_,rfl,rfl,.of haw2,rfl,_,_,rfl,rfl,⟨Bd.mono (m:=3) (show (2:Int).natAbs<2^3 by decide) (by decide),zw0.2.mono (by decide)⟩,_,rfl,_,_,rfl,rfl,?_⟩
    refine⟨zL2,λtp htp=>hk _ _ (zi.upd htp) ⟨t,et,tp,rfl,zg⟩⟩
   ·intro ys G2 s2 hD2 hly hyR
    refine hnx _ _ ⟨Dc,ys,rfl,s1.trans s2,?_,hD2,qa.map (by rw[hly];exact hcut.1) hyR⟩
    cases e:H Dc with
    | none=>rfl
    | some o=>rw[s1 _ _ e]at hDc;cases hDc
 rintro σ' G2 ⟨q2,tv2,rfl,S2,hq2,hq2',hT2⟩
 have T2:=T0.same S2
 obtain⟨ps0,hTb2,_⟩:=id T2
 have neT:∀{b:Addr}{o:HO},G2 b=some o->(∀ps,o≠.tbl ps)->b≠Tb:=λ{b o} e n z=>by rw[z,hTb2]at e;cases e;exact n _ rfl
 refine⟨_,rfl,q2,tv2,((vA trs (some (a:Int)) (some ((b:Int)+1))).map (jy wl)).map Prod.snd,rfl,hq2',T2,by rw[we];exact hT2.1.symm,?_,λi v kk ev ek H2 st=>?_,λDn ys H2 st T3 hDn hK=>?_⟩
 ·have:=hT2.1
  rw[we]at this
  have:tv2.length<=8:=by rw[this,<-hcut.1];exact hcl
  omega
 ·obtain⟨t,et,at',rfl,hat⟩:=hT2.2 i v ev
  rw[wg,et]at ek
  cases ek
  have h2:=st _ _ hat (neT hat (λ_ z=>by cases z))
  exact⟨_,rfl,at',_,_,_,rfl,rfl,.of h2,rfl,rfl,rfl⟩
 have S3:zi H2 (upd H2 Dn (.lst ys)):=zi.upd hDn
 have CH:Chg [Tb] H (upd H2 Dn (.lst ys)):=λb o nb e=>S3 _ _ (st b o (S2 b o e) (by simpa using nb))
 have neH:∀{b:Addr}{o:HO},H b=some o->(∀ps,o≠.tbl ps)->b∉[Tb]:=λ{b o} e n z=>neT (S2 _ _ e) n (by simpa using z)
 have hc3:=CH c _ (neH hc (λ_ z=>by cases z)) hc
 have htl3:=CH tl _ (neH htl (λ_ z=>by cases z)) htl
 have hD3:upd H2 Dn (.lst ys) Dn=some (.lst ys):=zg
 have hDtl:tl≠Dn:=λz=>by
  have:=st tl _ (S2 _ _ htl) (neT (S2 _ _ htl) (λ_ z=>by cases z))
  rw[z,hDn]at this;cases this
 have T4:=T3.same S3
 have TuH:zY H (upd H2 Dn (.lst ys)):=λb xs e=>CH b _ (neH e (λ_ z=>by cases z)) e
 have TuG:zY G2 (upd H2 Dn (.lst ys)):=λb xs e=>S3 _ _ (st b _ e (neT e (λ_ z=>by cases z)))
 obtain⟨seg,hseg,hperm,hpw⟩:=zb3 (hT2.keeps TuG) hK
 generalize upd H2 Dn (.lst ys)=G3 at CH hc3 htl3 hD3 T4 TuH TuG hseg
 have hys:ys.length<=8:=by
  have e1:=hseg.1
  have e2:=hperm.length_eq
  rw[we]at e2
  rw[e1,e2,<-hcut.1];exact hcl
 have htvl:tv.length=trs.length:=hTv.1
 refine⟨_,rfl,c,C,dx,_,_,rfl,hc3,TC.cls,TC.tracks,elt,_,rfl,_,rfl,_,rfl,_,_,rfl,rfl,_,rfl,tl,Dn,tv,ys,(a:Int),((b:Int)+1),rfl,rfl,rfl,rfl,htl3,hD3,hDtl,by omega,by omega,by omega,szl (by omega),?_⟩
 have CH2:Chg [tl] G3 (upd G3 tl (.lst (tv.take ((a:Int)).toNat++ys++tv.drop ((b:Int)+1).toNat))):=λb o nb e=>by rw[zE (by simpa using nb)];exact e
 have hE:upd G3 tl (.lst (tv.take ((a:Int)).toNat++ys++tv.drop ((b:Int)+1).toNat)) tl=some (.lst (tv.take a++ys++tv.drop (b+1))):=zg
 have Tu2:zY G3 (upd G3 tl (.lst (tv.take ((a:Int)).toNat++ys++tv.drop ((b:Int)+1).toNat))):=.upd htl3
 generalize upd G3 tl (.lst (tv.take ((a:Int)).toNat++ys++tv.drop ((b:Int)+1).toNat))=G4 at CH2 hE Tu2
 have TuA:zY H G4:=TuH.trans Tu2
 have CHA:Chg [Tb,tl] H G4:=λb o nb e=>CH2 b o (λz=>nb (by simp at z;simp[z])) (CH b o (λz=>nb (by simp at z;simp[z])) e)
 have ntl:∀{b:Addr}{o:HO},H b=some o->(∀xs,o≠.lst xs)->(∀ps,o≠.tbl ps)->b∉[Tb,tl]:=λ{b o} e n1 n2 z=>by
  rcases wy.mp z with z | z
  ·exact neH e n2 (by simp[z])
  ·have:b=tl:=by simpa using z
   rw[this,htl]at e;cases e;exact n1 _ rfl
 refine k G4 seg CHA ?_ hperm hpw ?_
 ·obtain⟨ps,g1,g2,g3⟩:=T4
  have nT:Tb∉[tl]:=λz=>by
   have:Tb=tl:=by simpa using z
   rw[this,htl3]at g1;cases g1
  refine⟨ps,CH2 _ _ nT g1,g2,?_⟩
  rcases g3 with g3 | ⟨c',g3,g4⟩
  ·exact .inl g3
  ·exact .inr ⟨c',g3,CH2 _ _ (λz=>by
    have:c'=tl:=by simpa using z
    rw[this,htl3]at g4;cases g4) g4⟩
 ·obtain⟨tp,f1,f2⟩:=F.tick
  obtain⟨wl',f3,f4⟩:=F.weights
  obtain⟨v1,f5,f6⟩:=F.low
  obtain⟨v2,f7,f8⟩:=F.high
  have hTn:qa G4 (tv.take a++ys++tv.drop (b+1)) (trs.take a++seg++trs.drop (b+1)):=(((hTv.keeps TuA).take a).app (hseg.keeps Tu2)).app ((hTv.keeps TuA).drop (b+1))
  refine⟨dx,fs,_,CHA c _ (ntl hc (λ_ z=>by cases z) (λ_ z=>by cases z)) hc,⟨F.pb,F.sb,⟨tp,f1,TuA _ _ f2⟩,⟨wl',f3,?_⟩,⟨tl,_,elt,hE,hTn⟩,⟨v1,f5,f6.keeps TuA⟩,⟨v2,f7,f8.keeps TuA⟩,F.len⟩,elt,hE,hTn⟩
  refine CHA wl' _ (λz=>?_) f4
  rcases wy.mp z with z | z
  ·exact neH f4 (λ_ z=>by cases z) (by simp[z])
  ·have z:wl'=tl:=by simpa using z
   rw[z,htl]at f4
   have ev:tv=ws.map V.int:=by injection f4 with f4;injection f4
   have h0:0<tv.length:=by omega
   obtain⟨t,_,at',e1,_⟩:=hTv.2 0 tv[0] (wf h0)
   have:tv[0]∈ws.map V.int:=by rw[<-ev];exact uK h0
   obtain⟨n,_,en⟩:=ww.mp this
   rw[e1]at en;cases en
end
end KQ
namespace L2
open PySem PySem.Spec PyProof.Rows
section
variable {X:Cx}
theorem zax:zh1 X .Mult (rI XG λi j=>.int (i*j)):=by
 rintro pins s σ H x y u v Q I rx ry ⟨i,j,rfl,rfl,hc,q⟩
 obtain⟨t,rfl⟩:=(show ∃t,u=Value.int i t from rx)
 obtain⟨t',rfl⟩:=(show ∃t',v=Value.int j t' from ry)
 exact PyProof.Rows.imul_int ⟨.int (i*j),H,I.tok _,⟨_,rfl⟩,q⟩ (IntMulOk.of_le hc.1.bits hc.2.bits (by decide))
theorem qY {f:Str}{v x:V}:∀{fs:List (Str×V)},fs.lookup f=some x->(xX f v fs).length=fs.length
 | [],h=>by cases h
 | (g,y)::r,h=>by
  unfold xX
  by_cases e:g=f
  ·rw[if_pos e];rfl
  ·rw[if_neg e]
   have:(f == g)=false:=beq_eq_false_iff_ne.mpr (λz=>e z.symm)
   rw[List.lookup_cons,this]at h
   rw[wG,wG,qY h]
end
end L2
namespace KQ
open PySem L2 KM KK
def scT (m:Int) (t:Int×Int):Int×Int:=(t.1*m,t.2*m)
section
variable {P:Program}{w:World}{K:Fg}{mg:Str->Option Value}{base:Heap}
inductive zhI  (vs:List V) (H:Hp) (Q:VK) (_e3:XK):Prop
 | mk:∀v m o,(vs=[v,.int m])->(vR H v o)->(Bd 5000 m)->((∀t,o=some t->BdP 5000 t))->(∀v' H',zi H H'->vR H' v' (o.map (scT m))->Q v' H')->zhI vs H Q _e3
theorem zjc:zF ["track","many"] ["track","many"] (zr Za):=scq
theorem ziJ (D:Df K mg "refined" Za ["track","many"] []):Cal P w K mg base "refined" 1 ["track","many"] [] zhI:=by
 refine D.cal (k:=0) zjc (λvs H Q E h=>by obtain⟨_,_,_,rfl,_⟩:=h;rfl) (λf cdv A outer s H vs Q E hr h=>?_)
 obtain⟨v,m,o,rfl,hv,zm,zo,k⟩:=h
 refine⟨_,(zA (xh (zI xW (pv 0) zW (zM _)) (zh (zL zW)) zT)
  (zh (zL (xj (zd (zB zU (zk zj (pv 0) ze (λ_ _=>rfl)) (pv 1)) (zd (zB zU (zk zj (pv 0) ze (λ_ _=>rfl)) (pv 1)) zf)))))),?_⟩
 cases o with
 | none =>
  obtain rfl:v = .non:=hv
  exact⟨_,rfl,rfl,_,rfl,xw (k _ _ (zi.refl _) rfl)⟩
 | some t =>
  obtain⟨a,rfl,ha⟩:=hv
  have z:=zo t rfl
  refine⟨_,rfl,rfl,_,rfl,xo ?_⟩
  refine⟨_,rfl,a,_,_,_,rfl,rfl,.of ha,rfl,_,rfl,_,_,rfl,rfl,⟨z.1.mono (by decide),zm.mono (by decide)⟩,_,rfl,a,_,_,_,rfl,rfl,.of ha,rfl,_,rfl,_,_,rfl,rfl,⟨z.2.mono (by decide),zm.mono (by decide)⟩,zL2,λtp htp=>?_⟩
  exact k _ _ (zi.upd htp) ⟨tp,rfl,zg⟩
inductive zhH (C:Addr) (vs:List V) (H:Hp) (Q:VK) (_e3:XK):Prop
 | mk:∀c tl m pb sb tk ws trs lo hi,(vs=[V.ref c,.int m])->(CoT H C c tl pb sb tk ws trs lo hi)->(trs.length<=8)->(Bd 5000 m)->(Bd 5000 pb)->(Bd 5000 sb)->((∀t∈trs,BdP 5000 t))->((∀l,lo=some l->BdP 5000 l))->((∀l,hi=some l->BdP 5000 l))->(∀H' tl',xi c H H'->H tl'=none->CoT H' C c tl' (pb*m) (sb*m) tk ws (trs.map (scT m)) (lo.map (scT m)) (hi.map (scT m))->Q .non H')->zhH C vs H Q _e3
theorem zjb:zF ["course","many"] ["course","many"] (zr ZQ):=scq
theorem ziI {C:Addr}(D:Df K mg "refine" ZQ ["course","many"] []) (TC:TCo K C) (cRf:Cal P w K mg base "refined" 1 ["track","many"] [] zhI):Cal P w K mg base "refine" 2 ["course","many"] [] (zhH C):=by
 refine D.calB (k:=1) zjb (λvs H Q E h=>by obtain⟨_,_,_,_,_,_,_,_,_,_,rfl,_⟩:=h;rfl) (λf cdv A outer s H vs Q E hr h=>?_)
 obtain⟨c,tl,m,pb,sb,tk,ws,trs,lo,hi,rfl,⟨dx,fs,tv,hc,F,elt,htl,hTv⟩,hl8,zm,zpb,zsb,zt,zlo,zhi,k⟩:=h
 obtain⟨tp,f1,f2⟩:=F.tick
 obtain⟨wl',f3,f4⟩:=F.weights
 obtain⟨v1,f5,f6⟩:=F.low
 obtain⟨v2,f7,f8⟩:=F.high
 have flen:=F.len
 refine⟨_,(zC (Bx.mk (QO (pv 0) (pv 1) zax))
  (zC (Bx.mk (QO (pv 0) (pv 1) zax))
  (zC (Bx.mk (v6 (pv 0) (jO (NB:=["track"]) (FR:=["many"]) (js:=[1]) rfl rfl (λ_ _ h=>h) (.cons rfl rfl rfl ⟨_,rfl⟩ .nil) rfl (by decide +kernel) rfl (by decide +kernel) (xN (xp (pv 0) rfl)) (by intro _ _ _;refine⟨?_,?_,?_⟩;(exact(zK (i:=0) (show List.Nodup (["track","many"]:List Str) by decide +kernel) rfl (Or.inl rfl)));(exact xI);(exact(zP cRf hr (zd (pv 0) (zd (pv 1) zf)))))) rfl))
  (zC (Bx.mk (v6 (pv 0) (zP cRf hr (zd (xp (pv 0) rfl) (zd (pv 1) zf))) rfl))
  (Bx.mk (zh (v6 (pv 0) (zP cRf hr (zd (xp (pv 0) rfl) (zd (pv 1) zf))) rfl))))))),?_⟩
 have nc:∀{G:Hp}{dx:Addr}{fs:List (Str×V)}{b:Addr}{o:HO},G c=some (.ins C dx fs)->G b=some o->(∀dx fs,o≠.ins C dx fs)->b≠c:=λh1 h2 h3 z=>by subst z;rw[h1]at h2;cases h2;exact h3 _ _ rfl
 refine⟨_,rfl,c,C,dx,fs,_,rfl,hc,TC.cls,TC.pb,F.pb,_,rfl,_,_,rfl,rfl,⟨zpb.mono (by decide),zm.mono (by decide)⟩,dx,fs,hc,by omega,?_⟩
 have l1:(xX ("place_bottom":Str) (.int (pb*m)) fs).length=fs.length:=qY F.pb
 have e1:∀g:Str,g≠"place_bottom"->(xX ("place_bottom":Str) (.int (pb*m)) fs).lookup g=fs.lookup g:=λg n=>by rw[xB,if_neg n]
 have p1:(xX ("place_bottom":Str) (.int (pb*m)) fs).lookup ("place_bottom":Str)=some (.int (pb*m)):=by rw[xB,if_pos rfl]
 generalize xX ("place_bottom":Str) (.int (pb*m)) fs=fs1 at l1 e1 p1
 have X1:xi c H (upd H c (.ins C dx fs1)):=.upd
 have c1:upd H c (.ins C dx fs1) c=some (.ins C dx fs1):=zg
 generalize upd H c (.ins C dx fs1)=G1 at X1 c1
 refine⟨_,rfl,c,C,dx,fs1,_,rfl,c1,TC.cls,TC.sb,(e1 _ (by decide)).trans F.sb,_,rfl,_,_,rfl,rfl,⟨zsb.mono (by decide),zm.mono (by decide)⟩,dx,fs1,c1,by omega,?_⟩
 have l2:(xX ("speed_bottom":Str) (.int (sb*m)) fs1).length=fs1.length:=qY ((e1 _ (by decide)).trans F.sb)
 have e2:∀g:Str,g≠"speed_bottom"->(xX ("speed_bottom":Str) (.int (sb*m)) fs1).lookup g=fs1.lookup g:=λg n=>by rw[xB,if_neg n]
 have p2:(xX ("speed_bottom":Str) (.int (sb*m)) fs1).lookup ("speed_bottom":Str)=some (.int (sb*m)):=by rw[xB,if_pos rfl]
 generalize xX ("speed_bottom":Str) (.int (sb*m)) fs1=fs2 at l2 e2 p2
 have X2:xi c H (upd G1 c (.ins C dx fs2)):=X1.trans .upd
 have c2:upd G1 c (.ins C dx fs2) c=some (.ins C dx fs2):=zg
 generalize upd G1 c (.ins C dx fs2)=G2 at X2 c2
 have t2:zY H G2:=X2.tup hc
 have htl2:=X2 _ _ (nc hc htl (λ_ _ z=>by cases z)) htl
 try dsimp only
 refine v4 (K:=K) ?_
 refine⟨_,rfl,c,C,dx,fs2,_,rfl,c2,TC.cls,TC.tracks,(e2 _ (by decide)).trans ((e1 _ (by decide)).trans elt),tl,rfl,⟨_,SqL.of htl2⟩,λD3 hD3=>?_⟩
 refine xK (J:=Itl K tl) (n:=1) (js:=[1]) (g:=zO 0) (te:=_) (xs:=tv) (λi v G=>∃t,trs[i]? = some t/\vR G v (some (scT m t))) (λ_ _ _ _ t ⟨x,h1,h2⟩=>⟨x,h1,h2.keeps t⟩) hD3 (xQ htl2) (xk (by have:=hTv.1;omega)) ?_ ?_
 ·intro i x zs H3 Q' hx hz s3 hk
  obtain⟨z1,rfl⟩:=jK hz
  obtain⟨t,et,hat⟩:=(hTv.keeps (t2.trans (.of s3))).2 i x hx
  dsimp only[zO]
  exact⟨rfl,_,rfl,_,rfl,x,m,some t,rfl,hat,zm,λu e=>by cases e;exact zt t (wj et),λv' H' s' h'=>hk _ _ s' ⟨t,et,h'⟩⟩
 intro y3 H3 s3 hy3 hyl3 hyR3
 refine qE (by rfl) (s3 _ _ c2) TC.cls TC.tracks (by omega) λG3 X3' c3=>?_
 have l3:(xX ("tracks":Str) (.ref D3) fs2).length=fs2.length:=qY ((e2 _ (by decide)).trans ((e1 _ (by decide)).trans elt))
 have e3:∀g:Str,g≠"tracks"->(xX ("tracks":Str) (.ref D3) fs2).lookup g=fs2.lookup g:=λg n=>by rw[xB,if_neg n]
 have p3:(xX ("tracks":Str) (.ref D3) fs2).lookup ("tracks":Str)=some (.ref D3):=by rw[xB,if_pos rfl]
 generalize xX ("tracks":Str) (.ref D3) fs2=fs3 at l3 e3 p3 c3
 have X3:xi c H G3:=X2.trans ((xi.of s3).trans X3')
 have t3:zY H G3:=X3.tup hc
 have hy3':G3 D3=some (.lst y3):=X3' _ _ (nc (s3 _ _ c2) hy3 (λ_ _ z=>by cases z)) hy3
 have hD3H:H D3=none:=by
  cases e:H D3 with
  | none=>rfl
  | some o =>
   by_cases hz:D3=c
   ·rw[hz,c2]at hD3;cases hD3
   ·rw[X2 _ _ hz e]at hD3;cases hD3
 have hT3:qa G3 y3 (trs.map (scT m)):=(qa.map (by rw[hyl3];exact hTv.1) hyR3).keeps (X3'.tup (s3 _ _ c2))
 have g5:fs3.lookup ("low":Str)=some v1:=(e3 _ (by decide)).trans ((e2 _ (by decide)).trans ((e1 _ (by decide)).trans f5))
 have g7:fs3.lookup ("high":Str)=some v2:=(e3 _ (by decide)).trans ((e2 _ (by decide)).trans ((e1 _ (by decide)).trans f7))
 refine v4 (K:=K) ?_
 refine VJ ⟨_,rfl,c,C,dx,fs3,_,rfl,c3,TC.cls,TC.low,g5,_,rfl,v1,m,lo,rfl,f6.keeps t3,zm,zlo,λlv H4 s4 hlv=>?_⟩
 refine qE (by rfl) (s4 _ _ c3) TC.cls TC.low (by omega) λG4 X4' c4=>?_
 have l4:(xX ("low":Str) lv fs3).length=fs3.length:=qY g5
 have e4:∀g:Str,g≠"low"->(xX ("low":Str) lv fs3).lookup g=fs3.lookup g:=λg n=>by rw[xB,if_neg n]
 have p4:(xX ("low":Str) lv fs3).lookup ("low":Str)=some lv:=by rw[xB,if_pos rfl]
 generalize xX ("low":Str) lv fs3=fs4 at l4 e4 p4 c4
 have X34:xi c G3 G4:=(xi.of s4).trans X4'
 have X4:xi c H G4:=X3.trans X34
 have t4:zY H G4:=X4.tup hc
 have hlv4:=hlv.keeps (X4'.tup (s4 _ _ c3))
 have g8:fs4.lookup ("high":Str)=some v2:=(e4 _ (by decide)).trans g7
 refine zaG (K:=K) ?_
 refine VJ ⟨_,rfl,c,C,dx,fs4,_,rfl,c4,TC.cls,TC.high,g8,_,rfl,v2,m,hi,rfl,f8.keeps t4,zm,zhi,λhv H5 s5 hhv=>?_⟩
 refine qE (rest:=vt.nx) (by rfl) (s5 _ _ c4) TC.cls TC.high (by omega) λG5 X5' c5=>?_
 have l5:(xX ("high":Str) hv fs4).length=fs4.length:=qY g8
 have e5:∀g:Str,g≠"high"->(xX ("high":Str) hv fs4).lookup g=fs4.lookup g:=λg n=>by rw[xB,if_neg n]
 have p5:(xX ("high":Str) hv fs4).lookup ("high":Str)=some hv:=by rw[xB,if_pos rfl]
 generalize xX ("high":Str) hv fs4=fs5 at l5 e5 p5 c5
 have X45:xi c G4 G5:=(xi.of s5).trans X5'
 have X35:=X34.trans X45
 have X5:xi c H G5:=X4.trans X45
 have t5:zY H G5:=X5.tup hc
 have hy5:=X35 _ _ (nc c3 hy3' (λ_ _ z=>by cases z)) hy3'
 have hT5:=hT3.keeps (X35.tup c3)
 have q3:fs5.lookup ("tracks":Str)=some (.ref D3):=(e5 _ (by decide)).trans ((e4 _ (by decide)).trans p3)
 refine k G5 D3 X5 hD3H ⟨dx,fs5,y3,c5,⟨?_,?_,⟨tp,?_,t5 _ _ f2⟩,⟨wl',?_,X5 _ _ (nc hc f4 (λ_ _ z=>by cases z)) f4⟩,⟨D3,y3,q3,hy5,hT5⟩,⟨lv,(e5 _ (by decide)).trans p4,hlv4.keeps (X45.tup c4)⟩,⟨hv,p5,hhv.keeps (X5'.tup (s5 _ _ c4))⟩,by omega⟩,q3,hy5,hT5⟩
 ·exact(e5 _ (by decide)).trans ((e4 _ (by decide)).trans ((e3 _ (by decide)).trans ((e2 _ (by decide)).trans p1)))
 ·exact(e5 _ (by decide)).trans ((e4 _ (by decide)).trans ((e3 _ (by decide)).trans p2))
 ·exact(e5 _ (by decide)).trans ((e4 _ (by decide)).trans ((e3 _ (by decide)).trans ((e2 _ (by decide)).trans ((e1 _ (by decide)).trans f1))))
 ·exact(e5 _ (by decide)).trans ((e4 _ (by decide)).trans ((e3 _ (by decide)).trans ((e2 _ (by decide)).trans ((e1 _ (by decide)).trans f3))))
end
theorem zh8 {α:Type}{xs:List α}{a:Nat}{x y:α}(hx:xs[a]? = some x) (hy:xs[a+1]? = some y):vA xs (some (a:Int)) (some ((a:Int)+2))=[x,y]:=by
 have h2:a+1<xs.length:=(wk.mp hy).1
 unfold vA
 rw[show ((a:Int)+2)=((a+2:Nat):Int) by omega,HT.sIx_nat,HT.sIx_nat]
 have e1:min a xs.length=a:=by omega
 have e2:min (a+2) xs.length - min a xs.length=2:=by omega
 rw[e2,e1]
 obtain⟨h1,rfl⟩:=wk.mp hx
 obtain⟨_,rfl⟩:=wk.mp hy
 rw[ya h1,ya h2]
 rfl
def dvP (l r:Int):Int:=((Int.gcd (l+r) (2*l):Nat):Int)
def mP (l r:Int):Int:=(l+r).fdiv (dvP l r)
def puP (l r:Int):Int:=(2*r).fdiv (dvP l r)
def baP (l r:Int):Int:=(2*l).fdiv (dvP l r)
def ahP (l r:Int):Int:=(l - r).fdiv (dvP l r)
def Zm (l r:Int) (trs:List (Int×Int)) (a:Nat) (x y:Int×Int):List (Int×Int) :=
 ((trs.map (scT (mP l r))).set a (ahP l r*x.1+puP l r*y.1,ahP l r*x.2+puP l r*y.2)).set (a+1) (baP l r*x.1 - ahP l r*y.1,baP l r*x.2 - ahP l r*y.2)
theorem XV {l r:Int}(hl:1<=l) (hr:1<=r):0<dvP l r:=by
 unfold dvP
 have:0<Int.gcd (l+r) (2*l):=yE _ (by omega)
 omega
theorem zar {l r:Int}(hl:1<=l) (hr:1<=r) (hl2:l<=1000) (hr2:r<=1000):dvP l r<=2000:=by
 unfold dvP
 have h:((Int.gcd (l+r) (2*l):Nat):Int)<=l+r:=Int.le_of_dvd (by omega) (yF ..)
 omega
theorem Xo {t d:Int}(hd:0<d) (h : -2000<=t) (h2:t<=2000):Bd 12 (t.fdiv d):=by
 rw[yd _ (by omega)]
 have h1:t/d<=2000:=by
  by_cases z:0<=t
  ·have:=uJ d z;omega
  ·have:t/d<0:=Int.ediv_neg_of_neg_of_pos (by omega) hd
   omega
 have h3 : -2000<=t/d:=by
  have : -2000/d<=t/d:=Int.ediv_le_ediv hd h
  have : -2000 ≤ -2000/d:=by
   rw[Int.le_ediv_iff_mul_le hd]
   have:(2000:Int)*1<=2000*d:=Int.mul_le_mul_of_nonneg_left (by omega) (by decide)
   omega
  omega
 show (t/d).natAbs<2^12
 omega
theorem qa.put {H:Hp}{tv:List V}{ts:List (Int×Int)}{p:Addr}{t:Int×Int}{a:Nat}(h:qa H tv ts) (hp:H p=some (.tup [.int t.1,.int t.2])):qa H (tv.set a (.ref p)) (ts.set a t):=by
 refine⟨by simp[h.1],λi v e=>?_⟩
 rw[Wb]at e ⊢
 by_cases hi:a=i
 ·rw[if_pos hi]at e ⊢
  split at e
  ·cases e
   rw[if_pos (by rw[<-h.1];assumption)]
   exact⟨t,rfl,p,rfl,hp⟩
  ·cases e
 ·rw[if_neg hi]at e ⊢
  exact h.2 i v e
theorem XZ {n a:Nat}(h:a<n):ixN n (a:Int)=some a:=by
 unfold ixN
 rw[if_pos (by omega),if_pos (by omega),yq]
section
variable {P:Program}{w:World}{K:Fg}{mg:Str->Option Value}{base:Heap}
inductive zhC (C:Addr) (vs:List V) (H:Hp) (Q:VK) (_e3:XK):Prop
 | mk:∀c tl a pb sb tk ws trs lo hi l r x y,(vs=[V.ref c,.int (a:Nat)])->(CoT H C c tl pb sb tk ws trs lo hi)->(trs.length<=8)->(ws[a]? = some l)->(ws[a+1]? = some r)->(1<=l)->(l<=1000)->(1<=r)->(r<=1000)->(trs[a]? = some x)->(trs[a+1]? = some y)->(Bd 5000 pb)->(Bd 5000 sb)->((∀t∈trs,BdP 5000 t))->((∀l,lo=some l->BdP 5000 l))->((∀l,hi=some l->BdP 5000 l))->(∀H' tl',xi c H H'->H tl'=none->CoT H' C c tl' (pb*mP l r) (sb*mP l r) tk ws (Zm l r trs a x y) (lo.map (scT (mP l r))) (hi.map (scT (mP l r)))->Q .non H')->zhC C vs H Q _e3
theorem ZR:zF ["course","first","left","right","one","other","divisor","pull","back","ahead"] ["course","first"] (zr Vn):=scq
theorem ziD {C:Addr}(D:Df K mg "part" Vn ["course","first"] []) (TC:TCo K C) (cG:Cal P w K mg base "greatest_divisor" 1 ["one","other"] [] QU) (cRe:Cal P w K mg base "refine" 2 ["course","many"] [] (zhH C)):Cal P w K mg base "part" 3 ["course","first"] [] (zhC C):=by
 refine D.calB (k:=2) ZR (λvs H Q E h=>by obtain⟨_,_,_,_,_,_,_,_,_,_,_,_,_,_,rfl,_⟩:=h;rfl) (λf cdv A outer s H vs Q E hr h=>?_)
 obtain⟨c,tl,a,pb,sb,tk,ws,trs,lo,hi,l,r,x,y,rfl,CT,hl8,hl,hrr,l1,l2,r1,r2,hx,hy,zpb,zsb,zt,zlo,zhi,k⟩:=h
 obtain⟨dx,fs,tv,hc,F,elt,htl,hTv⟩:=id CT
 obtain⟨wl',f3,f4⟩:=F.weights
 have hr1:xn 1 _:=hr.mono (by decide)
 have ha1:a+1<trs.length:=(wk.mp hy).1
 refine⟨_,(zC (Bx.mk (qg (qj jv (xp (pv 0) rfl) (xH (pv 1)) (xH (zB zZ (pv 1) ze))) (zaN rfl (zS (zK (i:=2) ZR.nd rfl (Or.inl rfl)) (zS (zK (i:=3) ZR.nd rfl (Or.inl rfl)) xD)))))
  (zC (Bx.mk (qg (qj jv (xp (pv 0) rfl) (xH (pv 1)) (xH (zB zZ (pv 1) ze))) (zaN rfl (zS (zK (i:=4) ZR.nd rfl (Or.inl rfl)) (zS (zK (i:=5) ZR.nd rfl (Or.inl rfl)) xD)))))
  (zC (Bx.mk (zQ (i:=6) ZR.nd rfl (Or.inl rfl) (zP cG hr1 (zd (zB zZ (pv 2) (pv 3)) (zd (zB zU ze (pv 2)) zf)))))
  (zC (Bx.mk (qh (zP cRe hr (zd (pv 0) (zd (zB qu (zB zZ (pv 2) (pv 3)) (pv 6)) zf)))))
  (zC (Bx.mk (zQ (i:=7) ZR.nd rfl (Or.inl rfl) (zB qu (zB zU ze (pv 3)) (pv 6))))
  (zC (Bx.mk (zQ (i:=8) ZR.nd rfl (Or.inl rfl) (zB qu (zB zU ze (pv 2)) (pv 6))))
  (zC (Bx.mk (zQ (i:=9) ZR.nd rfl (Or.inl rfl) (zB qu (zB xZ (pv 2) (pv 3)) (pv 6))))
  (zC (Bx.mk (qg (xj (zd (zB zZ (zB zU (pv 9) (zk zj (pv 4) ze (λ_ _=>rfl))) (zB zU (pv 7) (zk zj (pv 5) ze (λ_ _=>rfl)))) (zd (zB zZ (zB zU (pv 9) (zk zj (pv 4) ze (λ_ _=>rfl))) (zB zU (pv 7) (zk zj (pv 5) ze (λ_ _=>rfl)))) zf))) (jP (xp (pv 0) rfl) (pv 1) vp)))
  (Bx.mk (zh (qg (xj (zd (zB xZ (zB zU (pv 8) (zk zj (pv 4) ze (λ_ _=>rfl))) (zB zU (pv 9) (zk zj (pv 5) ze (λ_ _=>rfl)))) (zd (zB xZ (zB zU (pv 8) (zk zj (pv 4) ze (λ_ _=>rfl))) (zB zU (pv 9) (zk zj (pv 5) ze (λ_ _=>rfl)))) zf))) (jP (xp (pv 0) rfl) (zB zZ (pv 1) ze) vp)))))))))))),?_⟩
 have cw:qt (ws.map V.int) (some (a:Int)) (some ((a:Int)+2))=[.int l,.int r]:=zh8 (xs:=ws.map V.int) (by rw[wg,hl];rfl) (by rw[wg,hrr];rfl)
 obtain⟨vx,evx⟩:∃v,tv[a]? = some v:=⟨_,wf (by rw[hTv.1];omega)⟩
 obtain⟨vy,evy⟩:∃v,tv[a+1]? = some v:=⟨_,wf (by rw[hTv.1];omega)⟩
 have ct:qt tv (some (a:Int)) (some ((a:Int)+2))=[vx,vy]:=zh8 (xs:=tv) evx evy
 obtain⟨x',ex',ax,rfl,hax⟩:=hTv.2 _ _ evx
 obtain⟨y',ey',ay,rfl,hay⟩:=hTv.2 _ _ evy
 rw[hx]at ex';cases ex'
 rw[hy]at ey';cases ey'
 refine⟨_,rfl,c,C,dx,_,_,rfl,hc,TC.cls,TC.weights,f3,_,rfl,_,rfl,_,rfl,_,_,rfl,rfl,_,rfl,wl',_,rfl,.of f4,λq1 hq1=>?_⟩
 rw[cw]
 have s1:=zi.upd (o:=.lst [.int l,.int r]) hq1
 have hq1':upd H q1 (.lst [.int l,.int r]) q1=some (.lst [.int l,.int r]):=zg
 generalize upd H q1 (.lst [.int l,.int r])=G1 at s1 hq1'
 refine⟨q1,_,rfl,.of hq1',rfl,_,_,rfl,_,_,rfl,rfl,?_⟩
 refine⟨_,rfl,c,C,dx,_,_,rfl,s1 _ _ hc,TC.cls,TC.tracks,elt,_,rfl,_,rfl,_,rfl,_,_,rfl,rfl,_,rfl,tl,_,rfl,.of (s1 _ _ htl),λq2 hq2=>?_⟩
 rw[ct]
 have s2:=zi.upd (o:=.lst [.ref ax,.ref ay]) hq2
 have hq2':upd G1 q2 (.lst [.ref ax,.ref ay]) q2=some (.lst [.ref ax,.ref ay]):=zg
 generalize upd G1 q2 (.lst [.ref ax,.ref ay])=G2 at s2 hq2'
 refine⟨q2,_,rfl,.of hq2',rfl,_,_,rfl,_,_,rfl,rfl,?_⟩
 have S2:=s1.trans s2
 dsimp only[zO]
 have b2:Bd 1000000 2:=Bd.mono (m:=3) (show (2:Int).natAbs<2^3 by decide) (by decide)
 have bl:Bd 1000000 l:=Bd.mono (m:=11) (show l.natAbs<2^11 by omega) (by decide)
 have br:Bd 1000000 r:=Bd.mono (m:=11) (show r.natAbs<2^11 by omega) (by decide)
 have dp:=XV l1 r1
 have dl:=zar l1 r1 l2 r2
 have bd:Bd 8900 (dvP l r):=Bd.mono (m:=12) (show (dvP l r).natAbs<2^12 by omega) (by decide)
 have bm:Bd 12 (mP l r):=Xo dp (by omega) (by omega)
 have bp:Bd 12 (puP l r):=Xo dp (by omega) (by omega)
 have bb:Bd 12 (baP l r):=Xo dp (by omega) (by omega)
 have bh:Bd 12 (ahP l r):=Xo dp (by omega) (by omega)
 refine⟨_,rfl,_,rfl,_,_,rfl,rfl,_,rfl,_,_,rfl,rfl,⟨b2,bl⟩,_,_,rfl,by omega,by omega,?_⟩
 dsimp only[zO]
 show _
 have CT2:CoT G2 C c tl pb sb tk ws trs lo hi:=by
  obtain⟨tp,g1,g2⟩:=F.tick
  obtain⟨v1,g5,g6⟩:=F.low
  obtain⟨v2,g7,g8⟩:=F.high
  exact⟨dx,fs,tv,S2 _ _ hc,⟨F.pb,F.sb,⟨tp,g1,S2 _ _ g2⟩,⟨wl',f3,S2 _ _ f4⟩,⟨tl,tv,elt,S2 _ _ htl,hTv.keeps (.of S2)⟩,⟨v1,g5,g6.keeps (.of S2)⟩,⟨v2,g7,g8.keeps (.of S2)⟩,F.len⟩,elt,S2 _ _ htl,hTv.keeps (.of S2)⟩
 have edv:((Int.gcd (l+r) (2*l):Nat):Int)=dvP l r:=rfl
 rw[edv]
 refine⟨_,rfl,_,rfl,_,rfl,_,_,rfl,rfl,_,rfl,_,_,rfl,rfl,⟨by omega,bd⟩,c,tl,mP l r,pb,sb,tk,ws,trs,lo,hi,rfl,CT2,hl8,bm.mono (by decide),zpb,zsb,zt,zlo,zhi,λG3 tl3 X3 htl3n CT3=>?_⟩
 obtain⟨dx3,fs3,tv3,hc3,F3,elt3,htl3,hTv3⟩:=CT3
 have tu3:zY H G3:=(zY.of S2).trans (X3.tup (S2 _ _ hc))
 try dsimp only
 have epu:(2*r).fdiv (dvP l r)=puP l r:=rfl
 have eba:(2*l).fdiv (dvP l r)=baP l r:=rfl
 have eah:(l - r).fdiv (dvP l r)=ahP l r:=rfl
 refine⟨_,rfl,_,_,rfl,rfl,⟨b2,br⟩,_,rfl,_,_,rfl,rfl,⟨by omega,bd⟩,?_⟩
 dsimp only[zO]
 refine⟨_,rfl,_,_,rfl,rfl,⟨b2,bl⟩,_,rfl,_,_,rfl,rfl,⟨by omega,bd⟩,?_⟩
 dsimp only[zO]
 refine⟨_,rfl,_,rfl,_,_,rfl,rfl,_,rfl,_,_,rfl,rfl,⟨by omega,bd⟩,?_⟩
 dsimp only[zO]
 rw[epu,eba,eah]
 have zx:=zt x (wj hx)
 have zy:=zt y (wj hy)
 have lt3:tv3.length=trs.length:=by rw[hTv3.1,we]
 have hax3:=tu3 _ _ hax
 have hay3:=tu3 _ _ hay
 refine⟨_,rfl,_,rfl,ax,_,_,_,rfl,rfl,.of hax3,rfl,_,_,rfl,rfl,⟨bh.mono (by decide),zx.1.mono (by decide)⟩,_,rfl,_,rfl,ay,_,_,_,rfl,rfl,.of hay3,rfl,_,_,rfl,rfl,⟨bp.mono (by decide),zy.1.mono (by decide)⟩,_,_,rfl,rfl,?_⟩
 refine⟨_,rfl,_,rfl,ax,_,_,_,rfl,rfl,.of hax3,rfl,_,_,rfl,rfl,⟨bh.mono (by decide),zx.2.mono (by decide)⟩,_,rfl,_,rfl,ay,_,_,_,rfl,rfl,.of hay3,rfl,_,_,rfl,rfl,⟨bp.mono (by decide),zy.2.mono (by decide)⟩,_,_,rfl,rfl,zL2,λp1 hp1=>?_⟩
 try dsimp only
 have s4:=zi.upd (o:=.tup [.int (ahP l r*x.1+puP l r*y.1),.int (ahP l r*x.2+puP l r*y.2)]) hp1
 have hp1':upd G3 p1 (.tup [.int (ahP l r*x.1+puP l r*y.1),.int (ahP l r*x.2+puP l r*y.2)]) p1=some (.tup [.int (ahP l r*x.1+puP l r*y.1),.int (ahP l r*x.2+puP l r*y.2)]):=zg
 generalize upd G3 p1 (.tup [.int (ahP l r*x.1+puP l r*y.1),.int (ahP l r*x.2+puP l r*y.2)])=G4 at s4 hp1' ⊢
 refine⟨_,rfl,c,C,dx3,fs3,_,rfl,s4 _ _ hc3,TC.cls,TC.tracks,elt3,_,rfl,tl3,tv3,(a:Int),a,rfl,rfl,s4 _ _ htl3,XZ (by omega),?_⟩
 have tu4:zY H G4:=tu3.trans (.of s4)
 have nl:∀{b:Addr}{o:HO},G4 b=some o->(∀xs,o≠.lst xs)->b≠tl3:=λ{b o} e n z=>by rw[z,s4 _ _ htl3]at e;cases e;exact n _ rfl
 have h5:upd G4 tl3 (.lst (tv3.set a (.ref p1))) tl3=some (.lst (tv3.set a (.ref p1))):=zg
 have T45:zY G4 (upd G4 tl3 (.lst (tv3.set a (.ref p1)))):=.upd (s4 _ _ htl3)
 have X45:xi tl3 G4 (upd G4 tl3 (.lst (tv3.set a (.ref p1)))):=.upd
 generalize upd G4 tl3 (.lst (tv3.set a (.ref p1)))=G5 at h5 T45 X45 ⊢
 try dsimp only
 have hc5:=X45 _ _ (nl (s4 _ _ hc3) (λ_ z=>by cases z)) (s4 _ _ hc3)
 have hax5:=T45 _ _ (tu4 _ _ hax)
 have hay5:=T45 _ _ (tu4 _ _ hay)
 refine⟨_,rfl,_,rfl,ax,_,_,_,rfl,rfl,.of hax5,rfl,_,_,rfl,rfl,⟨bb.mono (by decide),zx.1.mono (by decide)⟩,_,rfl,_,rfl,ay,_,_,_,rfl,rfl,.of hay5,rfl,_,_,rfl,rfl,⟨bh.mono (by decide),zy.1.mono (by decide)⟩,_,_,rfl,rfl,?_⟩
 refine⟨_,rfl,_,rfl,ax,_,_,_,rfl,rfl,.of hax5,rfl,_,_,rfl,rfl,⟨bb.mono (by decide),zx.2.mono (by decide)⟩,_,rfl,_,rfl,ay,_,_,_,rfl,rfl,.of hay5,rfl,_,_,rfl,rfl,⟨bh.mono (by decide),zy.2.mono (by decide)⟩,_,_,rfl,rfl,zL2,λp2 hp2=>?_⟩
 try dsimp only
 have s6:=zi.upd (o:=.tup [.int (baP l r*x.1 - ahP l r*y.1),.int (baP l r*x.2 - ahP l r*y.2)]) hp2
 have hp2':upd G5 p2 (.tup [.int (baP l r*x.1 - ahP l r*y.1),.int (baP l r*x.2 - ahP l r*y.2)]) p2=some (.tup [.int (baP l r*x.1 - ahP l r*y.1),.int (baP l r*x.2 - ahP l r*y.2)]):=zg
 generalize upd G5 p2 (.tup [.int (baP l r*x.1 - ahP l r*y.1),.int (baP l r*x.2 - ahP l r*y.2)])=G6 at s6 hp2' ⊢
 refine⟨_,rfl,c,C,dx3,fs3,_,rfl,s6 _ _ hc5,TC.cls,TC.tracks,elt3,_,rfl,_,_,rfl,rfl,tl3,_,((a:Int)+1),a+1,rfl,rfl,s6 _ _ h5,(by rw[uT];exact XZ (n:=tv3.length) (a:=a+1) (by omega)),?_⟩
 have nl6:∀{b:Addr}{o:HO},G6 b=some o->(∀xs,o≠.lst xs)->b≠tl3:=λ{b o} e n z=>by rw[z,s6 _ _ h5]at e;cases e;exact n _ rfl
 have h7:upd G6 tl3 (.lst ((tv3.set a (.ref p1)).set (a+1) (.ref p2))) tl3=some (.lst ((tv3.set a (.ref p1)).set (a+1) (.ref p2))):=zg
 have T67:zY G6 (upd G6 tl3 (.lst ((tv3.set a (.ref p1)).set (a+1) (.ref p2)))):=.upd (s6 _ _ h5)
 have X67:xi tl3 G6 (upd G6 tl3 (.lst ((tv3.set a (.ref p1)).set (a+1) (.ref p2)))):=.upd
 generalize upd G6 tl3 (.lst ((tv3.set a (.ref p1)).set (a+1) (.ref p2)))=G7 at h7 T67 X67 ⊢
 have T37:zY G3 G7:=((zY.of s4).trans T45).trans ((zY.of s6).trans T67)
 have X37:xi tl3 G3 G7:=(xi.of s4).trans (X45.trans ((xi.of s6).trans X67))
 have htl3H:H tl3=none:=by
  cases e:H tl3 with
  | none=>rfl
  | some o=>rw[S2 _ _ e]at htl3n;cases htl3n
 have hXA:xi c H G7:=λb o nb e=>X37 _ _ (λz=>by rw[z,htl3H]at e;cases e) (X3 _ _ nb (S2 _ _ e))
 have hTn:qa G7 ((tv3.set a (.ref p1)).set (a+1) (.ref p2)) (Zm l r trs a x y):=by
  unfold Zm
  exact((hTv3.keeps T37).put (T67 _ _ (s6 _ _ (T45 _ _ hp1')))).put (T67 _ _ hp2')
 have nt:∀{b:Addr}{o:HO},G3 b=some o->(∀xs,o≠.lst xs)->b≠tl3:=λ{b o} e n z=>by rw[z,htl3]at e;cases e;exact n _ rfl
 obtain⟨tp,g1,g2⟩:=F3.tick
 obtain⟨v1,g5,g6⟩:=F3.low
 obtain⟨v2,g7,g8⟩:=F3.high
 obtain⟨w3,g3,g4⟩:=F3.weights
 refine k G7 tl3 hXA htl3H ⟨dx3,fs3,_,X37 _ _ (nt hc3 (λ_ z=>by cases z)) hc3,⟨F3.pb,F3.sb,⟨tp,g1,T37 _ _ g2⟩,⟨w3,g3,X37 _ _ (λz=>?_) g4⟩,⟨tl3,_,elt3,h7,hTn⟩,⟨v1,g5,g6.keeps T37⟩,⟨v2,g7,g8.keeps T37⟩,F3.len⟩,elt3,h7,hTn⟩
 rw[z,htl3]at g4
 have ev:tv3=ws.map V.int:=by injection g4 with g4;injection g4
 have h0:0<tv3.length:=by omega
 obtain⟨t,_,at',e1,_⟩:=hTv3.2 0 tv3[0] (wf h0)
 have:tv3[0]∈ws.map V.int:=by rw[<-ev];exact uK h0
 obtain⟨n,_,en⟩:=ww.mp this
 rw[e1]at en;cases en
end
section
variable {P:Program}{w:World}{K:Fg}{mg:Str->Option Value}{base:Heap}{C0:Addr}
theorem ze9:zF ["self","moment"] ["self","moment"] (zr xR):=scq
theorem zeD {C f:Addr}{fd:FuncData}{mc:Value}{cd:ClassData}(F:Fun K "__init__" "Together.__init__" xR f fd) (U:XUp K C0 mc) (hm:mg "ClackError" = some (.ref C0)) (B:XB base C) (S:zcj K C cd) (n:xU K C "moment"):vP P w K mg base CX0 1 f fd ["self","moment"] (zdC C):=by
 refine F.ok (k:=0) ze9 (λvs H Q E h=>by obtain⟨_,_,rfl,_⟩:=h;rfl) (λcdv A outer s H vs Q E hr h=>?_)
 obtain⟨a,y,rfl,ea,k⟩:=h
 refine⟨_,zA (qh (zfR U hm (zd (pv 0) (zd va zf)))) (zh (zfS (pv 0) (pv 1) rfl)),?_⟩
 refine⟨_,rfl,a,C,_,rfl,ea,B,?_⟩
 rw[zdU ea]
 exact⟨_,rfl,_,rfl,a,C,cd,rfl,ea,S,n,k⟩
def xO (ws:List Int) (a b:Nat):List Int:=vA ws (some (a:Int)) (some ((b:Int)+1))
def qp (l:List Int):Bool:=l.all λx=>decide (x=l.headD 0)
def jc (wl:Option (Int×Int)) (l:List Int):Bool:=decide (wl=none)&&decide (l.length=2)
def RbT (ws:List Int) (a b:Nat) (wl:Option (Int×Int)) (pb sb:Int) (trs:List (Int×Int)) (lo hi:Option (Int×Int)) (pb' sb':Int) (trs':List (Int×Int)) (lo' hi':Option (Int×Int)):Prop :=
 (jc wl (xO ws a b)=true/\∃l r x y,ws[a]? = some l/\ws[a+1]? = some r/\trs[a]? = some x/\trs[a+1]? = some y/\pb'=pb*mP l r/\sb'=sb*mP l r/\trs'=Zm l r trs a x y/\lo'=lo.map (scT (mP l r))/\hi'=hi.map (scT (mP l r))) ∨
 (jc wl (xO ws a b)=false/\qp (xO ws a b)=true/\∃seg,seg.Perm ((vA trs (some (a:Int)) (some ((b:Int)+1))).map (jy wl))/\seg.Pairwise (λx y=>x.2<=y.2)/\pb'=pb/\sb'=sb/\trs'=trs.take a++seg++trs.drop (b+1)/\lo'=lo/\hi'=hi)
theorem zcy {α:Type}(f:α->V) (l:List α) (lo hi:Option Int):qt (l.map f) lo hi=(vA l lo hi).map f:=by
 unfold qt vA
 rw[we,Wk,Wm]
theorem Ji {ws:List Int}{a b:Nat}(hab:a<=b) (hb:b<ws.length):(xO ws a b).length=b+1 - a:=by
 unfold xO vA
 rw[show ((b:Int)+1)=((b+1:Nat):Int) by omega,HT.sIx_nat,HT.sIx_nat,w5,wW]
 omega
theorem Jj {l:List Int}(h:0<l.length):atI (l.map V.int) 0=some (.int (l.headD 0)):=by
 cases l with
 | nil=>simp at h
 | cons x l=>unfold atI ixN;rw[if_pos (by decide),if_pos (by simp only[we,wG];omega)];rfl
theorem zjs {Tb c C dx:Addr}{fs:List (Str×V)}{q:Str}{p:PySem.Pos}{H H':Hp}(T:vQ Tb q p H) (hc:H c=some (.ins C dx fs)) (X:xi c H H'):vQ Tb q p H':=by
 obtain⟨ps,g1,g2,g3⟩:=T
 refine⟨ps,X _ _ (λz=>by rw[z,hc]at g1;cases g1) g1,g2,?_⟩
 rcases g3 with g3 | ⟨c',g3,g4⟩
 ·exact .inl g3
 ·exact .inr ⟨c',g3,X _ _ (λz=>by rw[z,hc]at g4;cases g4) g4⟩
theorem CoT.same {H H':Hp}{C c tl:Addr}{pb sb:Int}{tk:Rat}{ws:List Int}{trs:List (Int×Int)}{lo hi:Option (Int×Int)} (h:CoT H C c tl pb sb tk ws trs lo hi) (s:zi H H'):CoT H' C c tl pb sb tk ws trs lo hi:=by
 obtain⟨dx,fs,tv,hc,F,elt,htl,hTv⟩:=h
 obtain⟨tp,g1,g2⟩:=F.tick
 obtain⟨v1,g5,g6⟩:=F.low
 obtain⟨v2,g7,g8⟩:=F.high
 obtain⟨w3,g3,g4⟩:=F.weights
 exact⟨dx,fs,tv,s _ _ hc,⟨F.pb,F.sb,⟨tp,g1,s _ _ g2⟩,⟨w3,g3,s _ _ g4⟩,⟨tl,tv,elt,s _ _ htl,hTv.keeps (.of s)⟩,⟨v1,g5,g6.keeps (.of s)⟩,⟨v2,g7,g8.keeps (.of s)⟩,F.len⟩,elt,s _ _ htl,hTv.keeps (.of s)⟩
inductive zhG (C:Addr) (CT:Addr) (Tb:Addr) (vs:List V) (H:Hp) (Q:VK) (E:XK):Prop
 | mk:∀c tl g tb a b wh t pb sb tk ws trs lo hi,(vs=[V.ref c,.ref g,.ref tb])->(CoT H C c tl pb sb tk ws trs lo hi)->(H g=some (.tup [.int (a:Nat),.int (b:Nat),.str wh]))->(H tb=some (.tup [.int t.1,.int t.2]))->(t.2≠0)->(BdP 4400 t)->(Sz 4400 tk)->(a<=b)->(b<trs.length)->(trs.length<=8)->(ws.length=trs.length)->((∀x∈ws,1<=x/\x<=1000))->(Bd 4600 pb)->(Bd 4600 sb)->((∀t∈trs,BdP 4600 t))->((∀l,lo=some l->BdP 4600 l))->((∀l,hi=some l->BdP 4600 l))->(vQ Tb laQ laP H)->((∀H' tl' pb' sb' trs' lo' hi',Chg [Tb,tl,c] H H'->vQ Tb laQ laP H'->(tl'=tl\/H tl'=none)->RbT ws a b (xm wh lo hi) pb sb trs lo hi pb' sb' trs' lo' hi'->CoT H' C c tl' pb' sb' tk ws trs' lo' hi'->Q .non H'))->((∀H' dx p,zi H H'->jc (xm wh lo hi) (xO ws a b)=false->qp (xO ws a b)=false->H' dx=some (.xd [("moment",.ref p)])->zD H' p (qD tk t)->E (.ref CT) (some dx) H'))->zhG C CT Tb vs H Q E
theorem QT:zF ["course","group","ticks","first","last","where","wall","weights"] ["course","group","ticks"] (zr j9):=scq
theorem ziH {C CT Tb f12:Addr}{fd12:FuncData}(D:Df K mg "rebound" j9 ["course","group","ticks"] []) (TC:TCo K C) (T:TxQ K mg) (hAll:mg "all" = none) (cWo:Cal P w K mg base "wall_of" 1 ["course","where"] [] (zfq C)) (cPa:Cal P w K mg base "part" 3 ["course","first"] [] (zhC C)) (cDe:Cal P w K mg base "deal" 4 ["course","first","last","wall"] [] (zhu C Tb))
  (cMo:Cal P w K mg base "moment_of" 3 ["course","ticks"] [] (zb4 C)) (XM:XMk K base CT f12) (F12:vP P w K mg base CX0 1 f12 fd12 ["self","moment"] (zdC CT)) (hmT:mg "Together" = some (.ref CT)) (B12:vn K fd12 ["self","moment"] []):ZW P w K mg base "rebound" 5 ["course","group","ticks"] [] (zhG C CT Tb):=by
 refine D.cal1 (k:=4) QT (λvs H Q E h=>by obtain⟨_,_,_,_,_,_,_,_,_,_,_,_,_,_,_,rfl,_⟩:=h;rfl) (λf cdv A outer s H vs Q E hr h=>?_)
 obtain⟨c,tl,g,tb,a,b,wh,t,pb,sb,tk,ws,trs,lo,hi,rfl,CT0,hg,htb,ht2,zt0,ztk,hab,hbl,hl8,hwl,hw1,zpb,zsb,zt,zlo,zhi,T0,k1,k2⟩:=h
 have hr1:xn 1 _:=hr.mono (by decide)
 have hr2:xn 2 _:=hr.mono (by decide)
 have hr3:xn 3 _:=hr.mono (by decide)
 obtain⟨dx,fs,tv,hc,F,elt,htl,hTv⟩:=id CT0
 obtain⟨wla,f3,f4⟩:=F.weights
 refine⟨_,(zA (qg (pv 1) (qv rfl (zS (zK (i:=3) QT.nd rfl (Or.inl rfl)) (zS (zK (i:=4) QT.nd rfl (Or.inl rfl)) (zS (zK (i:=5) QT.nd rfl (Or.inl rfl)) xD)))))
  (zA (zQ (i:=6) QT.nd rfl (Or.inl rfl) (zP cWo hr1 (zd (pv 0) (zd (pv 5) zf))))
  (zA (zQ (i:=7) QT.nd rfl (Or.inr rfl) (qj jv (xp (pv 0) rfl) (xH (pv 3)) (xH (zB zZ (pv 4) ze))))
  (zh (xh (qC (zI xW (pv 6) zW (zM _)) (qm (zI qL (zX xc (by rfl) T.nLen PySem.boot_len (zd (pv 7) zf)) ze (zM _)))).pt (zh (qh (zP cPa hr3 (zd (pv 0) (zd (pv 3) zf))))) (zh (xh (xz (zX (XQ rfl) (by rfl) hAll PyProof.Rows.boot_all (zd (jO (NB:=["weight"]) (FR:=["weights"]) (js:=[7]) rfl rfl (λ_ _ h=>h) (.cons rfl rfl rfl ⟨_,rfl⟩ .nil) rfl (by decide +kernel) rfl (by decide +kernel) (xN (pv 7)) (by intro _ _ _;refine⟨?_,?_,?_⟩;(exact(zK (i:=0) (show List.Nodup (["weight","weights"]:List Str) by decide +kernel) rfl (Or.inl rfl)));(exact xI);(exact(qG qL (pv 0) (zk (zcO (K:=K) rfl) (pv 1) ze (λ_ _=>rfl)) (zM _))))) zf)) λ_=>rfl) (zh (qh (zP cDe hr (zd (pv 0) (zd (pv 3) (zd (pv 4) (zd (pv 6) zf))))))) (zh (QP XM F12 hr2 hmT B12 hr.hd Zk (zd (zP cMo hr3 (zd (pv 0) (zd (pv 2) zf))) zf)))))))))),?_⟩
 refine⟨_,rfl,g,_,rfl,.of hg,rfl,_,_,rfl,_,_,rfl,_,_,rfl,rfl,?_⟩
 dsimp only[zO]
 refine⟨_,rfl,_,rfl,c,pb,sb,tk,ws,trs,lo,hi,wh,rfl,⟨dx,fs,hc,F⟩,λwv hwv=>?_⟩
 dsimp only[zO]
 refine⟨_,rfl,c,C,dx,_,_,rfl,hc,TC.cls,TC.weights,f3,_,rfl,_,rfl,_,rfl,_,_,rfl,rfl,_,rfl,wla,_,rfl,.of f4,λq1 hq1=>?_⟩
 rw[zcy]
 have eseg:vA ws (some (a:Int)) (some ((b:Int)+1))=xO ws a b:=rfl
 rw[eseg]
 have hsl:=Ji hab (by omega:b<ws.length)
 have s1:=zi.upd (o:=.lst ((xO ws a b).map V.int)) hq1
 have hq1':upd H q1 (.lst ((xO ws a b).map V.int)) q1=some (.lst ((xO ws a b).map V.int)):=zg
 generalize upd H q1 (.lst ((xO ws a b).map V.int))=G1 at s1 hq1' ⊢
 dsimp only[zO]
 have CT1:=CT0.same s1
 have T1:=T0.same s1
 have zwl:∀l,xm wh lo hi=some l->BdP 4600 l:=λl e=>by
  unfold xm at e
  split at e
  ·cases e
  ·split at e
   ·exact zlo l e
   ·exact zhi l e
 refine XA (λH'=>H'=G1) (jc (xm wh lo hi) (xO ws a b)) (λQ' q=>?_) (λhcn H3 e3=>?_) (λhcn H3 e3=>?_)
 ·cases ewl:xm wh lo hi with
  | none =>
   rw[ewl]at hwv
   obtain rfl:wv = .non:=hwv
   refine⟨_,rfl,rfl,_,rfl,xw ?_⟩
   refine⟨_,rfl,q1,_,rfl,.inl (.of hq1'),rfl,_,rfl,?_⟩
   have e2:jc (xm wh lo hi) (xO ws a b)=decide (V.int (((xO ws a b).map V.int).length:Int)=V.int 2):=by
    rw[ewl,we]
    unfold jc
    rw[wq (show (none:Option (Int×Int))=none from rfl),Wn,decide_eq_decide]
    exact⟨λz=>by rw[z];rfl,λz=>by injection z with z;omega⟩
   rw[<-e2]
   exact q _ rfl
  | some u =>
   rw[ewl]at hwv
   obtain⟨aw,rfl,haw⟩:=hwv
   have e2:jc (xm wh lo hi) (xO ws a b)=false:=by rw[ewl];rfl
   rw[e2]at q
   exact⟨_,rfl,rfl,_,rfl,xo (q _ rfl)⟩
 ·subst e3
  unfold jc at hcn
  rw[yM,wH,wH]at hcn
  have hb1:b=a+1:=by omega
  obtain⟨l,el⟩:∃l,ws[a]? = some l:=⟨_,wf (by omega)⟩
  obtain⟨r,er⟩:∃r,ws[a+1]? = some r:=⟨_,wf (by omega)⟩
  obtain⟨x,ex⟩:∃x,trs[a]? = some x:=⟨_,wf (by omega)⟩
  obtain⟨y,ey⟩:∃y,trs[a+1]? = some y:=⟨_,wf (by omega)⟩
  have hlw:=hw1 l (wj el)
  have hrw:=hw1 r (wj er)
  refine⟨_,rfl,_,rfl,c,tl,a,pb,sb,tk,ws,trs,lo,hi,l,r,x,y,rfl,CT1,hl8,el,er,hlw.1,hlw.2,hrw.1,hrw.2,ex,ey,zpb.mono (by decide),zsb.mono (by decide),λt m=>⟨(zt t m).1.mono (by decide),(zt t m).2.mono (by decide)⟩,λl e=>⟨(zlo l e).1.mono (by decide),(zlo l e).2.mono (by decide)⟩,λl e=>⟨(zhi l e).1.mono (by decide),(zhi l e).2.mono (by decide)⟩,λH' tl' X' hn CT'=>?_⟩
  refine k1 H' tl' _ _ _ _ _ (λb o nb e=>X' _ _ (λz=>nb (by simp[z])) (s1 _ _ e)) (zjs T1 (s1 _ _ hc) X') (.inr ?_) (.inl ⟨?_,l,r,x,y,el,er,ex,ey,rfl,rfl,rfl,rfl,rfl⟩) CT'
  ·cases e:H tl' with
   | none=>rfl
   | some o=>rw[s1 _ _ e]at hn;cases hn
  ·unfold jc;rw[yM,wH,wH];exact hcn
 ·subst e3
  have hs0:0<(xO ws a b).length:=by omega
  have hs8:(xO ws a b).length<=8:=by omega
  refine XA (λH'=>zi H3 H') (qp (xO ws a b)) (λQ' q=>?_) (λhsm H4 s4=>?_) (λhsm H4 s4=>?_)
  ·refine⟨_,rfl,q1,rfl,⟨_,SqL.of hq1'⟩,λDc hDc=>?_⟩
   refine xK (J:=Itl K q1) (n:=1) (js:=[7]) (g:=zO 0) (te:=_) (xs:=(xO ws a b).map V.int) (λi v G=>∃x,(xO ws a b)[i]? = some x/\v = .bl (decide (x=(xO ws a b).headD 0))) (λ_ _ _ _ _ h=>h) hDc (xQ hq1') (xk (by rw[we];omega)) ?_ ?_
   ·intro i x zs H4 Q'' hx hz s4 hk
    obtain⟨z1,rfl⟩:=jK hz
    rw[wg]at hx
    cases ew:(xO ws a b)[i]? with
    | none=>rw[ew]at hx;cases hx
    | some n =>
     rw[ew]at hx;cases hx
     dsimp only[zO]
     refine⟨rfl,_,rfl,_,rfl,q1,_,_,_,rfl,rfl,.of (s4 _ _ hq1'),Jj hs0,rfl,hk _ _ (zi.refl _) ⟨n,ew,?_⟩⟩
     rw[show decide (V.int n=V.int ((xO ws a b).headD 0))=decide (n=(xO ws a b).headD 0) by rw[decide_eq_decide];exact⟨λz=>by injection z,λz=>by rw[z]⟩]
   ·intro ys H4 s4 hD4 hly hyR
    have eys:ys=((xO ws a b).map λx=>decide (x=(xO ws a b).headD 0)).map V.bl:=by
     rw[wV]
     refine uE λi=>?_
     rw[wg]
     cases ey:ys[i]? with
     | none =>
      have:ys.length<=i:=WF.mp ey
      rw[wY (by rw[hly,we]at this;exact this)];rfl
     | some v =>
      obtain⟨x,e1,e2⟩:=hyR i v ey
      rw[e1,e2];rfl
    refine⟨Dc,(xO ws a b).map λx=>decide (x=(xO ws a b).headD 0),rfl,.of (by rw[<-eys];exact hD4),_,rfl,?_⟩
    have:((xO ws a b).map λx=>decide (x=(xO ws a b).headD 0)).all id=qp (xO ws a b):=by
     unfold qp;rw[List.all_map];rfl
    rw[this]
    exact q _ s4
  ·have S4:=s1.trans s4
   refine⟨_,rfl,_,rfl,_,rfl,_,rfl,c,tl,a,b,wv,pb,sb,tk,ws,trs,lo,hi,xm wh lo hi,rfl,CT0.same S4,hwv.keeps (.of S4),hab,hbl,hl8,zt,zwl,T0.same S4,λH' seg ch tb' pm pw CT'=>?_⟩
   exact k1 H' tl _ _ _ _ _ (λb o nb e=>ch b o (λz=>nb (by rcases wy.mp z with z | z;(exact wy.mpr (.inl z));(exact wP _ (wy.mpr (.inl (wF.mp z)))))) (S4 _ _ e)) tb' (.inl rfl) (.inr ⟨hcn,hsm,seg,pm,pw,rfl,rfl,rfl,rfl,rfl⟩) CT'
  ·have S4:=s1.trans s4
   obtain⟨tp,f1,f2⟩:=F.tick
   refine⟨_,rfl,_,rfl,c,tb,dx,fs,tp,tk,t.1,t.2,rfl,S4 _ _ hc,f1,S4 _ _ f2,S4 _ _ htb,ht2,zt0.1,zt0.2,ztk,λmr H5 s5 hmr=>?_⟩
   refine⟨zL1,λp hp=>⟨p,_,rfl,zg,λd hd=>⟨rfl,some d,zg,?_⟩⟩⟩
   have hdp:d≠p:=λz=>by subst z;rw[zg]at hd;cases hd
   have hd3:H5 d=none:=by rw[zE hdp]at hd;exact hd
   have eG:∀b,b≠p->b≠d->XT p (upd (upd (upd H5 p (XO p CT none)) d (.xd [("moment",.ref mr)])) p (XO p CT (some d))) b=H5 b:=λb hb hb2=>by
    rw[qF hb,zE hb,zE hb2,zE hb]
   have SG:zi H5 (XT p (upd (upd (upd H5 p (XO p CT none)) d (.xd [("moment",.ref mr)])) p (XO p CT (some d)))):=λb o eb=>by
    rw[eG b (zG eb hp) (zG eb hd3)];exact eb
   refine k2 _ d mr (S4.trans (s5.trans SG)) hcn hsm ?_ (SG _ _ hmr)
   rw[qF hdp,zE hdp,zg]
end
def Qs (H:Hp) (v:V):Option (Rat×Rat)->Prop
 | none=>v = .non
 | some t=>∃a p q,v = .ref a/\H a=some (.tup [.ref p,.ref q])/\zD H p t.1/\zD H q t.2
theorem Qs.keeps {H H':Hp}{v:V}{o:Option (Rat×Rat)} (h:Qs H v o) (e:zY H H'):Qs H' v o:=by
 cases o with
 | none=>exact h
 | some t=>obtain⟨a,p,q,h1,h2,h3,h4⟩:=h;exact⟨a,p,q,h1,e _ _ h2,e _ _ h3,e _ _ h4⟩
def ptT (pb sb:Int) (t l:Int×Int):Rat×Rat:=(Rat.divInt (xl l t) (pb*t.2),Rat.divInt l.2 sb)
theorem zhl (N:Nat):sel (λ_=>true) N=List.range N:=by
 induction N with
 | zero=>rfl
 | succ n ih=>rw[jS,ih,List.range_succ,if_pos rfl]
section
variable {P:Program}{w:World}{K:Fg}{mg:Str->Option Value}{base:Heap}
inductive zhE (C:Addr) (vs:List V) (H:Hp) (Q:VK) (_e3:XK):Prop
 | mk:∀c v tb dx fs pb sb t o,(vs=[V.ref c,v,.ref tb])->(H c=some (.ins C dx fs))->(fs.lookup ("place_bottom":Str)=some (V.int pb))->(fs.lookup ("speed_bottom":Str)=some (V.int sb))->(vR H v o)->(H tb=some (.tup [.int t.1,.int t.2]))->(BdP 4400 t)->((∀l,o=some l->BdP 4400 l))->(pb≠0)->(sb≠0)->(t.2≠0)->(Bd 4400 pb)->(Bd 8900 sb)->(Bd 8900 (pb*t.2))->(∀v' H',zi H H'->Qs H' v' (o.map (ptT pb sb t))->Q v' H')->zhE C vs H Q _e3
theorem zf3:zF ["course","track","ticks","place"] ["course","track","ticks"] (zr qo):=scq
theorem ziF {C:Addr}(D:Df K mg "place_and_speed" qo ["course","track","ticks"] []) (TC:TCo K C) (cR:Cal P w K mg base "ratio" 2 ["top","bottom"] [] qW) (cSp:Cal P w K mg base "spot_at" 1 ["track","ticks"] [] zb6):Cal P w K mg base "place_and_speed" 3 ["course","track","ticks"] [] (zhE C):=by
 refine D.cal (k:=2) zf3 (λvs H Q E h=>by obtain⟨_,_,_,_,_,_,_,_,_,rfl,_⟩:=h;rfl) (λf cdv A outer s H vs Q E hr h=>?_)
 obtain⟨c,v,tb,dx,fs,pb,sb,t,o,rfl,hc,e1,e2,hv,htb,zt,zo,p0,s0,t0,zpb,zsb,zpt,k⟩:=h
 have hr1:xn 1 _:=hr.mono (by decide)
 refine⟨_,(zA (xh (zI xW (pv 1) zW (zM _)) (zh (zL zW)) zT)
  (zA (zQ (i:=3) zf3.nd rfl (Or.inl rfl) (zP cR hr (zd (zP cSp hr1 (zd (pv 1) (zd (pv 2) zf))) (zd (zB zU (xp (pv 0) rfl) (zk zj (pv 2) ze (λ_ _=>rfl))) zf))))
  (zh (zL (xj (zd (pv 3) (zd (zP cR hr (zd (zk zj (pv 1) ze (λ_ _=>rfl)) (zd (xp (pv 0) rfl) zf))) zf))))))),?_⟩
 cases o with
 | none =>
  obtain rfl:v = .non:=hv
  exact⟨_,rfl,rfl,_,rfl,xw (k _ _ (zi.refl _) rfl)⟩
 | some l =>
  obtain⟨a,rfl,ha⟩:=hv
  refine⟨_,rfl,rfl,_,rfl,xo ?_⟩
  refine⟨_,rfl,_,rfl,a,tb,l,t,rfl,ha,htb,zo l rfl,zt,?_⟩
  refine⟨_,rfl,c,C,dx,fs,_,rfl,hc,TC.cls,TC.pb,e1,_,rfl,tb,_,_,_,rfl,rfl,.of htb,rfl,_,_,rfl,rfl,⟨zpb.mono (by decide),zt.2.mono (by decide)⟩,_,_,rfl,yc p0 t0,zpt,λr1 H1 s1 hr1'=>?_⟩
  dsimp only[zO]
  refine⟨_,rfl,_,rfl,a,_,_,_,rfl,rfl,.of (s1 _ _ ha),rfl,_,rfl,c,C,dx,fs,_,rfl,s1 _ _ hc,TC.cls,TC.sb,e2,_,_,rfl,s0,zsb,λr2 H2 s2 hr2'=>⟨zL2,λtp htp=>?_⟩⟩
  have s3:=zi.upd (o:=.tup [.ref r1,.ref r2]) htp
  exact k _ _ (s1.trans (s2.trans s3)) ⟨tp,r1,r2,rfl,zg,s3 _ _ (s2 _ _ hr1'),s3 _ _ hr2'⟩
def blT (pb sb:Int) (t:Int×Int) (l:Int×Int) (wt:Int):Bl:=⟨(ptT pb sb t l).1,(ptT pb sb t l).2,wt⟩
inductive zhD (C:Addr) (vs:List V) (H:Hp) (Q:VK) (_e3:XK):Prop
 | mk:∀c tl tb pb sb tk ws trs lo hi t,(vs=[V.ref c,.ref tb])->(CoT H C c tl pb sb tk ws trs lo hi)->(H tb=some (.tup [.int t.1,.int t.2]))->(BdP 4400 t)->(trs.length<=8)->(ws.length=trs.length)->((∀l∈trs,BdP 4400 l))->((∀l,lo=some l->BdP 4400 l))->((∀l,hi=some l->BdP 4400 l))->(pb≠0)->(sb≠0)->(t.2≠0)->(Bd 4400 pb)->(Bd 8900 sb)->(Bd 8900 (pb*t.2))->(∀p r wa us v1 v2 H',zi H H'->H' p=some (.tup [.ref r,.ref wa])->H' r=some (.tup us)->ZZ H' us ((trs.zip ws).map λz=>blT pb sb t z.1 z.2)->H' wa=some (.tup [v1,v2])->Qs H' v1 (lo.map (ptT pb sb t))->Qs H' v2 (hi.map (ptT pb sb t))->Q (.ref p) H')->zhD C vs H Q _e3
theorem zaW:zF ["course","ticks","spots","row","walls"] ["course","ticks"] (zr ZO):=scq
theorem ziE {C:Addr}(D:Df K mg "placed" ZO ["course","ticks"] []) (T:TxQ K mg) (TC:TCo K C) (cPs:Cal P w K mg base "place_and_speed" 3 ["course","track","ticks"] [] (zhE C)):Cal P w K mg base "placed" 4 ["course","ticks"] [] (zhD C):=by
 refine D.calB (k:=3) zaW (λvs H Q E h=>by obtain⟨_,_,_,_,_,_,_,_,_,_,_,rfl,_⟩:=h;rfl) (λf cdv A outer s H vs Q E hr h=>?_)
 obtain⟨c,tl,tb,pb,sb,tk,ws,trs,lo,hi,t,rfl,⟨dx,fs,tv,hc,F,elt,htl,hTv⟩,htb,zt,hl8,hwl,ztr,zlo,zhi,p0,s0,t0,zpb,zsb,zpt,k⟩:=h
 obtain⟨wla,f3,f4⟩:=F.weights
 obtain⟨v1,f5,f6⟩:=F.low
 obtain⟨v2,f7,f8⟩:=F.high
 have htv:=hTv.1
 refine⟨_,(zC (Bx.mk (vd (i:=2) (NB:=["track"]) (FR:=["course","ticks"]) (js:=[0,1]) rfl rfl (λ_ _ h=>h) (.cons rfl rfl rfl ⟨_,rfl⟩ (.cons rfl rfl rfl ⟨_,rfl⟩ .nil)) rfl (by decide +kernel) rfl (by decide +kernel) zaW.nd rfl rfl (by rfl) (xN (xp (pv 0) rfl)) (by intro _ _ _;refine⟨?_,?_,?_⟩;(exact(zK (i:=0) (show List.Nodup (["track","course","ticks"]:List Str) by decide +kernel) rfl (Or.inl rfl)));(exact xI);(exact(zP cPs hr (zd (pv 1) (zd (pv 0) (zd (pv 2) zf))))))))
  (zC (Bx.mk (vd (i:=3) (NB:=["place","speed","weight"]) (FR:=[]) (js:=[]) rfl rfl (λ_ _ h=>by cases h) .nil rfl (by decide +kernel) rfl (by decide +kernel) zaW.nd rfl rfl (by rfl) (zeT (by rfl) T.nZip (zd (pv 2) (zd (xp (pv 0) rfl) zf))) (by intro _ _ _;refine⟨?_,?_,?_⟩;(exact(jY (K:=K) (n:=2) rfl rfl (zS (jY (K:=K) (n:=2) rfl rfl (zS (zK (i:=0) (show List.Nodup (["place","speed","weight"]:List Str) by decide +kernel) rfl (Or.inl rfl)) (zS (zK (i:=1) (show List.Nodup (["place","speed","weight"]:List Str) by decide +kernel) rfl (Or.inl rfl)) xD))) (zS (zK (i:=2) (show List.Nodup (["place","speed","weight"]:List Str) by decide +kernel) rfl (Or.inl rfl)) xD))));(exact xI);(exact(xj (zd (pv 0) (zd (pv 1) (zd (pv 2) zf))))))))
  (zC (Bx.mk (zQ (i:=4) zaW.nd rfl (Or.inl rfl) (xj (zd (zP cPs hr (zd (pv 0) (zd (xp (pv 0) rfl) (zd (pv 1) zf)))) (zd (zP cPs hr (zd (pv 0) (zd (xp (pv 0) rfl) (zd (pv 1) zf)))) zf)))))
  (Bx.mk (zh (zL (xj (zd (xP qk (by rfl) T.nTuple yl (zd (pv 3) zf)) (zd (pv 4) zf))))))))),?_⟩
 refine⟨_,rfl,c,C,dx,fs,_,rfl,hc,TC.cls,TC.tracks,elt,tl,rfl,⟨_,SqL.of htl⟩,λD1 hD1=>?_⟩
 refine xK (J:=Itl K tl) (n:=1) (js:=[0,1]) (g:=zO 0) (te:=_) (xs:=tv) (λi v G=>∃l,trs[i]? = some l/\Qs G v (some (ptT pb sb t l))) (λ_ _ _ _ e ⟨l,h1,h2⟩=>⟨l,h1,h2.keeps e⟩) hD1 (xQ htl) (xk (by omega)) ?_ ?_
 ·intro i x zs H2 Q' hx hz s2 hk
  obtain⟨z1,rfl⟩:=jK hz
  obtain⟨l,el,hat⟩:=(hTv.keeps (.of s2)).2 i x hx
  dsimp only[zO]
  exact⟨rfl,_,rfl,_,rfl,_,rfl,c,x,tb,dx,fs,pb,sb,t,some l,rfl,s2 _ _ hc,F.pb,F.sb,hat,s2 _ _ htb,zt,λl' e=>by cases e;exact ztr l (wj el),p0,s0,t0,zpb,zsb,zpt,λv' H' s' h'=>hk _ _ s' ⟨l,el,h'⟩⟩
 intro ys G1 s1 hy1 hyl hyR
 dsimp only[zO]
 refine⟨_,rfl,_,rfl,c,C,dx,fs,_,rfl,s1 _ _ hc,TC.cls,TC.weights,f3,false,false,D1,wla,rfl,⟨_,SqL.of hy1⟩,⟨_,SqL.of (s1 _ _ f4)⟩,λD2 hD2=>?_⟩
 have hw1:=s1 _ _ f4
 refine zbx (js:=[]) (J:=zbk false false K D1 wla) (N:=ys.length) (n:=3) (xs:=ys) (ys:=ws.map V.int) (g:=Vc K 2 (v9 (Vc K 2 (v9 (zO 0) (v9 (zO 1) JJ))) (v9 (zO 2) JJ))) (tt:=λ_ H Q=>Q true H) (te:=zdR (xJ (xG 0) (xJ (xG 1) (xJ (xG 2) jV)))) (λ_=>true) (λi v G=>∀b,((trs.zip ws).map λz=>blT pb sb t z.1 z.2)[i]? = some b->zbj G v b) (λi v G G' e h b hb=>(h b hb).keeps e) hD2 (ze4 (k1:=false) (k2:=false) hy1 hw1 (by rw[we];omega)) (xk (by omega)) ?_ ?_
 ·intro i Tt x y zs G A' B' hx hy hz S hT hA hB'
  obtain⟨l,el,a',p,q,rfl,g1,g2,g3⟩:=hyR i x hx
  rw[wg]at hy
  cases ew:ws[i]? with
  | none=>rw[ew]at hy;cases hy
  | some n =>
   rw[ew]at hy;cases hy
   obtain⟨y1,y2,y3,rfl⟩:∃a b c,zs=[a,b,c]:=by
    match zs,hz with
    | [a,b,c],_=>exact⟨a,b,c,rfl⟩
   refine⟨Tt,_,rfl,.of hT,rfl,_,_,rfl,a',_,rfl,.of (S _ _ g1),rfl,_,_,rfl,_,_,rfl,rfl,_,_,rfl,rfl,rfl,xw ?_⟩
   refine⟨_,rfl,_,rfl,_,rfl,zL3,λtp htp=>hA rfl _ _ (zi.upd htp) λb eb=>?_⟩
   rw[wg,(yn.mpr ⟨el,ew⟩:(trs.zip ws)[i]? = some (l,n))]at eb
   cases eb
   exact⟨tp,p,q,rfl,zg,zi.upd htp _ _ (S _ _ g2),zi.upd htp _ _ (S _ _ g3)⟩
 intro us G2 s2 hu hul huR
 rw[zhl]at hul huR
 have hul':us.length=ys.length:=by rw[hul,WK]
 have hlz:((trs.zip ws).map λz=>blT pb sb t z.1 z.2).length=trs.length:=by rw[we,ua,hwl,WY]
 have hRow:ZZ G2 us ((trs.zip ws).map λz=>blT pb sb t z.1 z.2):=⟨by omega,λi v e=>by
  have hi:i<us.length:=(wk.mp e).1
  obtain⟨b,eb⟩:∃b,((trs.zip ws).map λz=>blT pb sb t z.1 z.2)[i]? = some b:=⟨_,wf (by omega)⟩
  exact⟨b,eb,huR i i v (by rw[Ws (by omega)]) e b eb⟩⟩
 have S2:=s1.trans s2
 dsimp only[zO]
 refine⟨_,rfl,_,rfl,c,C,dx,fs,_,rfl,S2 _ _ hc,TC.cls,TC.low,f5,_,rfl,c,v1,tb,dx,fs,pb,sb,t,lo,rfl,S2 _ _ hc,F.pb,F.sb,f6.keeps (.of S2),S2 _ _ htb,zt,zlo,p0,s0,t0,zpb,zsb,zpt,λw1 G3 s3 hw3=>?_⟩
 have S3:=S2.trans s3
 refine⟨_,rfl,_,rfl,c,C,dx,fs,_,rfl,S3 _ _ hc,TC.cls,TC.high,f7,_,rfl,c,v2,tb,dx,fs,pb,sb,t,hi,rfl,S3 _ _ hc,F.pb,F.sb,f8.keeps (.of S3),S3 _ _ htb,zt,zhi,p0,s0,t0,zpb,zsb,zpt,λw2 G4 s4 hw4=>⟨zL2,λwa hwa=>?_⟩⟩
 have s5:=zi.upd (o:=.tup [w1,w2]) hwa
 have hwa':upd G4 wa (.tup [w1,w2]) wa=some (.tup [w1,w2]):=zg
 generalize upd G4 wa (.tup [w1,w2])=G5 at s5 hwa' ⊢
 dsimp only[zO]
 have S25:=s3.trans (s4.trans s5)
 refine⟨_,rfl,D2,us,rfl,.inl ⟨.of (S25 _ _ hu),λr hr'=>?_⟩⟩
 have s6:=zi.upd (o:=.tup us) hr'
 have hr6:upd G5 r (.tup us) r=some (.tup us):=zg
 generalize upd G5 r (.tup us)=G6 at s6 hr6 ⊢
 refine⟨_,rfl,zL2,λpp hpp=>?_⟩
 have s7:=zi.upd (o:=.tup [.ref r,.ref wa]) hpp
 have S57:=s6.trans s7
 exact k pp r wa us w1 w2 _ (S2.trans (S25.trans S57)) zg (s7 _ _ hr6) (hRow.keeps (.of (S25.trans S57))) (S57 _ _ hwa') (hw3.keeps (.of (s4.trans (s5.trans S57)))) (hw4.keeps (.of (s5.trans S57)))
end
structure SC where
 pb:Int
 sb:Int
 trs:List (Int×Int)
 lo:Option (Int×Int)
 hi:Option (Int×Int)
def RbS (ws:List Int) (g:Nat×Nat×Str) (s s':SC):Prop:=RbT ws g.1 g.2.1 (xm g.2.2 s.lo s.hi) s.pb s.sb s.trs s.lo s.hi s'.pb s'.sb s'.trs s'.lo s'.hi
inductive jD (ws:List Int):List (Nat×Nat×Str)->SC->SC->Prop where
 | nil (s:SC):jD ws [] s s
 | snoc {gs:List (Nat×Nat×Str)}{g:Nat×Nat×Str}{s0 s s':SC}(h:jD ws gs s0 s) (r:RbS ws g s s'):jD ws (gs++[g]) s0 s'
def refB (ws:List Int) (g:Nat×Nat×Str) (s:SC):Prop:=jc (xm g.2.2 s.lo s.hi) (xO ws g.1 g.2.1)=false/\qp (xO ws g.1 g.2.1)=false
structure BdS (n:Nat) (s:SC):Prop where
 pb:Bd n s.pb
 sb:Bd n s.sb
 p0:0<s.pb
 s0:0<s.sb
 tr:∀t∈s.trs,BdP n t
 lo:∀l,s.lo=some l->BdP n l
 hi:∀l,s.hi=some l->BdP n l
theorem JR {l r:Int}(hl:1<=l) (hr:1<=r):0<mP l r:=by
 unfold mP
 have dp:=XV hl hr
 rw[yd _ (by omega)]
 have hd:dvP l r ∣ l+r:=yF ..
 obtain⟨q,hq⟩:=hd
 rw[hq,Int.mul_ediv_cancel_left _ (by omega)]
 rcases Int.lt_or_le 0 q with z | z
 ·exact z
 ·have:dvP l r*q<=0:=Int.mul_nonpos_of_nonneg_of_nonpos (by omega) z
  omega
theorem BdP.sc {n:Nat}{t:Int×Int}{m:Int}(h:BdP n t) (hm:Bd 12 m):BdP (n+14) (scT m t):=⟨(h.1.mul hm).mono (by omega),(h.2.mul hm).mono (by omega)⟩
theorem zc7 {l r:Int}{trs:List (Int×Int)}{a:Nat}{x y t:Int×Int}(h:t∈Zm l r trs a x y):(∃u∈trs,t=scT (mP l r) u)\/t=(ahP l r*x.1+puP l r*y.1,ahP l r*x.2+puP l r*y.2)\/t=(baP l r*x.1 - ahP l r*y.1,baP l r*x.2 - ahP l r*y.2):=by
 unfold Zm at h
 rcases WG h with h | h
 ·rcases WG h with h | h
  ·obtain⟨u,mu,rfl⟩:=ww.mp h;exact .inl ⟨u,mu,rfl⟩
  ·exact .inr (.inl h)
 ·exact .inr (.inr h)
theorem zco {ws:List Int}{g:Nat×Nat×Str}{s s':SC}{n:Nat}(hw:∀x∈ws,1<=x/\x<=1000) (h:BdS n s) (r:RbS ws g s s') (hab:g.1<=g.2.1) (hb:g.2.1<s.trs.length):BdS (n+14) s'/\s'.trs.length=s.trs.length/\(s'.lo=none↔s.lo=none)/\(s'.hi=none↔s.hi=none):=by
 rcases r with⟨_,l,rr,x,y,el,er,ex,ey,e1,e2,e3,e4,e5⟩ | ⟨_,_,seg,pm,_,e1,e2,e3,e4,e5⟩
 ·have hl:=hw l (wj el)
  have hr:=hw rr (wj er)
  have dp:=XV hl.1 hr.1
  have bm:Bd 12 (mP l rr):=Xo dp (by omega) (by omega)
  have bp:Bd 12 (puP l rr):=Xo dp (by omega) (by omega)
  have bb:Bd 12 (baP l rr):=Xo dp (by omega) (by omega)
  have bh:Bd 12 (ahP l rr):=Xo dp (by omega) (by omega)
  have mp:=JR hl.1 hr.1
  have zx:=h.tr x (wj ex)
  have zy:=h.tr y (wj ey)
  refine⟨⟨by rw[e1];exact(h.pb.mul bm).mono (by omega),by rw[e2];exact(h.sb.mul bm).mono (by omega),by rw[e1];exact WO h.p0 mp,by rw[e2];exact WO h.s0 mp,λt mt=>?_,λu eu=>?_,λu eu=>?_⟩,by rw[e3];unfold Zm;simp,?_,?_⟩
  ·rw[e3]at mt
   rcases zc7 mt with⟨u,mu,rfl⟩ | rfl | rfl
   ·exact(h.tr u mu).sc bm
   ·exact⟨((bh.mul zx.1).add (bp.mul zy.1)).mono (by omega),((bh.mul zx.2).add (bp.mul zy.2)).mono (by omega)⟩
   ·exact⟨((bb.mul zx.1).sub (bh.mul zy.1)).mono (by omega),((bb.mul zx.2).sub (bh.mul zy.2)).mono (by omega)⟩
  ·rw[e4]at eu
   obtain⟨v,ev,rfl⟩:=uo.mp eu
   exact(h.lo v ev).sc bm
  ·rw[e5]at eu
   obtain⟨v,ev,rfl⟩:=uo.mp eu
   exact(h.hi v ev).sc bm
  ·rw[e4];simp
  ·rw[e5];simp
 ·have zw:∀l,xm g.2.2 s.lo s.hi=some l->BdP n l:=λl e=>by
   unfold xm at e
   split at e
   ·cases e
   ·split at e
    ·exact h.lo l e
    ·exact h.hi l e
  have mono:∀{t:Int×Int},BdP n t->BdP (n+14) t:=λz=>⟨z.1.mono (by omega),z.2.mono (by omega)⟩
  have hseg:∀t∈seg,BdP (n+14) t:=λt mt=>by
   obtain⟨u,mu,rfl⟩:=ww.mp (pm.mem_iff.mp mt)
   have zu:=h.tr u (yP (yQ mu))
   unfold jy
   cases ew:xm g.2.2 s.lo s.hi with
   | none=>exact mono zu
   | some v =>
    have zv:=zw v ew
    have b2:Bd 3 2:=show (2:Int).natAbs<2^3 by decide
    exact⟨((b2.mul zv.1).sub zu.1).mono (by omega),((b2.mul zv.2).sub zu.2).mono (by omega)⟩
  refine⟨⟨by rw[e1];exact h.pb.mono (by omega),by rw[e2];exact h.sb.mono (by omega),by rw[e1];exact h.p0,by rw[e2];exact h.s0,λt mt=>?_,λu eu=>mono (h.lo u (by rw[<-e4];exact eu)),λu eu=>mono (h.hi u (by rw[<-e5];exact eu))⟩,?_,by rw[e4],by rw[e5]⟩
  ·rw[e3]at mt
   rcases wN.mp mt with mt | mt
   ·rcases wN.mp mt with mt | mt
    ·exact mono (h.tr t (yQ mt))
    ·exact hseg t mt
   ·exact mono (h.tr t (yP mt))
  ·have el:seg.length=g.2.1+1 - g.1:=by
    rw[pm.length_eq,we]
    unfold vA
    rw[show ((g.2.1:Int)+1)=((g.2.1+1:Nat):Int) by omega,HT.sIx_nat,HT.sIx_nat,w5,wW]
    omega
   rw[e3,wE,wE,w5,wW,el]
   omega
theorem J4 {α γ:Type} [DecidableEq α] {ss:List α}{f:Nat->Nat->Option γ}:∀{n:Nat}{g:γ},g∈rlG ss f n->∃i,i<n/\f (stG ss i) i=some g
 | 0,_,m=>by cases m
 | n+1,g,m=>by
  unfold rlG at m
  split at m
  ·rcases wN.mp m with m | m
   ·obtain⟨i,h1,h2⟩:=J4 m;exact⟨i,by omega,h2⟩
   ·exact⟨n,by omega,Option.mem_toList.mp m⟩
  ·obtain⟨i,h1,h2⟩:=J4 m;exact⟨i,by omega,h2⟩
theorem zgA {trs:List (Int×Int)}{lo hi:Option (Int×Int)}{t:Int×Int}{g:Nat×Nat×Str}(h:g∈grP trs lo hi t):g.1<=g.2.1/\g.2.1<trs.length:=by
 unfold grP at h
 obtain⟨i,hi',e⟩:=J4 h
 unfold fP at e
 dsimp only at e
 split at e
 ·cases e;exact⟨vC _ _,hi'⟩
 ·cases e
section
variable {P:Program}{w:World}{K:Fg}{mg:Str->Option Value}{base:Heap}
def S0 (bs:List Bl) (lo hi:Option (Rat×Rat)):SC:=⟨pbO bs lo hi,sbO bs lo hi,trO bs lo hi,lo.map (trB (pbO bs lo hi) (sbO bs lo hi)),hi.map (trB (pbO bs lo hi) (sbO bs lo hi))⟩
def gsO (bs:List Bl) (lo hi:Option (Rat×Rat)) (t:Int×Int):List (Nat×Nat×Str):=grP (S0 bs lo hi).trs (S0 bs lo hi).lo (S0 bs lo hi).hi t
inductive zdA (C:Addr) (CS:Addr) (CT:Addr) (Tb:Addr) (vs:List V) (H:Hp) (Q:VK) (E:XK):Prop
 | mk:∀r wa bs lo hi,(vs=[V.ref r,.ref wa])->(In H r wa bs lo hi)->(vQ Tb laQ laP H)->((∀b∈bs,1<=b.wt/\b.wt<=1000))->(BdS 4200 (S0 bs lo hi))->((∀H',zi H H'->soon (chO bs lo hi)=none->Q .non H'))->((∀t S p m r' wa' us v1 v2 H',soon (chO bs lo hi)=some t->xL lo hi≠some (qD (tkO bs lo hi) t)->jD (bs.map Bl.wt) (gsO bs lo hi t) (S0 bs lo hi) S->StT Tb H H'->vQ Tb laQ laP H'->H' p=some (.tup [.ref m,.ref r',.ref wa'])->zD H' m (qD (tkO bs lo hi) t)->H' r'=some (.tup us)->ZZ H' us ((S.trs.zip (bs.map Bl.wt)).map λz=>blT S.pb S.sb t z.1 z.2)->H' wa'=some (.tup [v1,v2])->Qs H' v1 (S.lo.map (ptT S.pb S.sb t))->Qs H' v2 (S.hi.map (ptT S.pb S.sb t))->Q (.ref p) H'))->((∀t p dx H',zi H H'->soon (chO bs lo hi)=some t->xL lo hi=some (qD (tkO bs lo hi) t)->H' dx=some (.xd [("moment",.ref p)])->zD H' p (qD (tkO bs lo hi) t)->E (.ref CS) (some dx) H'))->((∀t S pre g suf p dx H',soon (chO bs lo hi)=some t->xL lo hi≠some (qD (tkO bs lo hi) t)->gsO bs lo hi t=pre++g::suf->jD (bs.map Bl.wt) pre (S0 bs lo hi) S->refB (bs.map Bl.wt) g S->StT Tb H H'->vQ Tb laQ laP H'->H' dx=some (.xd [("moment",.ref p)])->zD H' p (qD (tkO bs lo hi) t)->E (.ref CT) (some dx) H'))->zdA C CS CT Tb vs H Q E
theorem ze2 (trs:List (Int×Int)) (lo hi:Option (Int×Int)) (t:Int×Int):(grP trs lo hi t).length<=trs.length:=by
 unfold grP
 have:∀n,(rlG (trs.map λl=>xl l t) (fP trs lo hi t) n).length<=n:=λn=>by
  induction n with
  | zero=>exact wx _
  | succ n ih =>
   unfold rlG
   split
   ·rw[wE]
    have:((fP trs lo hi t (stG (trs.map λl=>xl l t) n) n).toList).length<=1:=by cases fP trs lo hi t (stG (trs.map λl=>xl l t) n) n <;> simp
    omega
   ·omega
 exact this _
theorem QQ:zF ["row","walls","course","ticks","group","row_then","walls_then"] ["row","walls"] (zr ZK):=scq
theorem zil {C CS CT Tb fi:Addr}{fdi:FuncData}(D:Df K mg "behind" ZK ["row","walls"] []) (M:Mk K C fi) (Fi:vP P w K mg base CX0 4 fi fdi ["self","row","walls"] (zfl C)) (hmC:mg "Course" = some (.ref C)) (Bi:vn K fdi ["self","row","walls"] [])
  (cFT:ZW P w K mg base "first_ticks" 5 ["course","walls"] [] (zfm C CS)) (cMo:Cal P w K mg base "moment_of" 3 ["course","ticks"] [] (zb4 C)) (cGr:Cal P w K mg base "groups_at" 3 ["course","ticks"] [] (zfn C)) (cRb:ZW P w K mg base "rebound" 5 ["course","group","ticks"] [] (zhG C CT Tb)) (cPl:Cal P w K mg base "placed" 4 ["course","ticks"] [] (zhD C)) :
  ZW P w K mg base "behind" 6 ["row","walls"] [] (zdA C CS CT Tb):=by
 refine D.cal1 (k:=5) QQ (λvs H Q E h=>by obtain⟨_,_,_,_,_,rfl,_⟩:=h;rfl) (λf cdv A outer s H vs Q E hr h=>?_)
 obtain⟨r,wa,bs,lo,hi,rfl,I,T0,hwt,hbd,k1,k2,k3,k4⟩:=h
 obtain⟨us,hrr,hB⟩:=I.row
 obtain⟨v1,v2,hw,h1,h2⟩:=I.walls
 have hr3:xn 3 _:=hr.mono (by decide)
 have hr4:xn 4 _:=hr.mono (by decide)
 refine⟨_,(zA (zQ (i:=2) QQ.nd rfl (Or.inl rfl) (zaL M Fi hr (by rfl) hmC Bi .nil zc8 (zd (pv 0) (zd (pv 1) zf))))
  (zA (zQ (i:=3) QQ.nd rfl (Or.inl rfl) (zda cFT hr Z4 (zd (pv 2) (zd (pv 1) zf))))
  (zA (xh (zI xW (pv 3) zW (zM _)) (zh (zL zW)) zT)
  (zA (qJ PassesOwn.leaving rfl (xN (zP cGr hr3 (zd (pv 2) (zd (pv 3) zf)))) (zK (i:=4) QQ.nd rfl (Or.inl rfl)) (zh (qh (zda cRb hr Z4 (zd (pv 2) (zd (pv 4) (zd (pv 3) zf)))))))
  (zA (qg (zP cPl hr4 (zd (pv 2) (zd (pv 3) zf))) (qv rfl (zS (zK (i:=5) QQ.nd rfl (Or.inl rfl)) (zS (zK (i:=6) QQ.nd rfl (Or.inl rfl)) xD))))
  (zh (zL (xj (zd (zP cMo hr3 (zd (pv 2) (zd (pv 3) zf))) (zd (pv 5) (zd (pv 6) zf))))))))))),?_⟩
 refine⟨_,rfl,_,rfl,λc dx hc hdx ne=>?_⟩
 have SS:zi H (upd (upd H dx (.own c)) c (.ins C dx [])):=(zi.upd hdx).trans (zi.upd (by rw[zE ne.symm];exact hc))
 refine⟨c,dx,r,wa,us,bs,v1,v2,lo,hi,rfl,zg,SS _ _ hrr,hB.keeps (.of SS),SS _ _ hw,h1.keeps (.of SS),h2.keeps (.of SS),I.len,I.sz,λH1 X1 hcn=>⟨rfl,?_⟩⟩
 have hco:=hcn.co
 have S1:zi H H1:=λb o e=>X1 b o (zG e hc) (SS b o e)
 dsimp only[zO]
 refine⟨_,rfl,_,rfl,c,_,_,_,_,_,_,_,wa,v1,v2,lo,hi,rfl,hco,by rw[we];exact I.len,I.bd,I.tk,S1 _ _ hw,h1.keeps (.of S1),h2.keeps (.of S1),I.lo,I.hi,?_,?_,?_⟩
 ·intro H2 s2 e
  dsimp only[zO]
  exact⟨_,rfl,rfl,_,rfl,xw (k1 H2 (S1.trans s2) e)⟩
 ·intro v t H2 s2 e n hv
  obtain⟨ta,rfl,hta⟩:=hv
  dsimp only[zO]
  refine⟨_,rfl,rfl,_,rfl,xo ?_⟩
  have so:=Vt I.bd e
  have zt:BdP 4400 t:=⟨so.2.1.mono (by decide),so.2.2.mono (by decide)⟩
  have S2:=S1.trans s2
  have hco2:=hco.same s2
  have ztr:∀l∈(S0 bs lo hi).trs,BdP 4400 l:=λl m=>⟨(hbd.tr l m).1.mono (by decide),(hbd.tr l m).2.mono (by decide)⟩
  have zlo:∀l,(S0 bs lo hi).lo=some l->BdP 4400 l:=λl m=>⟨(hbd.lo l m).1.mono (by decide),(hbd.lo l m).2.mono (by decide)⟩
  have zhi:∀l,(S0 bs lo hi).hi=some l->BdP 4400 l:=λl m=>⟨(hbd.hi l m).1.mono (by decide),(hbd.hi l m).2.mono (by decide)⟩
  have hln:(S0 bs lo hi).trs.length<=8:=by show (trO bs lo hi).length<=8;unfold trO;rw[we];exact I.len
  try dsimp only
  refine⟨_,rfl,_,rfl,c,ta,_,_,_,_,_,_,_,t,rfl,hco2,hln,hta,zt,ztr,zlo,zhi,λGl gv H4 s4 hGn hG hgr=>?_⟩
  obtain⟨dx1,fs1,tl0,hc1,F1,et1,hn1⟩:=hcn
  have htlH:H tl0=none:=SS.free hn1
  have S4:=S2.trans s4
  obtain⟨tlx,tv1,ext,htl1,hTv1⟩:=F1.tracks
  rw[et1]at ext;cases ext
  have CT1:CoT H1 C c tl0 (S0 bs lo hi).pb (S0 bs lo hi).sb (tkO bs lo hi) (bs.map Bl.wt) (S0 bs lo hi).trs (S0 bs lo hi).lo (S0 bs lo hi).hi:=⟨dx1,fs1,tv1,hc1,F1,et1,htl1,hTv1⟩
  have CT4:=CT1.same (s2.trans s4)
  have T4:=T0.same S4
  obtain⟨ps4,hTb4,_⟩:=id T4
  have hc4:=s4 _ _ (s2 _ _ hc1)
  have htl4:=s4 _ _ (s2 _ _ htl1)
  have hGlS:Gl∉[Tb,c,tl0]:=λz=>by
   rcases wy.mp z with rfl | z
   ·rw[hG]at hTb4;cases hTb4
   ·rcases wy.mp z with rfl | z
    ·rw[hG]at hc4;cases hc4
    ·have:Gl=tl0:=by simpa using z
     rw[this,s2 _ _ htl1]at hGn;cases hGn
  have htaS:ta∉[Tb,c,tl0]:=λz=>by
   have h:=s4 _ _ hta
   rcases wy.mp z with rfl | z
   ·rw[h]at hTb4;cases hTb4
   ·rcases wy.mp z with rfl | z
    ·rw[h]at hc4;cases hc4
    ·have:ta=tl0:=by simpa using z
     rw[this,htl4]at h;cases h
  have hgl:gv.length=(gsO bs lo hi t).length:=hgr.1
  have hg8:(gsO bs lo hi t).length<=8:=wS (ze2 ..) hln
  have hwl:(bs.map Bl.wt).length=(S0 bs lo hi).trs.length:=by show _=(trO bs lo hi).length;unfold trO;rw[we,we]
  have hw1:∀x∈bs.map Bl.wt,1<=x/\x<=1000:=λx mx=>by obtain⟨b,mb,rfl⟩:=ww.mp mx;exact hwt b mb
  have st_of:∀{G:Hp},(∀b o,H4 b=some o->b∉[Tb,c,tl0]->G b=some o)->StT Tb H G:=λ{G} hch b o eb nb=>hch b o (S4 _ _ eb) λz=>by
   rcases wy.mp z with z | z
   ·exact nb z
   ·rcases wy.mp z with rfl | z
    ·rw[hc]at eb;cases eb
    ·have:b=tl0:=by simpa using z
     rw[this,htlH]at eb;cases eb
  refine⟨Gl,rfl,⟨_,SqL.of hG⟩,?_⟩
  refine jG (xs:=gv) (λi σ G=>∃z4 S tl',σ=[some (.ref r),some (.ref wa),some (.ref c),some (.ref ta),z4,none,none]/\jD (bs.map Bl.wt) ((gsO bs lo hi t).take i) (S0 bs lo hi) S/\CoT G C c tl' S.pb S.sb (tkO bs lo hi) (bs.map Bl.wt) S.trs S.lo S.hi/\vQ Tb laQ laP G/\(∀b o,H4 b=some o->b∉[Tb,c,tl0]->G b=some o)/\(tl'=tl0\/H4 tl'=none)/\BdS (4200+14*i) S/\S.trs.length=(S0 bs lo hi).trs.length)
   ⟨_,S0 bs lo hi,tl0,rfl,.nil _,CT4,T4,λ_ _ eb _=>eb,.inl rfl,hbd,rfl⟩ (λi σ G hi' ⟨_,_,_,_,_,_,_,hch,_⟩=>SqL.of (hch _ _ hG hGlS)) ?_ ?_
  ·rintro i xg σ G hxg ⟨z4,S,tl',rfl,hch,CTh,TT,hkp,htl',hBd,hlen⟩
   obtain⟨g,eg,ga,rfl,hga⟩:=hgr.2 i xg hxg
   have hi':i<gv.length:=(wk.mp hxg).1
   have hgm:=zgA (wj eg)
   have hgaS:ga∉[Tb,c,tl0]:=λz=>by
    rcases wy.mp z with rfl | z
    ·rw[hga]at hTb4;cases hTb4
    ·rcases wy.mp z with rfl | z
     ·rw[hga]at hc4;cases hc4
     ·have:ga=tl0:=by simpa using z
      rw[this,htl4]at hga;cases hga
   have hbl:g.2.1<S.trs.length:=by rw[hlen];exact hgm.2
   have bnd:4200+14*i<=4600:=by omega
   have etk:(gsO bs lo hi t).take (i+1)=(gsO bs lo hi t).take i++[g]:=by
    have eg':(gsO bs lo hi t)[i]? = some g:=eg
    rw[ym,eg'];rfl
   dsimp only[zO]
   refine⟨_,rfl,_,rfl,_,rfl,c,tl',ga,ta,g.1,g.2.1,g.2.2,t,S.pb,S.sb,tkO bs lo hi,bs.map Bl.wt,S.trs,S.lo,S.hi,rfl,CTh,hkp _ _ hga hgaS,hkp _ _ (s4 _ _ hta) htaS,by omega,zt,I.tk,hgm.1,hbl,by omega,by rw[hwl,hlen],hw1,hBd.pb.mono bnd,hBd.sb.mono bnd,λt' m=>⟨(hBd.tr t' m).1.mono bnd,(hBd.tr t' m).2.mono bnd⟩,λl m=>⟨(hBd.lo l m).1.mono bnd,(hBd.lo l m).2.mono bnd⟩,λl m=>⟨(hBd.hi l m).1.mono bnd,(hBd.hi l m).2.mono bnd⟩,TT,?_,?_⟩
   ·intro G' tl2 pb2 sb2 trs2 lo2 hi2 ch tt hor rb ct
    have rb':RbS (bs.map Bl.wt) g S ⟨pb2,sb2,trs2,lo2,hi2⟩:=rb
    obtain⟨b1,b2,_⟩:=zco hw1 hBd rb' hgm.1 hbl
    refine⟨_,⟨pb2,sb2,trs2,lo2,hi2⟩,tl2,rfl,by rw[etk];exact hch.snoc rb',ct,tt,λb o eb nb=>ch b o (λz=>?_) (hkp b o eb nb),?_,by rw[show 4200+14*(i+1)=4200+14*i+14 by omega];exact b1,b2.trans hlen⟩
    ·rcases wy.mp z with rfl | z
     ·exact nb (wJ ..)
     ·rcases wy.mp z with rfl | z
      ·rcases htl' with z2 | z2
       ·exact nb (by rw[z2];simp)
       ·rw[eb]at z2;cases z2
      ·have:b=c:=by simpa using z
       exact nb (by rw[this];simp)
    ·rcases hor with rfl | hn
     ·exact htl'
     ·by_cases z0:tl2=tl0
      ·exact .inl z0
      ·refine .inr ?_
       cases ez:H4 tl2 with
       | none=>rfl
       | some o =>
        have nb:tl2∉[Tb,c,tl0]:=λz=>by
         rcases wy.mp z with rfl | z
         ·obtain⟨ps,gT,_⟩:=TT;rw[gT]at hn;cases hn
         ·rcases wy.mp z with rfl | z
          ·obtain⟨_,_,_,gc,_⟩:=CTh;rw[gc]at hn;cases hn
          ·exact z0 (by simpa using z)
        rw[hkp _ _ ez nb]at hn;cases hn
   ·intro G' dxe pe ss hp1 hs1 hxd hrt
    refine⟨CT,rfl,k4 t S ((gsO bs lo hi t).take i) g ((gsO bs lo hi t).drop (i+1)) pe dxe G' e n ?_ hch ⟨hp1,hs1⟩ (λb o eb nb=>ss _ _ (st_of hkp b o eb nb)) (TT.same ss) hxd hrt⟩
    have hi2:i<(gsO bs lo hi t).length:=by omega
    have eg':(gsO bs lo hi t)[i]? = some g:=eg
    obtain⟨_,eg2⟩:=wk.mp eg'
    rw[<-eg2,<-ya hi2,List.take_append_drop]
  ·rintro σ G ⟨z4,S,tl',rfl,hch,CTh,TT,hkp,htl',hBd,hlen⟩
   have bnd:4200+14*gv.length<=4312:=by omega
   have bn4:4200+14*gv.length<=4400:=by omega
   obtain⟨dx5,fs5,tv5,hc5,F5,et5,htl5,hTv5⟩:=id CTh
   obtain⟨tp,etp,htp⟩:=F5.tick
   have hta5:=hkp _ _ (s4 _ _ hta) htaS
   refine⟨_,rfl,_,rfl,c,tl',ta,S.pb,S.sb,tkO bs lo hi,bs.map Bl.wt,S.trs,S.lo,S.hi,t,rfl,CTh,hta5,zt,by omega,by rw[hwl,hlen],λt' m=>⟨(hBd.tr t' m).1.mono bn4,(hBd.tr t' m).2.mono bn4⟩,λl m=>⟨(hBd.lo l m).1.mono bn4,(hBd.lo l m).2.mono bn4⟩,λl m=>⟨(hBd.hi l m).1.mono bn4,(hBd.hi l m).2.mono bn4⟩,by have:=hBd.p0;omega,by have:=hBd.s0;omega,by omega,hBd.pb.mono bn4,hBd.sb.mono (by omega),(((hBd.pb.mono bnd).mul zt.2).mono (by decide)),λp r' wa' us' w1 w2 G5 s5 hp hr' hRow hwa' hp1 hp2=>?_⟩
   refine⟨p,_,rfl,.of hp,rfl,_,_,rfl,_,_,rfl,rfl,?_⟩
   dsimp only[zO]
   refine⟨_,rfl,_,rfl,c,ta,dx5,fs5,tp,_,t.1,t.2,rfl,s5 _ _ hc5,etp,s5 _ _ htp,s5 _ _ hta5,by omega,zt.1,zt.2,I.tk,λm G6 s6 hm=>⟨_,rfl,_,rfl,zL3,λpp hpp=>?_⟩⟩
   have s7:=zi.upd (o:=.tup [.ref m,.ref r',.ref wa']) hpp
   have S57:=s6.trans s7
   refine k2 t S pp m r' wa' us' w1 w2 _ e n ?_ (λb o eb nb=>S57 _ _ (s5 _ _ (st_of hkp b o eb nb))) ((TT.same s5).same S57) zg (s7 _ _ hm) (S57 _ _ hr') (hRow.keeps (.of S57)) (S57 _ _ hwa') (hp1.keeps (.of S57)) (hp2.keeps (.of S57))
   rw[hgl,Wh]at hch
   exact hch
 ·intro t p d H2 s2 e e' hd hp
  exact⟨CS,rfl,k3 t p d H2 (S1.trans s2) e e' hd hp⟩
end
end KQ
namespace KT
open PySem L2 KM KK KQ
def bl (b:zJ):KQ.Bl:=⟨b.pl,b.sp,b.wt⟩
theorem zi2 {H:Hp}{us:List V}{bs:List zJ}(h:zH H us bs):ZZ H us (bs.map bl):=by
 refine⟨by rw[h.length,we],λi v e=>?_⟩
 obtain⟨a,p,q,b,eb,rfl,h1,h2,h3⟩:=h.get e
 exact⟨bl b,by rw[wg,eb];rfl,a,p,q,rfl,h1,h2,h3⟩
theorem zfA {H:Hp}{v:V}{l:Wl}(h:zV H v l):qI H v l:=by
 cases l with
 | none=>exact h
 | some u=>obtain⟨x,y⟩:=u;obtain⟨a,p,q,rfl,h1,h2,h3⟩:=h;exact⟨a,rfl,p,q,[],h1,h2,h3⟩
def tl (bs:List zJ) (lo hi:Wl):List (Rat×Rat):=xx lo++bs.map (λb=>(b.pl,b.sp))++xx hi
theorem zaH (pb sb:Int) (l:Wl):VZ (l.map (trB pb sb))=(xx l).map (trB pb sb):=by cases l <;> rfl
theorem zct (bs:List zJ) (lo hi:Wl):chO (bs.map bl) lo hi=(tl bs lo hi).map (trB (pbO (bs.map bl) lo hi) (sbO (bs.map bl) lo hi)):=by
 unfold chO chn trO tl
 rw[zaH,zaH,w8,w8,wV,wV];rfl
theorem Vy (bs:List zJ) (lo hi:Wl):trO (bs.map bl) lo hi=bs.map λb=>trB (pbO (bs.map bl) lo hi) (sbO (bs.map bl) lo hi) (b.pl,b.sp):=by
 unfold trO;rw[wV];rfl
theorem Xl {bs:List zJ}{lo hi:Wl}{t:Rat×Rat}:t∈ths (bs.map bl) lo hi↔t∈tl bs lo hi:=by
 unfold ths tl
 rw[wV]
 simp only[wN]
 show t∈bs.map (λb=>(b.pl,b.sp))\/_↔_
 constructor
 ·rintro (h | h | h)
  ·exact .inl (.inr h)
  ·exact .inl (.inl h)
  ·exact .inr h
 ·rintro ((h | h) | h)
  ·exact .inr (.inl h)
  ·exact .inl h
  ·exact .inr (.inr h)
def VE (tk:Rat) (u:Option (Int×Int)) (f:Option Rat):Prop:=(u=none/\f=none)\/∃t m,u=some t/\f=some m/\0<t.2/\qD tk t=m
theorem VQ {a b:Int}:((a:Rat)<(b:Rat))↔a<b:=Rat.intCast_lt_intCast
theorem zdJ {pb sb:Int}(hp:0<pb) (hs:0<sb){l r:Rat×Rat}(d1:(l.1.den:Int) ∣ pb) (d2:(l.2.den:Int) ∣ sb) (d3:(r.1.den:Int) ∣ pb) (d4:(r.2.den:Int) ∣ sb){u:Option (Int×Int)}{f:Option Rat}(h:VE (Rat.divInt sb pb) u f) :
  VE (Rat.divInt sb pb) (qx u (trB pb sb l,trB pb sb r)) (x8 f (l,r)):=by
 have e1:(((trB pb sb l).1:Int):Rat)=l.1*pb:=byq d1
 have e2:(((trB pb sb l).2:Int):Rat)=l.2*sb:=byq d2
 have e3:(((trB pb sb r).1:Int):Rat)=r.1*pb:=byq d3
 have e4:(((trB pb sb r).2:Int):Rat)=r.2*sb:=byq d4
 have hp':(0:Rat)<(pb:Rat):=by exact_mod_cast hp
 have hs':(0:Rat)<(sb:Rat):=by exact_mod_cast hs
 have hlt:(trB pb sb r).2<(trB pb sb l).2↔r.2<l.2:=by
  rw[<-VQ,e2,e4,Rat.mul_lt_mul_right hs']
 generalize trB pb sb l=L at *
 generalize trB pb sb r=R at *
 unfold qx x8
 by_cases c:r.2<l.2
 ·have c':=hlt.mpr c
  rw[if_pos (show (L,R).2.2<(L,R).1.2 from c'),if_pos (show (l,r).2.2<(l,r).1.2 from c)]
  have pos:0<L.2 - R.2:=by omega
  have hn:qD (Rat.divInt sb pb) (R.1 - L.1,L.2 - R.2)=mo l r:=by
   unfold qD
   rw[zex _ (by show L.2 - R.2≠0;omega)]
   show ((R.1 - L.1:Int):Rat)*_/((L.2 - R.2:Int):Rat)=_
   rw[Rat.intCast_sub,Rat.intCast_sub,e1,e2,e3,e4,yz]
   exact zcZ hp' hs' c
  rcases h with⟨rfl,rfl⟩ | ⟨t,m,rfl,rfl,tp,hm⟩
  ·exact .inr ⟨(R.1 - L.1,L.2 - R.2),mo l r,rfl,rfl,pos,hn⟩
  ·have tkp:(0:Rat)<Rat.divInt sb pb:=by
    rw[yz,W7 hp'];grind
   have cmp:(R.1 - L.1)*t.2<t.1*(L.2 - R.2)↔mo l r<m:=by
    rw[<-hn,<-hm]
    unfold qD
    rw[zex _ (show (R.1 - L.1,L.2 - R.2).2≠0 by show L.2 - R.2≠0;omega),zex _ (show t.2≠0 by omega)]
    rw[zej (by exact_mod_cast pos) (by exact_mod_cast tp) tkp]
    rw[<-VQ]
    show _↔((R.1 - L.1:Int):Rat)*(t.2:Rat)<(t.1:Rat)*((L.2 - R.2:Int):Rat)
    rw[yK,yK]
   show VE _ (if(R.1 - L.1)*t.2<t.1*(L.2 - R.2)then some (R.1 - L.1,L.2 - R.2)else some t) (if mo l r<m then some (mo l r)else some m)
   by_cases c2:mo l r<m
   ·rw[if_pos (cmp.mpr c2),if_pos c2]
    exact .inr ⟨_,_,rfl,rfl,pos,hn⟩
   ·rw[if_neg (λz=>c2 (cmp.mp z)),if_neg c2]
    exact .inr ⟨_,_,rfl,rfl,tp,hm⟩
 ·rw[if_neg (show ¬(L,R).2.2<(L,R).1.2 from λz=>c (hlt.mp z)),if_neg (show ¬(l,r).2.2<(l,r).1.2 from c)]
  exact h
theorem VO {pb sb:Int}(hp:0<pb) (hs:0<sb):∀{L:List ((Rat×Rat)×(Rat×Rat))}{u:Option (Int×Int)}{f:Option Rat},(∀p∈L,((p.1.1.den:Int) ∣ pb/\(p.1.2.den:Int) ∣ sb)/\(p.2.1.den:Int) ∣ pb/\(p.2.2.den:Int) ∣ sb)->VE (Rat.divInt sb pb) u f →
  VE (Rat.divInt sb pb) ((L.map λp=>(trB pb sb p.1,trB pb sb p.2)).foldl qx u) (L.foldl x8 f)
 | [],u,f,_,h=>h
 | p::L,u,f,hL,h=>by
  obtain⟨⟨a,b⟩,c,d⟩:=hL p wJ
  show VE _ ((L.map λp=>(trB pb sb p.1,trB pb sb p.2)).foldl qx (qx u (trB pb sb p.1,trB pb sb p.2))) (L.foldl x8 (x8 f p))
  exact VO hp hs (λq mq=>hL q (wP _ mq)) (zdJ hp hs a b c d h)
theorem zdz {pb sb:Int}(hp:0<pb) (hs:0<sb){ch:List (Rat×Rat)} (hd:∀t∈ch,(t.1.den:Int) ∣ pb/\(t.2.den:Int) ∣ sb):VE (Rat.divInt sb pb) (soon (ch.map (trB pb sb))) (qq ch):=by
 unfold soon qq
 have e:(ch.map (trB pb sb)).zip (ch.map (trB pb sb)).tail=(ch.zip ch.tail).map λp=>(trB pb sb p.1,trB pb sb p.2):=by
  rw[<-List.map_tail,List.zip_map];rfl
 rw[e]
 refine VO hp hs (λp mp=>?_) (.inl ⟨rfl,rfl⟩)
 have z:=uu mp
 exact⟨hd _ z.1,hd _ (List.mem_of_mem_tail z.2)⟩
theorem zaC {n:Nat}{qs:List Rat}(h:∀q∈qs,Bd n (q.den:Int)):0<Vg qs/\Bd (1+n*qs.length) (Vg qs)/\∀q∈qs,(q.den:Int) ∣ Vg qs:=by
 obtain⟨a1,a2,_,a4⟩:=X0 (n:=n) (ks:=qs.map λq=>(q.den:Int)) (c:=1) (m:=1) (by decide) (show (1:Int).natAbs<2^1 by decide) (λk hk=>by
  obtain⟨q,hq,rfl⟩:=ww.mp hk
  exact⟨by have:=q.den_pos;omega,h q hq⟩)
 rw[we]at a2
 exact⟨a1,a2,λq hq=>a4 _ (ww.mpr ⟨q,hq,rfl⟩)⟩
theorem VI {n:Nat}{b d:Int}(hb:0<b) (hd:0<d) (h:Bd n b):Bd n (b.fdiv d):=by
 rw[yd _ (by omega)]
 exact h.of_le (by have:=uJ d (a:=b) (by omega);have:=W3 (a:=b) (b:=d) (by omega) (by omega);omega)
theorem zca {bs:List KQ.Bl}{lo hi:Wl}(h:bs.length<=8):(ths bs lo hi).length<=10:=by
 unfold ths
 have e:∀w:Wl,(xx w).length<=1:=λw=>by cases w <;> simp[xx]
 have:=e lo
 have:=e hi
 simp only[wE,we];omega
structure Bot (bs:List zJ) (lo hi:Wl):Prop where
 p0:0<pbO (bs.map bl) lo hi
 s0:0<sbO (bs.map bl) lo hi
 pz:Bd 3201 (pbO (bs.map bl) lo hi)
 sz:Bd 801 (sbO (bs.map bl) lo hi)
 dv:∀t∈tl bs lo hi,(t.1.den:Int) ∣ pbO (bs.map bl) lo hi/\(t.2.den:Int) ∣ sbO (bs.map bl) lo hi
def TZ (bs:List zJ) (lo hi:Wl):Prop:=∀t∈tl bs lo hi,Sz 320 t.1/\Sz 80 t.2
theorem bot {bs:List zJ}{lo hi:Wl}(h:bs.length<=8) (hz:TZ bs lo hi):Bot bs lo hi:=by
 have hl:=zca (bs:=bs.map bl) (lo:=lo) (hi:=hi) (by rw[we];exact h)
 obtain⟨a1,a2,a3⟩:=zaC (n:=320) (qs:=(ths (bs.map bl) lo hi).map (·.1)) (λq hq=>by obtain⟨t,ht,rfl⟩:=ww.mp hq;exact(hz t (Xl.mp ht)).1.2)
 obtain⟨b1,b2,b3⟩:=zaC (n:=80) (qs:=(ths (bs.map bl) lo hi).map (·.2)) (λq hq=>by obtain⟨t,ht,rfl⟩:=ww.mp hq;exact(hz t (Xl.mp ht)).2.2)
 rw[we]at a2 b2
 exact⟨a1,b1,a2.mono (by omega),b2.mono (by omega),λt ht=>⟨a3 _ (ww.mpr ⟨t,Xl.mpr ht,rfl⟩),b3 _ (ww.mpr ⟨t,Xl.mpr ht,rfl⟩)⟩⟩
theorem zfN {H:Hp}{r wa:Addr}{us:List V}{v1 v2:V}{bs:List zJ}{lo hi:Wl}(hr:H r=some (.tup us)) (hR:zH H us bs) (hw:H wa=some (.tup [v1,v2])) (h1:zV H v1 lo) (h2:zV H v2 hi) (hl:bs.length<=8) (hz:TZ bs lo hi):In H r wa (bs.map bl) lo hi:=by
 have B:=bot hl hz
 refine⟨⟨us,hr,zi2 hR⟩,⟨v1,v2,hw,zfA h1,zfA h2⟩,by rw[we];exact hl,λt ht=>⟨(hz t (Xl.mp ht)).1.mono (by decide),(hz t (Xl.mp ht)).2.mono (by decide)⟩,λt ht=>?_,?_⟩
 ·rw[zct]at ht
  obtain⟨s,hs,rfl⟩:=ww.mp ht
  have z:=hz s hs
  exact⟨(z.1.1.mul (VI B.p0 (KM.den_pos _) B.pz)).mono (by decide),(z.2.1.mul (VI B.s0 (KM.den_pos _) B.sz)).mono (by decide)⟩
 ·exact(Sz.divInt (by have:=B.p0;omega) (B.sz.mono (by decide:801<=3201)) B.pz).mono (by decide)
theorem za2 {bs:List zJ}{lo hi:Wl}(B:Bot bs lo hi):VE (tkO (bs.map bl) lo hi) (soon (chO (bs.map bl) lo hi)) (qq (tl bs lo hi)):=by
 rw[zct];exact zdz B.p0 B.s0 B.dv
def Zj (l r:Rat×Rat):Prop:=l.1<r.1\/(l.1=r.1/\l.2<=r.2)
structure Ord (bs:List zJ) (lo hi:Wl):Prop where
 pw:(tl bs lo hi).Pairwise Zj
 lt:∀x y x' y',lo=some (x,y)->hi=some (x',y')->x<x'
theorem Ord.lo {bs:List zJ}{lo hi:Wl}(O:Ord bs lo hi){x y:Rat}(e:lo=some (x,y)){b:zJ}(m:b∈bs):Zj (x,y) (b.pl,b.sp):=by
 subst e
 have:=O.pw
 unfold tl at this
 rw[wX,wX]at this
 exact this.1.2.2 _ (by simp[xx]) _ (ww.mpr ⟨b,m,rfl⟩)
theorem Ord.hi {bs:List zJ}{lo hi:Wl}(O:Ord bs lo hi){x y:Rat}(e:hi=some (x,y)){b:zJ}(m:b∈bs):Zj (b.pl,b.sp) (x,y):=by
 subst e
 have:=O.pw
 unfold tl at this
 rw[wX]at this
 exact this.2.2 _ (wC _ (ww.mpr ⟨b,m,rfl⟩)) _ (by simp[xx])
def zN (m:Rat) (b:zJ):zJ:=⟨b.pl+b.sp*m,b.sp,b.wt⟩
def zR (m:Rat) (l:Wl):Wl:=match l with | none=>none | some (x,y)=>some (x+y*m,y)
def Xx (m:Rat) (bs:List zJ):List Rat:=bs.map λb=>b.pl+b.sp*m
theorem Qp {pb sb:Int}{t:Int×Int}{x y m:Rat}(hp:0<pb) (ht:0<t.2) (d1:(x.den:Int) ∣ pb) (d2:(y.den:Int) ∣ sb) (hm:qD (Rat.divInt sb pb) t=m):((xl (trB pb sb (x,y)) t:Int):Rat)=(x+y*m)*((pb:Rat)*(t.2:Rat)):=by
 have e1:(((trB pb sb (x,y)).1:Int):Rat)=x*pb:=byq d1
 have e2:(((trB pb sb (x,y)).2:Int):Rat)=y*sb:=byq d2
 have hp':(pb:Rat)≠0:=by
  have:(0:Rat)<(pb:Rat):=by exact_mod_cast hp
  grind
 have ht':(t.2:Rat)≠0:=by
  have:(0:Rat)<(t.2:Rat):=by exact_mod_cast ht
  grind
 unfold xl
 rw[Rat.intCast_add,yK,yK,e1,e2,<-hm]
 unfold qD
 rw[zex _ (by omega),yz]
 grind
theorem za4 {pb sb:Int}{t:Int×Int}{x y x' y' m:Rat}(hp:0<pb) (ht:0<t.2) (d1:(x.den:Int) ∣ pb) (d2:(y.den:Int) ∣ sb) (d3:(x'.den:Int) ∣ pb) (d4:(y'.den:Int) ∣ sb) (hm:qD (Rat.divInt sb pb) t=m):xl (trB pb sb (x,y)) t=xl (trB pb sb (x',y')) t↔x+y*m=x'+y'*m:=by
 have k1:=Qp hp ht d1 d2 hm
 have k2:=Qp hp ht d3 d4 hm
 have hp':(0:Rat)<(pb:Rat):=by exact_mod_cast hp
 have ht':(0:Rat)<(t.2:Rat):=by exact_mod_cast ht
 have hpt:(pb:Rat)*(t.2:Rat)≠0:=by
  have:=Rat.mul_pos hp' ht'
  grind
 constructor
 ·intro h
  rw[h]at k1
  have:(x+y*m)*((pb:Rat)*(t.2:Rat))=(x'+y'*m)*((pb:Rat)*(t.2:Rat)):=by rw[<-k1,<-k2]
  grind
 ·intro h
  rw[h,<-k2]at k1
  exact_mod_cast k1
theorem zf6 {pb sb:Int}{x y x' y':Rat}(hs:0<sb) (d2:(y.den:Int) ∣ sb) (d4:(y'.den:Int) ∣ sb):(trB pb sb (x,y)).2=(trB pb sb (x',y')).2↔y=y':=by
 have e1:(((trB pb sb (x,y)).2:Int):Rat)=y*sb:=byq d2
 have e2:(((trB pb sb (x',y')).2:Int):Rat)=y'*sb:=byq d4
 have hs':(sb:Rat)≠0:=by
  have:(0:Rat)<(sb:Rat):=by exact_mod_cast hs
  grind
 constructor
 ·intro h
  rw[h,e2]at e1
  grind
 ·intro h
  have:(((trB pb sb (x,y)).2:Int):Rat)=(((trB pb sb (x',y')).2:Int):Rat):=by rw[e1,e2,h]
  exact_mod_cast this
def atW (l:Wl) (k:Rat):Bool:=match l with
 | none=>false
 | some (x,_)=>decide (x=k)
def qN (lo hi:Wl) (k:Rat):Str:=if atW lo k=true then "low" else if atW hi k=true then "high" else ""
def qV (cs:List zJ) (lo hi:Wl) (a b:Nat):Bool:=match cs[a]?,cs[b]? with
 | some ca,some cb=>if atW lo ca.pl=true then(match lo with | some (_,y)=>decide (ca.sp<y) | none=>false)else if atW hi ca.pl=true then(match hi with | some (_,y)=>decide (y<cb.sp) | none=>false)else false
 | _,_=>false
def wsp (l:Wl) (f:Rat->Bool):Bool:=match l with
 | some (_,y)=>f y
 | none=>false
theorem ZE {cs:List zJ}{lo hi:Wl}{a b:Nat}{ca cb:zJ}(ea:cs[a]? = some ca) (eb:cs[b]? = some cb):qV cs lo hi a b=if atW lo ca.pl=true then wsp lo (λy=>decide (ca.sp<y))else if atW hi ca.pl=true then wsp hi (λy=>decide (y<cb.sp))else false:=by
 unfold qV
 rw[ea,eb];rfl
theorem Vr {lo hi:Wl}{k:Rat}(h:atW lo k=false):qN lo hi k=(if atW hi k=true then("high":Str)else("":Str)):=by
 unfold qN
 rw[if_neg (by rw[h];simp)]
theorem zaZ {lo hi:Wl}{k:Rat}(h:atW lo k=true):qN lo hi k=("low":Str):=by
 unfold qN
 rw[if_pos h]
def fL (cs:List zJ) (lo hi:Wl) (a b:Nat):Option (Nat×Nat×Str):=if a<b\/qV cs lo hi a b=true then some (a,b,qN lo hi (((cs.map zJ.pl)[a]?).getD 0))else none
def grL (cs:List zJ) (lo hi:Wl):List (Nat×Nat×Str):=rlG (cs.map zJ.pl) (fL cs lo hi) cs.length
theorem J5 {α:Type} [DecidableEq α] {ss:List α}:∀{i:Nat},i<ss.length->∀j,stG ss i<=j->j<=i->ss[j]? = ss[i]?
 | 0,_,j,_,h2=>by rw[show j=0 by omega]
 | i+1,hi,j,h1,h2=>by
  by_cases hb:brk ss i=true
  ·have e:stG ss (i+1)=i+1:=if_pos hb
   rw[show j=i+1 by omega]
  ·have e:stG ss (i+1)=stG ss i:=if_neg hb
   rw[e]at h1
   have hn:ss[i+1]? = ss[i]?:=by
    have:brk ss i=false:=by simpa using hb
    unfold brk at this
    rw[Bool.or_eq_false_iff]at this
    have:=of_decide_eq_false this.2
    exact Classical.byContradiction λz=>this z
   rcases uB i j with h | h
   ·rw[show j=i+1 by omega]
   ·rw[J5 (by omega) j h1 h,hn]
theorem Jm {α β:Type} [DecidableEq α] [DecidableEq β] {ss:List α}{ts:List β}:∀{n:Nat},(∀i,i<n->brk ss i=brk ts i)->stG ss n=stG ts n
 | 0,_=>rfl
 | n+1,h=>by
  have ih:=Jm (n:=n) λi hi=>h i (by omega)
  show (if brk ss n=true then n+1 else stG ss n)=(if brk ts n=true then n+1 else stG ts n)
  rw[h n (by omega),ih]
theorem Jf {α β γ:Type} [DecidableEq α] [DecidableEq β] {ss:List α}{ts:List β}{f g:Nat->Nat->Option γ}:∀{n:Nat},(∀i,i<n->brk ss i=brk ts i)->(∀i,i<n->brk ts i=true->f (stG ts i) i=g (stG ts i) i)->rlG ss f n=rlG ts g n
 | 0,_,_=>rfl
 | n+1,h,k=>by
  have ih:=Jf (n:=n) (f:=f) (g:=g) (λi hi=>h i (by omega)) (λi hi=>k i (by omega))
  have es:=Jm (ss:=ss) (ts:=ts) (n:=n) λi hi=>h i (by omega)
  show (if brk ss n=true then rlG ss f n++(f (stG ss n) n).toList else rlG ss f n)=(if brk ts n=true then rlG ts g n++(g (stG ts n) n).toList else rlG ts g n)
  rw[h n (by omega),ih,es]
  by_cases c:brk ts n=true
  ·rw[if_pos c,if_pos c,k n (by omega) c]
  ·rw[if_neg c,if_neg c]
theorem Ju {bs:List zJ}{lo hi:Wl}{l:Wl}(B:Bot bs lo hi){t:Int×Int}{m:Rat}(ht:0<t.2) (hm:qD (tkO (bs.map bl) lo hi) t=m) (hl:∀u,l=some u->u∈tl bs lo hi){b:zJ}(mb:b∈bs) :
  atS (l.map (trB (pbO (bs.map bl) lo hi) (sbO (bs.map bl) lo hi))) t (xl (trB (pbO (bs.map bl) lo hi) (sbO (bs.map bl) lo hi) (b.pl,b.sp)) t)=atW (zR m l) (b.pl+b.sp*m):=by
 cases l with
 | none=>rfl
 | some u =>
  obtain⟨x,y⟩:=u
  have d:=B.dv _ (hl _ rfl)
  have d':=B.dv (b.pl,b.sp) (by unfold tl;exact wT _ (wC _ (ww.mpr ⟨b,mb,rfl⟩)))
  show decide (_=xl (trB _ _ (x,y)) t)=decide (x+y*m=b.pl+b.sp*m)
  rw[yv,wH,wH,za4 B.p0 ht d'.1 d'.2 d.1 d.2 hm]
  exact⟨λh=>h.symm,λh=>h.symm⟩
theorem zcz {trs:List (Int×Int)}{a:Nat}{u t:Int×Int}(e:trs[a]? = some t):(0<cwN trs (some u) a a)↔t.2≠u.2:=by
 show (0<(((trs.drop a).take (a+1 - a)).filter λt=>decide (t.2≠u.2)).length)↔_
 obtain⟨ha,rfl⟩:=wk.mp e
 rw[show a+1 - a=1 by omega,ya ha,uh,List.take_zero]
 by_cases c:trs[a].2≠u.2
 ·rw[uY (by simpa using c)];simp[c]
 ·rw[List.filter_cons_of_neg (by simpa using c)];simp at c;simp[c]
theorem zfL {bs:List zJ}{lo hi:Wl}(B:Bot bs lo hi) (O:Ord bs lo hi){t:Int×Int}{m:Rat}(ht:0<t.2) (hm:qD (tkO (bs.map bl) lo hi) t=m) (pm:0<m) :
  grP (trO (bs.map bl) lo hi) (lo.map (trB (pbO (bs.map bl) lo hi) (sbO (bs.map bl) lo hi))) (hi.map (trB (pbO (bs.map bl) lo hi) (sbO (bs.map bl) lo hi))) t=grL (bs.map (zN m)) (zR m lo) (zR m hi):=by
 have ek:(bs.map (zN m)).map zJ.pl=Xx m bs:=by rw[wV];rfl
 have esp:(trO (bs.map bl) lo hi).map (λl=>xl l t)=bs.map λb=>xl (trB (pbO (bs.map bl) lo hi) (sbO (bs.map bl) lo hi) (b.pl,b.sp)) t:=by rw[Vy,wV];rfl
 have dB:∀b∈bs,(b.pl.den:Int) ∣ pbO (bs.map bl) lo hi/\(b.sp.den:Int) ∣ sbO (bs.map bl) lo hi:=λb mb=>B.dv (b.pl,b.sp) (by unfold tl;exact wT _ (wC _ (ww.mpr ⟨b,mb,rfl⟩)))
 have wl:∀u,lo=some u->u∈tl bs lo hi:=λu e=>by unfold tl;rw[e];simp[xx]
 have wh:∀u,hi=some u->u∈tl bs lo hi:=λu e=>by unfold tl;rw[e];simp[xx]
 unfold grP grL
 rw[ek,esp,show (trO (bs.map bl) lo hi).length=bs.length by rw[Vy,we],we]
 have hbrk:∀i,i<bs.length->brk (bs.map λb=>xl (trB (pbO (bs.map bl) lo hi) (sbO (bs.map bl) lo hi) (b.pl,b.sp)) t) i=brk (Xx m bs) i:=λi hil=>by
  unfold brk Xx
  rw[we,we,wg,wg,wg,wg]
  by_cases h1:i+1=bs.length
  ·rw[wq h1];rfl
  ·obtain⟨b,eb⟩:∃b,bs[i]? = some b:=⟨_,wf hil⟩
   obtain⟨c,ec⟩:∃b,bs[i+1]? = some b:=⟨_,wf (by omega)⟩
   have db:=dB b (wj eb)
   have dc:=dB c (wj ec)
   rw[eb,ec,wI h1,uV,uV,yv,wH,wH]
   show some _≠some _↔some _≠some _
   rw[ne_eq,ne_eq,Option.some.injEq,Option.some.injEq,za4 B.p0 ht dc.1 dc.2 db.1 db.2 hm]
 refine Jf hbrk λi hil _=>?_
 have hst:=vC (Xx m bs) i
 obtain⟨b,eb⟩:∃b,bs[i]? = some b:=⟨_,wf hil⟩
 obtain⟨a,ea⟩:∃b,bs[stG (Xx m bs) i]? = some b:=⟨_,wf (by omega)⟩
 have hab:a.pl+a.sp*m=b.pl+b.sp*m:=by
  have:=J5 (ss:=Xx m bs) (i:=i) (by unfold Xx;rw[we];exact hil) (stG (Xx m bs) i) (wx _) hst
  unfold Xx at this
  rw[wg,wg]at this
  unfold Xx at ea
  rw[ea,eb]at this
  simpa using this
 have mb:=wj eb
 have ma:=wj ea
 generalize stG (Xx m bs) i=j at *
 have eside:x6 (lo.map (trB (pbO (bs.map bl) lo hi) (sbO (bs.map bl) lo hi))) (hi.map (trB (pbO (bs.map bl) lo hi) (sbO (bs.map bl) lo hi))) t (xl (trB (pbO (bs.map bl) lo hi) (sbO (bs.map bl) lo hi) (b.pl,b.sp)) t)=qN (zR m lo) (zR m hi) (a.pl+a.sp*m):=by
  unfold x6 qN
  rw[Ju B ht hm wl mb,Ju B ht hm wh mb,hab]
 have e1:((List.map (λl=>xl l t) (trO (bs.map bl) lo hi))[i]?).getD 0=xl (trB (pbO (bs.map bl) lo hi) (sbO (bs.map bl) lo hi) (b.pl,b.sp)) t:=by
  rw[esp,wg,eb];rfl
 have e2:(((bs.map (zN m)).map zJ.pl)[j]?).getD 0=a.pl+a.sp*m:=by
  rw[ek];unfold Xx;rw[wg,ea];rfl
 unfold fP fL
 try dsimp only
 rw[e1,e2,eside]
 have hiff:(j<i\/0<cwN (trO (bs.map bl) lo hi) (xm (qN (zR m lo) (zR m hi) (a.pl+a.sp*m)) (lo.map (trB (pbO (bs.map bl) lo hi) (sbO (bs.map bl) lo hi))) (hi.map (trB (pbO (bs.map bl) lo hi) (sbO (bs.map bl) lo hi)))) j i)↔(j<i\/qV (bs.map (zN m)) (zR m lo) (zR m hi) j i=true):=by
  rcases uB j i with h | h
  ·exact⟨λ_=>.inl h,λ_=>.inl h⟩
  ·have hji:j=i:=by omega
   subst hji
   obtain rfl:a=b:=by rw[ea]at eb;injection eb with eb
   have etr:(trO (bs.map bl) lo hi)[j]? = some (trB (pbO (bs.map bl) lo hi) (sbO (bs.map bl) lo hi) (a.pl,a.sp)):=by rw[Vy,wg,ea];rfl
   have eg:qV (bs.map (zN m)) (zR m lo) (zR m hi) j j=(if atW (zR m lo) (a.pl+a.sp*m)=true then(match zR m lo with | some (_,y)=>decide (a.sp<y) | none=>false)else if atW (zR m hi) (a.pl+a.sp*m)=true then(match zR m hi with | some (_,y)=>decide (y<a.sp) | none=>false)else false):=by
    unfold qV
    rw[wg,ea];rfl
   rw[eg]
   refine or_congr Iff.rfl ?_
   unfold qN
   by_cases c1:atW (zR m lo) (a.pl+a.sp*m)=true
   ·rw[if_pos c1,if_pos c1]
    show 0<cwN _ (xm "low" _ _) j j↔_
    rw[show xm "low" (lo.map (trB (pbO (bs.map bl) lo hi) (sbO (bs.map bl) lo hi))) (hi.map (trB (pbO (bs.map bl) lo hi) (sbO (bs.map bl) lo hi)))=lo.map (trB (pbO (bs.map bl) lo hi) (sbO (bs.map bl) lo hi))from by unfold xm;rw[if_neg (by decide),if_pos rfl]]
    cases lo with
    | none=>cases c1
    | some u =>
     obtain⟨x,y⟩:=u
     have hk:x+y*m=a.pl+a.sp*m:=wD c1
     have d:=B.dv _ (wl _ rfl)
     show 0<cwN _ (some (trB _ _ (x,y))) j j↔decide (a.sp<y)=true
     rw[zcz etr,wH,ne_eq,zf6 B.s0 (dB a ma).2 d.2]
     have lx:=O.lo rfl ma
     constructor
     ·intro hne
      rcases Classical.em (a.sp<y)with z | z
      ·exact z
      ·have hgt:y<a.sp:=by grind
       have:=uC hgt pm
       rcases lx with l | ⟨l,_⟩
       ·have l:x<a.pl:=l
        grind
       ·have l:x=a.pl:=l
        grind
     ·intro h;grind
   ·rw[if_neg c1,if_neg c1]
    by_cases c2:atW (zR m hi) (a.pl+a.sp*m)=true
    ·rw[if_pos c2,if_pos c2]
     rw[show xm "high" (lo.map (trB (pbO (bs.map bl) lo hi) (sbO (bs.map bl) lo hi))) (hi.map (trB (pbO (bs.map bl) lo hi) (sbO (bs.map bl) lo hi)))=hi.map (trB (pbO (bs.map bl) lo hi) (sbO (bs.map bl) lo hi))from by unfold xm;rw[if_neg (by decide),if_neg (by decide)]]
     cases hi with
     | none=>cases c2
     | some u =>
      obtain⟨x,y⟩:=u
      have hk:x+y*m=a.pl+a.sp*m:=wD c2
      have d:=B.dv _ (wh _ rfl)
      show 0<cwN _ (some (trB _ _ (x,y))) j j↔decide (y<a.sp)=true
      rw[zcz etr,wH,ne_eq,zf6 B.s0 (dB a ma).2 d.2]
      have lx:=O.hi rfl ma
      constructor
      ·intro hne
       rcases Classical.em (y<a.sp)with z | z
       ·exact z
       ·have hgt:a.sp<y:=by grind
        have:=uC hgt pm
        rcases lx with l | ⟨l,_⟩
        ·have l:a.pl<x:=l
         grind
        ·have l:a.pl=x:=l
         grind
      ·intro h;grind
    ·rw[if_neg c2,if_neg c2]
     show 0<cwN _ (xm "" _ _) j j↔_
     rw[show xm "" (lo.map (trB (pbO (bs.map bl) lo hi) (sbO (bs.map bl) lo hi))) (hi.map (trB (pbO (bs.map bl) lo hi) (sbO (bs.map bl) lo hi)))=none from by unfold xm;rw[if_pos rfl]]
     show 0<0↔false=true
     simp
 by_cases c:j<i\/qV (bs.map (zN m)) (zR m lo) (zR m hi) j i=true
 ·rw[if_pos (hiff.mpr c),if_pos c]
 ·rw[if_neg (λz=>c (hiff.mp z)),if_neg c]
end KT
namespace L2
open KM in
theorem Sz.div {m n:Nat}{x y:Rat}(h:Sz m x) (k:Sz n y) (y0:y≠0):Sz (m+n) (x/y):=by
 rw[<-Vh]
 exact .divInt (yc (xV x) (λz=>y0 (WZ.mp z))) (h.1.mul k.2) (h.2.mul k.1)
end L2
namespace KQ
open PySem L2 KM KK
theorem vM.same {H H':Hp}{v:V}{o:Option Rat}(h:vM H v o) (s:zi H H'):vM H' v o:=by
 cases o with
 | none=>exact h
 | some q=>obtain⟨a,e,h⟩:=h;exact⟨a,e,s _ _ h⟩
end KQ
namespace KT
open PySem L2 KM KK
open KQ (vz qI vM TxQ xx xL qP stG rlG brk vv Xu)
theorem QX {α:Type}(a:α) (r:List α):atI (a::r) 0=some a:=xF (xs:=a::r) (j:=0) rfl
theorem VF {α:Type}(a b:α) (r:List α):atI (a::b::r) 1=some b:=xF (xs:=a::b::r) (j:=1) rfl
abbrev OT:=Option (Rat×Rat)
def jC (f:Option Rat) (p:OT×OT):Option Rat:=match p.1,p.2 with
 | some l,some r=>x8 f (l,r)
 | _,_=>f
def fO (f:Option Rat) (N:List OT):Option Rat:=(N.zip N.tail).foldl jC f
theorem zeg (f:Option Rat):∀N:List OT,fO f (none::N)=fO f N
 | []=>rfl
 | _::_=>rfl
theorem Va:∀(N:List OT) (f:Option Rat),fO f (N++[none])=fO f N
 | [],_=>rfl
 | [a],f=>by cases a <;> rfl
 | a::b::r,f=>by
  show fO (jC f (a,b)) (b::r++[none])=fO (jC f (a,b)) (b::r)
  exact Va (b::r) _
theorem ZD:∀(L:List (Rat×Rat)) (f:Option Rat),fO f (L.map some)=(L.zip L.tail).foldl x8 f
 | [],_=>rfl
 | [_],_=>rfl
 | a::b::r,f=>by
  show fO (x8 f (a,b)) ((b::r).map some)=((b::r).zip r).foldl x8 (x8 f (a,b))
  exact ZD (b::r) _
def lnO (bs:List zJ) (lo hi:Wl):List OT:=lo::(bs.map λb=>some (b.pl,b.sp))++[hi]
theorem zer (bs:List zJ) (lo hi:Wl):fO none (lnO bs lo hi)=qq (tl bs lo hi):=by
 have e:(bs.map λb=>some (b.pl,b.sp))=(bs.map λb=>(b.pl,b.sp)).map some:=by rw[wV];rfl
 unfold lnO tl qq
 rw[e]
 generalize bs.map (λb=>(b.pl,b.sp))=M
 cases lo with
 | none =>
  show fO none (none::(M.map some++[hi]))=_
  rw[zeg]
  cases hi with
  | none=>rw[Va,ZD];simp[xx]
  | some h =>
   have:M.map some++[some h]=(M++[h]).map some:=by simp
   rw[this,ZD];simp[xx]
 | some l =>
  cases hi with
  | none =>
   rw[Va]
   have:some l::M.map some=(l::M).map some:=rfl
   rw[this,ZD];simp[xx]
  | some h =>
   have:some l::M.map some++[some h]=(l::(M++[h])).map some:=by simp
   rw[this,ZD];simp[xx]
def OsI (H:Hp) (vs:List V) (N:List OT):Prop:=vs.length=N.length/\∀(i:Nat) (v:V),vs[i]? = some v->∃o,N[i]? = some o/\qI H v o
theorem OsI.keeps {H H':Hp}{vs:List V}{N:List OT}(h:OsI H vs N) (t:zY H H'):OsI H' vs N:=⟨h.1,λi v e=>by obtain⟨o,e1,e2⟩:=h.2 i v e;exact⟨o,e1,e2.keeps t⟩⟩
theorem OsI.nil {H:Hp}:OsI H [] []:=⟨rfl,λi v e=>by simp at e⟩
theorem OsI.cons {H:Hp}{v:V}{o:OT}{vs:List V}{N:List OT}(h:qI H v o) (r:OsI H vs N):OsI H (v::vs) (o::N):=by
 refine⟨by simp[r.1],λi u e=>?_⟩
 cases i with
 | zero=>simp at e;subst e;exact⟨o,rfl,h⟩
 | succ i=>obtain⟨x,e1,e2⟩:=r.2 i u (by simpa using e);exact⟨x,by simpa using e1,e2⟩
theorem OsI.append {H:Hp}{vs vs':List V}{N N':List OT}(h:OsI H vs N) (h':OsI H vs' N'):OsI H (vs++vs') (N++N'):=by
 refine⟨by simp[h.1,h'.1],λi v e=>?_⟩
 by_cases hi:i<vs.length
 ·rw[wu hi]at e
  rw[wu (by rw[<-h.1];exact hi)]
  exact h.2 i v e
 ·rw[wm (by omega)]at e
  rw[wm (by rw[<-h.1];omega),<-h.1]
  exact h'.2 _ v e
theorem VH {H:Hp}:∀{us:List V}{bs:List zJ},zH H us bs->OsI H us (bs.map λb=>some (b.pl,b.sp))
 | _,_,.nil=>.nil
 | _,_,.cons h1 h2 h3 t=>.cons ⟨_,rfl,_,_,_,h1,h2,h3⟩ (VH t)
section
variable {P:Program}{w:World}{K:Fg}{mg:Str->Option Value}{base:Heap}
theorem zdt:zF ["a","b"] ["a","b"] (zr jr):=scq
theorem zc0 (D:Df K mg "_law_part" jr ["a","b"] []) (cL:Cal P w K mg base "_law_low" 1 ["top","bottom"] [] qW):Cal P w K mg base "_law_part" 2 ["a","b"] [] (qB (λx y=>Sz2 x y/\y≠0) (· / ·)):=by
 refine D.cal (k:=1) zdt (λvs H Q E h=>by obtain⟨_,_,_,_,rfl,_⟩:=h;rfl) (λf cdv A outer s H vs Q E hr h=>?_)
 obtain⟨p,q,x,y,rfl,hp,hq,⟨⟨hx,hy⟩,hy0⟩,k⟩:=h
 have bx:=Bd4 hx
 have b_y:=Bd4 hy
 refine⟨_,(zh (zL (zP cL hr (zd (zB zU (zk zj (pv 0) ze (λ_ _=>rfl)) (zk zj (pv 1) ze (λ_ _=>rfl))) (zd (zB zU (zk zj (pv 0) ze (λ_ _=>rfl)) (zk zj (pv 1) ze (λ_ _=>rfl))) zf))))),?_⟩
 refine⟨_,rfl,p,_,_,_,rfl,rfl,.of hp,at0 ..,_,rfl,q,_,_,_,rfl,rfl,.of hq,at1 ..,_,_,rfl,rfl,⟨bx.1,b_y.2⟩,?_⟩
 refine⟨_,rfl,p,_,_,_,rfl,rfl,.of hp,at1 ..,_,rfl,q,_,_,_,rfl,rfl,.of hq,at0 ..,_,_,rfl,rfl,⟨bx.2,b_y.1⟩,?_⟩
 refine⟨_,_,rfl,yc (KM.xV x) (λz=>hy0 (WZ.mp z)),(hx.2.mul hy.1).mono (by decide),λr H' e h=>k r H' e ?_⟩
 show zD H' r (x/y)
 rw[<-KM.Vh];exact h
inductive zhs  (vs:List V) (H:Hp) (Q:VK) (_e3:XK):Prop
 | mk:∀a b l r,(vs=[.ref a,.ref b])->(vz H a l.1 l.2)->(vz H b r.1 r.2)->(Sz 320 l.1)->(Sz 320 l.2)->(Sz 320 r.1)->(Sz 320 r.2)->(∀L us H',zi H H'->H' L=some (.lst us)->((r.2<l.2/\∃rm,us=[.ref rm]/\zD H' rm (mo l r))\/(¬r.2<l.2/\us=[]))->Q (.ref L) H')->zhs vs H Q _e3
theorem zi5:zF ["one","other"] ["one","other"] (zr vf):=scq
theorem zir (D:Df K mg "_law_closing" vf ["one","other"] []) (cBl:Cal P w K mg base "_law_below" 1 ["a","b"] [] Qo) (cO:Cal P w K mg base "_law_off" 2 ["a","b"] [] (qB Sz2 (· - ·))) (cPt:Cal P w K mg base "_law_part" 2 ["a","b"] [] (qB (λx y=>Sz2 x y/\y≠0) (· / ·))):Cal P w K mg base "_law_closing" 3 ["one","other"] [] zhs:=by
 refine D.cal (k:=2) zi5 (λvs H Q E h=>by obtain⟨_,_,_,_,rfl,_⟩:=h;rfl) (λf cdv A outer s H vs Q E hr h=>?_)
 obtain⟨a,b,l,r,rfl,⟨p1,q1,r1,ha,hp1,hq1⟩,⟨p2,q2,r2,hb,hp2,hq2⟩,z1,z2,z3,z4,k⟩:=h
 have hr1:xn 1 _:=hr.mono (by decide)
 have zz:∀{x y:Rat},Sz 320 x->Sz 320 y->Sz2 x y:=λh h'=>⟨h.mono (by decide),h'.mono (by decide)⟩
 refine⟨_,(zA (xh (qQ (xz (zP cBl hr1 (zd (zk zj (pv 1) ze (λ_ _=>rfl)) (zd (zk zj (pv 0) ze (λ_ _=>rfl)) zf))) λ_=>rfl)) (zh (zL (x5 zf))) zT)
  (zh (zL (x5 (zd (zP cPt hr (zd (zP cO hr (zd (zk zj (pv 1) ze (λ_ _=>rfl)) (zd (zk zj (pv 0) ze (λ_ _=>rfl)) zf))) (zd (zP cO hr (zd (zk zj (pv 0) ze (λ_ _=>rfl)) (zd (zk zj (pv 1) ze (λ_ _=>rfl)) zf))) zf))) zf))))),?_⟩
 refine⟨_,rfl,b,_,_,_,rfl,rfl,.of hb,VF ..,_,rfl,a,_,_,_,rfl,rfl,.of ha,VF ..,q2,q1,_,_,rfl,hq2,hq1,zz z4 z2,_,rfl,?_⟩
 by_cases c:r.2<l.2
 ·rw[wq c]
  refine xo ?_
  refine⟨_,rfl,b,_,_,_,rfl,rfl,.of hb,QX ..,_,rfl,a,_,_,_,rfl,rfl,.of ha,QX ..,p2,p1,_,_,rfl,hp2,hp1,zz z3 z1,λd1 H1 e1 hd1=>?_⟩
  refine⟨_,rfl,a,_,_,_,rfl,rfl,.of (e1 _ _ ha),VF ..,_,rfl,b,_,_,_,rfl,rfl,.of (e1 _ _ hb),VF ..,q1,q2,_,_,rfl,e1 _ _ hq1,e1 _ _ hq2,zz z2 z4,λd2 H2 e2 hd2=>?_⟩
  refine⟨d1,d2,_,_,rfl,e2 _ _ hd1,hd2,⟨⟨(Sz.sub z3 z1).mono (by decide),(Sz.sub z2 z4).mono (by decide)⟩,by grind⟩,λrm H3 e3 hrm=>⟨zL1,λL hL=>?_⟩⟩
  exact k L _ _ (e1.trans (e2.trans (e3.trans (zi.upd hL)))) zg (.inl ⟨c,rm,rfl,zi.upd hL _ _ hrm⟩)
 ·rw[wI c]
  exact xw ⟨by show 0<=sizeLine;exact yg _,λL hL=>k L _ _ (zi.upd hL) zg (.inr ⟨c,rfl⟩)⟩
inductive zhL  (vs:List V) (H:Hp) (Q:VK) (_e3:XK):Prop
 | mk:∀r wl us v1 v2 bs lo hi,(vs=[.ref r,.ref wl])->(H r=some (.tup us))->(zH H us bs)->(H wl=some (.tup [v1,v2]))->(zV H v1 lo)->(zV H v2 hi)->(bs.length<=8)->(TZ bs lo hi)->(∀v H',zi H H'->vM H' v (qq (tl bs lo hi))->(∀q,qq (tl bs lo hi)=some q->Sz 1400 q)->Q v H')->zhL vs H Q _e3
theorem Qi:zF ["row","walls","found","line","one","other","moment"] ["row","walls"] (zr vh):=scq
theorem zij {l r:Rat×Rat}(z1:Sz 320 l.1) (z2:Sz 320 l.2) (z3:Sz 320 r.1) (z4:Sz 320 r.2) (h:r.2<l.2):Sz 1400 (mo l r):=((Sz.sub z3 z1).div (Sz.sub z2 z4) (by grind)).mono (by decide)
theorem ziM (D:Df K mg "_law_soonest" vh ["row","walls"] []) (T:TxQ K mg) (cBl:Cal P w K mg base "_law_below" 1 ["a","b"] [] Qo) (cCl:Cal P w K mg base "_law_closing" 3 ["one","other"] [] zhs):Cal P w K mg base "_law_soonest" 4 ["row","walls"] [] zhL:=by
 refine D.calB (k:=3) Qi (λvs H Q E h=>by obtain⟨_,_,_,_,_,_,_,_,rfl,_⟩:=h;rfl) (λf cdv A outer s H vs Q E hr h=>?_)
 obtain⟨r,wl,us,v1,v2,bs,lo,hi,rfl,hrr,hR,hwl,hv1,hv2,h8,hz,k⟩:=h
 have hr1:xn 1 _:=hr.mono (by decide)
 have hul:=hR.length
 refine⟨_,(zC (Bx.mk (zQ (i:=2) Qi.nd rfl (Or.inl rfl) zW))
  (zC (Bx.mk (zQ (i:=3) Qi.nd rfl (Or.inl rfl) (zB Qd (zB Qd (x5 (zd (zk zj (pv 1) ze (λ_ _=>rfl)) zf)) (xP qO (by rfl) T.nList yV (zd (pv 0) zf))) (x5 (zd (zk zj (pv 1) ze (λ_ _=>rfl)) zf)))))
  (zC (Bx.mk (qJ PassesOwn.never rfl (zaP (by rfl) T.nZip (zd (pv 3) (zd (qj jv (pv 3) (xH ze) jZ) zf))) (qv rfl (zS (zK (i:=4) Qi.nd rfl (Or.inl rfl)) (zS (zK (i:=5) Qi.nd rfl (Or.inl rfl)) xD))) (zh (xh (qC (zI qz (pv 4) zW (zM _)) (qm (zI qz (pv 5) zW (zM _)))).pt (zh (qJ PassesOwn.never rfl (xN (zP cCl hr (zd (pv 4) (zd (pv 5) zf)))) (zK (i:=6) Qi.nd rfl (Or.inl rfl)) (zh (xh ((vN (zI xW (pv 2) zW (zM _)) (vO (xz (zP cBl hr1 (zd (pv 6) (zd (pv 2) zf))) λ_=>rfl)))).pt (zh (zQ (i:=2) Qi.nd rfl (Or.inl rfl) (pv 6))) zT)))) zT))))
  (Bx.mk (zh (zL (pv 2))))))),?_⟩
 dsimp only[zO]
 refine⟨_,rfl,wl,_,_,_,rfl,rfl,.of hwl,rfl,zL1,λl1 hl1=>?_⟩
 have s1:=zi.upd (o:=.lst [v1]) hl1
 have hl1':upd H l1 (.lst [v1]) l1=some (.lst [v1]):=zg
 generalize upd H l1 (.lst [v1])=G1 at s1 hl1'
 refine⟨_,rfl,r,us,rfl,.inr (.of (s1 _ _ hrr)),λl2 hl2=>?_⟩
 have s2:=zi.upd (o:=.lst us) hl2
 have hl2':upd G1 l2 (.lst us) l2=some (.lst us):=zg
 generalize upd G1 l2 (.lst us)=G2 at s2 hl2'
 refine⟨l1,l2,_,_,rfl,rfl,s2 _ _ hl1',hl2',szl (by simp;omega),λl3 hl3=>?_⟩
 have s3:=zi.upd (o:=.lst ([v1]++us)) hl3
 have hl3':upd G2 l3 (.lst ([v1]++us)) l3=some (.lst ([v1]++us)):=zg
 generalize upd G2 l3 (.lst ([v1]++us))=G3 at s3 hl3'
 have S3:=s1.trans (s2.trans s3)
 have hwl3:=S3 _ _ hwl
 refine⟨_,rfl,wl,_,_,_,rfl,rfl,.of hwl3,rfl,zL1,λl4 hl4=>?_⟩
 have s4:=zi.upd (o:=.lst [v2]) hl4
 have hl4':upd G3 l4 (.lst [v2]) l4=some (.lst [v2]):=zg
 generalize upd G3 l4 (.lst [v2])=G4 at s4 hl4'
 refine⟨l3,l4,_,_,rfl,rfl,s4 _ _ hl3',hl4',szl (by simp;omega),λln hln=>?_⟩
 have s5:=zi.upd (o:=.lst ([v1]++us++[v2])) hln
 have hln':upd G4 ln (.lst ([v1]++us++[v2])) ln=some (.lst ([v1]++us++[v2])):=zg
 generalize upd G4 ln (.lst ([v1]++us++[v2]))=G5 at s5 hln'
 have S5:=S3.trans (s4.trans s5)
 dsimp only[zO]
 have hTs:OsI G5 ([v1]++us++[v2]) (lnO bs lo hi):=by
  have:=OsI.cons ((zfA hv1).keeps (.of S5)) (((VH hR).keeps (.of S5)).append (OsI.cons ((zfA hv2).keeps (.of S5)) .nil))
  unfold lnO
  simpa using this
 have hl10:([v1]++us++[v2]).length<=10:=by simp;omega
 obtain⟨vs',evs⟩:∃vs',vs'=[v1]++us++[v2]:=⟨_,rfl⟩
 rw[<-evs]at hln' hTs hl10
 clear hl1' hl2' hl3' hl4' s1 s2 s3 s4 s5 S3 hwl3
 have hz':∀(i:Nat) (t:Rat×Rat),(lnO bs lo hi)[i]? = some (some t)->Sz 320 t.1/\Sz 320 t.2:=λi t e=>by
  have m:=wj e
  have:t∈tl bs lo hi:=by
   unfold lnO at m
   unfold tl
   simp only[WV,wy,wN,ww,wQ,or_false]at m ⊢
   rcases m with m | ⟨b,mb,eb⟩ | m
   ·exact .inl (.inl (by rw[<-m];simp[xx]))
   ·exact .inl (.inr ⟨b,mb,by injection eb⟩)
   ·exact .inr (by rw[<-m];simp[xx])
  have:=hz t this
  exact⟨this.1,this.2.mono (by decide)⟩
 rw[<-zer]at k
 unfold fO at k
 generalize lnO bs lo hi=L at *
 have hll:=hTs.1
 refine xE (λσ' G=>∃z4 z5 z6 v,σ'=[some (.ref r),some (.ref wl),some v,some (.ref ln),z4,z5,z6]/\zi H G/\vM G v ((L.zip L.tail).foldl jC none)/\∀q,(L.zip L.tail).foldl jC none=some q->Sz 1400 q) ?_ ?_
 rotate_left
 ·intro nx hnx
  refine⟨_,rfl,_,rfl,_,rfl,ln,vs',rfl,.of hln',λl6 hl6=>?_⟩
  have s6:=zi.upd (o:=.lst (qt vs' (some 1) none)) hl6
  have hl6':upd G5 l6 (.lst (qt vs' (some 1) none)) l6=some (.lst (vs'.drop 1)):=by rw[zg];exact congrArg (λl=>some (HO.lst l)) (QI vs' 1)
  have hln6:=s6 _ _ hln'
  have S6:=S5.trans s6
  have hTs6:=hTs.keeps (.of s6)
  generalize upd G5 l6 (.lst (qt vs' (some 1) none))=G6 at *
  refine⟨ln,l6,rfl,⟨_,SqL.of hln6⟩,⟨_,SqL.of hl6'⟩,qP (xs:=vs') (ys:=vs'.drop 1) (λi σ G=>∃z4 z5 z6 v,σ=[some (.ref r),some (.ref wl),some v,some (.ref ln),z4,z5,z6]/\zi G6 G/\vM G v (((L.zip L.tail).take i).foldl jC none)/\∀q,((L.zip L.tail).take i).foldl jC none=some q->Sz 1400 q)
   ⟨_,_,_,.non,rfl,zi.refl _,rfl,λq e=>by cases e⟩ (λi σ G ⟨_,_,_,_,_,s',_⟩=>⟨.of (s' _ _ hln6),.of (s' _ _ hl6')⟩) ?_ ?_⟩
  ·rintro i x y σ G Tt hx hy ⟨z4,z5,z6,v,rfl,SG,hv,hq⟩ hTt
   obtain⟨o1,et1,ho1⟩:=hTs6.2 i x hx
   rw[yk]at hy
   obtain⟨o2,et2,ho2⟩:=hTs6.2 _ y hy
   rw[WW]at et2
   have sT:=zi.upd (o:=.tup [x,y]) hTt
   have hTT:upd G Tt (.tup [x,y]) Tt=some (.tup [x,y]):=zg
   generalize upd G Tt (.tup [x,y])=G2 at sT hTT
   have S2:=SG.trans sT
   have ez:(L.zip L.tail)[i]? = some (o1,o2):=by
    rw[yn]
    refine⟨et1,?_⟩
    rw[uW];exact et2
   have ef:((L.zip L.tail).take (i+1)).foldl jC none=jC (((L.zip L.tail).take i).foldl jC none) (o1,o2):=by
    rw[ym,ez];simp[Wa]
   rw[ef]
   generalize ((L.zip L.tail).take i).foldl jC none=fo at hv hq
   have hv2:vM G2 v fo:=hv.same sT
   refine⟨Tt,_,rfl,.of hTT,rfl,_,_,rfl,_,_,rfl,rfl,?_⟩
   have ho1':=ho1.keeps (.of S2)
   have ho2':=ho2.keeps (.of S2)
   cases o1 with
   | none =>
    obtain rfl:x = .non:=ho1'
    exact⟨_,rfl,rfl,_,rfl,xo (xo ⟨_,_,_,v,rfl,S2,hv2,hq⟩)⟩
   | some t1 =>
    obtain⟨a1,rfl,ha1⟩:=ho1'
    refine⟨_,rfl,rfl,_,rfl,xw ?_⟩
    cases o2 with
    | none =>
     obtain rfl:y = .non:=ho2'
     exact⟨_,rfl,rfl,_,rfl,xo ⟨_,_,_,v,rfl,S2,hv2,hq⟩⟩
    | some t2 =>
     obtain⟨a2,rfl,ha2⟩:=ho2'
     refine⟨_,rfl,rfl,_,rfl,xw ?_⟩
     have b1:=hz' i t1 et1
     have b2:=hz' _ t2 et2
     show zfu _ _ _ _ _ _
     refine⟨_,rfl,_,rfl,a1,a2,t1,t2,rfl,ha1,ha2,b1.1,b1.2,b2.1,b2.2,λLc us' G3 s3 hLc hc=>?_⟩
     have S3:=S2.trans s3
     have hv3:vM G3 v fo:=hv2.same s3
     have eo:jC fo (some t1,some t2)=x8 fo (t1,t2):=rfl
     rw[eo]
     refine⟨Lc,rfl,⟨_,SqL.of hLc⟩,?_⟩
     rcases hc with⟨c,rm,rfl,hrm⟩ | ⟨c,rfl⟩
     ·refine jG (xs:=[.ref rm]) (λj σ G'=>G'=G3/\((j=0/\σ=[some (.ref r),some (.ref wl),some v,some (.ref ln),some (.ref a1),some (.ref a2),z6])\/(j=1/\∃v',σ=[some (.ref r),some (.ref wl),some v',some (.ref ln),some (.ref a1),some (.ref a2),some (.ref rm)]/\vM G3 v' (x8 fo (t1,t2))/\∀q,x8 fo (t1,t2)=some q->Sz 1400 q)))
       ⟨rfl,.inl ⟨rfl,rfl⟩⟩ (λj σ G' _ ⟨e,_⟩=>by rw[e];exact .of hLc) ?_ ?_
      ·rintro j x σ G' hx ⟨rfl,hj⟩
       rcases hj with⟨rfl,rfl⟩ | ⟨rfl,_⟩
       ·cases hx
        dsimp only[zO]
        have zm:=zij b1.1 b1.2 b2.1 b2.2 c
        have e0:x8 none (t1,t2)=some (mo t1 t2):=if_pos c
        have e1:∀u,x8 (some u) (t1,t2)=if mo t1 t2<u then some (mo t1 t2)else some u:=λu=>if_pos c
        cases fo with
        | none =>
         obtain rfl:v = .non:=hv3
         refine⟨_,rfl,rfl,_,rfl,xw ⟨_,rfl,rfl,.inr ⟨rfl,_,rfl,?_,?_⟩⟩⟩
         ·rw[e0];exact⟨rm,rfl,hrm⟩
         ·rw[e0];intro q e;cases e;exact zm
        | some u =>
         obtain⟨af,rfl,haf⟩:=hv3
         refine⟨_,rfl,rfl,_,rfl,xo ⟨_,rfl,_,rfl,rm,af,_,_,rfl,hrm,haf,⟨zm.mono (by decide),(hq u rfl).mono (by decide)⟩,_,rfl,?_⟩⟩
         by_cases c2:mo t1 t2<u
         ·rw[wq c2]
          refine xw ⟨_,rfl,rfl,.inr ⟨rfl,_,rfl,?_,?_⟩⟩
          ·rw[e1,if_pos c2];exact⟨rm,rfl,hrm⟩
          ·rw[e1,if_pos c2];intro q e;cases e;exact zm
         ·rw[wI c2]
          refine xo ⟨rfl,.inr ⟨rfl,_,rfl,?_,?_⟩⟩
          ·rw[e1,if_neg c2];exact⟨af,rfl,haf⟩
          ·rw[e1,if_neg c2];exact hq
       ·cases hx
      ·rintro σ G' ⟨rfl,hj⟩
       rcases hj with⟨z,_⟩ | ⟨_,v',rfl,h1,h2⟩
       ·cases z
       ·exact⟨_,_,_,v',rfl,S3,h1,h2⟩
     ·have e0:x8 fo (t1,t2)=fo:=if_neg c
      rw[e0]
      refine jG (xs:=[]) (λj σ G'=>G'=G3/\σ=[some (.ref r),some (.ref wl),some v,some (.ref ln),some (.ref a1),some (.ref a2),z6]) ⟨rfl,rfl⟩ (λj σ G' _ ⟨e,_⟩=>by rw[e];exact .of hLc) ?_ ?_
      ·rintro j x σ G' hx;simp at hx
      ·rintro σ G' ⟨rfl,rfl⟩
       exact⟨_,_,_,v,rfl,S3,hv3,hq⟩
  ·rintro σ G ⟨z4,z5,z6,v,rfl,SG,hv,hq⟩
   have el:min vs'.length (vs'.drop 1).length=(L.zip L.tail).length:=by simp;omega
   rw[el,wM (wx _)]at hv hq
   exact hnx _ _ ⟨z4,z5,z6,v,rfl,S6.trans SG,hv,hq⟩
 rintro σ' G ⟨z4,z5,z6,v,rfl,SG,hv,hq⟩
 exact⟨_,rfl,k v G SG hv hq⟩
end
open KQ (vC)
def ThR (H:Hp) (v:V) (o:OT) (rest:List V):Prop:=match o with
 | none=>v = .non
 | some t=>∃a p q,v = .ref a/\H a=some (.tup (.ref p::.ref q::rest))/\zD H p t.1/\zD H q t.2
theorem ThR.tups {H H':Hp}{v:V}{o:OT}{rest:List V}(h:ThR H v o rest) (e:zY H H'):ThR H' v o rest:=by
 cases o with
 | none=>exact h
 | some t=>obtain⟨a,p,q,h1,h2,h3,h4⟩:=h;exact⟨a,p,q,h1,e _ _ h2,e _ _ h3,e _ _ h4⟩
def OsR (H:Hp) (vs:List V) (N:List (OT×List V)):Prop:=vs.length=N.length/\∀(i:Nat) (v:V) (n:OT×List V),vs[i]? = some v->N[i]? = some n->ThR H v n.1 n.2
def onO (m:Rat) (o:OT):OT:=o.map λt=>(t.1+t.2*m,t.2)
section
variable {P:Program}{w:World}{K:Fg}{mg:Str->Option Value}{base:Heap}
inductive zhB  (vs:List V) (H:Hp) (Q:VK) (_e3:XK):Prop
 | mk:∀a pm us N m,(vs=[.ref a,.ref pm])->(H a=some (.tup us))->(OsR H us N)->(N.length<=8)->((∀n∈N,n.2.length<=1/\∀t,n.1=some t->Sz 320 t.1/\Sz 80 t.2))->(zD H pm m)->(Sz 1400 m)->(∀r us' H',zi H H'->H' r=some (.tup us')->OsR H' us' (N.map λn=>(onO m n.1,n.2))->Q (.ref r) H')->zhB vs H Q _e3
theorem zaV:zF ["things","t","found","thing"] ["things","t"] (zr ZN):=scq
theorem ziC (D:Df K mg "_law_on" ZN ["things","t"] []) (T:TxQ K mg) (cA:Cal P w K mg base "_law_add" 2 ["a","b"] [] (qB Sz2 (· + ·))) (cBy:Cal P w K mg base "_law_by" 2 ["a","b"] [] (qB Sz2 (· * ·))):Cal P w K mg base "_law_on" 3 ["things","t"] [] zhB:=by
 refine D.calB (k:=2) zaV (λvs H Q E h=>by obtain⟨_,_,_,_,_,rfl,_⟩:=h;rfl) (λf cdv A outer s H vs Q E hr h=>?_)
 obtain⟨a,pm,us,N,m,rfl,ha,hO,h8,hz,hm,zm,k⟩:=h
 have hul:=hO.1
 refine⟨_,(zC (Bx.mk (zQ (i:=2) zaV.nd rfl (Or.inl rfl) (x5 zf)))
  (zC (Bx.mk (qJ PassesOwn.never rfl (Zs (pv 0)) (zK (i:=3) zaV.nd rfl (Or.inl rfl)) (zA (xh (zI qz (pv 3) zW (zM _)) (zh (zQ (i:=3) zaV.nd rfl (Or.inl rfl) (zB zeK (xj (zd (zP cA hr (zd (zk zj (pv 3) ze (λ_ _=>rfl)) (zd (zP cBy hr (zd (zk zj (pv 3) ze (λ_ _=>rfl)) (zd (pv 1) zf))) zf))) zf)) (qj Ql (pv 3) (xH ze) jZ)))) zT) (zh (qh (ZG yf yA yB qK (pv 2) (zd (pv 3) zf)))))))
  (Bx.mk (zh (zL (xP qk (by rfl) T.nTuple yl (zd (pv 2) zf))))))),?_⟩
 refine⟨by show 0<=sizeLine;exact yg _,λl hl=>?_⟩
 have S1:zi H (upd H l (.lst [])):=zi.upd hl
 have hl1:upd H l (.lst []) l=some (.lst []):=zg
 generalize upd H l (.lst [])=G1 at S1 hl1
 dsimp only[zO]
 refine zaa ?_
 refine⟨_,rfl,a,rfl,⟨us,SqT.of (S1 _ _ ha)⟩,?_⟩
 refine zei (xs:=us) (λi σ G=>∃z3 vs',σ=[some (.ref a),some (.ref pm),some (.ref l),z3]/\zi H G/\G l=some (.lst vs')/\vs'.length=i/\∀(j:Nat) (v:V) (n:OT×List V),vs'[j]? = some v->N[j]? = some n->ThR G v (onO m n.1) n.2)
  ⟨_,[],rfl,S1,hl1,rfl,λj v n e=>by simp at e⟩ (λi σ G _ ⟨_,_,_,s,_⟩=>SqT.of (s _ _ ha)) ?_ ?_
 ·rintro i x σ G hx ⟨z3,vs',rfl,SG,hlG,hvl,hvR⟩
  have hi:i<us.length:=(wk.mp hx).1
  obtain⟨n,en⟩:∃n,N[i]? = some n:=⟨_,wf (by omega)⟩
  have hx0:=hO.2 i x n hx en
  have zn:=hz n (wj en)
  dsimp only[zO]
  refine xE (λσ' G'=>∃v,σ'=[some (.ref a),some (.ref pm),some (.ref l),some v]/\zi G G'/\ThR G' v (onO m n.1) n.2) ?_ ?_
  rotate_left
  ·intro nx hnx
   obtain⟨o,rest⟩:=n
   cases o with
   | none =>
    obtain rfl:x = .non:=hx0
    exact⟨_,rfl,rfl,_,rfl,xo (hnx _ _ ⟨.non,rfl,zi.refl _,rfl⟩)⟩
   | some t =>
    obtain⟨ax,p,q,rfl,g1,g2,g3⟩:=hx0
    have zt:=zn.2 t rfl
    refine⟨_,rfl,rfl,_,rfl,xw ?_⟩
    have h1:=SG _ _ g1
    refine⟨_,rfl,ax,_,_,_,rfl,rfl,.of h1,QX ..,_,rfl,ax,_,_,_,rfl,rfl,.of h1,VF ..,_,rfl,q,pm,_,_,rfl,SG _ _ g3,SG _ _ hm,⟨zt.2.mono (by decide),zm.mono (by decide)⟩,λr1 G2 e2 h2=>?_⟩
    refine⟨p,r1,_,_,rfl,e2 _ _ (SG _ _ g2),h2,⟨zt.1.mono (by decide),(zt.2.mul zm).mono (by decide)⟩,λr2 G3 e3 h3=>⟨zL1,λp1 hp1=>?_⟩⟩
    have S4:zi G (upd G3 p1 (.tup [.ref r2])):=e2.trans (e3.trans (zi.upd hp1))
    have hp1':upd G3 p1 (.tup [.ref r2]) p1=some (.tup [.ref r2]):=zg
    have h3':zD (upd G3 p1 (.tup [.ref r2])) r2 (t.1+t.2*m):=zi.upd hp1 _ _ h3
    generalize upd G3 p1 (.tup [.ref r2])=G4 at S4 hp1' h3'
    have w1:¬(HT.sIx (V.ref p::.ref q::rest).length 0 (some 1)=0/\HT.sIx (V.ref p::.ref q::rest).length (V.ref p::.ref q::rest).length none=(V.ref p::.ref q::rest).length):=λ⟨z,_⟩=>by
     rw[show (1:Int)=((1:Nat):Int)from rfl,HT.sIx_nat]at z
     simp only[wG]at z;omega
    refine⟨_,rfl,_,rfl,ax,_,rfl,.of (S4 _ _ h1),w1,λp2 hp2=>?_⟩
    have S5:zi G4 (upd G4 p2 (.tup (qt (V.ref p::.ref q::rest) (some 1) none))):=zi.upd hp2
    have hp2':upd G4 p2 (.tup (qt (V.ref p::.ref q::rest) (some 1) none)) p2=some (.tup (.ref q::rest)):=by rw[zg];exact congrArg (λl=>some (HO.tup l)) (QI (V.ref p::.ref q::rest) 1)
    generalize upd G4 p2 (.tup (qt (V.ref p::.ref q::rest) (some 1) none))=G5 at S5 hp2'
    have hrl:rest.length<=1:=zn.1
    refine⟨p1,p2,[.ref r2],.ref q::rest,rfl,rfl,.of (S5 _ _ hp1'),.of hp2',szl (by simp;omega),λz=>(by cases z),λ_ z=>(by cases z),λ_ _ p3 hp3=>?_⟩
    have S6:zi G5 (upd G5 p3 (.tup ([.ref r2]++.ref q::rest))):=zi.upd hp3
    exact hnx _ _ ⟨.ref p3,rfl,S4.trans (S5.trans S6),p3,r2,q,rfl,zg,(S5.trans S6) _ _ h3',(S4.trans (S5.trans S6)) _ _ (SG _ _ g3)⟩
  rintro σ' G2 ⟨v,rfl,S2,hv⟩
  have hl2:=S2 _ _ hlG
  refine⟨_,rfl,.inl ⟨rfl,_,SqL.of hl2⟩,_,rfl,l,vs',_,rfl,rfl,hl2,xk (by omega),?_⟩
  have Tu:zY G2 (upd G2 l (.lst (vs'++[v]))):=.upd hl2
  refine⟨_,vs'++[v],rfl,λb o e=>?_,zg,by simp[hvl],λj u n' f1 f2=>?_⟩
  ·rw[zE (zG e hl)];exact S2 _ _ (SG _ _ e)
  ·by_cases hj:j<vs'.length
   ·rw[wu hj]at f1
    exact((hvR j u n' f1 f2).tups (.of S2)).tups Tu
   ·rw[wm (by omega)]at f1
    have hj':j - vs'.length=0:=by
     rcases yZ (j - vs'.length)with z | z
     ·exact z
     ·rw[wY (by simp;omega)]at f1;cases f1
    rw[hj']at f1;cases f1
    have:j=i:=by omega
    subst this
    rw[en]at f2;cases f2
    exact hv.tups Tu
 ·rintro σ G ⟨z3,vs',rfl,SG,hlG,hvl,hvR⟩
  refine⟨_,rfl,l,vs',rfl,.inl ⟨.of hlG,λr hr'=>k r vs' _ (SG.trans (zi.upd hr')) zg ⟨by rw[we];omega,λj v n f1 f2=>?_⟩⟩⟩
  rw[wg]at f2
  cases hn:N[j]? with
  | none=>rw[hn]at f2;cases f2
  | some n'=>rw[hn]at f2;cases f2;exact(hvR j v n' f1 hn).tups (.of (zi.upd hr'))
def CZ (cs:List zJ) (lo hi:Wl):Prop:=(∀b∈cs,Sz 2000 b.pl/\Sz 80 b.sp)/\(∀x y,lo=some (x,y)->Sz 2000 x/\Sz 80 y)/\(∀x y,hi=some (x,y)->Sz 2000 x/\Sz 80 y)
inductive zhy  (vs:List V) (H:Hp) (Q:VK) (_e3:XK):Prop
 | mk:∀r wl us cs v1 v2 lo hi,(vs=[.ref r,.ref wl])->(H r=some (.tup us))->(zH H us cs)->(cs.length<=8)->(H wl=some (.tup [v1,v2]))->(zV H v1 lo)->(zV H v2 hi)->(CZ cs lo hi)->(∀G gs H',zi H H'->H G=none->H' G=some (.lst gs)->vv H' gs (grL cs lo hi)->Q (.ref G) H')->zhy vs H Q _e3
theorem jA:zF ["row","walls","found","start","end","where","goes"] ["row","walls"] (zr vI):=scq
theorem zat (x y:Rat):PyData.eqv (.tuple [.int x.num,.int (x.den:Int)]) (.tuple [.int y.num,.int (y.den:Int)])=decide (x=y):=Z9 x y
theorem ziy (D:Df K mg "_law_groups" vI ["row","walls"] []) (T:TxQ K mg) (cBl:Cal P w K mg base "_law_below" 1 ["a","b"] [] Qo):Cal P w K mg base "_law_groups" 2 ["row","walls"] [] zhy:=by
 refine D.calB (k:=1) jA (λvs H Q E h=>by obtain⟨_,_,_,_,_,_,_,_,rfl,_⟩:=h;rfl) (λf cdv A outer s H vs Q E hr h=>?_)
 obtain⟨r,wl,us,cs,v1,v2,lo,hi,rfl,hrr,hB,h8,hwl,hv1,hv2,hz,k⟩:=h
 have hr1:xn 1 _:=hr
 have hu:=hr.units
 have hul:=hB.length
 refine⟨_,(zC (Bx.mk (zQ (i:=2) jA.nd rfl (Or.inl rfl) (x5 zf)))
  (zC (Bx.mk (zQ (i:=3) jA.nd rfl (Or.inl rfl) ze))
  (zC (Bx.mk (ZH PassesOwn.never (zI jb (pv 3) (zX xc (by rfl) T.nLen PySem.boot_len (zd (pv 0) zf)) (zM _)) (zcq (zC (Bx.mk (zQ (i:=4) jA.nd rfl (Or.inl rfl) (pv 3)))
  (zC (Bx.mk (ZH PassesOwn.never (qC (zI jb (zB zZ (pv 4) ze) (zX xc (by rfl) T.nLen PySem.boot_len (zd (pv 0) zf)) (zM _)) (qm (zI (Xc hu) (zk zj (zk zj (pv 0) (zB zZ (pv 4) ze) (λ_ _=>rfl)) ze (λ_ _=>rfl)) (zk zj (zk zj (pv 0) (pv 3) (λ_ _=>rfl)) ze (λ_ _=>rfl)) (zM _)))).pt (zh (zQ (i:=4) jA.nd rfl (Or.inl rfl) (zB zZ (pv 4) ze)))))
  (zC (Bx.mk (zQ (i:=5) jA.nd rfl (Or.inl rfl) va))
  (zC (Bx.mk (zQ (i:=6) jA.nd rfl (Or.inl rfl) jx))
  (zC (Bx.mk (xh (qC (zI qz (zk zj (pv 1) ze (λ_ _=>rfl)) zW (zM _)) (qm (zI (Xc hu) (zk zj (zk zj (pv 1) ze (λ_ _=>rfl)) ze (λ_ _=>rfl)) (zk zj (zk zj (pv 0) (pv 3) (λ_ _=>rfl)) ze (λ_ _=>rfl)) (zM _)))).pt (zA (zQ (i:=5) jA.nd rfl (Or.inl rfl) va)
  (zh (zQ (i:=6) jA.nd rfl (Or.inl rfl) (zP cBl hr1 (zd (zk zj (zk zj (pv 0) (pv 3) (λ_ _=>rfl)) ze (λ_ _=>rfl)) (zd (zk zj (zk zj (pv 1) ze (λ_ _=>rfl)) ze (λ_ _=>rfl)) zf)))))) (zh (xh (qC (zI qz (zk zj (pv 1) ze (λ_ _=>rfl)) zW (zM _)) (qm (zI (Xc hu) (zk zj (zk zj (pv 1) ze (λ_ _=>rfl)) ze (λ_ _=>rfl)) (zk zj (zk zj (pv 0) (pv 3) (λ_ _=>rfl)) ze (λ_ _=>rfl)) (zM _)))).pt (zA (zQ (i:=5) jA.nd rfl (Or.inl rfl) va)
  (zh (zQ (i:=6) jA.nd rfl (Or.inl rfl) (zP cBl hr1 (zd (zk zj (zk zj (pv 1) ze (λ_ _=>rfl)) ze (λ_ _=>rfl)) (zd (zk zj (zk zj (pv 0) (pv 4) (λ_ _=>rfl)) ze (λ_ _=>rfl)) zf)))))) zT))))
  (zC (Bx.mk (xh ((vN (zI Qe (pv 4) (pv 3) (zM _)) (vO (xz (pv 6) λ_=>rfl)))).pt (zh (qh (ZG yf yA yB qK (pv 2) (zd (xj (zd (pv 3) (zd (pv 4) (zd (pv 5) zf)))) zf)))) zT))
  (Bx.mk (zh (zQ (i:=3) jA.nd rfl (Or.inl rfl) (zB zZ (pv 4) ze)))))))))))))
  (Bx.mk (zh (zL (pv 2))))))),?_⟩
 refine⟨by show 0<=sizeLine;exact yg _,λl hl=>?_⟩
 have S1:zi H (upd H l (.lst [])):=zi.upd hl
 have hl1:upd H l (.lst []) l=some (.lst []):=zg
 generalize upd H l (.lst [])=G1 at S1 hl1
 dsimp only[zO]
 obtain⟨ks,eks⟩:∃ks,ks=cs.map zJ.pl:=⟨_,rfl⟩
 have hkl:ks.length=us.length:=by rw[eks,we,hul]
 refine zdI ?_
 refine⟨λm σ G=>∃(st:Nat) (gs:List V) (z4 z5 z6:Option V),σ=[some (.ref r),some (.ref wl),some (.ref l),some (.int (st:Int)),z4,z5,z6]/\m=us.length - st/\st<=us.length/\stG ks st=st/\zi H G/\G l=some (.lst gs)/\gs.length<=st/\vv G gs (rlG ks (fL cs lo hi) st),
  ⟨_,0,[],_,_,_,rfl,rfl,yg _,rfl,S1,hl1,wx _,rfl,λi v e=>by simp at e⟩,?_⟩
 rintro m σ G ⟨st,gs,z4,z5,z6,rfl,rfl,hst,est,SG,hlG,hgl,hgr⟩
 refine⟨_,rfl,_,rfl,r,us,rfl,.inr (.of (SG _ _ hrr)),_,_,rfl,rfl,_,rfl,qr (λhc=>?_) (λhc=>?_)⟩
 rotate_left
 ·have:¬st<us.length:=λz=>hc (wq (by omega))
  refine⟨_,rfl,k l gs G SG hl hlG ?_⟩
  unfold grL
  rw[<-eks,show cs.length=st by omega];exact hgr
 have hlt:st<us.length:=by have:=wD hc;omega
 refine⟨_,λ_ _ z=>z,?_⟩
 dsimp only[zO]
 obtain⟨vs0,evs0⟩:∃v,us[st]? = some v:=⟨_,wf hlt⟩
 obtain⟨a0,p0,q0,b0,eb0,rfl,ha0,hp0,hq0⟩:=hB.get evs0
 have zb0:=hz.1 b0 (wj eb0)
 have hrG:=SG _ _ hrr
 have ha0G:=SG _ _ ha0
 refine Xk ?_
 refine⟨_,rfl,?_⟩
 refine xE (λσ' G'=>∃en:Nat,σ'=[some (.ref r),some (.ref wl),some (.ref l),some (.int (st:Int)),some (.int (en:Int)),z5,z6]/\G'=G/\st<=en/\en<us.length/\stG ks en=st/\rlG ks (fL cs lo hi) en=rlG ks (fL cs lo hi) st/\brk ks en=true) ?_ ?_
 rotate_left
 ·intro nx hnx
  refine⟨λm' σ' G'=>∃en:Nat,σ'=[some (.ref r),some (.ref wl),some (.ref l),some (.int (st:Int)),some (.int (en:Int)),z5,z6]/\G'=G/\m'=us.length - en/\st<=en/\en<us.length/\stG ks en=st/\rlG ks (fL cs lo hi) en=rlG ks (fL cs lo hi) st,⟨_,st,rfl,rfl,rfl,wx _,hlt,est,rfl⟩,?_⟩
  rintro m' σ' G' ⟨en,rfl,rfl,rfl,h1,h2,h3,h4⟩
  have hrun:ks[en]? = ks[st]?:=by
   have:=J5 (ss:=ks) (i:=en) (by omega) st (by omega) h1
   exact this.symm
  refine⟨_,rfl,_,_,rfl,rfl,_,rfl,r,us,rfl,.inr (.of hrG),_,_,rfl,rfl,_,rfl,qr (λhc1=>?_) (λhc1=>?_)⟩
  rotate_left
  ·have hn:¬en+1<us.length:=λz=>hc1 (wq (by omega))
   refine xo (hnx _ _ ⟨en,rfl,rfl,h1,h2,h3,h4,?_⟩)
   unfold brk
   rw[wq (by omega:en+1=ks.length)];rfl
  have hn:en+1<us.length:=by have:=wD hc1;omega
  obtain⟨v',ev'⟩:∃v,us[en+1]? = some v:=⟨_,wf hn⟩
  obtain⟨a',p',q',b',eb',rfl,ha',hp',hq'⟩:=hB.get ev'
  have at1':atI us ((en:Int)+1)=some (.ref a'):=by rw[show (en:Int)+1=((en+1:Nat):Int)from rfl];exact xF ev'
  refine⟨_,rfl,_,rfl,_,_,rfl,rfl,r,_,_,_,rfl,rfl,.of hrG,at1',a',_,_,_,rfl,rfl,.of (SG _ _ ha'),QX ..,_,rfl,_,rfl,r,_,_,_,rfl,rfl,.of hrG,xF evs0,a0,_,_,_,rfl,rfl,.of ha0G,QX ..,?_⟩
  refine⟨_,_,zD.rd (SG _ _ hp'),zD.rd (SG _ _ hp0),xS _,xS _,_,rfl,?_⟩
  rw[zat]
  have ek':ks[en+1]? = some b'.pl:=by rw[eks,wg,eb'];rfl
  have ek0:ks[st]? = some b0.pl:=by rw[eks,wg,eb0];rfl
  have hbr:brk ks en = !decide (b'.pl=b0.pl):=by
   unfold brk
   rw[wI (by omega:¬en+1=ks.length),uV,hrun,ek',ek0]
   by_cases c:b'.pl=b0.pl
   ·rw[c];simp
   ·rw[wI c];simp[c]
  by_cases c:b'.pl=b0.pl
  ·rw[wq c]
   rw[wq c]at hbr
   refine xw ⟨_,λ_ _ z=>z,_,rfl,_,_,rfl,rfl,us.length - (en+1),by omega,en+1,rfl,rfl,rfl,by omega,hn,?_,?_⟩
   ·show (if brk ks en=true then en+1 else stG ks en)=st
    rw[hbr,if_neg (by simp)];exact h3
   ·show (if brk ks en=true then _ else rlG ks (fL cs lo hi) en)=_
    rw[hbr,if_neg (by simp)];exact h4
  ·rw[wI c]
   rw[wI c]at hbr
   exact xo (hnx _ _ ⟨en,rfl,rfl,h1,h2,h3,h4,by rw[hbr];rfl⟩)
 rintro σ' G' ⟨en,rfl,rfl,h1,h2,h3,h4,hbr⟩
 obtain⟨vse,evse⟩:∃v,us[en]? = some v:=⟨_,wf h2⟩
 obtain⟨ae,pe,qe,be,ebe,rfl,hae,hpe,hqe⟩:=hB.get evse
 have zbe:=hz.1 be (wj ebe)
 have haeG:=SG _ _ hae
 refine Xk ?_
 dsimp only[tC]
 refine Xk ?_
 dsimp only[tC]
 have hwG:=SG _ _ hwl
 have hv1G:=hv1.tups (zY.of SG)
 have hv2G:=hv2.tups (zY.of SG)
 refine xE (λσ' G''=>σ'=[some (.ref r),some (.ref wl),some (.ref l),some (.int (st:Int)),some (.int (en:Int)),some (.str (qN lo hi b0.pl)),some (.bl (qV cs lo hi st en))]/\G''=G') ?_ ?_
 rotate_left
 ·intro nx hnx
  have hg:=ZE (lo:=lo) (hi:=hi) eb0 ebe
  cases lo with
  | none =>
   obtain rfl:v1 = .non:=hv1G
   have a1:atW none b0.pl=false:=rfl
   rw[a1,if_neg (by simp)]at hg
   have es:=Vr (hi:=hi) a1
   refine⟨_,rfl,wl,_,_,_,rfl,rfl,.of hwG,rfl,rfl,_,rfl,xo (xo ?_)⟩
   cases hi with
   | none =>
    obtain rfl:v2 = .non:=hv2G
    refine⟨_,rfl,wl,_,_,_,rfl,rfl,.of hwG,rfl,rfl,_,rfl,xo (xo (hnx _ _ ⟨?_,rfl⟩))⟩
    rw[es,hg];rfl
   | some u =>
    obtain⟨x,y⟩:=u
    obtain⟨aw,pw,qw,rfl,g1,g2,g3⟩:=hv2G
    have zw:=hz.2.2 x y rfl
    refine⟨_,rfl,wl,_,_,_,rfl,rfl,.of hwG,rfl,rfl,_,rfl,xw ?_⟩
    refine⟨_,rfl,wl,_,_,_,rfl,rfl,.of hwG,rfl,aw,_,_,_,rfl,rfl,.of g1,rfl,_,rfl,_,rfl,r,_,_,_,rfl,rfl,.of hrG,xF evs0,a0,_,_,_,rfl,rfl,.of ha0G,QX ..,?_⟩
    refine⟨_,_,zD.rd g2,zD.rd (SG _ _ hp0),xS _,xS _,_,rfl,?_⟩
    rw[zat]
    have ea:atW (some (x,y)) b0.pl=decide (x=b0.pl):=rfl
    rw[ea]at es hg
    by_cases c:x=b0.pl
    ·rw[wq c]at es hg ⊢
     rw[if_pos rfl]at es hg
     refine xw ?_
     refine Xk ?_
     dsimp only[tC]
     refine⟨_,rfl,wl,_,_,_,rfl,rfl,.of hwG,rfl,aw,_,_,_,rfl,rfl,.of g1,rfl,_,rfl,_,rfl,r,_,_,_,rfl,rfl,.of hrG,xF evse,ae,_,_,_,rfl,rfl,.of haeG,VF ..,qw,qe,y,be.sp,rfl,g3,SG _ _ hqe,⟨zw.2.mono (by decide),zbe.2.mono (by decide)⟩,?_⟩
     refine hnx _ _ ⟨?_,rfl⟩
     rw[es,hg];rfl
    ·rw[wI c]at es hg ⊢
     rw[if_neg (by simp)]at es hg
     refine xo (hnx _ _ ⟨?_,rfl⟩)
     rw[es,hg];rfl
  | some u1 =>
   obtain⟨x1,y1⟩:=u1
   obtain⟨aw1,pw1,qw1,rfl,f1,f2,f3⟩:=hv1G
   have zw1:=hz.2.1 x1 y1 rfl
   refine⟨_,rfl,wl,_,_,_,rfl,rfl,.of hwG,rfl,rfl,_,rfl,xw ?_⟩
   refine⟨_,rfl,wl,_,_,_,rfl,rfl,.of hwG,rfl,aw1,_,_,_,rfl,rfl,.of f1,rfl,_,rfl,_,rfl,r,_,_,_,rfl,rfl,.of hrG,xF evs0,a0,_,_,_,rfl,rfl,.of ha0G,QX ..,?_⟩
   refine⟨_,_,zD.rd f2,zD.rd (SG _ _ hp0),xS _,xS _,_,rfl,?_⟩
   rw[zat]
   have ea1:atW (some (x1,y1)) b0.pl=decide (x1=b0.pl):=rfl
   by_cases c1:x1=b0.pl
   ·rw[ea1,wq c1,if_pos rfl]at hg
    have es:=zaZ (hi:=hi) (ea1.trans (wq c1))
    rw[wq c1]
    refine xw ?_
    refine Xk ?_
    dsimp only[tC]
    refine⟨_,rfl,_,rfl,r,_,_,_,rfl,rfl,.of hrG,xF evs0,a0,_,_,_,rfl,rfl,.of ha0G,VF ..,_,rfl,wl,_,_,_,rfl,rfl,.of hwG,rfl,aw1,_,_,_,rfl,rfl,.of f1,rfl,q0,qw1,b0.sp,y1,rfl,SG _ _ hq0,f3,⟨zb0.2.mono (by decide),zw1.2.mono (by decide)⟩,?_⟩
    refine hnx _ _ ⟨?_,rfl⟩
    rw[es,hg];rfl
   ·rw[ea1,wI c1,if_neg (by simp)]at hg
    have es:=Vr (hi:=hi) (ea1.trans (wI c1))
    rw[wI c1]
    refine xo ?_
    cases hi with
    | none =>
     obtain rfl:v2 = .non:=hv2G
     refine⟨_,rfl,wl,_,_,_,rfl,rfl,.of hwG,rfl,rfl,_,rfl,xo (xo (hnx _ _ ⟨?_,rfl⟩))⟩
     rw[es,hg];rfl
    | some u =>
     obtain⟨x,y⟩:=u
     obtain⟨aw,pw,qw,rfl,g1,g2,g3⟩:=hv2G
     have zw:=hz.2.2 x y rfl
     refine⟨_,rfl,wl,_,_,_,rfl,rfl,.of hwG,rfl,rfl,_,rfl,xw ?_⟩
     refine⟨_,rfl,wl,_,_,_,rfl,rfl,.of hwG,rfl,aw,_,_,_,rfl,rfl,.of g1,rfl,_,rfl,_,rfl,r,_,_,_,rfl,rfl,.of hrG,xF evs0,a0,_,_,_,rfl,rfl,.of ha0G,QX ..,?_⟩
     refine⟨_,_,zD.rd g2,zD.rd (SG _ _ hp0),xS _,xS _,_,rfl,?_⟩
     rw[zat]
     have ea:atW (some (x,y)) b0.pl=decide (x=b0.pl):=rfl
     rw[ea]at es hg
     by_cases c:x=b0.pl
     ·rw[wq c]at es hg ⊢
      rw[if_pos rfl]at es hg
      refine xw ?_
      refine Xk ?_
      dsimp only[tC]
      refine⟨_,rfl,wl,_,_,_,rfl,rfl,.of hwG,rfl,aw,_,_,_,rfl,rfl,.of g1,rfl,_,rfl,_,rfl,r,_,_,_,rfl,rfl,.of hrG,xF evse,ae,_,_,_,rfl,rfl,.of haeG,VF ..,qw,qe,y,be.sp,rfl,g3,SG _ _ hqe,⟨zw.2.mono (by decide),zbe.2.mono (by decide)⟩,?_⟩
      refine hnx _ _ ⟨?_,rfl⟩
      rw[es,hg];rfl
     ·rw[wI c]at es hg ⊢
      rw[if_neg (by simp)]at es hg
      refine xo (hnx _ _ ⟨?_,rfl⟩)
      rw[es,hg];rfl
 rintro σ' G'' ⟨rfl,rfl⟩
 have erl:rlG ks (fL cs lo hi) (en+1)=rlG ks (fL cs lo hi) st++(fL cs lo hi st en).toList:=by
  show (if brk ks en=true then rlG ks (fL cs lo hi) en++(fL cs lo hi (stG ks en) en).toList else _)=_
  rw[if_pos hbr,h3,h4]
 have est':stG ks (en+1)=en+1:=if_pos hbr
 have ek0:((cs.map zJ.pl)[st]?).getD 0=b0.pl:=by rw[wg,eb0];rfl
 have efL:fL cs lo hi st en=if st<en\/qV cs lo hi st en=true then some (st,en,qN lo hi b0.pl)else none:=by unfold fL;rw[ek0]
 have hgl':gs.length<=en:=by omega
 refine VR (λH'=>H'=G'') (decide (st<en\/qV cs lo hi st en=true)) (λQ' q=>?_) (λhc6 H6 e6=>?_) (λhc6 H6 e6=>?_)
 ·refine⟨_,rfl,_,rfl,_,_,rfl,rfl,_,rfl,qr (λy1=>?_) (λy1=>?_)⟩
  ·have:st<en:=by have:=wD y1;omega
   rw[wq (Or.inl this)]at q
   exact q _ rfl
  ·have n:¬st<en:=λz=>y1 (wq (by omega))
   refine⟨_,rfl,_,rfl,?_⟩
   have:qV cs lo hi st en=decide (st<en\/qV cs lo hi st en=true):=by
    cases hg:qV cs lo hi st en with
    | true=>rw[wq (Or.inr rfl)]
    | false=>rw[wI (by rintro (z | z);exact n z;cases z)]
   rw[<-this]at q
   exact q _ rfl
 ·subst e6
  refine⟨_,rfl,.inl ⟨rfl,gs,.of hlG⟩,_,rfl,_,rfl,_,rfl,zL3,λgp hgp=>?_⟩
  have s5:zi H6 (upd H6 gp (.tup [.int (st:Int),.int (en:Int),.str (qN lo hi b0.pl)])):=zi.upd hgp
  have h5:upd H6 gp (.tup [.int (st:Int),.int (en:Int),.str (qN lo hi b0.pl)]) gp=some (.tup [.int (st:Int),.int (en:Int),.str (qN lo hi b0.pl)]):=zg
  generalize upd H6 gp (.tup [.int (st:Int),.int (en:Int),.str (qN lo hi b0.pl)])=G5 at s5 h5
  have hl5:=s5 _ _ hlG
  refine⟨l,gs,_,rfl,rfl,hl5,xk (by omega),?_⟩
  have Tu:zY G5 (upd G5 l (.lst (gs++[.ref gp]))):=.upd hl5
  refine⟨_,rfl,_,_,rfl,rfl,us.length - (en+1),by omega,en+1,gs++[.ref gp],_,_,_,rfl,rfl,by omega,est',λb o e=>?_,zg,by simp;omega,?_⟩
  ·rw[zE (zG e hl)];exact s5 _ _ (SG _ _ e)
  ·rw[erl,efL,if_pos (wD hc6)]
   exact((hgr.keeps (.of s5)).keeps Tu).snoc ⟨gp,rfl,Tu _ _ h5⟩
 ·subst e6
  refine⟨_,rfl,_,_,rfl,rfl,us.length - (en+1),by omega,en+1,gs,_,_,_,rfl,rfl,by omega,est',SG,hlG,by omega,?_⟩
  rw[erl,efL,if_neg (of_decide_eq_false hc6)]
  show vv H6 gs (_++[])
  rw[yb];exact hgr
end
end KT
namespace L2
open PySem PySem.Spec PyProof.Rows
theorem zea {K:Fg}{H:Hp}{a:Addr}{xs:List V}{lo hi:Option Int}{Q:VK}(ha:H a=some (.tup xs)) (k:∀q H',zi H H'->H' q=some (.tup (vA xs lo hi))->Q (.ref q) H'):zeY K (.ref a) lo hi H Q\/zhc K (.ref a) lo hi H Q:=by
 by_cases w:HT.sIx xs.length 0 lo=0/\HT.sIx xs.length xs.length hi=xs.length
 ·refine .inr ⟨a,xs,rfl,.of ha,w,k a H (zi.refl _) ?_⟩
  have:vA xs lo hi=xs:=by unfold vA;rw[w.1,w.2];simp
  rw[this];exact ha
 ·exact .inl ⟨a,xs,rfl,.of ha,w,λp hp=>k p _ (zi.upd hp) zg⟩
end L2
namespace KT
open PySem L2 KM KK
open KQ (vz qI vM TxQ xx xL qP stG rlG brk vv Xu vC)
def Lay (n:Nat) (d:PyData):Prop:=PyData.canLay0 d=true/\PyData.depth d<=n
theorem zcU {n:Nat}:∀{ds:List PyData},(∀d∈ds,Lay n d)->PyData.canLayAll0 ds=true/\PyData.depthAll ds<=n
 | [],_=>⟨rfl,yg _⟩
 | d::ds,h=>by
  obtain⟨h1,h2⟩:=zcU (ds:=ds) λe m=>h e (wP _ m)
  obtain⟨h3,h4⟩:=h d (wJ ..)
  refine⟨?_,?_⟩
  ·show (PyData.canLay0 d&&_)=true
   rw[h1,h3];rfl
  ·show max (PyData.depth d) _<=n
   omega
theorem Lay.tup {n:Nat}{ds:List PyData}(h:∀d∈ds,Lay n d):Lay (n+1) (.tuple ds):=⟨(zcU h).1,Nat.succ_le_succ (zcU h).2⟩
theorem Lay.mono {m n:Nat}{d:PyData}(h:Lay m d) (e:m<=n):Lay n d:=⟨h.1,wS h.2 e⟩
theorem Lay.int (i:Int):Lay 0 (.int i):=⟨rfl,wx _⟩
theorem Lay.non:Lay 0 .none:=⟨rfl,wx _⟩
theorem Lay.rat (x:Rat):Lay 1 (rD x):=Lay.tup λd m=>by
 rcases wy.mp m with rfl | m
 ·exact .int _
 ·rcases wy.mp m with rfl | m
  ·exact .int _
  ·cases m
theorem Lay.shaped {n:Nat}{d:PyData}(h:Lay n d) (e:n<=64):SeqAt.shaped d=true:=by
 show (_&&_)=true
 rw[h.1,wq (wS h.2 e)];rfl
theorem Lay.self {n:Nat}{d:PyData}(h:Lay n d):PyData.eqv d d=true:=SeqAt.eqv_refl _ h.1
theorem Lay.str {x:Str}(h:PyData.canLay0 (.str x)=true):Lay 0 (.str x):=⟨h,wx _⟩
theorem Lay.lst {n:Nat}{ds:List PyData}(h:∀d∈ds,Lay n d):Lay (n+1) (.list ds):=⟨(zcU h).1,Nat.succ_le_succ (zcU h).2⟩
def grD (g:Nat×Nat×Str):PyData:=.tuple [.int (g.1:Int),.int (g.2.1:Int),.str g.2.2]
def coD (m:Rat) (gs:List (Nat×Nat×Str)):PyData:=.tuple [rD m,.list (gs.map grD)]
theorem zgN {g:Nat×Nat×Str}(h:PyData.canLay0 (.str g.2.2)=true):Lay 1 (grD g):=Lay.tup λd m=>by
 simp only[wy,wQ,or_false]at m
 rcases m with rfl | rfl | rfl
 ·exact .int _
 ·exact .int _
 ·exact .str h
theorem zgM (m:Rat){gs:List (Nat×Nat×Str)} (hg:∀g∈gs,PyData.canLay0 (.str g.2.2)=true):Lay 3 (coD m gs):=Lay.tup λd h=>by
 simp only[wy,wQ,or_false]at h
 rcases h with rfl | rfl
 ·exact(Lay.rat _).mono (by decide)
 ·exact Lay.lst λd h=>by obtain⟨g,mg,rfl⟩:=ww.mp h;exact zgN (hg g mg)
theorem zcK {H:Hp}:∀{vs:List V}{gs:List (Nat×Nat×Str)},vv H vs gs->vo H vs (gs.map grD)
 | [],[],_=>.nil
 | [],_::_,h=>by have:=h.1;simp at this
 | _::_,[],h=>by have:=h.1;simp at this
 | v::vs,g::gs,h=>by
  obtain⟨g',e,a,rfl,ha⟩:=h.2 0 v rfl
  cases e
  exact .cons (.tup ha (.cons (.int _) (.cons (.int _) (.cons (.str _) .nil)))) (zcK ⟨by have:=h.1;simpa using this,λi v e=>by obtain⟨g,e1,e2⟩:=h.2 (i+1) v (by simpa using e);exact⟨g,by simpa using e1,e2⟩⟩)
section
variable {P:Program}{w:World}{K:Fg}{mg:Str->Option Value}{base:Heap}
theorem zcd {H:Hp}{v1 v2:V}{lo hi:Wl}(h1:zV H v1 lo) (h2:zV H v2 hi):OsR H [v1,v2] [(lo,[]),(hi,[])]:=by
 have one:∀{v:V}{l:Wl},zV H v l->ThR H v l []:=λ{v l} h=>by
  cases l with
  | none=>exact h
  | some u=>obtain⟨x,y⟩:=u;obtain⟨a,p,q,e,g1,g2,g3⟩:=h;exact⟨a,p,q,e,g1,g2,g3⟩
 refine⟨rfl,λi v n e1 e2=>?_⟩
 match i,e1,e2 with
 | 0,e1,e2=>cases e1;cases e2;exact one h1
 | 1,e1,e2=>cases e1;cases e2;exact one h2
 | i+2,e1,_=>simp at e1
theorem V0 {H:Hp}{v:V}{l:Wl}{m:Rat}(h:ThR H v (onO m l) []):zV H v (zR m l):=by
 cases l with
 | none=>exact h
 | some u=>obtain⟨x,y⟩:=u;obtain⟨a,p,q,e,g1,g2,g3⟩:=h;exact⟨a,p,q,e,g1,g2,g3⟩
theorem QB {H:Hp}{us:List V}{bs:List zJ}(h:zH H us bs):OsR H us (bs.map λb=>(some (b.pl,b.sp),[V.int b.wt])):=by
 refine⟨by rw[h.length,we],λi v n e1 e2=>?_⟩
 obtain⟨a,p,q,b,eb,rfl,g1,g2,g3⟩:=h.get e1
 rw[wg,eb]at e2
 cases e2
 exact⟨a,p,q,rfl,g1,g2,g3⟩
theorem Xd {H:Hp}{m:Rat}:∀{us:List V}{bs:List zJ},OsR H us ((bs.map λb=>((some (b.pl,b.sp):OT),[V.int b.wt])).map λn=>(onO m n.1,n.2))->zH H us (bs.map (zN m))
 | [],[],_=>.nil
 | [],_::_,h=>by have:=h.1;simp at this
 | _::_,[],h=>by have:=h.1;simp at this
 | u::us,b::bs,h=>by
  obtain⟨a,p,q,rfl,g1,g2,g3⟩:=h.2 0 u _ rfl rfl
  exact .cons g1 g2 g3 (Xd ⟨by have:=h.1;simpa using this,λi v n e1 e2=>h.2 (i+1) v n (by simpa using e1) (by simpa using e2)⟩)
end
theorem Zj.trans {a b c:Rat×Rat}(h:Zj a b) (k:Zj b c):Zj a c:=by
 unfold Zj at *
 rcases h with h | ⟨h1,h2⟩ <;> rcases k with k | ⟨k1,k2⟩
 ·exact .inl (by grind)
 ·exact .inl (by grind)
 ·exact .inl (by grind)
 ·exact .inr ⟨by grind,by grind⟩
theorem zg7 {bs:List zJ}{lo hi:Wl}(G:zgg bs) (B:Box bs lo hi) (h1:1<=bs.length):Ord bs lo hi:=by
 have hpb:(bs.map λb=>(b.pl,b.sp)).Pairwise Zj:=by
  rw[yr]
  refine G.pw.imp λ{a b} h=>?_
  rcases h with h | ⟨h1,h2⟩
  ·exact .inl h
  ·exact .inr ⟨h1,by show a.sp<=b.sp;grind⟩
 have hlo:∀x y,lo=some (x,y)->∀b∈bs,Zj (x,y) (b.pl,b.sp):=λx y e b mb=>by
  obtain⟨b0,e0⟩:∃b0,bs[0]? = some b0:=⟨_,wf h1⟩
  have h0:Zj (x,y) (b0.pl,b0.sp):=by
   obtain⟨g1,g2⟩:=B.lo x y b0 e e0
   by_cases z:x=b0.pl
   ·exact .inr ⟨z,g2 z⟩
   ·exact .inl (by show x<b0.pl;grind)
  match bs,e0 with
  | c::cs,e0 =>
   cases e0
   rcases wy.mp mb with rfl | mb
   ·exact h0
   ·refine h0.trans ?_
    rcases(w4.mp G.pw).1 b mb with h | ⟨g1,g2⟩
    ·exact .inl h
    ·exact .inr ⟨g1,Rat.le_of_lt g2⟩
 have hhi:∀x y,hi=some (x,y)->∀b∈bs,Zj (b.pl,b.sp) (x,y):=λx y e b mb=>by
  obtain⟨cs,c,ec⟩:∃cs c,bs=cs++[c]:=⟨_,_,(yT (by intro z;rw[z]at h1;simp at h1)).symm⟩
  have h0:Zj (c.pl,c.sp) (x,y):=by
   obtain⟨g1,g2⟩:=B.hi x y cs c e ec
   by_cases z:x=c.pl
   ·exact .inr ⟨z.symm,g2 z⟩
   ·exact .inl (by show c.pl<x;grind)
  have gp:=G.pw
  rw[ec]at mb gp
  rcases wN.mp mb with mb | mb
  ·refine Zj.trans ?_ h0
   rcases(wX.mp gp).2.2 b mb c (wJ ..)with h | ⟨g1,g2⟩
   ·exact .inl h
   ·exact .inr ⟨g1,by show b.sp<=c.sp;grind⟩
  ·rw[wF.mp mb];exact h0
 refine⟨?_,B.lt⟩
 unfold tl
 refine wX.mpr ⟨wX.mpr ⟨?_,hpb,λa ma b mb=>?_⟩,?_,λa ma b mb=>?_⟩
 ·cases lo with
  | none=>exact .nil
  | some u=>exact yt ..
 ·obtain⟨c,mc,rfl⟩:=ww.mp mb
  cases lo with
  | none=>cases ma
  | some u=>rw[wF.mp ma];exact hlo _ _ rfl c mc
 ·cases hi with
  | none=>exact .nil
  | some u=>exact yt ..
 ·cases hi with
  | none=>cases mb
  | some u =>
   rw[wF.mp mb]
   rcases wN.mp ma with ma | ma
   ·cases lo with
    | none=>cases ma
    | some v=>rw[wF.mp ma];exact .inl (B.lt _ _ _ _ rfl rfl)
   ·obtain⟨c,mc,rfl⟩:=ww.mp ma
    exact hhi _ _ rfl c mc
theorem zjt {bs:List zJ}{lo hi:Wl}(z:∀b∈bs,Sz 300 b.pl/\Sz 80 b.sp) (z1:∀x y,lo=some (x,y)->Sz 320 x/\Sz 80 y) (z2:∀x y,hi=some (x,y)->Sz 320 x/\Sz 80 y):TZ bs lo hi:=by
 intro t mt
 unfold tl at mt
 rcases wN.mp mt with mt | mt
 ·rcases wN.mp mt with mt | mt
  ·cases lo with
   | none=>cases mt
   | some u=>rw[wF.mp mt];exact z1 _ _ rfl
  ·obtain⟨c,mc,rfl⟩:=ww.mp mt
   exact⟨(z c mc).1.mono (by decide),(z c mc).2⟩
 ·cases hi with
  | none=>cases mt
  | some u=>rw[wF.mp mt];exact z2 _ _ rfl
theorem zfK {m:Rat}:∀{L:List ((Rat×Rat)×(Rat×Rat))}{f:Option Rat},(∀p∈L,p.2.2<p.1.2->mo p.1 p.2=m)->(f=none\/f=some m)->(f=some m\/∃p∈L,p.2.2<p.1.2)->L.foldl x8 f=some m
 | [],f,_,_,h=>by
  rcases h with h | ⟨p,mp,_⟩
  ·exact h
  ·cases mp
 | p::L,f,hL,hf,h=>by
  refine zfK (L:=L) (f:=x8 f p) (λq mq=>hL q (wP _ mq)) ?_ ?_
  ·unfold x8
   split
   ·have e:=hL p (wJ ..) ‹_›
    split
    ·exact .inr (by rw[e])
    ·split
     ·exact .inr (by rw[e])
     ·rcases hf with z | z
      ·simp_all
      ·simp_all
   ·exact hf
  ·unfold x8
   by_cases c:p.2.2<p.1.2
   ·rw[if_pos c]
    have e:=hL p (wJ ..) c
    left
    rcases hf with z | z
    ·rw[z];simp[e]
    ·rw[z];simp[e]
   ·rw[if_neg c]
    rcases h with h | ⟨q,mq,lq⟩
    ·exact .inl h
    ·rcases wy.mp mq with rfl | mq
     ·exact absurd lq c
     ·exact .inr ⟨q,mq,lq⟩
theorem zjg {ss:List Rat}(h:ss.Pairwise (·>=·)){a b:Rat}(ma:a∈ss) (mb:b∈ss) (lt:b<a):∃i x y,ss[i]? = some x/\ss[i+1]? = some y/\y<x:=by
 induction ss with
 | nil=>cases ma
 | cons x ss ih =>
  cases ss with
  | nil =>
   rw[wF.mp ma,wF.mp mb]at lt;grind
  | cons y ss =>
   by_cases c:y<x
   ·exact⟨0,x,y,rfl,rfl,c⟩
   ·have hxy:=(w4.mp h).1 y (wJ ..)
    have e:y=x:=by have:x>=y:=hxy;grind
    have ha':a∈y::ss:=by
     rcases wy.mp ma with rfl | m
     ·rw[<-e];exact wJ ..
     ·exact m
    have hb':b∈y::ss:=by
     rcases wy.mp mb with rfl | m
     ·rw[<-e];exact wJ ..
     ·exact m
    obtain⟨i,u,v,e1,e2,e3⟩:=ih (w4.mp h).2 ha' hb'
    exact⟨i+1,u,v,e1,e2,e3⟩
theorem Zq {pl m:Rat}{ss:List Rat}(h:ss.Pairwise (·>=·)){a b:Rat}(ma:a∈ss) (mb:b∈ss) (lt:b<a):qq (xY pl m ss)=some m:=by
 unfold qq
 refine zfK (λp mp lp=>?_) (.inl rfl) (.inr ?_)
 ·obtain⟨i,e1,e2⟩:=zcY mp
  unfold xY at e1 e2
  rw[wg]at e1 e2
  cases hs:ss[i]? with
  | none=>rw[hs]at e1;cases e1
  | some s =>
   cases hs':ss[i+1]? with
   | none=>rw[hs']at e2;cases e2
   | some s' =>
    rw[hs]at e1;rw[hs']at e2
    obtain⟨p1,p2⟩:=p
    simp only[Option.map_some,Option.some.injEq]at e1 e2
    subst e1;subst e2
    exact zew lp
 ·obtain⟨i,x,y,e1,e2,e3⟩:=zjg h ma mb lt
  refine⟨((pl - x*m,x),(pl - y*m,y)),?_,e3⟩
  have g1:(xY pl m ss)[i]? = some (pl - x*m,x):=by unfold xY;rw[wg,e1];rfl
  have g2:(xY pl m ss).tail[i]? = some (pl - y*m,y):=by unfold xY;rw[uW,wg,e2];rfl
  exact wj (yn.mpr ⟨g1,g2⟩:((xY pl m ss).zip (xY pl m ss).tail)[i]? = some ((pl - x*m,x),(pl - y*m,y)))
theorem zaw {bs:List zJ}{lo hi:Wl}(F:FoR bs lo hi):∃m,qq (tl bs lo hi)=some m/\0<m/\∃pl,(∀b∈bs,b.pl+b.sp*m=pl)/\(∀x y,lo=some (x,y)->x+y*m=pl)/\(∀x y,hi=some (x,y)->x+y*m=pl):=by
 obtain⟨pl,m,z,qs,wh,hL,pm,hD,hw⟩:=F
 have hgt:qs.Pairwise (·>=·):=hD.1.imp λ{a b} g=>by show a>=b;have g:a>b:=g;grind
 obtain⟨⟨q0,m0,s1,s2⟩,n2⟩:=hD.2.2.2.2
 have hpl:∀b∈bs,b.pl+b.sp*m=pl:=λb mb=>by have:=(ZF hL mb).2;grind
 rcases hw with⟨rfl,rfl,rfl⟩ | ⟨rfl,rfl,rfl⟩ | ⟨rfl,rfl,rfl⟩
 ·refine⟨m,?_,pm,pl,hpl,λx y e=>(by cases e),λx y e=>(by cases e)⟩
  have e:tl bs none none=xY pl m qs:=by unfold tl;rw[hL];simp[xx]
  rw[e]
  match qs,n2 rfl,hD.1 with
  | a::b::r,_,pw=>exact Zq (a:=a) (b:=b) (pw.imp λ{a b} g=>by show a>=b;have g:a>b:=g;grind) (wJ ..) (by simp) ((w4.mp pw).1 b (wJ ..))
 ·refine⟨m,?_,pm,pl,hpl,λx y e=>(by cases e;grind),λx y e=>(by cases e)⟩
  have e:tl bs (some (pl - z*m,z)) none=xY pl m (z::qs):=by unfold tl;rw[hL];simp[xx,xY]
  rw[e]
  exact Zq (a:=z) (b:=q0) (w4.mpr ⟨λq mq=>hD.2.1 rfl q mq,hgt⟩) (wJ ..) (wP _ m0) (s1 rfl)
 ·refine⟨m,?_,pm,pl,hpl,λx y e=>(by cases e),λx y e=>(by cases e;grind)⟩
  have e:tl bs none (some (pl - z*m,z))=xY pl m (qs++[z]):=by unfold tl;rw[hL];simp[xx,xY]
  rw[e]
  exact Zq (a:=q0) (b:=z) (wX.mpr ⟨hgt,yt ..,λa ma b mb=>by rw[wF.mp mb];exact hD.2.2.1 rfl a ma⟩) (wT _ m0) (by simp) (s2 (by decide))
theorem zaS {α γ:Type} [DecidableEq α] {ss:List α}{f:Nat->Nat->Option γ}:∀{n:Nat},(∀i,i<n->brk ss i=false)->rlG ss f n=[]/\stG ss n=0
 | 0,_=>⟨rfl,rfl⟩
 | n+1,h=>by
  obtain⟨h1,h2⟩:=zaS (ss:=ss) (f:=f) (n:=n) λi hi=>h i (by omega)
  have hb:=h n (by omega)
  unfold rlG stG
  rw[if_neg (by rw[hb];simp),if_neg (by rw[hb];simp)]
  exact⟨h1,h2⟩
theorem zdk {γ:Type}{ss:List Rat}{f:Nat->Nat->Option γ}{k:Rat}{n:Nat}(hl:ss.length=n+1) (hk:∀x∈ss,x=k):rlG ss f (n+1)=(f 0 n).toList:=by
 have at':∀i,i<n+1->ss[i]? = some k:=λi hi=>by
  rw[wf (by omega)]
  rw[hk _ (uK _)]
 have hb:∀i,i<n->brk ss i=false:=λi hi=>by
  unfold brk
  rw[at' i (by omega),at' (i+1) (by omega)]
  simp;omega
 obtain⟨h1,h2⟩:=zaS (ss:=ss) (f:=f) hb
 unfold rlG
 rw[if_pos (by unfold brk;simp[hl]),h1,h2]
 rfl
theorem zgB {bs:List zJ}{lo hi:Wl}{m pl:Rat}(n1:1<=bs.length) (hpl:∀b∈bs,b.pl+b.sp*m=pl) (hgo:2<=bs.length\/qV (bs.map (zN m)) (zR m lo) (zR m hi) 0 0=true) :
  grL (bs.map (zN m)) (zR m lo) (zR m hi)=[(0,bs.length - 1,qN (zR m lo) (zR m hi) pl)]:=by
 obtain⟨n,hn⟩:∃n,bs.length=n+1:=⟨bs.length - 1,by omega⟩
 have hk:∀x∈(bs.map (zN m)).map zJ.pl,x=pl:=λx mx=>by
  obtain⟨c,mc,rfl⟩:=ww.mp mx
  obtain⟨b,mb,rfl⟩:=ww.mp mc
  exact hpl b mb
 unfold grL
 rw[show (bs.map (zN m)).length=n+1 by rw[we,hn],zdk (n:=n) (by rw[we,we,hn]) hk]
 have h0:((bs.map (zN m)).map zJ.pl)[0]? = some pl:=by
  have:0<((bs.map (zN m)).map zJ.pl).length:=by rw[we,we];omega
  rw[wf this,hk _ (uK _)]
 unfold fL
 rw[if_pos (by
  by_cases z:n=0
  ·right;subst z
   rcases hgo with g | g
   ·omega
   ·exact g
  ·left;omega),h0]
 rw[hn]
 rfl
structure FoG (bs:List zJ) (lo hi:Wl) (m:Rat) (side:Str):Prop where
 soon:qq (tl bs lo hi)=some m
 pos:0<m
 gr:grL (bs.map (zN m)) (zR m lo) (zR m hi)=[(0,bs.length - 1,side)]
 wall:(side = ""/\lo=none/\hi=none/\2<=bs.length)\/(side = "low"/\hi=none/\∃u,lo=some u)\/(side = "high"/\lo=none/\∃u,hi=some u)
theorem fo_g {bs:List zJ}{lo hi:Wl}(F:FoR bs lo hi) (n1:1<=bs.length):∃m side,FoG bs lo hi m side:=by
 obtain⟨pl,m,z,qs,wh,hL,pm,hD,hw⟩:=id F
 obtain⟨m',hs,pm',pl',hpl,hlo,hhi⟩:=zaw F
 have hql:qs.length=bs.length:=by have:=congrArg List.length hL;unfold xY at this;simpa using this.symm
 obtain⟨⟨q0,m0,s1,s2⟩,n2⟩:=hD.2.2.2.2
 have hone:bs.length=1->∃b,bs=[b]/\b.sp=q0:=λh=>by
  match bs,h with
  | [b],_ =>
   refine⟨b,rfl,?_⟩
   have hm:=(ZF hL (b:=b) (wJ ..)).1
   match qs,hql with
   | [q],_=>rw[wF.mp hm,wF.mp m0]
 have hb0:∀b,bs=[b]->b.pl+b.sp*m'=pl':=λb e=>hpl b (by rw[e];simp)
 have done:∀side:Str,qN (zR m' lo) (zR m' hi) pl'=side->(2<=bs.length\/qV (bs.map (zN m')) (zR m' lo) (zR m' hi) 0 0=true)->_->FoG bs lo hi m' side:=λside es hg w=>⟨hs,pm',by rw[<-es];exact zgB n1 hpl hg,w⟩
 rcases hw with⟨rfl,rfl,rfl⟩ | ⟨rfl,rfl,rfl⟩ | ⟨rfl,rfl,rfl⟩
 ·exact⟨m',"",done "" rfl (.inl (by have:=n2 rfl;omega)) (.inl ⟨rfl,rfl,rfl,by have:=n2 rfl;omega⟩)⟩
 ·have ew:=hlo _ _ rfl
  have ea:atW (zR m' (some (pl - z*m,z))) pl'=true:=wq ew
  refine⟨m',"low",done "low" (zaZ ea) ?_ (.inr (.inl ⟨rfl,rfl,_,rfl⟩))⟩
  by_cases h2:2<=bs.length
  ·exact .inl h2
  ·obtain⟨b,rfl,eb⟩:=hone (by omega)
   refine .inr ?_
   have hp:=hb0 b rfl
   rw[ZE (ca:=zN m' b) (cb:=zN m' b) rfl rfl]
   rw[show atW (zR m' (some (pl - z*m,z))) (zN m' b).pl=true from by show decide _=true;rw[wH];exact ew.trans hp.symm,if_pos rfl]
   show decide (b.sp<z)=true
   rw[wH,eb];exact s1 rfl
 ·have ew:=hhi _ _ rfl
  have ea:atW (zR m' (some (pl - z*m,z))) pl'=true:=wq ew
  refine⟨m',"high",done "high" (by rw[Vr rfl,if_pos ea]) ?_ (.inr (.inr ⟨rfl,rfl,_,rfl⟩))⟩
  by_cases h2:2<=bs.length
  ·exact .inl h2
  ·obtain⟨b,rfl,eb⟩:=hone (by omega)
   refine .inr ?_
   have hp:=hb0 b rfl
   rw[ZE (ca:=zN m' b) (cb:=zN m' b) rfl rfl]
   rw[show atW (zR m' none) (zN m' b).pl=false from rfl,if_neg (by simp),show atW (zR m' (some (pl - z*m,z))) (zN m' b).pl=true from by show decide _=true;rw[wH];exact ew.trans hp.symm,if_pos rfl]
   show decide (z<b.sp)=true
   rw[wH,eb];exact s2 (by decide)
end KT
namespace L2
open PySem
end L2
namespace KT
open PySem L2 KM KK
def wtD (ws:List Int):PyData:=.list (ws.map PyData.int)
theorem J3 {H:Hp}:∀(ws:List Int),vo H (ws.map V.int) (ws.map PyData.int)
 | []=>.nil
 | x::ws=>.cons (.int x) (J3 ws)
theorem zcT (ws:List Int):Lay 1 (wtD ws):=Lay.lst λd m=>by obtain⟨x,_,rfl⟩:=ww.mp m;exact Lay.int x
theorem Xn:∀(xs ys:List Int),PyData.eqvAll (xs.map PyData.int) (ys.map PyData.int)=decide (xs=ys)
 | [],[]=>rfl
 | [],_::_=>rfl
 | _::_,[]=>rfl
 | x::xs,y::ys=>by
  show (PyData.eqv (.int x) (.int y)&&PyData.eqvAll (xs.map PyData.int) (ys.map PyData.int))=_
  rw[Xn xs ys]
  show (x == y&&decide (xs=ys))=_
  by_cases h:x=y
  ·subst h;simp
  ·simp[h]
theorem zgw (xs ys:List Int):PyData.eqv (wtD xs) (wtD ys)=decide (xs=ys):=Xn xs ys
theorem zdm {ws:List Int}(h:1<=ws.length):decide (ws=List.replicate ws.length (ws.headD 0))=KQ.qp ws:=by
 unfold KQ.qp
 rw[yv,wH,Wg]
 constructor
 ·intro e x m
  rw[wH]
  rw[e]at m
  exact uQ m
 ·intro e
  exact List.eq_replicate_iff.mpr ⟨rfl,λx m=>wD (e x m)⟩
def wlD (l:Wl):PyData:=match l with
 | none=>.none
 | some (x,y)=>.tuple [rD x,rD y]
theorem zbg {H:Hp}{v:V}{l:Wl}(h:zV H v l):RdD H v (wlD l):=by
 cases l with
 | none=>obtain rfl:v = .non:=h;exact .non
 | some u=>obtain⟨x,y⟩:=u;obtain⟨a,p,q,rfl,g1,g2,g3⟩:=h;exact .tup g1 (.cons (v7 g2) (.cons (v7 g3) .nil))
theorem zcS (l:Wl):Lay 2 (wlD l):=by
 cases l with
 | none=>exact Lay.non.mono (by decide)
 | some u =>
  obtain⟨x,y⟩:=u
  exact Lay.tup λd m=>by
   simp only[wy,wQ,or_false]at m
   rcases m with rfl | rfl
   ·exact .rat _
   ·exact .rat _
def wsD (lo hi:Wl):PyData:=.tuple [wlD lo,wlD hi]
theorem zgO (lo hi:Wl):Lay 3 (wsD lo hi):=Lay.tup λd m=>by
 simp only[wy,wQ,or_false]at m
 rcases m with rfl | rfl
 ·exact zcS _
 ·exact zcS _
end KT
namespace L2
open PySem PySem.Spec PyProof.Rows
section
variable {X:Cx}
inductive zdh (K:Fg) (x:V) (y:V) (H:Hp) (Q:VK):Prop
 | mk:∀l b xs zs,(x = .ref l)->(y = .ref b)->(SqL K H l xs)->(SqL K H b zs)->(xs.length+zs.length<=sizeLine)->(∀p,H p=none->Q (.ref p) (upd H p (.lst (xs++zs))))->zdh K x y H Q
def ziU (K:Fg):R2:=λx y H Q=>zdh K x y H Q
theorem zeL:OpR X (binaryOp .Add) (ziU X.K):=by
 intro pins s σ H x y v u Q I rx ry h
 obtain⟨l,b,xs,zs,rfl,rfl,hH,hB,hz,q⟩:=h
 cases rx
 cases ry
 obtain⟨its,r,pl,z⟩:=I.list hH
 obtain⟨its2,r2,pl2,z2⟩:=I.list hB
 have e1:=r.length
 have e2:=r2.length
 obtain⟨⟨cls,dd,data,sl⟩,n,ho,hc,hdn,hd⟩:=pl
 obtain⟨⟨cls2,dd2,data2,sl2⟩,n2,ho2,hc2,hdn2,hd2⟩:=pl2
 simp only at hc hd hc2 hd2
 subst hc hd hc2 hd2
 refine concat_meets ⟨_,ho,rfl⟩ ⟨_,ho2,rfl⟩ noFill_list_add seq_list_add PySem.F.slot_list_add PySem.F.entry_list_add (PySem.F.args_list_add_2 _ _) (list_addW l b its.toArray its2.toArray n n2 dd dd2 sl sl2 (by simp only[wz];omega)) ⟨ho,ho2,?_⟩
 have ea:its.toArray++its2.toArray=(its++its2).toArray:=by simp
 rw[ea]
 exact⟨.ref _,_,I.lnew (t':=s.toks) (r.append r2) (by rw[wE];omega),rfl,q _ I.fresh⟩
end
theorem ZW.quiet {P:Program}{w:World}{K:Fg}{mg:Str->Option Value}{base:Heap}{x:Str}{k:Nat}{ps:List Str}{dvs:List V}{sp sp':Sp}(c:ZW P w K mg base x k ps dvs sp) (h:∀vs H Q E,sp' vs H Q E->sp vs H Q λ_ _ _=>False):Cal P w K mg base x k ps dvs sp':=by
 obtain⟨f,fd,ds,F,r⟩:=c.ex
 refine⟨⟨f,fd,ds,⟨λvs H Q E q=>F.len vs H Q _ (h vs H Q E q),λA outer s H args us vs Q E hr e0 hb hv q=>?_⟩,r⟩⟩
 refine codeAny_mono (F.run A outer s H args us vs Q _ hr e0 hb hv (h vs H Q E q)) λrr s' hq=>?_
 cases rr with
 | ok fl=>cases fl <;> exact hq
 | error e=>obtain⟨_,_,_,_,_,_,_,_,z⟩:=hq;exact z.elim
end L2
namespace KT
open PySem L2 KM KK
open KQ (vz qI vM TxQ xx xL qP stG rlG brk vv Xu vC zb5 In soon chO qD tkO laQ laP)
theorem zb9 {G0 G1 G':Hp}{p:Addr}(s:zi G0 G1) (hp:G0 p=none) (t:xA p G1 G'):zi G0 G':=λb o e=>t.keep b o (s b o e) (zG e hp)
open KQ (SC RbS RbT jD ptT scT mP puP baP ahP dvP Zm jy jc qp xO xm xl trB S0)
def zch (xs ys:List Rat):Prop:=ys.Perm xs/\ys.Pairwise (·<=·)
theorem zdH {xs ys zs:List Rat}(h:zch xs ys) (k:zch xs zs):ys=zs :=
 (h.1.trans k.1.symm).eq_of_pairwise (λa b _ _ h1 h2=>Rat.le_antisymm h1 h2) h.2 k.2
def ZI (wv:Option Rat) (v:Rat):Rat:=match wv with
 | none=>v
 | some z=>2*z - v
def twR (w0 w1 s0 s1:Rat):Rat:=2*(w0*s0+w1*s1)/(w0+w1)
def v8 (ws:List Int) (vs:List Rat) (wv:Option Rat) (ss:List Rat):Prop :=
 (wv=none/\∃(w0 w1:Int) (s0 s1:Rat),ws=[w0,w1]/\vs=[s0,s1]/\ss=[twR w0 w1 s0 s1 - s0,twR w0 w1 s0 s1 - s1]) ∨
 (¬(wv=none/\ws.length=2)/\qp ws=true/\zch (vs.map (ZI wv)) ss)
theorem dq {a b:Int}(hb:b≠0):Rat.divInt a b=(a:Rat)/(b:Rat):=yz a b
theorem ic0 {a:Int}(h:a≠0):(a:Rat)≠0:=λz=>h (by exact_mod_cast z)
theorem zja {pb sb m:Int}{t l:Int×Int}(hm:m≠0):ptT (pb*m) (sb*m) t (scT m l)=ptT pb sb t l:=by
 unfold ptT scT
 have e:xl (l.1*m,l.2*m) t=xl l t*m:=by unfold xl;dsimp only;grind
 rw[e,show pb*m*t.2=pb*t.2*m by grind,Rat.divInt_mul_right hm,Rat.divInt_mul_right hm]
theorem ze0 {pb sb:Int}{t l w:Int×Int}(p0:pb*t.2≠0) (s0:sb≠0):ptT pb sb t (jy (some w) l)=(2*(ptT pb sb t w).1 - (ptT pb sb t l).1,2*(ptT pb sb t w).2 - (ptT pb sb t l).2):=by
 unfold ptT jy
 try dsimp only
 have e:xl (2*w.1 - l.1,2*w.2 - l.2) t=2*xl w t - xl l t:=by unfold xl;dsimp only;grind
 rw[e,dq p0,dq p0,dq p0,dq s0,dq s0,dq s0]
 have h1:=ic0 p0
 have h2:=ic0 s0
 push_cast
 exact W9 (by simp only;grind) (by simp only;grind)
theorem zgv {l r:Int}(hl:1<=l) (hr:1<=r):mP l r*dvP l r=l+r/\puP l r*dvP l r=2*r/\baP l r*dvP l r=2*l/\ahP l r*dvP l r=l - r:=by
 have dp:=KQ.XV hl hr
 have d1:dvP l r ∣ l+r:=yF ..
 have d2:dvP l r ∣ 2*l:=WJ ..
 have d3:dvP l r ∣ 2*r:=by have:=Int.dvd_sub (Int.dvd_mul_of_dvd_right (b:=2) d1) d2;rw[show 2*(l+r) - 2*l=2*r by omega]at this;exact this
 have d4:dvP l r ∣ l - r:=by have:=Int.dvd_sub d2 d1;rw[show 2*l - (l+r)=l - r by omega]at this;exact this
 have key:∀{x:Int},dvP l r ∣ x->x.fdiv (dvP l r)*dvP l r=x:=λ{x} h=>by
  rw[yd _ (by omega)];exact Wr h
 exact⟨key d1,key d3,key d2,key d4⟩
theorem zeO {l r pb sb:Int}{t x y:Int×Int}(hl:1<=l) (hr:1<=r) (p0:pb*t.2≠0) (s0:sb≠0) (ep:(ptT pb sb t x).1=(ptT pb sb t y).1) :
  ptT (pb*mP l r) (sb*mP l r) t (ahP l r*x.1+puP l r*y.1,ahP l r*x.2+puP l r*y.2)=((ptT pb sb t x).1,twR l r (ptT pb sb t x).2 (ptT pb sb t y).2 - (ptT pb sb t x).2) ∧
  ptT (pb*mP l r) (sb*mP l r) t (baP l r*x.1 - ahP l r*y.1,baP l r*x.2 - ahP l r*y.2)=((ptT pb sb t y).1,twR l r (ptT pb sb t x).2 (ptT pb sb t y).2 - (ptT pb sb t y).2):=by
 obtain⟨em,eu,eb,ea⟩:=zgv hl hr
 have dp:=KQ.XV hl hr
 have mp:=KQ.JR hl hr
 generalize mP l r=m at *
 generalize puP l r=u at *
 generalize baP l r=b at *
 generalize ahP l r=a at *
 generalize dvP l r=d at *
 have hm:(m:Rat)≠0:=ic0 (by omega)
 have hd:(d:Rat)≠0:=ic0 (by omega)
 have hP:=ic0 p0
 have hS:=ic0 s0
 have hlr:(l:Rat)+(r:Rat)≠0:=by have:=ic0 (a:=l+r) (by omega);push_cast at this;exact this
 have em':(m:Rat)*d=l+r:=by exact_mod_cast congrArg (λz:Int=>(z:Rat)) em
 have eu':(u:Rat)*d=2*r:=by exact_mod_cast congrArg (λz:Int=>(z:Rat)) eu
 have eb':(b:Rat)*d=2*l:=by exact_mod_cast congrArg (λz:Int=>(z:Rat)) eb
 have ea':(a:Rat)*d=l - r:=by exact_mod_cast congrArg (λz:Int=>(z:Rat)) ea
 have q0:pb*m*t.2≠0:=by rw[show pb*m*t.2=pb*t.2*m by grind];exact yc p0 (by omega)
 have q1:sb*m≠0:=yc s0 (by omega)
 unfold ptT at ep ⊢
 unfold twR
 dsimp only at ep ⊢
 rw[dq p0,dq p0]at ep
 rw[dq q0,dq q0,dq q1,dq q1,dq p0,dq p0,dq s0,dq s0]
 have e1:xl (a*x.1+u*y.1,a*x.2+u*y.2) t=a*xl x t+u*xl y t:=by unfold xl;dsimp only;grind
 have e2:xl (b*x.1 - a*y.1,b*x.2 - a*y.2) t=b*xl x t - a*xl y t:=by unfold xl;dsimp only;grind
 rw[e1,e2,show pb*m*t.2=pb*t.2*m by grind]
 generalize xl x t=X at *
 generalize xl y t=Y at *
 generalize pb*t.2=Pq at *
 push_cast
 have eX:(X:Rat)=Y:=by
  have:=congrArg (· * (Pq:Rat)) ep
  simp only[Rat.div_mul_cancel hP]at this
  exact this
 rw[eX]
 refine⟨W9 ?_ ?_,W9 ?_ ?_⟩ <;> dsimp only
 ·grind
 ·grind
 ·grind
 ·grind
theorem zaY {α:Type}:∀{T:List α}{a:Nat}{u v:α},a+1<T.length->(T.set a u).set (a+1) v=T.take a++[u,v]++T.drop (a+2)
 | x::y::T,0,u,v,_=>by simp
 | [x],0,u,v,h=>by simp at h
 | [],a,u,v,h=>by simp at h
 | x::T,a+1,u,v,h=>by
  have:=zaY (T:=T) (a:=a) (u:=u) (v:=v) (by simpa using h)
  simp only[List.set_cons_succ,uh,Wt,WV]
  rw[this]
theorem ZC {α:Type}(xs:List α) (a b:Nat):vA xs (some (a:Int)) (some ((b:Int)+1))=(xs.drop a).take (b+1 - a):=by
 unfold vA
 rw[show ((b:Int)+1)=((b+1:Nat):Int) by omega,HT.sIx_nat,HT.sIx_nat]
 by_cases h:b+1<=xs.length
 ·rw[show min (b+1) xs.length=b+1 by omega]
  by_cases h':a<=xs.length
  ·rw[show min a xs.length=a by omega]
  ·rw[uq (by omega),uq (by omega)];simp
 ·by_cases h':a<=xs.length
  ·rw[show min a xs.length=a by omega,show min (b+1) xs.length=xs.length by omega,wM (by rw[wW];omega),wM (by rw[wW];omega)]
  ·rw[uq (by omega),uq (by omega)];simp
theorem zgs {a b s:Int}(hs:0<s) (h:a<=b):Rat.divInt a s<=Rat.divInt b s:=by
 rw[dq (by omega),dq (by omega)]
 have h1:(a:Rat)<=(b:Rat):=by exact_mod_cast h
 have h2:(0:Rat)<(s:Rat):=by exact_mod_cast hs
 rw[Rat.div_def,Rat.div_def]
 exact We h1 (Rat.le_of_lt (Rat.inv_pos.mpr h2))
theorem zi0 {ws:List Int}{g:Nat×Nat×Str}{S S':SC}{t:Int×Int}{pl:Rat}(hw:∀x∈ws,1<=x/\x<=1000) (p0:0<S.pb) (s0:0<S.sb) (t0:0<t.2) (r:RbS ws g S S') (hab:g.1<=g.2.1) (hb:g.2.1<S.trs.length) (hwl:ws.length=S.trs.length)
  (hpl:∀l∈(S.trs.drop g.1).take (g.2.1+1 - g.1),(ptT S.pb S.sb t l).1=pl) (hwp:∀u,xm g.2.2 S.lo S.hi=some u->(ptT S.pb S.sb t u).1=pl) :
  0<S'.pb/\0<S'.sb/\S'.trs.length=S.trs.length/\S'.lo.map (ptT S'.pb S'.sb t)=S.lo.map (ptT S.pb S.sb t)/\S'.hi.map (ptT S'.pb S'.sb t)=S.hi.map (ptT S.pb S.sb t) ∧
  ∃ss,ss.length=g.2.1+1 - g.1/\v8 (xO ws g.1 g.2.1) (((S.trs.drop g.1).take (g.2.1+1 - g.1)).map λl=>(ptT S.pb S.sb t l).2) ((xm g.2.2 S.lo S.hi).map λl=>(ptT S.pb S.sb t l).2) ss ∧
   S'.trs.map (ptT S'.pb S'.sb t)=(S.trs.map (ptT S.pb S.sb t)).take g.1++ss.map (λv=>(pl,v))++(S.trs.map (ptT S.pb S.sb t)).drop (g.2.1+1):=by
 obtain⟨a,b,wh⟩:=g
 dsimp only at *
 have hsl:=KQ.Ji hab (show b<ws.length by omega)
 have q0:S.pb*t.2≠0:=yc (by omega) (by omega)
 have q1:S.sb≠0:=by omega
 rcases r with⟨hp,l,rr,x,y,el,er,ex,ey,e1,e2,e3,e4,e5⟩ | ⟨hp,hs,seg,pm,ps,e1,e2,e3,e4,e5⟩
 ·dsimp only at *
  unfold jc at hp
  rw[yM,wH,wH]at hp
  obtain⟨hn,h2⟩:=hp
  have hba:b=a+1:=by omega
  subst hba
  have wl:=hw l (wj el)
  have wr:=hw rr (wj er)
  have mp:=KQ.JR wl.1 wr.1
  have esc:∀u,ptT S'.pb S'.sb t (scT (mP l rr) u)=ptT S.pb S.sb t u:=λu=>by rw[e1,e2];exact zja (by omega)
  have hseg:(S.trs.drop a).take (a+1+1 - a)=[x,y]:=by
   obtain⟨ha,rfl⟩:=wk.mp ex
   obtain⟨ha1,rfl⟩:=wk.mp ey
   rw[show a+1+1 - a=2 by omega,ya ha,ya ha1];rfl
  have hws:xO ws a (a+1)=[l,rr]:=by
   unfold xO
   rw[ZC]
   obtain⟨ha,rfl⟩:=wk.mp el
   obtain⟨ha1,rfl⟩:=wk.mp er
   rw[show a+1+1 - a=2 by omega,ya ha,ya ha1];rfl
  have hx:=hpl x (by rw[hseg];simp)
  have hy:=hpl y (by rw[hseg];simp)
  obtain⟨g1,g2⟩:=zeO (l:=l) (r:=rr) wl.1 wr.1 q0 q1 (hx.trans hy.symm)
  refine⟨by rw[e1];exact WO p0 mp,by rw[e2];exact WO s0 mp,by rw[e3];unfold Zm;simp,?_,?_,[twR l rr (ptT S.pb S.sb t x).2 (ptT S.pb S.sb t y).2 - (ptT S.pb S.sb t x).2,twR l rr (ptT S.pb S.sb t x).2 (ptT S.pb S.sb t y).2 - (ptT S.pb S.sb t y).2],by show 2=_;omega,?_,?_⟩
  ·rw[e4,uH];congr 1;funext u;exact esc u
  ·rw[e5,uH];congr 1;funext u;exact esc u
  ·refine .inl ⟨by rw[hn];rfl,l,rr,(ptT S.pb S.sb t x).2,(ptT S.pb S.sb t y).2,hws,by rw[hseg];rfl,rfl⟩
  ·rw[e3];unfold Zm
   rw[W4,W4,wV]
   have em:S.trs.map (ptT S'.pb S'.sb t ∘ scT (mP l rr))=S.trs.map (ptT S.pb S.sb t):=uk λu _=>esc u
   rw[em,e1,e2,g1,g2,hx,hy,zaY (by rw[we];omega)]
   rfl
 ·dsimp only at *
  rw[ZC]at pm
  generalize hcut:(S.trs.drop a).take (b+1 - a)=cut at *
  have hcl:cut.length=b+1 - a:=by rw[<-hcut,w5,wW];omega
  have hr:∀u∈cut,(ptT S.pb S.sb t (jy (xm wh S.lo S.hi) u)).1=pl/\(ptT S.pb S.sb t (jy (xm wh S.lo S.hi) u)).2=ZI ((xm wh S.lo S.hi).map λl=>(ptT S.pb S.sb t l).2) (ptT S.pb S.sb t u).2:=λu mu=>by
   cases ew:xm wh S.lo S.hi with
   | none=>exact⟨hpl u mu,rfl⟩
   | some v =>
    rw[ze0 q0 q1]
    have h1:=hpl u mu
    have h2:=hwp v ew
    refine⟨?_,rfl⟩
    try dsimp only
    rw[h1,h2];grind
  have hsegp:∀u∈seg,(ptT S.pb S.sb t u).1=pl:=λu mu=>by
   obtain⟨v,mv,rfl⟩:=ww.mp (pm.mem_iff.mp mu)
   exact(hr v mv).1
  rw[e1,e2,e3,e4,e5]
  refine⟨p0,s0,?_,rfl,rfl,seg.map (λl=>(ptT S.pb S.sb t l).2),by rw[we,pm.length_eq,we,hcl],.inr ⟨?_,hs,?_,?_⟩,?_⟩
  ·rw[wE,wE,w5,wW,pm.length_eq,we,hcl];omega
  ·rintro ⟨z1,z2⟩
   unfold jc at hp
   have z3:xm wh S.lo S.hi=none:=by
    cases ew:xm wh S.lo S.hi with
    | none=>rfl
    | some v=>rw[ew]at z1;cases z1
   rw[z3,z2]at hp
   simp at hp
  ·have:=pm.map (λl=>(ptT S.pb S.sb t l).2)
   refine this.trans ?_
   rw[wV,wV]
   refine List.Perm.of_eq (uk λu mu=>?_)
   exact(hr u mu).2
  ·rw[yr]
   exact ps.imp λ{u v} h=>zgs s0 h
  ·rw[w8,w8,Wk,Wm,wV]
   congr 2
   exact uk λu mu=>W9 (hsegp u mu) rfl
abbrev AR:=Addr×Rat
def rfs (zs:List AR):List V:=zs.map λz=>V.ref z.1
def BbI (i:Nat) (zs:List AR):Prop:=∀a b x y,a<b->zs.length - i<=b->zs[a]? = some x->zs[b]? = some y->x.2<=y.2
def BbJ (i k:Nat) (zs:List AR):Prop:=∀a b x y,a<b->(b=k\/zs.length - i<=b\/(zs.length - 1 - i<=b/\b<=k))->zs[a]? = some x->zs[b]? = some y->x.2<=y.2
def swp (zs:List AR) (k:Nat) (u v:AR):List AR:=(zs.set k v).set (k+1) u
theorem zfs (zs:List AR) (k:Nat) (u v:AR):(swp zs k u v).length=zs.length:=by unfold swp;simp
theorem XF {zs:List AR}{k:Nat}{u v:AR}(eu:zs[k]? = some u) (ev:zs[k+1]? = some v) (j:Nat):(swp zs k u v)[j]? = if j=k then some v else if j=k+1 then some u else zs[j]?:=by
 have h1:=(wk.mp ev).1
 unfold swp
 rw[Wb,Wb,uT]
 by_cases e1:j=k
 ·rw[if_pos e1,if_neg (by omega),if_pos e1.symm,if_pos (by omega)]
 ·by_cases e2:j=k+1
  ·rw[if_pos e2.symm,if_pos (by omega),if_neg e1,if_pos e2]
  ·rw[if_neg (Ne.symm e2),if_neg (Ne.symm e1),if_neg e1,if_neg e2]
theorem zdK {zs:List AR}{k:Nat}{u v:AR}(eu:zs[k]? = some u) (ev:zs[k+1]? = some v):(swp zs k u v).Perm zs:=by
 obtain⟨h0,rfl⟩:=wk.mp eu
 obtain⟨h1,rfl⟩:=wk.mp ev
 exact List.set_set_perm h0 h1
theorem zft {zs:List AR}{k:Nat}{u v:AR}:rfs (swp zs k u v)=((rfs zs).set k (V.ref v.1)).set (k+1) (V.ref u.1):=by unfold rfs swp;rw[W4,W4]
theorem zd6 {i k:Nat}{zs:List AR}{u v:AR}(h:BbJ i k zs) (eu:zs[k]? = some u) (ev:zs[k+1]? = some v) (le:u.2<=v.2):BbJ i (k+1) zs:=by
 have key:∀a x,a<k+1->zs[a]? = some x->x.2<=v.2:=λa x ha ex=>by
  by_cases e:a=k
  ·subst e;rw[eu]at ex;cases ex;exact le
  ·exact Rat.le_trans (h a k x u (by omega) (.inl rfl) ex eu) le
 intro a b x y ab hb ex ey
 by_cases e:b=k+1
 ·subst e;rw[ev]at ey;cases ey;exact key a x ab ex
 ·exact h a b x y ab (by omega) ex ey
theorem zd7 {i k:Nat}{zs:List AR}{u v:AR}(h:BbJ i k zs) (eu:zs[k]? = some u) (ev:zs[k+1]? = some v) (lt:v.2<u.2):BbJ i (k+1) (swp zs k u v):=by
 have hk:k+1<zs.length - i:=by
  rcases uB (k+1) (zs.length - i)with z | z
  ·exact z
  ·have:=h k (k+1) u v (by omega) (.inr (.inl z)) eu ev;grind
 have key:∀a x,a<k+1->(swp zs k u v)[a]? = some x->x.2<=u.2:=λa x ha ex=>by
  rw[XF eu ev]at ex
  by_cases e:a=k
  ·rw[if_pos e]at ex;cases ex;grind
  ·rw[if_neg e,if_neg (by omega)]at ex
   exact h a k x u (by omega) (.inl rfl) ex eu
 intro a b x y ab hb ex ey
 rw[zfs]at hb
 by_cases e:b=k+1
 ·have ey':=ey
  rw[XF eu ev,if_neg (by omega),if_pos e]at ey'
  cases ey'
  exact key a x (by omega) ex
 ·have hb':zs.length - i<=b:=by omega
  rw[XF eu ev,if_neg (by omega),if_neg (by omega)]at ey
  rw[XF eu ev]at ex
  split at ex
  ·cases ex;exact h (k+1) b v y (by omega) (.inr (.inl hb')) ev ey
  ·split at ex
   ·cases ex;exact h k b u y (by omega) (.inr (.inl hb')) eu ey
   ·exact h a b x y ab (.inr (.inl hb')) ex ey
theorem zcm {i:Nat}{zs:List AR}(h:BbI i zs):BbJ i 0 zs:=λa b x y ab hb ex ey=>h a b x y ab (by omega) ex ey
theorem zgk {i:Nat}{zs:List AR}(h:BbJ i (zs.length - 1) zs):BbI (i+1) zs:=λa b x y ab hb ex ey=>by
 have:=(wk.mp ey).1
 exact h a b x y ab (by omega) ex ey
theorem zd8 (zs:List AR):BbI 0 zs:=λa b x y ab hb ex ey=>by
 have:=(wk.mp ey).1
 omega
theorem zbp {zs:List AR}(h:BbI zs.length zs):zs.Pairwise (λx y=>x.2<=y.2) :=
 uI.mpr λi j hi hj ij=>h i j _ _ ij (by omega) (wf hi) (wf hj)
section
variable {P:Program}{w:World}{K:Fg}{mg:Str->Option Value}{base:Heap}
inductive zdF  (vs:List V) (H:Hp) (Q:VK) (_e3:XK):Prop
 | mk:∀a zs,(vs=[.ref a])->(H a=some (.lst (rfs zs)))->((∀z∈zs,zD H z.1 z.2/\Sz 4000 z.2))->(zs.length<=8)->(∀l zs' H',zi H H'->H' l=some (.lst (rfs zs'))->zs'.Perm zs->zs'.Pairwise (λx y=>x.2<=y.2)->Q (.ref l) H')->zdF vs H Q _e3
theorem jB:zF ["ratios","found","turn","k"] ["ratios"] (zr vJ):=scq
theorem zg5 (D:Df K mg "_law_sorted" vJ ["ratios"] []) (T:TxQ K mg) (cBl:Cal P w K mg base "_law_below" 1 ["a","b"] [] Qo):Cal P w K mg base "_law_sorted" 2 ["ratios"] [] zdF:=by
 refine D.calB (k:=1) jB (λvs H Q E h=>by obtain⟨_,_,rfl,_⟩:=h;rfl) (λf cdv A outer s H vs Q E hr h=>?_)
 obtain⟨a,zs,rfl,ha,hz,h8,k⟩:=h
 have hr1:xn 1 _:=hr
 refine⟨_,(zC (Bx.mk (zQ (i:=1) jB.nd rfl (Or.inl rfl) (xP qO (by rfl) T.nList yV (zd (pv 0) zf))))
  (zC (Bx.mk (qJ PassesOwn.never rfl (jd rfl T.nRange (zd (zX xc (by rfl) T.nLen PySem.boot_len (zd (pv 1) zf)) zf)) (zK (i:=2) jB.nd rfl (Or.inl rfl)) (zh (qJ PassesOwn.never rfl (jd rfl T.nRange (zd (zB xZ (zX xc (by rfl) T.nLen PySem.boot_len (zd (pv 1) zf)) ze) zf)) (zK (i:=3) jB.nd rfl (Or.inl rfl)) (zh (xh (xz (zP cBl hr1 (zd (zk xf (pv 1) (zB zZ (pv 3) ze) (λ_ _=>rfl)) (zd (zk xf (pv 1) (pv 3) (λ_ _=>rfl)) zf))) λ_=>rfl) (zh (qg (xj (zd (zk xf (pv 1) (zB zZ (pv 3) ze) (λ_ _=>rfl)) (zd (zk xf (pv 1) (pv 3) (λ_ _=>rfl)) zf))) (qv rfl (zS (jP (pv 1) (pv 3) vp) (zS (jP (pv 1) (zB zZ (pv 3) ze) vp) xD))))) zT))))))
  (Bx.mk (zh (zL (pv 1)))))),?_⟩
 refine⟨_,rfl,a,_,rfl,.inl (.of ha),λl hl=>?_⟩
 have S1:=zi.upd (o:=.lst (rfs zs)) hl
 have hl1:upd H l (.lst (rfs zs)) l=some (.lst (rfs zs)):=zg
 generalize upd H l (.lst (rfs zs))=G1 at S1 hl1
 dsimp only[zO]
 refine zaa ?_
 have hzl:(rfs zs).length=zs.length:=by unfold rfs;rw[we]
 refine⟨_,rfl,l,_,rfl,.inl (.of hl1),_,rfl,by omega,by omega,?_⟩
 have aR:∀{ys:List AR}{j:Nat}{z:AR},ys[j]? = some z->atI (rfs ys) (j:Int)=some (V.ref z.1):=λ{ys j z} e=>xF (by unfold rfs;rw[wg,e];rfl)
 have lR:∀ys:List AR,(rfs ys).length=ys.length:=λys=>by unfold rfs;rw[we]
 refine vL (n:=((rfs zs).length:Int).toNat) (lo:=0) (λi σ G=>∃z2 z3 ys,σ=[some (.ref a),some (.ref l),z2,z3]/\zi H G/\G l=some (.lst (rfs ys))/\ys.Perm zs/\BbI i ys) ⟨_,_,zs,rfl,S1,hl1,.refl _,zd8 _⟩ ?_ ?_
 ·rintro i σ G hi ⟨z2,z3,ys,rfl,SG,hlG,pG,bG⟩
  have hyl:ys.length=zs.length:=pG.length_eq
  refine⟨_,rfl,l,_,rfl,.inl (.of hlG),_,_,rfl,rfl,_,rfl,by have:=lR ys;omega,by have:=lR ys;omega,?_⟩
  refine vL (n:=(((rfs ys).length:Int) - 1).toNat) (lo:=0) (λj σ G'=>∃z3 xs,σ=[some (.ref a),some (.ref l),some (.int (0+(i:Int))),z3]/\zi H G'/\G' l=some (.lst (rfs xs))/\xs.Perm zs/\BbJ i j xs) ⟨_,ys,rfl,SG,hlG,pG,zcm bG⟩ ?_ ?_
  ·rintro j σ G2 hj ⟨y3,xs,rfl,S2,hl2,p2,b2⟩
   have hxl:xs.length=zs.length:=p2.length_eq
   have hj':j+1<xs.length:=by have:=lR ys;omega
   obtain⟨u,eu⟩:∃u,xs[j]? = some u:=⟨_,wf (by omega)⟩
   obtain⟨v,ev⟩:∃v,xs[j+1]? = some v:=⟨_,wf hj'⟩
   have hu:=hz u (p2.mem_iff.mp (wj eu))
   have hv:=hz v (p2.mem_iff.mp (wj ev))
   have a0:atI (rfs xs) (0+(j:Int))=some (V.ref u.1):=by rw[Int.zero_add];exact aR eu
   have a1:atI (rfs xs) (0+(j:Int)+1)=some (V.ref v.1):=by rw[show 0+(j:Int)+1=((j+1:Nat):Int) by omega];exact aR ev
   have i0:ixN (rfs xs).length (0+(j:Int))=some j:=by rw[Int.zero_add];exact KQ.XZ (by have:=lR xs;omega)
   have i1:ixN (rfs xs).length (0+(j:Int)+1)=some (j+1):=by rw[show 0+(j:Int)+1=((j+1:Nat):Int) by omega];exact KQ.XZ (by have:=lR xs;omega)
   dsimp only[zO]
   refine⟨_,rfl,_,rfl,_,_,rfl,rfl,l,_,_,_,rfl,rfl,.of hl2,a1,_,rfl,_,rfl,l,_,_,_,rfl,rfl,.of hl2,a0,v.1,u.1,v.2,u.2,rfl,S2 _ _ hv.1,S2 _ _ hu.1,⟨hv.2,hu.2⟩,_,rfl,qr (λhc=>?_) (λhc=>?_)⟩
   ·have lt:v.2<u.2:=wD hc
    refine⟨_,rfl,_,rfl,_,_,rfl,rfl,l,_,_,_,rfl,rfl,.of hl2,a1,_,rfl,_,rfl,l,_,_,_,rfl,rfl,.of hl2,a0,zL2,λtp htp=>?_⟩
    have s3:=zi.upd (o:=.tup [V.ref v.1,V.ref u.1]) htp
    have ht3:upd G2 tp (.tup [V.ref v.1,V.ref u.1]) tp=some (.tup [V.ref v.1,V.ref u.1]):=zg
    generalize upd G2 tp (.tup [V.ref v.1,V.ref u.1])=G3 at s3 ht3 ⊢
    have hl3:=s3 _ _ hl2
    refine⟨tp,_,rfl,.of ht3,rfl,_,_,rfl,?_⟩
    refine⟨_,rfl,_,rfl,l,_,_,j,rfl,rfl,hl3,i0,?_⟩
    refine⟨_,_,rfl,_,rfl,_,rfl,_,_,rfl,rfl,l,_,_,j+1,rfl,rfl,zg,by rw[uT];exact i1,?_⟩
    refine⟨rfl,_,swp xs j u v,rfl,λb o e=>?_,?_,(zdK eu ev).trans p2,zd7 b2 eu ev lt⟩
    ·have nb:b≠l:=zG e hl
     rw[zE nb,zE nb];exact s3 _ _ (S2 _ _ e)
    ·rw[zg,zft]
   ·have le:u.2<=v.2:=by have:¬v.2<u.2:=λz=>hc (wq z);grind
    exact⟨_,xs,rfl,S2,hl2,p2,zd6 b2 eu ev le⟩
  ·rintro σ G2 ⟨y3,xs,rfl,S2,hl2,p2,b2⟩
   have hxl:xs.length=zs.length:=p2.length_eq
   rw[show (((rfs ys).length:Int) - 1).toNat=xs.length - 1 by have:=lR ys;omega]at b2
   exact⟨_,_,xs,rfl,S2,hl2,p2,zgk b2⟩
 ·rintro σ G ⟨z2,z3,ys,rfl,SG,hlG,pG,bG⟩
  rw[show ((rfs zs).length:Int).toNat=ys.length by have:=pG.length_eq;omega]at bG
  exact⟨_,rfl,k l ys G SG hlG pG (zbp bG)⟩
def Ja (wl:Wl) (ws:List Int):Bool:=decide (wl=none)&&decide (ws.length=2)
def JA (H:Hp) (zs:List AR):Prop:=∀z∈zs,zD H z.1 z.2
theorem zbi {H:Hp}:∀{ys:List V}{qs:List Rat},ys.length=qs.length->(∀(i:Nat) (v:V),ys[i]? = some v->∃(p:Addr) (q:Rat),qs[i]? = some q/\v=V.ref p/\zD H p q)->∃zs:List AR,ys=rfs zs/\zs.map Prod.snd=qs/\JA H zs
 | [],[],_,_=>⟨[],rfl,rfl,λ_ m=>by cases m⟩
 | [],_::_,h,_=>by simp at h
 | _::_,[],h,_=>by simp at h
 | y::ys,q::qs,h,k=>by
  obtain⟨p,q',e,rfl,hp⟩:=k 0 y rfl
  cases e
  obtain⟨zs,e1,e2,e3⟩:=zbi (H:=H) (ys:=ys) (qs:=qs) (by simpa using h) λi v e=>k (i+1) v (by simpa using e)
  refine⟨(p,q)::zs,by rw[e1];rfl,by rw[ye,e2],λz m=>?_⟩
  rcases wy.mp m with rfl | m
  ·exact hp
  ·exact e3 z m
theorem JA.same {H H':Hp}{zs:List AR}(h:JA H zs) (s:zi H H'):JA H' zs:=λz m=>s _ _ (h z m)
theorem Xh {H:Hp}{p:Addr}{n:Int}(h:H p=some (.tup [.int n,.int 1])):zD H p (n:Rat):=h
theorem jU {n:Nat}{i:Int}(h0:0<=i) (h1:i<2^n) (hn:1<=n):Sz n (i:Rat):=⟨bdn h0 h1,by show (1:Int).natAbs<2^n;exact Nat.one_lt_two_pow (by omega)⟩
theorem zdT {α:Type}{l:List α}(h:l.length=2):∃a b,l=[a,b]:=match l,h with | [a,b],_=>⟨a,b,rfl⟩
inductive zhv  (vs:List V) (H:Hp) (Q:VK) (_e3:XK):Prop
 | mk:∀r vw us bs wl,(vs=[.ref r,vw])->(H r=some (.tup us))->(zH H us bs)->(zV H vw wl)->(1<=bs.length)->(bs.length<=8)->((∀b∈bs,Sz 80 b.sp/\1<=b.wt/\b.wt<=1010))->((∀x y,wl=some (x,y)->Sz 80 y))->((Ja wl (bs.map zJ.wt)=false->qp (bs.map zJ.wt)=false->∀H',zi H H'->Q .non H'))->((∀l zs H',zi H H'->H' l=some (.lst (rfs zs))->JA H' zs->zs.length=bs.length->v8 (bs.map zJ.wt) (bs.map zJ.sp) (wl.map Prod.snd) (zs.map Prod.snd)->Q (.ref l) H'))->zhv vs H Q _e3
theorem QR:zF ["balls","wall","speeds","weights","push","twice"] ["balls","wall"] (zr vX):=scq
theorem ziu (D:Df K mg "_law_dealt" vX ["balls","wall"] []) (T:TxQ K mg) (cA:Cal P w K mg base "_law_add" 2 ["a","b"] [] (qB Sz2 (· + ·))) (cO:Cal P w K mg base "_law_off" 2 ["a","b"] [] (qB Sz2 (· - ·))) (cBy:Cal P w K mg base "_law_by" 2 ["a","b"] [] (qB Sz2 (· * ·))) (cPt:Cal P w K mg base "_law_part" 2 ["a","b"] [] (qB (λx y=>Sz2 x y/\y≠0) (· / ·)))
  (cSr:Cal P w K mg base "_law_sorted" 2 ["ratios"] [] zdF):Cal P w K mg base "_law_dealt" 3 ["balls","wall"] [] zhv:=by
 refine D.calB (k:=2) QR (λvs H Q E h=>by obtain⟨_,_,_,_,_,rfl,_⟩:=h;rfl) (λf cdv A outer s H vs Q E hr h=>?_)
 obtain⟨r,vw,us,bs,wl,rfl,hrr,hB,hvw,n1,h8,hz,hzw,kN,kL⟩:=h
 have hu:=hr.units
 refine⟨_,(zC (Bx.mk (vd (i:=2) (NB:=["ball"]) (FR:=[]) (js:=[]) rfl rfl (λ_ _ h=>by cases h) .nil rfl (by decide +kernel) rfl (by decide +kernel) QR.nd rfl rfl (by rfl) (Zs (pv 0)) (by intro _ _ _;refine⟨?_,?_,?_⟩;(exact(zK (i:=0) (show List.Nodup (["ball"]:List Str) by decide +kernel) rfl (Or.inl rfl)));(exact xI);(exact(zk (qy (K:=K) rfl) (pv 0) ze (λ_ _=>rfl))))))
  (zC (Bx.mk (vd (i:=3) (NB:=["ball"]) (FR:=[]) (js:=[]) rfl rfl (λ_ _ h=>by cases h) .nil rfl (by decide +kernel) rfl (by decide +kernel) QR.nd rfl rfl (by rfl) (Zs (pv 0)) (by intro _ _ _;refine⟨?_,?_,?_⟩;(exact(zK (i:=0) (show List.Nodup (["ball"]:List Str) by decide +kernel) rfl (Or.inl rfl)));(exact xI);(exact(zk (qy (K:=K) rfl) (pv 0) ze (λ_ _=>rfl))))))
  (zC (Bx.mk (xh (qC (zI xW (pv 1) zW (zM _)) (qm (zI qL (zX xc (by rfl) T.nLen PySem.boot_len (zd (pv 0) zf)) ze (zM _)))).pt (zA (zQ (i:=4) QR.nd rfl (Or.inl rfl) (zP cA hr (zd (zP cBy hr (zd (xj (zd (zk xf (pv 3) ze (λ_ _=>rfl)) (zd ze zf))) (zd (zk xf (pv 2) ze (λ_ _=>rfl)) zf))) (zd (zP cBy hr (zd (xj (zd (zk xf (pv 3) ze (λ_ _=>rfl)) (zd ze zf))) (zd (zk xf (pv 2) ze (λ_ _=>rfl)) zf))) zf)))) (zA (zQ (i:=5) QR.nd rfl (Or.inr rfl) (zP cPt hr (zd (zP cBy hr (zd (xj (zd ze (zd ze zf))) (zd (pv 4) zf))) (zd (xj (zd (zX (zbt rfl) (by rfl) T.nSum PyProof.Rows.boot_sum (zd (pv 3) zf)) (zd ze zf))) zf)))) (zh (zL (jO (NB:=["speed"]) (FR:=["twice"]) (js:=[5]) rfl rfl zcu (.cons rfl rfl rfl ⟨_,rfl⟩ .nil) rfl (by decide +kernel) rfl (by decide +kernel) (xN (pv 2)) (by intro _ _ _;refine⟨?_,?_,?_⟩;(exact(zK (i:=0) (show List.Nodup (["speed","twice"]:List Str) by decide +kernel) rfl (Or.inl rfl)));(exact xI);(exact(zP cO hr (zd (pv 1) (zd (pv 0) zf)))))))))) zT))
  (zC (Bx.mk (xh (zI (JZ hu) (pv 3) (zB zc5 (x5 (zd (zk xf (pv 3) ze (λ_ _=>rfl)) zf)) (zX xc (by rfl) T.nLen PySem.boot_len (zd (pv 3) zf))) (zM _)) (zh (zL zW)) zT))
  (zC (Bx.mk (xh (zI qz (pv 1) zW (zM _)) (zh (vd (i:=2) (NB:=["speed"]) (FR:=["wall"]) (js:=[1]) rfl rfl (zcv (a:="twice") (b:="wall") (by decide)) (.cons rfl rfl rfl ⟨_,rfl⟩ .nil) rfl (by decide +kernel) rfl (by decide +kernel) QR.nd rfl rfl (by rfl) (xN (pv 2)) (by intro _ _ _;refine⟨?_,?_,?_⟩;(exact(zK (i:=0) (show List.Nodup (["speed","wall"]:List Str) by decide +kernel) rfl (Or.inl rfl)));(exact xI);(exact(zP cO hr (zd (zP cA hr (zd (zk (qy (K:=K) rfl) (pv 1) ze (λ_ _=>rfl)) (zd (zk (qy (K:=K) rfl) (pv 1) ze (λ_ _=>rfl)) zf))) (zd (pv 0) zf))))))) zT))
  (Bx.mk (zh (zL (zP cSr hr (zd (pv 2) zf)))))))))),?_⟩
 have hbl:=hB.length
 refine⟨_,rfl,r,rfl,⟨_,SqT.of hrr⟩,λD1 hD1=>?_⟩
 refine xK (js:=[]) (J:=Itt K r) (n:=1) (g:=zO 0) (te:=_) (xs:=us) (λi v G=>∃(b:zJ) (p:Addr),bs[i]? = some b/\v = .ref p/\zD G p b.sp) (λ_ _ _ _ e ⟨b,p,h1,h2,h3⟩=>⟨b,p,h1,h2,e _ _ h3⟩) hD1 (jR hrr) (xk (by omega)) ?_ ?_
 ·intro i x zs H7 Q' hx hz7 s7 hk
  obtain⟨ab,pb,qb,b,eb,rfl,g1,g2,g3⟩:=(hB.same s7).get hx
  obtain⟨z1,rfl⟩:=jK hz7
  dsimp only[zO]
  exact⟨rfl,_,rfl,ab,_,_,_,rfl,rfl,.of g1,rfl,hk _ _ (zi.refl _) ⟨b,qb,eb,rfl,g3⟩⟩
 intro y1 G1 s1 hy1 hyl1 hyR1
 obtain⟨zs,rfl,ezs,hzs⟩:=zbi (H:=G1) (ys:=y1) (qs:=bs.map zJ.sp) (by rw[we];omega) λi v e=>by
  obtain⟨b,p,e1,e2,e3⟩:=hyR1 i v e
  exact⟨p,b.sp,by rw[wg,e1];rfl,e2,e3⟩
 dsimp only[zO]
 have hrr1:=s1 _ _ hrr
 have hB1:=hB.same s1
 refine⟨_,rfl,r,rfl,⟨_,SqT.of hrr1⟩,λD2 hD2=>?_⟩
 refine xK (js:=[]) (J:=Itt K r) (n:=1) (g:=zO 0) (te:=_) (xs:=us) (λi v _=>∃b:zJ,bs[i]? = some b/\v = .int b.wt) (λ_ _ _ _ _ z=>z) hD2 (jR hrr1) (xk (by omega)) ?_ ?_
 ·intro i x zs H7 Q' hx hz7 s7 hk
  obtain⟨ab,pb,qb,b,eb,rfl,g1,g2,g3⟩:=(hB1.same s7).get hx
  obtain⟨z1,rfl⟩:=jK hz7
  dsimp only[zO]
  exact⟨rfl,_,rfl,ab,_,_,_,rfl,rfl,.of g1,rfl,hk _ _ (zi.refl _) ⟨b,eb,rfl⟩⟩
 intro y2 G2 s2 hy2 hyl2 hyR2
 have e2:y2=(bs.map zJ.wt).map V.int:=by
  refine uE λj=>?_
  rw[wV,wg]
  cases ey:y2[j]? with
  | none =>
   have:y2.length<=j:=WF.mp ey
   rw[wY (by omega)];rfl
  | some v=>obtain⟨b,e1,e2⟩:=hyR2 j v ey;rw[e1,e2];rfl
 subst e2
 obtain⟨W,eW⟩:∃W,W=bs.map zJ.wt:=⟨_,rfl⟩
 rw[<-eW]at hy2
 have hWl:W.length=bs.length:=by rw[eW,we]
 have hwW:∀x∈W,1<=x/\x<=1010:=λx m=>by rw[eW]at m;obtain⟨b,mb,rfl⟩:=ww.mp m;exact(hz b mb).2
 have S2:=s1.trans s2
 have hzs2:=hzs.same s2
 have hy12:=s2 _ _ hy1
 have hzl:zs.length=bs.length:=by have:=congrArg List.length ezs;simpa using this
 have hzz:∀z∈zs,Sz 80 z.2:=λz m=>by
  have:z.2∈bs.map zJ.sp:=by rw[<-ezs];exact ww.mpr ⟨z,m,rfl⟩
  obtain⟨b,mb,e⟩:=ww.mp this
  rw[<-e];exact(hz b mb).1
 have hvw2:=hvw.tups (zY.of S2)
 clear hyl2 hyR2 hyR1 hyl1
 dsimp only[zO]
 rw[<-eW]at kN kL
 rw[<-ezs]at kL
 refine xE (λσ' G=>σ'=[some (.ref r),some vw,some (.ref D1),some (.ref D2),none,none]/\zi G2 G/\Ja wl W=false) ?_ ?_
 rotate_left
 ·intro nx hnx
  cases wl with
  | some u =>
   obtain⟨x,y⟩:=u
   obtain⟨aw,pw,qw,rfl,g1,g2,g3⟩:=hvw2
   refine⟨_,rfl,rfl,_,rfl,xo (hnx _ _ ⟨rfl,zi.refl _,rfl⟩)⟩
  | none =>
   obtain rfl:vw = .non:=hvw2
   refine⟨_,rfl,rfl,_,rfl,xw ?_⟩
   refine⟨_,rfl,r,_,rfl,.inr (.of (S2 _ _ hrr)),rfl,_,rfl,?_⟩
   refine qr (λhc=>?_) (λhc=>hnx _ _ ⟨rfl,zi.refl _,?_⟩)
   ·have h2:bs.length=2:=by have:=wD hc;injection this with this;omega
    obtain⟨w0,w1,eW2⟩:=zdT (hWl.trans h2)
    obtain⟨z0,z1,ez2⟩:=zdT (hzl.trans h2)
    subst ez2
    subst eW2
    have b0:=hwW w0 (by simp)
    have b1:=hwW w1 (by simp)
    have q0:=hzs2 z0 (by simp)
    have q1:=hzs2 z1 (by simp)
    have y0:=hzz z0 (by simp)
    have y1:=hzz z1 (by simp)
    have sw0:Sz 11 (w0:Rat):=jU (by omega) (by omega) (by decide)
    have sw1:Sz 11 (w1:Rat):=jU (by omega) (by omega) (by decide)
    refine⟨_,rfl,D2,_,_,_,rfl,rfl,.of hy2,rfl,zL2,λt1 ht1=>?_⟩
    have s3:=zi.upd (o:=.tup [V.int w0,.int 1]) ht1
    have hr3:zD (upd G2 t1 (.tup [V.int w0,.int 1])) t1 (w0:Rat):=Xh zg
    generalize upd G2 t1 (.tup [V.int w0,.int 1])=G3 at s3 hr3 ⊢
    refine⟨_,rfl,D1,_,_,_,rfl,rfl,.of (s3 _ _ hy12),rfl,t1,z0.1,_,_,rfl,hr3,s3 _ _ q0,⟨sw0.mono (by decide),y0.mono (by decide)⟩,λr1 G4 e4 h4=>?_⟩
    have S4:=s3.trans e4
    refine⟨_,rfl,D2,_,_,_,rfl,rfl,.of (S4 _ _ hy2),rfl,zL2,λt2 ht2=>?_⟩
    have s5:=zi.upd (o:=.tup [V.int w1,.int 1]) ht2
    have hr5:zD (upd G4 t2 (.tup [V.int w1,.int 1])) t2 (w1:Rat):=Xh zg
    generalize upd G4 t2 (.tup [V.int w1,.int 1])=G5 at s5 hr5 ⊢
    have S5:=S4.trans s5
    refine⟨_,rfl,D1,_,_,_,rfl,rfl,.of (S5 _ _ hy12),rfl,t2,z1.1,_,_,rfl,hr5,S5 _ _ q1,⟨sw1.mono (by decide),y1.mono (by decide)⟩,λr2 G6 e6 h6=>?_⟩
    have sp0:=sw0.mul y0
    have sp1:=sw1.mul y1
    refine⟨r1,r2,_,_,rfl,e6 _ _ (s5 _ _ h4),h6,⟨sp0.mono (by decide),sp1.mono (by decide)⟩,λr3 G7 e7 h7=>?_⟩
    have S7:=S5.trans (e6.trans e7)
    have spu:=sp0.add sp1
    dsimp only[zO]
    refine⟨zL2,λt3 ht3=>?_⟩
    have s8:=zi.upd (o:=.tup [V.int 2,.int 1]) ht3
    have hr8:zD (upd G7 t3 (.tup [V.int 2,.int 1])) t3 ((2:Int):Rat):=Xh zg
    generalize upd G7 t3 (.tup [V.int 2,.int 1])=G8 at s8 hr8 ⊢
    have sz2:Sz 2 ((2:Int):Rat):=jU (by decide) (by decide) (by decide)
    refine⟨_,rfl,t3,r3,_,_,rfl,hr8,s8 _ _ h7,⟨sz2.mono (by decide),spu.mono (by decide)⟩,λr4 G9 e9 h9=>?_⟩
    have S9:=S7.trans (s8.trans e9)
    refine⟨_,rfl,D2,[w0,w1],rfl,.of (S9 _ _ hy2),zL2,λt4 ht4=>?_⟩
    have s10:=zi.upd (o:=.tup [V.int ([w0,w1]:List Int).sum,.int 1]) ht4
    have hr10:zD (upd G9 t4 (.tup [V.int ([w0,w1]:List Int).sum,.int 1])) t4 ((([w0,w1]:List Int).sum:Int):Rat):=Xh zg
    have esum:([w0,w1]:List Int).sum=w0+w1:=by simp
    rw[esum]at s10 hr10
    rw[esum]
    generalize upd G9 t4 (.tup [V.int (w0+w1),.int 1])=G10 at s10 hr10 ⊢
    have szs:Sz 12 ((w0+w1:Int):Rat):=jU (by omega) (by omega) (by decide)
    have szp:=sz2.mul spu
    have ne0:((w0+w1:Int):Rat)≠0:=ic0 (by omega)
    refine⟨r4,t4,_,_,rfl,s10 _ _ h9,hr10,⟨⟨szp.mono (by decide),szs.mono (by decide)⟩,ne0⟩,λr5 G11 e11 h11=>?_⟩
    have etw:((2:Int):Rat)*((w0:Rat)*z0.2+(w1:Rat)*z1.2)/((w0+w1:Int):Rat)=twR w0 w1 z0.2 z1.2:=by
     unfold twR;push_cast;rfl
    have h11:zD G11 r5 (twR w0 w1 z0.2 z1.2):=by rw[<-etw];exact h11
    have sztw:Sz 300 (twR w0 w1 z0.2 z1.2):=by rw[<-etw];exact(szp.div szs ne0).mono (by decide)
    have S11:=S9.trans (s10.trans e11)
    dsimp only[zO]
    refine⟨_,rfl,D1,rfl,⟨_,.of (S11 _ _ hy12)⟩,λD3 hD3=>?_⟩
    refine xK (js:=[5]) (J:=Itl K D1) (g:=zO 0) (te:=_) (n:=1) (xs:=rfs [z0,z1]) (λi v G=>∃(p:Addr) (q:Rat),([twR w0 w1 z0.2 z1.2 - z0.2,twR w0 w1 z0.2 z1.2 - z1.2]:List Rat)[i]? = some q/\v = .ref p/\zD G p q) (λi v G G' e ⟨r,q,a,b,c⟩=>⟨r,q,a,b,e _ _ c⟩) hD3 (xQ (S11 _ _ hy12)) (xk (by show 2<=1000;decide)) ?_ ?_
    ·intro i x zz G12 Q' hx hz12 S12 hQ
     obtain⟨y1',rfl⟩:=jK hz12
     obtain⟨z,rfl,hz,hs,hi⟩:∃z:AR,x = .ref z.1/\zD G2 z.1 z.2/\Sz 80 z.2/\([twR w0 w1 z0.2 z1.2 - z0.2,twR w0 w1 z0.2 z1.2 - z1.2]:List Rat)[i]? = some (twR w0 w1 z0.2 z1.2 - z.2):=by
      match i,hx with
      | 0,hx=>cases hx;exact⟨z0,rfl,q0,y0,rfl⟩
      | 1,hx=>cases hx;exact⟨z1,rfl,q1,y1,rfl⟩
      | i+2,hx=>simp[rfs]at hx
     exact⟨rfl,_,rfl,_,rfl,r5,z.1,_,_,rfl,S12 _ _ h11,S12 _ _ (S11 _ _ hz),⟨sztw.mono (by decide),hs.mono (by decide)⟩,λr9 G9 e9 hr9=>hQ _ _ e9 ⟨r9,_,hi,rfl,hr9⟩⟩
    ·intro ys G12 S12 hD12 hl12 hR12
     obtain⟨zs',rfl,ez',hz'⟩:=zbi (H:=G12) (ys:=ys) (qs:=[twR w0 w1 z0.2 z1.2 - z0.2,twR w0 w1 z0.2 z1.2 - z1.2]) (by rw[hl12];rfl) hR12
     refine kL D3 zs' G12 (S2.trans (S11.trans S12)) hD12 hz' ?_ (.inl ⟨rfl,w0,w1,z0.2,z1.2,rfl,rfl,ez'⟩)
     have:=congrArg List.length ez'
     simp at this;omega
   ·unfold Ja
    have:¬W.length=2:=λz=>hc (wq (by rw[show us.length=2 by omega];rfl))
    simp[this]
 rintro σ' G3 ⟨rfl,s3,hnp⟩
 have S3:=S2.trans s3
 have hy13:=s3 _ _ hy12
 have hy23:=s3 _ _ hy2
 have hzs3:=hzs2.same s3
 refine xE (λσ' G=>σ'=[some (.ref r),some vw,some (.ref D1),some (.ref D2),none,none]/\zi G3 G/\qp W=true) ?_ ?_
 rotate_left
 ·intro nx hnx
  have e0:atI (W.map V.int) 0=some (.int (W.headD 0)):=KQ.Jj (by omega)
  refine⟨_,rfl,_,rfl,D2,_,_,_,rfl,rfl,.of hy23,e0,zL1,λl2 hl2=>?_⟩
  have s6:=zi.upd (o:=.lst [.int (W.headD 0)]) hl2
  refine⟨_,rfl,D2,_,rfl,.inl (.of (s6 _ _ hy23)),l2,_,_,rfl,rfl,zg,by (first | (simp;omega) | simp),by (first | (simp;omega) | simp),szl (by (first | (simp;omega) | simp)),λl3 hl3=>?_⟩
  have s7:=zi.upd (o:=.lst ((List.replicate ((W.map V.int).length:Int).toNat [V.int (W.headD 0)]).flatten)) hl3
  have er:(List.replicate ((W.map V.int).length:Int).toNat [V.int (W.headD 0)]).flatten=(List.replicate W.length (W.headD 0)).map V.int:=by
   rw[we,yq,Vl,List.map_replicate]
  refine⟨wtD W,wtD (List.replicate W.length (W.headD 0)),.lst (s7 _ _ (s6 _ _ hy23)) (J3 _),.lst (by rw[zg,er]) (J3 _),(zcT _).shaped (by decide),(zcT _).shaped (by decide),_,rfl,?_⟩
  rw[zgw,zdm (by omega)]
  cases hs:qp W with
  | true=>exact xo (hnx _ _ ⟨rfl,s6.trans s7,hs⟩)
  | false=>exact xw (kN hnp hs _ (S3.trans (s6.trans s7)))
 rintro σ' G4 ⟨rfl,s4,hsm⟩
 have S4:=S3.trans s4
 have hy14:=s4 _ _ hy13
 have hzs4:=hzs3.same s4
 have hnp':¬((wl.map Prod.snd)=none/\W.length=2):=λ⟨z1,z2⟩=>by
  unfold Ja at hnp
  have:wl=none:=by cases wl with
   | none=>rfl
   | some u=>cases z1
  rw[this,z2]at hnp;simp at hnp
 refine xE (λσ' G=>∃(l:Addr) (ys:List AR),σ'=[some (.ref r),some vw,some (.ref l),some (.ref D2),none,none]/\zi G4 G/\G l=some (.lst (rfs ys))/\(∀z∈ys,zD G z.1 z.2/\Sz 4000 z.2)/\ys.map Prod.snd=(zs.map Prod.snd).map (ZI (wl.map Prod.snd))) ?_ ?_
 rotate_left
 ·intro nx hnx
  cases wl with
  | none =>
   obtain rfl:vw = .non:=hvw2
   refine⟨_,rfl,rfl,_,rfl,xo (hnx _ _ ⟨D1,zs,rfl,zi.refl _,hy14,λz m=>⟨hzs4 z m,(hzz z m).mono (by decide)⟩,?_⟩)⟩
   show _=(zs.map Prod.snd).map (λv=>v)
   rw[List.map_id']
  | some u =>
   obtain⟨x,y⟩:=u
   obtain⟨aw,pw,qw,rfl,g1,g2,g3⟩:=hvw2
   have zy:=hzw x y rfl
   refine⟨_,rfl,rfl,_,rfl,xw ?_⟩
   refine⟨_,rfl,D1,rfl,⟨_,.of hy14⟩,λD3 hD3=>?_⟩
   refine xK (js:=[1]) (J:=Itl K D1) (g:=zO 0) (te:=_) (n:=1) (xs:=rfs zs) (λi v G=>∃(p:Addr) (q:Rat),((zs.map Prod.snd).map (ZI (some y)))[i]? = some q/\v = .ref p/\zD G p q) (λi v G G' e ⟨r,q,a,b,c⟩=>⟨r,q,a,b,e _ _ c⟩) hD3 (xQ hy14) (xk (by unfold rfs;rw[we];omega)) ?_ ?_
   ·intro i x' zz G12 Q' hx hz12 S12 hQ
    obtain⟨y1',rfl⟩:=jK hz12
    unfold rfs at hx
    rw[wg]at hx
    cases ez:zs[i]? with
    | none=>rw[ez]at hx;cases hx
    | some z =>
     rw[ez]at hx;cases hx
     have mz:=wj ez
     have sA:=s3.trans (s4.trans S12)
     refine⟨rfl,?_⟩
     refine⟨_,rfl,aw,_,_,_,rfl,rfl,.of (sA _ _ g1),rfl,_,rfl,aw,_,_,_,rfl,rfl,.of (sA _ _ g1),rfl,qw,qw,_,_,rfl,sA _ _ g3,sA _ _ g3,⟨zy.mono (by decide),zy.mono (by decide)⟩,λr8 G8 e8 hr8=>?_⟩
     refine⟨_,rfl,r8,z.1,_,_,rfl,hr8,e8 _ _ (S12 _ _ (hzs4 z mz)),⟨(zy.add zy).mono (by decide),(hzz z mz).mono (by decide)⟩,λr9 G9 e9 hr9=>hQ _ _ (e8.trans e9) ⟨r9,_,by rw[wg,wg,ez];rfl,rfl,?_⟩⟩
     have e:ZI (some y) z.2=y+y - z.2:=by show 2*y - z.2=_;grind
     rw[e];exact hr9
   ·intro ys G12 S12 hD12 hl12 hR12
    obtain⟨zs',rfl,ez',hz'⟩:=zbi (H:=G12) (ys:=ys) (qs:=(zs.map Prod.snd).map (ZI (some y))) (by rw[hl12];unfold rfs;simp) hR12
    refine hnx _ _ ⟨D3,zs',rfl,S12,hD12,λz m=>⟨hz' z m,?_⟩,ez'⟩
    have:z.2∈(zs.map Prod.snd).map (ZI (some y)):=by rw[<-ez'];exact ww.mpr ⟨z,m,rfl⟩
    obtain⟨v,mv,e⟩:=ww.mp this
    obtain⟨z',mz',e'⟩:=ww.mp mv
    rw[<-e,<-e',show ZI (some y) z'.2=y+y - z'.2 by show 2*y - z'.2=_;grind]
    exact(Sz.sub (zy.add zy) (hzz z' mz')).mono (by decide)
 rintro σ' G5 ⟨l,ys,rfl,s5,hl5,hys,eys⟩
 have hyl:ys.length=zs.length:=by have:=congrArg List.length eys;simpa using this
 refine⟨_,rfl,l,ys,rfl,hl5,hys,by omega,λl' zs' H' s' hl' pm ps=>?_⟩
 refine kL l' zs' H' (S4.trans (s5.trans s')) hl' (λz m=>s' _ _ (hys z (pm.mem_iff.mp m)).1) (by have:=pm.length_eq;omega) (.inr ⟨hnp',hsm,?_,?_⟩)
 ·rw[<-eys];exact pm.map _
 ·rw[yr];exact ps
end
theorem zH.take' {H:Hp}:∀{vs:List V}{bs:List zJ}(n:Nat),zH H vs bs->zH H (vs.take n) (bs.take n)
 | _,_,0,_=>by simp;exact .nil
 | _,_,n+1,.nil=>by simp;exact .nil
 | _,_,n+1,.cons h1 h2 h3 h=>by rw[uh,uh];exact .cons h1 h2 h3 (zH.take' n h)
theorem zH.drop' {H:Hp}:∀{vs:List V}{bs:List zJ}(n:Nat),zH H vs bs->zH H (vs.drop n) (bs.drop n)
 | _,_,0,h=>h
 | _,_,n+1,.nil=>by simp;exact .nil
 | _,_,n+1,.cons h1 h2 h3 h=>by rw[Wt,Wt];exact zH.drop' n h
theorem zH.set' {H:Hp}{t p q:Addr}{b:zJ}(ht:H t=some (.tup [.ref p,.ref q,.int b.wt])) (hp:zD H p b.pl) (hq:zD H q b.sp):∀{vs:List V}{bs:List zJ}(n:Nat),zH H vs bs->zH H (vs.set n (.ref t)) (bs.set n b)
 | _,_,_,.nil=>.nil
 | _,_,0,.cons h1 h2 h3 h=>.cons ht hp hq h
 | _,_,n+1,.cons h1 h2 h3 h=>.cons h1 h2 h3 (zH.set' ht hp hq n h)
def x9 (wh:Str) (lo hi:Wl):Wl:=if wh = "low" then lo else if wh = "high" then hi else none
def nbB (bs:List zJ) (a:Nat) (ss:List Rat) (j:Nat):zJ:=⟨((bs[a+j]?).map zJ.pl).getD 0,(ss[j]?).getD 0,((bs[a+j]?).map zJ.wt).getD 0⟩
def Xg (bs cs:List zJ) (a:Nat) (ss:List Rat):Nat->List zJ
 | 0=>cs
 | j+1=>(Xg bs cs a ss j).set (a+j) (nbB bs a ss j)
theorem je (bs cs:List zJ) (a:Nat) (ss:List Rat):∀j,(Xg bs cs a ss j).length=cs.length
 | 0=>rfl
 | j+1=>by show (List.set _ _ _).length=_;rw[uT,je]
def sgB (bs:List zJ) (g:Nat×Nat×Str):List zJ:=(bs.drop g.1).take (g.2.1+1 - g.1)
def zi1 (bs:List zJ) (lo hi:Wl) (g:Nat×Nat×Str):Prop:=Ja (x9 g.2.2 lo hi) ((sgB bs g).map zJ.wt)=false/\qp ((sgB bs g).map zJ.wt)=false
theorem Vx {α:Type}{l:List α}{i:Nat}{x:α}(h:l[i]? = some x):l.take (i+1)=l.take i++[x]:=by rw[ym,h];rfl
inductive LwC (bs:List zJ) (lo hi:Wl):List (Nat×Nat×Str)->List zJ->Prop
 | nil:LwC bs lo hi [] bs
 | snoc {gs:List (Nat×Nat×Str)}{cs:List zJ}{g:Nat×Nat×Str}{ss:List Rat}(h:LwC bs lo hi gs cs) (hl:ss.length=g.2.1+1 - g.1) (d:v8 ((sgB bs g).map zJ.wt) ((sgB bs g).map zJ.sp) ((x9 g.2.2 lo hi).map Prod.snd) ss):LwC bs lo hi (gs++[g]) (Xg bs cs g.1 ss (g.2.1+1 - g.1))
section
variable {P:Program}{w:World}{K:Fg}{mg:Str->Option Value}{base:Heap}
inductive zhq  (vs:List V) (H:Hp) (Q:VK) (_e3:XK):Prop
 | mk:∀r wl g us bs v1 v2 lo hi gv gs,(vs=[.ref r,.ref wl,.ref g])->(H r=some (.tup us))->(zH H us bs)->(H wl=some (.tup [v1,v2]))->(zV H v1 lo)->(zV H v2 hi)->(H g=some (.lst gv))->(vv H gv gs)->(bs.length<=8)->((∀b∈bs,Sz 80 b.sp/\1<=b.wt/\b.wt<=1010))->((∀x y,lo=some (x,y)->Sz 80 y))->((∀x y,hi=some (x,y)->Sz 80 y))->((∀g∈gs,g.1<=g.2.1/\g.2.1<bs.length/\(g.2.2 = "low"\/g.2.2 = "high"\/g.2.2 = "")))->(((∃g∈gs,zi1 bs lo hi g)->∀H',zi H H'->Q .non H'))->((∀t us' cs H',zi H H'->H' t=some (.tup us')->zH H' us' cs->LwC bs lo hi gs cs->Q (.ref t) H'))->zhq vs H Q _e3
theorem Xr:zF ["row","walls","groups","found","first","last","where","wall","speeds","k"] ["row","walls","groups"] (zr vG):=scq
theorem zin (D:Df K mg "_law_behind" vG ["row","walls","groups"] []) (T:TxQ K mg) (cDl:Cal P w K mg base "_law_dealt" 3 ["balls","wall"] [] zhv):Cal P w K mg base "_law_behind" 4 ["row","walls","groups"] [] zhq:=by
 refine D.calB (k:=3) Xr (λvs H Q E h=>by obtain⟨_,_,_,_,_,_,_,_,_,_,_,rfl,_⟩:=h;rfl) (λf cdv A outer s H vs Q E hr h=>?_)
 obtain⟨r,wl,g,us,bs,v1,v2,lo,hi,gv,gs,rfl,hrr,hB,hwl,hv1,hv2,hg,hgs,h8,hz,hzl,hzh,hgb,kN,kT⟩:=h
 have hu1:=uU (Nat.add_le_add_left (show 1<=64 by decide) _) hr.units
 have hbl:=hB.length
 refine⟨_,(zC (Bx.mk (zQ (i:=3) Xr.nd rfl (Or.inl rfl) (xP qO (by rfl) T.nList yV (zd (pv 0) zf))))
  (zC (Bx.mk (qJ PassesOwn.never rfl (xN (pv 2)) (qv rfl (zS (zK (i:=4) Xr.nd rfl (Or.inl rfl)) (zS (zK (i:=5) Xr.nd rfl (Or.inl rfl)) (zS (zK (i:=6) Xr.nd rfl (Or.inl rfl)) xD)))) (zA (zQ (i:=7) Xr.nd rfl (Or.inl rfl) (zeQ hu1 (zeR (Qf va (zk zj (pv 1) ze (λ_ _=>rfl)) (Qf va (zk zj (pv 1) ze (λ_ _=>rfl)) (Qf va zW zeU))) rfl rfl (by intro z;cases z) (by decide)) (pv 6) (λ_ _=>rfl))) (zA (zQ (i:=8) Xr.nd rfl (Or.inl rfl) (zP cDl hr (zd (qj (Ql.or Qm) (pv 0) (xH (pv 4)) (xH (zB zZ (pv 5) ze))) (zd (pv 7) zf)))) (zA (xh (zI xW (pv 8) zW (zM _)) (zh (zL zW)) zT) (zh (qJ PassesOwn.never rfl (zbQ rfl T.nRange (zd (pv 4) (zd (zB zZ (pv 5) ze) zf))) (zK (i:=9) Xr.nd rfl (Or.inl rfl)) (zh (qg (xj (zd (zk zj (zk zj (pv 0) (pv 9) (λ_ _=>rfl)) ze (λ_ _=>rfl)) (zd (zk xf (pv 8) (zB xZ (pv 9) (pv 4)) (λ_ _=>rfl)) (zd (zk zj (zk zj (pv 0) (pv 9) (λ_ _=>rfl)) ze (λ_ _=>rfl)) zf)))) (jP (pv 3) (pv 9) vp))))))))))
  (Bx.mk (zh (zL (xP qk (by rfl) T.nTuple yl (zd (pv 3) zf))))))),?_⟩
 refine⟨_,rfl,r,_,rfl,.inr (.of hrr),λl hl=>?_⟩
 have S1:=zi.upd (o:=.lst us) hl
 have hl1:upd H l (.lst us) l=some (.lst us):=zg
 generalize upd H l (.lst us)=G1 at S1 hl1
 dsimp only[zO]
 refine zaa ?_
 refine⟨_,rfl,g,rfl,⟨gv,.of (S1 _ _ hg)⟩,?_⟩
 refine jG (xs:=gv) (λi σ G=>∃z vs cs,z.length=6/\σ=some (.ref r)::some (.ref wl)::some (.ref g)::some (.ref l)::z/\zi H G/\G l=some (.lst vs)/\zH G vs cs/\cs.length=bs.length/\LwC bs lo hi (gs.take i) cs) ⟨_,us,bs,rfl,rfl,S1,hl1,hB.same S1,rfl,.nil⟩ (λi σ G _ ⟨_,_,_,_,_,s,_⟩=>.of (s _ _ hg)) ?_ ?_
 ·rintro i x σ G hx ⟨z,vs,cs,hzn,rfl,SG,hlG,hBG,hcl,hC⟩
  obtain⟨gr,egr,ag,rfl,hag⟩:=hgs.2 i x hx
  obtain⟨a,b,wh⟩:=gr
  obtain⟨hab,hbb,hwh⟩:=hgb _ (wj egr)
  dsimp only at hab hbb hwh
  match z,hzn with
  | [c4,c5,c6,c7,c8,c9],_ =>
  refine⟨ag,_,rfl,.of (SG _ _ hag),rfl,_,_,rfl,_,_,rfl,_,_,rfl,rfl,?_⟩
  dsimp only[zO]
  refine xE (λσ' G'=>∃vw,σ'=[some (.ref r),some (.ref wl),some (.ref g),some (.ref l),some (.int (a:Int)),some (.int (b:Int)),some (.str wh),some vw,c8,c9]/\zi G G'/\zV G' vw (x9 wh lo hi)) ?_ ?_
  rotate_left
  ·intro nx hnx
   intro pd hpd
   have sD:=zi.upd (o:=.dK []) hpd
   have hpd':upd G pd (.dK []) pd=some (.dK []):=zg
   generalize upd G pd (.dK [])=Gd at sD hpd' ⊢
   have hwd:=sD _ _ (SG _ _ hwl)
   refine⟨_,rfl,wl,_,_,_,rfl,rfl,.of hwd,rfl,_,rfl,wl,_,_,_,rfl,rfl,.of hwd,rfl,hpd',[(Sum.inr "low",v1),(Sum.inr "high",v2),(Sum.inr "",.non)],rfl,by show 3<=15;decide,?_⟩
   have Tu:zY H (upd Gd pd (.dK (Zr [] [(Sum.inr "low",v1),(Sum.inr "high",v2),(Sum.inr "",.non)]))):=λb' xs e=>by
    have e1:=sD _ _ (SG _ _ e)
    rw[zE (λz=>by rw[z,hpd']at e1;cases e1)];exact e1
   have SG':zi G (upd Gd pd (.dK (Zr [] [(Sum.inr "low",v1),(Sum.inr "high",v2),(Sum.inr "",.non)]))):=λb' o e=>by
    rw[zE (zG e hpd)];exact sD _ _ e
   rcases hwh with rfl | rfl | rfl
   ·exact⟨_,rfl,pd,v1,rfl,.inl ⟨_,Sum.inr "low",.inl zg,rfl,rfl⟩,hnx _ _ ⟨v1,rfl,SG',hv1.tups Tu⟩⟩
   ·exact⟨_,rfl,pd,v2,rfl,.inl ⟨_,Sum.inr "high",.inl zg,rfl,rfl⟩,hnx _ _ ⟨v2,rfl,SG',hv2.tups Tu⟩⟩
   ·exact⟨_,rfl,pd,.non,rfl,.inl ⟨_,Sum.inr "",.inl zg,rfl,rfl⟩,hnx _ _ ⟨.non,rfl,SG',rfl⟩⟩
  rintro σ' G2 ⟨vw,rfl,s2,hvw⟩
  have S2:=SG.trans s2
  have hl2:=s2 _ _ hlG
  have hB2:=hBG.same s2
  refine xE (λσ' G'=>∃vx,σ'=[some (.ref r),some (.ref wl),some (.ref g),some (.ref l),some (.int (a:Int)),some (.int (b:Int)),some (.str wh),some vw,some vx,c9]/\zi G2 G'/\((vx = .non/\zi1 bs lo hi (a,b,wh))\/∃(ls:Addr) (zs:List AR),vx = .ref ls/\G' ls=some (.lst (rfs zs))/\ls≠l/\JA G' zs/\zs.length=b+1 - a/\v8 ((sgB bs (a,b,wh)).map zJ.wt) ((sgB bs (a,b,wh)).map zJ.sp) ((x9 wh lo hi).map Prod.snd) (zs.map Prod.snd))) ?_ ?_
  rotate_left
  ·intro nx hnx
   refine⟨_,rfl,_,rfl,_,rfl,_,rfl,_,_,rfl,rfl,_,rfl,zea (S2 _ _ hrr) λq G3 s3 hq=>?_⟩
   rw[ZC]at hq
   have hsl:(sgB bs (a,b,wh)).length=b+1 - a:=by unfold sgB;dsimp only;rw[w5,wW];omega
   have hBs:zH G3 ((us.drop a).take (b+1 - a)) (sgB bs (a,b,wh)):=zH.take' _ (zH.drop' a (hB.same (S2.trans s3)))
   have S3:=S2.trans s3
   have hzw:∀x y,x9 wh lo hi=some (x,y)->Sz 80 y:=λx y e=>by
    unfold x9 at e
    split at e
    ·exact hzl x y e
    ·split at e
     ·exact hzh x y e
     ·cases e
   refine⟨_,rfl,q,vw,_,sgB bs (a,b,wh),x9 wh lo hi,rfl,hq,hBs,hvw.tups (.of s3),by omega,by omega,λb' mb=>hz b' (yP (yQ mb)),hzw,λh1 h2 G4 s4=>?_,λls zs G4 s4 hls hzs hzn' hd=>?_⟩
   ·exact hnx _ _ ⟨.non,rfl,s3.trans s4,.inl ⟨rfl,h1,h2⟩⟩
   ·refine hnx _ _ ⟨.ref ls,rfl,s3.trans s4,.inr ⟨ls,zs,rfl,hls,λz=>?_,hzs,by omega,hd⟩⟩
    have hl4:G4 l=some (.lst vs):=s4 _ _ (s3 _ _ hl2)
    rw[<-z,hls]at hl4
    injection hl4 with hl4
    injection hl4 with hl4
    obtain⟨z0,ez0⟩:∃z0,zs[0]? = some z0:=⟨_,wf (by omega)⟩
    obtain⟨a',p',q',b',_,e',h1',_⟩:=(hB2.same (s3.trans s4)).get (i:=0) (v:=.ref z0.1) (by rw[<-hl4];unfold rfs;rw[wg,ez0];rfl)
    have:=hzs z0 (wj ez0)
    cases e'
    unfold zD at this
    rw[h1']at this
    cases this
  rintro σ' G3 ⟨vx,rfl,s3,hvx⟩
  have S3:=S2.trans s3
  rcases hvx with⟨rfl,hrf⟩ | ⟨ls,zs,rfl,hls,hne,hzs,hzn',hd⟩
  ·exact⟨_,rfl,rfl,_,rfl,xw (kN ⟨_,wj egr,hrf⟩ _ S3)⟩
  refine⟨_,rfl,rfl,_,rfl,xo ?_⟩
  refine za6 ?_
  have hl3:=s3 _ _ hl2
  have hB3:=hB2.same s3
  try dsimp only
  have hrr3:=S3 _ _ hrr
  refine⟨_,rfl,_,rfl,_,_,rfl,rfl,_,_,rfl,⟨by omega,by omega,by omega,by omega⟩,?_⟩
  refine vL (n:=((b:Int)+1 - (a:Int)).toNat) (lo:=(a:Int)) (λj σ G'=>∃z9 vs',σ=[some (.ref r),some (.ref wl),some (.ref g),some (.ref l),some (.int (a:Int)),some (.int (b:Int)),some (.str wh),some vw,some (.ref ls),z9]/\zi H G'/\G' l=some (.lst vs')/\G' ls=some (.lst (rfs zs))/\JA G' zs/\zH G' vs' (Xg bs cs a (zs.map Prod.snd) j)) ⟨_,vs,rfl,S3,hl3,hls,hzs,hB3⟩ ?_ ?_
  ·rintro j σ G4 hj ⟨z9,vs',rfl,S4,hl4,hls4,hzs4,hB4⟩
   have hjz:j<zs.length:=by omega
   have hab':a+j<us.length:=by omega
   obtain⟨z,ez⟩:∃z,zs[j]? = some z:=⟨_,wf hjz⟩
   obtain⟨u,eu⟩:∃u,us[a+j]? = some u:=⟨_,wf hab'⟩
   obtain⟨ab,pb,qb,bl',ebl,rfl,g1,g2,g3⟩:=(hB.same S4).get eu
   have ix1:atI us ((a:Int)+(j:Int))=some (V.ref ab):=by rw[show (a:Int)+(j:Int)=((a+j:Nat):Int) by omega];exact xF eu
   have ix2:atI (rfs zs) ((a:Int)+(j:Int) - (a:Int))=some (V.ref z.1):=by rw[show (a:Int)+(j:Int) - (a:Int)=((j:Nat):Int) by omega];exact xF (by unfold rfs;rw[wg,ez];rfl)
   have hvl:vs'.length=bs.length:=by have:=hB4.length;rw[je]at this;omega
   have ix3:ixN vs'.length ((a:Int)+(j:Int))=some (a+j):=by rw[show (a:Int)+(j:Int)=((a+j:Nat):Int) by omega];exact KQ.XZ (by omega)
   have hrr4:=S4 _ _ hrr
   dsimp only[zO]
   refine⟨_,rfl,_,rfl,r,_,_,_,rfl,rfl,.of hrr4,ix1,ab,_,_,_,rfl,rfl,.of g1,rfl,?_⟩
   refine⟨_,rfl,_,rfl,_,rfl,_,_,rfl,rfl,ls,_,_,_,rfl,rfl,.of hls4,ix2,?_⟩
   refine⟨_,rfl,_,rfl,r,_,_,_,rfl,rfl,.of hrr4,ix1,ab,_,_,_,rfl,rfl,.of g1,rfl,zL3,λt ht=>?_⟩
   have s5:=zi.upd (o:=.tup [V.ref pb,V.ref z.1,V.int bl'.wt]) ht
   have ht5:upd G4 t (.tup [V.ref pb,V.ref z.1,V.int bl'.wt]) t=some (.tup [V.ref pb,V.ref z.1,V.int bl'.wt]):=zg
   generalize upd G4 t (.tup [V.ref pb,V.ref z.1,V.int bl'.wt])=G5 at s5 ht5 ⊢
   have hl5:=s5 _ _ hl4
   refine⟨_,rfl,_,rfl,l,_,_,a+j,rfl,rfl,hl5,ix3,?_⟩
   have Tu:zY G5 (upd G5 l (.lst (vs'.set (a+j) (.ref t)))):=.upd hl5
   have hmz:=hzs4 z (wj ez)
   have enb:nbB bs a (zs.map Prod.snd) j = ⟨bl'.pl,z.2,bl'.wt⟩:=by unfold nbB;rw[ebl,wg,ez];rfl
   refine⟨_,vs'.set (a+j) (.ref t),rfl,λb' o e=>?_,zg,?_,λz' m=>Tu _ _ (s5 _ _ (hzs4 z' m)),?_⟩
   ·rw[zE (zG e hl)];exact s5 _ _ (S4 _ _ e)
   ·rw[zE hne];exact s5 _ _ hls4
   ·show zH _ _ ((Xg bs cs a (zs.map Prod.snd) j).set (a+j) (nbB bs a (zs.map Prod.snd) j))
    rw[enb]
    exact zH.set' (b:=⟨bl'.pl,z.2,bl'.wt⟩) (Tu _ _ ht5) (Tu _ _ (s5 _ _ g2)) (Tu _ _ (s5 _ _ hmz)) _ (((hB4.same s5)).mono Tu)
  ·rintro σ G4 ⟨z9,vs',rfl,S4,hl4,hls4,hzs4,hB4⟩
   refine⟨_,vs',_,rfl,rfl,S4,hl4,hB4,by rw[je];exact hcl,?_⟩
   rw[Vx egr,show ((b:Int)+1 - (a:Int)).toNat=b+1 - a by omega]
   exact .snoc hC (by rw[we];exact hzn') hd
 ·rintro σ G ⟨z,vs,cs,hzn,rfl,SG,hlG,hBG,hcl,hC⟩
  rw[wM (by have:=hgs.1;omega)]at hC
  refine⟨_,rfl,l,vs,rfl,.inl ⟨.of hlG,λt ht=>?_⟩⟩
  have s2:=zi.upd (o:=.tup vs) ht
  exact kT t vs cs _ (SG.trans s2) zg (hBG.same s2) hC
end
def Jz (bs:List zJ) (hi:Wl) (R:List zJ):Prop:=R=[]\/(hi=none/\∃(cs:List zJ) (c:zJ) (d:Int),bs=cs++[c]/\1<=d/\d<=9/\R=[⟨c.pl+(d:Rat),c.sp,c.wt+1⟩])
def Jy (bs:List zJ) (lo:Wl) (L:List zJ):Prop:=L=[]\/(lo=none/\∃(cs:List zJ) (c:zJ) (d:Int),bs=c::cs/\1<=d/\d<=9/\L=[⟨c.pl - (d:Rat),c.sp,c.wt+2⟩])
section
variable {P:Program}{w:World}{K:Fg}{mg:Str->Option Value}{base:Heap}
inductive zhw  (vs:List V) (H:Hp) (Q:VK) (_e3:XK):Prop
 | mk:∀p r wl us bs v1 v2 lo hi,(vs=[.ref p,.ref r,.ref wl])->(jE H p)->(H r=some (.tup us))->(zH H us bs)->(H wl=some (.tup [v1,v2]))->(zV H v1 lo)->(zV H v2 hi)->(1<=bs.length)->(bs.length<=8)->((∀b∈bs,Sz 300 b.pl))->(∀t us' L R H',xA p H H'->H' t=some (.tup us')->zH H' us' (L++bs++R)->Jy bs lo L->Jz bs hi R->(L++bs++R).length<=8->Q (.ref t) H')->zhw vs H Q _e3
theorem zf2:zF ["pool","row","walls","found"] ["pool","row","walls"] (zr j6):=scq
theorem ziv (D:Df K mg "_law_far" j6 ["pool","row","walls"] []) (T:TxQ K mg) (cN:Cal P w K mg base "_law_next" 1 ["pool","base"] [] jT) (cA:Cal P w K mg base "_law_add" 2 ["a","b"] [] (qB Sz2 (· + ·))) (cO:Cal P w K mg base "_law_off" 2 ["a","b"] [] (qB Sz2 (· - ·))):Cal P w K mg base "_law_far" 3 ["pool","row","walls"] [] zhw:=by
 refine D.calB (k:=2) zf2 (λvs H Q E h=>by obtain⟨_,_,_,_,_,_,_,_,_,rfl,_⟩:=h;rfl) (λf cdv A outer s H vs Q E hr h=>?_)
 obtain⟨p,r,wl,us,bs,v1,v2,lo,hi,rfl,hP,hrr,hB,hwl,hv1,hv2,n1,h8,hz,k⟩:=h
 have hr1:xn 1 _:=hr.mono (by decide)
 have hbl:=hB.length
 refine⟨_,(zC (Bx.mk (zQ (i:=3) zf2.nd rfl (Or.inl rfl) (xP qO (by rfl) T.nList yV (zd (pv 1) zf))))
  (zC (Bx.mk (xh (qC (zI xW (zk zj (pv 2) ze (λ_ _=>rfl)) zW (zM _)) (qC (zI jb (zX xc (by rfl) T.nLen PySem.boot_len (zd (pv 3) zf)) ze (zM _)) (qm (zI qL (zP cN hr1 (zd (pv 0) (zd ze zf))) ze (zM _))))).pt (zh (qh (ZG yf yA yB qK (pv 3) (zd (xj (zd (zP cA hr (zd (zk zj (zk xf (pv 3) (QN Xm ze) (λ_ _=>rfl)) ze (λ_ _=>rfl)) (zd (xj (zd (zB zZ ze (zP cN hr1 (zd (pv 0) (zd ze zf)))) (zd ze zf))) zf))) (zd (zk zj (zk xf (pv 3) (QN Xm ze) (λ_ _=>rfl)) ze (λ_ _=>rfl)) (zd (zB zZ (zk zj (zk xf (pv 3) (QN Xm ze) (λ_ _=>rfl)) ze (λ_ _=>rfl)) ze) zf)))) zf)))) zT))
  (zC (Bx.mk (xh (qC (zI xW (zk zj (pv 2) ze (λ_ _=>rfl)) zW (zM _)) (qC (zI jb (zX xc (by rfl) T.nLen PySem.boot_len (zd (pv 3) zf)) ze (zM _)) (qm (zI qL (zP cN hr1 (zd (pv 0) (zd ze zf))) ze (zM _))))).pt (zh (qh (ZG yf uO uP Xb (pv 3) (zd ze (zd (xj (zd (zP cO hr (zd (zk zj (zk xf (pv 3) ze (λ_ _=>rfl)) ze (λ_ _=>rfl)) (zd (xj (zd (zB zZ ze (zP cN hr1 (zd (pv 0) (zd ze zf)))) (zd ze zf))) zf))) (zd (zk zj (zk xf (pv 3) ze (λ_ _=>rfl)) ze (λ_ _=>rfl)) (zd (zB zZ (zk zj (zk xf (pv 3) ze (λ_ _=>rfl)) ze (λ_ _=>rfl)) ze) zf)))) zf))))) zT))
  (Bx.mk (zh (zL (xP qk (by rfl) T.nTuple yl (zd (pv 3) zf)))))))),?_⟩
 refine⟨_,rfl,r,_,rfl,.inr (.of hrr),λl hl=>?_⟩
 have S1:=zi.upd (o:=.lst us) hl
 have hl1:upd H l (.lst us) l=some (.lst us):=zg
 have hlp:l≠p:=hP.ne hl
 have T1:xA p H (upd H l (.lst us)):=(xA.refl hP).same S1
 generalize upd H l (.lst us)=G1 at S1 hl1 T1
 dsimp only[zO]
 refine xE (λσ' G=>∃vs R,σ'=[some (.ref p),some (.ref r),some (.ref wl),some (.ref l)]/\xA p H G/\G l=some (.lst vs)/\zH G vs (bs++R)/\Jz bs hi R/\(bs++R).length<=8) ?_ ?_
 rotate_left
 ·intro nx hnx
  have no:∀G,xA p G1 G->nx [some (.ref p),some (.ref r),some (.ref wl),some (.ref l)] G:=λG t=>hnx _ _ ⟨us,[],rfl,T1.trans t,t.keep _ _ hl1 hlp,by rw[yb];exact(hB.same S1).mono (xq T1.pool t),.inl rfl,by rw[yb];exact h8⟩
  cases hi with
  | some u =>
   obtain⟨x,y⟩:=u
   obtain⟨aw,pw,qw,rfl,g1,g2,g3⟩:=hv2
   exact⟨_,rfl,wl,_,_,_,rfl,rfl,.of (S1 _ _ hwl),rfl,rfl,_,rfl,xo (no _ (.refl T1.pool))⟩
  | none =>
   obtain rfl:v2 = .non:=hv2
   refine⟨_,rfl,wl,_,_,_,rfl,rfl,.of (S1 _ _ hwl),rfl,rfl,_,rfl,xw ?_⟩
   refine⟨_,rfl,l,_,rfl,.inl (.of hl1),_,_,rfl,rfl,_,rfl,qr (λh7=>?_) (λ_=>no _ (.refl T1.pool))⟩
   have h7':us.length<8:=by have:=wD h7;omega
   refine⟨_,rfl,p,_,rfl,by decide,by decide,T1.pool,λd1 G2 a1 b1 t2=>⟨rfl,_,rfl,qr (λhd=>?_) (λ_=>no _ t2)⟩⟩
   have T2:=T1.trans t2
   have hl2:=t2.keep _ _ hl1 hlp
   have hB2:=(hB.same S1).mono (xq T1.pool t2)
   obtain⟨us0,u,rfl⟩:∃us0 u,us=us0++[u]:=⟨_,_,(yT (by intro z;rw[z]at hbl;simp at hbl;omega)).symm⟩
   obtain⟨cs,c,rfl⟩:∃cs c,bs=cs++[c]:=⟨_,_,(yT (by intro z;rw[z]at n1;simp at n1)).symm⟩
   have hcl:us0.length=cs.length:=by simp at hbl;omega
   obtain⟨ab,pb,qb,b',eb,rfl,g1,g2,g3⟩:=hB2.get (i:=us0.length) (v:=u) (by simp)
   have:b'=c:=by rw[hcl]at eb;simp at eb;exact eb.symm
   subst this
   have aL:atI (us0++[V.ref ab]) (-1)=some (V.ref ab):=VG _ _
   have zp:=hz b' (by simp)
   refine⟨_,rfl,.inl ⟨rfl,_,SqL.of hl2⟩,?_⟩
   refine⟨_,rfl,_,rfl,l,_,_,_,rfl,rfl,.of hl2,aL,ab,_,_,_,rfl,rfl,.of g1,rfl,?_⟩
   refine⟨_,rfl,p,_,rfl,by decide,by decide,T2.pool,λd2 G3 a2 b2 t3=>⟨_,_,rfl,rfl,zL2,λt1 ht1=>?_⟩⟩
   have T3:=T2.trans t3
   have s4:=zi.upd (o:=.tup [V.int (1+d2),.int 1]) ht1
   have hr4:zD (upd G3 t1 (.tup [V.int (1+d2),.int 1])) t1 ((1+d2:Int):Rat):=Xh zg
   generalize upd G3 t1 (.tup [V.int (1+d2),.int 1])=G4 at s4 hr4 ⊢
   have Tu3:=xq T2.pool t3
   refine⟨pb,t1,_,_,rfl,s4 _ _ (Tu3 _ _ g2),hr4,⟨zp.mono (by decide),(jU (n:=5) (by omega) (by omega) (by decide)).mono (by decide)⟩,λr5 G5 e5 h5=>?_⟩
   have S5:=s4.trans e5
   have T5:=T3.same S5
   have hl5:=S5 _ _ (t3.keep _ _ hl2 hlp)
   have g15:=S5 _ _ (Tu3 _ _ g1)
   have g35:zD G5 qb b'.sp:=S5 _ _ (Tu3 _ _ g3)
   refine⟨_,rfl,_,rfl,l,_,_,_,rfl,rfl,.of hl5,aL,ab,_,_,_,rfl,rfl,.of g15,rfl,?_⟩
   refine⟨_,rfl,_,rfl,l,_,_,_,rfl,rfl,.of hl5,aL,ab,_,_,_,rfl,rfl,.of g15,rfl,_,_,rfl,rfl,zL3,λt6 ht6=>?_⟩
   have s6:=zi.upd (o:=.tup [V.ref r5,V.ref qb,V.int (b'.wt+1)]) ht6
   have ht6':upd G5 t6 (.tup [V.ref r5,V.ref qb,V.int (b'.wt+1)]) t6=some (.tup [V.ref r5,V.ref qb,V.int (b'.wt+1)]):=zg
   generalize upd G5 t6 (.tup [V.ref r5,V.ref qb,V.int (b'.wt+1)])=G6 at s6 ht6' ⊢
   have hl6:=s6 _ _ hl5
   refine⟨l,_,_,rfl,rfl,hl6,xk (by omega),?_⟩
   have Tu:zY G6 (upd G6 l (.lst ((us0++[V.ref ab])++[V.ref t6]))):=.upd hl6
   have T6:=(T5.same s6).put hl hlp (.lst ((us0++[V.ref ab])++[V.ref t6]))
   refine hnx _ _ ⟨_,[⟨b'.pl+((1+d2:Int):Rat),b'.sp,b'.wt+1⟩],rfl,T6,zg,?_,.inr ⟨rfl,cs,b',1+d2,rfl,by omega,by omega,rfl⟩,by simp at h7' hcl ⊢;omega⟩
   exact zH.append (.one (b:=⟨b'.pl+((1+d2:Int):Rat),b'.sp,b'.wt+1⟩) (Tu _ _ ht6') (Tu _ _ (s6 _ _ h5)) (Tu _ _ (s6 _ _ g35))) ((((hB2.mono Tu3).same (S5.trans s6))).mono Tu)
 rintro σ' G2 ⟨vs,R,rfl,T2,hl2,hB2,hR,h82⟩
 have hvl:=hB2.length
 refine xE (λσ' G=>∃vs L,σ'=[some (.ref p),some (.ref r),some (.ref wl),some (.ref l)]/\xA p H G/\G l=some (.lst vs)/\zH G vs (L++bs++R)/\Jy bs lo L/\(L++bs++R).length<=8) ?_ ?_
 rotate_left
 ·intro nx hnx
  have no:∀G,xA p G2 G->nx [some (.ref p),some (.ref r),some (.ref wl),some (.ref l)] G:=λG t=>hnx _ _ ⟨vs,[],rfl,T2.trans t,t.keep _ _ hl2 hlp,by rw[uy];exact hB2.mono (xq T2.pool t),.inl rfl,by rw[uy];exact h82⟩
  have hwl2:G2 wl=some (.tup [v1,v2]):=T2.tup hP hwl
  cases lo with
  | some u =>
   obtain⟨x,y⟩:=u
   obtain⟨aw,pw,qw,rfl,g1,g2,g3⟩:=hv1
   exact⟨_,rfl,wl,_,_,_,rfl,rfl,.of hwl2,rfl,rfl,_,rfl,xo (no _ (.refl T2.pool))⟩
  | none =>
   obtain rfl:v1 = .non:=hv1
   refine⟨_,rfl,wl,_,_,_,rfl,rfl,.of hwl2,rfl,rfl,_,rfl,xw ?_⟩
   refine⟨_,rfl,l,_,rfl,.inl (.of hl2),_,_,rfl,rfl,_,rfl,qr (λh7=>?_) (λ_=>no _ (.refl T2.pool))⟩
   have h7':vs.length<8:=by have:=wD h7;omega
   refine⟨_,rfl,p,_,rfl,by decide,by decide,T2.pool,λd1 G3 a1 b1 t3=>⟨rfl,_,rfl,qr (λhd=>?_) (λ_=>no _ t3)⟩⟩
   have T3:=T2.trans t3
   have hl3:=t3.keep _ _ hl2 hlp
   have hB3:=hB2.mono (xq T2.pool t3)
   obtain⟨c,cs,rfl⟩:∃c cs,bs=c::cs:=by
    cases bs with
    | nil=>simp at n1
    | cons c cs=>exact⟨c,cs,rfl⟩
   obtain⟨u,vs0,rfl⟩:∃u vs0,vs=u::vs0:=by
    cases vs with
    | nil=>simp at hvl
    | cons c cs=>exact⟨c,cs,rfl⟩
   obtain⟨ab,pb,qb,b',eb,rfl,g1,g2,g3⟩:=hB3.get (i:=0) (v:=u) rfl
   have:b'=c:=by simp at eb;exact eb.symm
   subst this
   have a0:atI (V.ref ab::vs0) 0=some (V.ref ab):=QX ..
   have zp:=hz b' (by simp)
   refine⟨_,rfl,.inl ⟨rfl,_,SqL.of hl3⟩,?_⟩
   refine⟨_,rfl,l,_,_,_,rfl,rfl,.of hl3,a0,ab,_,_,_,rfl,rfl,.of g1,rfl,?_⟩
   refine⟨_,rfl,p,_,rfl,by decide,by decide,T3.pool,λd2 G4 a2 b2 t4=>⟨_,_,rfl,rfl,zL2,λt1 ht1=>?_⟩⟩
   have T4:=T3.trans t4
   have s5:=zi.upd (o:=.tup [V.int (1+d2),.int 1]) ht1
   have hr5:zD (upd G4 t1 (.tup [V.int (1+d2),.int 1])) t1 ((1+d2:Int):Rat):=Xh zg
   generalize upd G4 t1 (.tup [V.int (1+d2),.int 1])=G5 at s5 hr5 ⊢
   have Tu4:=xq T3.pool t4
   refine⟨pb,t1,_,_,rfl,s5 _ _ (Tu4 _ _ g2),hr5,⟨zp.mono (by decide),(jU (n:=5) (by omega) (by omega) (by decide)).mono (by decide)⟩,λr6 G6 e6 h6=>?_⟩
   have S6:=s5.trans e6
   have T6:=T4.same S6
   have hl6:=S6 _ _ (t4.keep _ _ hl3 hlp)
   have g16:=S6 _ _ (Tu4 _ _ g1)
   have g36:zD G6 qb b'.sp:=S6 _ _ (Tu4 _ _ g3)
   refine⟨_,rfl,l,_,_,_,rfl,rfl,.of hl6,a0,ab,_,_,_,rfl,rfl,.of g16,rfl,?_⟩
   refine⟨_,rfl,l,_,_,_,rfl,rfl,.of hl6,a0,ab,_,_,_,rfl,rfl,.of g16,rfl,_,_,rfl,rfl,zL3,λt7 ht7=>?_⟩
   have s7:=zi.upd (o:=.tup [V.ref r6,V.ref qb,V.int (b'.wt+2)]) ht7
   have ht7':upd G6 t7 (.tup [V.ref r6,V.ref qb,V.int (b'.wt+2)]) t7=some (.tup [V.ref r6,V.ref qb,V.int (b'.wt+2)]):=zg
   generalize upd G6 t7 (.tup [V.ref r6,V.ref qb,V.int (b'.wt+2)])=G7 at s7 ht7' ⊢
   have hl7:=s7 _ _ hl6
   refine⟨l,_,0,_,rfl,rfl,hl7,by decide,by omega,by omega,?_⟩
   have Tu:zY G7 (upd G7 l (.lst ([]++V.ref t7::(V.ref ab::vs0)))):=.upd hl7
   have T7:=(T6.same s7).put hl hlp (.lst ([]++V.ref t7::(V.ref ab::vs0)))
   refine hnx _ _ ⟨_,[⟨b'.pl - ((1+d2:Int):Rat),b'.sp,b'.wt+2⟩],rfl,T7,zg,?_,.inr ⟨rfl,cs,b',1+d2,rfl,by omega,by omega,rfl⟩,by simp at h7' hvl ⊢;omega⟩
   exact .cons (b:=⟨b'.pl - ((1+d2:Int):Rat),b'.sp,b'.wt+2⟩) (Tu _ _ ht7') (Tu _ _ (s7 _ _ h6)) (Tu _ _ (s7 _ _ g36)) ((((hB3.mono Tu4).same (S6.trans s7))).mono Tu)
 rintro σ' G3 ⟨vs',L,rfl,T3,hl3,hB3,hL,h83⟩
 refine⟨_,rfl,l,vs',rfl,.inl ⟨.of hl3,λt ht=>?_⟩⟩
 have s4:=zi.upd (o:=.tup vs') ht
 exact k t vs' L R _ (T3.same s4) zg (hB3.same s4) hL hR h83
end
theorem zb1 {x y:Rat×Rat}{l:List (Rat×Rat)} (h:x.2<=y.2):qq (x::y::l)=qq (y::l):=by
 unfold qq
 show ((x,y)::(y::l).zip l).foldl x8 none=_
 rw[List.foldl_cons]
 have:x8 none (x,y)=none:=by unfold x8;rw[if_neg (by show ¬y.2<x.2;grind)]
 rw[this];rfl
theorem Jx {α:Type}:∀(l:List α) (a y:α),(l++[a,y]).zip (l++[a,y]).tail=(l++[a]).zip (l++[a]).tail++[(a,y)]
 | [],a,y=>rfl
 | [b],a,y=>rfl
 | b::c::l,a,y=>by
  have:=Jx (c::l) a y
  simp only[WV,List.tail_cons,WD]at this ⊢
  rw[this]
theorem zb2 {a y:Rat×Rat}{l:List (Rat×Rat)} (h:a.2<=y.2):qq (l++[a,y])=qq (l++[a]):=by
 unfold qq
 rw[Jx,Wa]
 show x8 _ (a,y)=_
 unfold x8
 rw[if_neg (by show ¬y.2<a.2;grind)]
def Xf (b:zJ):Rat×Rat:=(b.pl,b.sp)
theorem Xt (bs:List zJ) (lo hi:Wl):tl bs lo hi=xx lo++bs.map Xf++xx hi:=rfl
theorem zcG {bs L R:List zJ}{lo hi:Wl}(hL:Jy bs lo L) (hR:Jz bs hi R):qq (tl (L++bs++R) lo hi)=qq (tl bs lo hi):=by
 have e1:qq (tl (bs++R) lo hi)=qq (tl bs lo hi):=by
  rcases hR with rfl | ⟨rfl,cs,c,d,rfl,_,_,rfl⟩
  ·rw[yb]
  ·rw[Xt,Xt]
   simp only[w8,ye,uw,xx,yb,<-wU]
   rw[wU]
   exact zb2 (by show c.sp<=c.sp;grind)
 rw[<-e1]
 rcases hL with rfl | ⟨rfl,cs,c,d,rfl,_,_,rfl⟩
 ·rfl
 ·rw[Xt,Xt]
  exact zb1 (by show c.sp<=c.sp;grind)
theorem zeh {bs L R:List zJ}{lo hi:Wl}(O:Ord bs lo hi) (hL:Jy bs lo L) (hR:Jz bs hi R):Ord (L++bs++R) lo hi:=by
 refine⟨?_,O.lt⟩
 have d0:∀{d:Int},1<=d->(0:Rat)<(d:Rat):=λ{d} h=>by
  have:(0:Int)<d:=by omega
  exact_mod_cast this
 have e1:(tl (bs++R) lo hi).Pairwise Zj/\∀(c:zJ) cs,bs=c::cs->∀t∈(bs++R).map Xf++xx hi,c.pl<=t.1:=by
  have hp:=O.pw
  have first:∀(c:zJ) cs,bs=c::cs->∀t∈bs.map Xf++xx hi,c.pl<=t.1:=λc cs e t mt=>by
   rw[Xt,wU]at hp
   have h2:=(wX.mp hp).2.1
   subst e
   rcases wy.mp mt with rfl | mt
   ·show c.pl<=c.pl;grind
   ·rcases(w4.mp h2).1 t mt with h | ⟨h,_⟩
    ·have h:c.pl<t.1:=h;grind
    ·have h:c.pl=t.1:=h;grind
  rcases hR with rfl | ⟨rfl,cs,c,d,rfl,d1,_,rfl⟩
  ·rw[yb];exact⟨hp,first⟩
  ·have dp:=d0 d1
   have all:∀t∈xx lo++(cs++[c]).map Xf,t.1<=c.pl:=λt mt=>by
    rw[Xt]at hp
    simp only[xx,yb,w8,ye,uw,<-wU]at hp mt
    rcases wN.mp mt with mt | mt
    ·rcases(wX.mp hp).2.2 t mt (Xf c) (by simp)with h | ⟨h,_⟩
     ·have h:t.1<c.pl:=h;grind
     ·have h:t.1=c.pl:=h;grind
    ·rw[wF.mp mt];show c.pl<=c.pl;grind
   refine⟨?_,λc' cs' e t mt=>?_⟩
   ·rw[Xt]at hp ⊢
    simp only[xx,yb]at hp ⊢
    rw[w8,<-wU]
    refine wX.mpr ⟨hp,yt ..,λa ma b mb=>?_⟩
    rw[wF.mp mb]
    have:=all a ma
    exact .inl (by show a.1<c.pl+(d:Rat);grind)
   ·simp only[xx,yb]at mt
    rw[w8]at mt
    rcases wN.mp mt with mt | mt
    ·exact first c' cs' e t (by simp only[xx,yb];exact mt)
    ·rw[wF.mp mt]
     have:=first c' cs' e (Xf c) (by simp)
     have h:c'.pl<=c.pl:=this
     show c'.pl<=c.pl+(d:Rat);grind
 rcases hL with rfl | ⟨rfl,cs,c,d,rfl,d1,_,rfl⟩
 ·exact e1.1
 ·have dp:=d0 d1
  have hp:=e1.1
  rw[Xt]at hp ⊢
  simp only[xx,uy]at hp ⊢
  show (Xf _::((c::cs++R).map Xf++xx hi)).Pairwise Zj
  refine w4.mpr ⟨λt mt=>?_,hp⟩
  have:=e1.2 c cs rfl t mt
  exact .inl (by show c.pl - (d:Rat)<t.1;grind)
theorem zaT {γ:Type}{ss:List Rat}{f:Nat->Nat->Option γ}{p n q:Nat}{k:Rat}(hl:ss.length=p+(n+1)+q) (hp:p<=1) (hq:q<=1) (hk:∀i,p<=i->i<p+(n+1)->ss[i]? = some k)
  (hp0:p=1->ss[0]?≠some k) (hq0:q=1->ss[p+(n+1)]?≠some k) (f0:p=1->f 0 0=none) (f1:q=1->f (p+(n+1)) (p+(n+1))=none) :
  rlG ss f ss.length=(f p (p+n)).toList:=by
 have mid:∀j,j<=n->rlG ss f (p+j)=[]/\stG ss (p+j)=p:=λj=>by
  induction j with
  | zero =>
   intro _
   rcases uB p 1 with h | h
   ·have:p=0:=by omega
    subst this;exact⟨rfl,rfl⟩
   ·have:p=1:=by omega
    subst this
    have hb:brk ss 0=true:=by
     unfold brk
     rw[hk 1 (by omega) (by omega)]
     have:=hp0 rfl
     simp only[Wu,wH]
     exact .inr (λz=>this z.symm)
    refine⟨?_,?_⟩
    ·show (if brk ss 0=true then rlG ss f 0++(f (stG ss 0) 0).toList else rlG ss f 0)=[]
     rw[if_pos hb]
     show []++(f 0 0).toList=[]
     rw[f0 rfl];rfl
    ·show (if brk ss 0=true then 0+1 else stG ss 0)=1
     rw[if_pos hb]
  | succ j ih =>
   intro hj
   obtain⟨h1,h2⟩:=ih (by omega)
   have hb:brk ss (p+j)=false:=by
    unfold brk
    rw[hk (p+j) (by omega) (by omega),hk (p+j+1) (by omega) (by omega)]
    simp;omega
   refine⟨?_,?_⟩
   ·show (if brk ss (p+j)=true then rlG ss f (p+j)++(f (stG ss (p+j)) (p+j)).toList else rlG ss f (p+j))=[]
    rw[hb];exact h1
   ·show (if brk ss (p+j)=true then p+j+1 else stG ss (p+j))=p
    rw[hb];exact h2
 obtain⟨h1,h2⟩:=mid n (wx _)
 have hb:brk ss (p+n)=true:=by
  unfold brk
  rcases uB q 1 with h | h
  ·have:q=0:=by omega
   subst this;simp only[Wu,wH];exact .inl (by omega)
  ·have:q=1:=by omega
   subst this
   rw[hk (p+n) (by omega) (by omega)]
   simp only[Wu,wH]
   exact .inr (hq0 rfl)
 have e:rlG ss f (p+n+1)=(f p (p+n)).toList:=by
  show (if brk ss (p+n)=true then rlG ss f (p+n)++(f (stG ss (p+n)) (p+n)).toList else rlG ss f (p+n))=_
  rw[if_pos hb,h1,h2,uy]
 have es:stG ss (p+n+1)=p+n+1:=by
  show (if brk ss (p+n)=true then p+n+1 else stG ss (p+n))=_
  rw[if_pos hb]
 rw[hl]
 rcases uB q 1 with h | h
 ·have:q=0:=by omega
  subst this
  rw[show p+(n+1)+0=p+n+1 by omega];exact e
 ·have:q=1:=by omega
  subst this
  rw[show p+(n+1)+1=(p+n+1)+1 by omega]
  show (if brk ss (p+n+1)=true then rlG ss f (p+n+1)++(f (stG ss (p+n+1)) (p+n+1)).toList else rlG ss f (p+n+1))=_
  rw[if_pos (by unfold brk;simp only[Wu,wH];exact .inl (by omega)),es,e]
  have:=f1 rfl
  rw[show p+(n+1)=p+n+1 by omega]at this
  rw[this];simp
theorem zgx {bs:List zJ}{lo hi:Wl}(F:FoR bs lo hi) (n1:1<=bs.length):∃m side pl,FoG bs lo hi m side/\(∀b∈bs,b.pl+b.sp*m=pl)/\(∀x y,lo=some (x,y)->x+y*m=pl)/\(∀x y,hi=some (x,y)->x+y*m=pl):=by
 obtain⟨m,side,G⟩:=fo_g F n1
 obtain⟨m',e,_,pl,h1,h2,h3⟩:=zaw F
 rw[G.soon]at e
 cases e
 exact⟨m,side,pl,G,h1,h2,h3⟩
theorem XS {d:Int}(h:1<=d):(0:Rat)<(d:Rat):=by
 have:(0:Int)<d:=by omega
 exact_mod_cast this
theorem Xy {l:Wl}{m pl k:Rat}(h:∀x y,l=some (x,y)->x+y*m=pl) (hk:k≠pl):atW (zR m l) k=false:=by
 cases l with
 | none=>rfl
 | some u =>
  obtain⟨x,y⟩:=u
  show decide (x+y*m=k)=false
  rw[decide_eq_false_iff_not]
  intro z
  exact hk (by rw[<-z];exact h x y rfl)
theorem zcF {bs L R:List zJ}{lo hi:Wl}{m pl:Rat}{side:Str}(F:FoG bs lo hi m side) (hpl:∀b∈bs,b.pl+b.sp*m=pl) (hlo:∀x y,lo=some (x,y)->x+y*m=pl) (hhi:∀x y,hi=some (x,y)->x+y*m=pl) (n1:1<=bs.length) (hL:Jy bs lo L) (hR:Jz bs hi R) :
  grL ((L++bs++R).map (zN m)) (zR m lo) (zR m hi)=[(L.length,L.length+(bs.length - 1),side)]/\qN (zR m lo) (zR m hi) pl=side:=by
 obtain⟨n,hn⟩:∃n,bs.length=n+1:=⟨bs.length - 1,by omega⟩
 have hL1:L.length<=1:=by rcases hL with rfl | ⟨_,_,_,_,_,_,_,rfl⟩ <;> simp
 have hR1:R.length<=1:=by rcases hR with rfl | ⟨_,_,_,_,_,_,_,rfl⟩ <;> simp
 have keyB:∀i,i<n+1->((bs.map (zN m)).map zJ.pl)[i]? = some pl:=λi hi=>by
  rw[wg,wg,wf (by omega)]
  exact congrArg some (hpl _ (uK _))
 have hB:(fL (bs.map (zN m)) (zR m lo) (zR m hi) 0 n).toList=[(0,n,side)]:=by
  have h:=F.gr
  unfold grL at h
  rw[show (bs.map (zN m)).length=((bs.map (zN m)).map zJ.pl).length by simp]at h
  rw[zaT (p:=0) (n:=n) (q:=0) (k:=pl) (by simp[hn]) (by omega) (by omega) (λi _ h=>keyB i (by omega)) (λz=>by omega) (λz=>by omega) (λz=>by omega) (λz=>by omega)]at h
  rw[Nat.zero_add]at h
  rw[h,hn];rfl
 have hB':fL (bs.map (zN m)) (zR m lo) (zR m hi) 0 n=some (0,n,side):=by
  cases e:fL (bs.map (zN m)) (zR m lo) (zR m hi) 0 n with
  | none=>rw[e]at hB;cases hB
  | some g=>rw[e]at hB;simpa using hB
 unfold fL at hB'
 split at hB'
 case isFalse=>cases hB'
 case isTrue hc =>
  rw[keyB 0 (by omega)]at hB'
  have hs:qN (zR m lo) (zR m hi) pl=side:=by simpa using hB'
  refine⟨?_,hs⟩
  obtain⟨cs,ecs⟩:∃cs,cs=(L++bs++R).map (zN m):=⟨_,rfl⟩
  rw[<-ecs]
  have hcl:cs.length=L.length+(n+1)+R.length:=by rw[ecs];simp[hn];omega
  have mid:∀i,i<n+1->cs[L.length+i]? = (bs.map (zN m))[i]?:=λi hi=>by
   rw[ecs,w8,w8,wU,wm (by simp),we,uZ,wu (by simp;omega)]
  unfold grL
  rw[show cs.length=(cs.map zJ.pl).length by simp]
  rw[zaT (p:=L.length) (n:=n) (q:=R.length) (k:=pl) (by simp[hcl]) hL1 hR1 ?_ ?_ ?_ ?_ ?_]
  ·have e1:qV cs (zR m lo) (zR m hi) L.length (L.length+n)=qV (bs.map (zN m)) (zR m lo) (zR m hi) 0 n:=by
    unfold qV
    have a0:=mid 0 (by omega)
    rw[Nat.add_zero]at a0
    rw[a0,mid n (by omega)]
   unfold fL
   rw[if_pos (by rcases hc with h | h
                 ·exact .inl (by omega)
                 ·exact .inr (by rw[e1];exact h))]
   have a0:=mid 0 (by omega)
   rw[Nat.add_zero]at a0
   have k0:=keyB 0 (by omega)
   rw[wg]at k0
   rw[wg,a0,k0,hn]
   show [(L.length,L.length+n,qN (zR m lo) (zR m hi) pl)]=_
   rw[hs];rfl
  ·intro i h1 h2
   obtain⟨j,rfl⟩:∃j,i=L.length+j:=⟨i - L.length,by omega⟩
   have k0:=keyB j (by omega)
   rw[wg]at k0
   rw[wg,mid j (by omega)];exact k0
  ·intro hp
   rcases hL with rfl | ⟨rfl,cs',c,d,rfl,d1,_,rfl⟩
   ·simp at hp
   ·rw[ecs]
    have:=hpl c (by simp)
    have dp:=XS d1
    simp[zN]
    grind
  ·intro hq
   rcases hR with rfl | ⟨rfl,cs',c,d,rfl,d1,_,rfl⟩
   ·simp at hq
   ·have:=hpl c (by simp)
    have dp:=XS d1
    have e:(cs.map zJ.pl)[L.length+(n+1)]? = some (c.pl+(d:Rat)+c.sp*m):=by
     rw[ecs,wg,wg,wm (by simp at hn ⊢;omega)]
     rw[show L.length+(n+1) - (L++(cs'++[c])).length=0 by simp at hn ⊢;omega]
     rfl
    rw[e]
    simp
    grind
  ·intro hp
   rcases hL with rfl | ⟨rfl,cs',c,d,rfl,d1,_,rfl⟩
   ·simp at hp
   ·have:=hpl c (by simp)
    have dp:=XS d1
    unfold fL
    have ec:cs[0]? = some ⟨c.pl - (d:Rat)+c.sp*m,c.sp,c.wt+2⟩:=by rw[ecs];rfl
    rw[if_neg]
    rintro (z | z)
    ·omega
    ·rw[ZE ec ec,Xy hlo (by dsimp only;grind),Xy hhi (by dsimp only;grind)]at z
     simp at z
  ·intro hq
   rcases hR with rfl | ⟨rfl,cs',c,d,rfl,d1,_,rfl⟩
   ·simp at hq
   ·have:=hpl c (by simp)
    have dp:=XS d1
    have ec:cs[L.length+(n+1)]? = some ⟨c.pl+(d:Rat)+c.sp*m,c.sp,c.wt+1⟩:=by
     rw[ecs,wg,wm (by simp at hn ⊢;omega)]
     rw[show L.length+(n+1) - (L++(cs'++[c])).length=0 by simp at hn ⊢;omega]
     rfl
    unfold fL
    rw[if_neg]
    rintro (z | z)
    ·omega
    ·rw[ZE ec ec,Xy hlo (by dsimp only;grind),Xy hhi (by dsimp only;grind)]at z
     simp at z
open KQ (blT ZZ zbj pbO sbO)
theorem zeV {pb sb:Int}{t:Int×Int}{x y m:Rat}(hp:0<pb) (hs:0<sb) (ht:0<t.2) (d1:(x.den:Int) ∣ pb) (d2:(y.den:Int) ∣ sb) (hm:qD (Rat.divInt sb pb) t=m):ptT pb sb t (trB pb sb (x,y))=(x+y*m,y):=by
 have k1:=Qp hp ht d1 d2 hm
 have e2:(((trB pb sb (x,y)).2:Int):Rat)=y*sb:=byq d2
 unfold ptT
 have q0:pb*t.2≠0:=yc (by omega) (by omega)
 rw[dq q0,dq (show sb≠0 by omega),k1,e2]
 have h1:=ic0 q0
 have h2:=ic0 (show sb≠0 by omega)
 push_cast at h1 ⊢
 exact W9 (by dsimp only;grind) (by dsimp only;grind)
theorem Qg {bs cs:List zJ}{a:Nat}{ss:List Rat}:∀{j:Nat},a+j<=cs.length->∀i,(Xg bs cs a ss j)[i]? = if a<=i/\i<a+j then some (nbB bs a ss (i - a))else cs[i]?
 | 0,_,i=>by rw[if_neg (by omega)];rfl
 | j+1,h,i=>by
  show ((Xg bs cs a ss j).set (a+j) (nbB bs a ss j))[i]? = _
  rw[Wb,je]
  by_cases e:a+j=i
  ·subst e
   rw[if_pos rfl,if_pos (by omega),if_pos (by omega),uZ]
  ·rw[if_neg e,Qg (by omega) i]
   by_cases c:a<=i/\i<a+j
   ·rw[if_pos c,if_pos (by omega)]
   ·rw[if_neg c,if_neg (by omega)]
theorem zfz {side:Str}{lo hi:Wl}{f:Rat×Rat->Int×Int}(h:side = "low"\/side = "high"\/side = ""):xm side (lo.map f) (hi.map f)=(x9 side lo hi).map f:=by
 unfold xm x9
 rcases h with rfl | rfl | rfl
 ·rfl
 ·rfl
 ·rfl
theorem zbA {ws:List Int}{vs ss ss':List Rat}{wv:Option Rat}(h:v8 ws vs wv ss) (k:v8 ws vs wv ss'):ss=ss':=by
 rcases h with⟨h0,w0,w1,s0,s1,e1,e2,e3⟩ | ⟨h0,h1,h2⟩
 ·rcases k with⟨_,w0',w1',s0',s1',e1',e2',e3'⟩ | ⟨k0,_,_⟩
  ·rw[e1]at e1';rw[e2]at e2'
   cases e1';cases e2'
   rw[e3,e3']
  ·exact absurd ⟨h0,by rw[e1];rfl⟩ k0
 ·rcases k with⟨k0,w0',w1',s0',s1',e1',_,_⟩ | ⟨_,_,k2⟩
  ·exact absurd ⟨k0,by rw[e1'];rfl⟩ h0
  ·exact zdH h2 k2
theorem Zg {m:Rat}{l:Wl}:zR m l=l.map λu=>(u.1+u.2*m,u.2):=by cases l <;> rfl
theorem zf0 {H:Hp}:∀{us:List V}{bs:List zJ},ZZ H us (bs.map bl)->zH H us bs
 | [],[],_=>.nil
 | [],_::_,h=>by have:=h.1;simp at this
 | _::_,[],h=>by have:=h.1;simp at this
 | u::us,b::bs,h=>by
  obtain⟨b',e,a,p,q,rfl,h1,h2,h3⟩:=h.2 0 u rfl
  cases e
  exact .cons h1 h2 h3 (zf0 ⟨by have:=h.1;simpa using this,λi v e=>by obtain⟨b,e1,e2⟩:=h.2 (i+1) v (by simpa using e);exact⟨b,by simpa using e1,e2⟩⟩)
theorem zbu {ws:List Int}{l:List (Nat×Nat×Str)}{a b:KQ.SC}(h:KQ.jD ws l a b) (e:l=[]):b=a:=by
 cases h with
 | nil=>rfl
 | snoc h r=>simp at e
theorem zbv {ws:List Int}{g:Nat×Nat×Str}{a b:KQ.SC}(h:KQ.jD ws [g] a b):KQ.RbS ws g a b:=by
 generalize hl:[g]=l at h
 cases h with
 | nil=>cases hl
 | @snoc gs g' _ s _ h r =>
  match gs,hl,h with
  | [],hl,h =>
   have e2:g=g':=by simpa using hl
   have e3:=zbu h rfl
   rw[e2];subst e3;exact r
  | x::xs,hl,h=>simp at hl
theorem zd9 {rs:List zJ}{lo hi:Wl}{t:Int×Int}{m pl:Rat}{a b:Nat}{side:Str}{S:SC}(B:Bot rs lo hi) (ht:0<t.2) (hm:qD (tkO (rs.map bl) lo hi) t=m) (hw:∀c∈rs,1<=c.wt/\c.wt<=1000) (hab:a<=b) (hb:b<rs.length) (hsd:side = "low"\/side = "high"\/side = "")
  (hpl:∀i,a<=i->i<=b->∀c,rs[i]? = some c->c.pl+c.sp*m=pl) (hwp:∀u,x9 side lo hi=some u->u.1+u.2*m=pl) (C:jD ((rs.map bl).map KQ.Bl.wt) [(a,b,side)] (S0 (rs.map bl) lo hi) S) :
  ∃ss,ss.length=b+1 - a/\v8 ((sgB (rs.map (zN m)) (a,b,side)).map zJ.wt) ((sgB (rs.map (zN m)) (a,b,side)).map zJ.sp) ((x9 side (zR m lo) (zR m hi)).map Prod.snd) ss ∧
   (S.trs.zip ((rs.map bl).map KQ.Bl.wt)).map (λz=>blT S.pb S.sb t z.1 z.2)=(Xg (rs.map (zN m)) (rs.map (zN m)) a ss (b+1 - a)).map bl/\S.lo.map (ptT S.pb S.sb t)=zR m lo/\S.hi.map (ptT S.pb S.sb t)=zR m hi:=by
 have r:=zbv C
 have ews:(rs.map bl).map KQ.Bl.wt=rs.map zJ.wt:=by rw[wV];rfl
 rw[ews]at r ⊢
 have ept:∀u∈tl rs lo hi,ptT (S0 (rs.map bl) lo hi).pb (S0 (rs.map bl) lo hi).sb t (trB (S0 (rs.map bl) lo hi).pb (S0 (rs.map bl) lo hi).sb u)=(u.1+u.2*m,u.2):=λu mu=>by
  obtain⟨x,y⟩:=u
  obtain⟨d1,d2⟩:=B.dv _ mu
  exact zeV B.p0 B.s0 ht d1 d2 hm
 have mB:∀c∈rs,(c.pl,c.sp)∈tl rs lo hi:=λc mc=>by unfold tl;exact wT _ (wC _ (ww.mpr ⟨c,mc,rfl⟩))
 have etrs:(S0 (rs.map bl) lo hi).trs=rs.map λc=>trB (pbO (rs.map bl) lo hi) (sbO (rs.map bl) lo hi) (c.pl,c.sp):=Vy rs lo hi
 have eT:(S0 (rs.map bl) lo hi).trs.map (ptT (S0 (rs.map bl) lo hi).pb (S0 (rs.map bl) lo hi).sb t)=(rs.map (zN m)).map Xf:=by
  rw[etrs,wV,wV]
  exact uk λc mc=>ept _ (mB c mc)
 have elen:(S0 (rs.map bl) lo hi).trs.length=rs.length:=by rw[etrs,we]
 have ewl:xm side (S0 (rs.map bl) lo hi).lo (S0 (rs.map bl) lo hi).hi=(x9 side lo hi).map (trB (pbO (rs.map bl) lo hi) (sbO (rs.map bl) lo hi)):=zfz hsd
 have mW:∀u,x9 side lo hi=some u->u∈tl rs lo hi:=λu e=>by
  unfold x9 at e
  split at e
  ·unfold tl;rw[e];simp[xx]
  ·split at e
   ·unfold tl;rw[e];simp[xx]
   ·cases e
 have eW2:((xm side (S0 (rs.map bl) lo hi).lo (S0 (rs.map bl) lo hi).hi).map λl=>(ptT (S0 (rs.map bl) lo hi).pb (S0 (rs.map bl) lo hi).sb t l).2)=(x9 side (zR m lo) (zR m hi)).map Prod.snd:=by
  rw[ewl]
  have e1:x9 side (zR m lo) (zR m hi)=(x9 side lo hi).map λu=>(u.1+u.2*m,u.2):=by
   unfold x9
   split
   ·exact Zg
   ·split
    ·exact Zg
    ·rfl
  rw[e1,uH,uH]
  cases ew:x9 side lo hi with
  | none=>rfl
  | some u=>exact congrArg some (congrArg Prod.snd (ept u (mW u ew)))
 obtain⟨p1,s1,hl,elo,ehi,ss,hsl,hd,hT⟩:=zi0 (t:=t) (pl:=pl) (g:=(a,b,side)) (λx mx=>by obtain⟨c,mc,rfl⟩:=ww.mp mx;exact hw c mc) B.p0 B.s0 ht r hab (by rw[elen];exact hb) (by rw[we,elen]) (λl ml=>by
   obtain⟨j,hj⟩:=yO ml
   rw[y7]at hj
   split at hj
   ·rw[yk,etrs,wg]at hj
    cases ec:rs[a+j]? with
    | none=>rw[ec]at hj;cases hj
    | some c =>
     rw[ec]at hj;cases hj
     have:=ept _ (mB c (wj ec))
     exact(congrArg Prod.fst this).trans (hpl (a+j) (by omega) (by dsimp only at *;omega) c ec)
   ·cases hj) (λu eu=>by
   rw[ewl]at eu
   cases ew:x9 side lo hi with
   | none=>rw[ew]at eu;cases eu
   | some v =>
    rw[ew]at eu;cases eu
    exact(congrArg Prod.fst (ept v (mW v ew))).trans (hwp v ew))
 dsimp only at hsl hd hT
 rw[eT]at hT
 have hsg:((S0 (rs.map bl) lo hi).trs.drop a).take (b+1 - a)=(sgB rs (a,b,side)).map λc=>trB (pbO (rs.map bl) lo hi) (sbO (rs.map bl) lo hi) (c.pl,c.sp):=by
  rw[etrs];unfold sgB;dsimp only;rw[Wk,Wm]
 have hsg':sgB (rs.map (zN m)) (a,b,side)=(sgB rs (a,b,side)).map (zN m):=by unfold sgB;dsimp only;rw[Wk,Wm]
 have ms:∀c∈sgB rs (a,b,side),c∈rs:=λc mc=>yP (yQ mc)
 refine⟨ss,hsl,?_,?_,?_,?_⟩
 ·rw[eW2,hsg,wV]at hd
  have e1:xO (rs.map zJ.wt) a b=(sgB (rs.map (zN m)) (a,b,side)).map zJ.wt:=by
   unfold xO
   rw[ZC,hsg',wV]
   unfold sgB;dsimp only
   rw[Wk,Wm];rfl
  have e2:((sgB rs (a,b,side)).map ((λl=>(ptT (S0 (rs.map bl) lo hi).pb (S0 (rs.map bl) lo hi).sb t l).2) ∘ λc=>trB (pbO (rs.map bl) lo hi) (sbO (rs.map bl) lo hi) (c.pl,c.sp)))=(sgB (rs.map (zN m)) (a,b,side)).map zJ.sp:=by
   rw[hsg',wV]
   exact uk λc mc=>congrArg Prod.snd (ept _ (mB c (ms c mc)))
  rw[e1,e2]at hd
  exact hd
 ·refine uE λi=>?_
  have hlen:(Xg (rs.map (zN m)) (rs.map (zN m)) a ss (b+1 - a)).length=rs.length:=by rw[je,we]
  by_cases hi':i<rs.length
  ·obtain⟨c,ec⟩:∃c,rs[i]? = some c:=⟨_,wf hi'⟩
   obtain⟨tr,etr⟩:∃tr,S.trs[i]? = some tr:=⟨_,wf (by omega)⟩
   have eL:((S.trs.zip (rs.map zJ.wt)).map λz=>blT S.pb S.sb t z.1 z.2)[i]? = some (blT S.pb S.sb t tr c.wt):=by
    rw[wg,yn.mpr (⟨etr,by rw[wg,ec];rfl⟩:S.trs[i]? = some (tr,c.wt).1/\(rs.map zJ.wt)[i]? = some (tr,c.wt).2)];rfl
   have ept':(S.trs.map (ptT S.pb S.sb t))[i]? = some (ptT S.pb S.sb t tr):=by rw[wg,etr];rfl
   have eth:(rs.map (zN m))[i]? = some (zN m c):=by rw[wg,ec];rfl
   have etp:((rs.map (zN m)).map Xf)[i]? = some (Xf (zN m c)):=by rw[wg,eth];rfl
   rw[eL,wg,Qg (by rw[we];omega) i]
   rw[hT]at ept'
   have hT1:(((rs.map (zN m)).map Xf).take a).length=a:=by rw[w5,we,we];omega
   by_cases c1:a<=i/\i<a+(b+1 - a)
   ·rw[if_pos c1]
    rw[wU,wm (by omega),hT1,wu (by rw[we];omega),wg]at ept'
    obtain⟨v,ev⟩:∃v,ss[i - a]? = some v:=⟨_,wf (by omega)⟩
    rw[ev]at ept'
    have ept':ptT S.pb S.sb t tr=(pl,v):=(Option.some.inj ept').symm
    have hp':=hpl i c1.1 (by omega) c ec
    unfold nbB blT
    rw[show a+(i - a)=i by omega,eth,ev,ept']
    show some (KQ.Bl.mk pl v c.wt)=some (KQ.Bl.mk (c.pl+c.sp*m) v c.wt)
    rw[hp']
   ·rw[if_neg c1,eth]
    have e:ptT S.pb S.sb t tr=Xf (zN m c):=by
     by_cases c2:i<a
     ·rw[wU,wu (by omega),y7,if_pos c2,etp]at ept'
      exact(Option.some.inj ept').symm
     ·rw[wm (by rw[wE,hT1,we];omega),wE,hT1,we,yk,show b+1+(i - (a+ss.length))=i by omega,etp]at ept'
      exact(Option.some.inj ept').symm
    unfold blT
    rw[e];rfl
  ·rw[wY (by rw[we,ua,we];omega),wY (by rw[we,hlen];omega)]
 ·rw[elo,Zg]
  show (lo.map (trB (pbO (rs.map bl) lo hi) (sbO (rs.map bl) lo hi))).map _=_
  rw[uH]
  cases lo with
  | none=>rfl
  | some u=>exact congrArg some (ept u (by unfold tl;simp[xx]))
 ·rw[ehi,Zg]
  show (hi.map (trB (pbO (rs.map bl) lo hi) (sbO (rs.map bl) lo hi))).map _=_
  rw[uH]
  cases hi with
  | none=>rfl
  | some u=>exact congrArg some (ept u (by unfold tl;simp[xx]))
end KT
namespace K3
open PySem L2 KM KK
structure Tx3 (K:Fg) (mg:Str->Option Value) (tb tw:Tok) (aN:Addr):Prop where
 nAll:mg "all" = none
 nZip:mg "zip" = none
 mb:mg "MOST_BALLS" = some (.int 8 tb)
 mw:mg "MOST_WEIGHT" = some (.int 1000 tw)
 tt:PySem.W.kitOne K (.type "tuple") (.type "tuple")=some true
 bb:PySem.W.kitOne K (.type "bool") (.type "bool")=some true
theorem _root_.KK.zV.same {H H':Hp}{v:V}{l:Wl}(h:zV H v l) (e:zi H H'):zV H' v l:=by
 cases l with
 | none=>exact h
 | some z=>obtain⟨a,p,q,e1,e2,e3,e4⟩:=h;exact⟨a,p,q,e1,e _ _ e2,e3.same e,e4.same e⟩
def WSz (l:Wl):Prop:=∀x y,l=some (x,y)->Sz 4000 x/\Sz 4000 y
def wgood:Wl->Wl->Bool
 | some l,some h=>decide (l.1<h.1)
 | _,_=>true
def fol (x y x' y':Rat):Bool:=if x=x' then decide (y<y')else decide (x<x')
def Two (H:Hp) (v:V) (x y:Rat):Prop:=∃a p q r,v = .ref a/\H a=some (.tup (.ref p::.ref q::r))/\zD H p x/\zD H q y/\(r=[]\/∃n,r=[.int n])
theorem Two.same {H H':Hp}{v:V}{x y:Rat}(h:Two H v x y) (e:zi H H'):Two H' v x y:=by
 obtain⟨a,p,q,r,e1,e2,e3,e4,e5⟩:=h;exact⟨a,p,q,r,e1,e _ _ e2,e3.same e,e4.same e,e5⟩
theorem _root_.KK.zV.two {H:Hp}{v:V}{x y:Rat}(h:zV H v (some (x,y))):Two H v x y:=by
 obtain⟨a,p,q,e1,e2,e3,e4⟩:=h;exact⟨a,p,q,[],e1,e2,e3,e4,.inl rfl⟩
theorem zef (x y x' y':Rat):PyData.eqv (.tuple [.tuple [.int x.num,.int (x.den:Int)],.tuple [.int y.num,.int (y.den:Int)]]) (.tuple [.tuple [.int x'.num,.int (x'.den:Int)],.tuple [.int y'.num,.int (y'.den:Int)]])=(decide (x=x')&&decide (y=y')):=by
 have e1:=Z9 x x'
 have e2:=Z9 y y'
 simp only[PyData.eqv,PyData.eqvAll,Bool.and_true]at e1 e2 ⊢
 rw[e1,e2]
theorem iteD {c:Prop} [Decidable c] {A B:Prop}(e:¬c) (h:B):if decide c=true then A else B:=by
 rw[wI e];exact xo h
section
variable {P:Program}{w:World}{K:Fg}{mg:Str->Option Value}{base:Heap}{tb tw:Tok}{aN:Addr}
inductive zb7  (vs:List V) (H:Hp) (Q:VK) (_e3:XK):Prop
 | mk:∀p xs n,(vs=[.ref p,.int n])->(H p=some (.tup xs))->(Q (.bl (decide (V.int (xs.length:Nat)=V.int n))) H)->zb7 vs H Q _e3
theorem zds:zF ["thing","many"] ["thing","many"] (zr jl):=scq
theorem ok_tu (D:Df K mg "is_tuple" jl ["thing","many"] []) (T:TxB K mg) (T3:Tx3 K mg tb tw aN):Cal P w K mg base "is_tuple" 1 ["thing","many"] [] zb7:=by
 refine D.cal (k:=0) zds (λvs H Q E h=>by obtain⟨_,_,_,rfl,_⟩:=h;rfl) (λf cdv A outer s H vs Q E hr h=>?_)
 obtain⟨p,xs,n,rfl,hp,k⟩:=h
 refine⟨_,(zh (zL (q8 (zX vS (by rfl) T.nIs yS (zd (pv 0) (zd (XC (v:=.ty "tuple") (u:=.type "tuple") (by rfl) T.nTuple yl rfl) zf))) (vB (qG qL (zX xc (by rfl) T.nLen PySem.boot_len (zd (pv 0) zf)) (pv 1) (zM _)))))),?_⟩
 exact⟨_,rfl,_,_,_,true,rfl,.tup hp,T3.tt,true,rfl,xw ⟨_,rfl,p,_,rfl,.inr (SqT.of hp),_,rfl,rfl,k⟩⟩
inductive zfo  (vs:List V) (H:Hp) (Q:VK) (_e3:XK):Prop
 | mk:∀p x,(vs=[.ref p])->(zD H p x)->(Q (.bl true) H)->zfo vs H Q _e3
theorem zel (x:Rat):(Int.gcd (if x.num<0 then -x.num else x.num) (x.den:Int):Int)=1:=by
 rw[v5]
 have:=x.reduced
 show ((Nat.gcd x.num.natAbs x.den:Nat):Int)=1
 rw[this];rfl
theorem J6:zF ["thing","top","bottom"] ["thing"] (zr jk):=scq
theorem ok_ir (D:Df K mg "is_ratio" jk ["thing"] []) (T:TxB K mg) (cTu:Cal P w K mg base "is_tuple" 1 ["thing","many"] [] zb7) (cW:Cal P w K mg base "is_whole" 1 ["thing"] [] Zf) (cG:Cal P w K mg base "greatest_divisor" 1 ["one","other"] [] QU) :
  Cal P w K mg base "is_ratio" 2 ["thing"] [] zfo:=by
 refine D.cal (k:=1) J6 (λvs H Q E h=>by obtain⟨_,_,rfl,_⟩:=h;rfl) (λf cdv A outer s H vs Q E hr1 h=>?_)
 obtain⟨p,x,rfl,hp,k⟩:=h
 refine⟨_,(zA (xh (qQ (xz (zP cTu hr1 (zd (pv 0) (zd ze zf))) λ_=>rfl)) (zh (zL jx)) zT)
  (zA (qg (pv 0) (qv rfl (zS (zK (i:=1) J6.nd rfl (Or.inl rfl)) (zS (zK (i:=2) J6.nd rfl (Or.inl rfl)) xD))))
  (zA (xh ((vN (qQ (xz (zP cW hr1 (zd (pv 1) zf)) λ_=>rfl)) (vN (qQ (xz (zP cW hr1 (zd (pv 2) zf)) λ_=>rfl)) (vO (zI jb (pv 2) ze (zM _)))))).pt (zh (zL jx)) zT)
  (zh (zL (qG qL (zP cG hr1 (zd (zX jF (by rfl) T.nAbs y6 (zd (pv 1) zf)) (zd (pv 2) zf))) ze (zM _))))))),?_⟩
 refine⟨_,rfl,p,_,_,rfl,hp,_,rfl,xo ?_⟩
 refine⟨_,rfl,p,_,rfl,SqT.of hp,rfl,_,_,rfl,_,_,rfl,rfl,?_⟩
 refine⟨_,rfl,_,rfl,true,rfl,xo ⟨_,rfl,_,rfl,true,rfl,xo ?_⟩⟩
 refine⟨_,rfl,_,_,rfl,rfl,_,rfl,iteD (by have:=den_pos x;omega) ?_⟩
 refine⟨_,rfl,_,rfl,_,rfl,_,_,rfl,(by rw[v5];omega),(by omega),rfl,?_⟩
 show Q (.bl (decide (V.int (Int.gcd (if x.num<0 then -x.num else x.num) (x.den:Int):Int)=V.int 1))) H
 rw[zel,wq rfl];exact k
inductive Qo  (vs:List V) (H:Hp) (Q:VK) (_e3:XK):Prop
 | mk:∀p q x y,(vs=[.ref p,.ref q])->(zD H p x)->(zD H q y)->(Sz2 x y)->(Q (.bl (decide (x<y))) H)->Qo vs H Q _e3
theorem zi8:zF ["one","other"] ["one","other"] (zr Xi):=scq
theorem zgQ (x y:Rat):decide (x.num*y.den<y.num*x.den)=decide (x<y):=by
 rw[yv,wH,wH];exact jL x y
theorem ok_lt (D:Df K mg "less" Xi ["one","other"] []):Cal P w K mg base "less" 1 ["one","other"] [] Qo:=by
 refine D.cal (k:=0) zi8 (λvs H Q E h=>by obtain⟨_,_,_,_,rfl,_⟩:=h;rfl) (λf cdv A outer s H vs Q E hr h=>?_)
 obtain⟨p,q,x,y,rfl,hp,hq,⟨hx,hy⟩,k⟩:=h
 have bx:=Bd4 hx
 have b_y:=Bd4 hy
 refine⟨_,zh (zL (qG jb (zB zU (zk zj (pv 0) ze (λ_ _=>rfl)) (zk zj (pv 1) ze (λ_ _=>rfl))) (zB zU (zk zj (pv 1) ze (λ_ _=>rfl)) (zk zj (pv 0) ze (λ_ _=>rfl))) (zM _))),?_⟩
 refine⟨_,rfl,p,_,_,_,rfl,rfl,.of hp,at0 ..,_,rfl,q,_,_,_,rfl,rfl,.of hq,at1 ..,_,_,rfl,rfl,⟨bx.1,b_y.2⟩,_,rfl,q,_,_,_,rfl,rfl,.of hq,at0 ..,_,rfl,p,_,_,_,rfl,rfl,.of hp,at1 ..,_,_,rfl,rfl,⟨b_y.1,bx.2⟩,_,_,rfl,rfl,?_⟩
 show Q (.bl (decide (x.num*y.den<y.num*x.den))) H
 rw[zgQ];exact k
inductive zhN  (vs:List V) (H:Hp) (Q:VK) (_e3:XK):Prop
 | mk:∀v l,(vs=[v])->(zV H v l)->(Q (.bl true) H)->zhN vs H Q _e3
theorem zbW:zF ["thing"] ["thing"] (zr j4):=scq
theorem ok_wa (D:Df K mg "is_wall" j4 ["thing"] []) (cTu:Cal P w K mg base "is_tuple" 1 ["thing","many"] [] zb7) (cIr:Cal P w K mg base "is_ratio" 2 ["thing"] [] zfo):Cal P w K mg base "is_wall" 3 ["thing"] [] zhN:=by
 refine D.cal (k:=2) zbW (λvs H Q E h=>by obtain⟨_,_,rfl,_⟩:=h;rfl) (λf cdv A outer s H vs Q E hr2 h=>?_)
 obtain⟨v,l,rfl,hw,k⟩:=h
 have hr1:xn 1 _:=hr2.mono (by decide)
 refine⟨_,(zA (xh (zI xW (pv 0) zW (zM _)) (zh (zL jx)) zT)
  (zh (zL (q8 (zP cTu hr1 (zd (pv 0) (zd ze zf))) (q8 (zP cIr hr2 (zd (zk zj (pv 0) ze (λ_ _=>rfl)) zf)) (vB (zP cIr hr2 (zd (zk zj (pv 0) ze (λ_ _=>rfl)) zf)))))))),?_⟩
 cases l with
 | none =>
  obtain rfl:v = .non:=hw
  exact⟨_,rfl,rfl,_,rfl,xw k⟩
 | some z =>
  obtain⟨x,y⟩:=z
  obtain⟨a,p,q,rfl,ha,hp,hq⟩:=hw
  refine⟨_,rfl,rfl,_,rfl,xo ?_⟩
  refine⟨_,rfl,a,_,_,rfl,ha,true,rfl,xw ?_⟩
  refine⟨_,rfl,a,_,_,_,rfl,rfl,.of ha,rfl,p,x,rfl,hp,true,rfl,xw ?_⟩
  exact⟨_,rfl,a,_,_,_,rfl,rfl,.of ha,rfl,q,y,rfl,hq,k⟩
inductive zhP  (vs:List V) (H:Hp) (Q:VK) (_e3:XK):Prop
 | mk:∀a v1 v2 l1 l2,(vs=[.ref a])->(H a=some (.tup [v1,v2]))->(zV H v1 l1)->(zV H v2 l2)->(Q (.bl true) H)->zhP vs H Q _e3
theorem zfa:zF ["thing"] ["thing"] (zr qT):=scq
theorem ok_wp (D:Df K mg "is_wall_pair" qT ["thing"] []) (cTu:Cal P w K mg base "is_tuple" 1 ["thing","many"] [] zb7) (cWa:Cal P w K mg base "is_wall" 3 ["thing"] [] zhN):Cal P w K mg base "is_wall_pair" 4 ["thing"] [] zhP:=by
 refine D.cal (k:=3) zfa (λvs H Q E h=>by obtain⟨_,_,_,_,_,rfl,_⟩:=h;rfl) (λf cdv A outer s H vs Q E hr3 h=>?_)
 obtain⟨a,v1,v2,l1,l2,rfl,ha,h1,h2,k⟩:=h
 have hr1:xn 1 _:=hr3.mono (by decide)
 refine⟨_,(zh (zL (q8 (zP cTu hr1 (zd (pv 0) (zd ze zf))) (q8 (zP cWa hr3 (zd (zk zj (pv 0) ze (λ_ _=>rfl)) zf)) (vB (zP cWa hr3 (zd (zk zj (pv 0) ze (λ_ _=>rfl)) zf))))))),?_⟩
 refine⟨_,rfl,a,_,_,rfl,ha,true,rfl,xw ?_⟩
 refine⟨_,rfl,a,_,_,_,rfl,rfl,.of ha,rfl,v1,l1,rfl,h1,true,rfl,xw ?_⟩
 exact⟨_,rfl,a,_,_,_,rfl,rfl,.of ha,rfl,v2,l2,rfl,h2,k⟩
inductive zhO  (vs:List V) (H:Hp) (Q:VK) (_e3:XK):Prop
 | mk:∀a v1 v2 l1 l2,(vs=[.ref a])->(H a=some (.tup [v1,v2]))->(zV H v1 l1)->(zV H v2 l2)->(WSz l1)->(WSz l2)->(Q (.bl (wgood l1 l2)) H)->zhO vs H Q _e3
theorem Qj:zF ["thing","low","high"] ["thing"] (zr vK):=scq
theorem ok_wg (D:Df K mg "walls_good" vK ["thing"] []) (cWp:Cal P w K mg base "is_wall_pair" 4 ["thing"] [] zhP) (cLt:Cal P w K mg base "less" 1 ["one","other"] [] Qo):Cal P w K mg base "walls_good" 5 ["thing"] [] zhO:=by
 refine D.cal (k:=4) Qj (λvs H Q E h=>by obtain⟨_,_,_,_,_,rfl,_⟩:=h;rfl) (λf cdv A outer s H vs Q E hr h=>?_)
 obtain⟨a,v1,v2,l1,l2,rfl,ha,h1,h2,z1,z2,k⟩:=h
 have hr1:xn 1 _:=hr.mono (by decide)
 refine⟨_,(zA (xh (qQ (xz (zP cWp hr (zd (pv 0) zf)) λ_=>rfl)) (zh (zL jx)) zT)
  (zA (qg (pv 0) (qv rfl (zS (zK (i:=1) Qj.nd rfl (Or.inl rfl)) (zS (zK (i:=2) Qj.nd rfl (Or.inl rfl)) xD))))
  (zh (zL (zaM (qG xW (pv 1) zW (zM _)) (zaM (qG xW (pv 2) zW (zM _)) (vB (zP cLt hr1 (zd (zk zj (pv 1) ze (λ_ _=>rfl)) (zd (zk zj (pv 2) ze (λ_ _=>rfl)) zf)))))))))),?_⟩
 refine⟨_,rfl,a,v1,v2,l1,l2,rfl,ha,h1,h2,true,rfl,xo ?_⟩
 refine⟨_,rfl,a,_,rfl,SqT.of ha,rfl,_,_,rfl,_,_,rfl,rfl,?_⟩
 cases l1 with
 | none =>
  obtain rfl:v1 = .non:=h1
  exact⟨_,rfl,rfl,true,rfl,xw k⟩
 | some l =>
  obtain⟨x,y⟩:=l
  obtain⟨b,p,q,rfl,hb,hp,hq⟩:=h1
  refine⟨_,rfl,rfl,false,rfl,xo ?_⟩
  cases l2 with
  | none =>
   obtain rfl:v2 = .non:=h2
   exact⟨_,rfl,rfl,true,rfl,xw k⟩
  | some l' =>
   obtain⟨x',y'⟩:=l'
   obtain⟨b',p',q',rfl,hb',hp',hq'⟩:=h2
   refine⟨_,rfl,rfl,false,rfl,xo ?_⟩
   refine⟨_,rfl,b,_,_,_,rfl,rfl,.of hb,rfl,_,rfl,b',_,_,_,rfl,rfl,.of hb',rfl,p,p',x,x',rfl,hp,hp',⟨(z1 _ _ rfl).1.mono (by decide),(z2 _ _ rfl).1.mono (by decide)⟩,k⟩
inductive J8  (vs:List V) (H:Hp) (Q:VK) (_e3:XK):Prop
 | mk:∀a p q x y n,(vs=[.ref a])->(H a=some (.tup [.ref p,.ref q,.int n]))->(zD H p x)->(zD H q y)->(Q (.bl true) H)->J8 vs H Q _e3
theorem zdn:zF ["thing"] ["thing"] (zr qS):=scq
theorem ok_bf (D:Df K mg "is_ball_form" qS ["thing"] []) (cTu:Cal P w K mg base "is_tuple" 1 ["thing","many"] [] zb7) (cIr:Cal P w K mg base "is_ratio" 2 ["thing"] [] zfo) (cW:Cal P w K mg base "is_whole" 1 ["thing"] [] Zf):Cal P w K mg base "is_ball_form" 3 ["thing"] [] J8:=by
 refine D.cal (k:=2) zdn (λvs H Q E h=>by obtain⟨_,_,_,_,_,_,rfl,_⟩:=h;rfl) (λf cdv A outer s H vs Q E hr2 h=>?_)
 obtain⟨a,p,q,x,y,n,rfl,ha,hp,hq,k⟩:=h
 have hr1:xn 1 _:=hr2.mono (by decide)
 refine⟨_,(zh (zL (q8 (zP cTu hr1 (zd (pv 0) (zd ze zf))) (q8 (zP cIr hr2 (zd (zk zj (pv 0) ze (λ_ _=>rfl)) zf)) (q8 (zP cIr hr2 (zd (zk zj (pv 0) ze (λ_ _=>rfl)) zf)) (vB (zP cW hr1 (zd (zk zj (pv 0) ze (λ_ _=>rfl)) zf)))))))),?_⟩
 refine⟨_,rfl,a,_,_,rfl,ha,true,rfl,xw ?_⟩
 refine⟨_,rfl,a,_,_,_,rfl,rfl,.of ha,rfl,p,x,rfl,hp,true,rfl,xw ?_⟩
 refine⟨_,rfl,a,_,_,_,rfl,rfl,.of ha,rfl,q,y,rfl,hq,true,rfl,xw ?_⟩
 exact⟨_,rfl,a,_,_,_,rfl,rfl,.of ha,rfl,n,rfl,k⟩
inductive zhx  (vs:List V) (H:Hp) (Q:VK) (_e3:XK):Prop
 | mk:∀n,(vs=[.int n])->(1<=n)->(n<=1000)->(Q (.bl true) H)->zhx vs H Q _e3
theorem zi6:zF ["thing"] ["thing"] (zr vV):=scq
theorem ok_iw (D:Df K mg "is_weight" vV ["thing"] []) (T3:Tx3 K mg tb tw aN) (cW:Cal P w K mg base "is_whole" 1 ["thing"] [] Zf):Cal P w K mg base "is_weight" 2 ["thing"] [] zhx:=by
 refine D.cal (k:=1) zi6 (λvs H Q E h=>by obtain⟨_,rfl,_⟩:=h;rfl) (λf cdv A outer s H vs Q E hr h=>?_)
 obtain⟨n,rfl,n1,n2,k⟩:=h
 refine⟨_,(zh (zL (q8 (zP cW hr (zd (pv 0) zf)) (vB (zc9 zaJ zaJ ze (pv 0) (zaK (v:=.int 1000) (by rfl) T3.mw ⟨_,rfl⟩)))))),?_⟩
 refine⟨_,rfl,n,rfl,true,rfl,xw ⟨_,rfl,_,_,rfl,rfl,_,rfl,?_⟩⟩
 rw[wq n1]
 refine xw ⟨_,_,rfl,rfl,?_⟩
 show Q (.bl (decide (n<=1000))) H
 rw[wq n2];exact k
inductive zhn  (vs:List V) (H:Hp) (Q:VK) (_e3:XK):Prop
 | mk:∀a p q x y n,(vs=[.ref a])->(H a=some (.tup [.ref p,.ref q,.int n]))->(zD H p x)->(zD H q y)->(1<=n)->(n<=1000)->(Q (.bl true) H)->zhn vs H Q _e3
theorem ze6:zF ["thing"] ["thing"] (zr j3):=scq
theorem ok_ba (D:Df K mg "is_ball" j3 ["thing"] []) (cBf:Cal P w K mg base "is_ball_form" 3 ["thing"] [] J8) (cIw:Cal P w K mg base "is_weight" 2 ["thing"] [] zhx):Cal P w K mg base "is_ball" 4 ["thing"] [] zhn:=by
 refine D.cal (k:=3) ze6 (λvs H Q E h=>by obtain⟨_,_,_,_,_,_,rfl,_⟩:=h;rfl) (λf cdv A outer s H vs Q E hr h=>?_)
 obtain⟨a,p,q,x,y,n,rfl,ha,hp,hq,n1,n2,k⟩:=h
 have hr2:xn 2 _:=hr.mono (by decide)
 refine⟨_,(zh (zL (q8 (zP cBf hr (zd (pv 0) zf)) (vB (zP cIw hr2 (zd (zk zj (pv 0) ze (λ_ _=>rfl)) zf)))))),?_⟩
 exact⟨_,rfl,a,p,q,x,y,n,rfl,ha,hp,hq,true,rfl,xw ⟨_,rfl,a,_,_,_,rfl,rfl,.of ha,rfl,n,rfl,n1,n2,k⟩⟩
inductive Qx  (vs:List V) (H:Hp) (Q:VK) (_e3:XK):Prop
 | mk:∀v u x y x' y',(vs=[v,u])->(Two H v x y)->(Two H u x' y')->((Sz 4000 x/\Sz 4000 y/\Sz 4000 x'/\Sz 4000 y'))->(Q (.bl (fol x y x' y')) H)->Qx vs H Q _e3
theorem zhh:zF ["left","right"] ["left","right"] (zr j0):=scq
theorem ok_fo (D:Df K mg "follows" j0 ["left","right"] []) (cLt:Cal P w K mg base "less" 1 ["one","other"] [] Qo):Cal P w K mg base "follows" 2 ["left","right"] [] Qx:=by
 refine D.cal (k:=1) zhh (λvs H Q E h=>by obtain⟨_,_,_,_,_,_,rfl,_⟩:=h;rfl) (λf cdv A outer s H vs Q E hr1 h=>?_)
 obtain⟨v,u,x,y,x',y',rfl,⟨a,p,q,r,rfl,ha,hp,hq,_⟩,⟨a',p',q',r',rfl,ha',hp',hq',_⟩,⟨zx,zy,zx',zy'⟩,k⟩:=h
 have hu:=hr1.units
 refine⟨_,(zA (xh (zI (Xc hu) (zk zj (pv 0) ze (λ_ _=>rfl)) (zk zj (pv 1) ze (λ_ _=>rfl)) (zM _)) (zh (zL (zP cLt hr1 (zd (zk zj (pv 0) ze (λ_ _=>rfl)) (zd (zk zj (pv 1) ze (λ_ _=>rfl)) zf))))) zT)
  (zh (zL (zP cLt hr1 (zd (zk zj (pv 0) ze (λ_ _=>rfl)) (zd (zk zj (pv 1) ze (λ_ _=>rfl)) zf)))))),?_⟩
 refine⟨_,rfl,a,_,_,_,rfl,rfl,.of ha,zd2 ..,_,rfl,a',_,_,_,rfl,rfl,.of ha',zd2 ..,_,_,hp.rd,hp'.rd,xS _,xS _,?_⟩
 rw[Z9]
 refine⟨_,rfl,qr (λh=>?_) (λh=>?_)⟩
 ·have hx:x=x':=wD h
  refine⟨_,rfl,a,_,_,_,rfl,rfl,.of ha,zh5 ..,_,rfl,a',_,_,_,rfl,rfl,.of ha',zh5 ..,q,q',y,y',rfl,hq,hq',⟨zy.mono (by decide),zy'.mono (by decide)⟩,?_⟩
  unfold fol at k;rw[if_pos hx]at k;exact k
 ·have hx:¬x=x':=λz=>h (wq z)
  refine⟨_,rfl,a,_,_,_,rfl,rfl,.of ha,zd2 ..,_,rfl,a',_,_,_,rfl,rfl,.of ha',zd2 ..,p,p',x,x',rfl,hp,hp',⟨zx.mono (by decide),zx'.mono (by decide)⟩,?_⟩
  unfold fol at k;rw[if_neg hx]at k;exact k
inductive zfp  (vs:List V) (H:Hp) (Q:VK) (_e3:XK):Prop
 | mk:∀v u x y x' y',(vs=[v,u])->(Two H v x y)->(Two H u x' y')->((Sz 4000 x/\Sz 4000 y/\Sz 4000 x'/\Sz 4000 y'))->(∀H',zi H H'->Q (.bl ((decide (x=x')&&decide (y=y')) || fol x y x' y')) H')->zfp vs H Q _e3
theorem zbf {H:Hp}{v:V}{x y:Rat}{Q:VK}(h:Two H v x y) (k:∀a p q H',zi H H'->H' a=some (.tup [.ref p,.ref q])->zD H' p x->zD H' q y->Q (.ref a) H'):zeY K v none (some 2) H Q\/zhc K v none (some 2) H Q:=by
 obtain⟨a,p,q,r,rfl,ha,hp,hq,hr⟩:=h
 rcases hr with rfl | ⟨n,rfl⟩
 ·exact .inr ⟨a,_,rfl,.of ha,⟨rfl,rfl⟩,k a p q H (zi.refl _) ha hp hq⟩
 ·refine .inl ⟨a,_,rfl,.of ha,(by intro z;have z2:HT.sIx 3 3 (some 2)=3:=z.2;revert z2;decide),λl hl=>k l p q _ (zi.upd hl) zg (hp.same (zi.upd hl)) (hq.same (zi.upd hl))⟩
theorem zfb:zF ["left","right"] ["left","right"] (zr vF):=scq
theorem ok_ks (D:Df K mg "keeps_side" vF ["left","right"] []) (cFo:Cal P w K mg base "follows" 2 ["left","right"] [] Qx):Cal P w K mg base "keeps_side" 3 ["left","right"] [] zfp:=by
 refine D.cal (k:=2) zfb (λvs H Q E h=>by obtain⟨_,_,_,_,_,_,rfl,_⟩:=h;rfl) (λf cdv A outer s H vs Q E hr h=>?_)
 obtain⟨v,u,x,y,x',y',rfl,hv,hu',zz,k⟩:=h
 have hu:=hr.units
 refine⟨_,(zh (zL (zaM (qG (Xc hu) (qj (Ql.or Qm) (pv 0) jZ (xH ze)) (qj (Ql.or Qm) (pv 1) jZ (xH ze)) (zM _)) (vB (zP cFo hr (zd (pv 0) (zd (pv 1) zf))))))),?_⟩
 refine⟨_,rfl,_,rfl,zbf hv λa p q H1 e1 ha hp hq=>?_⟩
 refine⟨_,rfl,_,rfl,zbf (hu'.same e1) λa' p' q' H2 e2 ha' hp' hq'=>?_⟩
 refine⟨_,_,.tup (e2 _ _ ha) (.cons (hp.same e2).rd (.cons (hq.same e2).rd .nil)),.tup ha' (.cons hp'.rd (.cons hq'.rd .nil)),rfl,rfl,?_⟩
 rw[zef]
 have e3:=e1.trans e2
 cases hc:(decide (x=x')&&decide (y=y'))with
 | true =>
  have:=k H2 e3
  rw[hc,Bool.true_or]at this
  exact⟨true,rfl,xw this⟩
 | false =>
  have:=k H2 e3
  rw[hc,uV]at this
  exact⟨false,rfl,xo ⟨_,rfl,_,rfl,v,u,x,y,x',y',rfl,hv.same e3,hu'.same e3,zz,this⟩⟩
end
theorem Vx {α:Type}{l:List α}{i:Nat}{x:α}(h:l[i]? = some x):l.take (i+1)=l.take i++[x]:=by rw[ym,h];rfl
theorem ln1 {σ:St}(h:σ.length=1):∃a,σ=[a]:=by
 match σ,h with
 | [a],_=>exact⟨a,rfl⟩
theorem ln2 {σ:St}(h:σ.length=2):∃a b,σ=[a,b]:=by
 match σ,h with
 | [a,b],_=>exact⟨a,b,rfl⟩
def folB (z:zJ×zJ):Bool:=fol z.1.pl z.1.sp z.2.pl z.2.sp
def ordB (bs:List zJ):Bool:=(bs.zip bs.tail).all folB
def BSz (bs:List zJ):Prop:=∀b∈bs,Sz 4000 b.pl/\Sz 4000 b.sp
theorem Zw {H:Hp}{a p q:Addr}{b:zJ}(h:H a=some (.tup [.ref p,.ref q,.int b.wt])) (hp:zD H p b.pl) (hq:zD H q b.sp):Two H (.ref a) b.pl b.sp:=⟨a,p,q,_,rfl,h,hp,hq,.inr ⟨_,rfl⟩⟩
theorem zi3 {n:Nat}(h:1<=n):HT.sIx n 0 (some 1)=1:=by
 show HT.sIx n 0 (some ((1:Nat):Int))=1
 rw[HT.sIx_nat];omega
theorem cut1 {us:List V}(h:us≠[]):qt us (some 1) none=us.drop 1:=by
 have hl:1<=us.length:=by cases us with | nil=>exact absurd rfl h | cons=>simp
 unfold qt
 rw[zi3 hl,HT.sIx_none]
 rw[wM (by rw[wW];omega)]
section
variable {P:Program}{w:World}{K:Fg}{mg:Str->Option Value}{base:Heap}{tb tw:Tok}{aN:Addr}
theorem zcw {σ:St}{H:Hp}{Q:VK}{r:Addr}{us:List V}{bs:List zJ}(hσ:σ[0]? = some (some (.ref r))) (hr:H r=some (.tup us)) (hB:zH H us bs) (hne:bs≠[]) (hlen:bs.length<=8) (hz:BSz bs)
  (k:∀D H',zi H H'->H' D=some (.lst (((bs.zip bs.tail).map folB).map V.bl))->Q (.ref D) H') :
  za9 2 (zif K (xJ (xG 0) (xJ (tSl (zeY K) (xG 0) (zga (tC (.int 1))) zba) jV))) (Vc K 2 (v9 (zO 0) (v9 (zO 1) JJ))) (λ_ H Q=>Q true H) (jg Qx [] E0 (xJ (xG 0) (xJ (xG 1) jV))) σ H Q:=by
 have hl:=hB.length
 have hus:us≠[]:=by rintro rfl;simp at hl;exact hne (List.length_eq_zero_iff.mp hl.symm)
 have hl1:1<=us.length:=by cases us with | nil=>exact absurd rfl hus | cons=>simp
 refine⟨_,hσ,_,hσ,_,rfl,r,us,rfl,.of hr,?_,λl hl'=>?_⟩
 ·intro z
  have z1:HT.sIx us.length 0 (some 1)=0:=z.1
  rw[zi3 hl1]at z1
  cases z1
 rw[cut1 hus]
 have hr1:=zi.upd (o:=.tup (us.drop 1)) hl' _ _ hr
 refine⟨r,l,rfl,⟨_,.of hr1⟩,⟨_,.of zg⟩,λD hD=>?_⟩
 generalize hH1:upd H l (.tup (us.drop 1))=H1 at hr1 hD
 have e1:zi H H1:=by rw[<-hH1];exact zi.upd hl'
 have hl1':H1 l=some (.tup (us.drop 1)):=by rw[<-hH1];exact zg
 have hB1:=hB.same e1
 have hN:(bs.zip bs.tail).length=us.length - 1:=by rw[ua,List.length_tail,hl];omega
 refine Xz (J:=Itz K r l) (g:=Vc K 2 (v9 (zO 0) (v9 (zO 1) JJ))) (tt:=λ_ H Q=>Q true H) (te:=jg Qx [] E0 (xJ (xG 0) (xJ (xG 1) jV))) (Q:=Q) (N:=us.length - 1) (n:=2) (λi H2 ys=>zi H1 H2/\ys=(((bs.zip bs.tail).map folB).map V.bl).take i) ⟨zi.upd hD,rfl⟩ (λi H2 ys hi ⟨s2,_⟩=>?_) (λH2 ys ⟨s2,_⟩=>?_) ?_ ?_
 ·exact⟨us,us.drop 1,us[i]'(by omega),us[i+1]'(by omega),.of (s2 _ _ hr1),.of (s2 _ _ hl1'),wf _,by rw[yk,WW 1 i];exact wf _⟩
 ·exact⟨us,us.drop 1,.of (s2 _ _ hr1),.of (s2 _ _ hl1'),.inr (by rw[wW];exact wx _)⟩
 ·rintro i x zs H2 H3 ys Nx hNx hi hzs ⟨T,x1,y1,rfl,hT,rfl,f1,f2⟩ ⟨s2,rfl⟩ hD2
  obtain⟨z1,z2,rfl⟩:=ln2 hzs
  have g1:=f1 us (.of (s2 _ _ hr1))
  have g2:=f2 (us.drop 1) (.of (s2 _ _ hl1'))
  rw[yk,WW 1 i]at g2
  obtain⟨a,p,q,b,eb,rfl,ha,hp,hq⟩:=hB1.get g1
  obtain⟨a',p',q',c,ec,rfl,ha',hp',hq'⟩:=hB1.get g2
  have s3:zi H1 (upd H2 T (.tup [.ref a,.ref a'])):=s2.trans (zi.upd hT)
  refine⟨T,_,rfl,.of zg,rfl,_,_,rfl,_,_,rfl,rfl,xw ?_⟩
  have mb:=wj eb
  have mc:=wj ec
  refine⟨_,rfl,_,rfl,_,_,b.pl,b.sp,c.pl,c.sp,rfl,(Zw (s3 _ _ ha) (hp.same s3) (hq.same s3)),(Zw (s3 _ _ ha') (hp'.same s3) (hq'.same s3)),⟨(hz b mb).1,(hz b mb).2,(hz c mc).1,(hz c mc).2⟩,?_⟩
  refine⟨by rw[zE (zG hD2 hT)];exact hD2,?_,hNx _ _ ⟨zaU hD s2 (zi.upd hT),?_⟩⟩
  ·rw[w5];exact xk (by omega)
  ·have ez:(bs.zip bs.tail)[i]? = some (b,c):=by
    have:bs.tail[i]? = some c:=by rw[uW];exact ec
    rw[yn];exact⟨eb,this⟩
   rw[Vx (x:=V.bl (folB (b,c))) (by rw[wg,wg,ez];rfl)];rfl
 ·rintro H2 ys ⟨s2,rfl⟩ hD2
  rw[wM (by rw[we,we,hN];exact wx _)]at hD2
  exact k D H2 (e1.trans s2) hD2
theorem all_map (f:α->Bool) (l:List α):(l.map f).all id=l.all f:=by rw[List.all_map];rfl
inductive zhA  (vs:List V) (H:Hp) (Q:VK) (_e3:XK):Prop
 | mk:∀r us bs,(vs=[.ref r])->(H r=some (.tup us))->(zH H us bs)->(bs≠[])->(bs.length<=8)->(BSz bs)->(∀H',zi H H'->Q (.bl (ordB bs)) H')->zhA vs H Q _e3
theorem zhk:zF ["row"] ["row"] (zr vE):=scq
theorem ok_od (D:Df K mg "is_ordered" vE ["row"] []) (T3:Tx3 K mg tb tw aN) (cFo:Cal P w K mg base "follows" 2 ["left","right"] [] Qx):Cal P w K mg base "is_ordered" 3 ["row"] [] zhA:=by
 refine D.cal (k:=2) zhk (λvs H Q E h=>by obtain⟨_,_,_,rfl,_⟩:=h;rfl) (λf cdv A outer s H vs Q E hr h=>?_)
 obtain⟨r,us,bs,rfl,hrr,hB,hne,hlen,hz,k⟩:=h
 refine⟨_,(zh (zL (zX (XQ rfl) (by rfl) T3.nAll (by decide +kernel) (zd (jj (NB:=["left","right"]) rfl (by decide +kernel) (by decide +kernel) rfl (by decide +kernel) (zhb (by rfl) T3.nZip (zd (pv 0) (zd (qj Ql (pv 0) (xH ze) jZ) zf))) (by intro _ _ _;refine⟨?_,?_,?_⟩;(exact(jY (K:=K) (n:=2) rfl rfl (zS (zK (i:=0) (show List.Nodup (["left","right"]:List Str) by decide +kernel) rfl (Or.inl rfl)) (zS (zK (i:=1) (show List.Nodup (["left","right"]:List Str) by decide +kernel) rfl (Or.inl rfl)) xD))));(exact xI);(exact(zP cFo hr (zd (pv 0) (zd (pv 1) zf)))))) zf)))),?_⟩
 unfold zad tCB xJ
 refine zcw (K:=K) rfl hrr hB hne hlen hz λD H' e hD=>⟨D,_,rfl,SqL.of hD,?_⟩
 rw[all_map];exact k H' e
def loB (l:Wl) (b:zJ):Bool:=match l with | none=>true | some (x,y)=>(decide (x=b.pl)&&decide (y=b.sp)) || fol x y b.pl b.sp
def hiB (l:Wl) (c:zJ):Bool:=match l with | none=>true | some (x,y)=>(decide (c.pl=x)&&decide (c.sp=y)) || fol c.pl c.sp x y
def btwB (l h:Wl) (b c:zJ):Bool:=loB l b&&hiB h c
inductive zho  (vs:List V) (H:Hp) (Q:VK) (_e3:XK):Prop
 | mk:∀a v1 v2 l1 l2 r us bs b cs c,(vs=[.ref a,.ref r])->(H a=some (.tup [v1,v2]))->(zV H v1 l1)->(zV H v2 l2)->(WSz l1)->(WSz l2)->(H r=some (.tup us))->(zH H us bs)->(bs[0]? = some b)->(bs=cs++[c])->(BSz bs)->(∀H',zi H H'->Q (.bl (btwB l1 l2 b c)) H')->zho vs H Q _e3
theorem Vo:zF ["walls","row","low","high"] ["walls","row"] (zr vD):=scq
theorem ok_be (D:Df K mg "is_between" vD ["walls","row"] []) (cKs:Cal P w K mg base "keeps_side" 3 ["left","right"] [] zfp):Cal P w K mg base "is_between" 4 ["walls","row"] [] zho:=by
 refine D.cal (k:=3) Vo (λvs H Q E h=>by obtain⟨_,_,_,_,_,_,_,_,_,_,_,rfl,_⟩:=h;rfl) (λf cdv A outer s H vs Q E hr h=>?_)
 obtain⟨a,v1,v2,l1,l2,r,us,bs,b,cs,c,rfl,ha,h1,h2,z1,z2,hrr,hB,eb,ebs,hz,k⟩:=h
 refine⟨_,(zA (qg (pv 0) (qv rfl (zS (zK (i:=2) Vo.nd rfl (Or.inl rfl)) (zS (zK (i:=3) Vo.nd rfl (Or.inl rfl)) xD))))
  (zA (xh ((qC (zI qz (pv 2) zW (zM _)) (qm (qQ (xz (zP cKs hr (zd (pv 2) (zd (zk zj (pv 1) ze (λ_ _=>rfl)) zf))) λ_=>rfl))))).pt (zh (zL jx)) zT)
  (zh (zL (zaM (qG xW (pv 3) zW (zM _)) (vB (zP cKs hr (zd (zk zj (pv 1) (QN Xm ze) (λ_ _=>rfl)) (zd (pv 3) zf))))))))),?_⟩
 refine⟨_,rfl,a,_,rfl,SqT.of ha,rfl,_,_,rfl,_,_,rfl,rfl,?_⟩
 have mb:b∈bs:=wj eb
 have mc:c∈bs:=by rw[ebs];simp
 obtain⟨b0,eu⟩:∃v,us[0]? = some v:=by
  have:0<us.length:=by rw[hB.length,ebs];simp
  exact⟨us[0],wf this⟩
 obtain⟨ab,pb,qb,b',e1,rfl,hb1,hb2,hb3⟩:=hB.get eu
 rw[eb]at e1;cases e1
 obtain⟨us',ac,pc,qc,eus,hc1,hc2,hc3⟩:=(ebs ▸ hB:zH H us (cs++[c])).last
 have i0:atI us 0=some (.ref ab):=xF (j:=0) eu
 have i1:atI us (-1)=some (.ref ac):=by rw[eus];exact VG _ _
 have hi:∀(H1:Hp) (σ:St),zi H H1->σ[1]? = some (some (.ref r))->σ[3]? = some (some v2)->(∀H',zi H H'->Q (.bl (hiB l2 c)) H') →
   zad (zjp (tOp (λx y H Q=>y = .non/\Q (.bl (decide (x = .non))) H) (xG 3) (tC .non)) (jg zfp [] E0 (xJ (tOp (jQ K) (xG 1) (tUn (rU λi=>V.int (-i)) (tC (.int 1)))) (xJ (xG 3) jV)))) { nx:=λ_ H'=>Q .non H',rt:=Q } σ H1:=λH1 σ e3 s1 s3 kk=>by
  cases l2 with
  | none =>
   obtain rfl:v2 = .non:=h2
   exact⟨_,s3,rfl,true,rfl,xw (kk H1 e3)⟩
  | some z =>
   obtain⟨x,y⟩:=z
   have h2':=h2
   obtain⟨a2,p2,q2,rfl,_⟩:=h2'
   exact⟨_,s3,rfl,false,rfl,xo ⟨_,s1,_,rfl,r,us,-1,_,rfl,rfl,.of (e3 _ _ hrr),i1,_,s3,_,_,c.pl,c.sp,x,y,rfl,Zw (e3 _ _ hc1) (hc2.same e3) (hc3.same e3),(h2.same e3).two,⟨(hz c mc).1,(hz c mc).2,(z2 _ _ rfl).1,(z2 _ _ rfl).2⟩,λH2 e4=>kk H2 (e3.trans e4)⟩⟩
 cases l1 with
 | none =>
  obtain rfl:v1 = .non:=h1
  refine⟨_,rfl,rfl,false,rfl,xo (xo ?_)⟩
  exact hi H _ (zi.refl _) rfl rfl λH' e=>by have:=k H' e;unfold btwB loB at this;rw[Wn]at this;exact this
 | some z =>
  obtain⟨x,y⟩:=z
  have h1':=h1
  obtain⟨a1,p1,q1,rfl,_⟩:=h1'
  refine⟨_,rfl,rfl,true,rfl,xw ?_⟩
  refine⟨_,rfl,_,rfl,r,us,0,_,rfl,rfl,.of hrr,i0,_,_,x,y,b.pl,b.sp,rfl,h1.two,Zw hb1 hb2 hb3,⟨(z1 _ _ rfl).1,(z1 _ _ rfl).2,(hz b mb).1,(hz b mb).2⟩,λH2 e2=>?_⟩
  have k2:=k H2 e2
  unfold btwB loB at k2
  cases hc:((decide (x=b.pl)&&decide (y=b.sp)) || fol x y b.pl b.sp)with
  | true =>
   refine⟨true,rfl,xo ?_⟩
   exact hi H2 _ e2 rfl rfl λH' e=>by have:=k H' e;unfold btwB loB at this;simp only[hc,Wn]at this;exact this
  | false =>
   simp only[hc,WE]at k2
   exact⟨false,rfl,xw k2⟩
theorem JF {σ:St}{H:Hp}{Q:VK}{j:Nat}{sp:Sp}{r:Addr}{us:List V}{bs:List zJ}(hσ:σ[j]? = some (some (.ref r))) (hr:H r=some (.tup us)) (hB:zH H us bs) (hlen:bs.length<=8)
  (hsp:∀(H1:Hp) (v:V) (b:zJ) (Q:VK),zi H H1->b∈bs->(∃a p q,v = .ref a/\H1 a=some (.tup [.ref p,.ref q,.int b.wt])/\zD H1 p b.pl/\zD H1 q b.sp)->Q (.bl true) H1->sp [v] H1 Q E0)
  (k:∀D H',zi H H'->H' D=some (.lst ((List.replicate bs.length true).map V.bl))->Q (.ref D) H') :
  za9 1 (zie K (xG j)) (zO 0) (λ_ H Q=>Q true H) (jg sp [] E0 (xJ (xG 0) jV)) σ H Q:=by
 refine⟨_,hσ,r,rfl,⟨_,SqT.of hr⟩,λD hD=>?_⟩
 have hl:=hB.length
 refine Xz (J:=Itt K r) (g:=zO 0) (tt:=λ_ H Q=>Q true H) (te:=jg sp [] E0 (xJ (xG 0) jV)) (Q:=Q) (N:=us.length) (n:=1) (λi H2 ys=>zi H H2/\ys=(List.replicate i true).map V.bl) ⟨zi.upd hD,rfl⟩ (λi H2 ys hi ⟨s2,_⟩=>?_) (λH2 ys ⟨s2,_⟩=>?_) ?_ ?_
 ·exact⟨us,us[i],.of (s2 _ _ hr),wf hi⟩
 ·exact⟨us,.of (s2 _ _ hr),wx _⟩
 ·rintro i x zs H2 H3 ys Nx hNx hi hzs ⟨rfl,f1⟩ ⟨s2,rfl⟩ hD2
  obtain⟨z1,rfl⟩:=ln1 hzs
  obtain⟨a,p,q,b,eb,rfl,ha,hp,hq⟩:=hB.get (f1 us (.of (s2 _ _ hr)))
  dsimp only[zO]
  try rw[if_pos rfl]
  refine⟨_,rfl,?_⟩
  refine hsp H3 (.ref a) b _ s2 (wj eb) ⟨a,p,q,rfl,s2 _ _ ha,hp.same s2,hq.same s2⟩ ?_
  refine⟨hD2,?_,hNx _ _ ⟨zaU hD s2 (zi.refl _),?_⟩⟩
  ·rw[we,yX];exact xk (by omega)
  ·rw[List.replicate_succ',w8];rfl
 ·rintro H2 ys ⟨s2,rfl⟩ hD2
  rw[hl]at hD2
  exact k D H2 s2 hD2
theorem zck (n:Nat):(List.replicate n true).all id=true:=by simp
def rowB (l h:Wl) (bs:List zJ) (b c:zJ):Bool:=wgood l h&&(ordB bs&&btwB l h b c)
inductive spIs  (vs:List V) (H:Hp) (Q:VK) (_e3:XK):Prop
 | mk:∀a v1 v2 l1 l2 r us bs b cs c,(vs=[.ref a,.ref r])->(H a=some (.tup [v1,v2]))->(zV H v1 l1)->(zV H v2 l2)->(WSz l1)->(WSz l2)->(H r=some (.tup us))->(zH H us bs)->(bs[0]? = some b)->(bs=cs++[c])->(BSz bs)->(bs.length<=8)->((∀b∈bs,1<=b.wt/\b.wt<=1000))->(∀H',zi H H'->Q (.bl (rowB l1 l2 bs b c)) H')->spIs vs H Q _e3
theorem zdr:zF ["walls","thing"] ["walls","thing"] (zr ZL):=scq
theorem ok_is (D:Df K mg "is_row" ZL ["walls","thing"] []) (T:TxB K mg) (T3:Tx3 K mg tb tw aN) (cWg:Cal P w K mg base "walls_good" 5 ["thing"] [] zhO) (cBa:Cal P w K mg base "is_ball" 4 ["thing"] [] zhn) (cOd:Cal P w K mg base "is_ordered" 3 ["row"] [] zhA)
  (cBe:Cal P w K mg base "is_between" 4 ["walls","row"] [] zho):Cal P w K mg base "is_row" 6 ["walls","thing"] [] spIs:=by
 refine D.cal (k:=5) zdr (λvs H Q E h=>by obtain⟨_,_,_,_,_,_,_,_,_,_,_,rfl,_⟩:=h;rfl) (λf cdv A outer s H vs Q E hr5 h=>?_)
 obtain⟨a,v1,v2,l1,l2,r,us,bs,b,cs,c,rfl,ha,h1,h2,z1,z2,hrr,hB,eb,ebs,hz,hlen,hwt,k⟩:=h
 have hr3:xn 3 _:=hr5.mono (by decide)
 have hr4:xn 4 _:=hr5.mono (by decide)
 have hne:bs≠[]:=by rw[ebs];simp
 have hl:=hB.length
 have hl1:1<=bs.length:=by rw[ebs];simp
 refine⟨_,(zA (xh ((vN (qQ (xz (zP cWg hr5 (zd (pv 0) zf)) λ_=>rfl)) (vO (qQ (xz (zX vS (by rfl) T.nIs yS (zd (pv 1) (zd (XC (v:=.ty "tuple") (u:=.type "tuple") (by rfl) T.nTuple yl rfl) zf))) λ_=>rfl))))).pt (zh (zL jx)) zT)
  (zA (xh ((vN (qQ (zdf zaJ zaJ ze (zX xc (by rfl) T.nLen PySem.boot_len (zd (pv 1) zf)) (zaK (v:=.int 8) (by rfl) T3.mb ⟨_,rfl⟩))) (vO (qQ (xz (zX (XQ rfl) (by rfl) T3.nAll (by decide +kernel) (zd (jj (NB:=["ball"]) rfl (by decide +kernel) (by decide +kernel) rfl (by decide +kernel) (Zs (pv 1)) (by intro _ _ _;refine⟨?_,?_,?_⟩;(exact(zK (i:=0) (show List.Nodup (["ball"]:List Str) by decide +kernel) rfl (Or.inl rfl)));(exact xI);(exact(zP cBa hr4 (zd (pv 0) zf))))) zf)) λ_=>rfl))))).pt (zh (zL jx)) zT)
  (zh (zL (q8 (zP cOd hr3 (zd (pv 1) zf)) (vB (zP cBe hr4 (zd (pv 0) (zd (pv 1) zf))))))))),?_⟩
 refine⟨_,rfl,a,v1,v2,l1,l2,rfl,ha,h1,h2,z1,z2,?_⟩
 have k':=k
 unfold rowB at k'
 cases hg:wgood l1 l2 with
 | false =>
  simp only[hg,WE]at k'
  exact⟨false,rfl,xw (xw (k' H (zi.refl _)))⟩
 | true =>
  simp only[hg,Wn]at k'
  refine⟨true,rfl,xo ?_⟩
  refine⟨_,rfl,_,_,_,true,rfl,.tup hrr,T3.tt,true,rfl,xo ?_⟩
  refine⟨_,rfl,r,_,rfl,.inr (SqT.of hrr),_,_,rfl,rfl,_,rfl,?_⟩
  rw[wq (show (1:Int)<=(us.length:Int) by omega)]
  refine xw ⟨_,_,rfl,rfl,_,rfl,?_⟩
  rw[wq (show (us.length:Int)<=8 by omega)]
  refine xo ?_
  unfold zjn tCB xJ
  refine JF (K:=K) (j:=1) rfl hrr hB hlen (λH1 v b Q e mb ⟨a,p,q,e1,e2,e3,e4⟩ q'=>?_) λDD H2 e2 hD=>⟨DD,_,rfl,SqL.of hD,?_⟩
  ·subst e1
   exact⟨a,p,q,b.pl,b.sp,b.wt,rfl,e2,e3,e4,(hwt b mb).1,(hwt b mb).2,q'⟩
  ·rw[zck]
   refine⟨true,rfl,xo ?_⟩
   refine⟨_,rfl,r,us,bs,rfl,e2 _ _ hrr,hB.same e2,hne,hlen,hz,λH3 e3=>?_⟩
   have e23:=e2.trans e3
   cases ho:ordB bs with
   | false =>
    have:=k' H3 e23
    simp only[ho,WE]at this
    exact⟨false,rfl,xo this⟩
   | true =>
    refine⟨true,rfl,xw ⟨_,rfl,_,rfl,a,v1,v2,l1,l2,r,us,bs,b,cs,c,rfl,e23 _ _ ha,h1.same e23,h2.same e23,z1,z2,e23 _ _ hrr,hB.same e23,eb,ebs,hz,λH4 e4=>?_⟩⟩
    have:=k' H4 (e23.trans e4)
    simp only[ho,Wn]at this
    exact this
end
end K3
namespace KT
open PySem L2 KM KK
open KQ (qp)
theorem rise {ss:List Rat}(h:ss.Pairwise (·<=·)) (n:ss.Nodup):ss.Pairwise (· < ·) :=
 (h.and n).imp λ{a b} ⟨h1,h2⟩=>by
  have h1:a<=b:=h1
  have h2:a≠b:=h2
  show a<b;grind
theorem zbz {ws:List Int}{vs ss:List Rat}{wv:Option Rat}{w0:Int}(h:v8 ws vs wv ss) (hw:∀x∈ws,x=w0) (h0:1<=w0) (hv:vs.Pairwise (· > ·)):ss.Pairwise (· < ·):=by
 rcases h with⟨_,a,b,s0,s1,rfl,rfl,rfl⟩ | ⟨_,_,pm,ps⟩
 ·have ea:=hw a (by simp)
  have eb:=hw b (by simp)
  subst ea;subst eb
  have:s0>s1:=(w4.mp hv).1 s1 (by simp)
  have hw0:(b:Rat)≠0:=ic0 (by omega)
  have e:twR b b s0 s1=s0+s1:=by unfold twR;grind
  rw[e]
  refine w4.mpr ⟨λx mx=>?_,yt ..⟩
  rw[wF.mp mx];show s0+s1 - s0<s0+s1 - s1;grind
 ·refine rise ps (pm.nodup_iff.mpr ?_)
  refine(yr.mpr (hv.imp λ{a b} g=>?_))
  have g:a>b:=g
  unfold ZI
  cases wv with
  | none=>show a≠b;grind
  | some z=>show 2*z - a≠2*z - b;grind
theorem zed {ws:List Int}{vs ss:List Rat}{z:Rat}(h:v8 ws vs (some z) ss) (hv:∀v∈vs,v<=z):∀s∈ss,z<=s:=by
 rcases h with⟨e,_⟩ | ⟨_,_,pm,_⟩
 ·cases e
 ·intro s ms
  obtain⟨v,mv,rfl⟩:=ww.mp (pm.mem_iff.mp ms)
  have:=hv v mv
  show z<=2*z - v;grind
theorem zec {ws:List Int}{vs ss:List Rat}{z:Rat}(h:v8 ws vs (some z) ss) (hv:∀v∈vs,z<=v):∀s∈ss,s<=z:=by
 rcases h with⟨e,_⟩ | ⟨_,_,pm,_⟩
 ·cases e
 ·intro s ms
  obtain⟨v,mv,rfl⟩:=ww.mp (pm.mem_iff.mp ms)
  have:=hv v mv
  show 2*z - v<=z;grind
theorem zee {ws:List Int}{vs ss:List Rat}{wv:Option Rat}(h:v8 ws vs wv ss) (hw:∀x∈ws,1<=x/\x<=1000) (hv:∀v∈vs,Sz 80 v) (hz:∀z,wv=some z->Sz 80 z):∀s∈ss,Sz 4000 s:=by
 rcases h with⟨_,a,b,s0,s1,rfl,rfl,rfl⟩ | ⟨_,_,pm,_⟩
 ·have wa:=hw a (by simp)
  have wb:=hw b (by simp)
  have z0:=hv s0 (by simp)
  have z1:=hv s1 (by simp)
  have za:Sz 10 (a:Rat):=jU (by omega) (by omega) (by decide)
  have zb:Sz 10 (b:Rat):=jU (by omega) (by omega) (by decide)
  have z2:Sz 2 ((2:Int):Rat):=jU (by decide) (by decide) (by decide)
  have zs:Sz 11 ((a+b:Int):Rat):=jU (by omega) (by omega) (by decide)
  have ne0:((a+b:Int):Rat)≠0:=ic0 (by omega)
  have e:twR a b s0 s1=((2:Int):Rat)*((a:Rat)*s0+(b:Rat)*s1)/((a+b:Int):Rat):=by unfold twR;push_cast;rfl
  have ztw:Sz 300 (twR a b s0 s1):=by rw[e];exact((z2.mul ((za.mul z0).add (zb.mul z1))).div zs ne0).mono (by decide)
  intro s ms
  simp only[wy,wQ,or_false]at ms
  rcases ms with rfl | rfl
  ·exact(Sz.sub ztw z0).mono (by decide)
  ·exact(Sz.sub ztw z1).mono (by decide)
 ·intro s ms
  obtain⟨v,mv,rfl⟩:=ww.mp (pm.mem_iff.mp ms)
  cases wv with
  | none=>exact(hv v mv).mono (by decide)
  | some z =>
   have zz:=hz z rfl
   show Sz 4000 (2*z - v)
   rw[show (2:Rat)*z - v=z+z - v by grind]
   exact(Sz.sub (zz.add zz) (hv v mv)).mono (by decide)
theorem zbT {bs L R:List zJ}{m:Rat}{ss:List Rat}:Xg ((L++bs++R).map (zN m)) ((L++bs++R).map (zN m)) L.length ss bs.length=L.map (zN m)++(List.range bs.length).map (nbB ((L++bs++R).map (zN m)) L.length ss)++R.map (zN m):=by
 refine uE λi=>?_
 rw[Qg (by simp) i]
 generalize nbB ((L++bs++R).map (zN m)) L.length ss=f
 by_cases c:L.length<=i/\i<L.length+bs.length
 ·rw[if_pos c,wU,wm (by rw[we];exact c.1),we,wu (by rw[we,WK];omega),wg,Ws (by omega)];rfl
 ·rw[if_neg c]
  by_cases c1:i<L.length
  ·rw[wU (L.map _),wu (by rw[we];exact c1),wg,wg,wU,wu c1]
  ·rw[wm (by simp;omega),wg,wg,wm (by simp;omega)]
   congr 2
   simp
theorem zfQ {bs L R:List zJ}{m pl:Rat}{ss:List Rat}(hpl:∀b∈bs,b.pl+b.sp*m=pl) (hl:ss.length=bs.length){j:Nat}(hj:j<bs.length):∃b v,bs[j]? = some b/\ss[j]? = some v/\nbB ((L++bs++R).map (zN m)) L.length ss j = ⟨pl,v,b.wt⟩:=by
 obtain⟨b,eb⟩:∃b,bs[j]? = some b:=⟨_,wf hj⟩
 obtain⟨v,ev⟩:∃v,ss[j]? = some v:=⟨_,wf (by omega)⟩
 refine⟨b,v,eb,ev,?_⟩
 unfold nbB
 rw[wg,wU,wm (by omega),uZ,wu hj,eb,ev]
 show (⟨b.pl+b.sp*m,v,b.wt⟩:zJ)=_
 rw[hpl b (wj eb)]
theorem zgy {x y x' y':Rat}(h:x<x'):K3.fol x y x' y'=true:=by
 unfold K3.fol;rw[if_neg (by grind)];exact wq h
theorem JI {x y y':Rat}(h:y<y'):K3.fol x y x y'=true:=by
 unfold K3.fol;rw[if_pos rfl];exact wq h
theorem zc6:∀{bs:List zJ},bs.Pairwise JQ->K3.ordB bs=true
 | [],_=>rfl
 | [_],_=>rfl
 | b::c::r,h=>by
  have h1:JQ b c:=(w4.mp h).1 c (by simp)
  have h2:=zc6 (w4.mp h).2
  show (K3.folB (b,c)&&K3.ordB (c::r))=true
  rw[h2,Bool.and_true]
  rcases h1 with h1 | ⟨h1,h1'⟩
  ·exact zgy h1
  ·show K3.fol b.pl b.sp c.pl c.sp=true
   rw[h1];exact JI h1'
theorem ze1 {bs L R:List zJ}{lo hi:Wl}{m pl:Rat}{ss:List Rat}(hpl:∀b∈bs,b.pl+b.sp*m=pl) (hlo:∀x y,lo=some (x,y)->x+y*m=pl/\∀s∈ss,y<=s) (hhi:∀x y,hi=some (x,y)->x+y*m=pl/\∀s∈ss,s<=y) (hno:lo=none\/hi=none)
  (hL:Jy bs lo L) (hR:Jz bs hi R) (n1:1<=bs.length) (hl:ss.length=bs.length) (hr:ss.Pairwise (· < ·)) :
  ∃b cs c,(L.map (zN m)++(List.range bs.length).map (nbB ((L++bs++R).map (zN m)) L.length ss)++R.map (zN m))[0]? = some b/\(L.map (zN m)++(List.range bs.length).map (nbB ((L++bs++R).map (zN m)) L.length ss)++R.map (zN m))=cs++[c] ∧
   K3.rowB (zR m lo) (zR m hi) (L.map (zN m)++(List.range bs.length).map (nbB ((L++bs++R).map (zN m)) L.length ss)++R.map (zN m)) b c=true:=by
 obtain⟨G,eG⟩:∃G,G=(List.range bs.length).map (nbB ((L++bs++R).map (zN m)) L.length ss):=⟨_,rfl⟩
 rw[<-eG]
 have gG:∀(j:Nat) (g:zJ),G[j]? = some g->∃b v,bs[j]? = some b/\ss[j]? = some v/\g = ⟨pl,v,b.wt⟩:=λj g e=>by
  have hj:j<bs.length:=by have:=(wk.mp e).1;rw[eG]at this;simpa using this
  rw[eG,wg,Ws hj]at e
  obtain⟨b,v,h1,h2,h3⟩:=zfQ (L:=L) (R:=R) hpl hl hj
  exact⟨b,v,h1,h2,by rw[<-h3];exact(Option.some.inj e).symm⟩
 have hGl:G.length=bs.length:=by rw[eG];simp
 have mG:∀g∈G,g.pl=pl/\g.sp∈ss:=λg mg=>by
  obtain⟨j,hj⟩:=yO mg
  obtain⟨b,v,_,h2,rfl⟩:=gG j g hj
  exact⟨rfl,wj h2⟩
 have pG:G.Pairwise JQ:=by
  rw[uI]
  intro i j hi hj ij
  obtain⟨b,v,_,h2,e⟩:=gG i _ (wf hi)
  obtain⟨b',v',_,h2',e'⟩:=gG j _ (wf hj)
  rw[e,e']
  obtain⟨hi1,rfl⟩:=wk.mp h2
  obtain⟨hj1,rfl⟩:=wk.mp h2'
  exact .inr ⟨rfl,uI.mp hr i j hi1 hj1 ij⟩
 have mL:∀b∈L.map (zN m),b.pl<pl:=λb mb=>by
  rcases hL with rfl | ⟨_,cs,c,d,rfl,d1,_,rfl⟩
  ·cases mb
  ·rw[wF.mp mb]
   have:=hpl c (by simp)
   have:=XS d1
   show c.pl - (d:Rat)+c.sp*m<pl;grind
 have mR:∀b∈R.map (zN m),pl<b.pl:=λb mb=>by
  rcases hR with rfl | ⟨_,cs,c,d,rfl,d1,_,rfl⟩
  ·cases mb
  ·rw[wF.mp mb]
   have:=hpl c (by simp)
   have:=XS d1
   show pl<c.pl+(d:Rat)+c.sp*m;grind
 have pL:(L.map (zN m)).Pairwise JQ:=by
  rcases hL with rfl | ⟨_,cs,c,d,rfl,d1,_,rfl⟩
  ·exact .nil
  ·exact yt ..
 have pR:(R.map (zN m)).Pairwise JQ:=by
  rcases hR with rfl | ⟨_,cs,c,d,rfl,d1,_,rfl⟩
  ·exact .nil
  ·exact yt ..
 have hpw:(L.map (zN m)++G++R.map (zN m)).Pairwise JQ:=by
  refine wX.mpr ⟨wX.mpr ⟨pL,pG,λa ma b mb=>.inl ?_⟩,pR,λa ma b mb=>.inl ?_⟩
  ·rw[(mG b mb).1];exact mL a ma
  ·have hb:=mR b mb
   rcases wN.mp ma with ma | ma
   ·have:=mL a ma;grind
   ·rw[(mG a ma).1];exact hb
 have hne:L.map (zN m)++G++R.map (zN m)≠[]:=λz=>by
  have h:=congrArg List.length z
  rw[wE,wE,hGl]at h
  simp only[yJ]at h
  omega
 obtain⟨b,eb⟩:∃b,(L.map (zN m)++G++R.map (zN m))[0]? = some b:=⟨_,wf (List.length_pos_iff.mpr hne)⟩
 refine⟨b,_,_,eb,(yT hne).symm,?_⟩
 have hg:K3.wgood (zR m lo) (zR m hi)=true:=by
  rcases hno with rfl | rfl
  ·rfl
  ·cases lo <;> rfl
 have h1:K3.loB (zR m lo) b=true:=by
  cases lo with
  | none=>rfl
  | some u =>
   obtain⟨x,y⟩:=u
   obtain⟨e,hy⟩:=hlo x y rfl
   have:L=[]:=by rcases hL with rfl | ⟨z,_⟩;rfl;cases z
   subst this
   have hb:G[0]? = some b:=by
    rw[uw,uy,wu (by omega)]at eb;exact eb
   obtain⟨g1,g2⟩:=mG b (wj hb)
   have:=hy _ g2
   show ((decide (x+y*m=b.pl)&&decide (y=b.sp)) || K3.fol (x+y*m) y b.pl b.sp)=true
   rw[e,g1]
   by_cases c:y=b.sp
   ·rw[wq rfl,wq c];rfl
   ·rw[JI (by grind),Bool.or_true]
 have h2:K3.hiB (zR m hi) ((L.map (zN m)++G++R.map (zN m)).getLast hne)=true:=by
  cases hi with
  | none=>rfl
  | some u =>
   obtain⟨x,y⟩:=u
   obtain⟨e,hy⟩:=hhi x y rfl
   have hRn:R=[]:=by rcases hR with rfl | ⟨z,_⟩;rfl;cases z
   have ml:(L.map (zN m)++G++R.map (zN m)).getLast hne∈G:=by
    have hGne:G≠[]:=λz=>by rw[z]at hGl;simp at hGl;omega
    have:(L.map (zN m)++G++R.map (zN m)).getLast hne=G.getLast hGne:=by
     subst hRn
     simp only[uw,yb]
     exact List.getLast_append_of_ne_nil _ hGne
    rw[this];exact List.getLast_mem _
   obtain⟨g1,g2⟩:=mG _ ml
   generalize (L.map (zN m)++G++R.map (zN m)).getLast hne=c at *
   have:=hy _ g2
   show ((decide (c.pl=x+y*m)&&decide (c.sp=y)) || K3.fol c.pl c.sp (x+y*m) y)=true
   rw[e,g1]
   by_cases cc:c.sp=y
   ·rw[wq rfl,wq cc];rfl
   ·rw[JI (by grind),Bool.or_true]
 unfold K3.rowB K3.btwB
 rw[hg,zc6 hpw,h1,h2];rfl
open KQ (vz qI vM TxQ xx xL qP stG rlG brk vv Xu vC zb5 zdA In soon chO qD tkO laQ laP)
section
variable {P:Program}{w:World}{K:Fg}{mg:Str->Option Value}{base:Heap}{C CS CT Tb:Addr}
inductive zhz  (vs:List V) (H:Hp) (Q:VK) (_e3:XK):Prop
 | mk:∀r wa us v1 v2 bs lo hi m,(vs=[.ref r,.ref wa])->(H r=some (.tup us))->(zH H us bs)->(H wa=some (.tup [v1,v2]))->(zV H v1 lo)->(zV H v2 hi)->(bs.length<=8)->(TZ bs lo hi)->(Ord bs lo hi)->(qq (tl bs lo hi)=some m)->(0<m)->(xL lo hi=none)->(∀v H',zi H H'->RdD H' v (coD m (grL (bs.map (zN m)) (zR m lo) (zR m hi)))->Q v H')->zhz vs H Q _e3
theorem ziB (c:ZW P w K mg base "next_coming" 6 ["row","walls"] [] (zb5 CS)):Cal P w K mg base "next_coming" 6 ["row","walls"] [] zhz:=by
 refine c.quiet λvs H Q E h=>?_
 obtain⟨r,wa,us,v1,v2,bs,lo,hi,m,rfl,hr,hB,hw,h1,h2,h8,hz,O,es,pm,sh,k⟩:=h
 have I:=zfN hr hB hw h1 h2 h8 hz
 have B:=bot h8 hz
 have R:=za2 B
 refine⟨r,wa,bs.map bl,lo,hi,rfl,I,λH' s e=>?_,λt p mm G H' s e _ hp hm _ hgs=>?_,λt p dx H' s e em _ _=>?_⟩
 ·rcases R with⟨_,e2⟩ | ⟨t,m',e1,_⟩
  ·rw[es]at e2;cases e2
  ·rw[e]at e1;cases e1
 ·rcases R with⟨e1,_⟩ | ⟨t',m',e1,e2,pt,em⟩
  ·rw[e]at e1;cases e1
  ·rw[e]at e1;cases e1
   rw[es]at e2;cases e2
   rw[zfL B O pt em pm]at hgs
   rw[em]at hm
   obtain⟨gs,g1,g2⟩:=hgs
   exact k _ _ s (.tup hp (.cons (v7 hm) (.cons (.lst g1 (zcK g2)) .nil)))
 ·rw[sh]at em;cases em
theorem zaR {H:Hp}{v:V}{l:Wl}(h:KQ.Qs H v l):zV H v l:=by
 cases l with
 | none=>exact h
 | some u=>obtain⟨x,y⟩:=u;obtain⟨a,p,q,e,g1,g2,g3⟩:=h;exact⟨a,p,q,e,g1,g2,g3⟩
inductive J8  (vs:List V) (H:Hp) (Q:VK) (_e3:XK):Prop
 | mk:∀r wa us v1 v2 rs lo hi m pl a b side,(vs=[.ref r,.ref wa])->(H r=some (.tup us))->(zH H us rs)->(H wa=some (.tup [v1,v2]))->(zV H v1 lo)->(zV H v2 hi)->(rs.length<=8)->(TZ rs lo hi)->(Ord rs lo hi)->(qq (tl rs lo hi)=some m)->(0<m)->(xL lo hi=none)->(grL (rs.map (zN m)) (zR m lo) (zR m hi)=[(a,b,side)])->((∀c∈rs,1<=c.wt/\c.wt<=1000))->(a<=b)->(b<rs.length)->((side = "low"\/side = "high"\/side = ""))->((∀i,a<=i->i<=b->∀c,rs[i]? = some c->c.pl+c.sp*m=pl))->((∀u,x9 side lo hi=some u->u.1+u.2*m=pl))->(KQ.qp (KQ.xO (rs.map zJ.wt) a b)=true)->(vQ Tb laQ laP H)->(∀p mm r' wa' us' w1 w2 ss H',StT Tb H H'->vQ Tb laQ laP H'->H' p=some (.tup [.ref mm,.ref r',.ref wa'])->zD H' mm m->H' r'=some (.tup us')->ss.length=b+1 - a->v8 ((sgB (rs.map (zN m)) (a,b,side)).map zJ.wt) ((sgB (rs.map (zN m)) (a,b,side)).map zJ.sp) ((x9 side (zR m lo) (zR m hi)).map Prod.snd) ss->zH H' us' (Xg (rs.map (zN m)) (rs.map (zN m)) a ss (b+1 - a))->H' wa'=some (.tup [w1,w2])->zV H' w1 (zR m lo)->zV H' w2 (zR m hi)->Q (.ref p) H')->J8 vs H Q _e3
theorem ok_bf (c:ZW P w K mg base "behind" 6 ["row","walls"] [] (zdA C CS CT Tb)):Cal P w K mg base "behind" 6 ["row","walls"] [] (J8 (Tb:=Tb)):=by
 refine c.quiet λvs H Q E h=>?_
 obtain⟨r,wa,us,v1,v2,rs,lo,hi,m,pl,a,b,side,rfl,hr,hB,hw,h1,h2,h8,hz,O,es,pm,sh,hg,hwt,hab,hb,hsd,hpl,hwp,hsm,T1,k⟩:=h
 have I:=zfN hr hB hw h1 h2 h8 hz
 have B:=bot h8 hz
 have R:=za2 B
 have hbd:KQ.BdS 4200 (KQ.S0 (rs.map bl) lo hi):=by
  refine⟨B.pz.mono (by decide),B.sz.mono (by decide),B.p0,B.s0,λt mt=>?_,λl e=>?_,λl e=>?_⟩
  ·have:=I.bd t (wT _ (wC _ mt))
   exact⟨this.1.mono (by decide),this.2.mono (by decide)⟩
  ·have e':lo.map (KQ.trB (KQ.pbO (rs.map bl) lo hi) (KQ.sbO (rs.map bl) lo hi))=some l:=e
   have:=I.bd l (wT _ (wT _ (by rw[e'];simp[KQ.VZ])))
   exact⟨this.1.mono (by decide),this.2.mono (by decide)⟩
  ·have e':hi.map (KQ.trB (KQ.pbO (rs.map bl) lo hi) (KQ.sbO (rs.map bl) lo hi))=some l:=e
   have:=I.bd l (wC _ (by rw[e'];simp[KQ.VZ]))
   exact⟨this.1.mono (by decide),this.2.mono (by decide)⟩
 have gse:∀{t:Int×Int},soon (chO (rs.map bl) lo hi)=some t->0<t.2/\qD (tkO (rs.map bl) lo hi) t=m/\KQ.gsO (rs.map bl) lo hi t=[(a,b,side)]:=λ{t} e=>by
  rcases R with⟨e1,_⟩ | ⟨t',m',e1,e2,pt,em⟩
  ·rw[e]at e1;cases e1
  ·rw[e]at e1;cases e1
   rw[es]at e2;cases e2
   refine⟨pt,em,?_⟩
   have:=zfL B O pt em pm
   rw[hg]at this
   exact this
 refine⟨r,wa,rs.map bl,lo,hi,rfl,I,T1,λb mb=>?_,hbd,?_,?_,?_,?_⟩
 ·obtain⟨c,mc,rfl⟩:=ww.mp mb;exact hwt c mc
 ·intro H2 s2 e
  rcases R with⟨_,e2⟩ | ⟨t,m',e1,_⟩
  ·rw[es]at e2;cases e2
  ·rw[e]at e1;cases e1
 ·intro t S p mm r' wa' us' w1 w2 H2 e _ ch st tb hp hm hr' hrow hwa' hp1 hp2
  obtain⟨pt,em,eg⟩:=gse e
  rw[eg]at ch
  rw[em]at hm
  obtain⟨ss,hsl,hd,e1,e2,e3⟩:=zd9 (pl:=pl) B pt em hwt hab hb hsd hpl hwp ch
  rw[e1]at hrow
  rw[e2]at hp1;rw[e3]at hp2
  exact k p mm r' wa' us' w1 w2 ss H2 st tb hp hm hr' hsl hd (zf0 hrow) hwa' (zaR hp1) (zaR hp2)
 ·intro t p dx H2 s2 e em _ _
  rw[sh]at em;cases em
 ·intro t S pre g suf p dx H2 e _ es' ch rf st tb hxd hp
  obtain⟨_,em,eg⟩:=gse e
  rw[eg]at es'
  match pre,es' with
  | [],es' =>
   injection es' with e1 e2
   subst e1
   have:=rf.2
   have ews:(rs.map bl).map KQ.Bl.wt=rs.map zJ.wt:=by rw[wV];rfl
   rw[ews]at this
   have this:KQ.qp (KQ.xO (rs.map zJ.wt) a b)=false:=this
   rw[hsm]at this;cases this
  | x::xs,es'=>simp at es'
end
open KQ (xO)
def Zv (b:zJ):PyData:=.tuple [rD b.pl,rD b.sp,.int b.wt]
theorem Zx {H:Hp}:∀{us:List V}{bs:List zJ},zH H us bs->vo H us (bs.map Zv)
 | _,_,.nil=>.nil
 | _,_,.cons h1 h2 h3 t=>.cons (.tup h1 (.cons (v7 h2) (.cons (v7 h3) (.cons (.int _) .nil)))) (Zx t)
theorem jI (b:zJ):Lay 2 (Zv b):=Lay.tup λd m=>by
 simp only[wy,wQ,or_false]at m
 rcases m with rfl | rfl | rfl
 ·exact .rat _
 ·exact .rat _
 ·exact(Lay.int _).mono (by decide)
theorem zd5 {b c:zJ}(h:b.pl≠c.pl):PyData.eqv (Zv b) (Zv c)=false:=by
 show (PyData.eqv (rD b.pl) (rD c.pl)&&_)=false
 rw[show PyData.eqv (rD b.pl) (rD c.pl)=decide (b.pl=c.pl)from Z9 _ _,wI h];rfl
def zgl (m:Rat) (cs:List zJ) (lo hi:Wl):PyData:=.tuple [rD m,.tuple (cs.map Zv),wsD lo hi]
theorem Vf (m:Rat) (cs:List zJ) (lo hi:Wl):Lay 4 (zgl m cs lo hi):=Lay.tup λd h=>by
 simp only[wy,wQ,or_false]at h
 rcases h with rfl | rfl | rfl
 ·exact(Lay.rat _).mono (by decide)
 ·exact Lay.tup λd h=>by obtain⟨b,_,rfl⟩:=ww.mp h;exact jI b
 ·exact zgO _ _
theorem zau {bs L R:List zJ}{lo hi:Wl}(hL:Jy bs lo L) (hR:Jz bs hi R){p:zJ->Prop}(h:∀b∈bs,p b) (h1:∀b∈bs,∀d:Int,1<=d->d<=9->p ⟨b.pl - (d:Rat),b.sp,b.wt+2⟩) (h2:∀b∈bs,∀d:Int,1<=d->d<=9->p ⟨b.pl+(d:Rat),b.sp,b.wt+1⟩):∀b∈L++bs++R,p b:=λb mb=>by
 rcases wN.mp mb with m1 | m1
 ·rcases wN.mp m1 with m2 | m2
  ·clear mb m1
   rcases hL with rfl | ⟨_,cs,c,d,rfl,d1,d2,rfl⟩
   ·cases m2
   ·rw[wF.mp m2];exact h1 c (by simp) d d1 d2
  ·exact h b m2
 ·clear mb
  rcases hR with rfl | ⟨_,cs,c,d,rfl,d1,d2,rfl⟩
  ·cases m1
  ·rw[wF.mp m1];exact h2 c (by simp) d d1 d2
theorem zet {bs:List zJ}{lo hi:Wl}{l:List (Nat×Nat×Str)}{cs:List zJ}(h:LwC bs lo hi l cs) (e:l=[]):cs=bs:=by
 cases h with
 | nil=>rfl
 | snoc h hl d=>simp at e
theorem zeu {bs:List zJ}{lo hi:Wl}{g:Nat×Nat×Str}{cs:List zJ}(h:LwC bs lo hi [g] cs):∃ss,ss.length=g.2.1+1 - g.1/\v8 ((sgB bs g).map zJ.wt) ((sgB bs g).map zJ.sp) ((x9 g.2.2 lo hi).map Prod.snd) ss/\cs=Xg bs bs g.1 ss (g.2.1+1 - g.1):=by
 generalize hl:[g]=l at h
 cases h with
 | nil=>cases hl
 | @snoc gs cs' g' ss h hs d =>
  match gs,hl,h with
  | [],hl,h =>
   have e2:g=g':=by simpa using hl
   subst e2
   have e3:=zet h rfl
   subst e3
   exact⟨ss,hs,d,rfl⟩
  | x::xs,hl,h=>simp at hl
theorem Jg {ws:List Int}{w0:Int}(h:∀x∈ws,x=w0):qp ws=true:=by
 unfold qp
 rw[Wg]
 intro x mx
 rw[wH]
 cases ws with
 | nil=>cases mx
 | cons y ys=>rw[h x mx];exact(h y (by simp)).symm
section
variable {P:Program}{w:World}{K:Fg}{mg:Str->Option Value}{base:Heap}{CS Tb:Addr}
theorem zhQ {H G:Hp}{a:Addr}{xs:List V}(h:SqL K H a xs) (T:vQ Tb laQ laP H) (st:StT Tb H G):SqL K G a xs:=by
 obtain⟨ps,gT,_⟩:=T
 rcases h with(h | ⟨o,h⟩) | h
 ·exact .inl (.inl (st _ _ h λz=>by rw[z,gT]at h;cases h))
 ·exact .inl (.inr ⟨o,st _ _ h λz=>by rw[z,gT]at h;cases h⟩)
 ·exact .inr h
inductive Jl (Tb:Addr) (K:Fg) (vs:List V) (H:Hp) (Q:VK) (_e3:XK):Prop
 | mk:∀(a:Addr) (ns:List Int),(vs=[.ref a])->(SqL K H a (ns.map V.int))->(ns.length<=63)->(vQ Tb laQ laP H)->(∀H',Q (.bl true) H')->Jl Tb K vs H Q _e3
theorem vc:zF ["script","k","pool","core","walls","row","moment","there","standing","first","group","due","found"] ["script"] (zr s_law):=scq
theorem zg0 {fl:Addr}{fdl:FuncData}(D:Fun K "law" "law" s_law fl fdl) (T:TxQ K mg) (cC:Cal P w K mg base "_law_cell" 1 ["script","k"] [] (Vu K)) (cD:Cal P w K mg base "_law_left" 1 ["cell"] [] zdB) (cFo:Cal P w K mg base "_law_focused" 4 ["pool","alike"] [] Qx) (cFa:Cal P w K mg base "_law_far" 3 ["pool","row","walls"] [] zhw) (cSn:Cal P w K mg base "_law_soonest" 4 ["row","walls"] [] zhL)
  (cOn:Cal P w K mg base "_law_on" 3 ["things","t"] [] zhB) (cLg:Cal P w K mg base "_law_groups" 2 ["row","walls"] [] zhy) (cNq:Cal P w K mg base "next_coming" 6 ["row","walls"] [] zhz) (cBv:Cal P w K mg base "_law_behind" 4 ["row","walls","groups"] [] zhq) (cBh:Cal P w K mg base "behind" 6 ["row","walls"] [] (J8 (Tb:=Tb))) (cIs:Cal P w K mg base "is_row" 6 ["walls","thing"] [] K3.spIs):vP P w K mg base CX0 7 fl fdl ["script"] (Jl Tb K):=by
 refine D.ok (k:=6) vc (λvs H Q E h=>by obtain⟨a,us,rfl,_⟩:=h;rfl) (λcdv A outer s H vs Q E hr h=>?_)
 obtain⟨a,ns,rfl,hS,hlen,TH,k⟩:=h
 have hr1:xn 1 _:=hr.mono (by decide)
 have hr2:xn 2 _:=hr.mono (by decide)
 have hr3:xn 3 _:=hr.mono (by decide)
 have hr4:xn 4 _:=hr.mono (by decide)
 have hu:=hr.units
 refine⟨_,(zA (qJ PassesOwn.never rfl (jd rfl T.nRange (zd (zB zZ ze (zX (zbs rfl) (by rfl) T.nMin PyProof.Rows.boot_min (zd (zX xc (by rfl) T.nLen PySem.boot_len (zd (pv 0) zf)) (zd ze zf)))) zf)) (zK (i:=1) vc.nd rfl (Or.inl rfl)) (zcq (zC (Bx.mk (zQ (i:=2) vc.nd rfl (Or.inl rfl) (zP cD hr1 (zd (zP cC hr1 (zd (zB zeL (x5 (zd ze zf)) (pv 0)) (zd (pv 1) zf))) zf))))
  (zC (Bx.mk (qg (zP cFo hr4 (zd (pv 2) (zd jx zf))) (qv rfl (zS (zK (i:=3) vc.nd rfl (Or.inl rfl)) (zS (zK (i:=4) vc.nd rfl (Or.inl rfl)) xD)))))
  (zC (Bx.mk (zQ (i:=5) vc.nd rfl (Or.inl rfl) (zP cFa hr3 (zd (pv 2) (zd (pv 3) (zd (pv 4) zf))))))
  (zC (Bx.mk (zQ (i:=6) vc.nd rfl (Or.inl rfl) (zP cSn hr4 (zd (pv 3) (zd (pv 4) zf)))))
  (zC (Bx.mk (zQ (i:=7) vc.nd rfl (Or.inl rfl) (zP cOn hr3 (zd (pv 5) (zd (pv 6) zf)))))
  (zC (Bx.mk (zQ (i:=8) vc.nd rfl (Or.inl rfl) (zP cOn hr3 (zd (pv 4) (zd (pv 6) zf)))))
  (zC (Bx.mk (zQ (i:=9) vc.nd rfl (Or.inl rfl) (zg9 hu (pv 5) (zd (zk zj (pv 3) ze (λ_ _=>rfl)) zf))))
  (zC (Bx.mk (zQ (i:=10) vc.nd rfl (Or.inl rfl) (zk xf (zP cLg hr2 (zd (zP cOn hr3 (zd (pv 3) (zd (pv 6) zf))) (zd (pv 8) zf))) ze (λ_ _=>rfl))))
  (zC (Bx.mk (xh (zI (JZ hu) (zP cNq hr (zd (pv 5) (zd (pv 4) zf))) (xj (zd (pv 6) (zd (x5 (zd (xj (zd (zB zZ (pv 9) (zk zj (pv 10) ze (λ_ _=>rfl))) (zd (zB zZ (pv 9) (zk zj (pv 10) ze (λ_ _=>rfl))) (zd (zk zj (pv 10) ze (λ_ _=>rfl)) zf)))) zf)) zf))) (zM _)) (zh (zL jx)) zT))
  (zC (Bx.mk (zQ (i:=11) vc.nd rfl (Or.inl rfl) (zP cBv hr4 (zd (pv 7) (zd (pv 8) (zd (x5 (zd (xj (zd (pv 9) (zd (zB xZ (zB zZ (pv 9) (zX xc (by rfl) T.nLen PySem.boot_len (zd (pv 3) zf))) ze) (zd (zk zj (pv 10) ze (λ_ _=>rfl)) zf)))) zf)) zf))))))
  (zC (Bx.mk (zQ (i:=12) vc.nd rfl (Or.inl rfl) (zP cBh hr (zd (pv 5) (zd (pv 4) zf)))))
  (Bx.mk (zh (xh (vN (zI xW (pv 11) zW (zM _)) (vN (zI (JZ hu) (pv 12) (xj (zd (pv 6) (zd (pv 11) (zd (pv 8) zf)))) (zM _)) (vO (qQ (xz (zP cIs hr (zd (pv 8) (zd (zk zj (pv 12) ze (λ_ _=>rfl)) zf))) λ_=>rfl))))).pt (zh (zL jx)) zT)))))))))))))))) (zh (zL jx))),?_⟩
 refine⟨_,rfl,a,_,rfl,.inl hS,_,_,rfl,_,_,rfl,rfl,_,rfl,?_⟩
 obtain⟨mx,em⟩:∃m:Int,m=(1:Int)+(if(40:Int)<((ns.map V.int).length:Int)then 40 else((ns.map V.int).length:Int)):=⟨_,rfl⟩
 have m0:0<=mx/\mx<=41:=by
  rw[em];split <;> omega
 rw[<-em]
 refine⟨by omega,by omega,?_⟩
 refine vL (n:=mx.toNat) (lo:=0) (λi σ G=>∃z,z.length=12/\σ=some (.ref a)::z/\StT Tb H G/\vQ Tb laQ laP G) ⟨_,rfl,rfl,StT.refl,TH⟩ ?_ ?_
 ·rintro i σ G0 hi ⟨z,hz,rfl,S0,TG⟩
  match z,hz with
  | [z1,z2,z3,z4,z5,z6,z7,z8,z9,z10,z11,z12],_ =>
  have hSG:SqL K G0 a (ns.map V.int):=zhQ hS TH S0
  refine⟨zL1,λp0 hp0=>?_⟩
  refine⟨_,rfl,p0,a,_,_,rfl,rfl,SqL.of zg,(zi.upd hp0).seq hSG,szl (by simp only[we,wG,yJ];omega),λp1 hp1=>?_⟩
  have S1:=(zi.upd (o:=.lst [.int 0]) hp0).trans (zi.upd (o:=.lst ([.int 0]++ns.map V.int)) hp1)
  have e1:upd (upd G0 p0 (.lst [.int 0])) p1 (.lst ([.int 0]++ns.map V.int)) p1=some (.lst ((0::ns).map V.int)):=zg
  generalize upd (upd G0 p0 (.lst [.int 0])) p1 (.lst ([.int 0]++ns.map V.int))=G1 at S1 e1
  refine⟨_,rfl,p1,0::ns,_,rfl,SqL.of e1,by omega,λc=>?_⟩
  refine⟨c,rfl,λp G2 hp s2 hP=>?_⟩
  have hpG:G0 p=none:=by
   cases e:G0 p with
   | none=>rfl
   | some o=>rw[S1 _ _ e]at hp;cases hp
  have S2:=S1.trans s2
  dsimp only[zO]
  refine⟨_,rfl,p,true,rfl,hP,?_⟩
  intro t r ws us bs v1 v2 lo hi G3 T3 ht hrr hB hG n1 h8 hws hv1 hv2 hBx hFo hal
  obtain⟨w0,hw0⟩:=hal.1 rfl
  have hw9:=hal.2
  refine⟨t,_,rfl,.of ht,rfl,_,_,rfl,_,_,rfl,rfl,?_⟩
  obtain⟨m,side,pl,F,hpl,hlo,hhi⟩:=zgx hFo n1
  have O:=zg7 hG hBx n1
  have hz:=zjt hG.sz hBx.z1 hBx.z2
  clear ht e1
  dsimp only[zO]
  refine⟨_,rfl,_,rfl,_,rfl,p,r,ws,us,bs,v1,v2,lo,hi,rfl,T3.pool,hrr,hB,hws,hv1,hv2,n1,h8,λb mb=>(hG.sz b mb).1,λt4 us4 L R G4 T4 ht4 hB4 hL hR hl8=>?_⟩
  have S4:zi G0 G4:=zb9 S2 hpG (T3.trans T4)
  have TG4:=TG.same S4
  have Tu34:=xq T3.pool T4
  have hrr4:=Tu34 _ _ hrr
  have hBc4:=hB.mono Tu34
  have hws4:=Tu34 _ _ hws
  have hv14:=hv1.tups Tu34
  have hv24:=hv2.tups Tu34
  clear T3 T4 S1 S2 s2 hP hB hv1 hv2 hrr hws Tu34
  obtain⟨rs,ers⟩:∃rs,rs=L++bs++R:=⟨_,rfl⟩
  rw[<-ers]at hB4 hl8
  have hO:Ord rs lo hi:=by rw[ers];exact zeh O hL hR
  have hso:qq (tl rs lo hi)=some m:=by rw[ers,zcG hL hR];exact F.soon
  have hgr:=(zcF F hpl hlo hhi n1 hL hR).1
  have hsd:=(zcF F hpl hlo hhi n1 hL hR).2
  rw[<-ers]at hgr
  have hd9:∀d:Int,1<=d->d<=9->Sz 4 (d:Rat):=λd h1 h2=>jU (by omega) (by omega) (by decide)
  have hzr:∀b∈rs,Sz 320 b.pl/\Sz 80 b.sp:=by
   rw[ers]
   exact zau hL hR (λb mb=>⟨(hG.sz b mb).1.mono (by decide),(hG.sz b mb).2⟩) (λb mb d d1 d2=>⟨(Sz.sub (hG.sz b mb).1 (hd9 d d1 d2)).mono (by decide),(hG.sz b mb).2⟩) (λb mb d d1 d2=>⟨((hG.sz b mb).1.add (hd9 d d1 d2)).mono (by decide),(hG.sz b mb).2⟩)
  have hwr:∀b∈rs,1<=b.wt/\b.wt<=1000:=by
   rw[ers]
   exact zau hL hR (λb mb=>hG.wt b mb) (λb mb d d1 d2=>by have:=hG.wt b mb;have:=hw9 b mb;exact⟨by show 1<=b.wt+2;omega,by show b.wt+2<=1000;omega⟩) (λb mb d d1 d2=>by have:=hG.wt b mb;have:=hw9 b mb;exact⟨by show 1<=b.wt+1;omega,by show b.wt+1<=1000;omega⟩)
  have hzL:∀x y,lo=some (x,y)->Sz 320 x/\Sz 80 y:=λx y e=>hz (x,y) (by unfold tl;rw[e];simp[xx])
  have hzH:∀x y,hi=some (x,y)->Sz 320 x/\Sz 80 y:=λx y e=>hz (x,y) (by unfold tl;rw[e];simp[xx])
  have hzr':TZ rs lo hi:=λu mu=>by
   unfold tl at mu
   rcases wN.mp mu with mu | mu
   ·rcases wN.mp mu with mu | mu
    ·cases lo with
     | none=>cases mu
     | some v=>rw[wF.mp mu];exact hzL _ _ rfl
    ·obtain⟨c',mc,rfl⟩:=ww.mp mu;exact hzr c' mc
   ·cases hi with
    | none=>cases mu
    | some v=>rw[wF.mp mu];exact hzH _ _ rfl
  have hno:lo=none\/hi=none:=by
   rcases F.wall with⟨_,h,_⟩ | ⟨_,h,_⟩ | ⟨_,h,_⟩
   ·exact .inl h
   ·exact .inr h
   ·exact .inl h
  have hsh:xL lo hi=none:=by
   rcases hno with rfl | rfl
   ·rfl
   ·cases lo <;> rfl
  have hsdd:side = "low"\/side = "high"\/side = "":=by
   rcases F.wall with⟨h,_⟩ | ⟨h,_⟩ | ⟨h,_⟩
   ·exact .inr (.inr h)
   ·exact .inl h
   ·exact .inr (.inl h)
  dsimp only[zO]
  refine⟨_,rfl,_,rfl,r,ws,us,v1,v2,bs,lo,hi,rfl,hrr4,hBc4,hws4,hv14,hv24,h8,hz,λvm G5 s5 hvm hvz=>?_⟩
  rw[F.soon]at hvm
  obtain⟨am,rfl,ham⟩:=hvm
  have zm:=hvz m F.soon
  dsimp only[zO]
  have key:∀{x y:Rat},Sz 320 x->Sz 80 y->Sz 2000 (x+y*m):=λhx hy=>(hx.add (hy.mul zm)).mono (by decide)
  refine⟨_,rfl,_,rfl,t4,am,us4,_,m,rfl,s5 _ _ ht4,QB (hB4.same s5),by rw[we];exact hl8,λn mn=>?_,ham,zm,λth us6 G6 s6 hth hO6=>?_⟩
  ·obtain⟨b,mb,rfl⟩:=ww.mp mn
   exact⟨by show 1<=1;decide,λt e=>by cases e;exact hzr b mb⟩
  have hB6:=Xd hO6
  have S46:=s5.trans s6
  dsimp only[zO]
  refine⟨_,rfl,_,rfl,ws,am,[v1,v2],[(lo,[]),(hi,[])],m,rfl,S46 _ _ hws4,zcd (hv14.tups (.of S46)) (hv24.tups (.of S46)),by show 2<=8;decide,λn mn=>?_,s6 _ _ ham,zm,λst us7 G7 s7 hst hO7=>?_⟩
  ·simp only[wy,wQ,or_false]at mn
   rcases mn with rfl | rfl
   ·exact⟨by show 0<=1;decide,λt e=>hzL t.1 t.2 e⟩
   ·exact⟨by show 0<=1;decide,λt e=>hzH t.1 t.2 e⟩
  have hl7:us7.length=2:=hO7.1
  match us7,hl7 with
  | [w1,w2],_ =>
  have hw1:zV G7 w1 (zR m lo):=V0 (hO7.2 0 w1 _ rfl rfl)
  have hw2:zV G7 w2 (zR m hi):=V0 (hO7.2 1 w2 _ rfl rfl)
  have S47:=S46.trans s7
  dsimp only[zO]
  obtain⟨u0,eu0⟩:∃u0,us[0]? = some u0:=⟨_,wf (by have:=hBc4.length;omega)⟩
  obtain⟨ab,pb,qb,b0,eb0,rfl,g1,g2,g3⟩:=(hBc4.same S47).get eu0
  have a0:atI us 0=some (V.ref ab):=xF (j:=0) eu0
  refine⟨_,rfl,⟨t4,us4,rfl,S47 _ _ ht4⟩,_,rfl,r,_,_,_,rfl,rfl,.of (S47 _ _ hrr4),a0,t4,us4,.ref ab,rs.map Zv,Zv b0,L.length,rfl,rfl,S47 _ _ ht4,Zx (hB4.same S47),.tup g1 (.cons (v7 g2) (.cons (v7 g3) (.cons (.int _) .nil))),λc' mc=>by obtain⟨b,_,rfl⟩:=ww.mp mc;exact(jI b).1,(jI b0).1,wS (jI b0).2 (by decide),⟨Zv b0,?_,(jI b0).self⟩,λj c' hj ec'=>?_,?_⟩
  ·rw[ers,wg,wU,wm (wx _),Nat.sub_self,wu (by omega),eb0];rfl
  ·rcases hL with rfl | ⟨_,cs,c1,d,hbs,d1,d2,rfl⟩
   ·simp at hj
   ·have:j=0:=by simp at hj;exact hj
    subst this
    rw[ers]at ec'
    have hc1:c1=b0:=by rw[hbs]at eb0;simpa using eb0
    subst hc1
    have ec':Zv ⟨c1.pl - (d:Rat),c1.sp,c1.wt+2⟩=c':=by simpa using ec'
    rw[<-ec']
    have:=XS d1
    exact zd5 (by show c1.pl - (d:Rat)≠c1.pl;grind)
  dsimp only[zO]
  have hcz:CZ (bs.map (zN m)) (zR m lo) (zR m hi):=by
   refine⟨λb mb=>?_,λx y e=>?_,λx y e=>?_⟩
   ·obtain⟨c,mc,rfl⟩:=ww.mp mb
    exact⟨key ((hG.sz c mc).1.mono (by decide)) (hG.sz c mc).2,(hG.sz c mc).2⟩
   ·cases lo with
    | none=>cases e
    | some u=>obtain⟨x0,y0⟩:=u;cases e;exact⟨key (hzL _ _ rfl).1 (hzL _ _ rfl).2,(hzL _ _ rfl).2⟩
   ·cases hi with
    | none=>cases e
    | some u=>obtain⟨x0,y0⟩:=u;cases e;exact⟨key (hzH _ _ rfl).1 (hzH _ _ rfl).2,(hzH _ _ rfl).2⟩
  refine⟨_,rfl,_,rfl,r,am,us,_,m,rfl,S47 _ _ hrr4,QB (hBc4.same S47),by rw[we];exact h8,λn mn=>?_,s7 _ _ (s6 _ _ ham),zm,λcr us8 G8 s8 hcr hO8=>?_⟩
  ·obtain⟨b,mb,rfl⟩:=ww.mp mn
   exact⟨by show 1<=1;decide,λt e=>by cases e;exact⟨(hG.sz b mb).1.mono (by decide),(hG.sz b mb).2⟩⟩
  have hB8:=Xd hO8
  refine⟨_,rfl,cr,st,us8,_,w1,w2,_,_,rfl,hcr,hB8,by rw[we];exact h8,s8 _ _ hst,hw1.tups (.of s8),hw2.tups (.of s8),hcz,λGl gs G9 s9 _ hGl hgr9=>?_⟩
  rw[F.gr]at hgr9
  obtain⟨gv,egv⟩:∃gv,gs=[gv]:=by
   have:=hgr9.1
   match gs,this with
   | [x],_=>exact⟨x,rfl⟩
  subst egv
  obtain⟨g',eg',ag,rfl,hag⟩:=hgr9.2 0 gv rfl
  have:g'=(0,bs.length - 1,side):=by simpa using eg'.symm
  subst this
  refine⟨Gl,_,_,_,rfl,rfl,.of hGl,rfl,?_⟩
  have S79:=s8.trans s9
  have S49:=S47.trans S79
  dsimp only[zO]
  have hlay:Lay 3 (coD m [(L.length,L.length+(bs.length - 1),side)]):=zgM _ λg mg=>by
   rw[wF.mp mg]
   show PyData.canLay0 (.str side)=true
   rcases hsdd with h | h | h <;> rw[h] <;> decide +kernel
  refine⟨_,rfl,_,rfl,t4,ws,us4,v1,v2,rs,lo,hi,m,rfl,S49 _ _ ht4,hB4.same S49,S49 _ _ hws4,hv14.tups (.of S49),hv24.tups (.of S49),hl8,hzr',hO,hso,F.pos,hsh,λv10 G10 s10 hv10=>?_⟩
  rw[hgr]at hv10
  have hag10:=s10 _ _ hag
  have S410:=S49.trans s10
  refine⟨_,rfl,_,rfl,_,rfl,ag,_,_,_,rfl,rfl,.of hag10,rfl,_,_,rfl,rfl,_,rfl,_,rfl,ag,_,_,_,rfl,rfl,.of hag10,rfl,_,_,rfl,rfl,_,rfl,ag,_,_,_,rfl,rfl,.of hag10,rfl,zL3,λt11 ht11=>⟨zL1,λl12 hl12=>⟨zL2,λt13 ht13=>?_⟩⟩⟩
  have Sx:=(zi.upd (o:=.tup [V.int ((L.length:Int)+((0:Nat):Int)),V.int ((L.length:Int)+((bs.length - 1:Nat):Int)),V.str side]) ht11).trans ((zi.upd (o:=.lst [V.ref t11]) hl12).trans (zi.upd (o:=.tup [V.ref am,V.ref l12]) ht13))
  have eD:(PyData.tuple [rD m,.list [.tuple [.int ((L.length:Int)+((0:Nat):Int)),.int ((L.length:Int)+((bs.length - 1:Nat):Int)),.str side]]])=coD m [(L.length,L.length+(bs.length - 1),side)]:=by
   unfold coD grD;simp
  have am13:=Sx _ _ (s10 _ _ (S79 _ _ (s7 _ _ (s6 _ _ ham))))
  have hd13:=RdD.tup (H:=upd (upd (upd G10 t11 (.tup [V.int ((L.length:Int)+((0:Nat):Int)),V.int ((L.length:Int)+((bs.length - 1:Nat):Int)),V.str side])) l12 (.lst [V.ref t11])) t13 (.tup [V.ref am,V.ref l12])) (a:=t13) zg (.cons (v7 am13) (.cons (.lst (zi.upd ht13 _ _ zg) (.cons (.tup (zi.upd ht13 _ _ (zi.upd hl12 _ _ zg)) (.cons (.int _) (.cons (.int _) (.cons (.str _) .nil)))) .nil)) .nil))
  rw[eD]at hd13
  refine⟨_,_,hv10.same Sx,hd13,hlay.shaped (by decide),hlay.shaped (by decide),_,rfl,?_⟩
  rw[hlay.self]
  refine xo (za6 ?_)
  try dsimp only
  generalize upd (upd (upd G10 t11 (.tup [V.int ((L.length:Int)+((0:Nat):Int)),V.int ((L.length:Int)+((bs.length - 1:Nat):Int)),V.str side])) l12 (.lst [V.ref t11])) t13 (.tup [V.ref am,V.ref l12])=G13 at *
  have S413:=S410.trans Sx
  have S713:=S79.trans (s10.trans Sx)
  have S613:=s7.trans S713
  have hag13:=Sx _ _ hag10
  have hul:us.length=bs.length:=hBc4.length
  refine⟨_,rfl,_,rfl,_,rfl,_,rfl,_,rfl,r,us,rfl,.inr (.of (S413 _ _ hrr4)),_,_,rfl,rfl,_,_,rfl,rfl,_,rfl,ag,_,_,_,rfl,rfl,.of hag13,rfl,zL3,λt14 ht14=>⟨zL1,λl15 hl15=>?_⟩⟩
  dsimp only at hl15 ⊢
  rw[show (L.length:Int)+(us.length:Int) - 1=((L.length+(bs.length - 1):Nat):Int) by omega]at hl15 ⊢
  have s15:=(zi.upd (o:=.tup [V.int (L.length:Int),V.int ((L.length+(bs.length - 1):Nat):Int),V.str side]) ht14).trans (zi.upd (o:=.lst [V.ref t14]) hl15)
  have hl15':upd (upd G13 t14 (.tup [V.int (L.length:Int),V.int ((L.length+(bs.length - 1):Nat):Int),V.str side])) l15 (.lst [V.ref t14]) l15=some (.lst [V.ref t14]):=zg
  have ht15:upd (upd G13 t14 (.tup [V.int (L.length:Int),V.int ((L.length+(bs.length - 1):Nat):Int),V.str side])) l15 (.lst [V.ref t14]) t14=some (.tup [V.int (L.length:Int),V.int ((L.length+(bs.length - 1):Nat):Int),V.str side]):=zi.upd hl15 _ _ zg
  generalize upd (upd G13 t14 (.tup [V.int (L.length:Int),V.int ((L.length+(bs.length - 1):Nat):Int),V.str side])) l15 (.lst [V.ref t14])=G15 at s15 hl15' ht15 ⊢
  have S415:=S413.trans s15
  have S615:=S613.trans s15
  have S715:=S713.trans s15
  have hsg:sgB (rs.map (zN m)) (L.length,L.length+(bs.length - 1),side)=bs.map (zN m):=by
   unfold sgB
   try dsimp only
   rw[ers,w8,w8,wU,show L.length=(L.map (zN m)).length by simp,List.drop_left,show (L.map (zN m)).length+(bs.length - 1)+1 - (L.map (zN m)).length=(bs.map (zN m)).length by simp;omega,List.take_left]
  have hsgw:∀x∈(bs.map (zN m)).map zJ.wt,x=w0:=λx mx=>by
   obtain⟨c',mc,rfl⟩:=ww.mp mx
   obtain⟨b,mb,rfl⟩:=ww.mp mc
   exact hw0 b mb
  have hrl:rs.length=L.length+bs.length+R.length:=by rw[ers];simp;omega
  refine⟨th,st,l15,us6,rs.map (zN m),w1,w2,zR m lo,zR m hi,[.ref t14],[(L.length,L.length+(bs.length - 1),side)],rfl,S615 _ _ hth,hB6.same S615,S715 _ _ hst,hw1.tups (.of S715),hw2.tups (.of S715),hl15',⟨rfl,λi v e=>?_⟩,by rw[we];exact hl8,λb mb=>?_,λx y e=>?_,λx y e=>?_,λg mg=>?_,λ⟨g,mg,hrf⟩=>?_,λtd usd csd G16 s16 htd hBd hCd=>?_⟩
  ·match i,e with
   | 0,e=>cases e;exact⟨_,rfl,t14,rfl,ht15⟩
   | i+1,e=>simp at e
  ·obtain⟨c',mc,rfl⟩:=ww.mp mb
   have:=hwr c' mc
   exact⟨(hzr c' mc).2,this.1,by show c'.wt<=1010;omega⟩
  ·cases lo with
   | none=>cases e
   | some u=>obtain⟨x0,y0⟩:=u;cases e;exact(hzL _ _ rfl).2
  ·cases hi with
   | none=>cases e
   | some u=>obtain⟨x0,y0⟩:=u;cases e;exact(hzH _ _ rfl).2
  ·rw[wF.mp mg]
   exact⟨by show L.length<=L.length+(bs.length - 1);omega,by show L.length+(bs.length - 1)<(rs.map (zN m)).length;rw[we];omega,hsdd⟩
  ·rw[wF.mp mg]at hrf
   have:=hrf.2
   rw[hsg,Jg hsgw]at this;cases this
  obtain⟨ss',hsl',hd',rfl⟩:=zeu hCd
  dsimp only at hsl' hd'
  dsimp only[zO]
  have S416:=S415.trans s16
  have S716:=S715.trans s16
  have am16:zD G16 am m:=s16 _ _ (s15 _ _ am13)
  have TG16:=TG4.same S416
  have hbi:∀i,L.length<=i->i<=L.length+(bs.length - 1)->∀c,rs[i]? = some c->c∈bs:=λi h1 h2 c ec=>by
   rw[ers,wU,wm h1,wu (by omega)]at ec
   exact wj ec
  refine⟨_,rfl,_,rfl,t4,ws,us4,v1,v2,rs,lo,hi,m,pl,L.length,L.length+(bs.length - 1),side,rfl,S416 _ _ ht4,hB4.same S416,S416 _ _ hws4,hv14.tups (.of S416),hv24.tups (.of S416),hl8,hzr',hO,hso,F.pos,hsh,hgr,hwr,by omega,by omega,hsdd,λi h1 h2 c ec=>hpl c (hbi i h1 h2 c ec),λu e=>?_,?_,TG16,λp16 mm r' wa' us' x1 x2 ss G17 st17 tb17 hp hm hr' hsl hd hBr hwa' hx1 hx2=>?_⟩
  ·unfold x9 at e
   split at e
   ·exact hlo u.1 u.2 e
   ·split at e
    ·exact hhi u.1 u.2 e
    ·cases e
  ·refine Jg (w0:=w0) λx mx=>?_
   unfold xO at mx
   rw[ZC,show L.length+(bs.length - 1)+1 - L.length=bs.length by omega,ers,w8,w8,wU,show L.length=(L.map zJ.wt).length by simp,List.drop_left,show bs.length=(bs.map zJ.wt).length by simp,List.take_left]at mx
   obtain⟨b,mb,rfl⟩:=ww.mp mx
   exact hw0 b mb
  have tupT:zY G16 G17:=λb xs eb=>st17 b _ eb λz=>by obtain⟨ps,gT,_⟩:=TG16;rw[z,gT]at eb;cases eb
  have ess:=zbA hd' hd
  subst ess
  dsimp only[zO]
  obtain⟨cs,ecs⟩:∃cs,cs=Xg (rs.map (zN m)) (rs.map (zN m)) L.length ss' (L.length+(bs.length - 1)+1 - L.length):=⟨_,rfl⟩
  rw[<-ecs]at hBd hBr
  refine⟨_,rfl,rfl,_,rfl,xo ?_⟩
  refine⟨_,rfl,_,rfl,_,rfl,_,rfl,zL3,λt18 ht18=>?_⟩
  have s18:=zi.upd (o:=.tup [V.ref am,V.ref td,V.ref st]) ht18
  have ht18':upd G17 t18 (.tup [V.ref am,V.ref td,V.ref st]) t18=some (.tup [V.ref am,V.ref td,V.ref st]):=zg
  generalize upd G17 t18 (.tup [V.ref am,V.ref td,V.ref st])=G18 at s18 ht18' ⊢
  have Tu18:zY G16 G18:=tupT.trans (.of s18)
  have Tu718:zY G7 G18:=(zY.of S716).trans Tu18
  refine⟨zgl m cs (zR m lo) (zR m hi),zgl m cs (zR m lo) (zR m hi),(RdD.tup hp (.cons (v7 hm) (.cons (.tup hr' (Zx hBr)) (.cons (.tup hwa' (.cons (zbg hx1) (.cons (zbg hx2) .nil))) .nil)))).same s18,.tup ht18' (.cons (v7 (Tu18 _ _ am16)) (.cons (.tup (Tu18 _ _ htd) (Zx (hBd.mono Tu18))) (.cons (.tup (Tu718 _ _ hst) (.cons (zbg (hw1.tups Tu718)) (.cons (zbg (hw2.tups Tu718)) .nil))) .nil))),(Vf _ _ _ _).shaped (by decide),(Vf _ _ _ _).shaped (by decide),_,rfl,?_⟩
  rw[(Vf m cs (zR m lo) (zR m hi)).self]
  refine xo ?_
  have hsl2:ss'.length=bs.length:=by rw[hsl'];omega
  have ecs2:cs=L.map (zN m)++(List.range bs.length).map (nbB ((L++bs++R).map (zN m)) L.length ss')++R.map (zN m):=by
   rw[ecs,show L.length+(bs.length - 1)+1 - L.length=bs.length by omega,ers];exact zbT
  rw[hsg]at hd'
  have hvs:(bs.map (zN m)).map zJ.sp=bs.map zJ.sp:=by rw[wV];rfl
  rw[hvs]at hd'
  obtain⟨pl0,mm0,y0,qs,wh,hLn,pm0,hFD,hwall⟩:=hFo
  have hqs:bs.map zJ.sp=qs:=by
   have:=congrArg (List.map Prod.snd) hLn
   unfold xY at this
   rw[wV,wV]at this
   have e2:(qs.map (Prod.snd ∘ λs=>(pl0 - s*mm0,s)))=qs:=by
    show qs.map (λs=>s)=qs
    exact List.map_id' qs
   rw[e2]at this
   exact this
  have hw1':∀x∈(bs.map (zN m)).map zJ.wt,1<=x/\x<=1000:=λx mx=>by
   obtain⟨c',mc,rfl⟩:=ww.mp mx
   obtain⟨b,mb,rfl⟩:=ww.mp mc
   exact hG.wt b mb
  have hw01:1<=w0:=by have h1:=hG.wt b0 (wj eb0);have h2:=hw0 b0 (wj eb0);omega
  have hrise:=zbz hd' hsgw hw01 (by rw[hqs];exact hFD.1)
  have hlow:∀x y,lo=some (x,y)->x+y*m=pl/\∀s∈ss',y<=s:=λx y e=>by
   refine⟨hlo x y e,?_⟩
   have hsl:side = "low":=by
    rcases F.wall with⟨_,h,_⟩ | ⟨h,_⟩ | ⟨_,h,_⟩
    ·rw[h]at e;cases e
    ·exact h
    ·rw[h]at e;cases e
   rcases hwall with⟨_,h,_⟩ | ⟨h1,h2,_⟩ | ⟨_,h,_⟩
   ·rw[h]at e;cases e
   ·rw[h2]at e
    injection e with e
    injection e with e1 e2
    subst e2
    rw[hsl,h2]at hd'
    exact zed hd' (by rw[hqs];exact hFD.2.1 h1)
   ·rw[h]at e;cases e
  have hhigh:∀x y,hi=some (x,y)->x+y*m=pl/\∀s∈ss',s<=y:=λx y e=>by
   refine⟨hhi x y e,?_⟩
   have hsl:side = "high":=by
    rcases F.wall with⟨_,_,h,_⟩ | ⟨_,h,_⟩ | ⟨h,_⟩
    ·rw[h]at e;cases e
    ·rw[h]at e;cases e
    ·exact h
   rcases hwall with⟨_,_,h⟩ | ⟨_,_,h⟩ | ⟨h1,_,h2⟩
   ·rw[h]at e;cases e
   ·rw[h]at e;cases e
   ·rw[h2]at e
    injection e with e
    injection e with e1 e2
    subst e2
    rw[hsl,h2]at hd'
    exact zec hd' (by rw[hqs];exact hFD.2.2.1 h1)
  obtain⟨bF,csF,cF,eF1,eF2,eF3⟩:=ze1 hpl hlow hhigh hno hL hR n1 hsl2 hrise
  rw[<-ecs2]at eF1 eF2 eF3
  have hzs:=zee hd' hw1' (λv mv=>by obtain⟨b,mb,rfl⟩:=ww.mp mv;exact(hG.sz b mb).2) (λy e=>by
   have:∀u,x9 side (zR m lo) (zR m hi)=some u->Sz 80 u.2:=λu eu=>by
    unfold x9 at eu
    split at eu
    ·cases lo with
     | none=>cases eu
     | some v=>obtain⟨x1,y1⟩:=v;cases eu;exact(hzL _ _ rfl).2
    ·split at eu
     ·cases hi with
      | none=>cases eu
      | some v=>obtain⟨x1,y1⟩:=v;cases eu;exact(hzH _ _ rfl).2
     ·cases eu
   obtain⟨u,eu,rfl⟩:=uo.mp e
   exact this u eu)
  have hmem:∀c∈cs,(Sz 4000 c.pl/\Sz 4000 c.sp)/\1<=c.wt/\c.wt<=1000:=λc mc=>by
   rw[ecs2]at mc
   have hth':∀b∈rs,(Sz 4000 (zN m b).pl/\Sz 4000 (zN m b).sp)/\1<=(zN m b).wt/\(zN m b).wt<=1000:=λb mb=>⟨⟨(key (hzr b mb).1 (hzr b mb).2).mono (by decide),(hzr b mb).2.mono (by decide)⟩,hwr b mb⟩
   rcases wN.mp mc with mc | mc
   ·rcases wN.mp mc with mc | mc
    ·obtain⟨b,mb,rfl⟩:=ww.mp mc
     exact hth' b (by rw[ers];simp[mb])
    ·obtain⟨j,mj,rfl⟩:=ww.mp mc
     obtain⟨b,v,e1,e2,e3⟩:=zfQ (L:=L) (R:=R) hpl hsl2 (List.mem_range.mp mj)
     rw[e3]
     have mb:=wj e1
     refine⟨⟨?_,hzs v (wj e2)⟩,hG.wt b mb⟩
     show Sz 4000 pl
     rw[<-hpl b mb]
     exact(key ((hG.sz b mb).1.mono (by decide)) (hG.sz b mb).2).mono (by decide)
   ·obtain⟨b,mb,rfl⟩:=ww.mp mc
    exact hth' b (by rw[ers];simp[mb])
  have hwz:∀{l:Wl},(∀x y,l=some (x,y)->Sz 320 x/\Sz 80 y)->K3.WSz (zR m l):=λ{l} h x y e=>by
   cases l with
   | none=>cases e
   | some u=>obtain⟨x1,y1⟩:=u;cases e;exact⟨(key (h _ _ rfl).1 (h _ _ rfl).2).mono (by decide),(h _ _ rfl).2.mono (by decide)⟩
  refine⟨_,rfl,_,rfl,p16,_,_,_,rfl,rfl,.of (s18 _ _ hp),rfl,st,w1,w2,zR m lo,zR m hi,r',us',cs,bF,csF,cF,rfl,Tu718 _ _ hst,hw1.tups Tu718,hw2.tups Tu718,hwz hzL,hwz hzH,s18 _ _ hr',hBr.same s18,eF1,eF2,λc mc=>(hmem c mc).1,by rw[ecs,je,we];exact hl8,λc mc=>(hmem c mc).2,λG19 s19=>?_⟩
  rw[eF3]
  refine⟨_,rfl,?_⟩
  exact xo ⟨_,rfl,rfl,λb o eb nb=>s19 _ _ (s18 _ _ (st17 b o (S416 _ _ (S4 _ _ (S0 b o eb nb))) nb)),(tb17.same s18).same s19⟩
 ·rintro σ G ⟨z,hz,rfl,_⟩
  exact k G
end
open PySem.W
abbrev OwnV (x:Str) (C:Addr) (mg:Str->Option Value) (h:Heap):Prop:=PyProof.Rows.OwnCls x C Vz "ValueError.__new__" mg h
def xKB (K:Frag) (C:Addr):Bool:=findIn K (.ref C) "__getattribute__" == some (some (.builtin "BaseException.__getattribute__"))&&findIn K (.ref C) "__getattr__" == some none&&subIn K (.ref C) (.type "BaseException") == some true&&mroIn K C (.type "object") == some true&&hasDictIn K C &&
 findIn K (.ref C) "__class__" == some (some (.builtin "object.__class__"))&&specialIn K (.builtin "object.__class__") "__get__" == some (some (.builtin "getset_descriptor.__get__"))&&takesIn K (.builtin "object.__class__") == some true
theorem zgd {K:Frag}{C:Addr}(h:xKB K C=true):ExcK K C:=by
 simp only[xKB,yM,beq_iff_eq]at h
 obtain⟨⟨⟨⟨⟨⟨⟨h1,h2⟩,h3⟩,h4⟩,h5⟩,h6⟩,h7⟩,h8⟩:=h
 exact⟨h1,h2,h3,h4,h5,h6,h7,h8⟩
theorem JW {K:Frag}{h:Heap}{N:Addr}{m:Str->Option Value}{x:Str}{v:Value}(X:K.In h) (G:h.Ns N m) (e:nsIn K N x=some (some v)):m x=some v:=by
 obtain⟨oN,eN,pN,gN,dN,_,fN⟩:=G
 unfold nsIn at e
 split at e
 case h_2=>cases e
 case h_1 c d es' n' sl q =>
  have z:=X _ _ q
  rw[gN]at z
  cases z
  cases dN
  split at e
  case h_1 en he =>
   cases e
   rw[<-fN]
   unfold nsFind findBy
   rw[<-Array.find?_toList,he];rfl
  case h_2=>split at e <;> cases e
def zbh (K:Frag) (C f:Addr):Bool:=match K.lookup C with
 | some ⟨.type "type",_,.cls cd,sl⟩=>(match cd.mro,sl.toList with
  | .ref C'::bm,[_,_,_,_,some (.builtin n),_]=>C' == C&&n == "ValueError.__new__"&&!cd.hasDel&&tailIn K Vz bm&&nsOkIn K cd.ns&&nsIn K cd.ns "__init__" == some (some (.ref f))&&cd.hasDict&&Xq (.ref C'::bm)
  | _,_=>false)
 | _=>false
theorem zdX {K:Frag}{h:Heap}{C f:Addr}(X:K.In h) (q:zbh K C f=true) (hf:∃oI,h.get? f=some oI/\oI.cls = .type "function") (kp:keepIn K (.ref C)=true):XMk K h C f/\XB h C/\∃cd,clsIn K C=some cd/\cd.hasDict=true/\Xq cd.mro=true:=by
 unfold zbh at q
 split at q
 case h_2=>cases q
 case h_1 dd cd sl ho =>
  split at q
  case h_2=>cases q
  case h_1 C' bm k0 k1 k2 k3 n k5 hm hs =>
   have hcl:clsIn K C=some cd:=by unfold clsIn;rw[ho]
   obtain⟨cnm,cbs,cmro,cns,cqn,chd,csn,csub,cab,ccol,cdel⟩:=cd
   obtain⟨sll⟩:=sl
   simp only at hm hs q
   subst hm;subst hs
   simp only[yM,beq_iff_eq,Bool.not_eq_true']at q
   obtain⟨⟨⟨⟨⟨⟨⟨eC,en⟩,ed⟩,et⟩,eo⟩,ei⟩,eh⟩,ov⟩:=q
   subst eC;subst en;subst ed;subst eh
   refine⟨⟨⟨cnm,cqn,cns,cbs,bm,true,csn,csub,cab,ccol,dd,k0,k1,k2,k3,k5,_,X _ _ ho,.of_isNs (isNs_of_in X eo),?_,tail_of_in X et⟩,hf,kp⟩,⟨cnm,cqn,cns,cbs,bm,true,csn,csub,cab,ccol,dd,k0,k1,k2,k3,k5,_,X _ _ ho,tail_of_in X et⟩,_,hcl,rfl,ov⟩
   exact JW X (.of_isNs (isNs_of_in X eo)) ei
theorem bl1 {p:List Value->Prop}(h:∀a,p [a]):∀us:List Value,us.length=1->p us:=λus e=>match us,e with | [a],_=>h a
theorem bl2 {p:List Value->Prop}(h:∀a b,p [a,b]):∀us:List Value,us.length=2->p us:=λus e=>match us,e with | [a,b],_=>h a b
theorem bl3 {p:List Value->Prop}(h:∀a b c,p [a,b,c]):∀us:List Value,us.length=3->p us:=λus e=>match us,e with | [a,b,c],_=>h a b c
theorem bl4 {p:List Value->Prop}(h:∀a b c d,p [a,b,c,d]):∀us:List Value,us.length=4->p us:=λus e=>match us,e with | [a,b,c,d],_=>h a b c d
theorem bl5 {p:List Value->Prop}(h:∀a b c d e,p [a,b,c,d,e]):∀us:List Value,us.length=5->p us:=λus e=>match us,e with | [a,b,c,d,e],_=>h a b c d e
theorem bl6 {p:List Value->Prop}(h:∀a b c d e f,p [a,b,c,d,e,f]):∀us:List Value,us.length=6->p us:=λus e=>match us,e with | [a,b,c,d,e,f],_=>h a b c d e f
abbrev NsF (K:Fg) (x:Str) (f:Addr):Prop:=PySem.W.nsIn K mainGlobals x=some (some (.ref f))
abbrev Nz (K:Fg) (x:Str):Prop:=PySem.W.nsIn K mainGlobals x=some none
abbrev CdI (K:Fg) (c:Value) (x:Str):Prop:=PySem.W.codeIn K c x=true
abbrev KpI (K:Fg) (f:Addr):Prop:=PySem.W.keepIn K (.ref f)=true
abbrev FnO (x:Str) (st:Stmt) (dV kV dc pm:Value) (an:Option Addr) (cd ct oc:Value) (od:Option Addr) (sl:Array (Option Value)):Obj:=⟨oc,od,.func (PySem.W.fnOf x x (qd st) (xC st) (zr st) dV kV dc pm an cd ct),sl⟩
end KT
def PySem.W.Fast.tw5558141994396592899:Nat:=0
def PySem.W.Fast.tw17474290220866949975:Nat:=0
def PySem.W.Fast.tw8044211666047810151:Nat:=0
def PySem.W.Fast.tw8878877315828800756:Nat:=0
def PySem.W.Fast.tw4586766397082791147:Nat:=0
def PySem.W.Fast.tw5307967392239475611:Nat:=0
def PySem.W.Fast.tw5851849670149067986:Nat:=0
def PySem.W.Fast.tw435163584832976452:Nat:=0
def PySem.W.Fast.tw122486853668288858:Nat:=0
def PySem.W.Fast.tw8936346126232539017:Nat:=0
def PySem.W.Fast.tw2757430937776682409:Nat:=0
def PySem.W.Fast.tw3972295523200208629:Nat:=0
def PySem.W.Fast.tw5571004889372018377:Nat:=0
def PySem.W.Fast.tw14507833269209606990:Nat:=0
def PySem.W.Fast.tw12208975763010437338:Nat:=0
def PySem.W.Fast.tw2497000223535570932:Nat:=0
def PySem.W.Fast.tw5633811047112070099:Nat:=0
def PySem.W.Fast.tw9371081509266519895:Nat:=0
def PySem.W.Fast.tw6917328258629427972:Nat:=0
def PySem.W.Fast.tw8898626753290531959:Nat:=0
def PySem.W.Fast.tw12852544662252729041:Nat:=0
def PySem.W.Fast.tw16288836014109775863:Nat:=0
def PySem.W.Fast.tw15397377520972639559:Nat:=0
def PySem.W.Fast.tw1450213441744979855:Nat:=0
def PySem.W.Fast.tw13509155776650586462:Nat:=0
def PySem.W.Fast.tw957598695824136292:Nat:=0
def PySem.W.Fast.tw16852817666222992925:Nat:=0
def PySem.W.Fast.tw16586682638209788753:Nat:=0
def PySem.W.Fast.tw12655461863059552132:Nat:=0
def PySem.W.Fast.tw6473374700031009189:Nat:=0
def PySem.W.Fast.tw483606575172822209:Nat:=0
def PySem.W.Fast.tw2660380377855403706:Nat:=0
def PySem.W.Fast.tw6077138563485833770:Nat:=0
def PySem.W.Fast.tw12355692206358134160:Nat:=0
def PySem.W.Fast.tw1958890870208444534:Nat:=0
def PySem.W.Fast.tw14615790546247470944:Nat:=0
def PySem.W.Fast.tw15606224284488899170:Nat:=0
def PySem.W.Fast.tw4437613546166825450:Nat:=0
def PySem.W.Fast.tw11361977227405631850:Nat:=0
def PySem.W.Fast.tw1016457462229619647:Nat:=0
def PySem.W.Fast.tw3720224064547206571:Nat:=0
def PySem.W.Fast.tw4218667997249954356:Nat:=0
def PySem.W.Fast.tw15102187406153163273:Nat:=0
def PySem.W.Fast.tw15514605484740584176:Nat:=0
def PySem.W.Fast.tw581639335676007857:Nat:=0
def PySem.W.Fast.tw2200424412294969554:Nat:=0
def PySem.W.Fast.tw5405064164847648192:Nat:=0
def PySem.W.Fast.tw8998209075801093269:Nat:=0
def PySem.W.Fast.tw16106807787912546909:Nat:=0
def PySem.W.Fast.tw4707938356857960514:Nat:=0
def PySem.W.Fast.tw8851234042289240662:Nat:=0
def PySem.W.Fast.tw2289001140411438858:Nat:=0
def PySem.W.Fast.tw9331503246145572999:Nat:=0
def PySem.W.Fast.tw33296896956960203:Nat:=0
def PySem.W.Fast.tw18283380232593287931:Nat:=0
def PySem.W.Fast.tw2408676618899829559:Nat:=0
def PySem.W.Fast.tw6208779147040252053:Nat:=0
def PySem.W.Fast.tw13564362042568159575:Nat:=0
def PySem.W.Fast.tw1347701073633121596:Nat:=0
def PySem.W.Fast.tw2001445278802259798:Nat:=0
def PySem.W.Fast.tw13252370620373620851:Nat:=0
def PySem.W.Fast.tw10761779899957603518:Nat:=0
def PySem.W.Fast.tw9146758421259887897:Nat:=0
def PySem.W.Fast.tw12081143112591167000:Nat:=0
def PySem.W.Fast.tw1881025299562186460:Nat:=0
def PySem.W.Fast.tw4448025737777444611:Nat:=0
def PySem.W.Fast.tw17313805911125236246:Nat:=0
def PySem.W.Fast.tw8429039017361420431:Nat:=0
def PySem.W.Fast.tw7575267128594631556:Nat:=0
def PySem.W.Fast.tw14541349407309437804:Nat:=0
def PySem.W.Fast.tw16124412145176363202:Nat:=0
def PySem.W.Fast.tw2049757469795646507:Nat:=0
def PySem.W.Fast.tw14474082858010305087:Nat:=0
def PySem.W.Fast.tw8106408996479883791:Nat:=0
def PySem.W.Fast.tw2718276582796727767:Nat:=0
def PySem.W.Fast.tw9009038869599683249:Nat:=0
def PySem.W.Fast.tw7945245512990450474:Nat:=0
namespace KT
open PySem L2 KM KK
theorem zgK (K:Fg):PySem.W.kitOne K (.type "int") (.type "int")=some true:=by
 unfold PySem.W.kitOne;rw[if_pos (by decide +kernel)]
theorem zgJ (K:Fg):PySem.W.kitOne K (.type "int") (.type "bool")=some false:=by
 with_unfolding_all rfl
theorem zgL (K:Fg):PySem.W.kitOne K (.type "tuple") (.type "tuple")=some true:=by
 unfold PySem.W.kitOne;rw[if_pos (by decide +kernel)]
theorem zgI (K:Fg):PySem.W.kitOne K (.type "bool") (.type "bool")=some true:=by
 unfold PySem.W.kitOne;rw[if_pos (by decide +kernel)]
theorem zgj {l:PySem.W.OpenLaw}{w:World}{K:Fg}{h:Heap}{mg:Str->Option Value}{fa cde Tb:Addr}(X:K.In h) (G:h.Ns mainGlobals mg) (hfa:mg "law" = some (.ref fa))
  {f0 f1 f2 f3 f4 Td4 f5 f6 f7 f8 f9 f10 f11 f12 f13 f14 f15 f16 f17 f18 f19 f20 f21 f22 f23 f24 f25 f26 f27 f28 f29 f30 f31 f32 f33 f34 f35 f36 f37 f38 f39 f40 f41 f42 f43 f44 f45 f46 f47 f48 f49 f50 f51 f52 f53 f54 f55 f56 f57 f58 f59 f60 f61 f62 C_ClackError C_Shut C_Course C_Together fI_Shut fI_Course fI_Together:Addr}{od0 an0 od1 an1 od2 an2 od3 an3 od4 an4 odd4 od5 an5 od6 an6 od7 an7 od8 an8 od9 an9 od10 an10 od11 an11 od12 an12 od13 an13 od14 an14 od15 an15 od16 an16 od17 an17 od18 an18 od19 an19 od20 an20 od21 an21 od22 an22 od23 an23 od24 an24 od25 an25 od26 an26 od27 an27 od28 an28 od29 an29 od30 an30 od31 an31 od32 an32 od33 an33 od34 an34 od35 an35 od36 an36 od37 an37 od38 an38 od39 an39 od40 an40 od41 an41 od42 an42 od43 an43 od44 an44 od45 an45 od46 an46 od47 an47 od48 an48 od49 an49 od50 an50 od51 an51 od52 an52 od53 an53 od54 an54 od55 an55 od56 an56 od57 an57 od58 an58 od59 an59 od60 an60 od61 an61 od62 an62 odI_Shut anI_Shut odI_Course anI_Course odI_Together anI_Together:Option Addr}{sl0 sl1 sl2 sl3 sl4 sld4 sl5 sl6 sl7 sl8 sl9 sl10 sl11 sl12 sl13 sl14 sl15 sl16 sl17 sl18 sl19 sl20 sl21 sl22 sl23 sl24 sl25 sl26 sl27 sl28 sl29 sl30 sl31 sl32 sl33 sl34 sl35 sl36 sl37 sl38 sl39 sl40 sl41 sl42 sl43 sl44 sl45 sl46 sl47 sl48 sl49 sl50 sl51 sl52 sl53 sl54 sl55 sl56 sl57 sl58 sl59 sl60 sl61 sl62 slI_Shut slI_Course slI_Together:Array (Option Value)}{oc0 kV0 dc0 pm0 cd0 ct0 oc1 kV1 dc1 pm1 cd1 ct1 oc2 kV2 dc2 pm2 cd2 ct2 oc3 kV3 dc3 pm3 cd3 ct3 oc4 kV4 dc4 pm4 cd4 ct4 ocd4 oc5 kV5 dc5 pm5 cd5 ct5 oc6 kV6 dc6 pm6 cd6 ct6 oc7 kV7 dc7 pm7 cd7 ct7 oc8 kV8 dc8 pm8 cd8 ct8 oc9 kV9 dc9 pm9 cd9 ct9 oc10 kV10 dc10 pm10 cd10 ct10 oc11 kV11 dc11 pm11 cd11 ct11 oc12 kV12 dc12 pm12 cd12 ct12 oc13 kV13 dc13 pm13 cd13 ct13 oc14 kV14 dc14 pm14 cd14 ct14 oc15 kV15 dc15 pm15 cd15 ct15 oc16 kV16 dc16 pm16 cd16 ct16 oc17 kV17 dc17 pm17 cd17 ct17 oc18 kV18 dc18 pm18 cd18 ct18 oc19 kV19 dc19 pm19 cd19 ct19 oc20 kV20 dc20 pm20 ct20 oc21 kV21 dc21 pm21 cd21 ct21 oc22 kV22 dc22 pm22 cd22 ct22 oc23 kV23 dc23 pm23 cd23 ct23 oc24 kV24 dc24 pm24 cd24 ct24 oc25 kV25 dc25 pm25 cd25 ct25 oc26 kV26 dc26 pm26 cd26 ct26 oc27 kV27 dc27 pm27 cd27 ct27 oc28 kV28 dc28 pm28 cd28 ct28 oc29 kV29 dc29 pm29 cd29 ct29 oc30 kV30 dc30 pm30 cd30 ct30 oc31 kV31 dc31 pm31 cd31 ct31 oc32 kV32 dc32 pm32 cd32 ct32 oc33 kV33 dc33 pm33 cd33 ct33 oc34 kV34 dc34 pm34 cd34 ct34 oc35 kV35 dc35 pm35 cd35 ct35 oc36 kV36 dc36 pm36 cd36 ct36 oc37 kV37 dc37 pm37 cd37 ct37 oc38 kV38 dc38 pm38 cd38 ct38 oc39 kV39 dc39 pm39 cd39 ct39 oc40 kV40 dc40 pm40 cd40 ct40 oc41 kV41 dc41 pm41 cd41 ct41 oc42 kV42 dc42 pm42 cd42 ct42 oc43 kV43 dc43 pm43 cd43 ct43 oc44 kV44 dc44 pm44 cd44 ct44 oc45 kV45 dc45 pm45 cd45 ct45 oc46 kV46 dc46 pm46 cd46 ct46 oc47 kV47 dc47 pm47 cd47 ct47 oc48 kV48 dc48 pm48 cd48 ct48 oc49 kV49 dc49 pm49 cd49 ct49 oc50 kV50 dc50 pm50 cd50 ct50 oc51 kV51 dc51 pm51 cd51 ct51 oc52 kV52 dc52 pm52 cd52 ct52 oc53 kV53 dc53 pm53 cd53 ct53 oc54 kV54 dc54 pm54 cd54 ct54 oc55 kV55 dc55 pm55 cd55 ct55 oc56 kV56 dc56 pm56 cd56 ct56 oc57 kV57 dc57 pm57 cd57 ct57 oc58 kV58 dc58 pm58 cd58 ct58 oc59 kV59 dc59 pm59 cd59 ct59 oc60 kV60 dc60 pm60 cd60 ct60 oc61 kV61 dc61 pm61 cd61 ct61 oc62 kV62 dc62 pm62 cd62 ct62 kVI_Shut dcI_Shut pmI_Shut cdI_Shut ctI_Shut kVI_Course dcI_Course pmI_Course cdI_Course ctI_Course kVI_Together dcI_Together pmI_Together cdI_Together ctI_Together:Value}{tkd4 tk_MOST_BALLS tk_MOST_WEIGHT:Tok}{nd4:Nat}
  (a0:NsF K "is_whole" f0) (l0:K.lookup f0=some (FnO "is_whole" jm .none kV0 dc0 pm0 an0 cd0 ct0 oc0 od0 sl0)) (c0:CdI K cd0 "is_whole") (k0:KpI K f0)
  (a1:NsF K "is_tuple" f1) (l1:K.lookup f1=some (FnO "is_tuple" jl .none kV1 dc1 pm1 an1 cd1 ct1 oc1 od1 sl1)) (c1:CdI K cd1 "is_tuple") (k1:KpI K f1)
  (a2:NsF K "greatest_divisor" f2) (l2:K.lookup f2=some (FnO "greatest_divisor" qi .none kV2 dc2 pm2 an2 cd2 ct2 oc2 od2 sl2)) (c2:CdI K cd2 "greatest_divisor") (k2:KpI K f2)
  (a3:NsF K "is_ratio" f3) (l3:K.lookup f3=some (FnO "is_ratio" jk .none kV3 dc3 pm3 an3 cd3 ct3 oc3 od3 sl3)) (c3:CdI K cd3 "is_ratio") (k3:KpI K f3)
  (a4:NsF K "ratio" f4) (l4:K.lookup f4=some (FnO "ratio" ZP (.ref Td4) kV4 dc4 pm4 an4 cd4 ct4 oc4 od4 sl4)) (c4:CdI K cd4 "ratio") (k4:KpI K f4)
  (ld4:K.lookup Td4=some ⟨ocd4,odd4,.seq #[.int 1 tkd4] nd4,sld4⟩)
  (a5:NsF K "minus" f5) (l5:K.lookup f5=some (FnO "minus" XD .none kV5 dc5 pm5 an5 cd5 ct5 oc5 od5 sl5)) (c5:CdI K cd5 "minus") (k5:KpI K f5)
  (a6:NsF K "over" f6) (l6:K.lookup f6=some (FnO "over" Vm .none kV6 dc6 pm6 an6 cd6 ct6 oc6 od6 sl6)) (c6:CdI K cd6 "over") (k6:KpI K f6)
  (a7:NsF K "less" f7) (l7:K.lookup f7=some (FnO "less" Xi .none kV7 dc7 pm7 an7 cd7 ct7 oc7 od7 sl7)) (c7:CdI K cd7 "less") (k7:KpI K f7)
  (a8:NsF K "least_multiple" f8) (l8:K.lookup f8=some (FnO "least_multiple" qA .none kV8 dc8 pm8 an8 cd8 ct8 oc8 od8 sl8)) (c8:CdI K cd8 "least_multiple") (k8:KpI K f8)
  (a9:NsF K "common_bottom" f9) (l9:K.lookup f9=some (FnO "common_bottom" qH .none kV9 dc9 pm9 an9 cd9 ct9 oc9 od9 sl9)) (c9:CdI K cd9 "common_bottom") (k9:KpI K f9)
  (a10:NsF K "track_of" f10) (l10:K.lookup f10=some (FnO "track_of" ju .none kV10 dc10 pm10 an10 cd10 ct10 oc10 od10 sl10)) (c10:CdI K cd10 "track_of") (k10:KpI K f10)
  (a11:NsF K "moment_of" f11) (l11:K.lookup f11=some (FnO "moment_of" v3 .none kV11 dc11 pm11 an11 cd11 ct11 oc11 od11 sl11)) (c11:CdI K cd11 "moment_of") (k11:KpI K f11)
  (a12:NsF K "shut_moment" f12) (l12:K.lookup f12=some (FnO "shut_moment" vj .none kV12 dc12 pm12 an12 cd12 ct12 oc12 od12 sl12)) (c12:CdI K cd12 "shut_moment") (k12:KpI K f12)
  (a13:NsF K "soonest" f13) (l13:K.lookup f13=some (FnO "soonest" Zc .none kV13 dc13 pm13 an13 cd13 ct13 oc13 od13 sl13)) (c13:CdI K cd13 "soonest") (k13:KpI K f13)
  (a14:NsF K "spot_at" f14) (l14:K.lookup f14=some (FnO "spot_at" Zd .none kV14 dc14 pm14 an14 cd14 ct14 oc14 od14 sl14)) (c14:CdI K cd14 "spot_at") (k14:KpI K f14)
  (a15:NsF K "side_at" f15) (l15:K.lookup f15=some (FnO "side_at" Zb .none kV15 dc15 pm15 an15 cd15 ct15 oc15 od15 sl15)) (c15:CdI K cd15 "side_at") (k15:KpI K f15)
  (a16:NsF K "groups_at" f16) (l16:K.lookup f16=some (FnO "groups_at" vU .none kV16 dc16 pm16 an16 cd16 ct16 oc16 od16 sl16)) (c16:CdI K cd16 "groups_at") (k16:KpI K f16)
  (a17:NsF K "wall_of" f17) (l17:K.lookup f17=some (FnO "wall_of" Ze .none kV17 dc17 pm17 an17 cd17 ct17 oc17 od17 sl17)) (c17:CdI K cd17 "wall_of") (k17:KpI K f17)
  (a18:NsF K "came_to_wall" f18) (l18:K.lookup f18=some (FnO "came_to_wall" qR .none kV18 dc18 pm18 an18 cd18 ct18 oc18 od18 sl18)) (c18:CdI K cd18 "came_to_wall") (k18:KpI K f18)
  (a19:NsF K "rebound" f19) (l19:K.lookup f19=some (FnO "rebound" j9 .none kV19 dc19 pm19 an19 cd19 ct19 oc19 od19 sl19)) (c19:CdI K cd19 "rebound") (k19:KpI K f19)
  (a20:NsF K "deal" f20) (l20:K.lookup f20=some (FnO "deal" Zt .none kV20 dc20 pm20 an20 (.ref cde) ct20 oc20 od20 sl20)) (c20:CdI K (.ref cde) "deal") (k20:KpI K f20)
  (a21:NsF K "part" f21) (l21:K.lookup f21=some (FnO "part" Vn .none kV21 dc21 pm21 an21 cd21 ct21 oc21 od21 sl21)) (c21:CdI K cd21 "part") (k21:KpI K f21)
  (a22:NsF K "refine" f22) (l22:K.lookup f22=some (FnO "refine" ZQ .none kV22 dc22 pm22 an22 cd22 ct22 oc22 od22 sl22)) (c22:CdI K cd22 "refine") (k22:KpI K f22)
  (a23:NsF K "refined" f23) (l23:K.lookup f23=some (FnO "refined" Za .none kV23 dc23 pm23 an23 cd23 ct23 oc23 od23 sl23)) (c23:CdI K cd23 "refined") (k23:KpI K f23)
  (a24:NsF K "place_and_speed" f24) (l24:K.lookup f24=some (FnO "place_and_speed" qo .none kV24 dc24 pm24 an24 cd24 ct24 oc24 od24 sl24)) (c24:CdI K cd24 "place_and_speed") (k24:KpI K f24)
  (a25:NsF K "placed" f25) (l25:K.lookup f25=some (FnO "placed" ZO .none kV25 dc25 pm25 an25 cd25 ct25 oc25 od25 sl25)) (c25:CdI K cd25 "placed") (k25:KpI K f25)
  (a26:NsF K "first_ticks" f26) (l26:K.lookup f26=some (FnO "first_ticks" ve .none kV26 dc26 pm26 an26 cd26 ct26 oc26 od26 sl26)) (c26:CdI K cd26 "first_ticks") (k26:KpI K f26)
  (a27:NsF K "next_coming" f27) (l27:K.lookup f27=some (FnO "next_coming" vi .none kV27 dc27 pm27 an27 cd27 ct27 oc27 od27 sl27)) (c27:CdI K cd27 "next_coming") (k27:KpI K f27)
  (a28:NsF K "behind" f28) (l28:K.lookup f28=some (FnO "behind" ZK .none kV28 dc28 pm28 an28 cd28 ct28 oc28 od28 sl28)) (c28:CdI K cd28 "behind") (k28:KpI K f28)
  (a29:NsF K "is_wall" f29) (l29:K.lookup f29=some (FnO "is_wall" j4 .none kV29 dc29 pm29 an29 cd29 ct29 oc29 od29 sl29)) (c29:CdI K cd29 "is_wall") (k29:KpI K f29)
  (a30:NsF K "is_wall_pair" f30) (l30:K.lookup f30=some (FnO "is_wall_pair" qT .none kV30 dc30 pm30 an30 cd30 ct30 oc30 od30 sl30)) (c30:CdI K cd30 "is_wall_pair") (k30:KpI K f30)
  (a31:NsF K "walls_good" f31) (l31:K.lookup f31=some (FnO "walls_good" vK .none kV31 dc31 pm31 an31 cd31 ct31 oc31 od31 sl31)) (c31:CdI K cd31 "walls_good") (k31:KpI K f31)
  (a32:NsF K "is_ball_form" f32) (l32:K.lookup f32=some (FnO "is_ball_form" qS .none kV32 dc32 pm32 an32 cd32 ct32 oc32 od32 sl32)) (c32:CdI K cd32 "is_ball_form") (k32:KpI K f32)
  (a33:NsF K "is_weight" f33) (l33:K.lookup f33=some (FnO "is_weight" vV .none kV33 dc33 pm33 an33 cd33 ct33 oc33 od33 sl33)) (c33:CdI K cd33 "is_weight") (k33:KpI K f33)
  (a34:NsF K "is_ball" f34) (l34:K.lookup f34=some (FnO "is_ball" j3 .none kV34 dc34 pm34 an34 cd34 ct34 oc34 od34 sl34)) (c34:CdI K cd34 "is_ball") (k34:KpI K f34)
  (a35:NsF K "follows" f35) (l35:K.lookup f35=some (FnO "follows" j0 .none kV35 dc35 pm35 an35 cd35 ct35 oc35 od35 sl35)) (c35:CdI K cd35 "follows") (k35:KpI K f35)
  (a36:NsF K "is_ordered" f36) (l36:K.lookup f36=some (FnO "is_ordered" vE .none kV36 dc36 pm36 an36 cd36 ct36 oc36 od36 sl36)) (c36:CdI K cd36 "is_ordered") (k36:KpI K f36)
  (a37:NsF K "keeps_side" f37) (l37:K.lookup f37=some (FnO "keeps_side" vF .none kV37 dc37 pm37 an37 cd37 ct37 oc37 od37 sl37)) (c37:CdI K cd37 "keeps_side") (k37:KpI K f37)
  (a38:NsF K "is_between" f38) (l38:K.lookup f38=some (FnO "is_between" vD .none kV38 dc38 pm38 an38 cd38 ct38 oc38 od38 sl38)) (c38:CdI K cd38 "is_between") (k38:KpI K f38)
  (a39:NsF K "is_row" f39) (l39:K.lookup f39=some (FnO "is_row" ZL .none kV39 dc39 pm39 an39 cd39 ct39 oc39 od39 sl39)) (c39:CdI K cd39 "is_row") (k39:KpI K f39)
  (a40:NsF K "_law_cell" f40) (l40:K.lookup f40=some (FnO "_law_cell" jo .none kV40 dc40 pm40 an40 cd40 ct40 oc40 od40 sl40)) (c40:CdI K cd40 "_law_cell") (k40:KpI K f40)
  (a41:NsF K "_law_left" f41) (l41:K.lookup f41=some (FnO "_law_left" jp .none kV41 dc41 pm41 an41 cd41 ct41 oc41 od41 sl41)) (c41:CdI K cd41 "_law_left") (k41:KpI K f41)
  (a42:NsF K "_law_next" f42) (l42:K.lookup f42=some (FnO "_law_next" jq .none kV42 dc42 pm42 an42 cd42 ct42 oc42 od42 sl42)) (c42:CdI K cd42 "_law_next") (k42:KpI K f42)
  (a43:NsF K "_law_wide" f43) (l43:K.lookup f43=some (FnO "_law_wide" jt .none kV43 dc43 pm43 an43 cd43 ct43 oc43 od43 sl43)) (c43:CdI K cd43 "_law_wide") (k43:KpI K f43)
  (a44:NsF K "_law_low" f44) (l44:K.lookup f44=some (FnO "_law_low" j7 .none kV44 dc44 pm44 an44 cd44 ct44 oc44 od44 sl44)) (c44:CdI K cd44 "_law_low") (k44:KpI K f44)
  (a45:NsF K "_law_add" f45) (l45:K.lookup f45=some (FnO "_law_add" j5 .none kV45 dc45 pm45 an45 cd45 ct45 oc45 od45 sl45)) (c45:CdI K cd45 "_law_add") (k45:KpI K f45)
  (a46:NsF K "_law_off" f46) (l46:K.lookup f46=some (FnO "_law_off" j8 .none kV46 dc46 pm46 an46 cd46 ct46 oc46 od46 sl46)) (c46:CdI K cd46 "_law_off") (k46:KpI K f46)
  (a47:NsF K "_law_by" f47) (l47:K.lookup f47=some (FnO "_law_by" ZM .none kV47 dc47 pm47 an47 cd47 ct47 oc47 od47 sl47)) (c47:CdI K cd47 "_law_by") (k47:KpI K f47)
  (a48:NsF K "_law_part" f48) (l48:K.lookup f48=some (FnO "_law_part" jr .none kV48 dc48 pm48 an48 cd48 ct48 oc48 od48 sl48)) (c48:CdI K cd48 "_law_part") (k48:KpI K f48)
  (a49:NsF K "_law_below" f49) (l49:K.lookup f49=some (FnO "_law_below" vW .none kV49 dc49 pm49 an49 cd49 ct49 oc49 od49 sl49)) (c49:CdI K cd49 "_law_below") (k49:KpI K f49)
  (a50:NsF K "_law_ratio" f50) (l50:K.lookup f50=some (FnO "_law_ratio" vY .none kV50 dc50 pm50 an50 cd50 ct50 oc50 od50 sl50)) (c50:CdI K cd50 "_law_ratio") (k50:KpI K f50)
  (a51:NsF K "_law_speed" f51) (l51:K.lookup f51=some (FnO "_law_speed" vZ .none kV51 dc51 pm51 an51 cd51 ct51 oc51 od51 sl51)) (c51:CdI K cd51 "_law_speed") (k51:KpI K f51)
  (a52:NsF K "_law_bundle" f52) (l52:K.lookup f52=some (FnO "_law_bundle" vH .none kV52 dc52 pm52 an52 cd52 ct52 oc52 od52 sl52)) (c52:CdI K cd52 "_law_bundle") (k52:KpI K f52)
  (a53:NsF K "_law_focused" f53) (l53:K.lookup f53=some (FnO "_law_focused" vg .none kV53 dc53 pm53 an53 cd53 ct53 oc53 od53 sl53)) (c53:CdI K cd53 "_law_focused") (k53:KpI K f53)
  (a54:NsF K "_law_on" f54) (l54:K.lookup f54=some (FnO "_law_on" ZN .none kV54 dc54 pm54 an54 cd54 ct54 oc54 od54 sl54)) (c54:CdI K cd54 "_law_on") (k54:KpI K f54)
  (a55:NsF K "_law_closing" f55) (l55:K.lookup f55=some (FnO "_law_closing" vf .none kV55 dc55 pm55 an55 cd55 ct55 oc55 od55 sl55)) (c55:CdI K cd55 "_law_closing") (k55:KpI K f55)
  (a56:NsF K "_law_soonest" f56) (l56:K.lookup f56=some (FnO "_law_soonest" vh .none kV56 dc56 pm56 an56 cd56 ct56 oc56 od56 sl56)) (c56:CdI K cd56 "_law_soonest") (k56:KpI K f56)
  (a57:NsF K "_law_groups" f57) (l57:K.lookup f57=some (FnO "_law_groups" vI .none kV57 dc57 pm57 an57 cd57 ct57 oc57 od57 sl57)) (c57:CdI K cd57 "_law_groups") (k57:KpI K f57)
  (a58:NsF K "_law_sorted" f58) (l58:K.lookup f58=some (FnO "_law_sorted" vJ .none kV58 dc58 pm58 an58 cd58 ct58 oc58 od58 sl58)) (c58:CdI K cd58 "_law_sorted") (k58:KpI K f58)
  (a59:NsF K "_law_dealt" f59) (l59:K.lookup f59=some (FnO "_law_dealt" vX .none kV59 dc59 pm59 an59 cd59 ct59 oc59 od59 sl59)) (c59:CdI K cd59 "_law_dealt") (k59:KpI K f59)
  (a60:NsF K "_law_behind" f60) (l60:K.lookup f60=some (FnO "_law_behind" vG .none kV60 dc60 pm60 an60 cd60 ct60 oc60 od60 sl60)) (c60:CdI K cd60 "_law_behind") (k60:KpI K f60)
  (a61:NsF K "_law_far" f61) (l61:K.lookup f61=some (FnO "_law_far" j6 .none kV61 dc61 pm61 an61 cd61 ct61 oc61 od61 sl61)) (c61:CdI K cd61 "_law_far") (k61:KpI K f61)
  (a62:NsF K "law" f62) (l62:K.lookup f62=some (FnO "law" s_law .none kV62 dc62 pm62 an62 cd62 ct62 oc62 od62 sl62)) (c62:CdI K cd62 "law") (k62:KpI K f62)
  (z_isinstance:Nz K "isinstance")
  (z_int:Nz K "int")
  (z_bool:Nz K "bool")
  (z_abs:Nz K "abs")
  (z_len:Nz K "len")
  (z_max:Nz K "max")
  (z_min:Nz K "min")
  (z_range:Nz K "range")
  (z_tuple:Nz K "tuple")
  (z_sum:Nz K "sum")
  (z_zip:Nz K "zip")
  (z_list:Nz K "list")
  (z_enumerate:Nz K "enumerate")
  (z_sorted:Nz K "sorted")
  (z_all:Nz K "all")
  (a_ClackError:NsF K "ClackError" C_ClackError)
  (a_Shut:NsF K "Shut" C_Shut)
  (a_Course:NsF K "Course" C_Course)
  (a_Together:NsF K "Together" C_Together)
  (kp_Shut:KpI K C_Shut)
  (fi_Shut:PySem.W.findIn K (.ref C_Shut) "__init__" = some (some (.ref fI_Shut)))
  (li_Shut:K.lookup fI_Shut=some ⟨.type "function",odI_Shut,.func (PySem.W.fnOf "__init__" "Shut.__init__" (qd qM) (xC qM) (zr qM) .none kVI_Shut dcI_Shut pmI_Shut anI_Shut cdI_Shut ctI_Shut),slI_Shut⟩) (ci_Shut:CdI K cdI_Shut "Shut.__init__") (ki_Shut:KpI K fI_Shut)
  (sa_Shut:PySem.W.findIn K (.ref C_Shut) "__setattr__" = some (some (.builtin "object.__setattr__")))
  (kp_Course:KpI K C_Course)
  (fi_Course:PySem.W.findIn K (.ref C_Course) "__init__" = some (some (.ref fI_Course)))
  (li_Course:K.lookup fI_Course=some ⟨.type "function",odI_Course,.func (PySem.W.fnOf "__init__" "Course.__init__" (qd ql) (xC ql) (zr ql) .none kVI_Course dcI_Course pmI_Course anI_Course cdI_Course ctI_Course),slI_Course⟩) (ci_Course:CdI K cdI_Course "Course.__init__") (ki_Course:KpI K fI_Course)
  (sa_Course:PySem.W.findIn K (.ref C_Course) "__setattr__" = some (some (.builtin "object.__setattr__")))
  (kp_Together:KpI K C_Together)
  (fi_Together:PySem.W.findIn K (.ref C_Together) "__init__" = some (some (.ref fI_Together)))
  (li_Together:K.lookup fI_Together=some ⟨.type "function",odI_Together,.func (PySem.W.fnOf "__init__" "Together.__init__" (qd xR) (xC xR) (zr xR) .none kVI_Together dcI_Together pmI_Together anI_Together cdI_Together ctI_Together),slI_Together⟩) (ci_Together:CdI K cdI_Together "Together.__init__") (ki_Together:KpI K fI_Together)
  (sa_Together:PySem.W.findIn K (.ref C_Together) "__setattr__" = some (some (.builtin "object.__setattr__")))
  (xm_Shut:zbh K C_Shut fI_Shut=true)
  (na_Shut:PySem.W.findIn K (.ref C_Shut) "moment" = some none)
  (xm_Together:zbh K C_Together fI_Together=true)
  (na_Together:PySem.W.findIn K (.ref C_Together) "moment" = some none)
  (xkT:xKB K C_Together=true)
  (hdl:PySem.W.codeHdIn K cde Tb=true)
  (xkS:xKB K C_Shut=true)
  (exS:PySem.W.exmOne K (.ref C_Shut) (.ref C_Shut)=some true)
  (mkC:PySem.W.makesIn K C_Course=true)
  (ifC:PySem.W.isFn K (.ref fI_Course)=true)
  (pgC:PySem.W.plainGet K C_Course Str.empty=true)
  (hdC:PySem.W.hasDictIn K C_Course=true)
  (poC:PySem.W.plainOver K C_Course=true)
  (nc_place_bottom:PySem.W.findIn K (.ref C_Course) "place_bottom" = some none)
  (nc_speed_bottom:PySem.W.findIn K (.ref C_Course) "speed_bottom" = some none)
  (nc_tick:PySem.W.findIn K (.ref C_Course) "tick" = some none)
  (nc_weights:PySem.W.findIn K (.ref C_Course) "weights" = some none)
  (nc_tracks:PySem.W.findIn K (.ref C_Course) "tracks" = some none)
  (nc_low:PySem.W.findIn K (.ref C_Course) "low" = some none)
  (nc_high:PySem.W.findIn K (.ref C_Course) "high" = some none)
  (ur:PySem.W.readsIn K C_ClackError (.type "type")=true) (ug:PySem.W.specialIn K (.ref C_ClackError) "__getattribute__" = some (some (.builtin "type.__getattribute__"))) (ui:PySem.W.findCls K (.ref C_ClackError) (.type "type") "__init__" = some (.val (.builtin "ValueError.__init__")))
  (v_MOST_BALLS:PySem.W.nsIn K mainGlobals "MOST_BALLS" = some (some (.int 8 tk_MOST_BALLS)))
  (v_MOST_WEIGHT:PySem.W.nsIn K mainGlobals "MOST_WEIGHT" = some (some (.int 1000 tk_MOST_WEIGHT))) :
  ∃fd:FuncData,(∀(s:Shared) (v:Value),BindsTo s fd ⟨[v],[]⟩ [("script",v)])/\∀base:Heap,K.In base->base.Ns mainGlobals mg->base.BuiltinsAt mg Tb->vP l.prog w K mg base CX0 7 fa fd ["script"] (Jl Tb K):=by
 have e:=hfa.symm.trans (wn X G a62)
 cases e
 have d_is_whole:Df K mg "is_whole" jm ["thing"] []:=xa l0 c0 k0 (wn X G a0) (bl1 λ_=>rfl)
 have d_is_tuple:Df K mg "is_tuple" jl ["thing","many"] []:=xa l1 c1 k1 (wn X G a1) (bl2 λ_ _=>rfl)
 have d_greatest_divisor:Df K mg "greatest_divisor" qi ["one","other"] []:=xa l2 c2 k2 (wn X G a2) (bl2 λ_ _=>rfl)
 have d_is_ratio:Df K mg "is_ratio" jk ["thing"] []:=xa l3 c3 k3 (wn X G a3) (bl1 λ_=>rfl)
 have d_ratio:Df K mg "ratio" ZP ["top","bottom"] []:=⟨⟨f4,_,_,_,_,_,_,_,_,_,_,[],l4,c4,k4,wn X G a4,.nil,λs us KX hl=>match us,hl with | [_,_],_=>.of_defaults rfl (KX _ _ ld4) rfl rfl rfl⟩⟩
 have dd_ratio:Df K mg "ratio" ZP ["top","bottom"] [.int 1]:=⟨⟨f4,_,_,_,_,_,_,_,_,_,_,[.int 1 tkd4],l4,c4,k4,wn X G a4,.cons ⟨_,rfl⟩ .nil,λs us KX hl=>have hl2:us.length=1:=(by simpa using hl);match us,hl2 with | [_],_=>.of_defaults rfl (KX _ _ ld4) rfl rfl rfl⟩⟩
 have d_minus:Df K mg "minus" XD ["one","other"] []:=xa l5 c5 k5 (wn X G a5) (bl2 λ_ _=>rfl)
 have d_over:Df K mg "over" Vm ["one","other"] []:=xa l6 c6 k6 (wn X G a6) (bl2 λ_ _=>rfl)
 have d_less:Df K mg "less" Xi ["one","other"] []:=xa l7 c7 k7 (wn X G a7) (bl2 λ_ _=>rfl)
 have d_least_multiple:Df K mg "least_multiple" qA ["numbers"] []:=xa l8 c8 k8 (wn X G a8) (bl1 λ_=>rfl)
 have d_common_bottom:Df K mg "common_bottom" qH ["ratios"] []:=xa l9 c9 k9 (wn X G a9) (bl1 λ_=>rfl)
 have d_track_of:Df K mg "track_of" ju ["course","thing"] []:=xa l10 c10 k10 (wn X G a10) (bl2 λ_ _=>rfl)
 have d_moment_of:Df K mg "moment_of" v3 ["course","ticks"] []:=xa l11 c11 k11 (wn X G a11) (bl2 λ_ _=>rfl)
 have d_shut_moment:Df K mg "shut_moment" vj ["walls"] []:=xa l12 c12 k12 (wn X G a12) (bl1 λ_=>rfl)
 have d_soonest:Df K mg "soonest" Zc ["course"] []:=xa l13 c13 k13 (wn X G a13) (bl1 λ_=>rfl)
 have d_spot_at:Df K mg "spot_at" Zd ["track","ticks"] []:=xa l14 c14 k14 (wn X G a14) (bl2 λ_ _=>rfl)
 have d_side_at:Df K mg "side_at" Zb ["course","spot","ticks"] []:=xa l15 c15 k15 (wn X G a15) (bl3 λ_ _ _=>rfl)
 have d_groups_at:Df K mg "groups_at" vU ["course","ticks"] []:=xa l16 c16 k16 (wn X G a16) (bl2 λ_ _=>rfl)
 have d_wall_of:Df K mg "wall_of" Ze ["course","where"] []:=xa l17 c17 k17 (wn X G a17) (bl2 λ_ _=>rfl)
 have d_came_to_wall:Df K mg "came_to_wall" qR ["course","group"] []:=xa l18 c18 k18 (wn X G a18) (bl2 λ_ _=>rfl)
 have d_rebound:Df K mg "rebound" j9 ["course","group","ticks"] []:=xa l19 c19 k19 (wn X G a19) (bl3 λ_ _ _=>rfl)
 have d_deal:DfC K mg "deal" Zt ["course","first","last","wall"] cde Tb:=⟨⟨f20,_,_,_,_,_,_,_,_,_,l20,c20,k20,wn X G a20,.all (bl4 λ_ _ _ _=>rfl)⟩,hdl⟩
 have d_part:Df K mg "part" Vn ["course","first"] []:=xa l21 c21 k21 (wn X G a21) (bl2 λ_ _=>rfl)
 have d_refine:Df K mg "refine" ZQ ["course","many"] []:=xa l22 c22 k22 (wn X G a22) (bl2 λ_ _=>rfl)
 have d_refined:Df K mg "refined" Za ["track","many"] []:=xa l23 c23 k23 (wn X G a23) (bl2 λ_ _=>rfl)
 have d_place_and_speed:Df K mg "place_and_speed" qo ["course","track","ticks"] []:=xa l24 c24 k24 (wn X G a24) (bl3 λ_ _ _=>rfl)
 have d_placed:Df K mg "placed" ZO ["course","ticks"] []:=xa l25 c25 k25 (wn X G a25) (bl2 λ_ _=>rfl)
 have d_first_ticks:Df K mg "first_ticks" ve ["course","walls"] []:=xa l26 c26 k26 (wn X G a26) (bl2 λ_ _=>rfl)
 have d_next_coming:Df K mg "next_coming" vi ["row","walls"] []:=xa l27 c27 k27 (wn X G a27) (bl2 λ_ _=>rfl)
 have d_behind:Df K mg "behind" ZK ["row","walls"] []:=xa l28 c28 k28 (wn X G a28) (bl2 λ_ _=>rfl)
 have d_is_wall:Df K mg "is_wall" j4 ["thing"] []:=xa l29 c29 k29 (wn X G a29) (bl1 λ_=>rfl)
 have d_is_wall_pair:Df K mg "is_wall_pair" qT ["thing"] []:=xa l30 c30 k30 (wn X G a30) (bl1 λ_=>rfl)
 have d_walls_good:Df K mg "walls_good" vK ["thing"] []:=xa l31 c31 k31 (wn X G a31) (bl1 λ_=>rfl)
 have d_is_ball_form:Df K mg "is_ball_form" qS ["thing"] []:=xa l32 c32 k32 (wn X G a32) (bl1 λ_=>rfl)
 have d_is_weight:Df K mg "is_weight" vV ["thing"] []:=xa l33 c33 k33 (wn X G a33) (bl1 λ_=>rfl)
 have d_is_ball:Df K mg "is_ball" j3 ["thing"] []:=xa l34 c34 k34 (wn X G a34) (bl1 λ_=>rfl)
 have d_follows:Df K mg "follows" j0 ["left","right"] []:=xa l35 c35 k35 (wn X G a35) (bl2 λ_ _=>rfl)
 have d_is_ordered:Df K mg "is_ordered" vE ["row"] []:=xa l36 c36 k36 (wn X G a36) (bl1 λ_=>rfl)
 have d_keeps_side:Df K mg "keeps_side" vF ["left","right"] []:=xa l37 c37 k37 (wn X G a37) (bl2 λ_ _=>rfl)
 have d_is_between:Df K mg "is_between" vD ["walls","row"] []:=xa l38 c38 k38 (wn X G a38) (bl2 λ_ _=>rfl)
 have d_is_row:Df K mg "is_row" ZL ["walls","thing"] []:=xa l39 c39 k39 (wn X G a39) (bl2 λ_ _=>rfl)
 have d_law_cell:Df K mg "_law_cell" jo ["script","k"] []:=xa l40 c40 k40 (wn X G a40) (bl2 λ_ _=>rfl)
 have d_law_left:Df K mg "_law_left" jp ["cell"] []:=xa l41 c41 k41 (wn X G a41) (bl1 λ_=>rfl)
 have d_law_next:Df K mg "_law_next" jq ["pool","base"] []:=xa l42 c42 k42 (wn X G a42) (bl2 λ_ _=>rfl)
 have d_law_wide:Df K mg "_law_wide" jt ["pool","base"] []:=xa l43 c43 k43 (wn X G a43) (bl2 λ_ _=>rfl)
 have d_law_low:Df K mg "_law_low" j7 ["top","bottom"] []:=xa l44 c44 k44 (wn X G a44) (bl2 λ_ _=>rfl)
 have d_law_add:Df K mg "_law_add" j5 ["a","b"] []:=xa l45 c45 k45 (wn X G a45) (bl2 λ_ _=>rfl)
 have d_law_off:Df K mg "_law_off" j8 ["a","b"] []:=xa l46 c46 k46 (wn X G a46) (bl2 λ_ _=>rfl)
 have d_law_by:Df K mg "_law_by" ZM ["a","b"] []:=xa l47 c47 k47 (wn X G a47) (bl2 λ_ _=>rfl)
 have d_law_part:Df K mg "_law_part" jr ["a","b"] []:=xa l48 c48 k48 (wn X G a48) (bl2 λ_ _=>rfl)
 have d_law_below:Df K mg "_law_below" vW ["a","b"] []:=xa l49 c49 k49 (wn X G a49) (bl2 λ_ _=>rfl)
 have d_law_ratio:Df K mg "_law_ratio" vY ["pool","size"] []:=xa l50 c50 k50 (wn X G a50) (bl2 λ_ _=>rfl)
 have d_law_speed:Df K mg "_law_speed" vZ ["pool"] []:=xa l51 c51 k51 (wn X G a51) (bl1 λ_=>rfl)
 have d_law_bundle:Df K mg "_law_bundle" vH ["pool","where","place","moment","alike"] []:=xa l52 c52 k52 (wn X G a52) (bl5 λ_ _ _ _ _=>rfl)
 have d_law_focused:Df K mg "_law_focused" vg ["pool","alike"] []:=xa l53 c53 k53 (wn X G a53) (bl2 λ_ _=>rfl)
 have d_law_on:Df K mg "_law_on" ZN ["things","t"] []:=xa l54 c54 k54 (wn X G a54) (bl2 λ_ _=>rfl)
 have d_law_closing:Df K mg "_law_closing" vf ["one","other"] []:=xa l55 c55 k55 (wn X G a55) (bl2 λ_ _=>rfl)
 have d_law_soonest:Df K mg "_law_soonest" vh ["row","walls"] []:=xa l56 c56 k56 (wn X G a56) (bl2 λ_ _=>rfl)
 have d_law_groups:Df K mg "_law_groups" vI ["row","walls"] []:=xa l57 c57 k57 (wn X G a57) (bl2 λ_ _=>rfl)
 have d_law_sorted:Df K mg "_law_sorted" vJ ["ratios"] []:=xa l58 c58 k58 (wn X G a58) (bl1 λ_=>rfl)
 have d_law_dealt:Df K mg "_law_dealt" vX ["balls","wall"] []:=xa l59 c59 k59 (wn X G a59) (bl2 λ_ _=>rfl)
 have d_law_behind:Df K mg "_law_behind" vG ["row","walls","groups"] []:=xa l60 c60 k60 (wn X G a60) (bl3 λ_ _ _=>rfl)
 have d_law_far:Df K mg "_law_far" j6 ["pool","row","walls"] []:=xa l61 c61 k61 (wn X G a61) (bl3 λ_ _ _=>rfl)
 have T:TxB K mg:=⟨zgK K,zgJ K,wR X G z_isinstance,wR X G z_int,wR X G z_bool,wR X G z_abs,wR X G z_len,wR X G z_max,wR X G z_min,wR X G z_range,wR X G z_tuple,wR X G z_sum⟩
 have F:=Vb (st:=s_law) l62 c62 k62
 refine⟨PySem.W.fnOf "law" "law" (qd s_law) (xC s_law) (zr s_law) .none kV62 dc62 pm62 an62 cd62 ct62,λs v=>.of_eq rfl,λbase hKb hGb hBB=>?_⟩
 obtain⟨X11,B11,cd11,hc11,hh11,ho11⟩:=zdX hKb xm_Shut ⟨_,hKb _ _ li_Shut,rfl⟩ kp_Shut
 have mC:=wn X G a_ClackError
 have mS:=wn X G a_Shut
 have mCo:=wn X G a_Course
 have U:XUp K C_ClackError (.type "type"):=⟨ur,ug,ui⟩
 have ZS:=zgd xkS
 have S11:zcj K C_Shut cd11:=⟨hc11,hh11,ho11,ZS.ob,sa_Shut⟩
 have FU11:=Vb (st:=qM) li_Shut ci_Shut ki_Shut
 have F11:=KQ.zeC (P:=l.prog) (w:=w) FU11 U mC B11 S11 na_Shut
 have BI11:=FU11.binds (ps:=["self","moment"]) λ_ _ _ _ _ _=>(bl2 λ_ _=>rfl)
 obtain⟨X12,B12,cd12,hc12,hh12,ho12⟩:=zdX hKb xm_Together ⟨_,hKb _ _ li_Together,rfl⟩ kp_Together
 have mT:=wn X G a_Together
 have ZT:=zgd xkT
 have S12:zcj K C_Together cd12:=⟨hc12,hh12,ho12,ZT.ob,sa_Together⟩
 have FU12:=Vb (st:=xR) li_Together ci_Together ki_Together
 have F12:=KQ.zeD (P:=l.prog) (w:=w) FU12 U mC B12 S12 na_Together
 have BI12:=FU12.binds (ps:=["self","moment"]) λ_ _ _ _ _ _=>(bl2 λ_ _=>rfl)
 have FUC:=Vb (st:=ql) li_Course ci_Course ki_Course
 have BIC:=FUC.binds (ps:=["self","row","walls"]) λ_ _ _ _ _ _=>(bl3 λ_ _ _=>rfl)
 have TC:KQ.TCo K C_Course:=⟨⟨pgC,hdC,poC,sa_Course⟩,nc_place_bottom,nc_speed_bottom,nc_tick,nc_weights,nc_tracks,nc_low,nc_high⟩
 have M:Mk K C_Course fI_Course:=⟨mkC,fi_Course,ifC,kp_Course⟩
 have nE:=wR X G z_enumerate
 have TQ:KQ.TxQ K mg:=⟨T,wR X G z_list,wR X G z_zip⟩
 have cW:=zc3 (P:=l.prog) (w:=w) (base:=base) d_is_whole T
 have cG:=zgZ (P:=l.prog) (w:=w) (base:=base) d_greatest_divisor
 have cR:=zc2 d_ratio T cW cG
 have cM:=KQ.zc1 d_minus cR
 have cO:=zeJ d_over cR
 have cLs:=KQ.zeG (P:=l.prog) (w:=w) (base:=base) d_less
 have cLcm:=KQ.zg2 d_least_multiple cG
 have cB:=KQ.zio d_common_bottom cLcm
 have cTr:=KQ.ziP (P:=l.prog) (w:=w) (base:=base) d_track_of TC
 have Fi:=KQ.ziq FUC TQ TC cB cR cTr
 have cMo:=KQ.ziz d_moment_of TC cR
 have cSh:=KQ.ziK d_shut_moment cLs cM cO
 have cSo:=KQ.ziN d_soonest TQ TC cLs
 have cFT:=KQ.ziw d_first_ticks TC cSo cSh cMo X11 F11 mS BI11
 have cSpo:=KQ.ziO (P:=l.prog) (w:=w) (base:=base) d_spot_at
 have cSi:=KQ.ziL d_side_at TC cSpo
 have cWo:=KQ.ziR (P:=l.prog) (w:=w) (base:=base) d_wall_of TC
 have cCw:=KQ.zis d_came_to_wall TQ TC cWo
 have cGr:=KQ.zix d_groups_at TQ nE TC cSpo cSi cCw
 have cNC:=KQ.ziA d_next_coming M Fi mCo BIC cFT cMo cGr
 have cRf:=KQ.ziJ (P:=l.prog) (w:=w) (base:=base) d_refined
 have cRe:=KQ.ziI d_refine TC cRf
 have cPa:=KQ.ziD d_part TC cG cRe
 have cDe:=KQ.zit (P:=l.prog) (w:=w) (base:=base) d_deal TC (wR X G z_sorted) hBB
 have cRb:=KQ.ziH d_rebound TC TQ (wR X G z_all) cWo cPa cDe cMo X12 F12 mT BI12
 have cPs:=KQ.ziF d_place_and_speed TC cR cSpo
 have cPl:=KQ.ziE d_placed TQ TC cPs
 have cBh:=KQ.zil d_behind M Fi mCo BIC cFT cMo cGr cRb cPl
 have cNf:=ziB cNC
 have cBf:=ok_bf cBh
 have T3:K3.Tx3 K mg tk_MOST_BALLS tk_MOST_WEIGHT 0:=⟨wR X G z_all,wR X G z_zip,wn X G v_MOST_BALLS,wn X G v_MOST_WEIGHT,zgL K,zgI K⟩
 have cTu:=K3.ok_tu (P:=l.prog) (w:=w) (base:=base) d_is_tuple T T3
 have cIr:=K3.ok_ir d_is_ratio T cTu cW cG
 have cLt3:=K3.ok_lt (P:=l.prog) (w:=w) (base:=base) d_less
 have cWa:=K3.ok_wa d_is_wall cTu cIr
 have cWp:=K3.ok_wp d_is_wall_pair cTu cWa
 have cWg:=K3.ok_wg d_walls_good cWp cLt3
 have cBfm:=K3.ok_bf d_is_ball_form cTu cIr cW
 have cIw:=K3.ok_iw d_is_weight T3 cW
 have cBa:=K3.ok_ba d_is_ball cBfm cIw
 have cFol:=K3.ok_fo d_follows cLt3
 have cKs:=K3.ok_ks d_keeps_side cFol
 have cOd:=K3.ok_od d_is_ordered T3 cFol
 have cBe:=K3.ok_be d_is_between cKs
 have cIs:=K3.ok_is d_is_row T T3 cWg cBa cOd cBe
 have cC:=zeB (P:=l.prog) (w:=w) (base:=base) d_law_cell T
 have cD:=zgY (P:=l.prog) (w:=w) (base:=base) d_law_left T
 have cN:=zeI (P:=l.prog) (w:=w) (base:=base) d_law_next
 have cWi:=ziQ d_law_wide T cN
 have cL:=zg3 (P:=l.prog) (w:=w) (base:=base) d_law_low T
 have cA:=zeE d_law_add cL
 have cOf:=zeH d_law_off cL
 have cBy:=zg1 d_law_by cL
 have cPt:=zc0 d_law_part cL
 have cBl:=zeF (P:=l.prog) (w:=w) (base:=base) d_law_below
 have cRa:=ziG d_law_ratio cN cWi cL
 have cSpB:=zg4 d_law_speed cN cL
 have cBu:=zim d_law_bundle T ⟨nE⟩ cN cSpB cL cA cOf cBy
 have cFo:=ok_fo d_law_focused T cN cRa cL cBu
 have cCl:=zir d_law_closing cBl cOf cPt
 have cSn:=ziM d_law_soonest TQ cBl cCl
 have cOn:=ziC d_law_on TQ cA cBy
 have cLg:=ziy d_law_groups TQ cBl
 have cSr:=zg5 d_law_sorted TQ cBl
 have cDl:=ziu d_law_dealt TQ cA cOf cBy cPt cSr
 have cBv:=zin d_law_behind TQ cDl
 have cFa:=ziv d_law_far TQ cN cA cOf
 exact zg0 F TQ cC cD cFo cFa cSn cOn cLg cNf cBv cBf cIs
theorem walk {l:PySem.W.OpenLaw}{q:Program}{loose:List Str}{XP:(Str->Option Value)->Heap->Prop}{YP:World->Heap->Prop}{d:DefRec}{K:Params->Fg}{cde Tb:Addr}(hn:l.most=some 63) (hdf:d.params.defaults=[])
  (hY:∀(w:World) (h:Heap),YP w h->(K w.params).In h/\h.get? Tb=some (PySem.W.tabObj #[])) (hKT:∀w:World,(K w.params).lookup Tb=none) (hC:∀w:World,PySem.W.codeHdIn (K w.params) cde Tb=true)
  (F:∀(w:World) (mg:Str->Option Value) (fa:Addr) (h:Heap),(K w.params).In h->h.Ns mainGlobals mg->mg d.name=some (.ref fa) →
   ∃fd:FuncData,(∀(s:Shared) (u:Value),BindsTo s fd ⟨[u],[]⟩ [("script",u)])/\∀base:Heap,(K w.params).In base->base.Ns mainGlobals mg->base.BuiltinsAt mg Tb->vP l.prog w (K w.params) mg base CX0 7 fa fd ["script"] (Jl Tb (K w.params))) :
  PySem.W.WalkO q loose XP YP l.row.toRowW d [] (λf vs=>PySem.call f vs) :=
 L2.zdV (n:=63) (k:=7) (x:="script") (CX:=λ_=>CX0) (sp:=λw=>Jl Tb (K w.params)) hn (by decide) hdf ⟨rfl,by decide,by decide⟩ hY hKT hC F (λ_ _ a ns hl hT hS=>⟨a,ns,rfl,hS,hl,⟨#[],hT,trivial,.inl rfl⟩,λ_=>rfl⟩) λ_ _ _ _ _ z=>z
end KT
open PySem PySem.W PyProof.Rows
set_option maxRecDepth 100000 in
set_option maxHeartbeats 0 in
theorem PySem.Challenge.cw_clackrow_k12_groups_of_one_weight_holds : PySem.Challenge.rw_clackrow_k12_groups_of_one_weight.Holds := by
 w_on;o_law;k_head;(case hw=>w_witness2)
 k_fill
 refine KT.walk (l:=PySem.Challenge.rw_clackrow_k12_groups_of_one_weight) (cde:=231) (Tb:=229) rfl rfl (λw h Y=>⟨PySem.W.km_in_of Y,PySem.W.km_tabs_of Y _ (wJ ..)⟩) ?hKT ?hC ?F
 case hKT=>intro w;kernel_rfl
 case hC=>intro w;kernel_rfl
 case F =>
  intro w mg fa h KX G hmg
  refine' KT.zgj (cde:=231) (Tb:=229) KX G hmg ?_ ?_ ?_ ?_ ?_ ?_ ?_ ?_ ?_ ?_ ?_ ?_ ?_ ?_ ?_ ?_ ?_ ?_ ?_ ?_ ?_ ?_ ?_ ?_ ?_ ?_ ?_ ?_ ?_ ?_ ?_ ?_ ?_ ?_ ?_ ?_ ?_ ?_ ?_ ?_ ?_ ?_ ?_ ?_ ?_ ?_ ?_ ?_ ?_ ?_ ?_ ?_ ?_ ?_ ?_ ?_ ?_ ?_ ?_ ?_ ?_ ?_ ?_ ?_ ?_ ?_ ?_ ?_ ?_ ?_ ?_ ?_ ?_ ?_ ?_ ?_ ?_ ?_ ?_ ?_ ?_ ?_ ?_ ?_ ?_ ?_ ?_ ?_ ?_ ?_ ?_ ?_ ?_ ?_ ?_ ?_ ?_ ?_ ?_ ?_ ?_ ?_ ?_ ?_ ?_ ?_ ?_ ?_ ?_ ?_ ?_ ?_ ?_ ?_ ?_ ?_ ?_ ?_ ?_ ?_ ?_ ?_ ?_ ?_ ?_ ?_ ?_ ?_ ?_ ?_ ?_ ?_ ?_ ?_ ?_ ?_ ?_ ?_ ?_ ?_ ?_ ?_ ?_ ?_ ?_ ?_ ?_ ?_ ?_ ?_ ?_ ?_ ?_ ?_ ?_ ?_ ?_ ?_ ?_ ?_ ?_ ?_ ?_ ?_ ?_ ?_ ?_ ?_ ?_ ?_ ?_ ?_ ?_ ?_ ?_ ?_ ?_ ?_ ?_ ?_ ?_ ?_ ?_ ?_ ?_ ?_ ?_ ?_ ?_ ?_ ?_ ?_ ?_ ?_ ?_ ?_ ?_ ?_ ?_ ?_ ?_ ?_ ?_ ?_ ?_ ?_ ?_ ?_ ?_ ?_ ?_ ?_ ?_ ?_ ?_ ?_ ?_ ?_ ?_ ?_ ?_ ?_ ?_ ?_ ?_ ?_ ?_ ?_ ?_ ?_ ?_ ?_ ?_ ?_ ?_ ?_ ?_ ?_ ?_ ?_ ?_ ?_ ?_ ?_ ?_ ?_ ?_ ?_ ?_ ?_ ?_ ?_ ?_ ?_ ?_ ?_ ?_ ?_ ?_ ?_ ?_ ?_ ?_ ?_ ?_ ?_ ?_ ?_ ?_ ?_ ?_ ?_ ?_ ?_ ?_ ?_ ?_ ?_ ?_ ?_ ?_ ?_ ?_ ?_ ?_ ?_ ?_ ?_ ?_ ?_ ?_ ?_ ?_ ?_ ?_ ?_ ?_ ?_ ?_ ?_ ?_ ?_ ?_ ?_ ?_ ?_ ?_ ?_ ?_ ?_ ?_ ?_ ?_ ?_ ?_
  all_goals (try dsimp only[KT.NsF,KT.Nz,KT.CdI,KT.KpI,KT.FnO])
  all_goals (try (first | k_is | kernel_rfl))
