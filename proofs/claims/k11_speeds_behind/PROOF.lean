import PyProof.Rows.All
import Wide.All
import OpenK.AllK
import Wide.FinOn
import Lean
import PyProof.EqAt
import PyProof.EqKinds
import PyProof.TupleCall
import PyProof.CompFree
import PyProof.Rows.SumAny
import PyProof.ZipIter
import PyProof.ConsumeWalk
import PySem.Challenge.RW_clackrow_k11_speeds_behind
import KE.KSortKey
import KE.KLam
import KE.KNestM
import KE.KTryMore
set_option hygiene false
local macro_rules|`(tactic|nofun)=>`(tactic|try dsimp only)
local macro_rules|`(↥$x)=>`(by simpa using $x)
local macro_rules|`(∅)=>`(by lia)
local macro_rules|`(⇑$n:num)=>match n.getNat with|0=>`(by decide +kernel)|1=>`(by decide)|2=>`(by rfl)|3=>`(Cal P w K mg base)|4=>`(Cal1 P w K mg base)|_=>`(by show 2<=sizeLine;decide)
local macro_rules|`(%[$xs,*|$_])=>do
 let mut r<-`(zf)
 for x in xs.getElems.reverse do
  let y<-if x.raw.isNatLit?.isSome then `(pv $x) else pure x
  r<-`(ze $y $r)
 return r
local macro_rules|`(⟨$xs,*⟩)=>do
 let mut r:Array Lean.Term:=#[]
 let mut c:=false
 for x in xs.getElems do
  let s:=if x.raw.isNatLit?.isSome then x.raw[0].getAtomVal else ""
  if s.length>1&&s.startsWith "0" then
   c:=true
   let n:=s.toNat!
   if s.length==2 then
    for _ in [0:n+1] do r:=r++#[<-`(_),<-`(rfl)]
   else
    for _ in [0:n/10] do r:=r.push (<-`(_))
    for _ in [0:n%10] do r:=r.push (<-`(rfl))
  else r:=r.push x
 if c then `(⟨$r,*⟩) else Lean.Macro.throwUnsupported
local macro_rules|`(tactic|rcases $h:ident:$e with $p)=>if h.getId==`q then `(tactic|(refine hid (λ_ Zz=>?_);rcases $e:term with $p;refine Zz ?_;clear Zz)) else if h.getId==`r then `(tactic|(refine $e (λf cdv A outer s H vs Q E hr h=>?_);rcases q:h with $p)) else Lean.Macro.throwUnsupported
set_option Elab.async false
set_option linter.all false
set_option maxRecDepth 100000
set_option maxHeartbeats 8000000
section
open PySem PySem.Spec PyProof.Rows
abbrev Fg:=PySem.W.Frag
abbrev Aa:=Str->Option Value
abbrev Ab:=List (Addr×Obj)
abbrev Ac:=List Value
abbrev Ad:=List Str
abbrev Ae:=Array Value
abbrev Af:=Value->Shared->Prop
abbrev Ag:=List Expr
abbrev Ai:=List Stmt
abbrev Aj:=List Env
abbrev Ak:=List Int
abbrev Al:=List Rat
def zL0:0<=sizeLine:=by decide
def zL1:1<=sizeLine:=by decide
def zL2:2<=sizeLine:=by decide
def zL3:3<=sizeLine:=by decide
def zL4:4<=sizeLine:=by decide
def zL8:8<=sizeLine:=by decide
def wc:=@wpAny_bind
def we:=@List.getElem?_map
def wg:=@Heap.get?_push_of_some
def wj:=@List.getElem?_eq_getElem
def wk:=@List.length_map
def wm:=@List.mem_of_getElem?
def wn:=@List.getElem?_eq_some_iff
def wo:=@decide_eq_true
def wq:=@Nat.le_refl
def wu:=@wpAny_pure
def ww:=@List.mem_append_right
def wx:=@List.mem_map
def wy:=@List.mem_cons
def wz:=@List.size_toArray
def wA:=@Heap.lt_size
def wB:=@List.getElem?_append_right
def wC:=@List.length_append
def wD:=@Heap.get?_push_size
def wE:=@List.getElem?_append_left
def wF:=@of_decide_eq_true
def wG:=@decide_eq_false
def wH:=@List.take_of_length_le
def wI:=@List.pairwise_append
def wJ:=@List.length_cons
def wK:=@List.mem_append
def wL:=@List.mem_append_left
def wM:=@Nat.lt_of_lt_of_le
def wN:=@Bool.false_ne_true
def wO:=@List.mem_singleton
def wP:=@decide_eq_true_eq
def wQ:=@Nat.ne_of_lt
def wR:=@List.mem_cons_of_mem
def wT:=@List.mem_cons_self
def wU:=@List.length_take
def wV:=@List.length_drop
def wW:=@List.map_map
def wX:=@PySem.W.mg_none_of
def wY:=@Nat.le_trans
def wZ:=@List.not_mem_nil
def w4:=@List.getElem?_eq_none
def w5:=@List.mem_of_mem_drop
def w8:=@List.mem_of_mem_take
def yh:=@wpAny_field
def yi:=@List.pairwise_map
def yj:=@List.drop_eq_getElem_cons
def yk:=@List.getElem?_drop
def yl:=@Int.mul_ne_zero
def ym:=@Rat.mul_lt_mul_of_pos_right
def yn:=@Rat.mul_le_mul_of_nonneg_right
def yo:=@Nat.zero_le
def yp:=@Int.fdiv_eq_ediv_of_nonneg
def yq:=@List.ext_getElem?
def yr:=@wpAny_holding
def yt:=@PyProof.Rows.slot_tuple_getitem
def yu:=@List.take_add_one
def yv:=@wpAny_newObj_type
def yw:=@List.map_cons
def yx:=@PySem.F.plainAttrs_list
def yy:=@PyProof.Rows.boot_tuple
def yz:=@List.append_nil
def yA:=@Heap.get?_update_other
def yB:=@List.pairwise_cons
def yC:=@Heap.get?_update_self
def yD:=@Int.toNat_natCast
def yE:=@List.pairwise_singleton
def yF:=@wpAny_mono
def yG:=@List.filter_append
def yH:=@Bool.eq_iff_iff
def yI:=@Heap.size_push
def yJ:=@PySem.W.kia_one
def yK:=@List.map_append
def yL:=@wpAny_seqItems
def yM:=@Rat.divInt_eq_div
def yN:=@PySem.F.slot_list_append
def yO:=@PySem.F.type_list_append
def yP:=@PyProof.Rows.callWith_type1
def yQ:=@Nat.eq_zero_or_pos
def yR:=@Int.gcd_pos_of_ne_zero_left
def yS:=@List.getElem?_take
def yT:=@List.getElem?_of_mem
def yU:=@Int.gcd_dvd_left
def yV:=@wpAny_call_entry
def yW:=@List.replicate_succ
def yX:=@wpAny_truthy_bool
def yY:=@List.getElem?_zip_eq_some
def yZ:=@PySem.W.mg_of
def ua:=@Rat.intCast_mul
def ue:=@wpAny_Call_Name_kw
def uf:=@Bool.and_eq_true
def uh:=@Nat.le_add_right
def uj:=@Int.fdiv_eq_ediv_of_dvd
def uk:=@PyProof.Rows.boot_isinstance
def ul:=@Array.length_toList
def um:=@List.length_nil
def uo:=@Array.getElem?_eq_some_iff
def uq:=@List.length_replicate
def ut:=@Bool.false_eq_true
def uu:=@List.length_filter_le
def uv:=@PyProof.Rows.boot_abs
def uw:=@Rat.le_of_lt
def uy:=@wpAny_setField_rec
def uz:=@List.of_mem_zip
def uA:=@List.length_zip
def uB:=@wpAny_passesOwn
def uC:=@Nat.lt_irrefl
def uD:=@Int.eq_ofNat_of_zero_le
def uE:=@List.take_succ_cons
def uF:=@List.length_reverse
def uG:=@List.filter_cons_of_pos
def uH:=@wpAny_standAt
def uI:=@wpAny_setField
def uJ:=@Option.map_eq_some_iff
def uK:=@Rat.intCast_le_intCast
def uL:=@PyProof.Rows.boot_list
def uM:=@List.drop_eq_nil_of_le
def uN:=@Nat.lt_of_le_of_lt
def uO:=@Int.emod_lt_of_pos
def uP:=@List.find?_cons
def uQ:=@List.flatten_cons
def uR:=@List.foldl_append
def uS:=@List.map_take
def uT:=@List.map_drop
def uU:=@Option.mem_toList
def uV:=@List.sum_cons
def uW:=@wpAny_rule
def uX:=@wpAny_loadPart_at
def uY:=@List.getElem?_eq_none_iff
def uZ:=@List.pairwise_iff_getElem
def Wa:=@List.all_eq_true
def Wb:=@Int.ediv_le_self
def Wc:=@Heap.get?_update_ne
def Wd:=@Rat.le_refl
def We:=@List.map_congr_left
def Wf:=@Nat.add_sub_cancel'
def Wg:=@Nat.ne_of_gt
def Wh:=@PySem.F.args_tuple_add_2
def Wi:=@List.eq_of_mem_replicate
def Wj:=@List.getElem?_replicate
def Wk:=@PySem.F.entry_tuple_add
def Wm:=@List.length_set
def Wn:=@Bool.false_or
def Wo:=@Option.map_some
def Wp:=@List.getElem?_tail
def Wq:=@Int.emod_nonneg
def Wr:=@List.length_eq_zero_iff
def Ws:=@Nat.add_sub_cancel_left
def Wt:=@wpAny_execs_nil
def Wu:=@PySem.W.cellsFrom_some
def Wv:=@PySem.F.slot_tuple_add
def Ww:=@List.drop_of_length_le
def Wx:=@List.append_inj_right'
def Wy:=@Option.map_eq_none_iff
def Wz:=@List.take_sublist
def WA:=@List.append_assoc
def WB:=@Array.getElem?_setIfInBounds_ne
def WC:=@List.getElem?_set
def WD:=@wpAny_pyIter_list
def WE:=@Option.map_map
def WF:=@List.length_singleton
def WG:=@List.eq_nil_or_concat
def WH:=@Nat.lt_or_ge
def WJ:=@wpAny_typeOf
def WK:=@List.take_length
def WL:=@List.mem_reverse
def WM:=@Heap.get?_none_of_le
def WN:=@List.mem_of_mem_tail
def WO:=@Bool.true_and
def WP:=@List.dropLast_concat_getLast
def WQ:=@wpAny_call
def WR:=@List.filterMap_cons
def WS:=@List.nodup_cons
def WT:=@Int.ediv_mul_cancel
def WU:=@Nat.min_eq_left
def WV:=@Rat.zero_divInt
def WW:=@List.drop_succ_cons
def WX:=@List.sum_append
def WY:=@PySem.F.excBase_ValueError
def WZ:=@wpAny_newFunctionEnv_cells
def W0:=@Array.append_assoc
def W3:=@Nat.le_of_lt
def W4:=@List.mem_filterMap
def W5:=@Nat.le_of_eq
def W6:=@PySem.W.callWith_K
def W7:=@Rat.num_divInt_den
def W8:=@Bool.or_true
def W9:=@Rat.div_mul_cancel
def Ya:=@Bool.false_and
def Yb:=@Rat.lt_div_iff
def Yc:=@List.mem_or_eq_of_mem_set
def Yd:=@Int.gcd_dvd_natAbs_right
def Ye:=@Int.gcd_dvd_right
def Yf:=@PySem.F.slot_list_insert
def Yg:=@PySem.F.type_list_insert
def Yh:=@List.drop_sublist
def Yi:=@wpAny_sequenceKey
def Yj:=@wpAny_getItem_list_slice
def Yk:=@wpAny_comprehension_free
def Yl:=@Int.mul_pos
def Ym:=@wpAny_letGo
def Yn:=@wpAny_onRaise
def Yo:=@Option.getD_none
def Yp:=@Rat.divInt_ofNat
def Yq:=@Option.getD_some
def Yr:=@Nat.min_eq_right
def Ys:=@List.mem_filter
def Yt:=@List.map_nil
def Yu:=@List.foldl_cons
def Yv:=@Nat.add_comm
def Yw:=@Nat.min_self
def Yx:=@Rat.num_eq_zero
def Yy:=@Int.ediv_nonneg
def Yz:=@List.map_set
def YA:=@Rat.le_trans
def YB:=@wpAny_specialOf
def YC:=@Rat.div_lt_iff
def YD:=@PySem.W.exmAny
def YE:=@wpAny_listPart
def YF:=@Prod.ext
end
def rL {α:Sort _}{a:α}:a=a:=rfl
abbrev Bj:=Option Rat
namespace L2
open PySem PySem.Spec PyProof.Rows
abbrev Key:=Sum Int Str
def JG:Key->Value->Bool
 |.inl k,v=>Value.isInt k v
 |.inr x,v=>Value.isStrOf x v
def keyH (w:World):Key->Int
 |.inl k=>hashInt k
 |.inr x=>hashStr w x
def x5:∀{k:Key}{v:Value},JG k v=true->(∃i t,k=Sum.inl i/\v=Value.int i t)\/(∃x t,k=Sum.inr x/\v=Value.str x t)
 |.inl i,v,h=>by
  obtain⟨t,e⟩:=Value.isInt_shape (k:=i) (v:=v) h
  exact .inl ⟨i,t,rL,e⟩
 |.inr x,v,h=>by
  obtain⟨t,e⟩:=Value.isStrOf_shape (x:=x) (v:=v) h
  exact .inr ⟨x,t,rL,e⟩
def zdN (i:Int) (t:Tok):JG (.inl i) (.int i t)=true:=by simp[JG,Value.isInt]
def zdO (x:Str) (t:Tok):JG (.inr x) (.str x t)=true:=by simp[JG,Value.isStrOf]
def zjg (a b:Int):decide ((Sum.inl a:Key)=Sum.inl b)=(a == b):=by
 by_cases e:a=b
 ·subst e;simp
 ·have h:¬(Sum.inl a:Key)=Sum.inl b:=λq=>e (Sum.inl.inj q)
  rw[wG h]
  exact(beq_eq_false_iff_ne.mpr e).symm
def zjj (a b:Str):decide ((Sum.inr a:Key)=Sum.inr b)=decide (a=b):=by
 by_cases e:a=b
 ·subst e;simp
 ·have h:¬(Sum.inr a:Key)=Sum.inr b:=λq=>e (Sum.inr.inj q)
  rw[wG h,wG e]
def zjh (a:Int) (b:Str):decide ((Sum.inl a:Key)=Sum.inr b)=false:=wG (λq=>nomatch q)
def zji (a:Str) (b:Int):decide ((Sum.inr a:Key)=Sum.inl b)=false:=wG (λq=>nomatch q)
def qt (prog:Program) (w:World):PySem.KeyKind prog w Key where
 is:=JG
 hash:=keyH w
 inj:=λv a b ha hb=>by
  rcases x5 ha with⟨i,t,rfl,rfl⟩ | ⟨x,t,rfl,rfl⟩
  ·rcases x5 hb with⟨j,u,rfl,e⟩ | ⟨y,u,rfl,e⟩
   ·injection e with e1 _;rw[e1]
   ·exact nomatch e
  ·rcases x5 hb with⟨j,u,rfl,e⟩ | ⟨y,u,rfl,e⟩
   ·exact nomatch e
   ·injection e with e1 _;rw[e1]
 byValue:=λk v h=>by
  rcases x5 h with⟨i,t,rfl,rfl⟩ | ⟨x,t,rfl,rfl⟩ <;> rfl
 pyHash:=λhv h=>by
  rcases x5 hv with⟨i,t,rfl,rfl⟩ | ⟨x,t,rfl,rfl⟩
  ·exact wpAny_pyHash_int h
  ·exact wpAny_pyHash_str h
 eqBool:=λhu hv h=>by
  rcases x5 hu with⟨i,t,rfl,rfl⟩ | ⟨x,t,rfl,rfl⟩
  ·rcases x5 hv with⟨j,u,rfl,rfl⟩ | ⟨y,u,rfl,rfl⟩
   ·rw[zjg]at h;exact wpAny_eqBool_int h
   ·rw[zjh]at h;exact SeqAt.EqAt.int_str i t y u _ _ _ _ h
  ·rcases x5 hv with⟨j,u,rfl,rfl⟩ | ⟨y,u,rfl,rfl⟩
   ·rw[zji]at h;exact SeqAt.EqAt.str_int x t j u _ _ _ _ h
   ·rw[zjj]at h;exact wpAny_eqBool_str h
 «strs»:=λk x t v h=>by
  rcases x5 h with⟨i,u,rfl,e⟩ | ⟨y,u,rfl,e⟩
  ·exact nomatch e
  ·injection e with e1 _
   subst e1
   cases v <;> rfl
def za1 (prog:Program) (w:World) (i:Int) (t:Tok):(qt prog w).is (.inl i) (.int i t)=true:=zdN i t
def za2 (prog:Program) (w:World) (x:Str) (t:Tok):(qt prog w).is (.inr x) (.str x t)=true:=zdO x t
inductive V where
 |non | bl (b:Bool) | int (i:Int) | str (x:Str) | byt (b:Array UInt8) | flt (b:UInt64) | ref (a:Addr) | ty (n:String)
 deriving DecidableEq
abbrev Ba:=List V
abbrev Bb:=List (Int×Int)
abbrev Bc:=Option (Int×Int)
abbrev Be:=Option (Rat×Rat)
abbrev Bf:=List (Str×V)
abbrev Bg:=Nat×Nat×Str
abbrev Bh:=Option V
def xz:V->Value->Prop
 |.non,u=>u=Value.none
 |.bl b,u=>u=Value.bool b
 |.int i,u=>∃t,u=Value.int i t
 |.str x,u=>∃t,u=Value.str x t
 |.byt b,u=>∃t,u=Value.bytes b t
 |.flt b,u=>∃t,u=Value.float b t
 |.ref a,u=>u=Value.ref a
 |.ty n,u=>u=Value.type n
abbrev xh:Ba->Ac->Prop:=Paired xz
def xh.length {xs:Ba}{us:Ac}(r:xh xs us):xs.length=us.length:=Paired.length r
def xh.get:∀{xs:Ba}{us:Ac}{i:Nat}{x:V},xh xs us->xs[i]?=some x->∃u,us[i]?=some u/\xz x u
 |_,_,_,_,.nil,e=>by simp at e
 |_,_,0,_,.cons r _,e=>by simp at e;subst e;exact⟨00,r⟩
 |_,_,i+1,x,.cons _ t,e=>by
  obtain⟨u,h1,h2⟩:=xh.get (i:=i) (x:=x) t ↥e
  exact⟨u,↥h1,h2⟩
def xh.set {x:V}{u:Value}(r:xz x u):∀{xs:Ba}{us:Ac}(i:Nat),xh xs us->xh (xs.set i x) (us.set i u)
 |_,_,_,.nil=>.nil
 |_,_,0,.cons _ t=>.cons r t
 |_,_,i+1,.cons q t=>.cons q (xh.set r i t)
def xh.append:∀{xs ys:Ba}{us ws:Ac},xh xs us->xh ys ws->xh (xs++ys) (us++ws)
 |_,_,_,_,.nil,s=>s
 |_,_,_,_,.cons r t,s=>.cons r (xh.append t s)
def xh.take:∀{xs:Ba}{us:Ac}(n:Nat),xh xs us->xh (xs.take n) (us.take n)
 |_,_,0,_=>.nil
 |_,_,_+1,.nil=>.nil
 |_,_,n+1,.cons r t=>.cons r (xh.take n t)
def xh.drop:∀{xs:Ba}{us:Ac}(n:Nat),xh xs us->xh (xs.drop n) (us.drop n)
 |_,_,0,r=>r
 |_,_,_+1,.nil=>.nil
 |_,_,n+1,.cons _ t=>xh.drop n t
def Qq:Bh->Option Value->Prop
 |some v,some u=>xz v u
 |none,none=>True
 |_,_=>False
def KV {κ:Type}:List (κ×V)->List (κ×Value)->Prop:=Paired λ(p:κ×V) (q:κ×Value)=>p.1=q.1/\xz p.2 q.2
def kV:Key->V
 |.inl i=>.int i
 |.inr x=>.str x
inductive HO where
 |lst (xs:Ba)
 |tup (xs:Ba)
 |dK (kvs:List (Key×V)) | dT (kvs:List (List Key×V))
 |set (S:Int->Bool) (n:Nat)
 |ins (C dx:Addr) (fs:Bf)
 |own (x:Addr)
 |xd (fs:Bf)
 |met (f x:Addr)
 |rng (lo hi:Int)
 |frz (o:Obj) (u:HO)
 |tbl (ps:Ae)
 |ext (φ:Heap->Prop)
abbrev Hp:=Addr->Option HO
def upd (H:Hp) (a:Addr) (o:HO):Hp:=λb=>if b=a then some o else H b
def zi {H:Hp}{a:Addr}{o:HO}:upd H a o a=some o:=by unfold upd;rw[if_pos rfl]
def zK {H:Hp}{a b:Addr}{o:HO}(h:b≠a):upd H a o b=H b:=by unfold upd;rw[if_neg h]
def ziq {H:Hp}{a b:Addr}{o u:HO}(h:H a=some o) (h':H b=some u) (d:o≠u):a≠b:=by
 intro e;subst e;rw[h]at h';exact d (Option.some.inj h')
def zN {H:Hp}{a b:Addr}{o:HO}(h:H a=some o) (h':H b=none):a≠b:=by
 intro e;subst e;rw[h]at h';cases h'
def ziV (h:Heap) (a:Addr):Prop:=∃o,h.get? a=some o/\o.dict=none
def ziV.new {h:Heap}{o:Obj}(f:o.isFreed=false:=by rfl) (d:o.dict=none:=by rfl):ziV (h.push o) h.objs.size:=⟨o,wD _ f,d⟩
section
variable (P:Program) (w:World)
def xD (H:Hp) (h:Heap) (a:Addr):HO->Prop
 |.lst xs=>xs.length<=sizeLine/\∃(its:Ac) (n:Nat),xh xs its/\h.get? a=some { cls:=.type "list",data:=.seq its.toArray n }
 |.tup xs=>(xs.length<=sizeLine/\ziV h a)/\∃its:Ac,xh xs its/\IsTup h a its.toArray
 |.dK kvs=>kvs.length<=sizeLine/\(a == sysModules)=false/\∃vs,KV kvs vs/\h.DictOf (qt P w) a vs
 |.dT kvs=>kvs.length<=sizeLine/\(a == sysModules)=false/\∃xs:List (List Key×Addr×Value),
   Paired (λ(p:List Key×V) (q:List Key×Addr×Value)=>p.1=q.1/\H q.2.1=some (.tup (p.1.map kV))/\xz p.2 q.2.2) kvs xs ∧
   ∃o es ep,h.get? a=some o/\o.ExactDict/\o.data=.dict es ep/\es.toList=xs.map (entryOfKey (tupleKind (qt P w)))/\(xs.map (·.1)).Nodup
 |.set S n=>h.SetOf (intKind P w) a S n
 |.ins C dx fs=>H dx=some (.own a)/\fs.length<=1000/\dx≠a/\h.get? a=some (PySem.W.instObj C dx) ∧
   ∃mA,h.Ns1 dx mA/\(∀f,Qq (fs.lookup f) (mA f))/\PySem.Within mA (fs.map (·.1))
 |.own _=>∃o,h.get? a=some o
 |.xd fs=>∃mA,h.Ns1 a mA/\∀f,Qq (fs.lookup f) (mA f)
 |.rng lo hi=>∃t u v,h.get? a=some { cls:=.type "range",data:=.fields #[.int lo t,.int hi u,.int 1 v] }
 |.frz o u=>h.get? a=some o/\xD H h a u
 |.tbl ps=>h.get? a=some { cls:=.none,data:=.fields ps }
 |.met f x=>h.get? a=some (PySem.W.methodObj (.ref f) (.ref x))
 |.ext φ=>φ h/\(∃o,h.get? a=some o)/\∀h1 h2:Heap,φ h1->(∀o,h1.get? a=some o->h2.get? a=some o)->φ h2
def HOk (H:Hp) (h:Heap):Prop:=∀a o,H a=some o->xD P w H h a o
end
section
variable {P:Program}{w:World}{H H':Hp}{h h':Heap}{a:Addr}{o:HO}
theorem xD.lt (x:xD P w H h a o):a<h.objs.size:=by
 cases o with
 |lst xs=>obtain⟨_,_,_,_,e⟩:=x;exact wA e
 |tup xs=>obtain⟨_,_,_,p⟩:=x;exact p.lt
 |dK kvs=>obtain⟨_,_,_,_,o,_,_,e,_⟩:=x;exact wA e
 |dT kvs=>obtain⟨_,_,_,_,o,_,_,e,_⟩:=x;exact wA e
 |set S n=>obtain⟨o,_,_,_,e,_⟩:=x;exact wA e
 |ins C dx fs=>obtain⟨_,_,_,e,_⟩:=x;exact wA e
 |own y=>obtain⟨_,e⟩:=x;exact wA e
 |xd fs=>obtain⟨_,⟨_,_,_,e,_⟩,_⟩:=x;exact wA e
 |rng lo hi=>obtain⟨_,_,_,e⟩:=x;exact wA e
 |frz ob u=>obtain⟨e,_⟩:=x;exact wA e
 |tbl ps=>exact wA (show h.get? a=some _ from x)
 |met f y=>exact wA (show h.get? a=some _ from x)
 |ext φ=>obtain⟨_,⟨_,e⟩,_⟩:=x;exact wA e
theorem Paired.mapP {α β:Type}{F G:α->β->Prop}:∀{l₁:List α}{l₂:List β},Paired F l₁ l₂->(∀a b,F a b->G a b)->Paired G l₁ l₂
 |_,_,.nil,_=>.nil
 |_,_,.cons r t,f=>.cons (f _ _ r) (Paired.mapP t f)
theorem xD.stay (x:xD P w H h a o) (k:∀b u,(b=a\/H b=some (.own a))->h.get? b=some u->h'.get? b=some u)
  (ho:∀b,H b=some (.own a)->H' b=some (.own a)) (ht:∀b xs,H b=some (.tup xs)->H' b=some (.tup xs)):xD P w H' h' a o:=by
 induction o with
 |lst xs=>obtain⟨z,its,n,r,e⟩:=x;exact⟨z,its,n,r,k _ _ (.inl rfl) e⟩
 |tup xs=>obtain⟨⟨z,od,ed,hd⟩,its,r,ob,e,c⟩:=x;exact⟨⟨z,od,k _ _ (.inl rfl) ed,hd⟩,its,r,ob,k _ _ (.inl rfl) e,c⟩
 |dK kvs=>obtain⟨z,y,vs,r,ob,es,ep,e,c⟩:=x;exact⟨z,y,vs,r,ob,es,ep,k _ _ (.inl rfl) e,c⟩
 |dT kvs =>
  obtain⟨z,y,xs,r,ob,es,ep,e,c⟩:=x
  exact⟨z,y,xs,Paired.mapP r λp q z=>⟨z.1,ht _ _ z.2.1,z.2.2⟩,ob,es,ep,k _ _ (.inl rL) e,c⟩
 |set S n=>obtain⟨ob,es,ep,t,e,c⟩:=x;exact⟨ob,es,ep,t,k _ _ (.inl rfl) e,c⟩
 |ins C dx fs =>
  obtain⟨d,z,ne,e,mA,⟨od,es,ep,e2,c⟩,r⟩:=x
  exact⟨ho _ d,z,ne,k _ _ (.inl rL) e,mA,⟨od,es,ep,k _ _ (.inr d) e2,c⟩,r⟩
 |own y=>obtain⟨ob,e⟩:=x;exact⟨ob,k _ _ (.inl rfl) e⟩
 |xd fs=>obtain⟨mA,⟨od,es,ep,e,c⟩,r⟩:=x;exact⟨mA,⟨od,es,ep,k _ _ (.inl rfl) e,c⟩,r⟩
 |rng lo hi=>obtain⟨t,u,v,e⟩:=x;exact⟨t,u,v,k _ _ (.inl rfl) e⟩
 |frz ob u ih=>obtain⟨e,q⟩:=x;exact⟨k _ _ (.inl rfl) e,ih q⟩
 |tbl ps =>
  have e:h.get? a=some { cls:=.none,data:=.fields ps }:=x
  show h'.get? a=some { cls:=.none,data:=.fields ps }
  exact k a _ (.inl rL) e
 |met f y =>
  have e:h.get? a=some (PySem.W.methodObj (.ref f) (.ref y)):=x
  show h'.get? a=some (PySem.W.methodObj (.ref f) (.ref y))
  exact k a _ (.inl rL) e
 |ext φ=>obtain⟨p,⟨o,e⟩,st⟩:=x;exact⟨st _ _ p λo q=>k _ _ (.inl rfl) q,⟨o,k _ _ (.inl rfl) e⟩,st⟩
theorem HOk.lt (x:HOk P w H h) (e:H a=some o):a<h.objs.size:=(x a o e).lt
theorem HOk.fresh (x:HOk P w H h) (e:h.objs.size<=a):H a=none:=by
 cases q:H a with
 |none=>rfl
 |some u=>exact absurd (wM (x.lt q) e) (uC _)
theorem HOk.kept (x:HOk P w H h) (k:∀b u,h.get? b=some u->h'.get? b=some u):HOk P w H h':=λa o e =>
 (x a o e).stay (λb u _ q=>k b u q) (λ_ q=>q) λ_ _ q=>q
theorem HOk.laid (x:HOk P w H h) (k:∀b u,h.get? b=some u->h'.get? b=some u) (hp:h.objs.size<=a) (new:xD P w (upd H a o) h' a o):HOk P w (upd H a o) h':=λb u e=>by
 have hn:=x.fresh hp
 by_cases hb:b=a
 ·subst hb;rw[zi]at e;cases e;exact new
 ·rw[zK hb]at e
  exact(x b u e).stay (λc v _ q=>k c v q) (λc q=>by rw[zK (zN q hn)];exact q) λc xs q=>by rw[zK (zN q hn)];exact q
end
def Rd (H:Hp) (a:Addr) (u:HO):Prop:=H a=some u\/∃o,H a=some (.frz o u)
def Rd.ok {P:Program}{w:World}{H:Hp}{h:Heap}{a:Addr}{u:HO}(r:Rd H a u) (x:HOk P w H h):xD P w H h a u:=by
 rcases r with r | ⟨o,r⟩
 ·exact x a u r
 ·obtain⟨_,q⟩:=x a _ r
  exact q
def Mut:Option HO->Prop
 |some (.lst _)=>True
 |some (.dK _)=>True
 |some (.dT _)=>True
 |some (.set _ _)=>True
 |some (.ins _ _ _)=>True
 |some (.ext _)=>True
 |_=>False
section
variable {P:Program}{w:World}{H:Hp}{h h':Heap}{x e:Addr}{o':HO}
theorem HOk.write (ok:HOk P w H h) (mu:Mut (H x)) (he:e=x\/H e=some (.own x)) (k:∀b u,b≠e->h.get? b=some u->h'.get? b=some u) (heo:∃u,h'.get? e=some u)
  (new:xD P w (upd H x o') h' x o'):HOk P w (upd H x o') h':=λb u q=>by
 have nown:∀c y,H c=some (.own y)->c≠x:=λc y r z=>by subst z;rw[r]at mu;exact mu
 have ntup:∀c xs,H c=some (.tup xs)->c≠x:=λc xs r z=>by subst z;rw[r]at mu;exact mu
 by_cases hb:b=x
 ·subst hb;rw[zi]at q;cases q;exact new
 ·rw[zK hb]at q
  by_cases hbe:b=e
  ·have q':H b=some (.own x):=by
    rcases he with z | z
    ·exact absurd (hbe.trans z) hb
    ·rw[hbe];exact z
   rw[q]at q';cases q'
   obtain⟨v,hv⟩:=heo
   exact⟨v,by rw[hbe];exact hv⟩
  ·refine(ok b u q).stay (λc v hc r=>k c v ?_ r) (λc r=>by rw[zK (nown c b r)];exact r) λc xs r=>by rw[zK (ntup c xs r)];exact r
   rcases hc with rfl | hc
   ·exact hbe
   ·rintro rfl
    rcases he with z | z
    ·exact nown c b hc z
    ·rw[hc]at z;cases z;exact hb rfl
end
structure Un (fs ex:List Addr) (H H':Hp) (h h':Heap):Prop where
 keep:∀b o,h.get? b=some o->H b=none->b∉fs->b∉ex->h'.get? b=some o
 slot:∀b o,h.get? b=some o->H b=none->b∈fs->b∉ex->∃sl,h'.get? b=some { o with slots:=sl }
 free:∀b o,h.get? b=some o->H b=none->b∉ex->H' b=none
 there:∀b o,h.get? b=some o->b∉ex->∃o',h'.get? b=some o'
 tups:∀b xs,H b=some (.tup xs)->H' b=some (.tup xs)
 frzs:∀b o u,H b=some (.frz o u)->H' b=some (.frz o u)
 tbls:∀b ps,H b=some (.tbl ps)->∃more,H' b=some (.tbl (ps++more))
section
variable {fs fs' ex ex':List Addr}{H H1 H2:Hp}{h h1 h2 h':Heap}{a x e:Addr}{o:HO}
theorem Un.any (u:Un fs ex H H1 h h1){b:Addr}{ob:Obj}(q:h.get? b=some ob) (n:H b=none) (hx:b∉ex):∃sl,h1.get? b=some { ob with slots:=sl }:=by
 by_cases hb:b∈fs
 ·exact u.slot b ob q n hb hx
 ·exact⟨ob.slots,u.keep b ob q n hb hx⟩
theorem Un.trans (a:Un fs ex H H1 h h1) (b:Un fs ex H1 H2 h1 h2):Un fs ex H H2 h h2 where
 keep:=λc ob q n hc hx=>b.keep c ob (a.keep c ob q n hc hx) (a.free c ob q n hx) hc hx
 slot:=λc ob q n hc hx=>by
  obtain⟨sl,e1⟩:=a.slot c ob q n hc hx
  obtain⟨sl',e2⟩:=b.slot c _ e1 (a.free c ob q n hx) hc hx
  exact⟨sl',e2⟩
 free:=λc ob q n hx=>by
  obtain⟨o',e1⟩:=a.there c ob q hx
  exact b.free c o' e1 (a.free c ob q n hx) hx
 there:=λc ob q hx=>by
  obtain⟨o',e1⟩:=a.there c ob q hx
  exact b.there c o' e1 hx
 tups:=λc xs q=>b.tups c xs (a.tups c xs q)
 frzs:=λc ob xs q=>b.frzs c ob xs (a.frzs c ob xs q)
 tbls:=λc ps q=>by
  obtain⟨m1,e1⟩:=a.tbls c ps q
  obtain⟨m2,e2⟩:=b.tbls c _ e1
  exact⟨m1++m2,by rw[e2,W0]⟩
theorem Un.kept (k:∀b u,h.get? b=some u->h'.get? b=some u):Un fs ex H H h h' :=
 ⟨λb ob q _ _ _=>k b ob q,λb ob q _ _ _=>⟨ob.slots,k b ob q⟩,λ_ _ _ n _=>n,λb ob q _=>⟨ob,k b ob q⟩,λ_ _ q=>q,λ_ _ _ q=>q,λ_ ps q=>⟨#[],by rw[q];simp⟩⟩
theorem Un.refl:Un fs ex H H h h:=Un.kept λ_ _ q=>q
theorem Un.laid (k:∀b u,h.get? b=some u->h'.get? b=some u) (hp:h.objs.size<=a) (hn:H a=none):Un fs ex H (upd H a o) h h' where
 keep:=λb u q _ _ _=>k b u q
 slot:=λb u q _ _ _=>⟨u.slots,k b u q⟩
 free:=λb u q n _=>by rw[zK (wQ (wM (wA q) hp))];exact n
 there:=λb u q _=>⟨u,k b u q⟩
 tups:=λb xs q=>by rw[zK (zN q hn)];exact q
 frzs:=λb u xs q=>by rw[zK (zN q hn)];exact q
 tbls:=λb ps q=>⟨#[],by rw[zK (zN q hn),q];simp⟩
theorem Un.write (mu:Mut (H x)) (he:e=x\/H e=some (.own x)) (k:∀b u,b≠e->h.get? b=some u->h'.get? b=some u) (heo:∃u,h'.get? e=some u):Un fs ex H (upd H x o) h h':=by
 have hx:∀b,H b=none->b≠x:=λb n z=>by subst z;rw[n]at mu;exact mu
 have hb:∀b,H b=none->b≠e:=λb n z=>by
  subst z
  rcases he with r | r
  ·exact hx b n r
  ·rw[n]at r;cases r
 have hm:∀b u,H b=some u->¬Mut (some u)->b≠x:=λb u q nm z=>by subst z;rw[q]at mu;exact nm mu
 refine⟨λb u q n _ _=>k b u (hb b n) q,λb u q n _ _=>⟨u.slots,k b u (hb b n) q⟩,λb u q n _=>by rw[zK (hx b n)];exact n,λb u q _=>?_,
  λb xs q=>by rw[zK (hm b _ q λz=>z)];exact q,λb u xs q=>by rw[zK (hm b _ q λz=>z)];exact q,λb ps q=>⟨#[],by rw[zK (hm b _ q λz=>z),q];simp⟩⟩
 by_cases hbe:b=e
 ·subst hbe;exact heo
 ·exact⟨u,k b u hbe q⟩
end
def trk (h:Heap) (H:Hp):List Addr:=(List.range h.objs.size).filter λa=>(H a).isSome
def Jj (h:Heap) (H:Hp):Heap:=PySem.W.hideAll h (trk h H)
def zdJ (h:Heap) (H:Hp):(Jj h H).objs.size=h.objs.size:=PySem.W.hideAll_size _ _
def zeP {h:Heap}{H:Hp}{b:Addr}{o:Obj}(e:h.get? b=some o) (n:H b=none):(Jj h H).get? b=some o :=
 PySem.W.hideAll_get _ e λhm=>by
  have q:(H b).isSome=true:=(Ys.mp hm).2
  rw[n]at q;simp at q
def zgX {h:Heap}{H:Hp}{b:Addr}{o:Obj}(e:(Jj h H).get? b=some o):h.get? b=some o/\H b=none:=by
 have e':h.get? b=some o:=PySem.W.of_hideAll (trk h H) e
 refine⟨e',?_⟩
 cases q:H b with
 |none=>rfl
 |some x =>
  have hm:b∈trk h H:=Ys.mpr ⟨List.mem_range.mpr (wA e'),by simp[q]⟩
  have z:(Jj h H).get? b=none:=PySem.W.hideAll_none (trk h H) hm
  rw[z]at e;cases e
structure Mod (K:Fg) (mg:Aa) (base:Heap):Prop where
 kin:K.In base
 glob:base.Ns mainGlobals mg
 blt:∃mb,base.Ns builtinsNs mb/\∀x:Str,x≠"__name__"->mb x=bootBuiltins x
 nolimit:base.NoLimit
structure Cx where
 prog:Program
 w:World
 K:Fg
 mg:Str->Option Value
 base:Heap
 A:Around
 N:Ad
 s₀:Shared
 H₀:Hp
 env:Env
 outer:Aj
 stack:Aj
 ex:List Addr
 fn:Str->Bool
 calm:Bool
 pn:Ab
 xe:Value->Shared->Prop
def frs (l:Aj):List Addr:=l.filterMap (·.frame)
abbrev Cx.fs (X:Cx):List Addr:=frs X.outer
def Vis (sc:Scope) (x:Str):Prop:=sc.names.lookup x=some .local ∨ sc.names.lookup x=some .cell\/sc.names.lookup x=some .free
def Loc (sc:Scope) (x:Str):Prop:=sc.names.lookup x=some .local ∨ sc.names.lookup x=some .cell
def Look (env:Env) (h:Heap) (m:Aa) (x:Str) (u:Value):Prop :=
 (env.kindOf x=some .local ∧ m x=some u)\/((env.kindOf x=some .cell\/env.kindOf x=some .free)/\∃c,env.cells.lookup x=some c/\h.IsCell c (some u))
structure Cx.Ok (X:Cx):Prop where
 mod:Mod X.K X.mg X.base
 kind:X.env.scope.kind=.function
 glob:X.env.globals=mainGlobals
 blt:X.env.builtins=builtinsNs
 above:X.s₀.heap.objs.size<=X.env.locals
 inj:∀x y c,X.env.cells.lookup x=some c->X.env.cells.lookup y=some c->x=y
 has:∀x,(X.env.kindOf x=some .cell\/X.env.kindOf x=some .free)->∃c,X.env.cells.lookup x=some c
 cab:∀x c,X.fn x=true->X.env.cells.lookup x=some c->X.s₀.heap.objs.size<=c
 hd:X.calm=true->X.A.handled=none
 frames:X.A.frames=some X.stack
 stk:X.stack=X.outer\/(X.stack=X.env::X.outer/\X.env.frame=some X.env.locals)
 exf:∀b∈X.ex,b≠X.env.locals/\∀x c,X.env.cells.lookup x=some c->c≠b
 bs:∀b o,X.base.get? b=some o->X.s₀.heap.get? b=some o/\X.H₀ b=none
 bsz:X.base.objs.size<=X.s₀.heap.objs.size
 noex:∀b o,X.base.get? b=some o->b∉X.ex
 exfs:∀b∈X.ex,b∉X.fs
 funs:X.s₀.heap.FunFrames X.base X.outer
 frf:∀b∈X.fs,X.H₀ b=none
structure Inv (X:Cx) (pz:Ab) (σ:List (Bh)) (H:Hp) (s:Shared):Prop where
 ok:X.Ok
 os:s.os=X.s₀.os
 bare:AllBare s.gens
 base:Un X.fs X.ex X.H₀ H X.s₀.heap s.heap
 loc:∃m,s.heap.Ns X.env.locals m/\∀(i:Nat) (x:Str) (v:V),X.N[i]?=some x->σ[i]?=some (some v)->Vis X.env.scope x->∃u,xz v u/\Look X.env s.heap m x u
 cell:∀x c,X.env.cells.lookup x=some c->∃v,s.heap.IsCell c v
 free:H X.env.locals=none
 freeC:∀x c,X.env.cells.lookup x=some c->H c=none
 pin:∀p∈X.pn++pz,s.heap.get? p.1=some p.2/\H p.1=none/\p.1≠X.env.locals/\p.1∉X.fs/\∀v,p.2.data≠.cell v
 hok:HOk X.prog X.w H s.heap
 len:σ.length=X.N.length
section
variable {X:Cx}{pz:Ab}{σ:List (Bh)}{H H':Hp}{s:Shared}{h':Heap}
theorem Cx.Ok.nofr (ok:X.Ok){b:Addr}{o:Obj}(e:X.base.get? b=some o):b∉X.fs:=λhb=>by
 have:=(ok.funs.mem hb).1
 rw[e]at this;cases this
theorem Inv.bs (I:Inv X pz σ H s):∀b o,X.base.get? b=some o->s.heap.get? b=some o/\H b=none:=λb o e =>
 ⟨I.base.keep b o (I.ok.bs b o e).1 (I.ok.bs b o e).2 (I.ok.nofr e) (I.ok.noex b o e),I.base.free b o (I.ok.bs b o e).1 (I.ok.bs b o e).2 (I.ok.noex b o e)⟩
theorem Inv.bk (I:Inv X pz σ H s):∀b o,X.base.get? b=some o->s.heap.get? b=some o:=λb o e=>(I.bs b o e).1
theorem Inv.mod (I:Inv X pz σ H s):Mod X.K X.mg X.base:=I.ok.mod
theorem Inv.kIn (I:Inv X pz σ H s):X.K.In s.heap:=I.ok.mod.kin.keeps I.bk
theorem Inv.lt (I:Inv X pz σ H s):X.env.locals<s.heap.objs.size:=let ⟨_,hn,_⟩:=I.loc;hn.lt
theorem Inv.sz (I:Inv X pz σ H s):X.s₀.heap.objs.size<=s.heap.objs.size:=wY I.ok.above (W3 I.lt)
theorem Inv.nofs (I:Inv X pz σ H s){a:Addr}(h:s.heap.objs.size<=a):a∉X.fs:=λhb=>by
 obtain⟨_,o,ho,_⟩:=I.ok.funs.mem hb
 exact absurd (wM (wA ho) (wY I.sz h)) (uC _)
theorem Inv.cne (I:Inv X pz σ H s):∀x c,X.env.cells.lookup x=some c->c≠X.env.locals:=λx c e z=>by
 obtain⟨v,o,ho,hd⟩:=I.cell x c e
 obtain⟨m,⟨o',es,ep,ho',hd',_⟩,_⟩:=I.loc
 rw[z,ho']at ho;cases ho;rw[hd']at hd;cases hd
theorem Inv.funs (I:Inv X pz σ H s):s.heap.FunFrames X.base X.outer:=by
 have all:∀(l:Aj),(∀b∈frs l,b∈X.fs)->X.s₀.heap.FunFrames X.base l->s.heap.FunFrames X.base l:=by
  intro l
  induction l with
  |nil=>intro _ _;trivial
  |cons env r ih =>
   intro hs hl
   obtain⟨hk,⟨L,o,hf,hn,ho,hd⟩,hr⟩:=hl
   have hL:L∈X.fs:=hs L (by unfold frs;rw[WR,hf];exact wT)
   obtain⟨sl,e⟩:=I.base.slot L o ho (I.ok.frf L hL) hL λz=>I.ok.exfs L z hL
   exact⟨hk,⟨L,_,hf,hn,e,hd⟩,ih (λb hb=>hs b (by unfold frs;rw[WR,hf];exact wR _ hb)) hr⟩
 exact all X.outer (λ_ hb=>hb) I.ok.funs
theorem Inv.stack (I:Inv X pz σ H s):s.heap.FunFrames X.base X.stack:=by
 rcases I.ok.stk with e | ⟨e,hf⟩
 ·rw[e];exact I.funs
 ·rw[e]
  obtain⟨m,hn,_⟩:=I.loc
  refine .cons (by rw[I.ok.kind];decide) hf hn ?_ I.funs
  exact WM (wY I.ok.bsz I.ok.above)
theorem Inv.stkSub (I:Inv X pz σ H s):∀b∈frs X.stack,b∈X.env.locals::X.fs:=λb hb=>by
 rcases I.ok.stk with e | ⟨e,hf⟩
 ·rw[e]at hb;exact wR _ hb
 ·rw[e]at hb
  unfold frs at hb
  rw[WR,hf]at hb
  exact hb
theorem Inv.stkFree (I:Inv X pz σ H s):∀b∈frs X.stack,H b=none:=λb hb=>by
 rcases wy.mp (I.stkSub b hb)with e | hb
 ·rw[e];exact I.free
 ·obtain⟨_,o,ho,_⟩:=I.ok.funs.mem hb
  exact I.base.free b o ho (I.ok.frf b hb) λz=>I.ok.exfs b z hb
theorem Inv.step {g':Array GenState}{t':Nat}{d':Drawn}{ch:List Addr}(I:Inv X pz σ H s)
  (hch:∀b∈ch,(b∈X.ex\/X.s₀.heap.objs.size<=b)/\b≠X.env.locals/\(∀x c,X.env.cells.lookup x=some c->c≠b)/\∀p∈X.pn++pz,p.1≠b)
  (keep:∀b o,b≠X.env.locals->b∉X.fs->b∉ch->s.heap.get? b=some o->H b=none->h'.get? b=some o)
  (slot:∀b o,b≠X.env.locals->b∈X.fs->b∉ch->s.heap.get? b=some o->H b=none->∃sl,h'.get? b=some { o with slots:=sl }) (free:∀b o,b∉ch->s.heap.get? b=some o->H b=none->H' b=none)
  (there:∀b o,b∉ch->s.heap.get? b=some o->∃o',h'.get? b=some o')
  (tups:∀b xs,H b=some (.tup xs)->H' b=some (.tup xs)) (frzs:∀b o u,H b=some (.frz o u)->H' b=some (.frz o u)) (tbls:∀b ps,H b=some (.tbl ps)->∃more,H' b=some (.tbl (ps++more)))
  (ns:∀m,s.heap.Ns X.env.locals m->h'.Ns X.env.locals m) (hok:HOk X.prog X.w H' h') (hg:AllBare g') :
  Inv X pz σ H' { s with heap:=h',gens:=g',drawn:=d',toks:=t' }:=by
 have neL:∀b o,X.s₀.heap.get? b=some o->b≠X.env.locals:=λb o e=>wQ (wM (wA e) I.ok.above)
 have neC:∀b o,X.s₀.heap.get? b=some o->b∉X.ex->b∉ch:=λb o e hx hb=>by
  rcases(hch b hb).1 with z | z
  ·exact hx z
  ·exact absurd (wM (wA e) z) (uC _)
 have cellK:∀x c,X.env.cells.lookup x=some c->∀v,s.heap.IsCell c v->h'.IsCell c v:=λx c e v ⟨o,ho,hd⟩=>by
  have nch:c∉ch:=λz=>(hch c z).2.2.1 x c e rfl
  by_cases hc:c∈X.fs
  ·obtain⟨sl,q⟩:=slot c o (I.cne x c e) hc nch ho (I.freeC x c e)
   exact⟨_,q,hd⟩
  ·exact⟨o,keep c o (I.cne x c e) hc nch ho (I.freeC x c e),hd⟩
 refine⟨I.ok,I.os,hg,⟨λb o e n hb hx=>?_,λb o e n hb hx=>?_,λb o e n hx=>?_,λb o e hx=>?_,λb xs e=>tups b xs (I.base.tups b xs e),λb o xs e=>frzs b o xs (I.base.frzs b o xs e),λb ps e=>?_⟩,?_,λx c e=>?_,?_,λx c e=>?_,λp hp=>?_,hok,I.len⟩
 ·exact keep b o (neL b o e) hb (neC b o e hx) (I.base.keep b o e n hb hx) (I.base.free b o e n hx)
 ·obtain⟨sl,e1⟩:=I.base.slot b o e n hb hx
  obtain⟨sl',e2⟩:=slot b _ (neL b o e) hb (neC b o e hx) e1 (I.base.free b o e n hx)
  exact⟨sl',e2⟩
 ·obtain⟨o',e1⟩:=I.base.there b o e hx
  exact free b o' (neC b o e hx) e1 (I.base.free b o e n hx)
 ·obtain⟨o',e1⟩:=I.base.there b o e hx
  exact there b o' (neC b o e hx) e1
 ·obtain⟨m1,e1⟩:=I.base.tbls b ps e
  obtain⟨m2,e2⟩:=tbls b _ e1
  exact⟨m1++m2,by rw[e2,W0]⟩
 ·obtain⟨m,hn,hl⟩:=I.loc
  refine⟨m,ns m hn,λi x v e1 e2 e3=>?_⟩
  obtain⟨u,r,l⟩:=hl i x v e1 e2 e3
  refine⟨u,r,?_⟩
  rcases l with l | ⟨k,c,e,z⟩
  ·exact .inl l
  ·exact .inr ⟨k,c,e,cellK x c e _ z⟩
 ·obtain⟨v,z⟩:=I.cell x c e
  exact⟨v,cellK x c e v z⟩
 ·obtain⟨m,⟨o,_,_,ho,_⟩,_⟩:=I.loc
  exact free _ o (λz=>(hch _ z).2.1 rL) ho I.free
 ·obtain⟨v,o,ho,hd⟩:=I.cell x c e
  exact free c o (λz=>(hch c z).2.2.1 x c e rL) ho (I.freeC x c e)
 ·obtain⟨e,n,ne,nf,d⟩:=I.pin p hp
  have nch:p.1∉ch:=λz=>(hch p.1 z).2.2.2 p hp rfl
  exact⟨keep p.1 p.2 ne nf nch e n,free p.1 p.2 nch e n,ne,nf,d⟩
theorem Inv.un {t':Nat}(I:Inv X pz σ H s) (u:Un X.fs [] H H' s.heap h') (hok:HOk X.prog X.w H' h'):Inv X pz σ H' { s with heap:=h',toks:=t' }:=by
 obtain⟨m,⟨o,es,ep,ho,r⟩,_⟩:=id I.loc
 obtain⟨sl,hL⟩:=u.any ho I.free (by simp)
 exact I.step (g':=s.gens) (d':=s.drawn) (ch:=[]) (λ_ z=>nomatch z) (λb o _ hb _ e n=>u.keep b o e n hb (by simp)) (λb o _ hb _ e n=>u.slot b o e n hb (by simp)) (λb o _ e n=>u.free b o e n (by simp)) (λb o _ e=>u.there b o e (by simp)) u.tups u.frzs u.tbls (λm' hm=>by
  obtain⟨o',es',ep',ho',r'⟩:=hm
  rw[ho]at ho';cases ho'
  exact⟨_,es',ep',hL,r'⟩) hok I.bare
theorem Inv.call {g':Array GenState}{t':Nat}{d':Drawn}{ch:List Addr}(I:Inv X pz σ H s) (u:Un (frs X.stack) ch H H' s.heap h') (hok:HOk X.prog X.w H' h') (hg:AllBare g')
  (hch:∀b∈ch,(b∈X.ex\/X.s₀.heap.objs.size<=b)/\b≠X.env.locals/\(∀x c,X.env.cells.lookup x=some c->c≠b)/\∀p∈X.pn++pz,p.1≠b) :
  Inv X pz σ H' { s with heap:=h',gens:=g',drawn:=d',toks:=t' }:=by
 obtain⟨m,⟨o,es,ep,ho,r⟩,_⟩:=id I.loc
 obtain⟨sl,hL⟩:=u.any ho I.free λz=>(hch _ z).2.1 rfl
 exact I.step (ch:=ch) hch (λb o hL hb hc e n=>u.keep b o e n (λz=>(wy.mp (I.stkSub b z)).elim hL hb) hc) (λb o _ _ hc e n=>u.any e n hc) (λb o hc e n=>u.free b o e n hc) (λb o hc e=>u.there b o e hc) u.tups u.frzs u.tbls (λm' hm=>by
  obtain⟨o',es',ep',ho',r'⟩:=hm
  rw[ho]at ho';cases ho'
  exact⟨_,es',ep',hL,r'⟩) hok hg
theorem Inv.turned {t':Nat}{it:Addr}(I:Inv X pz σ H s) (k:∀b o,b≠it->s.heap.get? b=some o->h'.get? b=some o) (hn:H it=none) (hL:it≠X.env.locals)
  (h1:it∈X.ex\/X.s₀.heap.objs.size<=it) (h2:∀x c,X.env.cells.lookup x=some c->c≠it) (h3:∀p∈X.pn++pz,p.1≠it):Inv X pz σ H { s with heap:=h',toks:=t' }:=by
 have nit:∀b u,H b=some u->b≠it:=λb u e z=>by rw[z,hn]at e;cases e
 refine I.step (g':=s.gens) (d':=s.drawn) (ch:=[it]) (λb hb=>?_) (λb o _ _ hc e _=>k b o (λz=>hc (by simp[z])) e) (λb o _ _ hc e _=>⟨o.slots,k b o (λz=>hc (by simp[z])) e⟩) (λ_ _ _ _ n=>n)
  (λb o hc e=>⟨o,k b o (λz=>hc (by simp[z])) e⟩) (λ_ _ e=>e) (λ_ _ _ e=>e) (λb ps e=>⟨#[],by rw[e];simp⟩) (λm hm=>?_) (λb u e=>?_) I.bare
 ·have e:b=it:=↥hb
  subst e
  exact⟨h1,hL,h2,h3⟩
 ·obtain⟨o,es,ep,ho,r⟩:=hm
  exact⟨o,es,ep,k _ o (Ne.symm hL) ho,r⟩
 ·refine(I.hok b u e).stay (λc v hc q=>k c v ?_ q) (λ_ q=>q) λ_ _ q=>q
  rcases hc with z | z
  ·rw[z];exact nit b u e
  ·exact nit c _ z
theorem Inv.tok (I:Inv X pz σ H s) (t:Nat):Inv X pz σ H { s with toks:=t }:=I.un (h':=s.heap) (t':=t) Un.refl I.hok
theorem Inv.kept {t':Nat}(I:Inv X pz σ H s) (k:∀b u,s.heap.get? b=some u->h'.get? b=some u):Inv X pz σ H { s with heap:=h',toks:=t' }:=I.un (Un.kept k) (I.hok.kept k)
theorem Inv.laid {a:Addr}{o:HO}{t':Nat}(I:Inv X pz σ H s) (k:∀b u,s.heap.get? b=some u->h'.get? b=some u) (hp:s.heap.objs.size<=a) (new:xD X.prog X.w (upd H a o) h' a o) :
  Inv X pz σ (upd H a o) { s with heap:=h',toks:=t' }:=I.un (Un.laid k hp (I.hok.fresh hp)) (I.hok.laid k hp new)
theorem Inv.write {x e:Addr}{o:HO}{t':Nat}(I:Inv X pz σ H s) (mu:Mut (H x)) (he:e=x\/H e=some (.own x)) (k:∀b u,b≠e->s.heap.get? b=some u->h'.get? b=some u) (heo:∃u,h'.get? e=some u)
  (new:xD X.prog X.w (upd H x o) h' x o):Inv X pz σ (upd H x o) { s with heap:=h',toks:=t' }:=I.un (Un.write mu he k heo) (I.hok.write mu he k heo new)
theorem Inv.pins_of {pz':Ab} (I:Inv X pz σ H s) (h:∀p∈pz',s.heap.get? p.1=some p.2/\H p.1=none/\p.1≠X.env.locals/\p.1∉X.fs/\∀v,p.2.data≠.cell v):Inv X pz' σ H s :=
 ⟨I.ok,I.os,I.bare,I.base,I.loc,I.cell,I.free,I.freeC,λp hp=>(wK.mp hp).elim (λz=>I.pin p (wL _ z)) (h p),I.hok,I.len⟩
theorem za4 {N:Ad}(hN:N.Nodup){i j:Nat}{x:Str}(a:N[i]?=some x) (b:N[j]?=some x):i=j:=by
 obtain⟨h1,e1⟩:=wn.mp a
 obtain⟨h2,e2⟩:=wn.mp b
 exact(List.getElem_inj hN).mp (e1.trans e2.symm)
theorem JS {M:Model}{A:Around}{E:Af}{i:Nat}{x:Str}{v:V}{u:Value}{Q:Unit->Shared->Prop}(I:Inv X pz σ H s) (hN:X.N.Nodup) (hi:X.N[i]?=some x) (hx:Loc X.env.scope x) (r:xz v u)
  (h:∀s',Inv X pz (σ.set i (some v)) H s'->(∃a,Heap.SameBut a s.heap s'.heap/\(a=X.env.locals\/X.env.cells.lookup x=some a))->Q () s') (hf:X.fn x=true\/X.env.scope.names.lookup x=some .local := by first | exact .inl rfl | exact .inr rfl | assumption):wpAny M A (storeName X.env x u) Q E s:=by
 obtain⟨m,hn,hl⟩:=id I.loc
 have hcls:(X.env.scope.kind == .class || (X.env.scope.kind == .module&&X.env.locals != X.env.globals))=false:=by rw[I.ok.kind];rfl
 have hiσ:i<σ.length:=by rw[I.len];exact(wn.mp hi).1
 have cne:=I.cne
 have tracked:∀{a:Addr}{h':Heap},(∃o,s.heap.get? a=some o/\H a=none)->Heap.SameBut a s.heap h'->HOk X.prog X.w H h':=λ{a h'} ha hs b ob e=>by
  obtain⟨_,_,hfree⟩:=ha
  refine(I.hok b ob e).stay (λc w' hc q=>(hs.2 c ?_).trans q) (λ_ q=>q) λ_ _ q=>q
  rintro rfl
  rcases hc with rfl | hc
  ·rw[hfree]at e;cases e
  ·rw[hfree]at hc;cases hc
 rcases hx with hk | hk
 ·refine wpAny_storeName_local hk hn (λh' hn' hs=>?_) hcls
  obtain⟨oL,_,_,hoL,_⟩:=id hn
  refine h _ ⟨I.ok,I.os,I.bare,⟨λb o e n hb hx=>?_,λb o e n hb hx=>?_,I.base.free,λb o e hx=>?_,I.base.tups,I.base.frzs,I.base.tbls⟩,⟨_,hn',λj y v' e1 e2 e3=>?_⟩,λy c e=>?_,I.free,I.freeC,λp hp=>?_,tracked ⟨oL,hoL,I.free⟩ hs,↥I.len⟩ ⟨_,hs,.inl rfl⟩
  ·exact(hs.2 b (wQ (wM (wA e) I.ok.above))).trans (I.base.keep b o e n hb hx)
  ·obtain⟨sl,e1⟩:=I.base.slot b o e n hb hx
   exact⟨sl,(hs.2 b (wQ (wM (wA e) I.ok.above))).trans e1⟩
  ·obtain⟨o',e1⟩:=I.base.there b o e hx
   exact⟨o',(hs.2 b (wQ (wM (wA e) I.ok.above))).trans e1⟩
  ·by_cases hj:j=i
   ·subst hj
    rw[hi]at e1;cases e1
    rw[List.getElem?_set_self hiσ]at e2
    cases e2
    exact⟨u,r,.inl ⟨hk,by simp⟩⟩
   ·rw[List.getElem?_set_ne (Ne.symm hj)]at e2
    obtain⟨u',r',q⟩:=hl j y v' e1 e2 e3
    refine⟨u',r',?_⟩
    rcases q with⟨k,e⟩ | ⟨k,c,e,z⟩
    ·refine .inl ⟨k,?_⟩
     have:y≠x:=λe=>hj (za4 hN e1 (e ▸ hi))
     simp[this,e]
    ·exact .inr ⟨k,c,e,z.sameBut hs (cne y c e)⟩
  ·obtain⟨w',z⟩:=I.cell y c e
   exact⟨w',z.sameBut hs (cne y c e)⟩
  ·obtain⟨e,n,ne,nf,d⟩:=I.pin p hp
   exact⟨(hs.2 p.1 ne).trans e,n,ne,nf,d⟩
 ·have hfn:X.fn x=true:=by
   rcases hf with z | z
   ·exact z
   ·rw[z]at hk;cases hk
  obtain⟨c,hc⟩:=I.ok.has x (.inl hk)
  obtain⟨w',z⟩:=I.cell x c hc
  refine wpAny_storeName_cell I.ok.kind hk hc z (λh' hc' hs=>?_)
  obtain⟨oc,hoc,hocd⟩:=id z
  refine h { s with heap:=h' } ⟨I.ok,I.os,I.bare,⟨λb o e n hb hx=>?_,λb o e n hb hx=>?_,I.base.free,λb o e hx=>?_,I.base.tups,I.base.frzs,I.base.tbls⟩,⟨m,hn.sameBut hs (Ne.symm (cne x c hc)),λj y v' e1 e2 e3=>?_⟩,λy c' e=>?_,I.free,I.freeC,λp hp=>?_,tracked ⟨oc,hoc,I.freeC x c hc⟩ hs,↥I.len⟩ ⟨c,hs,.inr hc⟩
  ·exact(hs.2 b (wQ (wM (wA e) (I.ok.cab x c hfn hc)))).trans (I.base.keep b o e n hb hx)
  ·obtain⟨sl,e1⟩:=I.base.slot b o e n hb hx
   exact⟨sl,(hs.2 b (wQ (wM (wA e) (I.ok.cab x c hfn hc)))).trans e1⟩
  ·obtain⟨o',e1⟩:=I.base.there b o e hx
   exact⟨o',(hs.2 b (wQ (wM (wA e) (I.ok.cab x c hfn hc)))).trans e1⟩
  ·by_cases hj:j=i
   ·subst hj
    rw[hi]at e1;cases e1
    rw[List.getElem?_set_self hiσ]at e2
    cases e2
    exact⟨u,r,.inr ⟨.inl hk,c,hc,hc'⟩⟩
   ·rw[List.getElem?_set_ne (Ne.symm hj)]at e2
    obtain⟨u',r',q⟩:=hl j y v' e1 e2 e3
    refine⟨u',r',?_⟩
    rcases q with q | ⟨k,c',e,z'⟩
    ·exact .inl q
    ·refine .inr ⟨k,c',e,z'.sameBut hs ?_⟩
     rintro rfl
     exact hj (za4 hN e1 (I.ok.inj _ _ _ e hc ▸ hi))
  ·by_cases hcc:c'=c
   ·subst hcc;exact⟨_,hc'⟩
   ·obtain⟨w2,z2⟩:=I.cell y c' e
    exact⟨w2,z2.sameBut hs hcc⟩
  ·obtain⟨e,n,ne,nf,d⟩:=I.pin p hp
   refine⟨(hs.2 p.1 ?_).trans e,n,ne,nf,d⟩
   intro q
   rw[q,hoc]at e
   have q':oc=p.2:=Option.some.inj e
   exact d w' (by rw[<-q'];exact hocd)
theorem Qk {M:Model}{A:Around}{E:Af}{i:Nat}{x:Str}{v:V}{u:Value}{Q:Unit->Shared->Prop}(I:Inv X pz σ H s) (hN:X.N.Nodup) (hi:X.N[i]?=some x) (hx:Loc X.env.scope x) (r:xz v u)
  (h:∀s',Inv X pz (σ.set i (some v)) H s'->Q () s') (hf:X.fn x=true\/X.env.scope.names.lookup x=some .local := by first | exact .inl rfl | exact .inr rfl | assumption):wpAny M A (storeName X.env x u) Q E s :=
 JS I hN hi hx r (λs' I' _=>h s' I') hf
theorem Inv.call' {s':Shared}{ch:List Addr}(I:Inv X pz σ H s) (ho:s'.os=s.os) (u:Un (frs X.stack) ch H H' s.heap s'.heap) (hok:HOk X.prog X.w H' s'.heap) (hg:AllBare s'.gens)
  (hch:∀b∈ch,(b∈X.ex\/X.s₀.heap.objs.size<=b)/\b≠X.env.locals/\(∀x c,X.env.cells.lookup x=some c->c≠b)/\∀p∈X.pn++pz,p.1≠b):Inv X pz σ H' s':=by
 obtain⟨h',g',d',t',o'⟩:=s'
 have e:o'=s.os:=ho
 subst e
 exact I.call (g':=g') (t':=t') (d':=d') u hok hg hch
end
abbrev XK:=Value->Option Addr->Hp->Prop
abbrev St:=List (Bh)
abbrev Sr (a:Addr):Bh:=some (.ref a)
abbrev Si (i:Int):Bh:=some (.int i)
abbrev VK:=V->Hp->Prop
abbrev TE:=St->Hp->VK->Prop
abbrev TT:=St->Hp->(Bool->Hp->Prop)->Prop
abbrev TA:=St->Hp->(Ba->Hp->Prop)->Prop
structure vq where
 nx:St->Hp->Prop
 rt:VK
 bk:St->Hp->Prop:=λ_ _=>False
 ct:St->Hp->Prop:=λ_ _=>False
abbrev TS:=vq->St->Hp->Prop
def EP (X:Cx) (pz:Ab) (σ:St) (Q:VK) (u:Value) (s':Shared):Prop:=∃v H',Inv X pz σ H' s'/\xz v u/\Q v H'
def TP (X:Cx) (pz:Ab) (σ:St) (Q:Bool->Hp->Prop) (b:Bool) (s':Shared):Prop:=∃H',Inv X pz σ H' s'/\Q b H'
def AP (X:Cx) (pz:Ab) (σ:St) (Q:Ba->Hp->Prop) (us:Ac) (s':Shared):Prop:=∃vs H',Inv X pz σ H' s'/\xh vs us/\Q vs H'
def SP (X:Cx) (pz:Ab) (D:vq) (f:Flow) (s':Shared):Prop :=
 match f with
 |.next=>∃σ' H',Inv X pz σ' H' s'/\D.nx σ' H'
 |.brk=>∃σ' H',Inv X pz σ' H' s'/\D.bk σ' H'
 |.cont=>∃σ' H',Inv X pz σ' H' s'/\D.ct σ' H'
 |.ret u=>∃v σ' H',Inv X pz σ' H' s'/\xz v u/\D.rt v H'
def PE (X:Cx) (e:Expr) (t:TE):Prop :=
 ∀(pz:Ab) (s:Shared) (σ:St) (H:Hp) (Q:VK),Inv X pz σ H s->t σ H Q->wpAny (model X.prog X.w) X.A (eval e X.env) (EP X pz σ Q) X.xe s
def PT (X:Cx) (e:Expr) (t:TT):Prop :=
 ∀(pz:Ab) (s:Shared) (σ:St) (H:Hp) (Q:Bool->Hp->Prop),Inv X pz σ H s->t σ H Q->wpAny (model X.prog X.w) X.A (isTrue e X.env (eval e X.env)) (TP X pz σ Q) X.xe s
def PW (X:Cx) (e:Expr) (t:TT):Prop :=
 ∀(whole:Sem Value) (pz:Ab) (s:Shared) (σ:St) (H:Hp) (Q:Bool->Hp->Prop),Inv X pz σ H s->t σ H Q->wpAny (model X.prog X.w) X.A (isTrue e X.env whole) (TP X pz σ Q) X.xe s
def PW.pt {X:Cx}{e:Expr}{t:TT}(h:PW X e t):PT X e t:=h _
def PA (X:Cx) (es:Ag) (t:TA):Prop :=
 ∀(pos:Pos) (pz:Ab) (s:Shared) (σ:St) (H:Hp) (Q:Ba->Hp->Prop),Inv X pz σ H s->t σ H Q->wpAny (model X.prog X.w) X.A (spliced (backTo pos (starEach es X.env))) (AP X pz σ Q) X.xe s
def PS (X:Cx) (st:Stmt) (t:TS):Prop :=
 ∀(pz:Ab) (s:Shared) (σ:St) (H:Hp) (D:vq),Inv X pz σ H s->t D σ H->wpAny (model X.prog X.w) X.A (exec st X.env) (SP X pz D) X.xe s
def PSs (X:Cx) (st:Ai) (t:TS):Prop :=
 ∀(pz:Ab) (s:Shared) (σ:St) (H:Hp) (D:vq),Inv X pz σ H s->t D σ H->wpAny (model X.prog X.w) X.A (execs st X.env) (SP X pz D) X.xe s
def thn {α:Type}{t:Sem α}{Q Q':α->Shared->Prop}{M:Model}{A:Around}{E:Af}{s:Shared}(h:wpAny M A t Q E s) (hQ:∀a s,Q a s->Q' a s):wpAny M A t Q' E s:=yF h hQ λ_ _ x=>x
section
variable {X:Cx}
inductive ziO (i:Nat) (σ:St) (H:Hp) (Q:VK):Prop
 |mk:∀v,(σ[i]?=some (some v))->(Q v H)->ziO i σ H Q
def xB (i:Nat):TE:=λσ H Q=>ziO i σ H Q
def tC (v:V):TE:=λ_ H Q=>Q v H
theorem zjO {i:Nat}{x:Str}{pos:Pos}(hN:X.N[i]?=some x) (hv:Vis X.env.scope x) (hd:(x == ("__debug__":Str))=false:=by decide) (hcd:(x == ("__classdict__":Str))=false:=by decide):PE X (.Name x pos) (xB i):=by
 intro pz s σ H Q I h
 obtain⟨v,e,h⟩:=h
 obtain⟨m,hn,hl⟩:=I.loc
 obtain⟨u,r,l⟩:=hl i x v hN e hv
 have fin:EP X pz σ Q u s:=⟨v,H,I,r,h⟩
 rcases l with⟨hk,hm⟩ | ⟨hk,c,hc,hcell⟩
 ·exact wpAny_Name (wpAny_loadName_local I.ok.kind hk hn hm fin) hd
 ·rcases hk with hk | hk
  ·exact wpAny_Name (wpAny_loadName_cell I.ok.kind hk hc hcell fin) hd
  ·exact wpAny_Name (wpAny_loadName_free I.ok.kind hk hc hcell fin hcd) hd
theorem zg {i j pos}:PE X (.Constant (.int i) j pos) (tC (.int i)):=λ_ _ _ H _ I h=>wpAny_Constant_int ⟨.int i,H,I.tok _,⟨_,rfl⟩,h⟩
theorem ZL {b j pos}:PE X (.Constant (.bool b) j pos) (tC (.bl b)):=λ_ _ _ H _ I h=>Constant_bool ⟨.bl b,H,I,rfl,h⟩
theorem zV {j pos}:PE X (.Constant .none j pos) (tC .non):=λ_ _ _ H _ I h=>Constant_none ⟨.non,H,I,rfl,h⟩
theorem qV {x j pos}:PE X (.Constant (.str x) j pos) (tC (.str x)):=λ_ _ _ H _ I h=>Calls.Constant_str ⟨.str x,H,I.tok _,⟨_,rfl⟩,h⟩
def Gl (X:Cx) (x:Str):Prop:=X.env.kindOf x=some .globalImplicit
theorem v3 {E:Af}{pz:Ab}{s:Shared}{σ:St}{H:Hp}{x:Str}{u:Value}{pos:Pos}{Q:Af}(I:Inv X pz σ H s) (hg:Gl X x) (hm:X.mg x=some u) (h:Q u s)
  (hd:(x == ("__debug__":Str))=false:=by decide):wpAny (model X.prog X.w) X.A (eval (.Name x pos) X.env) Q E s :=
 Calls.Name_function_global I.ok.kind hg (Calls.loadGlobal_global (by rw[I.ok.glob];exact I.mod.glob.keeps I.bk) hm h) hd
theorem Z0 {E:Af}{pz:Ab}{s:Shared}{σ:St}{H:Hp}{x:Str}{u:Value}{pos:Pos}{Q:Af}(I:Inv X pz σ H s) (hg:Gl X x) (hm:X.mg x=none) (hv:bootBuiltins x=some u) (h:Q u s)
  (hn:x≠"__name__":=by decide) (hd:(x == ("__debug__":Str))=false:=by decide):wpAny (model X.prog X.w) X.A (eval (.Name x pos) X.env) Q E s:=by
 obtain⟨mb,h1,h2⟩:=I.mod.blt
 exact Calls.Name_function_global I.ok.kind hg (Calls.loadGlobal_builtin (by rw[I.ok.glob];exact I.mod.glob.keeps I.bk) hm (by rw[I.ok.blt];exact h1.keeps I.bk) ((h2 x hn).trans hv) h) hd
theorem zcQ {x:Str}{v:V}{u:Value}{pos:Pos}(hg:Gl X x) (hm:X.mg x=some u) (r:xz v u) (hd:(x == ("__debug__":Str))=false:=by decide):PE X (.Name x pos) (tC v) :=
 λ_ _ _ H _ I h=>v3 I hg hm ⟨v,H,I,r,h⟩ hd
theorem Vm {x:Str}{v:V}{u:Value}{pos:Pos}(hg:Gl X x) (hm:X.mg x=none) (hv:bootBuiltins x=some u) (r:xz v u) (hn:x≠"__name__":=by decide) (hd:(x == ("__debug__":Str))=false:=by decide):PE X (.Name x pos) (tC v) :=
 λ_ _ _ H _ I h=>Z0 I hg hm hv ⟨v,H,I,r,h⟩ hn hd
variable {a b:Expr}{ta tb:TE}{pos:Pos}
variable {tA tB':TT}{rest:Ag}
def tAnd (t u:TT):TT:=λσ H Q=>t σ H λc H1=>if c=true then u σ H1 Q else Q false H1
def tOr (t u:TT):TT:=λσ H Q=>t σ H λc H1=>if c=true then Q true H1 else u σ H1 Q
def zmk (t:TT):TT:=λσ H Q=>t σ H λc H1=>Q (!c) H1
theorem x8 (ha:PT X a tA):PW X (.BoolOp .And [a] pos) tA:=by
 intro wh pz s σ H Q I h
 refine isTrue_and (thn (ha pz s σ H Q I h) λc s1 e=>?_)
 cases c with
 |true=>exact isTrue_and_nil e
 |false=>exact e
theorem vG (ha:PT X a tA):PW X (.BoolOp .Or [a] pos) tA:=by
 intro wh pz s σ H Q I h
 refine isTrue_or (thn (ha pz s σ H Q I h) λc s1 e=>?_)
 cases c with
 |false=>exact isTrue_or_nil e
 |true=>exact e
theorem qk (ha:PT X a tA) (hb:PW X (.BoolOp .And (b::rest) pos) tB'):PW X (.BoolOp .And (a::b::rest) pos) (tAnd tA tB'):=by
 intro wh pz s σ H Q I h
 refine isTrue_and (thn (ha pz s σ H _ I h) λc s1 ⟨H1,I1,q1⟩=>?_)
 cases c with
 |true=>exact hb wh pz s1 σ H1 Q I1 q1
 |false=>exact⟨H1,I1,q1⟩
theorem vQ (ha:PT X a tA) (hb:PW X (.BoolOp .Or (b::rest) pos) tB'):PW X (.BoolOp .Or (a::b::rest) pos) (tOr tA tB'):=by
 intro wh pz s σ H Q I h
 refine isTrue_or (thn (ha pz s σ H _ I h) λc s1 ⟨H1,I1,q1⟩=>?_)
 cases c with
 |true=>exact⟨H1,I1,q1⟩
 |false=>exact hb wh pz s1 σ H1 Q I1 q1
theorem qE (ha:PT X a tA):PT X (.UnaryOp .Not a pos) (zmk tA):=by
 intro pz s σ H Q I h
 exact isTrue_not (ha pz s σ H (λc H1=>Q (!c) H1) I h)
inductive zf5 (tb:TE) (σ:St) (Q:VK) (x:V) (H1:Hp):Prop
 |mk:∀c,(x=.bl c)->(if c=true then tb σ H1 Q else Q (.bl false) H1)->zf5 tb σ Q x H1
def zme (ta tb:TE):TE:=λσ H Q=>ta σ H λx H1=>zf5 tb σ Q x H1
inductive ziM (tb:TE) (σ:St) (Q:VK) (x:V) (H1:Hp):Prop
 |mk:∀c,(x=.bl c)->(if c=true then Q (.bl true) H1 else tb σ H1 Q)->ziM tb σ Q x H1
def zmm (ta tb:TE):TE:=λσ H Q=>ta σ H λx H1=>ziM tb σ Q x H1
inductive zf8 (Q:VK) (x:V) (H1:Hp):Prop
 |mk:∀c,(x=.bl c)->(Q (.bl (!c)) H1)->zf8 Q x H1
def zml (ta:TE):TE:=λσ H Q=>ta σ H λx H1=>zf8 Q x H1
theorem qU {op}{t:TE}(h:PE X a t):PE X (.BoolOp op [a] pos) t:=λpz s σ H Q I hw=>BoolOp_one (h pz s σ H Q I hw)
theorem qT (ha:PE X a ta) (hb:PE X (.BoolOp .And (b::rest) pos) tb):PE X (.BoolOp .And (a::b::rest) pos) (zme ta tb):=by
 intro pz s σ H Q I h
 refine BoolOp_and (thn (ha pz s σ H _ I h) λv s1 ⟨x,H1,I1,r1,q1⟩=>?_)
 obtain⟨c,rfl,q1⟩:=q1
 cases r1
 refine yX ?_
 cases c with
 |true=>exact hb pz s1 σ H1 Q I1 q1
 |false=>exact⟨.bl false,H1,I1,rfl,q1⟩
theorem za8 (ha:PE X a ta) (hb:PE X (.BoolOp .Or (b::rest) pos) tb):PE X (.BoolOp .Or (a::b::rest) pos) (zmm ta tb):=by
 intro pz s σ H Q I h
 refine BoolOp_or (thn (ha pz s σ H _ I h) λv s1 ⟨x,H1,I1,r1,q1⟩=>?_)
 obtain⟨c,rfl,q1⟩:=q1
 cases r1
 refine yX ?_
 cases c with
 |false=>exact hb pz s1 σ H1 Q I1 q1
 |true=>exact⟨.bl true,H1,I1,rfl,q1⟩
theorem zfk (ha:PE X a ta):PE X (.UnaryOp .Not a pos) (zml ta):=by
 intro pz s σ H Q I h
 refine UnaryOp_ (thn (ha pz s σ H _ I h) λv s1 ⟨x,H1,I1,r1,q1⟩=>?_)
 obtain⟨c,rfl,q1⟩:=q1
 cases r1
 exact not_of (yX ⟨.bl (!c),H1,I1,rL,q1⟩)
def tIf (t:TT) (ta tb:TE):TE:=λσ H Q=>t σ H λc H1=>if c=true then ta σ H1 Q else tb σ H1 Q
theorem zfj {c:Expr}(hc:PT X c tA) (ha:PE X a ta) (hb:PE X b tb):PE X (.IfExp c a b pos) (tIf tA ta tb):=by
 intro pz s σ H Q I h
 refine wpAny_IfExp (thn (hc pz s σ H _ I h) λd s1 ⟨H1,I1,q1⟩=>?_)
 cases d with
 |true=>exact ha pz s1 σ H1 Q I1 q1
 |false=>exact hb pz s1 σ H1 Q I1 q1
end
def SqL (K:Fg) (H:Hp) (a:Addr) (xs:Ba):Prop :=
 Rd H a (.lst xs) ∨
  ∃(o:Obj) (its:Ae) (n:Nat),K.lookup a=some o/\o.cls=.type "list"/\o.dict=none/\o.data=.seq its n/\its.size<=sizeLine/\xh xs its.toList
def SqT (K:Fg) (H:Hp) (a:Addr) (xs:Ba):Prop :=
 Rd H a (.tup xs) ∨
  ∃(o:Obj) (its:Ae) (n:Nat),K.lookup a=some o/\o.cls=.type "tuple"/\o.data=.seq its n/\its.size<=sizeLine/\xh xs its.toList
def absV:Value->Bh
 |.none=>some .non
 |.bool b=>some (.bl b)
 |.int i _=>some (.int i)
 |.str x _=>some (.str x)
 |.bytes b _=>some (.byt b)
 |.float b _=>some (.flt b)
 |.ref a=>some (.ref a)
 |.type n=>some (.ty n)
 |_=>none
def xz.abs {x:V}{u:Value}(r:xz x u):absV u=some x:=by
 cases x with
 |non=>cases r;rfl
 |bl _=>cases r;rfl
 |int _=>obtain⟨t,rfl⟩:=r;rfl
 |str _=>obtain⟨t,rfl⟩:=r;rfl
 |byt _=>obtain⟨t,rfl⟩:=r;rfl
 |flt _=>obtain⟨t,rfl⟩:=r;rfl
 |ref _=>cases r;rfl
 |ty _=>cases r;rfl
def xz.inj {x y:V}{u:Value}(r:xz x u) (q:xz y u):x=y:=Option.some.inj (r.abs.symm.trans q.abs)
def xh.inj:∀{xs ys:Ba}{us:Ac},xh xs us->xh ys us->xs=ys
 |_,_,_,.nil,.nil=>rfl
 |_,_,_,.cons r t,.cons r' t'=>by rw[r.inj r',xh.inj t t']
section
variable {X:Cx}{pz:Ab}{σ:St}{H:Hp}{s:Shared}{a:Addr}{xs ys:Ba}
theorem SqL.of {K:Fg}(h:H a=some (.lst xs)):SqL K H a xs:=.inl (.inl h)
theorem SqT.of {K:Fg}(h:H a=some (.tup xs)):SqT K H a xs:=.inl (.inl h)
theorem Inv.list (I:Inv X pz σ H s) (h:SqL X.K H a xs):∃its:Ac,xh xs its/\PlainL s.heap a its.toArray/\xs.length<=sizeLine:=by
 rcases h with h | ⟨o,its,n,hk,hc,hd,hs,hz,r⟩
 ·obtain⟨z,its,n,r,e⟩:=h.ok I.hok
  exact⟨its,r,⟨_,n,e,rL,rL,rL⟩,z⟩
 ·refine⟨its.toList,r,⟨o,n,I.kIn a o hk,hc,hd,↥hs⟩,?_⟩
  have e:=r.length
  simp only[ul]at e
  lia
theorem Inv.tuple (I:Inv X pz σ H s) (h:SqT X.K H a xs):∃its:Ac,xh xs its/\IsTup s.heap a its.toArray/\xs.length<=sizeLine:=by
 rcases h with h | ⟨o,its,n,hk,hc,hs,hz,r⟩
 ·obtain⟨z,its,r,p⟩:=h.ok I.hok
  exact⟨its,r,p,z.1⟩
 ·refine⟨its.toList,r,⟨o,I.kIn a o hk,hc,n,↥hs⟩,?_⟩
  have e:=r.length
  simp only[ul]at e
  lia
theorem Inv.list_inj (I:Inv X pz σ H s) (h:SqL X.K H a xs) (h':SqL X.K H a ys):xs=ys:=by
 obtain⟨its,r,⟨o,n,e,_,_,d⟩,_⟩:=I.list h
 obtain⟨its',r',⟨o',n',e',_,_,d'⟩,_⟩:=I.list h'
 rw[e]at e';cases e'
 rw[d]at d'
 injection d' with d1 _
 have:its=its':=by simpa using congrArg Array.toList d1
 subst this
 exact r.inj r'
theorem Inv.tuple_inj (I:Inv X pz σ H s) (h:SqT X.K H a xs) (h':SqT X.K H a ys):xs=ys:=by
 obtain⟨its,r,⟨o,e,_,n,d⟩,_⟩:=I.tuple h
 obtain⟨its',r',⟨o',e',_,n',d'⟩,_⟩:=I.tuple h'
 rw[e]at e';cases e'
 rw[d]at d'
 injection d' with d1 _
 have:its=its':=by simpa using congrArg Array.toList d1
 subst this
 exact r.inj r'
end
abbrev Cx.wish (X:Cx) (E:Af):Cx:={ X with xe:=E }
abbrev Cx.nox (X:Cx):Cx:=X.wish λ_ _=>False
def Cx.Ok.wish {X:Cx}(ok:X.Ok) (E:Af):(X.wish E).Ok :=
 ⟨ok.mod,ok.kind,ok.glob,ok.blt,ok.above,ok.inj,ok.has,ok.cab,ok.hd,ok.frames,ok.stk,ok.exf,ok.bs,ok.bsz,ok.noex,ok.exfs,ok.funs,ok.frf⟩
def Cx.Ok.unwish {X:Cx}{E:Af}(ok:(X.wish E).Ok):X.Ok :=
 ⟨ok.mod,ok.kind,ok.glob,ok.blt,ok.above,ok.inj,ok.has,ok.cab,ok.hd,ok.frames,ok.stk,ok.exf,ok.bs,ok.bsz,ok.noex,ok.exfs,ok.funs,ok.frf⟩
section
variable {X:Cx}{pz:Ab}{σ:St}{H:Hp}{s:Shared}{E:Af}
theorem Inv.wish (I:Inv X pz σ H s) (E:Af):Inv (X.wish E) pz σ H s:=⟨I.ok.wish E,I.os,I.bare,I.base,I.loc,I.cell,I.free,I.freeC,I.pin,I.hok,I.len⟩
theorem Inv.unwish (I:Inv (X.wish E) pz σ H s):Inv X pz σ H s:=⟨I.ok.unwish,I.os,I.bare,I.base,I.loc,I.cell,I.free,I.freeC,I.pin,I.hok,I.len⟩
theorem SP.unwish {D:vq}{f:Flow}{s':Shared}(h:SP (X.wish E) pz D f s'):SP X pz D f s':=by
 cases f with
 |next=>obtain⟨σ',H',I,q⟩:=h;exact⟨σ',H',I.unwish,q⟩
 |brk=>obtain⟨σ',H',I,q⟩:=h;exact⟨σ',H',I.unwish,q⟩
 |cont=>obtain⟨σ',H',I,q⟩:=h;exact⟨σ',H',I.unwish,q⟩
 |ret u=>obtain⟨v,σ',H',I,r,q⟩:=h;exact⟨v,σ',H',I.unwish,r,q⟩
theorem PSs.nox {st:Ai}{t:TS}(h:PSs X.nox st t):PSs X st t:=λpz s σ H D I hw =>
 yF (h pz s σ H D (I.wish _) hw) (λ_ _ q=>q.unwish) λ_ _ z=>False.elim z
end
section
variable {X:Cx}{st:Stmt}{rest:Ai}{t u:TS}{e:Expr}{te:TE}{pos:Pos}
def ziL:TS:=λD σ H=>D.nx σ H
def Jo (t u:TS):TS:=λD σ H=>t { D with nx:=u D } σ H
theorem zQ:PSs X [] ziL:=λ_ _ σ H _ I h=>Wt ⟨σ,H,I,h⟩
theorem zA (h1:PS X st t) (h2:PSs X rest u):PSs X (st::rest) (Jo t u):=by
 intro pz s σ H D I h
 refine wpAny_execs_cons (thn (h1 pz s σ H { D with nx:=u D } I h) λf s1 q=>?_)
 cases f with
 |next =>
  obtain⟨σ',H',I',q⟩:=q
  exact h2 pz s1 σ' H' D I' q
 |ret v=>exact q
 |brk=>exact q
 |cont=>exact q
theorem zj (h1:PS X st t):PSs X [st] t:=by
 intro pz s σ H D I h
 refine wpAny_execs_cons (thn (h1 pz s σ H D I h) λf s1 q=>?_)
 cases f with
 |next=>exact Wt q
 |ret v=>exact q
 |brk=>exact q
 |cont=>exact q
theorem Inv.quiet {pz:Ab}{σ:St}{H:Hp}{s:Shared}(I:Inv X pz σ H s):interactive X.env=false:=by simp[interactive,I.ok.kind]
def zmh (te:TE):TS:=λD σ H=>te σ H λ_ H1=>D.nx σ H1
theorem qz (he:PE X e te) (hs:swapsWith e none pos.line X.env=pure false:=by rfl):PS X (.Expr e pos) (zmh te):=by
 intro pz s σ H D I h
 exact wpAny_Expr_any (thn (he pz s σ H _ I h) λv s1 ⟨x,H1,I1,r1,q1⟩=>⟨σ,H1,I1,q1⟩) I.quiet hs
def zaw (te:TE):TS:=λD σ H=>te σ H D.rt
theorem zG (he:PE X e te):PS X (.Return (some e) pos) (zaw te):=by
 intro pz s σ H D I h
 exact wpAny_Return_some (thn (he pz s σ H _ I h) λv s1 ⟨x,H1,I1,r1,q1⟩=>⟨x,σ,H1,I1,r1,q1⟩)
def zkD (c:TT) (t u:TS):TS:=λD σ H=>c σ H λb H1=>if b=true then t D σ H1 else u D σ H1
theorem zZ {c:Expr}{a b:Ai}{tc:TT}(hc:PT X c tc) (ha:PSs X a t) (hb:PSs X b u):PS X (.If c a b pos) (zkD tc t u):=by
 intro pz s σ H D I h
 refine wpAny_If (thn (hc pz s σ H _ I h) λd s1 ⟨H1,I1,q1⟩=>?_)
 cases d with
 |true=>exact ha pz s1 σ H1 D I1 q1
 |false=>exact hb pz s1 σ H1 D I1 q1
def zkE:TS:=λ_ _ _=>False
theorem zd0 {sts:Ai}:PSs X sts zkE:=λ_ _ _ _ _ _ h=>h.elim
end
abbrev TG:=V->St->Hp->(St->Hp->Prop)->Prop
abbrev TGs:=Ba->St->Hp->(St->Hp->Prop)->Prop
def PG (X:Cx) (target:Expr) (t:TG):Prop :=
 ∀(pz:Ab) (s:Shared) (σ:St) (H:Hp) (v:V) (u:Value) (Q:St->Hp->Prop),Inv X pz σ H s->xz v u->t v σ H Q →
  wpAny (model X.prog X.w) X.A (assign target X.env u) (λ_ s'=>∃σ' H',Inv X pz σ' H' s'/\Q σ' H') X.xe s
def PGs (X:Cx) (ts:Ag) (t:TGs):Prop :=
 ∀(pz:Ab) (s:Shared) (σ:St) (H:Hp) (vs:Ba) (us:Ac) (Q:St->Hp->Prop),Inv X pz σ H s->xh vs us->t vs σ H Q →
  wpAny (model X.prog X.w) X.A (assignInOrder ((assignEach ts X.env).map (·.2)) us) (λ_ s'=>∃σ' H',Inv X pz σ' H' s'/\Q σ' H') X.xe s
abbrev ziW:=V->V->V->Hp->(Hp->Prop)->Prop
def zkQ (X:Cx) (t:ziW):Prop :=
 ∀(pz:Ab) (s:Shared) (σ:St) (H:Hp) (o i v:V) (ov iv u:Value) (Q:Hp->Prop),Inv X pz σ H s->xz o ov->xz i iv->xz v u->t o i v H Q →
  wpAny (model X.prog X.w) X.A (setItem ov iv u) (λ_ s'=>∃H',Inv X pz σ H' s'/\Q H') X.xe s
section
variable {X:Cx}{pos:Pos}
def zM (i:Nat):TG:=λv σ H Q=>Q (σ.set i (some v)) H
theorem zhj {i:Nat}{x:Str}(hN:X.N.Nodup) (hi:X.N[i]?=some x) (hx:Loc X.env.scope x) (hf:X.fn x=true\/X.env.scope.names.lookup x=some .local := by first | exact .inl rfl | exact .inr rfl | assumption):PG X (.Name x pos) (zM i):=by
 intro pz s σ H v u Q I r h
 exact wpAny_assign_Name (Qk I hN hi hx r (λs' I'=>⟨_,H,I',h⟩) hf)
theorem pgl {i:Nat}{x:Str}{pos:Pos}(hN:X.N.Nodup) (hi:X.N[i]?=some x:=by rfl) (hx:Loc X.env.scope x:=by exact Or.inl rfl) (hf:X.fn x=true\/X.env.scope.names.lookup x=some .local := by first | exact .inl rfl | exact .inr rfl | assumption):PG X (.Name x pos) (zM i):=zhj hN hi hx hf
def Qa:TGs:=λvs σ H Q=>vs=[]/\Q σ H
def xL (t:TG) (u:TGs):TGs:=λvs σ H Q=>∃v r,vs=v::r/\t v σ H λσ' H'=>u r σ' H' Q
theorem xw:PGs X [] Qa:=by
 intro pz s σ H vs us Q I r h
 obtain⟨e,h⟩:=h
 subst e
 cases r
 exact assignInOrder_nil ⟨σ,H,I,h⟩
theorem zP {e:Expr}{es:Ag}{t:TG}{u:TGs}(h1:PG X e t) (h2:PGs X es u)
  (hs:(assignEach (e::es) X.env).map (·.2)=assign e X.env::(assignEach es X.env).map (·.2):=by rfl):PGs X (e::es) (xL t u):=by
 intro pz s σ H vs us Q I r h
 obtain⟨v,vr,e1,h⟩:=h
 subst e1
 cases r with
 |cons r rr =>
  rw[hs]
  refine assignInOrder_cons (thn (h1 pz s σ H _ _ _ I r h) λ_ s1 ⟨σ1,H1,I1,q1⟩=>?_)
  exact h2 pz s1 σ1 H1 _ _ Q I1 rr q1
def Xt (K:Fg) (n:Nat) (t:TGs):TG:=λv σ H Q=>∃a xs,v=.ref a/\SqT K H a xs/\xs.length=n/\t xs σ H Q
theorem qu {es:Ag}{k:Nat}{t:TGs}{n:Nat}(hc:X.calm=true) (h:PGs X es t)
  (hn:(assignEach es X.env).length=n:=by rfl) (hst:(assignEach es X.env).findIdx? (·.1)=none:=by rfl):PG X (.Tuple es k pos) (Xt X.K n t):=by
 intro pz s σ H v u Q I r hw
 obtain⟨a,xs,e1,hq,hl,hw⟩:=hw
 subst e1
 cases r
 obtain⟨its,rv,ht,hz⟩:=I.tuple hq
 refine assign_Tuple_tuple (I.ok.hd hc) ht (by simp[hn,<-hl,rv.length]) hst λh' hx=>?_
 have I1:Inv X pz σ H { s with heap:=h' }:=I.kept (t':=s.toks) λb o e=>hx b o (wQ (wA e)) e
 exact h pz _ σ H xs _ Q I1 ↥rv hw
def gSub (to ti:TE) (t:ziW):TG:=λv σ H Q=>to σ H λo H1=>ti σ H1 λi H2=>t o i v H2 λH3=>Q σ H3
theorem Z7 {o i:Expr}{to ti:TE}{t:ziW}(ho:PE X o to) (hi:PE X i ti) (hs:zkQ X t)
  (ha:∀v,assign (.Subscript o i pos) X.env v=(do
   let ov <-holding [v] (eval o X.env)
   let iv <-holding [v,ov] (eval i X.env)
   standAt pos
   holding [v,ov,iv] (setItem ov iv v)
   release [v,ov,iv] []):=by intro _;rfl):PG X (.Subscript o i pos) (gSub to ti t):=by
 intro pz s σ H v u Q I r h
 rw[ha]
 refine wc (yr (thn (ho pz s σ H _ I h) λov s1 ⟨x,H1,I1,r1,q1⟩=>?_))
 refine wc (yr (thn (hi pz s1 σ H1 _ I1 q1) λiv s2 ⟨y,H2,I2,r2,q2⟩=>?_))
 refine wc (uH (wc (yr (thn (hs pz s2 σ H2 x y v ov iv u _ I2 r1 r2 r q2) λ_ s3 ⟨H3,I3,q3⟩=>?_))))
 exact wpAny_release ⟨σ,H3,I3,q3⟩
def zca (te:TE) (g:TG):TS:=λD σ H=>te σ H λx H1=>g x σ H1 D.nx
theorem qf {tg e:Expr}{te:TE}{g:TG}(he:PE X e te) (hg:PG X tg g) (hs:swapsWithSole [tg] e pos.line X.env=pure false:=by rfl) (hw:swappedStores [tg] e X.env=pure none:=by rfl)
  (h1:(assignEach [tg] X.env).map (·.2)=[assign tg X.env]:=by rfl):PS X (.Assign [tg] e pos) (zca te g):=by
 intro pz s σ H D I h
 refine wpAny_Assign_stores (thn (he pz s σ H _ I h) λv s1 ⟨x,H1,I1,r1,q1⟩=>?_) hs hw
 rw[h1]
 exact thn (hg pz s1 σ H1 x v _ I1 r1 q1) λ_ s2 q=>q
theorem Qz {i:Nat}{x:Str}{e:Expr}{te:TE}{pos':Pos}(hN:X.N.Nodup) (hi:X.N[i]?=some x) (hx:Loc X.env.scope x) (he:PE X e te) (hs:swapsWith e (some (.Name x pos')) pos.line X.env=pure false:=by rfl) (hf:X.fn x=true\/X.env.scope.names.lookup x=some .local := by first | exact .inl rfl | exact .inr rfl | assumption) :
  PS X (.Assign [.Name x pos'] e pos) (zca te (zM i)):=by
 intro pz s σ H D I h
 refine wpAny_Assign_Name (thn (he pz s σ H _ I h) λv s1 ⟨y,H1,I1,r1,q1⟩=>?_) hs
 exact Qk I1 hN hi hx r1 (λs2 I2=>⟨_,H1,I2,q1⟩) hf
theorem psl {i:Nat}{x:Str}{e:Expr}{te:TE}{pos pos':Pos}(hN:X.N.Nodup) (he:PE X e te) (hi:X.N[i]?=some x:=by rfl) (hx:Loc X.env.scope x:=by exact Or.inl rfl) (hs:swapsWith e (some (.Name x pos')) pos.line X.env=pure false:=by rfl) (hf:X.fn x=true\/X.env.scope.names.lookup x=some .local := by first | exact .inl rfl | exact .inr rfl | assumption) :
  PS X (.Assign [.Name x pos'] e pos) (zca te (zM i)):=Qz hN hi hx he hs hf
def tPar (i j:Nat) (ta:TA):TS:=λD σ H=>ta σ H λvs H1=>∃v w,vs=[v,w]/\D.nx ((σ.set i (some v)).set j (some w)) H1
theorem zb1 {i j:Nat}{x y:Str}{a b:Expr}{ta:TA}{px py pt:Pos} {kt k2 pt2} (hc:X.calm=true) (hN:X.N.Nodup) (hi:X.N[i]?=some x) (hj:X.N[j]?=some y) (hij:i≠j)
  (hx:X.env.scope.names.lookup x=some .local) (hy:X.env.scope.names.lookup y=some .local) (ha:PA X [a,b] ta)
  (hw:swappedStores [.Tuple [.Name x px,.Name y py] kt pt] (.Tuple [a,b] k2 pt2) X.env=pure (some [x,y]))
  (hs:swapsWithSole [.Tuple [.Name x px,.Name y py] kt pt] (.Tuple [a,b] k2 pt2) pos.line X.env=pure false:=by rfl) :
  PS X (.Assign [.Tuple [.Name x px,.Name y py] kt pt] (.Tuple [a,b] k2 pt2) pos) (tPar i j ta):=by
 intro pz s σ H D I h
 rw[exec_Assign_arm]
 refine wc (uH ?_)
 rw[hs]
 refine wc (wu ?_)
 rw[if_neg ⇑1]
 refine wc (Tuple_ (thn (ha _ pz s σ H _ I h) λus s1 ⟨vs,H1,I1,r1,q1⟩=>?_))
 obtain⟨v,w,e1,q1⟩:=q1
 subst e1
 obtain⟨u1,u2,rfl,rv,rw'⟩:∃u1 u2,us=[u1,u2]/\xz v u1/\xz w u2:=by
  cases r1 with
  |cons p q =>
   cases q with
   |cons p' q' =>
    cases q'
    exact⟨021,p,p'⟩
 refine yv ?_ (⇑5)
 have I2:Inv X pz σ H1 { s1 with heap:=s1.heap.push { cls:=.type "tuple",data:=.seq [u1,u2].toArray } }:=I1.kept (t':=s1.toks) λb o e=>wg _ e
 rw[hw]
 refine wc (wu ?_)
 show wpAny (model X.prog X.w) X.A (do rule "assign.swapped-stores";let items <-unpackItems (.ref s1.heap.objs.size) 2 none;assignInOrder [λv=>bindName X.env y v,λv=>bindName X.env x v] items.reverse;pure Flow.next) _ _ _
 refine wc (uW (wc (unpackItems_tuple (items:=#[u1,u2]) (I.ok.hd hc) (IsTup.new s1.heap _) λh' hx'=>?_)))
 have I3:=I2.kept (h':=h') (t':=s1.toks) λb o e=>hx' b o (wQ (wA e)) e
 show wpAny _ _ (assignInOrder [λv=>bindName X.env y v,λv=>bindName X.env x v] [u2,u1] >>= λ_=>pure Flow.next) _ _ _
 refine wc (assignInOrder_cons (wpAny_bindName (Qk I3 hN hj (.inl hy) rw' (λs2 I4=>?_) (.inr hy))))
 refine assignInOrder_cons (wpAny_bindName (Qk I4 hN hi (.inl hx) rv (λs3 I5=>assignInOrder_nil (wu ?_)) (.inr hx)))
 rw[List.set_comm _ _ (Ne.symm hij)]at I5
 exact⟨_,H1,I5,q1⟩
def zax (c:TT) (tb:TS):TS:=λD σ H=>∃W:Nat->St->Hp->Prop,(∃m,W m σ H)/\∀m σ H,W m σ H →
 c σ H λb H1=>if b=true then ∃N:St->Hp->Prop,(∀σ' H',N σ' H'->∃m',m'<m/\W m' σ' H')/\tb { D with nx:=N,ct:=N,bk:=D.nx } σ H1 else D.nx σ H1
theorem Qd {c:Expr}{body:Ai}{tc:TT}{tb:TS}(hp:PassesOwn (model X.prog X.w) X.A X.env X.xe) (hc:PT X c tc) (hb:PSs X body tb):PS X (.While c body [] pos) (zax tc tb):=by
 intro pz s σ H D I h
 obtain⟨W,⟨m0,w0⟩,turn⟩:=h
 refine wpAny_While (codeAny_whileLoop (λn s'=>∃σ' H',Inv X pz σ' H' s'/\W n σ' H') ?_ m0 ⟨σ,H,I,w0⟩)
 rintro n s1 ⟨σ1,H1,I1,w1⟩
 refine uB hp (thn (hc pz s1 σ1 H1 _ I1 (turn n σ1 H1 w1)) λb s2 ⟨H2,I2,q2⟩=>?_)
 cases b with
 |true =>
  obtain⟨N,hN,q2⟩:=q2
  rw[if_pos rfl]
  refine uB hp (thn (hb pz s2 σ1 H2 _ I2 q2) λf s3 q3=>?_)
  cases f with
  |next =>
   obtain⟨σ3,H3,I3,n3⟩:=q3
   obtain⟨m',hm,w3⟩:=hN σ3 H3 n3
   exact⟨m',hm,σ3,H3,I3,w3⟩
  |cont =>
   obtain⟨σ3,H3,I3,n3⟩:=q3
   obtain⟨m',hm,w3⟩:=hN σ3 H3 n3
   exact⟨m',hm,σ3,H3,I3,w3⟩
  |brk=>exact q3
  |ret v=>exact q3
 |false =>
  rw[if_neg wN]
  exact Wt ⟨σ1,H2,I2,q2⟩
end
structure It where
 go:Nat->Hp->Prop
 yld:Nat->Hp->V->Hp->Prop
 stop:Nat->Hp->Prop
def Vt (X:Cx) (pz:Ab) (H:Hp) (b:Addr):Prop :=
 H b=none/\b≠X.env.locals/\b∉X.fs/\(b∈X.ex\/X.s₀.heap.objs.size<=b)/\(∀x c,X.env.cells.lookup x=some c->c≠b)/\∀p∈X.pn++pz,p.1≠b
def Inv.fpOk {X:Cx}{pz:Ab}{σ:St}{H H':Hp}{s:Shared}{b:Addr}(I:Inv X pz σ H s) (hb:s.heap.objs.size<=b) (hn:H' b=none):Vt X pz H' b:=by
 refine⟨hn,Wg (wM I.lt hb),I.nofs hb,.inr (wY I.sz hb),λx c e z=>?_,λp hp z=>?_⟩
 ·obtain⟨v,q⟩:=I.cell x c e
  exact absurd (wM q.lt (by rw[z];exact hb)) (uC _)
 ·exact absurd (wM (wA (I.pin p hp).1) (by rw[z];exact hb)) (uC _)
structure zdv (P:Program) (w:World) (K:Fg) (tg:Expr) (J:It) (fp:List Addr) (it:Addr) (tn:Nat->Heap->Prop):Prop where
 mem:it∈fp
 obj:∀i h,tn i h->∀b∈fp,∃o,h.get? b=some o/\∀v,o.data≠.cell v
 keep:∀i h h',tn i h->(∀b∈fp,∀o,h.get? b=some o->h'.get? b=some o)->tn i h'
 item:∀(X:Cx),X.prog=P->X.w=w->X.K=K->X.calm=true->∀(i:Nat) (pz:Ab) (s:Shared) (σ:St) (H:Hp) (E:Af),Inv X pz σ H s->(∀b∈fp,Vt X pz H b)->tn i s.heap->J.go i H →
  wpAny (model P w) X.A (pyNext (.ref it)) (λr s1=>∃u,r=some u ∧
   wpAny (model P w) X.A (letOwnedTupleGo tg (.ref it) u) (λ_ s2=>∃x H',Inv X pz σ H' s2/\xz x u/\J.yld i H x H'/\tn (i+1) s2.heap/\∀b∈fp,H' b=none) E s1) E s
 done:∀(X:Cx),X.prog=P->X.w=w->X.K=K->X.calm=true->∀(i:Nat) (pz:Ab) (s:Shared) (σ:St) (H:Hp) (E:Af),Inv X pz σ H s->(∀b∈fp,Vt X pz H b)->tn i s.heap->J.stop i H →
  wpAny (model P w) X.A (pyNext (.ref it)) (λr s1=>r=none/\Inv X pz σ H s1) E s
 self:∀(A:Around) (i:Nat) (s:Shared) (Q:Af) (E:Af),tn i s.heap->Q (.ref it) s->wpAny (model P w) A (pyIter (.ref it)) Q E s
abbrev TI:=St->Hp->(It->Hp->Prop)->Prop
def PIE (X:Cx) (pz:Ab) (σ:St) (tg:Expr) (R:It->Hp->Prop) (itv:Value) (s2:Shared):Prop :=
 ∃(it:Addr) (fp:List Addr) (tn:Nat->Heap->Prop) (J:It) (H':Hp),itv=.ref it/\Inv X pz σ H' s2/\zdv X.prog X.w X.K tg J fp it tn/\tn 0 s2.heap/\(∀b∈fp,Vt X pz H' b)/\R J H'
def PI (X:Cx) (tg iter:Expr) (wi:TI):Prop :=
 ∀(pz:Ab) (s:Shared) (σ:St) (H:Hp) (R:It->Hp->Prop),Inv X pz σ H s->wi σ H R →
  wpAny (model X.prog X.w) X.A (eval iter X.env) (λv s1=>wpAny (model X.prog X.w) X.A (pyIter v) (PIE X pz σ tg R) X.xe s1) X.xe s
def zeN {M:Model}{A:Around}{E:Af}{s:Shared}{tg:Expr}{it:Addr}{u:Value}{o:Obj}{n:String}{vs:Ae}{Q:Unit->Shared->Prop}(ho:s.heap.get? it=some o) (hc:o.cls=.type n) (hd:o.data=.fields vs)
  (hn:["enumerate","zip","dict_itemiterator","dict_reverseitemiterator","odict_iterator","itertools.zip_longest","itertools.pairwise"].contains n=false) (hQ:Q () s):wpAny M A (letOwnedTupleGo tg (.ref it) u) Q E s:=by
 unfold letOwnedTupleGo
 cases tg <;> first
  |exact wu hQ
  | (cases u <;> first
    |exact wu hQ
    | (refine wc (wpAny_load ho ?_)
       rw[hc,hd]
       show wpAny M A (if(["enumerate","zip","dict_itemiterator","dict_reverseitemiterator","odict_iterator","itertools.zip_longest","itertools.pairwise"].contains n&&vs[0]? == some (rawInt _))=true then _ else _) Q E s
       rw[if_neg (by intro h;rw[hn,Ya]at h;cases h)]
       exact wu hQ))
def Itl (K:Fg) (a:Addr):It :=
 ⟨λi H=>∃xs x,SqL K H a xs/\xs[i]?=some x,λi H x H'=>H'=H/\∀xs,SqL K H a xs->xs[i]?=some x,λi H=>∃xs,SqL K H a xs/\xs.length<=i⟩
def Itt (K:Fg) (a:Addr):It :=
 ⟨λi H=>∃xs x,SqT K H a xs/\xs[i]?=some x,λi H x H'=>H'=H/\∀xs,SqT K H a xs->xs[i]?=some x,λi H=>∃xs,SqT K H a xs/\xs.length<=i⟩
def Itr (lo:Int) (n:Nat):It:=⟨λi _=>i<n,λi H x H'=>H'=H/\x=.int (lo+i),λi _=>n<=i⟩
def zef {P:Program}{w:World}{K:Fg}{tg:Expr}(a it:Addr):zdv P w K tg (Itl K a) [it] it (λi h=>h.IsListIter it a i) where
 mem:=by simp
 obj:=λi h st b hb=>by
  have e:b=it:=↥hb
  subst e
  obtain⟨o,e,c,d⟩:=st
  exact⟨o,e,λv z=>by rw[d]at z;cases z⟩
 keep:=λi h h' st k=>st.at λo e=>k it (by simp) o e
 item:=by
  intro X hP hw hK hc i pz s σ H E I hf st hg
  subst hP hw hK
  obtain⟨xs,x,hq,hx⟩:=hg
  obtain⟨its,rv,p,hz⟩:=I.list hq
  obtain⟨u,hu,ru⟩:=rv.get hx
  obtain⟨f0,f1,f2,f3,f4,f5⟩:=hf it (by simp)
  refine wpAny_pyNext_list_item st p.isList (x:=u) ↥hu λh' st' sb=>?_
  have I1:Inv X pz σ H { s with heap:=h' }:=I.turned (t':=s.toks) (λb o hb e=>(sb.2 b hb).trans e) f0 f1 f3 f4 f5
  obtain⟨o,e,c,d⟩:=id st'
  exact⟨u,rfl,zeN (s:={ s with heap:=h' }) e c d ⇑1 ⟨x,H,I1,ru,⟨rfl,λys hy=>by rw[I.list_inj hy hq];exact hx⟩,st',λb hb=>(hf b hb).1⟩⟩
 done:=by
  intro X hP hw hK hc i pz s σ H E I hf st hg
  subst hP hw hK
  obtain⟨xs,hq,hx⟩:=hg
  obtain⟨its,rv,p,hz⟩:=I.list hq
  obtain⟨f0,f1,f2,f3,f4,f5⟩:=hf it (by simp)
  have hl:=rv.length
  exact wpAny_pyNext_list_end (I.ok.hd hc) st p.isList (by simp;lia) λh' eb=>⟨rfl,I.turned (t':=s.toks) (λb o hb e=>eb b o hb e) f0 f1 f3 f4 f5⟩
 self:=λ_ _ _ _ _ st h=>wpAny_pyIter_listiter st h
def zce {P:Program}{w:World}{K:Fg}{tg:Expr}(a it:Addr):zdv P w K tg (Itt K a) [it] it (λi h=>h.IsTupleIter it a i) where
 mem:=by simp
 obj:=λi h st b hb=>by
  have e:b=it:=↥hb
  subst e
  obtain⟨o,e,c,d⟩:=st
  exact⟨o,e,λv z=>by rw[d]at z;cases z⟩
 keep:=λi h h' st k=>st.at λo e=>k it (by simp) o e
 item:=by
  intro X hP hw hK hc i pz s σ H E I hf st hg
  subst hP hw hK
  obtain⟨xs,x,hq,hx⟩:=hg
  obtain⟨its,rv,p,hz⟩:=I.tuple hq
  obtain⟨u,hu,ru⟩:=rv.get hx
  obtain⟨f0,f1,f2,f3,f4,f5⟩:=hf it (by simp)
  refine wpAny_pyNext_tuple_item st (show s.heap.IsTuple a its.toArray from p) (x:=u) ↥hu λh' st' sb=>?_
  have I1:Inv X pz σ H { s with heap:=h' }:=I.turned (t':=s.toks) (λb o hb e=>(sb.2 b hb).trans e) f0 f1 f3 f4 f5
  obtain⟨o,e,c,d⟩:=id st'
  exact⟨u,rfl,zeN (s:={ s with heap:=h' }) e c d ⇑1 ⟨x,H,I1,ru,⟨rfl,λys hy=>by rw[I.tuple_inj hy hq];exact hx⟩,st',λb hb=>(hf b hb).1⟩⟩
 done:=by
  intro X hP hw hK hc i pz s σ H E I hf st hg
  subst hP hw hK
  obtain⟨xs,hq,hx⟩:=hg
  obtain⟨its,rv,p,hz⟩:=I.tuple hq
  obtain⟨f0,f1,f2,f3,f4,f5⟩:=hf it (by simp)
  have hl:=rv.length
  exact wpAny_pyNext_tuple_end (I.ok.hd hc) st (show s.heap.IsTuple a its.toArray from p) (by simp;lia) λh' eb=>⟨rfl,I.turned (t':=s.toks) (λb o hb e=>eb b o hb e) f0 f1 f3 f4 f5⟩
 self:=λ_ _ _ _ _ st h=>wpAny_pyIter_tupleiter st h
def zcd {P:Program}{w:World}{K:Fg}{tg:Expr}(it:Addr) (lo:Int) (n:Nat):zdv P w K tg (Itr lo n) [it] it (λi h=>IsRangeIter h it (lo+(i:Nat)*1) ((n:Int)-(i:Nat)) 1) where
 mem:=by simp
 obj:=λi h st b hb=>by
  have e:b=it:=↥hb
  subst e
  exact⟨_,st,λv z=>by
   have z':Data.fields _=Data.cell v:=z
   cases z'⟩
 keep:=λi h h' st k=>k it (by simp) _ st
 item:=by
  intro X hP hw hK hc i pz s σ H E I hf st hg
  subst hP hw hK
  obtain⟨f0,f1,f2,f3,f4,f5⟩:=hf it (by simp)
  have W:=Walks.range (prog:=X.prog) (w:=X.w) (I.ok.hd hc) it lo 1 n
  refine W.item i s _ _ hg st λv h' tk hv st' kk=>?_
  obtain⟨t,rfl⟩:=hv
  have I1:Inv X pz σ H { s with heap:=h',toks:=tk }:=I.turned (λb o hb e=>kk b o ↥hb e) f0 f1 f3 f4 f5
  refine⟨00,zeN (s:={ s with heap:=h',toks:=tk }) (n:="range_iterator") st' rfl rfl ⇑1 ⟨.int (lo+i),H,I1,⟨t,?_⟩,⟨rfl,rfl⟩,st',λb hb=>(hf b hb).1⟩⟩
  rw[Int.mul_one]
 done:=by
  intro X hP hw hK hc i pz s σ H E I hf st hg
  subst hP hw hK
  obtain⟨f0,f1,f2,f3,f4,f5⟩:=hf it (by simp)
  exact wpAny_pyNext_range_end (I.ok.hd hc) st (by have:n<=i:=hg;lia) λh' eb=>⟨rfl,I.turned (t':=s.toks) (λb o hb e=>eb b o hb e) f0 f1 f3 f4 f5⟩
 self:=λ_ _ _ _ _ st h=>wpAny_pyIter_rangeiter st h
section
variable {X:Cx}{tg:Expr}
def zcx (K:Fg) (tl:TE):TI:=λσ H R=>tl σ H λx H1=>∃a,x=.ref a/\(∃xs,SqL K H1 a xs)/\R (Itl K a) H1
def zeR (K:Fg) (tl:TE):TI:=λσ H R=>tl σ H λx H1=>∃a,x=.ref a/\(∃xs,SqT K H1 a xs)/\R (Itt K a) H1
theorem xM {l:Expr}{tl:TE}(hl:PE X l tl):PI X tg l (zcx X.K tl):=by
 intro pz s σ H R I h
 refine thn (hl pz s σ H _ I h) λv s1 ⟨x,H1,I1,r1,q1⟩=>?_
 obtain⟨a,e,⟨xs,hq⟩,q⟩:=q1
 subst e
 cases r1
 obtain⟨its,rv,p,hz⟩:=I1.list hq
 refine WD p.isList ?_
 refine⟨s1.heap.objs.size,[s1.heap.objs.size],_,_,H1,rL,I1.kept (t':=s1.toks) λb o e=>wg _ e,zef a _,⟨_,wD _ rL,rL,rL⟩,λb hb=>?_,q⟩
 have e:b=s1.heap.objs.size:=↥hb
 subst e
 exact I1.fpOk (wq _) (I1.hok.fresh (wq _))
theorem Zq {l:Expr}{tl:TE}(hl:PE X l tl):PI X tg l (zeR X.K tl):=by
 intro pz s σ H R I h
 refine thn (hl pz s σ H _ I h) λv s1 ⟨x,H1,I1,r1,q1⟩=>?_
 obtain⟨a,e,⟨xs,hq⟩,q⟩:=q1
 subst e
 cases r1
 obtain⟨its,rv,p,hz⟩:=I1.tuple hq
 refine wpAny_pyIter_tuple (show s1.heap.IsTuple a its.toArray from p) ?_
 refine⟨s1.heap.objs.size,[s1.heap.objs.size],_,_,H1,rL,I1.kept (t':=s1.toks) λb o e=>wg _ e,zce a _,⟨_,wD _ rL,rL,rL⟩,λb hb=>?_,q⟩
 have e:b=s1.heap.objs.size:=↥hb
 subst e
 exact I1.fpOk (wq _) (I1.hok.fresh (wq _))
theorem zbd {pz:Ab}{σ:St}{H:Hp}{s:Shared}{R:It->Hp->Prop}{E:Af}{lo hi:Int}{t u v:Tok}{tk:Nat}(I:Inv X pz σ H s) (h1 : -(2^62)<=lo) (h2:lo<2^62) (h3 : -(2^62)<=hi) (h4:hi<2^62)
  (q:R (Itr lo (hi-lo).toNat) H):wpAny (model X.prog X.w) X.A (pyIter (.ref s.heap.objs.size)) (PIE X pz σ tg R) E { s with heap:=s.heap.push { cls:=.type "range",data:=.fields #[.int lo t,.int hi u,.int 1 v] },toks:=tk }:=by
 refine wpAny_pyIter_range (IsRange.new ..) (small_one h1 h2 h3 h4) ?_
 have I1:Inv X pz σ H { s with heap:=s.heap.push { cls:=.type "range",data:=.fields #[.int lo t,.int hi u,.int 1 v] },toks:=tk }:=I.kept λb o e=>wg _ e
 refine⟨(s.heap.push { cls:=.type "range",data:=.fields #[.int lo t,.int hi u,.int 1 v] }).objs.size,[(s.heap.push { cls:=.type "range",data:=.fields #[.int lo t,.int hi u,.int 1 v] }).objs.size],_,_,H,rL,
  I1.kept (t':=tk) λb o e=>wg _ e,zcd _ lo (hi-lo).toNat,?_,λb hb=>?_,q⟩
 ·have e1:lo+((0:Nat):Int)*1=lo:=by simp
  have e2:(((hi-lo).toNat:Nat):Int)-((0:Nat):Int)=Builtin.Range.rangeSize lo hi 1:=by rw[rangeSize_one];split <;> lia
  show IsRangeIter _ _ (lo+((0:Nat):Int)*1) ((((hi-lo).toNat:Nat):Int)-((0:Nat):Int)) 1
  rw[e1,e2]
  exact wD _ rL
 ·have e:b=(s.heap.push { cls:=.type "range",data:=.fields #[.int lo t,.int hi u,.int 1 v] }).objs.size:=↥hb
  subst e
  exact I1.fpOk (wq _) (I1.hok.fresh (wq _))
def zk6 (ta:TA):TI:=λσ H R=>ta σ H λvs H1=>∃j:Int,vs=[.int j] ∧ -(2^62)<=j/\j<2^62/\R (Itr 0 j.toNat) H1
def zk7 (ta:TA):TI:=λσ H R=>ta σ H λvs H1=>∃i j:Int,vs=[.int i,.int j]/\(-(2^62)<=i/\i<2^62 ∧ -(2^62)<=j/\j<2^62)/\R (Itr i (j-i).toNat) H1
theorem vi {a:Expr}{ta:TA}{p pos:Pos}(hg:Gl X "range") (hm:X.mg "range" = none) (ha:PA X [a] ta) (hs:starEach [a] X.env=[(false,eval a X.env)]:=by rfl):PI X tg (.Call (.Name "range" p) [a] [] pos) (zk6 ta):=by
 intro pz s σ H R I h
 refine Call_ (Z0 I hg hm boot_range (yP (thn (ha pos pz s σ H _ I h) λus s1 ⟨vs,H1,I1,r1,q1⟩=>?_) hs rL))
 obtain⟨j,e,q1,q2,q⟩:=q1
 subst e
 cases r1 with
 |cons r rr =>
  cases rr
  obtain⟨t,rfl⟩:=r
  exact call_range_1 (zbd I1 ∅ ∅ q1 q2 ↥q)
theorem zdY {a b:Expr}{ta:TA}{p pos:Pos}(hg:Gl X "range") (hm:X.mg "range" = none) (ha:PA X [a,b] ta) (hs:starEach [a,b] X.env=[(false,eval a X.env),(false,eval b X.env)]:=by rfl) (hs2:starEach [b] X.env=[(false,eval b X.env)]:=by rfl) :
  PI X tg (.Call (.Name "range" p) [a,b] [] pos) (zk7 ta):=by
 intro pz s σ H R I h
 refine Call_ (Z0 I hg hm boot_range (yP (thn (ha pos pz s σ H _ I h) λus s1 ⟨vs,H1,I1,r1,q1⟩=>?_) (by rw[hs,hs2]) (by rw[hs2];rfl)))
 obtain⟨i,j,e,⟨q1,q2,q3,q4⟩,q⟩:=q1
 subst e
 cases r1 with
 |cons r rr =>
  cases rr with
  |cons r' rr =>
   cases rr
   obtain⟨t,rfl⟩:=r
   obtain⟨t',rfl⟩:=r'
   exact call_range_2 (zbd I1 q1 q2 q3 q4 q)
def zh3 (wi:TI) (g:TG) (tb:TS):TS:=λD σ H=>wi σ H λJ H1=>∃W:Nat->Nat->St->Hp->Prop,(∃m,W 0 m σ H1)/\∀i m σ H,W i m σ H →
 (J.stop i H/\D.nx σ H)\/(J.go i H/\∃N:St->Hp->Prop,(∀σ' H',N σ' H'->∃m',m'<m/\W (i+1) m' σ' H')/\∀x H',J.yld i H x H'->g x σ H' λσ2 H2=>tb { D with nx:=N,ct:=N,bk:=D.nx } σ2 H2)
def Qy (fp:List Addr) (h:Heap):Ab:=fp.filterMap λb=>(h.get? b).map λo=>(b,o)
theorem vg {fp:List Addr}{h:Heap}{b:Addr}{o:Obj}(hb:b∈fp) (e:h.get? b=some o):(b,o)∈Qy fp h:=W4.mpr ⟨b,hb,by rw[e];rfl⟩
theorem zdV {fp:List Addr}{h:Heap}{p:Addr×Obj}(hp:p∈Qy fp h):p.1∈fp/\h.get? p.1=some p.2:=by
 obtain⟨b,hb,e⟩:=W4.mp hp
 cases q:h.get? b with
 |none=>rw[q]at e;cases e
 |some o =>
  rw[q]at e
  have e':(b,o)=p:=Option.some.inj e
  subst e'
  exact⟨hb,q⟩
theorem Inv.pinned {pz:Ab}{σ:St}{H:Hp}{s:Shared}{fp:List Addr}(I:Inv X pz σ H s) (hf:∀b∈fp,Vt X pz H b) (ho:∀b∈fp,∃o,s.heap.get? b=some o/\∀v,o.data≠.cell v):Inv X (pz++Qy fp s.heap) σ H s :=
 I.pins_of λp hp=>(wK.mp hp).elim (λz=>I.pin p (ww _ z)) λz=>by
  obtain⟨hb,e⟩:=zdV z
  obtain⟨f0,f1,f2,_⟩:=hf p.1 hb
  obtain⟨o,e',d⟩:=ho p.1 hb
  rw[e]at e';cases e'
  exact⟨e,f0,f1,f2,d⟩
theorem Inv.unpinned {pz pl:Ab}{σ:St}{H:Hp}{s:Shared}(I:Inv X (pz++pl) σ H s):Inv X pz σ H s:=I.pins_of λp hp=>I.pin p (ww _ (wL _ hp))
theorem qD {iter:Expr}{body:Ai}{wi:TI}{g:TG}{tb:TS}{pos:Pos}(hp:PassesOwn (model X.prog X.w) X.A X.env X.xe) (hc:X.calm=true) (hi:PI X tg iter wi) (hg:PG X tg g) (hb:PSs X body tb)
  (hs:∀x,foldedSetIterable iter X.env x=pure x:=by intro _;rfl):PS X (.For tg iter body [] pos) (zh3 wi g tb):=by
 intro pz s σ H D I h
 refine wpAny_For (thn (hi pz s σ H _ I h) λv s1 h1=>thn h1 λitv s2 h2=>?_) hs
 obtain⟨it,fp,tn,J,H2,e,I2,T,st2,f2,W,⟨m0,w0⟩,turn⟩:=h2
 subst e
 have stat:∀{H':Hp},(∀b∈fp,H' b=none)->∀b∈fp,Vt X pz H' b:=λhn b hb=>⟨hn b hb,(f2 b hb).2⟩
 refine codeAny_forLoop_any (λn s'=>∃i σ' H',Inv X pz σ' H' s'/\tn i s'.heap/\(∀b∈fp,H' b=none)/\W i n σ' H') ?_ m0 ⟨0,σ,H2,I2,st2,λb hb=>(f2 b hb).1,w0⟩
 rintro n s3 ⟨i,σ3,H3,I3,st3,fr3,w3⟩
 rcases turn i n σ3 H3 w3 with⟨stop,qn⟩ | ⟨go,N,hN,step⟩
 ·refine uB hp (thn (T.done X rL rL rL hc i pz s3 σ3 H3 X.xe I3 (stat fr3) st3 stop) λr s4 ⟨hr,I4⟩=>?_)
  subst hr
  exact Wt ⟨σ3,H3,I4,qn⟩
 ·refine uB hp (thn (T.item X rL rL rL hc i pz s3 σ3 H3 X.xe I3 (stat fr3) st3 go) λr s4 ⟨u,hr,h4⟩=>?_)
  subst hr
  refine uB hp (thn h4 λ_ s5 ⟨x,H5,I5,r5,y5,st5,fr5⟩=>?_)
  have I5':=I5.pinned (stat fr5) (T.obj _ _ st5)
  refine uB hp (thn (hg _ s5 σ3 H5 x u _ I5' r5 (step x H5 y5)) λ_ s6 ⟨σ6,H6,I6,q6⟩=>?_)
  refine uB hp (thn (hb _ s6 σ6 H6 _ I6 q6) λf s7 q7=>?_)
  have again:∀{σ7:St}{H7:Hp},Inv X (pz++Qy fp s5.heap) σ7 H7 s7->N σ7 H7->∃m,m<n/\∃i σ' H',Inv X pz σ' H' s7/\tn i s7.heap/\(∀b∈fp,H' b=none)/\W i m σ' H':=λ{σ7 H7} I7 n7=>by
   obtain⟨m',hm,w7⟩:=hN σ7 H7 n7
   refine⟨m',hm,i+1,σ7,H7,I7.unpinned,T.keep _ _ _ st5 λb hb o e=>(I7.pin (b,o) (ww _ (ww _ (vg hb e)))).1,λb hb=>?_,w7⟩
   obtain⟨o,e,d⟩:=T.obj _ _ st5 b hb
   exact(I7.pin (b,o) (ww _ (ww _ (vg hb e)))).2.1
  cases f with
  |next=>obtain⟨σ7,H7,I7,n7⟩:=q7;exact again I7 n7
  |cont=>obtain⟨σ7,H7,I7,n7⟩:=q7;exact again I7 n7
  |brk=>obtain⟨σ7,H7,I7,q7⟩:=q7;exact⟨σ7,H7,I7.unpinned,q7⟩
  |ret v=>obtain⟨x7,σ7,H7,I7,r7,q7⟩:=q7;exact⟨x7,σ7,H7,I7.unpinned,r7,q7⟩
end
def Zg {K:Fg}{a:Addr}{xs:Ba}{g:TG}{tb:TS}{D:vq}{σ:St}{H:Hp}(Pv:Nat->St->Hp->Prop) (h0:Pv 0 σ H) (hl:∀i σ H,i<=xs.length->Pv i σ H->SqL K H a xs)
  (hs:∀i x σ H,xs[i]?=some x->Pv i σ H->g x σ H λσ2 H2=>tb { D with nx:=Pv (i+1),ct:=Pv (i+1),bk:=D.nx } σ2 H2) (hd:∀σ H,Pv xs.length σ H->D.nx σ H) :
  ∃W:Nat->Nat->St->Hp->Prop,(∃m,W 0 m σ H)/\∀i m σ H,W i m σ H →
   ((Itl K a).stop i H/\D.nx σ H)\/((Itl K a).go i H/\∃N:St->Hp->Prop,(∀σ' H',N σ' H'->∃m',m'<m/\W (i+1) m' σ' H')/\∀x H',(Itl K a).yld i H x H'->g x σ H' λσ2 H2=>tb { D with nx:=N,ct:=N,bk:=D.nx } σ2 H2):=by
 refine⟨λi m σ H=>m=xs.length-i/\i<=xs.length/\Pv i σ H,⟨xs.length,by simp,yo _,h0⟩,?_⟩
 rintro i m σ H ⟨rfl,hi,p⟩
 have q:=hl i σ H hi p
 by_cases hlt:i<xs.length
 ·refine .inr ⟨⟨xs,xs[i],q,by simp[hlt]⟩,Pv (i+1),λσ' H' p'=>⟨xs.length-(i+1),by lia,rfl,hlt,p'⟩,λx H' y=>?_⟩
  obtain⟨e,y⟩:=y
  subst e
  exact hs i x σ _ (y xs q) p
 ·have e:i=xs.length:=by lia
  subst e
  exact .inl ⟨⟨xs,q,wq _⟩,hd σ H p⟩
def zgI {K:Fg}{a:Addr}{xs:Ba}{g:TG}{tb:TS}{D:vq}{σ:St}{H:Hp}(Pv:Nat->St->Hp->Prop) (h0:Pv 0 σ H) (hl:∀i σ H,i<=xs.length->Pv i σ H->SqT K H a xs)
  (hs:∀i x σ H,xs[i]?=some x->Pv i σ H->g x σ H λσ2 H2=>tb { D with nx:=Pv (i+1),ct:=Pv (i+1),bk:=D.nx } σ2 H2) (hd:∀σ H,Pv xs.length σ H->D.nx σ H) :
  ∃W:Nat->Nat->St->Hp->Prop,(∃m,W 0 m σ H)/\∀i m σ H,W i m σ H →
   ((Itt K a).stop i H/\D.nx σ H)\/((Itt K a).go i H/\∃N:St->Hp->Prop,(∀σ' H',N σ' H'->∃m',m'<m/\W (i+1) m' σ' H')/\∀x H',(Itt K a).yld i H x H'->g x σ H' λσ2 H2=>tb { D with nx:=N,ct:=N,bk:=D.nx } σ2 H2):=by
 refine⟨λi m σ H=>m=xs.length-i/\i<=xs.length/\Pv i σ H,⟨xs.length,by simp,yo _,h0⟩,?_⟩
 rintro i m σ H ⟨rfl,hi,p⟩
 have q:=hl i σ H hi p
 by_cases hlt:i<xs.length
 ·refine .inr ⟨⟨xs,xs[i],q,by simp[hlt]⟩,Pv (i+1),λσ' H' p'=>⟨xs.length-(i+1),by lia,rfl,hlt,p'⟩,λx H' y=>?_⟩
  obtain⟨e,y⟩:=y
  subst e
  exact hs i x σ _ (y xs q) p
 ·have e:i=xs.length:=by lia
  subst e
  exact .inl ⟨⟨xs,q,wq _⟩,hd σ H p⟩
def vd {lo:Int}{n:Nat}{g:TG}{tb:TS}{D:vq}{σ:St}{H:Hp}(Pv:Nat->St->Hp->Prop) (h0:Pv 0 σ H)
  (hs:∀i σ H,i<n->Pv i σ H->g (.int (lo+i)) σ H λσ2 H2=>tb { D with nx:=Pv (i+1),ct:=Pv (i+1),bk:=D.nx } σ2 H2) (hd:∀σ H,Pv n σ H->D.nx σ H) :
  ∃W:Nat->Nat->St->Hp->Prop,(∃m,W 0 m σ H)/\∀i m σ H,W i m σ H →
   ((Itr lo n).stop i H/\D.nx σ H)\/((Itr lo n).go i H/\∃N:St->Hp->Prop,(∀σ' H',N σ' H'->∃m',m'<m/\W (i+1) m' σ' H')/\∀x H',(Itr lo n).yld i H x H'->g x σ H' λσ2 H2=>tb { D with nx:=N,ct:=N,bk:=D.nx } σ2 H2):=by
 refine⟨λi m σ H=>m=n-i/\i<=n/\Pv i σ H,⟨n,by simp,yo _,h0⟩,?_⟩
 rintro i m σ H ⟨rfl,hi,p⟩
 by_cases hlt:i<n
 ·refine .inr ⟨hlt,Pv (i+1),λσ' H' p'=>⟨n-(i+1),by lia,rfl,hlt,p'⟩,λx H' y=>?_⟩
  obtain⟨e,y⟩:=y
  subst e y
  exact hs i σ _ hlt p
 ·have e:i=n:=by lia
  subst e
  exact .inl ⟨wq _,hd σ H p⟩
def zby {c:TT}{tb:TS}{D:vq}{σ:St}{H:Hp}(Pv:St->Hp->Prop) (μ:St->Hp->Nat) (h0:Pv σ H)
  (hs:∀σ H,Pv σ H->c σ H λb H1=>if b=true then tb { D with nx:=λσ' H'=>Pv σ' H'/\μ σ' H'<μ σ H,ct:=λσ' H'=>Pv σ' H'/\μ σ' H'<μ σ H,bk:=D.nx } σ H1 else D.nx σ H1)
  (mono:∀σ H Q Q',(∀b H1,Q b H1->Q' b H1)->c σ H Q->c σ H Q'):zax c tb D σ H:=by
 refine⟨λm σ H=>m=μ σ H/\Pv σ H,⟨00,h0⟩,?_⟩
 rintro m σ H ⟨rfl,p⟩
 refine mono σ H _ _ (λb H1 q=>?_) (hs σ H p)
 cases b with
 |true=>exact⟨_,λσ' H' ⟨p',l⟩=>⟨_,l,rfl,p'⟩,q⟩
 |false=>exact q
abbrev R2:=V->V->Hp->VK->Prop
def OpR (X:Cx) (f:Value->Value->Sem Value) (r:R2):Prop :=
 ∀(pz:Ab) (s:Shared) (σ:St) (H:Hp) (x y:V) (v u:Value) (Q:VK),Inv X pz σ H s->xz x v->xz y u->r x y H Q →
  wpAny (model X.prog X.w) X.A (f v u) (EP X pz σ Q) X.xe s
def UnR (X:Cx) (f:Value->Sem Value) (r:V->Hp->VK->Prop):Prop :=
 ∀(pz:Ab) (s:Shared) (σ:St) (H:Hp) (x:V) (v:Value) (Q:VK),Inv X pz σ H s->xz x v->r x H Q →
  wpAny (model X.prog X.w) X.A (f v) (EP X pz σ Q) X.xe s
def ZJ (X:Cx) (f:Value) (r:Ba->Hp->VK->Prop):Prop :=
 ∀(pz:Ab) (s:Shared) (σ:St) (H:Hp) (xs:Ba) (us:Ac) (Q:VK),Inv X pz σ H s->xh xs us->r xs H Q →
  wpAny (model X.prog X.w) X.A (call f us) (EP X pz σ Q) X.xe s
def TruR (X:Cx) (r:V->Hp->(Bool->Hp->Prop)->Prop):Prop :=
 ∀(pz:Ab) (s:Shared) (σ:St) (H:Hp) (x:V) (v:Value) (Q:Bool->Hp->Prop),Inv X pz σ H s->xz x v->r x H Q →
  wpAny (model X.prog X.w) X.A (truthy v) (TP X pz σ Q) X.xe s
def tOp (r:R2) (ta tb:TE):TE:=λσ H Q=>ta σ H λx H1=>tb σ H1 λy H2=>r x y H2 Q
def tUn (r:V->Hp->VK->Prop) (ta:TE):TE:=λσ H Q=>ta σ H λx H1=>r x H1 Q
inductive rIQ (C:Int->Int->Prop) (g:Int->Int->V) (x:V) (y:V) (H:Hp) (Q:VK):Prop
 |mk:∀i j,(x=.int i)->(y=.int j)->(C i j)->(Q (g i j) H)->rIQ C g x y H Q
def rI (C:Int->Int->Prop) (g:Int->Int->V):R2:=λx y H Q=>rIQ C g x y H Q
inductive zlV (g:Int->Int->V) (x:V) (y:V) (H:Hp) (Q:VK):Prop
 |mk:∀i j,(x=.int i)->(y=.int j)->(Q (g i j) H)->zlV g x y H Q
def rI0 (g:Int->Int->V):R2:=λx y H Q=>zlV g x y H Q
def rU (g:Int->V):V->Hp->VK->Prop:=λx H Q=>∃i,x=.int i/\Q (g i) H
section
variable {X:Cx}{a b c:Expr}{ta tb tc:TE}{pos:Pos}
theorem zi1 (ha:PE X a ta) (hb:PE X b tb){pz:Ab}{s:Shared}{σ:St}{H:Hp}{R:V->V->Hp->Prop}(I:Inv X pz σ H s)
  (h:ta σ H λx H1=>tb σ H1 λy H2=>R x y H2){Q:Af}{f:Value->Value->Sem Value}
  (hf:∀v u s2 x y H2,Inv X pz σ H2 s2->xz x v->xz y u->R x y H2->wpAny (model X.prog X.w) X.A (f v u) Q X.xe s2) :
  wpAny (model X.prog X.w) X.A (eval a X.env) (λv s₁=>wpAny (model X.prog X.w) X.A (eval b X.env) (λu s₂=>wpAny (model X.prog X.w) X.A (f v u) Q X.xe s₂) X.xe s₁) X.xe s:=by
 refine thn (ha pz s σ H _ I h) λv s1 ⟨x,H1,I1,r1,q1⟩=>?_
 refine thn (hb pz s1 σ H1 _ I1 q1) λu s2 ⟨y,H2,I2,r2,q2⟩=>?_
 exact hf v u s2 x y H2 I2 r1 r2 q2
theorem zD {op:Operator}{r:R2}(ho:OpR X (binaryOp op) r) (ha:PE X a ta) (hb:PE X b tb):PE X (.BinOp a op b pos) (tOp r ta tb):=by
 intro pz s σ H Q I h
 exact wpAny_BinOp (zi1 ha hb I h λv u s2 x y H2 I2 rx ry q=>ho pz s2 σ H2 x y v u Q I2 rx ry q)
theorem Qc {op:UnaryOp}{r:V->Hp->VK->Prop}(ho:UnR X (unaryOp op) r) (ha:PE X a ta):PE X (.UnaryOp op a pos) (tUn r ta):=by
 intro pz s σ H Q I h
 exact UnaryOp_ (thn (ha pz s σ H _ I h) λv s1 ⟨x,H1,I1,r1,q1⟩=>ho pz s1 σ H1 x v Q I1 r1 q1)
theorem opI {f:Value->Value->Sem Value}{C:Int->Int->Prop}{g:Int->Int->Int}
  (rule:∀(i j:Int) (t u:Tok) (s:Shared) (Q:Af) (E:Af),C i j->Q (.int (g i j) s.toks) { s with toks:=s.toks+1 }->wpAny (model X.prog X.w) X.A (f (.int i t) (.int j u)) Q E s) :
  OpR X f (rI C λi j=>.int (g i j)):=by
 intro pz s σ H x y v u Q I rx ry h
 obtain⟨i,j,rfl,rfl,hc,q⟩:=h
 obtain⟨t,rfl⟩:=rx
 obtain⟨t',rfl⟩:=ry
 exact rule i j t t' s _ _ hc ⟨.int (g i j),H,I.tok _,⟨_,rL⟩,q⟩
theorem zlR {f:Value->Value->Sem Value}{g:Int->Int->Int}
  (rule:∀(i j:Int) (t u:Tok) (s:Shared) (Q:Af) (E:Af),Q (.int (g i j) s.toks) { s with toks:=s.toks+1 }->wpAny (model X.prog X.w) X.A (f (.int i t) (.int j u)) Q E s) :
  OpR X f (rI0 λi j=>.int (g i j)):=by
 intro pz s σ H x y v u Q I rx ry h
 obtain⟨i,j,rfl,rfl,q⟩:=h
 obtain⟨t,rfl⟩:=rx
 obtain⟨t',rfl⟩:=ry
 exact rule i j t t' s _ _ ⟨.int (g i j),H,I.tok _,⟨_,rL⟩,q⟩
theorem zjL {f:Value->Value->Sem Value}{g:Int->Int->Bool}
  (rule:∀(i j:Int) (t u:Tok) (s:Shared) (Q:Af) (E:Af),Q (.bool (g i j)) s->wpAny (model X.prog X.w) X.A (f (.int i t) (.int j u)) Q E s) :
  OpR X f (rI0 λi j=>.bl (g i j)):=by
 intro pz s σ H x y v u Q I rx ry h
 obtain⟨i,j,rfl,rfl,q⟩:=h
 obtain⟨t,rfl⟩:=rx
 obtain⟨t',rfl⟩:=ry
 exact rule i j t t' s _ _ ⟨.bl (g i j),H,I,rL,q⟩
def CDiv (i j:Int):Prop:=0<j/\j<1073741824
def CPow (i j:Int):Prop:=0<=j/\j<=1000000/\i.natAbs<2^64
def ziT (i j:Int):Prop:=(-(2^64)<i/\i<2^64)\/(-(2^64)<j/\j<2^64)
theorem ziT.ok {i j:Int}(h:ziT i j):IntMulOk i j:=by
 rcases h with⟨h1,h2⟩ | ⟨h1,h2⟩
 ·exact .of_left (intBits_le_64 h1 h2)
 ·exact .of_right (intBits_le_64 h1 h2)
theorem xc:OpR X (binaryOp .Add) (rI0 λi j=>.int (i+j)):=zlR λ_ _ _ _ _ _ _ q=>add_int q
theorem xS:OpR X (binaryOp .Sub) (rI0 λi j=>.int (i-j)):=zlR λ_ _ _ _ _ _ _ q=>sub_int q
theorem zbY:OpR X (binaryOp .Mult) (rI ziT λi j=>.int (i*j)):=opI λ_ _ _ _ _ _ _ hc q=>mul_int q hc.ok
theorem zcN:OpR X (binaryOp .FloorDiv) (rI CDiv λi j=>.int (i/j)):=opI λi j _ _ _ _ _ hc q=>by
 have h1:(0:Int)<j:=hc.1
 have h2:j<1073741824:=hc.2
 exact floordiv_int (by omega) (by rw[yp i (by omega)];exact q) (.inl (PyProof.noPylong_small (by omega)))
theorem Zn:OpR X (binaryOp .Mod) (rI (λ_ j=>0<j) λi j=>.int (i % j)):=opI λi j _ _ _ _ _ hc q=>by
 exact mod_int' ∅ (by rw[Int.fmod_eq_emod_of_nonneg i ∅];exact q)
theorem vO:OpR X (binaryOp .Pow) (rI CPow λi j=>.int (i^j.toNat)):=opI λ_ _ _ _ _ _ _ hc q=>pow_int_small hc.1 hc.2.1 hc.2.2 q
theorem unI {f:Value->Sem Value}{g:Int->Int}
  (rule:∀(i:Int) (t:Tok) (s:Shared) (Q:Af) (E:Af),Q (.int (g i) s.toks) { s with toks:=s.toks+1 }->wpAny (model X.prog X.w) X.A (f (.int i t)) Q E s) :
  UnR X f (rU λi=>.int (g i)):=by
 intro pz s σ H x v Q I rx h
 obtain⟨i,rfl,q⟩:=h
 obtain⟨t,rfl⟩:=rx
 exact rule i t s _ _ ⟨.int (g i),H,I.tok _,⟨_,rL⟩,q⟩
theorem ZH:UnR X (unaryOp .USub) (rU λi=>.int (-i)):=unI λ_ _ _ _ _ q=>neg_int q
end
def zmd:V->V->Bool
 |.non,.non=>true | .non,.int _=>true | .int _,.non=>true | .non,.bl _=>true | .bl _,.non=>true | .non,.str _=>true | .str _,.non=>true
 |.int _,.int _=>true | .bl _,.bl _=>true | .str _,.str _=>true | .byt _,.byt _=>true
 |.int _,.str _=>true | .str _,.int _=>true | .bl _,.str _=>true | .str _,.bl _=>true
 |_,_=>false
def rEq:R2:=λx y H Q=>zmd x y=true/\Q (.bl (decide (x=y))) H
def rNe:R2:=λx y H Q=>zmd x y=true/\Q (.bl (!decide (x=y))) H
def zcq {i j:Int}:decide (V.int i=V.int j)=(i == j):=by
 rw[yH]
 simp
def zeD {i j:Bool}:decide (V.bl i=V.bl j)=(i == j):=by
 rw[yH]
 simp
def zcr {i j:Str}:decide (V.str i=V.str j)=(i == j):=by
 rw[yH]
 simp
def zcp {i j:Array UInt8}:decide (V.byt i=V.byt j)=(i.toList == j.toList):=by
 rw[yH]
 cases i
 cases j
 simp
section
variable {X:Cx}{a b c:Expr}{ta tb tc:TE}{pos:Pos}
theorem xA {pz:Ab}{σ:St}{H:Hp}{s:Shared}{Q:VK}{k k':Bool}(I:Inv X pz σ H s) (q:Q (.bl k) H) (e:k=k'):EP X pz σ Q (.bool k') s:=by
 subst e
 exact⟨.bl k,H,I,rL,q⟩
theorem qh:OpR X (compareOp .Eq) rEq:=by
 intro pz s σ H x y v u Q I rx ry h
 obtain⟨hs,q⟩:=h
 cases x with
 |non =>
  cases rx
  cases y with
  |non=>cases ry;exact PySem.EqNone.eq_none_none (xA I q (by simp))
  |bl j=>cases ry;exact PySem.EqNone.eq_none_bool (xA I q (by simp))
  |int j=>obtain⟨t',rfl⟩:=ry;exact PySem.EqNone.eq_none_int (xA I q (by simp))
  |str j=>obtain⟨t',rfl⟩:=ry;exact PySem.EqNone.eq_none_str (xA I q (by simp))
  |_=>exact absurd (show false=true from hs) wN
 |bl i =>
  cases rx
  cases y with
  |non=>cases ry;exact PySem.EqNone.eq_bool_none (xA I q (by simp))
  |bl j=>cases ry;exact eq_bool (xA I q zeD)
  |str j=>obtain⟨t',rfl⟩:=ry;exact PySem.EqMixed.eq_bool_str (xA I q (by simp))
  |_=>exact absurd (show false=true from hs) wN
 |int i =>
  obtain⟨t,rfl⟩:=rx
  cases y with
  |non=>cases ry;exact PySem.EqNone.eq_int_none (xA I q (by simp))
  |int j=>obtain⟨t',rfl⟩:=ry;exact eq_int (xA I q zcq)
  |str j=>obtain⟨t',rfl⟩:=ry;exact PySem.EqMixed.eq_int_str (xA I q (by simp))
  |_=>exact absurd (show false=true from hs) wN
 |str i =>
  obtain⟨t,rfl⟩:=rx
  cases y with
  |non=>cases ry;exact PySem.EqNone.eq_str_none (xA I q (by simp))
  |bl j=>cases ry;exact PySem.EqMixed.eq_str_bool (xA I q (by simp))
  |int j=>obtain⟨t',rfl⟩:=ry;exact PySem.EqMixed.eq_str_int (xA I q (by simp))
  |str j=>obtain⟨t',rfl⟩:=ry;exact eq_str (xA I q zcr)
  |_=>exact absurd (show false=true from hs) wN
 |byt i =>
  obtain⟨t,rfl⟩:=rx
  cases y with
  |byt j=>obtain⟨t',rfl⟩:=ry;exact PySem.W.eq_bytes (xA I q zcp)
  |_=>exact absurd (show false=true from hs) wN
 |_=>cases y <;> exact absurd (show false=true from hs) wN
theorem zcP:OpR X (compareOp .NotEq) rNe:=by
 intro pz s σ H x y v u Q I rx ry h
 obtain⟨hs,q⟩:=h
 cases x with
 |non =>
  cases rx
  cases y with
  |non=>cases ry;exact PySem.EqNone.ne_none_none (xA I q (by simp))
  |bl j=>cases ry;exact PySem.EqNone.ne_none_bool (xA I q (by simp))
  |int j=>obtain⟨t',rfl⟩:=ry;exact PySem.EqNone.ne_none_int (xA I q (by simp))
  |str j=>obtain⟨t',rfl⟩:=ry;exact PySem.EqNone.ne_none_str (xA I q (by simp))
  |_=>exact absurd (show false=true from hs) wN
 |bl i =>
  cases rx
  cases y with
  |non=>cases ry;exact PySem.EqNone.ne_bool_none (xA I q (by simp))
  |bl j=>cases ry;exact ne_bool (xA I q (congrArg not zeD))
  |str j=>obtain⟨t',rfl⟩:=ry;exact PySem.EqMixed.ne_bool_str (xA I q (by simp))
  |_=>exact absurd (show false=true from hs) wN
 |int i =>
  obtain⟨t,rfl⟩:=rx
  cases y with
  |non=>cases ry;exact PySem.EqNone.ne_int_none (xA I q (by simp))
  |int j=>obtain⟨t',rfl⟩:=ry;exact ne_int (xA I q (congrArg not zcq))
  |str j=>obtain⟨t',rfl⟩:=ry;exact PySem.EqMixed.ne_int_str (xA I q (by simp))
  |_=>exact absurd (show false=true from hs) wN
 |str i =>
  obtain⟨t,rfl⟩:=rx
  cases y with
  |non=>cases ry;exact PySem.EqNone.ne_str_none (xA I q (by simp))
  |bl j=>cases ry;exact PySem.EqMixed.ne_str_bool (xA I q (by simp))
  |int j=>obtain⟨t',rfl⟩:=ry;exact PySem.EqMixed.ne_str_int (xA I q (by simp))
  |str j=>obtain⟨t',rfl⟩:=ry;exact ne_str (xA I q (congrArg not zcr))
  |_=>exact absurd (show false=true from hs) wN
 |byt i =>
  obtain⟨t,rfl⟩:=rx
  cases y with
  |byt j=>obtain⟨t',rfl⟩:=ry;exact PySem.W.ne_bytes (xA I q (congrArg not zcp))
  |_=>exact absurd (show false=true from hs) wN
 |_=>cases y <;> exact absurd (show false=true from hs) wN
theorem Z6:OpR X (compareOp .Lt) (rI0 λi j=>.bl (decide (i<j))):=zjL λ_ _ _ _ _ _ _ q=>lt_int q
theorem zcO:OpR X (compareOp .LtE) (rI0 λi j=>.bl (decide (i<=j))):=zjL λ_ _ _ _ _ _ _ q=>le_int q
theorem Vc:OpR X (compareOp .Gt) (rI0 λi j=>.bl (decide (j<i))):=zjL λ_ _ _ _ _ _ _ q=>gt_int q
theorem qy:OpR X (compareOp .Is) (λx y H Q=>y=.non/\Q (.bl (decide (x=.non))) H):=by
 intro pz s σ H x y v u Q I rx ry h
 obtain⟨rfl,q⟩:=h
 cases ry
 refine is_none_gen (xA I q ?_)
 cases x <;> first
  | (cases rx;rfl)
  | (obtain⟨t,rfl⟩:=rx;rfl)
theorem xQ:OpR X (compareOp .IsNot) (λx y H Q=>y=.non/\Q (.bl (!decide (x=.non))) H):=by
 intro pz s σ H x y v u Q I rx ry h
 obtain⟨rfl,q⟩:=h
 cases ry
 refine isnot_none_gen (xA I q ?_)
 cases x <;> first
  | (cases rx;rfl)
  | (obtain⟨t,rfl⟩:=rx;rfl)
theorem zJ (b:Expr){op:CmpOp}(h:op≠.In:=by decide) (h2:op≠.NotIn:=by decide):behindInMarks op b=false:=by
 have e1:(op == CmpOp.In)=false:=by cases op <;> first | rfl | exact absurd rfl h
 have e2:(op == CmpOp.NotIn)=false:=by cases op <;> first | rfl | exact absurd rfl h2
 cases b <;> simp[behindInMarks,e1,e2]
theorem xW {op:CmpOp}{r:R2}(ho:OpR X (compareOp op) r) (ha:PE X a ta) (hb:PE X b tb) (hm:behindInMarks op b=false):PE X (.Compare a [op] [b] pos) (tOp r ta tb):=by
 intro pz s σ H Q I h
 exact wpAny_Compare1 (zi1 ha hb I h λv u s2 x y H2 I2 rx ry q=>ho pz s2 σ H2 x y v u Q I2 rx ry q) hm
def zbq (t:TE):TT:=λσ H Q=>t σ H λx H'=>∃k,x=.bl k/\Q k H'
theorem zI {op:CmpOp}{r:R2}(ho:OpR X (compareOp op) r) (ha:PE X a ta) (hb:PE X b tb) (hm:behindInMarks op b=false):PT X (.Compare a [op] [b] pos) (zbq (tOp r ta tb)):=by
 intro pz s σ H Q I h
 refine wpAny_isTrue_Compare1 (thn (ha pz s σ H _ I h) λv s1 ⟨x,H1,I1,r1,q1⟩=>thn (hb pz s1 σ H1 _ I1 q1) λu s2 ⟨y,H2,I2,r2,q2⟩ =>
  thn (ho pz s2 σ H2 x y v u _ I2 r1 r2 q2) λc s3 ⟨z,H3,I3,r3,k,e,q3⟩=>?_) hm
 subst e
 cases r3
 exact yX ⟨H3,I3,q3⟩
def zf6 (r r':R2) (ta tb tc:TE):TE:=λσ H Q=>ta σ H λx H1=>tb σ H1 λy H2=>r x y H2 λz H3=>∃k,z=.bl k ∧
 (if k=true then tc σ H3 λw' H4=>r' y w' H4 Q else Q (.bl false) H3)
theorem zfh {op op':CmpOp}{r r':R2}(ho:OpR X (compareOp op) r) (ho':OpR X (compareOp op') r') (ha:PE X a ta) (hb:PE X b tb) (hc:PE X c tc)
  (hm:lastMarks [op,op'] [b,c]=false:=by with_unfolding_all rfl):PE X (.Compare a [op,op'] [b,c] pos) (zf6 r r' ta tb tc):=by
 intro pz s σ H Q I h
 refine Compare_chain (thn (ha pz s σ H _ I h) λv s1 ⟨x,H1,I1,r1,q1⟩=>chain_link (thn (hb pz s1 σ H1 _ I1 q1) λu s2 ⟨y,H2,I2,r2,q2⟩ =>
  thn (ho pz s2 σ H2 x y v u _ I2 r1 r2 q2) λd s3 ⟨z,H3,I3,r3,k,e,q3⟩=>?_)) hm
 subst e
 cases r3
 refine yX ?_
 cases k with
 |false=>exact ite_ff ⟨.bl false,H3,I3,rfl,q3⟩
 |true=>exact ite_tt (chain_last (thn (hc pz s3 σ H3 _ I3 q3) λw' s4 ⟨z',H4,I4,r4,q4⟩=>ho' pz s4 σ H4 y z' u w' Q I4 r2 r4 q4))
theorem zfo {op op':CmpOp}{r r':R2}(ho:OpR X (compareOp op) r) (ho':OpR X (compareOp op') r') (ha:PE X a ta) (hb:PE X b tb) (hc:PE X c tc)
  (hm:lastMarks [op,op'] [b,c]=false:=by with_unfolding_all rfl):PT X (.Compare a [op,op'] [b,c] pos) (zbq (zf6 r r' ta tb tc)):=by
 intro pz s σ H Q I h
 refine isTrue_chain (thn (ha pz s σ H _ I h) λv s1 ⟨x,H1,I1,r1,q1⟩=>test_link (thn (hb pz s1 σ H1 _ I1 q1) λu s2 ⟨y,H2,I2,r2,q2⟩ =>
  thn (ho pz s2 σ H2 x y v u _ I2 r1 r2 q2) λd s3 ⟨z,H3,I3,r3,k,e,q3⟩=>?_)) hm
 subst e
 cases r3
 refine yX ?_
 cases k with
 |false =>
  obtain⟨k',e',q'⟩:=q3
  cases e'
  exact ite_ff ⟨H3,I3,q'⟩
 |true =>
  refine ite_tt (test_last (thn (hc pz s3 σ H3 _ I3 q3) λw' s4 ⟨z',H4,I4,r4,q4⟩=>thn (ho' pz s4 σ H4 y z' u w' _ I4 r2 r4 q4) λd' s5 ⟨z2,H5,I5,r5,k2,e2,q5⟩=>?_))
  subst e2
  cases r5
  exact yX ⟨H5,I5,q5⟩
def zkR (K:Fg) (x:V) (H:Hp) (k:Bool):Prop :=
 match x with
 |.non=>k=false
 |.bl b=>k=b
 |.int i=>k=(i != 0)
 |.str y=>y.length<=sizeLine/\k=((y.length:Int) != 0)
 |.byt y=>y.size<=sizeLine/\k=((y.size:Int) != 0)
 |.ref p=>(∃xs,SqL K H p xs/\k = !xs.isEmpty)\/(∃xs,SqT K H p xs/\k = !xs.isEmpty)\/∃kvs,H p=some (.dK kvs)/\k = !kvs.isEmpty
 |_=>False
theorem zbO {κ:Type}{kvs:List (κ×V)}{vs:List (κ×Value)} (r:KV kvs vs):(!vs.isEmpty) = !kvs.isEmpty:=by
 cases r <;> rfl
theorem VG {xs:Ba}{its:Ac}(r:xh xs its):(!its.toArray.isEmpty) = !xs.isEmpty:=by
 cases r <;> simp
theorem zaa:(sizeLine:Nat)<2^63:=by rw[sizeLine_eq];decide
theorem zkH:TruR X (λx H Q=>∃k,zkR X.K x H k/\Q k H):=by
 intro pz s σ H x v Q I rx h
 obtain⟨k,e,q⟩:=h
 have hs:sizeLine=16777216:=sizeLine_eq
 cases x with
 |non =>
  cases rx
  have e':k=false:=e
  subst e'
  exact truthy_none ⟨H,I,q⟩
 |bl b =>
  cases rx
  have e':k=b:=e
  subst e'
  exact yX ⟨H,I,q⟩
 |int i =>
  obtain⟨t,rfl⟩:=rx
  have e':k=(i != 0):=e
  subst e'
  exact PySem.P.truthy_int ⟨H,I,q⟩
 |str y =>
  obtain⟨t,rfl⟩:=rx
  obtain⟨hy,e'⟩:y.length<=sizeLine/\k=((y.length:Int) != 0):=e
  subst e'
  exact PySem.P.truthy_str ∅ ⟨H,I.tok _,q⟩
 |byt y =>
  obtain⟨t,rfl⟩:=rx
  obtain⟨hy,e'⟩:y.size<=sizeLine/\k=((y.size:Int) != 0):=e
  subst e'
  exact PySem.W.truthy_bytes ∅ ⟨H,I.tok _,q⟩
 |ref p =>
  cases rx
  have e':(∃xs,SqL X.K H p xs/\k = !xs.isEmpty)\/(∃xs,SqT X.K H p xs/\k = !xs.isEmpty)\/∃kvs,H p=some (.dK kvs)/\k = !kvs.isEmpty:=e
  rcases e' with⟨xs,hx,e'⟩ | ⟨xs,hx,e'⟩ | ⟨kvs,hx,e'⟩
  ·subst e'
   obtain⟨its,r,pl,hz⟩:=I.list hx
   have hlen:=r.length
   exact wpAny_truthy_list pl.isList (by simp only[wz];lia) ⟨H,I.tok _,by rw[VG r];exact q⟩
  ·subst e'
   obtain⟨its,r,pl,hz⟩:=I.tuple hx
   have hlen:=r.length
   exact truthy_tuple pl (by simp only[wz];lia) ⟨H,I.tok _,by rw[VG r];exact q⟩
  ·subst e'
   obtain⟨hz,hS,vs,r,m⟩:kvs.length<=sizeLine/\(p == sysModules)=false/\∃vs,KV kvs vs/\s.heap.DictOf (qt X.prog X.w) p vs:=I.hok p _ hx
   have hlen:kvs.length=vs.length:=Paired.length r
   exact wpAny_truthy_dict hS m ∅ ⟨H,I.tok _,by rw[zbO r];exact q⟩
 |_=>exact(show False from e).elim
theorem xv (ha:PE X a ta) (he:∀whole,isTrue a X.env whole=(do let v <-whole;standAt a.pos;holding [v] (truthy v))) :
  PT X a (λσ H Q=>ta σ H λx H'=>∃k,zkR X.K x H' k/\Q k H'):=by
 intro pz s σ H Q I h
 exact isTrue_plain (thn (ha pz s σ H _ I h) λv s1 ⟨x,H1,I1,r1,q1⟩=>zkH pz s1 σ H1 x v Q I1 r1 q1) (he _)
theorem Xz {x:V}{us:Ac}(r:xh [x] us):∃u,us=[u]/\xz x u:=by
 cases r with
 |cons r1 r2=>cases r2;exact⟨00,r1⟩
theorem zbw {x y:V}{us:Ac}(r:xh [x,y] us):∃u w',us=[u,w']/\xz x u/\xz y w':=by
 cases r with
 |cons r1 r2 =>
  cases r2 with
  |cons r3 r4=>cases r4;exact⟨021,r1,r3⟩
theorem ZY:ZJ X (.builtin "abs") (λxs H Q=>∃i,xs=[.int i]/\Q (.int (if i<0 then -i else i)) H):=by
 intro pz s σ H xs us Q I r h
 obtain⟨i,rfl,q⟩:=h
 obtain⟨u,rfl,t,rfl⟩:=Xz r
 exact call_abs_int λu tk=>⟨.int (if i<0 then -i else i),H,I.tok _,⟨_,rL⟩,q⟩
theorem zdz (hc:X.calm=true):ZJ X (.builtin "max") (λxs H Q=>∃i j,xs=[.int i,.int j]/\Q (.int (if j>i then j else i)) H):=by
 intro pz s σ H xs us Q I r h
 obtain⟨i,j,rfl,q⟩:=h
 obtain⟨u,w',rfl,⟨t,rfl⟩,⟨t',rfl⟩⟩:=zbw r
 refine max_two_ints (I.ok.hd hc) λh' tk k=>⟨_,H,I.kept k,?_,q⟩
 by_cases hj:j>i
 ·rw[if_pos hj,if_pos hj];exact⟨_,rfl⟩
 ·rw[if_neg hj,if_neg hj];exact⟨_,rfl⟩
theorem zdA (hc:X.calm=true):ZJ X (.builtin "min") (λxs H Q=>∃i j,xs=[.int i,.int j]/\Q (.int (if j<i then j else i)) H):=by
 intro pz s σ H xs us Q I r h
 obtain⟨i,j,rfl,q⟩:=h
 obtain⟨u,w',rfl,⟨t,rfl⟩,⟨t',rfl⟩⟩:=zbw r
 refine min_two_ints (I.ok.hd hc) λh' tk k=>⟨_,H,I.kept k,?_,q⟩
 by_cases hj:j<i
 ·rw[if_pos hj,if_pos hj];exact⟨_,rfl⟩
 ·rw[if_neg hj,if_neg hj];exact⟨_,rfl⟩
theorem zdy:ZJ X (.type "int") (λxs H Q=>(∃i,xs=[.int i]/\Q (.int i) H)\/∃k,xs=[.bl k]/\Q (.int (if k then 1 else 0)) H):=by
 intro pz s σ H xs us Q I r h
 rcases h with⟨i,rfl,q⟩ | ⟨k,rfl,q⟩
 ·obtain⟨u,rfl,t,rfl⟩:=Xz r
  exact call_int_int ⟨.int i,H,I,⟨_,rL⟩,q⟩
 ·obtain⟨u,rfl,r1⟩:=Xz r
  cases r1
  exact call_int_bool ⟨.int (if k then 1 else 0),H,I.tok _,⟨_,rL⟩,q⟩
end
structure zdt (h:Heap) (x dx C:Addr) (mA:Aa):Prop where
 obj:h.get? x=some (PySem.W.instObj C dx)
 ns:h.Ns1 dx mA
 ne:dx≠x
def zdR {h:Heap}{dx:Addr}{mA:Aa}(n:h.Ns1 dx mA):∃od,h.get? dx=some od/\∀name,PySem.W.lookIn name od=some (mA name):=by
 obtain⟨o,es,ep,ho,hd,hk,_,hm⟩:=n
 refine⟨o,ho,λname=>?_⟩
 have e:=hm name
 unfold nsFind findBy at e
 rw[<-Array.find?_toList]at e
 unfold PySem.W.lookIn
 rw[hd]
 nofun
 split
 ·rename_i y q
  rw[q]at e
  exact congrArg some e
 ·rename_i q
  rw[q]at e
  have a:es.toList.any (·.refKey)=false:=by
   rw[List.any_eq_false]
   intro y hy
   obtain⟨z,t,hkey⟩:=hk y (Array.mem_toList_iff.mp hy)
   simp[DictEntry.refKey,hkey]
  have a':¬es.toList.any (·.refKey)=true:=by rw[a];exact wN
  rw[if_neg a']
  exact congrArg some e
def zdt.look {h:Heap}{x dx C:Addr}{mA:Aa}(I:zdt h x dx C mA):∃od,PySem.W.InstAt h x (PySem.W.instObj C dx) C (some od)/\∀name,PySem.W.lookIn name od=some (mA name) :=
 let ⟨od,ho,hl⟩:=zdR I.ns
 ⟨od,⟨I.obj,rfl,rfl,ho⟩,hl⟩
section
variable {prog:Program}{w:World}{A:Around}{E:Af}{s:Shared}{K:Fg}{x dx C f:Addr}{mA:Aa}{name:Str}{v:Value}
theorem zgM {expr:Bool}{Q:Af}(X:K.In s.heap) (I:zdt s.heap x dx C mA) (hg:PySem.W.plainGet K C name=true) (hh:PySem.W.hasDictIn K C=true)
  (ha:PySem.W.findIn K (.ref C) name=some none) (hv:mA name=some v) (hv':PySem.W.handedIn v=true) (h:Q v { s with toks:=s.toks+1 }) :
  wpAny (model prog w) A (getAttr (.ref x) name expr) Q E s:=by
 obtain⟨od,J,hl⟩:=I.look
 exact PySem.W.get_value X J (PySem.W.plainGet_of hg).1 (PySem.W.findObj_own hh ha rfl (by rw[hl,hv])) hv' h
theorem zhL {ns:Ad}{Q:Unit->Shared->Prop}(X:K.In s.heap) (I:zdt s.heap x dx C mA)
  (hs:PySem.W.findIn K (.ref C) "__setattr__" = some (some (.builtin "object.__setattr__"))) (hp:PySem.W.plainOver K C=true) (ht:PySem.W.takerIn K C name=some none) (hh:PySem.W.hasDictIn K C=true)
  (hw:PySem.Within mA ns) (hsz:ns.length<=sizeLine)
  (h:∀h',zdt h' x dx C (λy=>if y=name then some v else mA y)->Heap.SameBut dx s.heap h'->Q () { s with heap:=h',toks:=s.toks+2 }) :
  wpAny (model prog w) A (setAttr (.ref x) name v) Q E s:=by
 obtain⟨od,J,hl⟩:=I.look
 refine PySem.W.set_plain X J hs (PySem.W.osa_open (s:={ s with toks:=s.toks+1 }) (r:=none) X J hp ht λb=>?_)
 obtain⟨cd,hc,hd'⟩:=PySem.W.any_some hh
 have hx:s.heap.get? x=some ⟨.ref C,some dx,.plain,#[]⟩:=I.obj
 refine wc (wu (wc (wc (wpAny_loadPart hx (wc (PySem.W.Looks.here (s:={ s with toks:=s.toks+1 }) (PySem.W.looks_clsIn X hc) ?_))))))
 rw[hd']
 refine wu (a:=some dx) (wc (wu (wc ?_)))
 refine wpAny_nsSet1 (s:={ s with toks:=s.toks+1 }) I.ns λh' hn2 hs2=>?_
 obtain⟨oD,esD,epD,hoD,hdD,hcD⟩:=hn2.count (PySem.Within.cons name v hw)
 refine wc (wpAny_lookBehind hoD (by rw[hdD];exact pastItsLine_dict (wY hcD (by rw[wJ];lia))) ?_)
 exact wu (h _ ⟨(hs2.2 _ (Ne.symm I.ne)).trans I.obj,hn2,I.ne⟩ hs2)
theorem ze5 {R:Result->Shared->Prop}{vs:Ac}{kw:List (Str×Value)} (X:K.In s.heap) (hm:PySem.W.makesIn K C=true)
  (hi:PySem.W.findIn K (.ref C) "__init__" = some (some (.ref f))) (hf:PySem.W.typeIn K (.ref f)=some (.type "function"))
  (h:codeAny (model prog w) (A.under (.builtin "type.__call__" ⟨.ref C::vs,kw⟩)) (.call (.ref f) ⟨.ref (s.heap.objs.size+1)::vs,kw⟩) (PySem.W.InitBack (s.heap.objs.size+1) R)
   { s with heap:=(s.heap.push PySem.W.emptyDict).push (PySem.W.instObj C s.heap.objs.size) }) :
  codeAny (model prog w) A (.call (.ref C) ⟨vs,kw⟩) R s:=by
 obtain⟨hh,g,d,t,os⟩:=s
 exact PySem.W.make_core (PySem.W.makes_of X hm) (PySem.W.looks_findIn X hi) (λself=>PySem.W.bind_fn X self hf) (.inl rL) h
end
def qg (f:Str) (v:V):Bf->Bf
 |[]=>[(f,v)]
 | (g,x)::r=>if g=f then(g,v)::r else(g,x)::qg f v r
def xE (f g:Str) (v:V):∀fs:Bf,(qg f v fs).lookup g=if g=f then some v else fs.lookup g
 |[]=>by
  show List.lookup g [(f,v)]=_
  by_cases h:g=f
  ·have hb:(g == f)=true:=beq_iff_eq.mpr h
   simp only[List.lookup,hb,if_pos h]
  ·have hb:(g == f)=false:=beq_eq_false_iff_ne.mpr h
   simp only[List.lookup,hb,if_neg h]
 | (k,x)::r=>by
  have ih:=xE f g v r
  rw[show qg f v ((k,x)::r)=(if k=f then(k,v)::r else(k,x)::qg f v r)from rfl]
  by_cases hk:k=f
  ·rw[if_pos hk]
   by_cases h:g=k
   ·have hb:(g == k)=true:=beq_iff_eq.mpr h
    simp only[List.lookup,hb,if_pos (h.trans hk)]
   ·have hb:(g == k)=false:=beq_eq_false_iff_ne.mpr h
    simp only[List.lookup,hb,if_neg (λe:g=f=>h (e.trans hk.symm))]
  ·rw[if_neg hk]
   by_cases h:g=k
   ·have hb:(g == k)=true:=beq_iff_eq.mpr h
    simp only[List.lookup,hb,if_neg (λe:g=f=>hk (h.symm.trans e))]
   ·have hb:(g == k)=false:=beq_eq_false_iff_ne.mpr h
    simp only[List.lookup,hb]
    exact ih
def Qw (f:Str) (v:V):∀fs:Bf,f∈(qg f v fs).map (·.1)/\∀g,g∈fs.map (·.1)->g∈(qg f v fs).map (·.1)
 |[]=>⟨by simp[qg],λg h=>by simp at h⟩
 | (k,x)::r=>by
  obtain⟨i1,i2⟩:=Qw f v r
  rw[show qg f v ((k,x)::r)=(if k=f then(k,v)::r else(k,x)::qg f v r)from rfl]
  by_cases hk:k=f
  ·rw[if_pos hk]
   subst hk
   exact⟨by simp,λg h=>↥h⟩
  ·rw[if_neg hk]
   refine⟨?_,λg h=>?_⟩
   ·rw[yw]
    exact wR _ i1
   ·rw[yw]at h ⊢
    rcases wy.mp h with e | e
    ·exact wy.mpr (.inl e)
    ·exact wR _ (i2 g e)
def Q0 (f:Str) (v:V):∀fs:Bf,(qg f v fs).length<=fs.length+1
 |[]=>by simp[qg]
 | (k,x)::r=>by
  have ih:=Q0 f v r
  rw[show qg f v ((k,x)::r)=(if k=f then(k,v)::r else(k,x)::qg f v r)from rfl]
  by_cases hk:k=f
  ·rw[if_pos hk,wJ,wJ];lia
  ·rw[if_neg hk,wJ,wJ];lia
def Qq.some_of {v:V}{o:Option Value}(r:Qq (some v) o):∃u,o=some u/\xz v u:=by
 cases o with
 |none=>exact(show False from r).elim
 |some u=>exact⟨u,rfl,r⟩
def zdI {v:V}{u:Value}(r:xz v u):PySem.W.handedIn u=true:=by
 cases v with
 |non=>cases(show u=Value.none from r);rfl
 |bl b=>cases(show u=Value.bool b from r);rfl
 |int i=>obtain⟨t,e⟩:=(show ∃t,u=Value.int i t from r);cases e;rfl
 |str x=>obtain⟨t,e⟩:=(show ∃t,u=Value.str x t from r);cases e;rfl
 |byt b=>obtain⟨t,e⟩:=(show ∃t,u=Value.bytes b t from r);cases e;rfl
 |flt b=>obtain⟨t,e⟩:=(show ∃t,u=Value.float b t from r);cases e;rfl
 |ref a=>cases(show u=Value.ref a from r);rfl
 |ty n=>cases(show u=Value.type n from r);rfl
section
variable {P:Program}{w:World}{H H':Hp}{h h':Heap}{a C dx:Addr}{fs fs':Bf}
theorem J6 (hok:HOk P w H h) (e:H a=some (.ins C dx fs)):∃mA,zdt h a dx C mA/\(∀f,Qq (fs.lookup f) (mA f))/\PySem.Within mA (fs.map (·.1))/\fs.length<=1000/\H dx=some (.own a):=by
 obtain⟨d,z,ne,ob,mA,n,r,q⟩:=(show xD P w H h a (.ins C dx fs)from hok a _ e)
 exact⟨mA,⟨ob,n,ne⟩,r,q,z,d⟩
end
structure Cls (K:Fg) (C:Addr):Prop where
 pg:PySem.W.plainGet K C Str.empty=true
 hd:PySem.W.hasDictIn K C=true
 po:PySem.W.plainOver K C=true
 sa:PySem.W.findIn K (.ref C) "__setattr__" = some (some (.builtin "object.__setattr__"))
def Cls.get {K:Fg}{C:Addr}(c:Cls K C) (f:Str):PySem.W.plainGet K C f=true:=c.pg
def x9 (K:Fg) (C:Addr) (f:Str):Prop:=PySem.W.findIn K (.ref C) f=some none
def x9.taker {K:Fg}{C:Addr}{f:Str}(n:x9 K C f):PySem.W.takerIn K C f=some none:=by
 unfold PySem.W.takerIn
 rw[show PySem.W.findIn K (.ref C) f=some none from n]
 rfl
section
variable {X:Cx}{pz:Ab}{σ:St}{H:Hp}{s:Shared}{a C dx:Addr}{fs:Bf}{f:Str}{v:V}{A:Around}{E:Af}
theorem VE {b:Bool}{Q:Af}(I:Inv X pz σ H s) (e:H a=some (.ins C dx fs)) (c:Cls X.K C) (n:x9 X.K C f) (l:fs.lookup f=some v)
  (h:∀u s',Inv X pz σ H s'->xz v u->Q u s'):wpAny (model X.prog X.w) A (getAttr (.ref a) f b) Q E s:=by
 obtain⟨mA,O,r,_,_,_⟩:=J6 I.hok e
 obtain⟨u,hu,ru⟩:=Qq.some_of (v:=v) (o:=mA f) (by rw[<-l];exact r f)
 exact zgM I.kIn O (c.get f) c.hd n hu (zdI ru) (h u _ (I.tok _) ru)
theorem V8 {y:V}{u:Value}{Q:Unit->Shared->Prop}(I:Inv X pz σ H s) (e:H a=some (.ins C dx fs)) (c:Cls X.K C) (n:x9 X.K C f) (hl:fs.length<1000) (ry:xz y u)
  (h:∀s',Inv X pz σ (upd H a (.ins C dx (qg f y fs))) s'->Q () s'):wpAny (model X.prog X.w) A (setAttr (.ref a) f u) Q E s:=by
 obtain⟨mA,O,r,wi,_,ho⟩:=J6 I.hok e
 have hz:(fs.map (·.1)).length<=sizeLine:=by rw[wk,sizeLine_eq];lia
 refine zhL I.kIn O c.sa c.po n.taker c.hd wi hz λh' O' sb=>h _ ?_
 have hd:∃o,h'.get? dx=some o:=let ⟨o,_,_,e',_⟩:=O'.ns;⟨o,e'⟩
 refine I.write (x:=a) (e:=dx) (by rw[e];exact True.intro) (.inr ho) (λb q hb z=>(sb.2 b hb).trans z) hd ?_
 refine⟨by rw[zK O.ne];exact ho,?_,O.ne,O'.obj,_,O'.ns,λg=>?_,λg hg=>?_⟩
 ·have:=Q0 f y fs;lia
 ·show Qq ((qg f y fs).lookup g) (if g=f then some u else mA g)
  rw[xE]
  by_cases q:g=f
  ·rw[if_pos q,if_pos q];exact ry
  ·rw[if_neg q,if_neg q];exact r g
 ·by_cases q:g=f
  ·rw[q];exact(Qw f y fs).1
  ·refine(Qw f y fs).2 g (wi g λz=>hg ?_)
   show (if g=f then some u else mA g)=none
   rw[if_neg q];exact z
theorem Inv.made (I:Inv X pz σ H s):Inv X pz σ (upd (upd H s.heap.objs.size (.own (s.heap.objs.size+1))) (s.heap.objs.size+1) (.ins C s.heap.objs.size []))
  { s with heap:=(s.heap.push PySem.W.emptyDict).push (PySem.W.instObj C s.heap.objs.size) }:=by
 have e1:(s.heap.push PySem.W.emptyDict).get? s.heap.objs.size=some PySem.W.emptyDict:=wD s.heap rfl
 have e2:((s.heap.push PySem.W.emptyDict).push (PySem.W.instObj C s.heap.objs.size)).get? (s.heap.objs.size+1)=some (PySem.W.instObj C s.heap.objs.size):=by
  have:=wD (s.heap.push PySem.W.emptyDict) (o:=PySem.W.instObj C s.heap.objs.size) rfl
  rwa [yI]at this
 have e3:(s.heap.push PySem.W.emptyDict).Ns s.heap.objs.size (λ_=>none):=⟨PySem.W.emptyDict,#[],_,e1,rfl,(λe he=>absurd he (by simp)),λ_=>rfl⟩
 have I1:=I.laid (a:=s.heap.objs.size) (o:=.own (s.heap.objs.size+1)) (h':=s.heap.push PySem.W.emptyDict) (t':=s.toks) (λb u q=>wg _ q) (wq _) ⟨_,e1⟩
 refine I1.laid (a:=s.heap.objs.size+1) (o:=.ins C s.heap.objs.size []) (t':=s.toks) (λb u q=>wg _ q) (W5 (yI _ _)) ?_
 have ne:s.heap.objs.size≠s.heap.objs.size+1:=wQ (Nat.lt_succ_self _)
 refine⟨by rw[zK ne,zi],yo _,ne,e2,λ_=>none,(Heap.Ns1.of_empty e3).at λo q=>wg _ q,λ_=>True.intro,λy hy=>absurd rfl hy⟩
theorem zgt {prog:Program}{w:World}{env:Env}{e:Expr}{f:Str}{pos:Pos}{s:Shared}{Q:Af}(hb:attributeBase e f env (eval e env)=eval e env)
  (h:wpAny (model prog w) A (eval e env) (λo s₁=>wpAny (model prog w) A (getAttr o f true) Q E s₁) E s):wpAny (model prog w) A (eval (.Attribute e f pos) env) Q E s :=
 Attribute_any_ h (by rw[arm_eval_Attribute,hb])
end
inductive ziK (K:Fg) (f:Str) (Q:VK) (x:V) (H1:Hp):Prop
 |mk:∀a C dx fs v,(x=.ref a)->(H1 a=some (.ins C dx fs))->(Cls K C)->(x9 K C f)->(fs.lookup f=some v)->(Q v H1)->ziK K f Q x H1
def tFld (K:Fg) (ta:TE) (f:Str):TE:=λσ H Q=>ta σ H λx H1=>ziK K f Q x H1
def zjU (K:Fg) (ta tv:TE) (f:Str):TS:=λD σ H=>tv σ H λy H1=>ta σ H1 λx H2=>∃a C dx fs,x=.ref a/\H2 a=some (.ins C dx fs)/\Cls K C/\x9 K C f/\fs.length<1000 ∧
 D.nx σ (upd H2 a (.ins C dx (qg f y fs)))
def zkO (X:Cx) (op:Operator) (rd:V->V->Hp->VK->Prop):Prop :=
 ∀(pz:Ab) (s:Shared) (σ:St) (H:Hp) (x y:V) (u v:Value) (Q:VK),Inv X pz σ H s->xz x u->xz y v->rd x y H Q->wpAny (model X.prog X.w) X.A (inplaceOp op u v) (EP X pz σ Q) X.xe s
def zhv (K:Fg) (ta tv:TE) (rd:V->V->Hp->VK->Prop) (f:Str):TS:=λD σ H=>ta σ H λx H1=>∃a C dx fs v,x=.ref a/\H1 a=some (.ins C dx fs)/\Cls K C/\x9 K C f/\fs.lookup f=some v ∧
 tv σ H1 λy H2=>rd v y H2 λz H3=>∃dx' fs',H3 a=some (.ins C dx' fs')/\fs'.length<1000/\D.nx σ (upd H3 a (.ins C dx' (qg f z fs')))
section
variable {X:Cx}{o e value:Expr}{f:Str}{pos pos' tpos:Pos}{ta tv:TE}
theorem xx (he:PE X e ta) (hb:attributeBase e f X.env (eval e X.env)=eval e X.env):PE X (.Attribute e f pos) (tFld X.K ta f):=by
 intro pz s σ H Q I h
 refine zgt hb (thn (he pz s σ H _ I h) λu s1 ⟨x,H1,I1,rx,a,C,dx,fs,v,ex,ea,c,n,l,q⟩=>?_)
 subst ex
 obtain rfl:u=Value.ref a:=rx
 exact VE I1 ea c n l λu' s2 I2 ru=>⟨v,H1,I2,ru,q⟩
theorem v8 (ha:PE X o ta) (hv:PE X value tv) (hs:swapsWith value (some (.Attribute o f pos')) pos.line X.env=pure false):PS X (.Assign [.Attribute o f pos'] value pos) (zjU X.K ta tv f):=by
 intro pz s σ H D I h
 refine plainObj_wpAny_Assign_Attribute (thn (hv pz s σ H _ I h) λu s1 ⟨y,H1,I1,ry,q⟩=>thn (ha pz s1 σ H1 _ I1 q) λov s2 ⟨x,H2,I2,rx,a,C,dx,fs,ex,ea,c,n,l,q2⟩=>?_) hs
 subst ex
 obtain rfl:ov=Value.ref a:=rx
 exact V8 I2 ea c n l ry λs3 I3=>⟨σ,_,I3,q2⟩
theorem JJ {op:Operator}{rd:V->V->Hp->VK->Prop}(ha:PE X o ta) (hv:PE X value tv) (hop:zkO X op rd):PS X (.AugAssign (.Attribute o f tpos) op value pos) (zhv X.K ta tv rd f):=by
 intro pz s σ H D I h
 refine wpAny_AugAssign_AttributeAny (thn (ha pz s σ H _ I h) λov s1 ⟨x,H1,I1,rx,a,C,dx,fs,v,ex,ea,c,n,l,q⟩=>?_)
 subst ex
 obtain rfl:ov=Value.ref a:=rx
 refine VE I1 ea c n l λu s2 I2 ru=>thn (hv pz s2 σ H1 _ I2 q) λw3 s3 ⟨y,H2,I3,ry,q3⟩=>thn (hop pz s3 σ H2 v y u w3 _ I3 ru ry q3) λw4 s4 ⟨z,H3,I4,rz,dx',fs',ea',l',q4⟩=>?_
 exact V8 I4 ea' c n l' rz λs5 I5=>⟨σ,_,I5,q4⟩
end
section
variable {X:Cx}{pz:Ab}{σ:St}{H:Hp}{s:Shared}{A:Around}{E:Af}{Q:Af}{c:Value}{b:Bool}
inductive Qr (K:Fg) (H:Hp):V->Value->Prop where
 |non:Qr K H .non (.type "NoneType")
 |bl (x:Bool):Qr K H (.bl x) (.type "bool")
 |int (i:Int):Qr K H (.int i) (.type "int")
 |str (x:Str):Qr K H (.str x) (.type "str")
 |flt (x:UInt64):Qr K H (.flt x) (.type "float")
 |lst {a:Addr}{xs:Ba}(e:H a=some (.lst xs)):Qr K H (.ref a) (.type "list")
 |frz {a:Addr}{o:Obj}{xs:Ba}(e:H a=some (.frz o (.lst xs))):Qr K H (.ref a) (.type "list")
 |tup {a:Addr}{xs:Ba}(e:H a=some (.tup xs)):Qr K H (.ref a) (.type "tuple")
 |dK {a:Addr}{kvs:List (Key×V)} (e:H a=some (.dK kvs)):Qr K H (.ref a) (.type "dict")
 |dT {a:Addr}{kvs:List (List Key×V)} (e:H a=some (.dT kvs)):Qr K H (.ref a) (.type "dict")
 |ins {a C dx:Addr}{fs:Bf} (e:H a=some (.ins C dx fs)) (cl:Cls K C) (ha:PySem.W.findIn K (.ref C) "__class__" = some (some (.builtin "object.__class__")))
   (hn:PySem.W.specialIn K (.builtin "object.__class__") "__get__" = some (some (.builtin "getset_descriptor.__get__"))) (htk:PySem.W.takesIn K (.builtin "object.__class__")=some true)
   (hm:PySem.W.mroIn K C (.type "object")=some true):Qr K H (.ref a) (.ref C)
theorem zdM {x:V}{u t:Value}(I:Inv X pz σ H s) (rx:xz x u) (ty:Qr X.K H x t) (e:PySem.W.kitOne X.K t c=some b) (h:∀tk,Q (.bool b) { s with toks:=tk }) :
  wpAny (model X.prog X.w) A (call (.builtin "isinstance") [u,c]) Q E s:=by
 cases ty with
 |non=>cases(show u=Value.none from rx);exact yJ PySem.W.kitx_none I.kIn True.intro e (λz=>nomatch z) h
 |bl y=>cases(show u=Value.bool y from rx);exact yJ PySem.W.kitx_bool I.kIn True.intro e (λz=>nomatch z) h
 |int i=>obtain⟨t,q⟩:=(show ∃t,u=Value.int i t from rx);cases q;exact yJ PySem.W.kitx_int I.kIn True.intro e (λz=>nomatch z) h
 |str y=>obtain⟨t,q⟩:=(show ∃t,u=Value.str y t from rx);cases q;exact yJ PySem.W.kitx_str I.kIn True.intro e (λz=>nomatch z) h
 |flt y=>obtain⟨t,q⟩:=(show ∃t,u=Value.float y t from rx);cases q;exact yJ PySem.W.kitx_float I.kIn True.intro e (λz=>nomatch z) h
 |@lst a xs ea =>
  cases(show u=Value.ref a from rx)
  obtain⟨_,_,n,_,h1⟩:=(show xD X.prog X.w H s.heap a (.lst xs)from I.hok a _ ea)
  exact yJ PySem.W.kitx_list I.kIn ⟨_,h1,rL⟩ e (λz=>nomatch z) h
 |@frz a ob xs ea =>
  cases(show u=Value.ref a from rx)
  obtain⟨_,_,_,n,_,h1⟩:=(show xD X.prog X.w H s.heap a (.frz ob (.lst xs))from I.hok a _ ea)
  exact yJ PySem.W.kitx_list I.kIn ⟨_,h1,rL⟩ e (λz=>nomatch z) h
 |@tup a xs ea =>
  cases(show u=Value.ref a from rx)
  obtain⟨_,_,_,p⟩:=(show xD X.prog X.w H s.heap a (.tup xs)from I.hok a _ ea)
  obtain⟨o,h1,h2,_⟩:=p
  exact yJ PySem.W.kitx_tuple I.kIn ⟨o,h1,h2⟩ e (λz=>nomatch z) h
 |@dK a kvs ea =>
  cases(show u=Value.ref a from rx)
  obtain⟨_,_,vs,_,p⟩:=(show xD X.prog X.w H s.heap a (.dK kvs)from I.hok a _ ea)
  obtain⟨o,es,ep,h1,h2,_⟩:=p
  exact yJ PySem.W.kitx_dict I.kIn ⟨o,h1,h2.1⟩ e (λz=>nomatch z) h
 |@dT a kvs ea =>
  cases(show u=Value.ref a from rx)
  obtain⟨_,_,xs,_,o,es,ep,h1,h2,_⟩:=(show xD X.prog X.w H s.heap a (.dT kvs)from I.hok a _ ea)
  exact yJ PySem.W.kitx_dict I.kIn ⟨o,h1,h2.1⟩ e (λz=>nomatch z) h
 |@ins a C dx fs ea cl ha hn htk hm =>
  cases(show u=Value.ref a from rx)
  obtain⟨mA,O,_⟩:=J6 I.hok ea
  obtain⟨od,J,_⟩:=O.look
  exact yJ (PySem.W.kitx_own (cl.get _) cl.hd ha hn htk hm) I.kIn J e (λz=>nomatch z) h
end
structure xf (k:Nat) (A:Around):Prop where
 hd:A.handled=none
 dp:A.depth+3*k+5<recursionLimit
 un:A.units+16*k+200<cLine
def xf.mono {j k:Nat}{A:Around}(r:xf k A) (h:j<=k):xf j A:=⟨r.hd,by have:=r.dp;lia,by have:=r.un;lia⟩
def xf.md {j k:Nat}{A:Around}(r:xf k A) (h:j<=k:=by decide):xf j A:=r.mono h
def xf.deeper {k:Nat}{A:Around}(r:xf (k+1) A) (env:Env):xf k (A.deeper env) :=
 ⟨r.hd,by have:=r.dp;show A.depth+1+3*k+5<_;lia,by have:=r.un;show A.units+3+16*k+200<_;lia⟩
def xf.in1 {k:Nat}{A:Around}(r:xf (k+1) A):xf k A.in1 :=
 ⟨r.hd,by have:=r.dp;show A.depth+3*k+5<_;lia,by have:=r.un;show A.units+1+16*k+200<_;lia⟩
def zbS {A:Around}{C:Addr}{us:Ac}{kw:List (Str×Value)}:(A.under (.builtin "type.__call__" ⟨.ref C::us,kw⟩)).depth=A.depth+1:=by
 first | rfl | simp[Around.under,Code.weight,Code.isCreation,Code.isGuard,Code.isCaller,Code.frames,Code.isFrame,guardIds]
def zbT {A:Around}{C:Addr}{us:Ac}{kw:List (Str×Value)}:(A.under (.builtin "type.__call__" ⟨.ref C::us,kw⟩)).units=A.units+1:=by
 first | rfl | simp[Around.under,Code.cUnits,Code.frames,Code.isFrame]
def xf.make {k:Nat}{A:Around}(r:xf (k+1) A) (C:Addr) (us:Ac) (kw:List (Str×Value)):xf k (A.under (.builtin "type.__call__" ⟨.ref C::us,kw⟩)) :=
 ⟨r.hd,by have:=r.dp;rw[zbS];omega,by have:=r.un;rw[zbT];omega⟩
def xf.depth {k:Nat}{A:Around}(r:xf k A):A.depth<recursionLimit:=by have:=r.dp;omega
def xf.units {k:Nat}{A:Around}(r:xf k A):A.units+64<cLine:=by have:=r.un;lia
def Xn:TA:=λ_ H Q=>Q [] H
def xN (ta:TE) (tr:TA):TA:=λσ H Q=>ta σ H λx H1=>tr σ H1 λxs H2=>Q (x::xs) H2
section
variable {X:Cx}{e:Expr}{es:Ag}{te:TE}{t:TA}{pos:Pos}
theorem zf:PA X [] Xn:=λ_ _ _ _ H Q I h=>Calls.spliced_nil ⟨[],H,I,.nil,h⟩
theorem ze (ha:PE X e te) (hr:PA X es t) (hs:starEach (e::es) X.env=(false,eval e X.env)::starEach es X.env:=by rfl):PA X (e::es) (xN te t):=by
 intro pos pz s σ H Q I h
 rw[hs]
 show wpAny _ _ (spliced ((false,eval e X.env)::backTo pos (starEach es X.env))) _ _ s
 refine Calls.spliced_cons (thn (ha pz s σ H _ I h) λu s1 ⟨x,H1,I1,r1,q1⟩=>?_)
 exact thn (hr pos pz s1 σ H1 _ I1 q1) λus s2 ⟨xs,H2,I2,r2,q2⟩=>⟨x::xs,H2,I2,.cons r1 r2,q2⟩
def zgb (t:TA):TE:=λσ H Q=>t σ H λxs H1=>xs.length<=sizeLine/\∀p,H1 p=none->Q (.ref p) (upd H1 p (.tup xs))
def zmi (t:TA):TE:=λσ H Q=>t σ H λxs H1=>xs.length<=sizeLine/\∀p,H1 p=none->Q (.ref p) (upd H1 p (.lst xs))
theorem xa {x1} (h:PA X es t):PE X (.Tuple es x1 pos) (zgb t):=by
 intro pz s σ H Q I hq
 refine wpAny_Tuple_spliced (thn (h pos pz s σ H _ I hq) λus s1 ⟨xs,H1,I1,r,z,q⟩=>⟨by rw[<-r.length];exact z,?_⟩)
 have hf:H1 s1.heap.objs.size=none:=I1.hok.fresh (wq _)
 refine⟨.ref s1.heap.objs.size,upd H1 s1.heap.objs.size (.tup xs),I1.laid (t':=s1.toks) (λb u e=>wg _ e) (wq _) ?_,rL,q _ hf⟩
 exact⟨⟨z,.new⟩,us,r,⟨_,wD _ rL,rL,_,rL⟩⟩
theorem xF (h:PA X es t):PE X (.List es pos) (zmi t):=by
 intro pz s σ H Q I hq
 refine wpAny_List_spliced (thn (h pos pz s σ H _ I hq) λus s1 ⟨xs,H1,I1,r,z,q⟩=>⟨by rw[<-r.length];exact z,?_⟩)
 have hf:H1 s1.heap.objs.size=none:=I1.hok.fresh (wq _)
 refine⟨.ref s1.heap.objs.size,upd H1 s1.heap.objs.size (.lst xs),I1.laid (t':=s1.toks) (λb u e=>wg _ e) (wq _) ?_,rL,q _ hf⟩
 exact⟨z,us,0,r,wD _ rL⟩
end
abbrev Sp:=Ba->Hp->VK->XK->Prop
abbrev CXT:=Aj->Hp->Shared->XK->Value->Shared->Prop
structure Vs (P:Program) (w:World) (K:Fg) (mg:Aa) (base:Heap) (A:Around) (outer:Aj) (s:Shared) (H:Hp):Prop where
 frames:A.frames=some outer
 mod:Mod K mg base
 bs:∀b o,base.get? b=some o->s.heap.get? b=some o/\H b=none
 bsz:base.objs.size<=s.heap.objs.size
 funs:s.heap.FunFrames base outer
 frf:∀b∈frs outer,H b=none
 hok:HOk P w H s.heap
 bare:AllBare s.gens
def CE (outer:Aj) (P:Program) (w:World) (H:Hp) (s:Shared) (Q:VK) (u:Value) (s':Shared):Prop :=
 ∃v H',s'.os=s.os/\AllBare s'.gens/\Un (frs outer) [] H H' s.heap s'.heap/\HOk P w H' s'.heap/\xz v u/\Q v H'
def CR (CX:CXT) (outer:Aj) (P:Program) (w:World) (H:Hp) (s:Shared) (Q:VK) (E:XK) (r:Result) (s':Shared):Prop :=
 match r with
 |.ok (.ret u)=>CE outer P w H s Q u s'
 |.ok _=>False
 |.error e=>CX outer H s E e s'
structure vC (P:Program) (w:World) (K:Fg) (mg:Aa) (base:Heap) (CX:CXT) (k:Nat) (f:Addr) (fd:FuncData) (ps:Ad) (sp:Sp):Prop where
 len:∀vs H Q E,sp vs H Q E->vs.length=ps.length
 run:∀(A:Around) (outer:Aj) (s:Shared) (H:Hp) (args:Args) (us:Ac) (vs:Ba) (Q:VK) (E:XK),xf k A->Vs P w K mg base A outer s H->BindsTo s fd args (ps.zip us)->xh vs us->sp vs H Q E →
  codeAny (model P w) A (.call (.ref f) args) (CR CX outer P w H s Q E) s
def vC.imp {P:Program}{w:World}{K:Fg}{mg:Aa}{base:Heap}{CX:CXT}{k:Nat}{f:Addr}{fd:FuncData}{ps:Ad}{sp sp':Sp}(F:vC P w K mg base CX k f fd ps sp)
  (h:∀vs H Q E,sp' vs H Q E->sp vs H Q E):vC P w K mg base CX k f fd ps sp' :=
 ⟨λvs H Q E q=>F.len vs H Q E (h _ _ _ _ q),λA outer s H args us vs Q E hr he hb hv hs=>F.run A outer s H args us vs Q E hr he hb hv (h _ _ _ _ hs)⟩
def Vs.make {P:Program}{w:World}{K:Fg}{mg:Aa}{base:Heap}{A:Around}{outer:Aj}{s:Shared}{H:Hp}(e:Vs P w K mg base A outer s H) (C:Addr) (us:Ac) (kw:List (Str×Value)) :
  Vs P w K mg base (A.under (.builtin "type.__call__" ⟨.ref C::us,kw⟩)) outer s H:=⟨by first | exact e.frames | (simpa [Around.under,Code.envs,Code.isFrame,pushEnvs]using e.frames),e.mod,e.bs,e.bsz,e.funs,e.frf,e.hok,e.bare⟩
def Vs.in1 {P:Program}{w:World}{K:Fg}{mg:Aa}{base:Heap}{A:Around}{outer:Aj}{s:Shared}{H:Hp}(e:Vs P w K mg base A outer s H) :
  Vs P w K mg base A.in1 outer s H:=⟨e.frames,e.mod,e.bs,e.bsz,e.funs,e.frf,e.hok,e.bare⟩
section
variable {X:Cx}{pz:Ab}{σ:St}{H:Hp}{s s':Shared}
theorem Inv.env0 (I:Inv X pz σ H s):Vs X.prog X.w X.K X.mg X.base X.A X.stack s H :=
 ⟨I.ok.frames,I.ok.mod,I.bs,wY I.ok.bsz I.sz,I.stack,I.stkFree,I.hok,I.bare⟩
theorem Inv.after {Q:VK}{u:Value}(I:Inv X pz σ H s) (h:CE X.stack X.prog X.w H s Q u s'):EP X pz σ Q u s':=by
 obtain⟨v,H',os,bare,un,hok,r,q⟩:=h
 obtain⟨hh,g,d,t,os'⟩:=s'
 obtain rfl:os'=s.os:=os
 exact⟨v,H',I.call (h':=hh) (g':=g) (d':=d) (t':=t) (ch:=[]) un hok bare (λb z=>absurd z (by simp)),r,q⟩
end
def vV (sp:Sp) (dvs:Ba) (E:XK) (t:TA):TE:=λσ H Q=>t σ H λvs H1=>sp (vs++dvs) H1 Q E
def zmj (C:Addr) (sp:Sp) (dvs:Ba) (E:XK) (t:TA):TE:=λσ H Q=>t σ H λvs H1=>∀x dx,H1 x=none->H1 dx=none->dx≠x →
 sp (.ref x::(vs++dvs)) (upd (upd H1 dx (.own x)) x (.ins C dx [])) (λv H2=>v=.non/\Q (.ref x) H2) E
def vI (K:Fg) (fd:FuncData) (ps:Ad) (ds:Ac):Prop :=
 ∀(s:Shared) (us:Ac),K.In s.heap->(us++ds).length=ps.length->BindsTo s fd ⟨us,[]⟩ (ps.zip (us++ds))
def vI.all {K:Fg}{fd:FuncData}{ps:Ad}(h:∀us:Ac,us.length=ps.length->bindArgs fd ⟨us,[]⟩=pure (ps.zip us)):vI K fd ps []:=λs us _ hl=>by
 rw[yz]at hl ⊢
 exact .of_eq (h us hl)
def Vu (CX:CXT) (X:Cx) (E:XK):Prop:=∀(pz:Ab) (σ:St) (H:Hp) (s:Shared) (e:Value) (s':Shared),Inv X pz σ H s->CX X.stack H s E e s'->X.xe e s'
section
variable {X:Cx}{CX:CXT}{k:Nat}{f C:Addr}{fd:FuncData}{ps:Ad}{sp:Sp}{dvs:Ba}{ds:Ac}{E:XK}{x m:Str}{p pos apos:Pos}{e o:Expr}{es:Ag}{ta:TE}{t:TA}
theorem zjT {pz:Ab}{σ:St}{H:Hp}{s:Shared}{Q:VK}{us:Ac}{vs:Ba}(F:vC X.prog X.w X.K X.mg X.base CX k f fd ps sp) (hr:xf k X.A) (hb:vI X.K fd ps ds) (hd:xh dvs ds) (hx:Vu CX X E)
  (I:Inv X pz σ H s) (r:xh vs us) (h:sp (vs++dvs) H Q E):wpAny (model X.prog X.w) X.A (call (.ref f) us) (EP X pz σ Q) X.xe s:=by
 have r2:xh (vs++dvs) (us++ds):=r.append hd
 have hl:(us++ds).length=ps.length:=by rw[<-r2.length];exact F.len _ _ _ _ h
 refine WQ (codeAny_mono (F.run X.A X.stack s H ⟨us,[]⟩ (us++ds) (vs++dvs) Q E hr I.env0 (hb s us I.kIn hl) r2 h) λr s' hq=>?_)
 cases r with
 |error e=>exact hx pz σ H s e s' I hq
 |ok fl =>
  cases fl with
  |ret u=>exact I.after hq
  |next=>exact False.elim hq
  |brk=>exact False.elim hq
  |cont=>exact False.elim hq
theorem zhe (F:vC X.prog X.w X.K X.mg X.base CX k f fd ps sp) (hr:xf k X.A) (hg:Gl X x) (hm:X.mg x=some (.ref f)) (hk:PySem.W.keepIn X.K (.ref f)=true) (hb:vI X.K fd ps ds) (hd:xh dvs ds) (hx:Vu CX X E)
  (ha:PA X (e::es) t) (hdb:(x == ("__debug__":Str))=false:=by decide) (he:starEach (e::es) X.env=(false,eval e X.env)::starEach es X.env:=by rfl) (hpl:(backTo pos (starEach es X.env)).any (·.1)=false:=by rfl) :
  PE X (.Call (.Name x p) (e::es) [] pos) (vV sp dvs E t):=by
 intro pz s σ H Q I h
 refine ue (v3 I hg hm ?_ hdb)
 refine W6 (h₀:=X.base) I.ok.mod.kin hk (thn (ha pos pz s σ H _ I h) λus s1 ⟨vs,H1,I1,r,q⟩=>⟨I1.kIn,?_⟩) he hpl
 exact zjT F hr hb hd hx I1 r q
structure Mk (K:Fg) (C f:Addr):Prop where
 makes:PySem.W.makesIn K C=true
 init:PySem.W.findIn K (.ref C) "__init__" = some (some (.ref f))
 fn:PySem.W.isFn K (.ref f)=true
 kp:PySem.W.keepIn K (.ref C)=true
theorem zfw {pz:Ab}{σ:St}{H:Hp}{s:Shared}{Q:VK}{us:Ac}{vs:Ba}(M:Mk X.K C f) (F:vC X.prog X.w X.K X.mg X.base CX k f fd ps sp) (hr:xf (k+1) X.A) (hb:vI X.K fd ps ds) (hd:xh dvs ds)
  (hx:Vu CX X E) (I:Inv X pz σ H s) (r:xh vs us)
  (h:∀x dx,H x=none->H dx=none->dx≠x->sp (.ref x::(vs++dvs)) (upd (upd H dx (.own x)) x (.ins C dx [])) (λv H2=>v=.non/\Q (.ref x) H2) E) :
  wpAny (model X.prog X.w) X.A (call (.ref C) us) (EP X pz σ Q) X.xe s:=by
 have hq:=h (s.heap.objs.size+1) s.heap.objs.size (I.hok.fresh (Nat.le_succ _)) (I.hok.fresh (wq _)) (wQ (Nat.lt_succ_self _))
 have I2:=Inv.made (C:=C) I
 have r2:xh (V.ref (s.heap.objs.size+1)::(vs++dvs)) (Value.ref (s.heap.objs.size+1)::(us++ds)):=.cons rfl (r.append hd)
 have hl:(Value.ref (s.heap.objs.size+1)::us++ds).length=ps.length:=by
  have e:=r2.length
  rw[F.len _ _ _ _ hq]at e
  exact e.symm
 refine WQ (ze5 (f:=f) I.kIn M.makes M.init (beq_iff_eq.mp M.fn) (codeAny_mono (F.run _ X.stack _ _ ⟨Value.ref (s.heap.objs.size+1)::us,[]⟩ (Value.ref (s.heap.objs.size+1)::(us++ds)) _ _ E (hr.make C us [])
  (I2.env0.make C us []) (hb _ (Value.ref (s.heap.objs.size+1)::us) I2.kIn hl) r2 hq) λr s' hq'=>?_))
 cases r with
 |error e=>exact hx pz σ _ _ e s' I2 hq'
 |ok fl =>
  cases fl with
  |ret u =>
   obtain⟨v,H',I3,rv,ev,q3⟩:=I2.after hq'
   subst ev
   exact⟨rv,⟨V.ref (s.heap.objs.size+1),H',I3,rL,q3⟩⟩
  |next=>exact False.elim hq'
  |brk=>exact False.elim hq'
  |cont=>exact False.elim hq'
theorem zhh (M:Mk X.K C f) (F:vC X.prog X.w X.K X.mg X.base CX k f fd ps sp) (hr:xf (k+1) X.A) (hg:Gl X x) (hm:X.mg x=some (.ref C)) (hb:vI X.K fd ps ds) (hd:xh dvs ds) (hx:Vu CX X E)
  (ha:PA X (e::es) t) (hdb:(x == ("__debug__":Str))=false:=by decide) (he:starEach (e::es) X.env=(false,eval e X.env)::starEach es X.env:=by rfl) (hpl:(backTo pos (starEach es X.env)).any (·.1)=false:=by rfl) :
  PE X (.Call (.Name x p) (e::es) [] pos) (zmj C sp dvs E t):=by
 intro pz s σ H Q I h
 refine ue (v3 I hg hm ?_ hdb)
 refine W6 (h₀:=X.base) I.ok.mod.kin M.kp (thn (ha pos pz s σ H _ I h) λus s1 ⟨vs,H1,I1,r,q⟩=>⟨I1.kIn,?_⟩) he hpl
 exact zfw M F hr hb hd hx I1 r q
end
structure zF (N P:Ad) (sc:Scope):Prop where
 kind:sc.kind=.function
 co:sc.isCoroutine=false
 gen:sc.isGenerator=false
 nd:N.Nodup
 pre:N.take P.length=P
 par:∀x∈P,sc.names.lookup x=some .local ∨ sc.names.lookup x=some .cell
 nofree:∀y∈sc.names,y.2≠.free
def scq {N P:Ad}{sc:Scope}(a:sc.kind=.function:=by rfl) (b:sc.isCoroutine=false:=by rfl) (c:sc.isGenerator=false:=by rfl) (d:N.Nodup:=by decide +kernel) (e:N.take P.length=P:=by rfl) (f:∀x∈P,sc.names.lookup x=some .local ∨ sc.names.lookup x=some .cell:=by decide +kernel) (g:∀y∈sc.names,y.2≠.free:=by decide +kernel):zF N P sc:=⟨a,b,c,d,e,f,g⟩
def Jw {kindOf:Str->Option NameKind}{x:Str}:∀{binds:List (Str×Value)}{m:Aa},(∀v,(x,v)∉binds)->bindL kindOf binds m x=m x
 |[],_,_=>rfl
 | (n,v)::r,m,h=>by
  unfold bindL
  rw[Jw λw hw=>h w (wR _ hw)]
  split
  ·have:x≠n:=by rintro rfl;exact h v wT
   simp[this]
  ·rfl
def Ju {kindOf:Str->Option NameKind}{x:Str}:∀{binds:List (Str×Value)}{m:Aa},(∀v,(x,v)∉binds)->bindC kindOf binds m x=m x
 |[],_,_=>rfl
 | (n,v)::r,m,h=>by
  unfold bindC
  rw[Ju λw hw=>h w (wR _ hw)]
  split
  ·rfl
  ·have:x≠n:=by rintro rfl;exact h v wT
   simp[this]
def Jv {kindOf:Str->Option NameKind}{x:Str}{v:Value}:∀{P:Ad}{vs:Ac}{i:Nat}{m:Aa},P.Nodup->P[i]?=some x->vs[i]?=some v->kindOf x=some .local →
  bindL kindOf (P.zip vs) m x=some v
 |[],_,_,_,_,h,_,_=>by simp at h
 |_::_,[],_,_,_,_,h,_=>by simp at h
 |p::P,w::vs,0,m,nd,h1,h2,hk=>by
  simp at h1 h2;subst h1;subst h2
  show bindL kindOf ((p,w)::P.zip vs) m p=_
  unfold bindL
  rw[Jw λv hv=>(WS.mp nd).1 (uz hv).1,if_pos hk]
  simp
 |p::P,w::vs,i+1,m,nd,h1,h2,hk=>by
  show bindL kindOf ((p,w)::P.zip vs) m x=_
  unfold bindL
  exact Jv (i:=i) (WS.mp nd).2 ↥h1 ↥h2 hk
def Jt {kindOf:Str->Option NameKind}{x:Str}{v:Value}:∀{P:Ad}{vs:Ac}{i:Nat}{m:Aa},P.Nodup->P[i]?=some x->vs[i]?=some v->kindOf x≠some .local →
  bindC kindOf (P.zip vs) m x=some v
 |[],_,_,_,_,h,_,_=>by simp at h
 |_::_,[],_,_,_,_,h,_=>by simp at h
 |p::P,w::vs,0,m,nd,h1,h2,hk=>by
  simp at h1 h2;subst h1;subst h2
  show bindC kindOf ((p,w)::P.zip vs) m p=_
  unfold bindC
  rw[Ju λv hv=>(WS.mp nd).1 (uz hv).1,if_neg hk]
  simp
 |p::P,w::vs,i+1,m,nd,h1,h2,hk=>by
  show bindC kindOf ((p,w)::P.zip vs) m x=_
  unfold bindC
  exact Jt (i:=i) (WS.mp nd).2 ↥h1 ↥h2 hk
def qJ (N:Ad) (vs:Ba):St:=vs.map some++List.replicate (N.length-vs.length) none
def xi (CX:CXT) (P:Program) (w:World) (K:Fg) (mg:Aa) (base:Heap) (N:Ad) (qual:Str) (scope:Scope) (f:Addr) (cd:Value) (A:Around) (outer:Aj) (s:Shared) (H:Hp) (E:XK):Cx where
 prog:=P
 w:=w
 K:=K
 mg:=mg
 base:=base
 A:=A.deeper (envOfC qual scope s.heap.objs.size f cd)
 N:=N
 s₀:=s
 H₀:=H
 env:=envOfC qual scope s.heap.objs.size f cd
 outer:=outer
 stack:=envOfC qual scope s.heap.objs.size f cd::outer
 ex:=[]
 calm:=true
 fn:=λ_=>true
 pn:=[]
 xe:=λe s'=>wpAny (model P w) (A.deeper (envOfC qual scope s.heap.objs.size f cd)) (leaving (envOfC qual scope s.heap.objs.size f cd) e) (λ_ s''=>CX outer H s E e s'') (λe' s''=>CX outer H s E e' s'') s'
def zaN {sc:Scope}{n:Nat}{x:Str}(h:sc.names.lookup x=some .cell):∃c,(cellsFrom n sc.names []).lookup x=some c:=by
 have q:=Wu sc.names n [] (.inl h)
 exact Option.isSome_iff_exists.mp q
def JE {CX:CXT}{P:Program}{w:World}{K:Fg}{mg:Aa}{base:Heap}{N ps:Ad}{qual:Str}{scope:Scope}{f:Addr}{cd:Value}{A:Around}{outer:Aj}{s s1:Shared}{H:Hp}{E:XK}{us:Ac}{vs:Ba}
  (S:zF N ps scope) (hd:A.handled=none) (e0:Vs P w K mg base A outer s H) (hl:vs.length=ps.length) (r:xh vs us)
  (x:InCallC s s.heap.objs.size (bindL (envOfC qual scope s.heap.objs.size f cd).kindOf (ps.zip us) λ_=>none) (cellsFrom (s.heap.objs.size+1) scope.names []) (bindC (envOfC qual scope s.heap.objs.size f cd).kindOf (ps.zip us) λ_=>none) s1) :
  Inv (xi CX P w K mg base N qual scope f cd A outer s H E) [] (qJ N vs) H s1:=by
 have hpl:ps.length<=N.length:=by have:=congrArg List.length S.pre;rw[wU]at this;lia
 obtain⟨h1,tk,rfl,hk⟩:=x.done
 have noA:∀b:Addr,b∉(xi CX P w K mg base N qual scope f cd A outer s H E).ex:=λb z=>absurd (show b∈([]:List Addr)from z) (by simp)
 refine⟨⟨e0.mod,S.kind,rL,rL,wq _,λy z c h1 h2=>?_,λy hy=>?_,λy c _ h=>?_,λ_=>hd,Around.frames_deeper e0.frames,.inr ⟨rL,rL⟩,λb z=>absurd z (noA b),e0.bs,e0.bsz,λb _ _=>noA b,λb z=>absurd z (noA b),e0.funs,e0.frf⟩,
  rfl,e0.bare,Un.kept hk,⟨_,x.toInCall.ns,λi y v h1 h2 h3=>?_⟩,λy c h=>⟨_,x.cell y c h⟩,e0.hok.fresh (wq _),λy c h=>?_,λp hp=>absurd (show p∈([]:Ab)from hp) (by simp),e0.hok.kept hk,?_⟩
 ·exact name_of_addr x.apart (PySem.mem_of_lookup h1) (PySem.mem_of_lookup h2)
 ·have hy:scope.names.lookup y=some .cell\/scope.names.lookup y=some .free:=hy
  rcases hy with hy | hy
  ·exact zaN hy
  ·exact absurd rL (S.nofree _ (PySem.mem_of_lookup hy))
 ·exact W3 (x.above y c (PySem.mem_of_lookup h))
 ·have hi:i<vs.length:=by
   unfold qJ at h2
   by_cases hi:i<vs.length
   ·exact hi
   ·rw[wB ↥hi]at h2
    rw[Wj]at h2
    split at h2 <;> cases h2
  have ha:vs[i]?=some v:=by
   unfold qJ at h2
   rw[wE ↥hi,we]at h2
   cases e:vs[i]? with
   |none=>rw[e]at h2;cases h2
   |some a=>rw[e]at h2;cases h2;rfl
  obtain⟨u,hu,rv⟩:=r.get ha
  have hp:ps[i]?=some y:=by
   rw[<-S.pre,List.getElem?_take_of_lt ∅];exact h1
  have ndP:ps.Nodup:=by rw[<-S.pre];exact S.nd.sublist (Wz _ _)
  refine⟨u,rv,?_⟩
  rcases S.par y (wm hp)with k | k
  ·exact .inl ⟨k,Jv ndP hp hu k⟩
  ·obtain⟨c,e⟩:=zaN (n:=s.heap.objs.size+1) k
   refine .inr ⟨.inl k,c,e,?_⟩
   have q:=x.cell y c e
   rw[Jt ndP hp hu (by show scope.names.lookup y≠_;rw[k];decide)]at q
   exact q
 ·exact e0.hok.fresh (W3 (x.above y c (PySem.mem_of_lookup h)))
 ·unfold qJ
  show _=N.length
  rw[wC,wk,uq]
  lia
def zcv {CX:CXT}{P:Program}{w:World}{K:Fg}{mg:Aa}{base:Heap}{k:Nat}{f:Addr}{name qual:Str}{params:Arguments}{body:Ai}{scope:Scope}{dV kV doc pm cdv ct oc:Value}{an od:Option Addr}
  {osl:Array (Option Value)}{N ps:Ad}{sp:Sp}(lk:K.lookup f=some ⟨oc,od,.func (PySem.W.fnOf name qual params body scope dV kV doc pm an cdv ct),osl⟩) (hcd:PySem.W.codeIn K cdv qual=true) (S:zF N ps scope)
  (len:∀vs H Q E,sp vs H Q E->vs.length=ps.length)
  (hbody:∀(A:Around) (outer:Aj) (s:Shared) (H:Hp) (vs:Ba) (Q:VK) (E:XK),xf k (A.deeper (envOfC qual scope s.heap.objs.size f cdv))->sp vs H Q E →
   ∃t,PSs (xi CX P w K mg base N qual scope f cdv A outer s H E) body t/\t { nx:=λ_ H'=>Q .non H',rt:=Q } (qJ N vs) H) :
  vC P w K mg base CX (k+1) f (PySem.W.fnOf name qual params body scope dV kV doc pm an cdv ct) ps sp:=by
 refine⟨len,λA outer s H args us vs Q E hr e0 hb r hsp=>?_⟩
 have hl:=len _ _ _ _ hsp
 have KX:K.In s.heap:=e0.mod.kin.keeps λb o e=>(e0.bs b o e).1
 have lim:s.heap.NoLimit:=e0.mod.nolimit.keeps λb o e=>(e0.bs b o e).1
 have hkind:∀y∈ps.zip us,scope.names.lookup y.1=some .local ∨ (scope.names.lookup y.1=some .cell/\((cellsFrom (s.heap.objs.size+1) scope.names []).lookup y.1).isSome=true):=λ⟨n,v⟩ hy=>by
  rcases S.par n (uz hy).1 with q | q
  ·exact .inl q
  ·exact .inr ⟨q,Wu _ _ _ (.inl q)⟩
 refine codeAny_call_function hr.depth (KX _ _ lk) rL S.co S.gen rL (PySem.W.codeRec_of KX hcd) (hb _ _ _ _ ?_)
 refine WZ S.kind hkind λenv he s1 x=>?_
 subst he
 refine⟨lim.keeps x.toInCall.keep,codeAny_func ?_⟩
 obtain⟨t,ht,hq⟩:=hbody A outer s H vs Q E (hr.deeper _) hsp
 have I:Inv (xi CX P w K mg base N qual scope f cdv A outer s H E) [] (qJ N vs) H s1:=JE S hr.hd e0 hl r x
 refine yF (ht [] s1 (qJ N vs) H _ I hq) (λfl s' hs=>?_) λe s' hs=>hs
 have fin:∀{σ':St}{H':Hp}{v:V}{u:Value},Inv (xi CX P w K mg base N qual scope f cdv A outer s H E) [] σ' H' s'->xz v u->Q v H'->CE outer P w H s Q u s' :=
  λ{σ' H' v u} J rv q=>⟨v,H',J.os,J.bare,J.base,J.hok,rv,q⟩
 cases fl with
 |ret u =>
  obtain⟨v,σ',H',J,rv,q⟩:=hs
  exact fin J rv q
 |next =>
  obtain⟨σ',H',J,q⟩:=hs
  exact fin (v:=V.non) (u:=Value.none) J rL q
 |brk =>
  obtain⟨_,_,_,q⟩:=hs
  exact False.elim q
 |cont =>
  obtain⟨_,_,_,q⟩:=hs
  exact False.elim q
section
variable {X:Cx}{x:Str}{p pos:Pos}{e:Expr}{es:Ag}{t:TA}{id T:String}{r:Ba->Hp->VK->Prop}
def tCB (r:Ba->Hp->VK->Prop) (t:TA):TE:=λσ H Q=>t σ H λvs H1=>r vs H1 Q
theorem xk (hc:ZJ X (.builtin id) r) (hg:Gl X x) (hm:X.mg x=none) (hv:bootBuiltins x=some (.builtin id)) (ha:PA X (e::es) t) (hn:x≠"__name__":=by decide) (hdb:(x == ("__debug__":Str))=false:=by decide)
  (he:starEach (e::es) X.env=(false,eval e X.env)::starEach es X.env:=by rfl) (hpl:(backTo pos (starEach es X.env)).any (·.1)=false:=by rfl):PE X (.Call (.Name x p) (e::es) [] pos) (tCB r t):=by
 intro pz s σ H Q I h
 refine ue (Z0 I hg hm hv ?_ hn hdb)
 exact PyProof.Rows.callWith_builtin1 (thn (ha pos pz s σ H _ I h) λus s1 ⟨vs,H1,I1,r1,q1⟩=>hc pz s1 σ H1 vs us Q I1 r1 q1) he hpl
theorem qj (hc:ZJ X (.type T) r) (hg:Gl X x) (hm:X.mg x=none) (hv:bootBuiltins x=some (.type T)) (ha:PA X (e::es) t) (hn:x≠"__name__":=by decide) (hdb:(x == ("__debug__":Str))=false:=by decide)
  (he:starEach (e::es) X.env=(false,eval e X.env)::starEach es X.env:=by rfl) (hpl:(backTo pos (starEach es X.env)).any (·.1)=false:=by rfl):PE X (.Call (.Name x p) (e::es) [] pos) (tCB r t):=by
 intro pz s σ H Q I h
 refine ue (Z0 I hg hm hv ?_ hn hdb)
 exact yP (thn (ha pos pz s σ H _ I h) λus s1 ⟨vs,H1,I1,r1,q1⟩=>hc pz s1 σ H1 vs us Q I1 r1 q1) he hpl
end
end L2
namespace HT
open PySem PyProof.Rows
section
variable {prog:Program}{w:World}{A:Around}{E:Af}{s:Shared}
theorem cat_tup {t b:Addr}{vs ws:Ac}{Q:Af}(ht:IsTup s.heap t vs.toArray) (hb:IsTup s.heap b ws.toArray) (hv:vs≠[])
  (h1:ws=[]->Q (.ref t) s) (h2:ws≠[]->Q (.ref s.heap.objs.size) { s with heap:=s.heap.push { cls:=.type "tuple",data:=.seq (vs++ws).toArray } })
  (hsz:vs.length+ws.length<=sizeLine):wpAny (model prog w) A (binaryOp .Add (.ref t) (.ref b)) Q E s:=by
 obtain⟨⟨cls,dd,data,sl⟩,ho,hc,n,hd⟩:=id ht
 obtain⟨⟨cls2,dd2,data2,sl2⟩,ho2,hc2,n2,hd2⟩:=id hb
 simp only at hc hd hc2 hd2
 subst hc hd hc2 hd2
 have e:vs.toArray++ws.toArray=(vs++ws).toArray:=by simp
 by_cases hw:ws=[]
 ·exact concat_meets ⟨_,ho,rL⟩ ⟨_,ho2,rL⟩ noFill_tuple_add seq_tuple_add Wv Wk (Wh _ _)
   (tuple_addW1 t b vs.toArray ws.toArray n n2 dd dd2 sl sl2 ↥hv (by simp[hw])) ⟨ho,ho2,h1 hw⟩
 ·refine concat_meets ⟨_,ho,rL⟩ ⟨_,ho2,rL⟩ noFill_tuple_add seq_tuple_add Wv Wk (Wh _ _)
   (tuple_addW2 t b vs.toArray ws.toArray n n2 dd dd2 sl sl2 ↥hv ↥hw (by rw[wz,wz];exact hsz)) ⟨ho,ho2,?_⟩
  rw[e]
  exact h2 hw
def sIx (n d:Nat):Option Int->Nat
 |none=>d
 |some v=>if v<0 then(v+(n:Int)).toNat else min v.toNat n
theorem sIx_none (n d:Nat):sIx n d none=d:=rfl
theorem sIx_nat (n d k:Nat):sIx n d (some (k:Int))=min k n:=by
 show (if(k:Int)<0 then((k:Int)+(n:Int)).toNat else min (k:Int).toNat n)=min k n
 rw[if_neg ∅,yD]
theorem zjV (n d:Nat) (hd:d<=n) (o:Option Int):sIx n d o<=n:=by
 cases o with
 |none=>exact hd
 |some v =>
  show (if v<0 then(v+(n:Int)).toNat else min v.toNat n)<=n
  by_cases hv:v<0
  ·rw[if_pos hv];lia
  ·rw[if_neg hv];exact Nat.min_le_right _ _
theorem zcn (v:Int) (n d:Nat):(if v<0 then max (v+(n:Int)) 0 else min v (n:Int))=((sIx n d (some v):Nat):Int):=by
 show (if v<0 then max (v+(n:Int)) 0 else min v (n:Int))=(((if v<0 then(v+(n:Int)).toNat else min v.toNat n):Nat):Int)
 by_cases hv:v<0
 ·simp only[if_pos hv];lia
 ·simp only[if_neg hv];lia
theorem zbE (lo hi:Option Int) (n:Nat):Builtin.Slice.sliceAdjust lo hi 1 (n:Int)=(((sIx n 0 lo:Nat):Int),((sIx n n hi:Nat):Int)):=by
 have h1:¬((1:Int)<0):=by lia
 unfold Builtin.Slice.sliceAdjust
 simp only[h1,if_false]
 refine YF ?_ ?_
 ·cases lo with
  |none=>rfl
  |some v=>exact zcn v n 0
 ·cases hi with
  |none=>rfl
  |some v=>exact zcn v n n
theorem zb0 (i j:Nat):Builtin.Slice.slicePlaces (i:Int) (j:Int) 1=j-i:=by
 unfold Builtin.Slice.slicePlaces
 have h1:(1:Int)>0:=by lia
 simp only[h1,if_true,Int.ediv_one]
 split <;> lia
theorem V9 {v:Value}{o:Option Int}{Q:Option Int->Shared->Prop}(p:IsPart v o) (h:Q o s):wpAny (model prog w) A (Builtin.Slice.slicePartIndex v) Q E s:=by
 cases p with
 |none=>exact slicePart_none h
 |int i t=>exact slicePart_int h
theorem Zk {sl:Addr}{vl vu:Value}{lo hi:Option Int}{n:Nat}{Q:Int×Int×Nat->Shared->Prop}(hs:s.heap.IsSliceOf sl vl vu .none) (pl:IsPart vl lo) (pu:IsPart vu hi)
  (h:Q (((sIx n 0 lo:Nat):Int),1,sIx n n hi-sIx n 0 lo) s):wpAny (model prog w) A (Builtin.Slice.sliceApplied (.ref sl) (pure (n:Int))) Q E s:=by
 obtain⟨os,hos,hcs,hds⟩:=id hs
 unfold Builtin.Slice.sliceApplied Builtin.Slice.sliceFields
 refine wc (wc (yh hos hds (x:=vl) rL (wc (yh hos hds (x:=vu) rL (wc (yh hos hds (x:=.none) rL (wu ?_)))))))
 refine wc (slicePart_none ?_)
 show wpAny _ _ (if((1:Int) == 0)=true then _ else _) _ _ s
 rw[if_neg ⇑1]
 refine wc (V9 pl (wc (V9 pu (wc (wu ?_)))))
 show wpAny _ _ (match Builtin.Slice.sliceAdjust lo hi 1 (n:Int)with | (lo,hi)=>pure (lo,(1:Int),Builtin.Slice.slicePlaces lo hi 1)) _ _ s
 rw[zbE lo hi n]
 show wpAny _ _ (pure (((sIx n 0 lo:Nat):Int),(1:Int),Builtin.Slice.slicePlaces ((sIx n 0 lo:Nat):Int) ((sIx n n hi:Nat):Int) 1)) _ _ s
 rw[zb0]
 exact wu h
theorem zfn (xs:Ae) (i k:Nat):((List.range k).filterMap λ(m:Nat)=>xs[((i:Int)+(m:Int)*1).toNat]?).toArray=((xs.toList.drop i).take k).toArray:=by
 have e:(λ(m:Nat)=>xs[((i:Int)+(m:Int)*1).toNat]?)=λm=>xs[i+m]?:=by
  funext m
  have:((i:Int)+(m:Int)*1).toNat=i+m:=by lia
  rw[this]
 rw[e]
 have:=pick_run xs i k
 rw[List.filterMap_map]at this
 have e2:((λx=>xs[x]?) ∘ λx=>i+x)=λm=>xs[i+m]?:=rfl
 rw[e2]at this
 rw[this]
theorem getItem_tuple_cut {t sl:Addr}{items:Ae}{vl vu:Value}{lo hi:Option Int}{Q:Af}(ht:IsTup s.heap t items) (hs:s.heap.IsSliceOf sl vl vu .none) (pl:IsPart vl lo) (pu:IsPart vu hi)
  (hw:¬(sIx items.size 0 lo=0/\sIx items.size items.size hi=items.size))
  (h:Q (.ref s.heap.objs.size) { s with heap:=s.heap.push { cls:=.type "tuple",data:=.seq ((items.toList.drop (sIx items.size 0 lo)).take (sIx items.size items.size hi-sIx items.size 0 lo)).toArray } })
  (hsz:items.size<=sizeLine):wpAny (model prog w) A (getItem (.ref t) (.ref sl)) Q E s:=by
 have htake:sizeOk (.seq ((items.toList.drop (sIx items.size 0 lo)).take (sIx items.size items.size hi-sIx items.size 0 lo)).toArray):=by
  show ((items.toList.drop (sIx items.size 0 lo)).take (sIx items.size items.size hi-sIx items.size 0 lo)).toArray.size<=sizeLine
  rw[wz,wU,wV,ul]
  omega
 have hj:sIx items.size items.size hi<=items.size:=zjV _ _ (wq _) hi
 obtain⟨os,hos,hcs,hds⟩:=id hs
 have hTs:s.TypeIs (.ref sl) "slice":=⟨os,hos,hcs⟩
 unfold getItem
 try with_reducible refine yr ?_
 first | refine wc (wu ?_) | skip
 refine wc (Yi ht.typeIs ⇑1 ?_)
 refine wc (wpAny_callSpecial?_slot (name:=Str.ofString "__getitem__") ht.typeIs yt
  (yV yt ht.typeIs entry_tuple_getitem ?_ (args_tuple_getitem _ _)))
 show wpAny _ _ (Builtin.Tuple.tupleItemsOf (.ref t) >>= _) _ _ s
 refine wc (tupleItemsOf_ ht ?_)
 refine wc (WJ hTs ?_)
 rw[if_pos ⇑1]
 refine wc (Zk hs pl pu ?_)
 have hno:¬((((sIx items.size 0 lo:Nat):Int) == 0&&(1:Int) == 1&&(sIx items.size items.size hi-sIx items.size 0 lo) == items.size)=true):=by
  intro q
  rw[uf,uf]at q
  have q1:((sIx items.size 0 lo:Nat):Int)=0:=eq_of_beq q.1.1
  have q2:sIx items.size items.size hi-sIx items.size 0 lo=items.size:=eq_of_beq q.2
  exact hw ⟨by omega,by omega⟩
 show wpAny _ _ (if(((sIx items.size 0 lo:Nat):Int) == 0&&(1:Int) == 1&&(sIx items.size items.size hi-sIx items.size 0 lo) == items.size)=true then _ else _) _ _ s
 rw[if_neg hno,zfn]
 first
  |exact wc (m:=Builtin.Tuple.tupleExact _) (yv (wu ⟨_,rfl,wu h⟩) htake)
  |exact wc (m:=Builtin.Tuple.tupleExact _) (yv (wc (wu (wu ⟨_,rfl,wu h⟩))) htake)
  |exact wc (wc (m:=Builtin.Tuple.tupleExact _) (yv (wu (wu ⟨_,rfl,wu h⟩)) htake))
  |exact wc (wc (m:=Builtin.Tuple.tupleExact _) (yv (wu ⟨_,rfl,wu h⟩) htake))
end
end HT
namespace L2
open PySem PySem.Spec PyProof.Rows
abbrev TO:=St->Hp->(Option Int->Hp->Prop)->Prop
def PO (X:Cx) (e:Option Expr) (t:TO):Prop :=
 ∀(pz:Ab) (s:Shared) (σ:St) (H:Hp) (Q:Option Int->Hp->Prop),Inv X pz σ H s->t σ H Q →
  wpAny (model X.prog X.w) X.A (evalPart e X.env) (λu s'=>∃o H',Inv X pz σ H' s'/\IsPart u o/\Q o H') X.xe s
def zdk:TO:=λ_ H Q=>Q none H
def ziN (t:TE):TO:=λσ H Q=>t σ H λx H1=>∃i,x=.int i/\Q (some i) H1
def zbM {ns:Ak}:∀{us:Ac},xh (ns.map V.int) us->IntsAre us ns:=by
 induction ns with
 |nil=>intro us r;rw[Yt]at r;cases r;exact .nil
 |cons n ns ih =>
  intro us r
  rw[yw]at r
  cases r with
  |cons r1 r2 =>
   obtain⟨t,e⟩:=r1
   subst e
   exact .cons n t (ih r2)
section
variable {X:Cx}{e:Expr}{te:TE}{lo hi:Option Expr}{tl th:TO}{pos p2:Pos}
theorem v4:PO X none zdk:=by
 intro pz s σ H Q I h
 rw[evalPart_none]
 exact wu ⟨none,H,I,.none,h⟩
theorem xH (h:PE X e te):PO X (some e) (ziN te):=by
 intro pz s σ H Q I hw
 rw[evalPart_some]
 refine thn (h pz s σ H _ I hw) λu s1 ⟨x,H1,I1,r1,q1⟩=>?_
 obtain⟨i,rfl,q⟩:=q1
 obtain⟨t,rfl⟩:=r1
 exact⟨some i,H1,I1,.int i t,q⟩
def SlR (X:Cx) (r:V->Option Int->Option Int->Hp->VK->Prop):Prop :=
 ∀(pz:Ab) (s:Shared) (σ:St) (H:Hp) (x:V) (v vl vu:Value) (lo hi:Option Int) (sl:Addr) (Q:VK),Inv X pz σ H s->xz x v->s.heap.IsSliceOf sl vl vu .none->IsPart vl lo->IsPart vu hi->r x lo hi H Q →
  ∃T id,typeLookup (.type T) "__getitem__" = pure (some (.builtin id))/\s.TypeIs v T/\wpAny (model X.prog X.w) X.A (getItem v (.ref sl)) (EP X pz σ Q) X.xe s
theorem SlR.or {r r':V->Option Int->Option Int->Hp->VK->Prop}(h:SlR X r) (h':SlR X r'):SlR X (λx lo hi H Q=>r x lo hi H Q\/r' x lo hi H Q):=by
 intro pz s σ H x v vl vu lo hi sl Q I rx hs pl pu q
 rcases q with q | q
 ·exact h pz s σ H x v vl vu lo hi sl Q I rx hs pl pu q
 ·exact h' pz s σ H x v vl vu lo hi sl Q I rx hs pl pu q
def tSl (r:V->Option Int->Option Int->Hp->VK->Prop) (te:TE) (tl th:TO):TE:=λσ H Q=>te σ H λx H1=>tl σ H1 λl H2=>th σ H2 λu H3=>r x l u H3 Q
theorem x6 {r:V->Option Int->Option Int->Hp->VK->Prop}(hr:SlR X r) (he:PE X e te) (hl:PO X lo tl) (hu:PO X hi th):PE X (.Subscript e (.Slice lo hi none p2) pos) (tSl r te tl th):=by
 intro pz s σ H Q I h
 refine Subscript_ (thn (he pz s σ H _ I h) λv s1 ⟨x,H1,I1,r1,q1⟩=>?_)
 refine wpAny_Slice (thn (hl pz s1 σ H1 _ I1 q1) λvl s2 ⟨l,H2,I2,pl,q2⟩=>thn (hu pz s2 σ H2 _ I2 q2) λvu s3 ⟨u,H3,I3,pu,q3⟩=>?_)
 rw[evalPart_none]
 refine wu ?_
 have I4:Inv X pz σ H3 { s3 with heap:=s3.heap.push { cls:=.type "slice",data:=.fields #[vl,vu,.none] } }:=I3.kept (t':=s3.toks) λb ob q=>wg _ q
 obtain⟨T,id,hT,ht,hg⟩:=hr pz { s3 with heap:=s3.heap.push { cls:=.type "slice",data:=.fields #[vl,vu,.none] } } σ H3 x v vl vu l u s3.heap.objs.size Q I4 r1 (Heap.IsSliceOf.new ..) pl pu q3
 show wpAny (model X.prog X.w) X.A (subscriptTail e (.Slice lo hi none p2) v (.ref s3.heap.objs.size)) (EP X pz σ Q) X.xe { s3 with heap:=s3.heap.push { cls:=.type "slice",data:=.fields #[vl,vu,.none] } }
 exact tail_any (ops:=[.ref s3.heap.objs.size,v]) ht hT hg (by with_unfolding_all rfl)
def qB (xs:Ba) (lo hi:Option Int):Ba:=(xs.drop (HT.sIx xs.length 0 lo)).take (HT.sIx xs.length xs.length hi-HT.sIx xs.length 0 lo)
theorem vZ (xs:Ba) (lo hi:Option Int):(qB xs lo hi).length<=xs.length:=by
 unfold qB
 rw[wU,wV]
 lia
def zhq (K:Fg):V->Option Int->Option Int->Hp->VK->Prop:=λx lo hi H Q=>∃a xs,x=.ref a/\SqT K H a xs ∧
 ¬(HT.sIx xs.length 0 lo=0/\HT.sIx xs.length xs.length hi=xs.length)/\∀p,H p=none->Q (.ref p) (upd H p (.tup (qB xs lo hi)))
theorem XS:SlR X (zhq X.K):=by
 intro pz s σ H x v vl vu lo hi sl Q I rx hs pl pu h
 obtain⟨a,xs,rfl,hx,hw,q⟩:=h
 cases rx
 obtain⟨its,r,ht,hz⟩:=I.tuple hx
 have hlen:its.toArray.size=xs.length:=by rw[wz];exact r.length.symm
 refine⟨"tuple",_,yt.lookup,ht.typeIs,?_⟩
 refine HT.getItem_tuple_cut ht hs pl pu (by rw[hlen];exact hw) ?_ (by rw[hlen];exact hz)
 rw[hlen]
 refine⟨.ref s.heap.objs.size,_,I.laid (t':=s.toks) (o:=.tup (qB xs lo hi)) (λb ob q=>wg _ q) (wq _) ?_,rL,q _ (I.hok.fresh (wq _))⟩
 exact⟨⟨wY (vZ xs lo hi) hz,.new⟩,_,(r.drop (HT.sIx xs.length 0 lo)).take (HT.sIx xs.length xs.length hi-HT.sIx xs.length 0 lo),IsTup.new _ _⟩
inductive zfs (K:Fg) (x:V) (y:V) (H:Hp) (Q:VK):Prop
 |mk:∀a b xs ys,(x=.ref a)->(y=.ref b)->(SqT K H a xs)->(SqT K H b ys)->(xs≠[])->(xs.length+ys.length<=sizeLine)->((ys=[]->Q (.ref a) H))->((ys≠[]->∀p,H p=none->Q (.ref p) (upd H p (.tup (xs++ys)))))->zfs K x y H Q
def zlU (K:Fg):R2:=λx y H Q=>zfs K x y H Q
theorem xh.nil_iff {xs:Ba}{us:Ac}(r:xh xs us):us=[]↔xs=[]:=by
 cases r with
 |nil=>simp
 |cons _ _=>simp
theorem zha:OpR X (binaryOp .Add) (zlU X.K):=by
 intro pz s σ H x y v u Q I rx ry h
 obtain⟨a,b,xs,ys,rfl,rfl,ha,hb,hx,hz,q1,q2⟩:=h
 cases rx
 cases ry
 obtain⟨its,r1,p1,_⟩:=I.tuple ha
 obtain⟨its2,r2,p2,_⟩:=I.tuple hb
 refine HT.cat_tup p1 p2 (λz=>hx (r1.nil_iff.mp z)) (λz=>⟨.ref a,H,I,rfl,q1 (r2.nil_iff.mp z)⟩) (λz=>?_) (by rw[<-r1.length,<-r2.length];exact hz)
 refine⟨.ref s.heap.objs.size,_,I.laid (t':=s.toks) (o:=.tup (xs++ys)) (λb ob q=>wg _ q) (wq _) ?_,rL,q2 (λw=>z (r2.nil_iff.mpr w)) _ (I.hok.fresh (wq _))⟩
 exact⟨⟨by rw[wC];exact hz,.new⟩,_,r1.append r2,IsTup.new _ _⟩
end
def ixN (n:Nat) (i:Int):Option Nat:=if 0<=i then(if i<n then some i.toNat else none)else if -(n:Int)<=i then some (i+n).toNat else none
def atI {α:Type}(xs:List α) (i:Int):Option α:=(ixN xs.length i).bind λj=>xs[j]?
def zcz {n:Nat}{i:Int}{j:Nat}(h:ixN n i=some j):seqIndex? i n=some j/\j<n ∧ -(n:Int)<=i/\i<n:=by
 unfold ixN at h
 by_cases h0:0<=i
 ·rw[if_pos h0]at h
  by_cases h1:i<n
  ·rw[if_pos h1]at h
   have e:i.toNat=j:=Option.some.inj h
   exact⟨by rw[seqIndex_of h0 h1,e],by lia,by lia,h1⟩
  ·rw[if_neg h1]at h;cases h
 ·rw[if_neg h0]at h
  by_cases h1 : -(n:Int)<=i
  ·rw[if_pos h1]at h
   have e:(i+n).toNat=j:=Option.some.inj h
   exact⟨by rw[seqIndex_neg ∅ h1,e],by lia,h1,by lia⟩
  ·rw[if_neg h1]at h;cases h
def zcj {α:Type}{xs:List α}{i:Int}{v:α}(h:atI xs i=some v):∃j,seqIndex? i xs.length=some j/\xs[j]?=some v/\j<xs.length ∧ -(xs.length:Int)<=i/\i<xs.length:=by
 unfold atI at h
 cases e:ixN xs.length i with
 |none=>rw[e]at h;cases h
 |some j =>
  rw[e]at h
  obtain⟨h1,h2,h3,h4⟩:=zcz e
  exact⟨j,h1,h,h2,h3,h4⟩
def xG {α:Type}{xs:List α}{j:Nat}{v:α}(h:xs[j]?=some v):atI xs (j:Int)=some v:=by
 have hj:j<xs.length:=(wn.mp h).1
 have e:ixN xs.length (j:Int)=some j:=by
  unfold ixN
  rw[if_pos ∅,if_pos ∅];simp
 unfold atI;rw[e];exact h
def Vv {α:Type}(xs:List α) (v:α):atI (xs++[v]) (-1)=some v:=by
 have hl:(xs++[v]).length=xs.length+1:=by simp
 have e:ixN (xs++[v]).length (-1)=some xs.length:=by
  unfold ixN
  rw[hl,if_neg ⇑1,if_pos ∅]
  congr 1
  lia
 unfold atI
 rw[e]
 show (xs++[v])[xs.length]?=some v
 simp
def zci (b:Expr):Prop:=∀o i,subscripted b false o i=operate [o,i] (getItem o i)
def IxR (X:Cx) (r:R2):Prop :=
 ∀(value slice:Expr) (pz:Ab) (s:Shared) (σ:St) (H:Hp) (x y:V) (v u:Value) (Q:VK),Inv X pz σ H s->xz x v->xz y u->r x y H Q →
  subscripted slice false v u=operate [v,u] (getItem v u)->wpAny (model X.prog X.w) X.A (subscriptTail value slice v u) (EP X pz σ Q) X.xe s
def MtR (X:Cx) (id:String) (r:V->Ba->Hp->VK->Prop):Prop :=
 ∀(pz:Ab) (s:Shared) (σ:St) (H:Hp) (x:V) (xs:Ba) (v:Value) (us:Ac) (Q:VK),Inv X pz σ H s->xz x v->xh xs us->r x xs H Q →
  wpAny (model X.prog X.w) X.A (call (.builtin id) (v::us)) (EP X pz σ Q) X.xe s
section
variable {X:Cx}{a b:Expr}{ta tb:TE}{pos:Pos}
theorem xb {r:R2}(hr:IxR X r) (ha:PE X a ta) (hb:PE X b tb) (hs:zci b):PE X (.Subscript a b pos) (tOp r ta tb):=by
 intro pz s σ H Q I h
 exact Subscript_ (zi1 ha hb I h λv u s2 x y H2 I2 rx ry q=>hr a b pz s2 σ H2 x y v u Q I2 rx ry q (hs _ _))
inductive zix (K:Fg) (x:V) (y:V) (H:Hp) (Q:VK):Prop
 |mk:∀p xs i v,(x=.ref p)->(y=.int i)->(SqL K H p xs)->(atI xs i=some v)->(Q v H)->zix K x y H Q
def zjR (K:Fg):R2:=λx y H Q=>zix K x y H Q
inductive ziy (K:Fg) (x:V) (y:V) (H:Hp) (Q:VK):Prop
 |mk:∀p xs i v,(x=.ref p)->(y=.int i)->(SqT K H p xs)->(atI xs i=some v)->(Q v H)->ziy K x y H Q
def ZV (K:Fg):R2:=λx y H Q=>ziy K x y H Q
theorem zU:IxR X (zjR X.K):=by
 intro value slice pz s σ H x y v u Q I rx ry h hs
 obtain⟨p,xs,i,z,rfl,rfl,hq,he,q⟩:=h
 cases rx
 obtain⟨t,rfl⟩:=ry
 obtain⟨its,r,pl,hz⟩:=I.list hq
 obtain⟨j,h1,h2,h3,h4,h5⟩:=zcj he
 obtain⟨w,ew,rw'⟩:=r.get h2
 have hl:=r.length
 have hn:=zaa
 have fin:EP X pz σ Q w s:=⟨z,H,I,rw',q⟩
 by_cases h0:0<=i
 ·have hj:i.toNat=j:=by
   rw[seqIndex_of h0 h5]at h1
   exact Option.some.inj h1
  exact item_listR pl.isList h0 ∅ (by rw[hj];simpa using ew) fin hs
 ·have hj:(i+(its.toArray.size:Int)).toNat=j:=by
   rw[seqIndex_neg ∅ h4]at h1
   rw[wz,<-hl]
   exact Option.some.inj h1
  exact subscriptTail_builtinR (x:=w) pl.isList.typeIs slot_list_getitem.lookup
   (wpAny_getItem_list_neg (Q:=λr s'=>r=w/\EP X pz σ Q r s') pl.isList ∅ (by rw[wz] <;> lia) ∅ (by rw[hj];simpa using ew) ⟨rfl,fin⟩) hs
theorem ve:IxR X (ZV X.K):=by
 intro value slice pz s σ H x y v u Q I rx ry h hs
 obtain⟨p,xs,i,z,rfl,rfl,hq,he,q⟩:=h
 cases rx
 obtain⟨t,rfl⟩:=ry
 obtain⟨its,r,pl,hz⟩:=I.tuple hq
 obtain⟨j,h1,h2,h3,h4,h5⟩:=zcj he
 obtain⟨w,ew,rw'⟩:=r.get h2
 have hl:=r.length
 have hn:=zaa
 have fin:EP X pz σ Q w s:=⟨z,H,I,rw',q⟩
 exact subscriptTail_builtinR (x:=w) pl.typeIs slot_tuple_getitem.lookup
  (getItem_tuple (j:=j) (Q:=λr s'=>r=w/\EP X pz σ Q r s') pl ∅ ∅ (by rw[wz,<-hl];exact h1) ↥ew ⟨rfl,fin⟩) hs
theorem pxt {a:Expr}{ta:TE}{i:Int}{j:_}{p q:Pos}(ha:PE X a ta):PE X (.Subscript a (.Constant (.int i) j p) q) (tOp (ZV X.K) ta (tC (.int i))):=xb ve ha zg (λ_ _=>rfl)
theorem zbU (its:Ac) (n j:Nat) (u:Value):Obj.mapSeq (·.setIfInBounds j u) { cls:=.type "list",data:=.seq its.toArray n } = { cls:=.type "list",data:=.seq (its.set j u).toArray n }:=by
 simp[Obj.mapSeq]
theorem Inv.lst {pz:Ab}{σ:St}{H:Hp}{s:Shared}{p:Addr}{xs:Ba}(I:Inv X pz σ H s) (h:H p=some (.lst xs)) :
  ∃(its:Ac) (n:Nat),xh xs its/\s.heap.get? p=some { cls:=.type "list",data:=.seq its.toArray n }/\xs.length<=sizeLine:=by
 obtain⟨z,its,n,r,e⟩:=I.hok p _ h
 exact⟨its,n,r,e,z⟩
theorem Inv.lstUpd {pz:Ab}{σ:St}{H:Hp}{s:Shared}{p:Addr}{xs ys:Ba}{its its':Ac}{n n':Nat}{f:Obj->Obj}(I:Inv X pz σ H s) (h:H p=some (.lst xs))
  (ho:s.heap.get? p=some { cls:=.type "list",data:=.seq its.toArray n }) (hf:f { cls:=.type "list",data:=.seq its.toArray n } = { cls:=.type "list",data:=.seq its'.toArray n' }) (r:xh ys its') (hz:ys.length<=sizeLine) (t:Nat) :
  Inv X pz σ (upd H p (.lst ys)) { s with heap:=s.heap.update p f,toks:=t }:=by
 have e:(s.heap.update p f).get? p=some { cls:=.type "list",data:=.seq its'.toArray n' }:=by
  rw[yC f ho (by rw[hf] <;> rfl),hf]
 refine I.write (x:=p) (e:=p) (by rw[h];trivial) (.inl rfl) (λb u hb q=>(yA _ _ (Ne.symm hb)).trans q) ⟨_,e⟩ ?_
 exact⟨hz,its',n',r,e⟩
def zlW:V->V->V->Hp->(Hp->Prop)->Prop:=λo i v H Q=>∃p xs k j,o=.ref p/\i=.int k/\H p=some (.lst xs)/\ixN xs.length k=some j/\Q (upd H p (.lst (xs.set j v)))
theorem vB:zkQ X zlW:=by
 intro pz s σ H o i v ov iv u Q I ro ri rv h
 obtain⟨p,xs,k,j,rfl,rfl,hp,hj,q⟩:=h
 cases ro
 obtain⟨t,rfl⟩:=ri
 obtain⟨its,n,r,ho,hz⟩:=I.lst hp
 obtain⟨h1,h2,h3,h4⟩:=zcz hj
 have hl:=r.length
 have hn:=zaa
 have I':Inv X pz σ (upd H p (.lst (xs.set j v))) { s with heap:=s.heap.update p (Obj.mapSeq (·.setIfInBounds j u)) } :=
  I.lstUpd hp ho (zbU its n j u) (r.set rv j) (by rw[Wm];exact hz) s.toks
 by_cases h0:0<=k
 ·have hk:k.toNat=j:=by
   rw[seqIndex_of h0 h4]at h1
   exact Option.some.inj h1
  exact PySem.W.ki_setAt ho h0 ∅ (by rw[wz,<-hl];exact h4) (by rw[hk];exact⟨_,I',q⟩)
 ·have hk:(k+(its.toArray.size:Int)).toNat=j:=by
   rw[seqIndex_neg ∅ h3]at h1
   rw[wz,<-hl]
   exact Option.some.inj h1
  exact PySem.W.ki_setBack ho ∅ (by rw[wz,<-hl];exact h3) ∅ (by rw[hk];exact⟨_,I',q⟩)
theorem zar (lo hi:Option Int) (n:Nat):(sliceBounds lo hi none n).1=((HT.sIx n 0 lo:Nat):Int)/\(sliceBounds lo hi none n).2.1=((HT.sIx n n hi:Nat):Int)/\(sliceBounds lo hi none n).2.2=1:=by
 refine⟨?_,?_,rL⟩
 ·cases lo with
  |none=>simp[sliceBounds,HT.sIx]
  |some i =>
   simp only[sliceBounds,HT.sIx,Yo,show (1:Int)>0 by decide,if_true]
   by_cases h:i<0
   ·simp only[h,if_true] <;> lia
   ·simp only[h,if_false] <;> lia
 ·cases hi with
  |none=>simp[sliceBounds,HT.sIx]
  |some i =>
   simp only[sliceBounds,HT.sIx,Yo,show (1:Int)>0 by decide,if_true]
   by_cases h:i<0
   ·simp only[h,if_true] <;> lia
   ·simp only[h,if_false] <;> lia
theorem Jl (its:Ac) (lo hi:Option Int):slicePick its.toArray lo hi none=((its.drop (HT.sIx its.length 0 lo)).take (HT.sIx its.length its.length hi-HT.sIx its.length 0 lo)).toArray:=by
 obtain⟨h1,h2,h3⟩:=zar lo hi its.toArray.size
 unfold slicePick
 rw[h1,h2,h3]
 simp only[sliceRange_one,pick_run,wz] <;> rfl
def rSlL (K:Fg):V->Option Int->Option Int->Hp->VK->Prop:=λx lo hi H Q=>∃a xs,x=.ref a/\SqL K H a xs/\∀p,H p=none->Q (.ref p) (upd H p (.lst (qB xs lo hi)))
theorem ZG:SlR X (rSlL X.K):=by
 intro pz s σ H x v vl vu lo hi sl Q I rx hs pl pu h
 obtain⟨a,xs,rfl,hx,q⟩:=h
 cases rx
 obtain⟨its,r,ht,hz⟩:=I.list hx
 have hlen:=r.length
 refine⟨"list",_,slot_list_getitem.lookup,ht.isList.typeIs,?_⟩
 refine Yj ht.isList hs pl pu .none (by simp) ?_ (by rw[wz] <;> lia)
 rw[Jl,<-hlen]
 refine⟨.ref s.heap.objs.size,_,I.laid (t':=s.toks) (o:=.lst (qB xs lo hi)) (λb ob q=>wg _ q) (wq _) ?_,rL,q _ (I.hok.fresh (wq _))⟩
 exact⟨wY (vZ xs lo hi) hz,_,0,(r.drop (HT.sIx xs.length 0 lo)).take (HT.sIx xs.length xs.length hi-HT.sIx xs.length 0 lo),wD _ rL⟩
theorem xt:ZJ X (.builtin "len") (λxs H Q=>∃p ys,xs=[.ref p]/\(SqL X.K H p ys\/SqT X.K H p ys)/\Q (.int ys.length) H):=by
 intro pz s σ H xs us Q I r h
 obtain⟨p,ys,rfl,hq,q⟩:=h
 obtain⟨u,rfl,rx⟩:=Xz r
 cases rx
 have hn:=zaa
 rcases hq with hq | hq
 ·obtain⟨its,r',pl,hz⟩:=I.list hq
  have hlen:=r'.length
  exact Calls.call_len_list pl.isList (by simp only[wz] <;> lia) ⟨.int ys.length,H,I.tok _,⟨s.toks+1,by rw[wz,hlen]⟩,q⟩
 ·obtain⟨its,r',pl,hz⟩:=I.tuple hq
  have hlen:=r'.length
  exact len_tuple pl (by simp only[wz] <;> lia) ⟨.int ys.length,H,I.tok _,⟨s.toks+1,by rw[wz,hlen]⟩,q⟩
theorem vM:ZJ X (.type "list") (λxs H Q=>∃p ys,xs=[.ref p]/\(SqL X.K H p ys\/SqT X.K H p ys)/\∀l,H l=none->Q (.ref l) (upd H l (.lst ys))):=by
 intro pz s σ H xs us Q I r h
 obtain⟨p,ys,rfl,hq,q⟩:=h
 obtain⟨u,rfl,rx⟩:=Xz r
 cases rx
 have fin:∀(its:Ac),xh ys its->ys.length<=sizeLine->∀(h':Heap) (c':Nat),(∀b o',s.heap.get? b=some o'->h'.get? b=some o') →
   h'.get? s.heap.objs.size=some { cls:=.type "list",dict:=none,data:=.seq its.toArray c',slots:=#[] }->EP X pz σ Q (.ref s.heap.objs.size) { s with heap:=h' }:=λits r' hz h' c' kp e =>
  ⟨.ref s.heap.objs.size,_,I.laid (t':=s.toks) kp (wq _) (show xD X.prog X.w _ h' _ (.lst ys)from⟨hz,its,c',r',e⟩),rfl,q _ (I.hok.fresh (wq _))⟩
 rcases hq with hq | hq
 ·obtain⟨its,r',pl,hz⟩:=I.list hq
  have hlen:=r'.length
  obtain⟨o,ho,hc,n,hd⟩:=pl.isList
  exact call_list_seq p (.inl rfl) ho hc hd (λh' c' kp e=>fin its r' hz h' c' kp e) (by simp only[wz] <;> lia)
 ·obtain⟨its,r',pl,hz⟩:=I.tuple hq
  have hlen:=r'.length
  obtain⟨o,ho,hc,n,hd⟩:=pl
  exact call_list_seq p (.inr rfl) ho hc hd (λh' c' kp e=>fin its r' hz h' c' kp e) (by simp only[wz] <;> lia)
theorem qv:ZJ X (.type "tuple") (λxs H Q=>∃p ys,xs=[.ref p]/\((SqL X.K H p ys/\∀l,H l=none->Q (.ref l) (upd H l (.tup ys)))\/(SqT X.K H p ys/\Q (.ref p) H))):=by
 intro pz s σ H xs us Q I r h
 obtain⟨p,ys,rfl,h⟩:=h
 obtain⟨u,rfl,rx⟩:=Xz r
 cases rx
 rcases h with⟨hq,q⟩ | ⟨hq,q⟩
 ·obtain⟨its,r',pl,hz⟩:=I.list hq
  have hlen:=r'.length
  refine call_tuple_list pl.isList (λh' kp=>?_) (by simp only[wz] <;> lia)
  have I1:Inv X pz σ H { s with heap:=h' }:=I.kept (t':=s.toks) kp
  have I2:Inv X pz σ (upd H h'.objs.size (.tup ys)) { s with heap:=h'.push { cls:=.type "tuple",data:=.seq its.toArray } } :=
   I1.laid (t':=s.toks) (λb o e=>wg _ e) (wq _) (show xD X.prog X.w _ _ _ (.tup ys)from⟨⟨hz,.new⟩,its,r',IsTup.new _ _⟩)
  exact⟨.ref h'.objs.size,_,I2,rL,q _ (I1.hok.fresh (wq _))⟩
 ·obtain⟨its,r',pl,hz⟩:=I.tuple hq
  exact call_tuple_same pl ⟨.ref p,H,I,rL,q⟩
def tyV (K:Fg) (T:String) (x:V) (H:Hp):Prop:=match x with
 |.str _=>T = "str"
 |.int _=>T = "int"
 |.ref p=>(T = "list"/\∃xs,SqL K H p xs)\/(T = "tuple"/\∃o,K.lookup p=some o/\o.cls=.type "tuple"/\o.dict=none) ∨
   (T = "dict"/\((∃kvs,H p=some (.dK kvs))\/∃kvs,H p=some (.dT kvs)))\/(T = "set"/\∃S n,H p=some (.set S n))
 |_=>False
theorem zkI {pz:Ab}{σ:St}{H:Hp}{s:Shared}{T:String}{x:V}{v:Value}(I:Inv X pz σ H s) (r:xz x v) (ty:tyV X.K T x H) :
  s.TypeIs v T/\∀a,v=.ref a->∃ob,s.heap.get? a=some ob/\ob.dict=none:=by
 cases x with
 |str z =>
  obtain⟨t,rfl⟩:=r
  cases(show T = "str" from ty)
  exact⟨typeIs_str s z t,λ_ e=>nomatch e⟩
 |int i =>
  obtain⟨t,rfl⟩:=r
  cases(show T = "int" from ty)
  exact⟨typeIs_int s i t,λ_ e=>nomatch e⟩
 |ref p =>
  cases r
  rcases ty with⟨rfl,xs,hq⟩ | ⟨rfl,o,hk,hc,hd⟩ | ⟨rfl,hk⟩ | ⟨rfl,S,n,hk⟩
  ·obtain⟨its,_,pl,_⟩:=I.list hq
   refine⟨pl.isList.typeIs,λa e=>?_⟩
   cases e
   obtain⟨o,n,e,c,hd,_⟩:=pl
   exact⟨o,e,hd⟩
  ·refine⟨⟨o,I.kIn p o hk,hc⟩,λa e=>?_⟩
   cases e
   exact⟨o,I.kIn _ o hk,hd⟩
  ·have z:∃o,s.heap.get? p=some o/\o.ExactDict:=by
    rcases hk with⟨kvs,hk⟩ | ⟨kvs,hk⟩
    ·obtain⟨_,_,_,_,o,_,_,e,ex,_⟩:=I.hok p _ hk
     exact⟨o,e,ex⟩
    ·obtain⟨_,_,_,_,o,_,_,e,ex,_⟩:=I.hok p _ hk
     exact⟨o,e,ex⟩
   obtain⟨o,e,ex⟩:=z
   refine⟨⟨o,e,ex.1⟩,λa e2=>?_⟩
   cases e2
   exact⟨o,e,ex.2.1⟩
  ·obtain⟨o,_,_,_,e,ex,_⟩:=I.hok p _ hk
   refine⟨⟨o,e,ex.1⟩,λa e2=>?_⟩
   cases e2
   exact⟨o,e,ex.2.1⟩
 |_=>exact False.elim ty
def tBM (K:Fg) (T:String) (r:V->Ba->Hp->VK->Prop) (to:TE) (t:TA):TE:=λσ H Q=>to σ H λx H1=>tyV K T x H1/\t σ H1 λxs H2=>r x xs H2 Q
variable {o e:Expr}{es:Ag}{to:TE}{t:TA}{name:Str}{apos cpos:Pos}{T id:String}{r:V->Ba->Hp->VK->Prop}
theorem Vd (pa:PlainAttrs T) (slot:Slot T name id) (hty:typeOf (.builtin id)=pure (.type "method_descriptor")) (hm:MtR X id r) (ho:PE X o to) (ha:PA X (e::es) t)
  (hbase:attributeBase o name X.env (eval o X.env)=eval o X.env:=by rfl)
  (hfew:((backTo cpos (starEach (e::es) X.env)).all (λx=>!x.1)&&(backToKw cpos (keywordEach [] X.env)).all (λx=>x.1.isSome)
   && decide ((e::es).length+([]:List Keyword).length+(if([]:List Keyword).isEmpty then 0 else 1)<30))=true:=by rfl)
  (hline:(apos.endLine == cpos.line)=true:=by rfl) (hs:starEach (e::es) X.env=(false,eval e X.env)::starEach es X.env:=by rfl) (hplain:(backTo cpos (starEach es X.env)).any (·.1)=false:=by rfl) :
  PE X (.Call (.Attribute o name apos) (e::es) [] cpos) (tBM X.K T r to t):=by
 intro pz s σ H Q I h
 refine wpAny_Call_method_late hbase hfew hline rL (thn (ho pz s σ H _ I h) λv s1 ⟨x,H1,I1,r1,ty,q1⟩=>?_)
 obtain⟨h1,h2⟩:=zkI I1 r1 ty
 refine⟨T,id,pa,slot,hty,h1,h2,?_⟩
 have hA:=ha cpos pz s1 σ H1 _ I1 q1
 rw[hs]at hA ⊢
 refine Calls.callWith_builtin (by show (false || (backTo cpos (starEach es X.env)).any (·.1))=false;rw[hplain] <;> rfl) (Calls.evalArgs_plain ?_)
 exact thn hA λus s2 ⟨vs,H2,I2,r2,q2⟩=>hm pz s2 σ H2 x vs v us Q I2 r1 r2 q2
end
def MtM (X:Cx) (id:String) (r:V->Ba->Hp->VK->Prop):Prop :=
 ∀(pz:Ab) (s:Shared) (σ:St) (H:Hp) (x:V) (xs:Ba) (v:Value) (us:Ac) (Q:VK),Inv X pz σ H s->xz x v->xh xs us->r x xs H Q →
  wpAny (model X.prog X.w) X.A (call (.builtin id) (v::us)) (EP X pz σ Q) X.xe s
def xh.one:∀{x:V}{us:Ac},xh [x] us->∃u,us=[u]/\xz x u
 |_,_,.cons r .nil=>⟨_,rfl,r⟩
def xh.two:∀{x y:V}{us:Ac},xh [x,y] us->∃u v,us=[u,v]/\xz x u/\xz y v
 |_,_,_,.cons r (.cons q .nil)=>⟨_,_,rfl,r,q⟩
def xh.rep {xs:Ba}{us:Ac}(h:xh xs us):∀k:Nat,xh (List.replicate k xs).flatten (List.replicate k us).flatten
 |0=>.nil
 |k+1=>by
  rw[yW,yW,uQ,uQ]
  exact xh.append h (xh.rep h k)
def JD (its:Ac):∀(k:Nat) (acc:Ac),
  List.foldl (λx1 x2=>x1++x2) acc.toArray (List.replicate k its.toArray)=(acc++(List.replicate k its).flatten).toArray
 |0,acc=>by simp
 |k+1,acc=>by
  have e:acc.toArray++its.toArray=(acc++its).toArray:=by simp
  have e2:(acc++its)++(List.replicate k its).flatten=acc++(List.replicate (k+1) its).flatten:=by
   rw[yW,uQ,WA]
  rw[<-e2,<-JD its k (acc++its),<-e,yW,Yu]
section
variable {X:Cx}{pz:Ab}{σ:St}{H:Hp}{s:Shared}{l b:Addr}{xs ys zs:Ba}
theorem Inv.lset {its its':Ac}{n:Nat}{f:Ae->Ae}{t':Nat}(I:Inv X pz σ H s) (hH:H l=some (.lst xs))
  (e:s.heap.get? l=some { cls:=.type "list",data:=.seq its.toArray n }) (hf:f its.toArray=its'.toArray) (hv:xh ys its') (hz:ys.length<=sizeLine) :
  Inv X pz σ (upd H l (.lst ys)) { s with heap:=s.heap.update l (Obj.mapSeq f),toks:=t' }:=by
 have q:=PySem.IsL.update e f
 rw[hf]at q
 refine I.write (x:=l) (e:=l) (by rw[hH];exact trivial) (.inl rfl) (λb' u hb hu=>(yA s.heap (Obj.mapSeq f) (Ne.symm hb)).trans hu) ⟨_,q⟩ ?_
 exact⟨hz,its',_,hv,q⟩
theorem Inv.lnew {its:Ac}{t':Nat}(I:Inv X pz σ H s) (hv:xh ys its) (hz:ys.length<=sizeLine) :
  Inv X pz σ (upd H s.heap.objs.size (.lst ys)) { s with heap:=s.heap.push { cls:=.type "list",data:=.seq its.toArray },toks:=t' } :=
 I.laid (λ_ _ q=>wg _ q) (wq _) ⟨hz,its,0,hv,wD _ rfl⟩
theorem Inv.fresh (I:Inv X pz σ H s):H s.heap.objs.size=none:=I.hok.fresh (wq _)
theorem Inv.lstM (I:Inv X pz σ H s) (hH:H l=some (.lst xs)):xs.length<=sizeLine/\∃(its:Ac) (n:Nat),xh xs its/\xs.length=its.length/\s.heap.get? l=some { cls:=.type "list",data:=.seq its.toArray n }:=by
 obtain⟨z,its,n,r,e⟩:=I.hok l _ hH
 exact⟨z,its,n,r,r.length,e⟩
theorem VO {n:Nat}(h:n<=sizeLine):Builtin.List.listTooLong n=false:=by
 unfold Builtin.List.listTooLong
 exact wG ∅
end
section
variable {X:Cx}
def zho:V->Ba->Hp->VK->Prop:=λx vs H Q=>∃l xs y,x=.ref l/\vs=[y]/\H l=some (.lst xs)/\xs.length<sizeLine/\Q .non (upd H l (.lst (xs++[y])))
theorem qO:MtM X "list.append" zho:=by
 intro pz s σ H x vs v us Q I rx rv h
 obtain⟨l,xs,y,rfl,rfl,hH,hz,q⟩:=h
 cases rx
 obtain⟨u,rfl,ru⟩:=rv.one
 obtain⟨z,its,n,r,hl,e⟩:=I.lstM hH
 refine call_meets F.slot_list_append ⟨_,e,rfl⟩ F.entry_list_append (F.args_list_append_2 _ _) (PySem.list_append l its.toArray n u (by rw[wz];lia)) ⟨e,?_⟩
 refine⟨.non,_,I.lset (its':=its++[u]) hH e (by simp) (r.append (.cons ru .nil)) ?_,rfl,q⟩
 rw[wC,WF]
 lia
inductive ziv (x:V) (y:V) (H:Hp) (Q:VK):Prop
 |mk:∀l b xs zs,(x=.ref l)->(y=.ref b)->(H l=some (.lst xs))->(H b=some (.lst zs))->(xs.length+zs.length<=sizeLine)->(∀p,H p=none->Q (.ref p) (upd H p (.lst (xs++zs))))->ziv x y H Q
def rCat:R2:=λx y H Q=>ziv x y H Q
theorem VP:OpR X (binaryOp .Add) rCat:=by
 intro pz s σ H x y v u Q I rx ry h
 obtain⟨l,b,xs,zs,rfl,rfl,hH,hB,hz,q⟩:=h
 cases rx
 cases ry
 obtain⟨z,its,n,r,hl,e⟩:=I.lstM hH
 obtain⟨z2,its2,n2,r2,hl2,e2⟩:=I.lstM hB
 refine PySem.P.add_list e e2 ?_ (by rw[wz,wz];lia)
 have ea:its.toArray++its2.toArray=(its++its2).toArray:=by simp
 rw[ea]
 exact⟨.ref _,_,I.lnew (t':=s.toks) (r.append r2) (by rw[wC];lia),rfl,q _ I.fresh⟩
inductive ziA (x:V) (y:V) (H:Hp) (Q:VK):Prop
 |mk:∀l k xs,(x=.ref l)->(y=.int k)->(H l=some (.lst xs))->(-(2^63)<=k)->(k<2^63)->(xs.length*k.toNat<=sizeLine)->(∀p,H p=none->Q (.ref p) (upd H p (.lst (List.replicate k.toNat xs).flatten)))->ziA x y H Q
def rRep:R2:=λx y H Q=>ziA x y H Q
theorem zgQ {α:Type}(xs:List α) (k:Nat):(List.replicate k xs).flatten.length=k*xs.length:=by
 induction k with
 |zero=>simp
 |succ k ih=>rw[yW,uQ,wC,ih,Nat.succ_mul,Yv]
theorem zbZ:OpR X (binaryOp .Mult) rRep:=by
 intro pz s σ H x y v u Q I rx ry h
 obtain⟨l,k,xs,rfl,rfl,hH,h1,h2,hz,q⟩:=h
 cases rx
 obtain⟨t,rfl⟩:=ry
 obtain⟨z,its,n,r,hl,e⟩:=I.lstM hH
 have hlen:its.toArray.size*k.toNat<=sizeLine:=by rw[wz,<-hl];exact hz
 have hcap:¬its.toArray.size*k.toNat>(2^63-1)/8:=by
  have:(sizeLine:Nat)<=(2^63-1)/8:=by decide
  lia
 have hfit:¬(!Builtin.List.listFitsIndex k)=true:=by
  rw[fitsIndex_both h1 h2]
  exact wN
 have hlong:¬Builtin.List.listTooLong (its.toArray.size*k.toNat)=true:=by
  rw[VO hlen]
  exact wN
 have hnew:List.foldl (λx1 x2=>x1++x2) #[] (List.replicate (if its.toArray.isEmpty=true then 0 else k.toNat) its.toArray)=(List.replicate k.toNat its).flatten.toArray:=by
  have f0:∀m:Nat,List.foldl (λx1 x2=>x1++x2) #[] (List.replicate m its.toArray)=(List.replicate m its).flatten.toArray:=λm=>by
   have:=JD its m []
   rw[List.nil_append]at this
   exact this
  rw[f0]
  cases its with
  |nil=>simp
  |cons a r'=>rw[if_neg (by simp)]
 refine wpAny_binaryOp_repeat_ref (T:="list") (U:="int") ⇑1 ⟨_,e,rL⟩ (λs'=>typeIs_int s' k t) noFill_list_mul F.fills_int_mul F.slot_int_rmul repeat_list F.slot_int_index.lookup
  (call_meets F.slot_int_rmul (typeIs_int s k t) F.entry_int_rmul (F.args_int_rmul_2 _ _) (int___rmul___int_list k t l its.toArray n)
   ⟨e,rfl,⟨_,e,rfl⟩,call_meets F.slot_list_mul ⟨_,e,rfl⟩ F.entry_list_mul (F.args_list_mul_2 _ _) (AutoListH.list___mul___list_int_3 l its.toArray n k t hfit hcap hlong) ⟨e,?_⟩⟩)
 rw[hnew]
 exact⟨.ref _,_,I.lnew (t':=s.toks) (r.rep k.toNat) (by rw[zgQ,Nat.mul_comm];exact hz),rfl,q _ I.fresh⟩
end
section
variable {prog:Program}{w:World}{A:Around}{E:Af}{s:Shared}
theorem zeb (its its2:Ac) (a c:Nat):its.toArray.extract 0 a++its2.toArray++its.toArray.extract c its.toArray.size=(its.take a++its2++its.drop c).toArray:=by
 apply Array.toList_inj.mp
 first
  | (simp
     exact wH (by simp))
  |simp[wH]
  |simp
theorem zbH {a c n:Nat}(hac:a<=c) (hc:c<=n):sliceBounds (some (a:Int)) (some (c:Int)) none n=((a:Int),(c:Int),1):=by
 simp only[sliceBounds,Yo]
 have h1:¬((a:Int)<0):=by lia
 have h2:¬((c:Int)<0):=by lia
 simp only[h1,h2,if_false,show (1:Int)>0 by decide,if_true]
 congr 1
 ·lia
 ·congr 1;lia
set_option maxRecDepth 100000 in
theorem Jk {l b sl:Addr}{items new:Ae}{n n2:Nat}{vl vu:Value}{a c:Nat}{Q:Unit->Shared->Prop}
  (e:s.heap.get? l=some { cls:=.type "list",data:=.seq items n }) (e2:s.heap.get? b=some { cls:=.type "list",data:=.seq new n2 }) (hne:l≠b)
  (hs:s.heap.IsSliceOf sl vl vu .none) (pl:IsPart vl (some (a:Int))) (pu:IsPart vu (some (c:Int))) (hac:a<=c) (hc:c<=items.size)
  (hsz:items.size+new.size<=sizeLine) (h:Q () { s with heap:=s.heap.update l (Obj.mapSeq λxs=>xs.extract 0 a++new++xs.extract c xs.size) }) :
  wpAny (model prog w) A (setItem (.ref l) (.ref sl) (.ref b)) Q E s:=by
 have hl:s.heap.IsList l items:=PySem.IsL.isList e
 have hb:s.heap.IsList b new:=PySem.IsL.isList e2
 obtain⟨os,hos,hcs,hds⟩:=id hs
 have hTs:s.TypeIs (.ref sl) "slice":=⟨os,hos,hcs⟩
 have hstep:¬((rawPart none == rawInt 0)=true):=wN
 have hsame:Builtin.List.listSameRef (.ref l) (.ref b)=false:=by
  unfold Builtin.List.listSameRef
  exact beq_eq_false_iff_ne.mpr hne
 have hmax:(max (a:Int) (c:Int)).toNat=c:=by lia
 have hz':((λxs:Ae=>xs.extract 0 a++new++xs.extract c xs.size) items).size<=sizeLine+1:=by
  simp only[Array.size_append,Array.size_extract]
  lia
 unfold setItem
 try with_reducible refine yr ?_
 first | refine wc (wu ?_) | skip
 refine wc (Yi hl.typeIs ⇑1 ?_)
 refine wc (wpAny_callSpecial?_slot (name:=Str.ofString "__setitem__") hl.typeIs slot_list_setitem
  (yV slot_list_setitem hl.typeIs entry_list_setitem ?_ (args_list_setitem _ _ _)))
 show wpAny _ _ (Builtin.List.listSubscript? (.ref sl) >>= _) _ _ s
 refine wc ?_
 unfold Builtin.List.listSubscript?
 refine wc (YB hTs slice_no_index ?_)
 simp only[Option.isNone_none,if_true]
 refine wu ?_
 show wpAny _ _ (typeOf (.ref sl) >>= _) _ _ s
 refine wc (WJ hTs ?_)
 first
  |rw[if_neg ⇑1]
  |refine PySem.W.KFB.if_not ⇑1 ?_
 rw[listSliceParts_eq]
 refine wc (wc (yh hos hds (x:=.none) rL (wc (YE .none ?_))))
 rw[if_neg hstep]
 refine wc (yh hos hds (x:=vl) rL (wc (YE pl ?_)))
 refine wc (yh hos hds (x:=vu) rL (wc (YE pu (wu ?_))))
 first
  |simp only[hsame,ut,if_false]
  |refine PySem.W.KFB.if_not hsame ?_
  | (dsimp only
     rw[if_neg (by rw[hsame];exact wN)])
 refine wc (m:=Builtin.List.listAllItems (.ref b) "must assign iterable to extended slice") ?_
 unfold Builtin.List.listAllItems
 refine wc (WJ hb.typeIs ?_)
 first
  |refine PySem.W.KFB.if_so ⇑1 ?_
  |rw[if_pos ⇑1]
  |simp only[beq_self_eq_true,Bool.true_or,if_true]
 unfold Builtin.List.listItems
 refine wc (yL e2 rL (wu ?_))
 refine wc (wc (yL e rL (wu ?_)))
 refine wc (wpAny_of_eq ((sliceIndices_raw (some (a:Int)) (some (c:Int)) none items.size (by simp)).trans (congrArg (pure:Int×Int×Int->Sem (Int×Int×Int)) (zbH hac hc))) ?_)
 show wpAny _ _ (if((1:Int) == 1)=true then _ else _) _ _ s
 rw[if_pos ⇑1]
 refine wc (uW ?_)
 first
  |simp only[VO hsz,ut,if_false]
  |refine PySem.W.KFB.if_not (VO hsz) ?_
 first | refine wc (wu ?_) | skip
 show wpAny _ _ (updateSeq l (λxs=>xs.extract 0 ((a:Int)).toNat++new++xs.extract (max (a:Int) (c:Int)).toNat xs.size) >>= _) _ _ s
 rw[hmax,yD]
 refine wc (wpAny_updateSeq (hz:=wY (uh _ _) hsz) (_hz':=hz') e rL ?_)
 refine wc (Ym ?_)
 first
  |exact wc (wu (wu ⟨.none,rfl,wu h⟩))
  |exact wu ⟨.none,rfl,wu h⟩
end
section
variable {X:Cx}
theorem zd6 {pz:Ab}{s:Shared}{σ:St}{H:Hp}{l b sl:Addr}{xs ys:Ba}{a c:Int}{vl vu:Value}{Q:Unit->Shared->Prop}(I:Inv X pz σ H s)
  (hH:H l=some (.lst xs)) (hB:H b=some (.lst ys)) (hne:l≠b) (hs:s.heap.IsSliceOf sl vl vu .none) (ra:xz (.int a) vl) (rc:xz (.int c) vu) (h0:0<=a) (hac:a<=c) (hc:c<=xs.length)
  (hz:xs.length+ys.length<=sizeLine) (h:∀s',Inv X pz σ (upd H l (.lst (xs.take a.toNat++ys++xs.drop c.toNat))) s'->Q () s') :
  wpAny (model X.prog X.w) X.A (setItem (.ref l) (.ref sl) (.ref b)) Q X.xe s:=by
 obtain⟨ta,rfl⟩:=ra
 obtain⟨tc,rfl⟩:=rc
 obtain⟨z,its,n,r,hl,e⟩:=I.lstM hH
 obtain⟨z2,its2,n2,r2,hl2,e2⟩:=I.lstM hB
 obtain⟨a',rfl⟩:=uD h0
 obtain⟨c',rfl⟩:=uD (Int.le_trans h0 hac)
 simp only[yD]at h
 refine Jk (a:=a') (c:=c') e e2 hne hs (.int _ _) (.int _ _) ∅ (by rw[wz];lia) (by rw[wz,wz];lia) (h _ ?_)
 refine I.lset (its':=its.take a'++its2++its.drop c') (t':=s.toks) hH e ?_ (xh.append (xh.append (r.take _) r2) (r.drop _)) ?_
 ·exact zeb its its2 a' c'
 ·rw[wC,wC,wU,wV]
  lia
end
end L2
namespace Att
open PySem PySem.W PySem.Calls PyProof.Rows
def Vh {P:Params}{h:Heap}:∀(ns:Ak) (vs:Ac),WellAll P h vs (ns.map WData.int)->IntsAre vs ns:=by
 intro ns
 induction ns with
 |nil =>
  intro vs w
  rw[Yt]at w
  cases w
  exact .nil
 |cons n ns ih =>
  intro vs w
  rw[yw]at w
  cases w with
  |cons a b =>
   cases a
   exact .cons _ _ (ih _ b)
def zd5 {l:OpenLaw}{n:Nat}(hn:l.most=some n){P:Params}{h:Heap}{args:List WData}{vals:Ac}
  (hpre:l.row.toRowW.claim.pre args=true) (hwl:WellAll P h vals args) :
  ∃a vs ns,vals=[Value.ref a]/\args=[WData.list (ns.map WData.int)]/\h.get? a=some { cls:=.type "list",data:=.seq vs.toArray }/\IntsAre vs ns/\ns.length<=n:=by
 have hsh:WShape.hasAll [] args [.list .int]=true:=(pre_splitW hpre).1
 have hc:l.pre.holds [] { args:=args }=true:=(pre_splitW hpre).2
 obtain⟨d,r,rfl,h1,h2⟩:=hasAllW_cons hsh
 obtain rfl:=hasAllW_nil h2
 obtain⟨xs,rfl,h3⟩:=hasW_list h1
 obtain⟨ns,rfl⟩:=items_int h3
 have hlen:ns.length<=n:=by
  unfold OpenLaw.pre at hc
  have h4:(WTm.not (.lt (.lit (.int (n:Int))) (.len (.arg 0)))).holds [] { args:=[.list (ns.map .int)] }=true:=by
   have h4:=(holds_andW hc).1
   rw[hn]at h4
   exact h4
  have h5:=condW_of h4 (w_not (w_lt w_lit (w_len_list (w_arg rfl))))
  rw[wk]at h5
  refine Nat.le_of_not_lt λq=>?_
  have q':(n:Int)<((ns.length:Nat):Int):=by omega
  first
   | (rw[wo q']at h5;exact absurd h5 ⇑1)
   | (simp at h5;omega)
 cases hwl with
 |cons w1 w2 =>
  cases w2
  cases w1 with
  |list ho hall=>exact⟨_,_,ns,rfl,rfl,ho,Vh ns _ hall,hlen⟩
def zdZ (l:OpenLaw) (args:List WData):l.row.toRowW.claim.post args (.bool true) args=true :=
 postW_of (r:=l.row.toRowW) (X:=(true == true))
  (show WShape.has [] (.bool true) .bool=true by first | rfl | decide | simp[WShape.has,WShape.arms,WShape.armsAll])
  (show (WTm.eq .res (.lit (.bool true))).value [] { args:=args,res:=some (.bool true),after:=args }=some (.bool (true == true))from w_eq_bool (w_res rfl) w_lit) rfl
def attach_call {l:OpenLaw}{n:Nat}{q:Program}{loose:Ad}{XP:(Aa)->Heap->Prop}{YP:World->Heap->Prop}{d:DefRec}
  (hn:l.most=some n) (hdf:d.params.defaults=[])
  (call:∀(w:World) (s₀ s₁:Shared) (mg mb:Aa) (fa:Addr) (o:Obj) (pm cd doc:Value) (a:Addr) (vs:Ac) (ns:Ak),
   Ground q loose [] XP w s₀ mg mb s₁.heap->YP w s₁.heap →
   s₁.heap.get? fa=some o->o.data=.func (docDef d.name d.params d.body d.scope pm cd doc)->s₁.heap.CodeRec cd d.name->mg d.name=some (.ref fa) →
   s₁.heap.get? a=some { cls:=.type "list",data:=.seq vs.toArray }->IntsAre vs ns->ns.length<=n->s₁.gens = #[] →
   codeAny (model l.prog w) callerA (.call (.ref fa) ⟨[.ref a],[]⟩) (λr s'=>r=.ok (.ret (.bool true))/\OldK s₁.heap s'.heap/\s'.os=s₁.os/\AllBare s'.gens) s₁) :
  WalkO q loose XP YP l.row.toRowW d [] (λf vs=>PySem.call f vs):=by
 intro w s₀ s₁ mg mb G Y fa o pm cd doc dV kV ho hd hcd hD hmg hg args vals as hpre hlay hrd hwl hlo
 obtain rfl:dV=.none:=Dflts.none hD hdf
 obtain rfl:kV=.none:=Dflts.noKw hD
 obtain⟨a,vs,ns,rfl,rfl,hobj,hints,hlen⟩:=zd5 hn hpre hwl
 refine enter_call (codeAny_mono (call w s₀ s₁ mg mb fa o pm cd doc a vs ns G Y ho (fd_plain hd) hcd hmg hobj hints hlen hg) λr s' hq=>?_)
 obtain⟨rfl,h2,h3,h4⟩:=hq
 exact⟨.inl ⟨.bool true,.bool true,[],rL,λ_=>rL,.bool true,zdZ l _,λ_=>⟨List.Pairwise.nil,λ_ hm=>(nomatch hm)⟩⟩,h2,h3,h4⟩
end Att
namespace L2
open PySem PySem.Spec PyProof.Rows
def JT:∀{vs:Ac}{ns:Ak},IntsAre vs ns->xh (ns.map V.int) vs
 |_,_,.nil=>.nil
 |_,_,.cons n t h=>.cons ⟨t,rfl⟩ (JT h)
def J5 (s:Stmt) (j:Nat):Stmt:=match s with
 |.ClassDef _ _ _ body _ _ _ _ _ _ _=>body.getD j (.Pass ⟨0,0,0,0⟩)
 |_=>.Pass ⟨0,0,0,0⟩
def xC (s:Stmt):Arguments:=match s with
 |.FunctionDef _ a _ _ _ _ _ _ _ _=>a
 |_=>{ posonlyargs:=[],args:=[],vararg:=none,kwonlyargs:=[],kw_defaults:=[],kwarg:=none,defaults:=[] }
def xj (s:Stmt):Ai:=match s with
 |.FunctionDef _ _ b _ _ _ _ _ _ _=>b
 |_=>[]
def zr (s:Stmt):Scope:=match s with
 |.FunctionDef _ _ _ _ _ _ sc _ _ _=>sc
 |_=>{ kind:=.function,names:=[],isGenerator:=false,isCoroutine:=false }
abbrev CX0:CXT:=λ_ _ _ _ _ _=>False
abbrev E0:XK:=λ_ _ _=>False
def zir {X:Cx}:Vu CX0 X E0:=λ_ _ _ _ _ _ _ h=>h.elim
structure Fun (K:Fg) (x qual:Str) (st:Stmt) (f:Addr) (fd:FuncData):Prop where
 ex:∃(oc:Value) (od:Option Addr) (kV doc pm:Value) (an:Option Addr) (cdv ct:Value) (osl:Array (Option Value)),
  fd=PySem.W.fnOf x qual (xC st) (xj st) (zr st) .none kV doc pm an cdv ct/\K.lookup f=some ⟨oc,od,.func fd,osl⟩/\PySem.W.codeIn K cdv qual=true
 kp:PySem.W.keepIn K (.ref f)=true
variable {P:Program}{w:World}{K:Fg}{mg:Aa}{base:Heap}
theorem Fun.ok {x qual:Str}{st:Stmt}{f:Addr}{fd:FuncData}{N ps:Ad}{k:Nat}{sp:Sp}(F:Fun K x qual st f fd) (S:zF N ps (zr st)) (len:∀vs H Q E,sp vs H Q E->vs.length=ps.length)
  (hbody:∀(cdv:Value) (A:Around) (outer:Aj) (s:Shared) (H:Hp) (vs:Ba) (Q:VK) (E:XK),xf k (A.deeper (envOfC qual (zr st) s.heap.objs.size f cdv))->sp vs H Q E →
   ∃t,PSs (xi CX0 P w K mg base N qual (zr st) f cdv A outer s H E).nox (xj st) t/\t { nx:=λ_ H'=>Q .non H',rt:=Q } (qJ N vs) H):vC P w K mg base CX0 (k+1) f fd ps sp:=by
 obtain⟨oc,od,kV,doc,pm,an,cdv,ct,osl,rfl,lk,hcd⟩:=F.ex
 refine zcv lk hcd S len λA outer s H vs Q E hr hsp=>?_
 obtain⟨t,h,q⟩:=hbody cdv A outer s H vs Q E hr hsp
 exact⟨t,h.nox,q⟩
theorem Fun.okq {x qual:Str}{st:Stmt}{f:Addr}{fd:FuncData}{N ps:Ad}{k:Nat}{sp:Sp}(F:Fun K x qual st f fd) (S:zF N ps (zr st))
  (hbody:∀(cdv:Value) (A:Around) (outer:Aj) (s:Shared) (H:Hp) (vs:Ba) (Q:VK) (E:XK),xf k (A.deeper (envOfC qual (zr st) s.heap.objs.size f cdv))->sp vs H Q E →
   ∃t,PSs (xi CX0 P w K mg base N qual (zr st) f cdv A outer s H E).nox (xj st) t/\t { nx:=λ_ H'=>Q .non H',rt:=Q } (qJ N vs) H) (len:∀vs H Q E,sp vs H Q E->vs.length=ps.length:=by intro _ _ _ _ h;repeat (first | (cases h;subst_vars;rfl) | (obtain⟨rfl,_⟩:=h;rfl) | (obtain⟨_,h⟩:=h))):vC P w K mg base CX0 (k+1) f fd ps sp:=F.ok S len hbody
theorem Fun.binds {x qual:Str}{st:Stmt}{f:Addr}{fd:FuncData}{ps:Ad}(F:Fun K x qual st f fd)
  (h:∀(kV doc pm:Value) (an:Option Addr) (cdv ct:Value) (us:Ac),us.length=ps.length->bindArgs (PySem.W.fnOf x qual (xC st) (xj st) (zr st) .none kV doc pm an cdv ct) ⟨us,[]⟩=pure (ps.zip us)):vI K fd ps []:=by
 obtain⟨oc,od,kV,doc,pm,an,cdv,ct,osl,rfl,lk,hcd⟩:=F.ex
 exact .all (h kV doc pm an cdv ct)
theorem J3 {x qual:Str}{st:Stmt}{f:Addr}{oc:Value}{od an:Option Addr}{osl:Array (Option Value)}{kV doc pm cdv ct:Value}(l:K.lookup f=some ⟨oc,od,.func (PySem.W.fnOf x qual (xC st) (xj st) (zr st) .none kV doc pm an cdv ct),osl⟩)
  (c:PySem.W.codeIn K cdv qual=true) (k:PySem.W.keepIn K (.ref f)=true):Fun K x qual st f (PySem.W.fnOf x qual (xC st) (xj st) (zr st) .none kV doc pm an cdv ct):=⟨⟨oc,od,kV,doc,pm,an,cdv,ct,osl,rfl,l,c⟩,k⟩
def xn {n:Nat}(h:n<=1000):n<sizeLine:=uN h ⇑1
section
variable {X:Cx}
theorem pv (i:Nat){x:Str}{pos:Pos}(hN:X.N[i]?=some x:=by rfl) (hv:Vis X.env.scope x:=by first | exact Or.inl rfl | exact Or.inr (Or.inl rfl) | exact Or.inr (Or.inr rfl)) (hd:(x == ("__debug__":Str))=false:=by decide)
  (hcd:(x == ("__classdict__":Str))=false:=by decide):PE X (.Name x pos) (xB i):=zjO hN hv hd hcd
end
def hid {A:Prop}(h:∀P:Prop,(A->P)->P):A:=h A id
def xm {A B:Prop}(h:B):if false=true then A else B:=by
 rw[if_neg wN]
 exact h
def xp {A B:Prop}(h:A):if true=true then A else B:=by
 rw[if_pos rfl]
 exact h
def qp {c A B:Prop} [Decidable c] (h1:c->A) (h2:¬c->B):if c then A else B:=by
 by_cases h:c
 ·rw[if_pos h]
  exact h1 h
 ·rw[if_neg h]
  exact h2 h
def zk (H H':Hp):Prop:=∀b o,H b=some o->H' b=some o
def zk.refl (H:Hp):zk H H:=λ_ _ h=>h
def zk.trans {H H1 H2:Hp}(a:zk H H1) (b:zk H1 H2):zk H H2:=λc o h=>b c o (a c o h)
def zk.free {H H':Hp}(e:zk H H'){l:Addr}(h:H' l=Option.none):H l=Option.none:=by
 cases q:H l with
 |none=>rfl
 |some o =>
  rw[e l o q]at h
  cases h
def zk.seq {K:Fg}{H H':Hp}{a:Addr}{xs:Ba}(e:zk H H') (h:SqL K H a xs):SqL K H' a xs:=by
 rcases h with(h | ⟨o,h⟩) | h
 ·exact .inl (.inl (e _ _ h))
 ·exact .inl (.inr ⟨o,e _ _ h⟩)
 ·exact .inr h
section
variable {prog:Program}{w:World}{A:Around}{R:Result->Shared->Prop}{s:Shared}
theorem XZ {elt j iter:Expr}{ifs:Ag}{scope:Scope}{pos:Pos}{it F:Value}{env:Env}(I:Nat->Shared->Prop)
  (O:∀n s,I n s->wpAny (model prog w) A (pyNext it) (λr U=>match r with
   |none=>R (.ok .next) U
   |some v=>wpAny (model prog w) A (letOwnedTupleGo j it v) (λ_ s₀=>wpAny (model prog w) A (assign j env v) (λ_ V =>
     wpAny (model prog w) A (forIn ifs true λc r=>if r=true then do let ok <-isTrue c env (eval c env);pure (ForInStep.yield ok)else pure (ForInStep.yield r)) (λok S =>
      if ok=true then wpAny (model prog w) A (eval elt env) (λx s₄ =>
       wpAny (model prog w) A (call (.builtin "list.append") [F,x]) (λ_ s₅=>∃m,m<n/\I m s₅) (λ_ _=>False) s₄) (λ_ _=>False) S
      else ∃m,m<n/\I m S) (λ_ _=>False) V) (λ_ _=>False) s₀) (λ_ _=>False) U) (λ_ _=>False) s)
  (n:Nat) (h:I n s) :
  codeAny (model prog w) A (.compLoop (.ListComp elt [⟨j,iter,ifs,0⟩] scope pos) 0 it F env) R s:=by
 refine codeAny_loop rL I (λn s hI=>?_) n h
 show wpAny _ A ((compTurn (.ListComp elt [⟨j,iter,ifs,0⟩] scope pos) 0 it F env).onRaise (λx=>do noteFrame x env;theTreesLotGoes x)) _ _ s
 refine wpAny_noted ?_
 rw[compTurn_list]
 have G:∀{X:Prop},∀(e:Value) (s':Shared),(λ_ _=>False:Af) e s'->X:=λ_ _ z=>False.elim z
 refine wc (uH (wc (yF (O n s hI) (λr U Y=>?_) λe s'=>G e s')))
 cases r with
 |none=>exact wu Y
 |some v =>
  refine wc (yF Y (λ_ s₀ h₀=>?_) λe s'=>G e s')
  refine wc (yF h₀ (λ_ V h₂=>wc (yF h₂ (λok S W=>?_) λe s'=>G e s')) λe s'=>G e s')
  cases ok with
  |false=>exact wu ⟨rfl,W⟩
  |true =>
   exact wc (wc (yF W (λx s₄ h₄=>wc (yF h₄ (λ_ s₅ h₅=>wu (wu ⟨rL,h₅⟩)) λe s'=>G e s')) λe s'=>G e s'))
end
def vc (X:Cx) (NB:Ad) (scope:Scope) (s3:Shared) (H3:Hp) (fp:List Addr):Cx :=
 { X with N:=NB,s₀:=s3,H₀:=H3,env:=compEnv scope s3.heap.objs.size X.env,outer:=X.stack,stack:=X.stack,ex:=fp,fn:=λ_=>true,pn:=[],xe:=λ_ _=>False }
def PTs (X:Cx) (ifs:Ag) (t:TT):Prop :=
 ∀(pz:Ab) (s:Shared) (σ:St) (H:Hp) (Q:Bool->Hp->Prop),Inv X pz σ H s->t σ H Q →
  wpAny (model X.prog X.w) X.A (forIn ifs true λc r=>if r=true then do let ok <-isTrue c X.env (eval c X.env);pure (ForInStep.yield ok)else pure (ForInStep.yield r)) (TP X pz σ Q) X.xe s
def xI {X:Cx}:PTs X [] (λ_ H Q=>Q true H):=λ_ _ _ H _ I h=>wpAny_tests_nil ⟨H,I,h⟩
def Vn {X:Cx}{c:Expr}{t:TT}(h:PT X c t):PTs X [c] t:=λpz s σ H Q I q=>wpAny_tests_one (h pz s σ H Q I q)
def Ql (n:Nat) (wi:TI) (g:TG) (tt:TT) (te:TE):TE:=λσ H Q=>wi σ H λJ H1=>∀D,H1 D=none->∃W:Nat->Nat->Hp->Ba->Prop,(∃m,W 0 m (upd H1 D (.lst [])) []) ∧
 ∀i m H2 ys,W i m H2 ys->H2 D=some (.lst ys)->(J.stop i H2/\Q (.ref D) H2) ∨
  (J.go i H2/\∀σB x H3,σB.length=n->J.yld i H2 x H3->g x σB H3 λσ4 H4=>tt σ4 H4 λb H5=>if b=true then te σ4 H5 (λv H6=>H6 D=some (.lst ys)/\ys.length<sizeLine/\∃m',m'<m/\W (i+1) m' (upd H6 D (.lst (ys++[v]))) (ys++[v]))
   else H5 D=some (.lst ys)/\∃m',m'<m/\W (i+1) m' H5 ys)
def vn {X:Cx}{elt tg iter:Expr}{ifs:Ag}{scope:Scope}{pos:Pos}{NB:Ad}{wi:TI}{g:TG}{tt:TT}{te:TE}
  (hc:X.calm=true) (hfree:∀x∈scope.names,x.2≠.free) (hcell:∀x∈scope.names,x.2≠.cell) (hkind:scope.kind=.function) (hnames:∀x∈scope.names,x.2=.local → scope.names.lookup x.1=some .local)
  (hi:PI X tg iter wi) (hb:∀s3 H3 fp,PG (vc X NB scope s3 H3 fp) tg g/\PTs (vc X NB scope s3 H3 fp) ifs tt/\PE (vc X NB scope s3 H3 fp) elt te)
  (hs:∀x,foldedSetIterable iter X.env x=pure x:=by intro _;rfl) :
  PE X (.ListComp elt [⟨tg,iter,ifs,0⟩] scope pos) (Ql NB.length wi g tt te):=by
 intro pz s σ H Q I h
 refine wpAny_ListComp hfree hkind hnames (thn (hi pz s σ H _ I h) λv s1 h1=>thn h1 λitv s2 h2=>?_) hs
 obtain⟨it,fp,tn,J,H2,e,I2,T,st2,f2,q2⟩:=h2
 subst e
 have hf2:H2 s2.heap.objs.size=none:=I2.hok.fresh (wq _)
 obtain⟨W,⟨m0,w0⟩,turn⟩:=q2 _ hf2
 refine yv (hd:=by size_fits) ?_
 have I3:Inv X pz σ (upd H2 s2.heap.objs.size (.lst [])) { s2 with heap:=s2.heap.push { cls:=.type "list",dict:=none,data:=.seq ([]:Ac).toArray } } :=
  I2.laid (t':=s2.toks) (λb u e=>wg _ e) (wq _) ⟨by decide,[],0,.nil,wD _ rfl⟩
 generalize hD:s2.heap.objs.size=D at *
 generalize hs3:({ s2 with heap:=s2.heap.push { cls:=.type "list",dict:=none,data:=.seq ([]:Ac).toArray } }:Shared)=s3 at *
 generalize hH3:upd H2 D (.lst [])=H3 at *
 have h3D:H3 D=some (.lst []):=by rw[<-hH3];exact zi
 have fpD:∀b∈fp,b≠D:=λb hb=>by
  obtain⟨o,e,_⟩:=T.obj _ _ st2 b hb
  rw[<-hD];exact wQ (wA e)
 have k23:∀b u,s2.heap.get? b=some u->s3.heap.get? b=some u:=λb u e=>by rw[<-hs3];exact wg _ e
 have st3:tn 0 s3.heap:=T.keep _ _ _ st2 λb _ o e=>k23 b o e
 have f3:∀b∈fp,Vt X pz H3 b:=λb hb=>⟨by rw[<-hH3,zK (fpD b hb)];exact(f2 b hb).1,(f2 b hb).2⟩
 refine wpAny_newFunctionEnv hcell (by intro y hy;simp at hy) (λh4 hns4 hsb4=>?_) hkind
 have k34:∀b u,s3.heap.get? b=some u->h4.get? b=some u:=λb u e=>hsb4.extBut b u (wQ (wA e)) (wg _ e)
 have okB:(vc X NB scope s3 H3 fp).Ok:=by
  refine⟨I3.ok.mod,hkind,I3.ok.glob,I3.ok.blt,wq _,λx y c e _=>?_,λx e=>?_,λx c _ e=>?_,I3.ok.hd,I3.ok.frames,.inl rL,λb hb=>⟨?_,λx c e=>?_⟩,I3.bs,wY I3.ok.bsz I3.sz,λb o e hb=>?_,λb hb z=>?_,I3.stack,I3.stkFree⟩
  ·exact absurd (show ([]:List (Str×Addr)).lookup x=some c from e) (by simp)
  ·have e':scope.names.lookup x=some .cell\/scope.names.lookup x=some .free:=e
   rcases e' with e' | e'
   ·exact absurd rL (hcell _ (PySem.mem_of_lookup e'))
   ·exact absurd rL (hfree _ (PySem.mem_of_lookup e'))
  ·exact absurd (show ([]:List (Str×Addr)).lookup x=some c from e) (by simp)
  ·obtain⟨o,e,_⟩:=T.obj _ _ st3 b hb
   exact wQ (wA e)
  ·exact absurd (show ([]:List (Str×Addr)).lookup x=some c from e) (by simp)
  ·obtain⟨_,_,_,z,_⟩:=f3 b hb
   rcases z with z | z
   ·exact I3.ok.noex b o e z
   ·exact absurd (wM (wA e) (wY I3.ok.bsz z)) (uC _)
  ·obtain⟨_,z1,z2,_⟩:=f3 b hb
   rcases wy.mp (I3.stkSub b z)with e | e
   ·exact z1 e
   ·exact z2 e
 have IB:Inv (vc X NB scope s3 H3 fp) [] (List.replicate NB.length none) H3 { s3 with heap:=h4,toks:=s3.toks+([]:List (Str×Value)).length }:=by
  refine⟨okB,rfl,I3.bare,Un.kept k34,⟨_,hns4,λi x v _ e _=>?_⟩,λx c e=>?_,I3.hok.fresh (wq _),λx c e=>?_,λp hp=>?_,I3.hok.kept k34,by simp[vc]⟩
  ·rw[Wj]at e
   split at e <;> cases e
  ·exact absurd (show ([]:List (Str×Addr)).lookup x=some c from e) (by simp)
  ·exact absurd (show ([]:List (Str×Addr)).lookup x=some c from e) (by simp)
  ·exact absurd (show p∈([]:Ab)from hp) (by simp)
 have st4:tn 0 h4:=T.keep _ _ _ st3 λb _ o e=>k34 b o e
 have C_ne:∀b∈fp,b≠s3.heap.objs.size:=λb hb=>(okB.exf b hb).1
 have stat:∀{H':Hp},(∀b∈fp,H' b=none)->∀b∈fp,Vt (vc X NB scope s3 H3 fp) [] H' b:=λhn b hb =>
  ⟨hn b hb,C_ne b hb,okB.exfs b hb,.inl hb,λx c e=>absurd (show ([]:List (Str×Addr)).lookup x=some c from e) (by simp),λp hp=>absurd (show p∈([]:Ab)from hp) (by simp)⟩
 obtain⟨hg,ht,he⟩:=hb s3 H3 fp
 have fin:∀{σ':St}{H':Hp}{s':Shared},Inv (vc X NB scope s3 H3 fp) [] σ' H' s'->Q (.ref D) H' →
   ∃m,s'.heap.Ns s3.heap.objs.size m/\∀h',Heap.SameBut s3.heap.objs.size s'.heap h'->EP X pz σ Q (.ref D) { s' with heap:=h' }:=λ{σ' H' s'} J q=>by
  obtain⟨m,hm,_⟩:=J.loc
  refine⟨m,hm,λh' sb=>⟨.ref D,H',?_,rL,q⟩⟩
  have neC:∀b o,s3.heap.get? b=some o->b≠s3.heap.objs.size:=λb o e=>wQ (wA e)
  have hfr:H' s3.heap.objs.size=none:=J.free
  have up:∀b o,b≠s3.heap.objs.size->s'.heap.get? b=some o->h'.get? b=some o:=λb o hb e=>(sb.2 b hb).trans e
  have hok':HOk X.prog X.w H' h':=λb ob e=>(J.hok b ob e).stay (λc w' hc q=>up c w' (by
   rintro rfl
   rcases hc with rfl | hc
   ·rw[hfr]at e;cases e
   ·rw[hfr]at hc;cases hc) q) (λ_ q=>q) λ_ _ q=>q
  have u:Un (frs X.stack) fp H3 H' s3.heap h' :=
   ⟨λb o e n hb hx=>up b o (neC b o e) (J.base.keep b o e n hb hx),λb o e n hb hx=>by
    obtain⟨sl,e'⟩:=J.base.slot b o e n hb hx
    exact⟨sl,up b _ (neC b o e) e'⟩,J.base.free,λb o e hx=>by
    obtain⟨o',e'⟩:=J.base.there b o e hx
    exact⟨o',up b _ (neC b o e) e'⟩,J.base.tups,J.base.frzs,J.base.tbls⟩
  refine I3.call' (s':={ s' with heap:=h' }) (ch:=fp) J.os u hok' J.bare λb hb=>?_
  obtain⟨z0,z1,z2,z3,z4,z5⟩:=f3 b hb
  exact⟨z3,z1,z4,z5⟩
 have loop:∀s5:Shared,s5 = { s3 with heap:=h4,toks:=s3.toks+([]:List (Str×Value)).length } →
   codeAny (model X.prog X.w) X.A (.compLoop (.ListComp elt [⟨tg,iter,ifs,0⟩] scope pos) 0 (.ref it) (.ref D) (compEnv scope s3.heap.objs.size X.env))
    (λr s'=>∃m,s'.heap.Ns s3.heap.objs.size m/\∀h',Heap.SameBut s3.heap.objs.size s'.heap h' →
     match r with | .ok _=>EP X pz σ Q (.ref D) { s' with heap:=h' } | .error x=>wpAny (model X.prog X.w) X.A (passOn "comprehension.variables-let-go" x (compEnv scope s3.heap.objs.size X.env)) (EP X pz σ Q) X.xe { s' with heap:=h' }) s5:=by
  rintro s5 rfl
  refine XZ (λn s'=>∃i σ' H' ys,Inv (vc X NB scope s3 H3 fp) [] σ' H' s'/\tn i s'.heap/\(∀b∈fp,H' b=none)/\H' D=some (.lst ys)/\W i n H' ys) ?_ m0
   ⟨0,_,H3,[],IB,st4,λb hb=>(f3 b hb).1,h3D,by rw[<-hH3]at *;exact w0⟩
  rintro n s6 ⟨i,σ6,H6,ys,I6,st6,fr6,hD6,w6⟩
  rcases turn i n H6 ys w6 hD6 with⟨stop,qn⟩ | ⟨go,step⟩
  ·refine thn (T.done (vc X NB scope s3 H3 fp) rL rL rL hc i [] s6 σ6 H6 _ I6 (stat fr6) st6 stop) λr s7 ⟨hr,I7⟩=>?_
   subst hr
   exact fin I7 qn
  ·refine thn (T.item (vc X NB scope s3 H3 fp) rL rL rL hc i [] s6 σ6 H6 _ I6 (stat fr6) st6 go) λr s7 ⟨u,hr,h7⟩=>?_
   subst hr
   refine thn h7 λ_ s8 ⟨x,H8,I8,r8,y8,st8,fr8⟩=>?_
   have I8':=I8.pinned (stat fr8) (T.obj _ _ st8)
   have again:∀{σ9:St}{H9:Hp}{s9:Shared}{zs:Ba}{m':Nat},Inv (vc X NB scope s3 H3 fp) ([]++Qy fp s8.heap) σ9 H9 s9->H9 D=some (.lst zs)->m'<n->W (i+1) m' H9 zs →
     ∃m,m<n/\∃i σ' H' ys,Inv (vc X NB scope s3 H3 fp) [] σ' H' s9/\tn i s9.heap/\(∀b∈fp,H' b=none)/\H' D=some (.lst ys)/\W i m H' ys:=λ{σ9 H9 s9 zs m'} I9 hz hm w9=>by
    refine⟨m',hm,i+1,σ9,H9,zs,I9.unpinned,T.keep _ _ _ st8 λb hb o e=>(I9.pin (b,o) (ww _ (ww _ (vg hb e)))).1,λb hb=>?_,hz,w9⟩
    obtain⟨o,e,d⟩:=T.obj _ _ st8 b hb
    exact(I9.pin (b,o) (ww _ (ww _ (vg hb e)))).2.1
   refine thn (hg _ s8 σ6 H8 x u _ I8' r8 (step σ6 x H8 I6.len y8)) λ_ s9 ⟨σ9,H9,I9,q9⟩=>?_
   refine thn (ht _ s9 σ9 H9 _ I9 q9) λok s10 ⟨H10,I10,q10⟩=>?_
   cases ok with
   |false =>
    rw[if_neg ⇑1]at q10 ⊢
    obtain⟨hz,m',hm,w'⟩:=q10
    exact again I10 hz hm w'
   |true =>
    rw[if_pos rfl]at q10 ⊢
    refine thn (he _ s10 σ9 H10 _ I10 q10) λy s11 ⟨v,H11,I11,r11,hz,hlen,m',hm,w'⟩=>?_
    refine thn (qO _ s11 σ9 H11 (.ref D) [v] (.ref D) [y] (λ_ H12=>H12=upd H11 D (.lst (ys++[v]))) I11 rL (.cons r11 .nil) ⟨D,ys,v,rL,rL,hz,hlen,rL⟩) λ_ s12 ⟨_,H12,I12,_,e12⟩=>?_
    subst e12
    exact again I12 zi hm w'
 exact codeAny_compStart_list (loop _ rL) (T.self X.A 0 _ _ _ st4 (loop _ rL))
mutual
inductive RdD (H:Hp):V->PyData->Prop
 |non:RdD H .non .none
 |bl (b:Bool):RdD H (.bl b) (.bool b)
 |int (i:Int):RdD H (.int i) (.int i)
 |str (x:Str):RdD H (.str x) (.str x)
 |tup {a:Addr}{xs:Ba}{ds:List PyData}:H a=some (.tup xs)->Qp H xs ds->RdD H (.ref a) (.tuple ds)
 |lst {a:Addr}{xs:Ba}{ds:List PyData}:H a=some (.lst xs)->Qp H xs ds->RdD H (.ref a) (.list ds)
inductive Qp (H:Hp):Ba->List PyData->Prop
 |nil:Qp H [] []
 |cons {x:V}{d:PyData}{xs:Ba}{ds:List PyData}:RdD H x d->Qp H xs ds->Qp H (x::xs) (d::ds)
end
section
variable {X:Cx}{pz:Ab}{σ:St}{H:Hp}{s:Shared}
mutual
theorem RdD.reads (I:Inv X pz σ H s):∀{x:V}{d:PyData},RdD H x d->∀{u:Value},xz x u->∃G,Reads s.heap u d G
 |_,_,.non,u,r=>by cases(show u=Value.none from r);exact⟨_,.none⟩
 |_,_,.bl b,u,r=>by cases(show u=Value.bool b from r);exact⟨_,.bool b⟩
 |_,_,.int i,u,r=>by obtain⟨t,e⟩:=(show ∃t,u=Value.int i t from r);subst e;exact⟨_,.int i t⟩
 |_,_,.str x,u,r=>by obtain⟨t,e⟩:=(show ∃t,u=Value.str x t from r);subst e;exact⟨_,.str x t⟩
 |_,_,@RdD.tup _ a xs ds e h,u,r=>by
  cases(show u=Value.ref a from r)
  obtain⟨_,j,F,o,h1,h2,n,S⟩:=(show xD X.prog X.w H s.heap a (.tup xs)from I.hok a _ e)
  obtain⟨G,O⟩:=Qp.reads I h F
  exact⟨_,.tuple h1 h2 S ↥O⟩
 |_,_,@RdD.lst _ a xs ds e h,u,r=>by
  cases(show u=Value.ref a from r)
  obtain⟨_,j,n,F,h1⟩:=(show xD X.prog X.w H s.heap a (.lst xs)from I.hok a _ e)
  obtain⟨G,O⟩:=Qp.reads I h F
  exact⟨_,.list h1 rfl rfl ↥O⟩
theorem Qp.reads (I:Inv X pz σ H s):∀{xs:Ba}{ds:List PyData},Qp H xs ds->∀{us:Ac},xh xs us->∃F,ReadsAll s.heap us ds F
 |_,_,.nil,us,r=>by cases r;exact⟨_,.nil⟩
 |_,_,.cons h t,us,r=>by
  cases r with
  |cons r1 r2 =>
   obtain⟨S,j⟩:=RdD.reads I h r1
   obtain⟨O,G⟩:=Qp.reads I t r2
   exact⟨_,.cons j G⟩
end
end
inductive ziw (x:V) (y:V) (H:Hp) (Q:VK):Prop
 |mk:∀d e,(RdD H x d)->(RdD H y e)->(SeqAt.shaped d=true)->(SeqAt.shaped e=true)->(Q (.bl (PyData.eqv d e)) H)->ziw x y H Q
def rEqD:R2:=λx y H Q=>ziw x y H Q
inductive ziz (x:V) (y:V) (H:Hp) (Q:VK):Prop
 |mk:∀d e,(RdD H x d)->(RdD H y e)->(SeqAt.shaped d=true)->(SeqAt.shaped e=true)->(Q (.bl (!PyData.eqv d e)) H)->ziz x y H Q
def rNeD:R2:=λx y H Q=>ziz x y H Q
section
variable {X:Cx}
theorem vh (W:X.A.units+64<cLine):OpR X (compareOp .Eq) rEqD:=by
 intro pz s σ H x y v u Q I G F h
 obtain⟨d,e,hd,S,O,j,q⟩:=h
 obtain⟨Y,U⟩:=hd.reads I G
 obtain⟨bs,V⟩:=S.reads I F
 exact eq_dataH U V O j W ⟨.bl _,H,I,rL,q⟩
theorem zab (W:X.A.units+64<cLine):OpR X (compareOp .NotEq) rNeD:=by
 intro pz s σ H x y v u Q I G F h
 obtain⟨d,e,hd,S,O,j,q⟩:=h
 obtain⟨Y,U⟩:=hd.reads I G
 obtain⟨bs,V⟩:=S.reads I F
 exact ne_dataH U V O j W ⟨.bl _,H,I,rL,q⟩
def Bd (n:Nat) (i:Int):Prop:=i.natAbs<2^n
theorem Bd.mono {m n:Nat}{i:Int}(h:Bd m i) (l:m<=n):Bd n i:=wM h (Nat.pow_le_pow_right ⇑1 l)
theorem Bd.md {m n:Nat}{i:Int}(h:Bd m i) (l:m<=n:=by decide):Bd n i:=h.mono l
theorem Bd.bits {n:Nat}{i:Int}(h:Bd n i):Builtin.Int.intBits i<=n:=intBits_le_iff.mpr h
theorem Bd.of_bits {n:Nat}{i:Int}(h:Builtin.Int.intBits i<=n):Bd n i:=intBits_le_iff.mp h
theorem Bd.mul {m n:Nat}{i j:Int}(h:Bd m i) (k:Bd n j):Bd (m+n) (i*j):=.of_bits (intBits_mul_le h.bits k.bits)
theorem Bd.add {m n:Nat}{i j:Int}(h:Bd m i) (k:Bd n j):Bd (max m n+1) (i+j):=.of_bits (intBits_add_le h.bits k.bits)
theorem Bd.neg {n:Nat}{i:Int}(h:Bd n i):Bd n (-i):=by unfold Bd;rw[Int.natAbs_neg];exact h
theorem Bd.sub {m n:Nat}{i j:Int}(h:Bd m i) (k:Bd n j):Bd (max m n+1) (i-j):=by rw[Int.sub_eq_add_neg];exact h.add k.neg
def Vr (i j:Int):Prop:=Bd 1000000 i/\Bd 1000000 j
theorem zR:OpR X (binaryOp .Mult) (rI Vr λi j=>.int (i*j)):=opI λ_ _ _ _ _ _ _ F q=>mul_int q (IntMulOk.of_le F.1.bits F.2.bits ⇑1)
def zaE (i j:Int):Prop:=j≠0/\Bd 8900 j
theorem qC:OpR X (binaryOp .FloorDiv) (rI zaE λi j=>.int (i.fdiv j)):=opI λ_ j _ _ _ _ _ F q=>floordiv_int F.1 q (.inl (PyProof.noPylong_of_log2 (by
 have h1:j.natAbs≠0:=λz=>F.1 (Int.natAbs_eq_zero.mp z)
 have h2:j.natAbs<2^9000:=wM F.2 (Nat.pow_le_pow_right ⇑1 ⇑1)
 exact(Nat.log2_lt h1).mpr h2)))
theorem zdB (W:X.calm=true):ZJ X (.builtin "sum") (λxs H Q=>∃(p:Addr) (F:Ak),xs=[.ref p]/\SqL X.K H p (F.map V.int)/\Q (.int F.sum) H):=by
 intro pz s σ H xs us Q I r h
 obtain⟨p,F,rfl,O,q⟩:=h
 obtain⟨u,rfl,S⟩:=Xz r
 cases S
 obtain⟨j,U,pl,_⟩:=I.list O
 have hi:IntsAre j F:=zbM U
 obtain⟨ys,e⟩:=hi.allInts.items
 have G:=pl.isList
 rw[e]at G
 refine sum_intListG (I.ok.hd W) G λh' Y t' k=>⟨.int F.sum,H,I.kept k,?_,q⟩
 have e1:preSum (numAt ys) ys.size=F.sum:=by
  rw[preSum_eq,wH (by simp),<-nums_intItems,<-e]
  rw[show j.toArray.toList=j from rfl,hi.numsOf]
 rw[e1]
 exact⟨_,rL⟩
theorem vY:ZJ X (.builtin "isinstance") (λxs H Q=>∃x t n b,xs=[x,.ty n]/\Qr X.K H x t/\PySem.W.kitOne X.K t (.type n)=some b/\Q (.bl b) H):=by
 intro pz s σ H xs us Q I r h
 obtain⟨x,t,n,b,rfl,ty,e,q⟩:=h
 obtain⟨u,O,rfl,F,G⟩:=zbw r
 cases(show O=Value.type n from G)
 exact zdM I F ty e λj=>⟨.bl b,H,I.tok j,rL,q⟩
end
end L2
namespace HT
open PySem PySem.Spec PyProof.Rows L2
end HT
namespace L2
open PySem PySem.Spec PyProof.Rows
section
variable {X:Cx}{e st:Expr}{te:TE}{pos p2:Pos}
theorem xh.rev:∀{xs:Ba}{us:Ac},xh xs us->xh xs.reverse us.reverse
 |_,_,.nil=>.nil
 |_,_,.cons r t=>by rw[List.reverse_cons,List.reverse_cons];exact(xh.rev t).append (.cons r .nil)
end
end L2
namespace KM
def zaV {a b:Int}(j:0<=a) (F:0<b):Int.gcd b (a % b)=Int.gcd a b:=by
 obtain⟨m,rfl⟩:=uD j
 obtain⟨n,rfl⟩:=uD (Int.le_of_lt F)
 rw[<-Int.natCast_emod,Int.gcd_comm (m:Int)]
 show Nat.gcd n (m % n)=Nat.gcd n m
 rw[Nat.gcd_comm n (m % n)]
 exact(Nat.gcd_rec n m).symm
def qd (q:Rat):(q.den:Int)≠0:=by have:=q.den_nz;lia
def den_pos (q:Rat):(0:Int)<q.den:=by have:=q.den_nz;omega
def dv (t b:Int):Int:=if b<0 then -(Int.gcd t b:Int)else(Int.gcd t b:Int)
def zgK {t b:Int}(j:b≠0):0<Int.gcd t b:=Int.gcd_pos_of_ne_zero_right _ j
def zij {t b:Int}(j:b≠0):dv t b≠0:=by
 have:=zgK (t:=t) j
 unfold dv;split <;> omega
def zja {t b:Int}:(dv t b).natAbs=Int.gcd t b:=by
 unfold dv;split <;> lia
def zcs {t b:Int}(j:b≠0):(dv t b).natAbs<=b.natAbs:=by
 rw[zja];exact Nat.le_of_dvd ∅ (Yd t b)
def zbK {t b:Int}(j:b≠0):t.fdiv (dv t b)=(Rat.divInt t b).num:=by
 rw[Rat.num_divInt,Int.gcd_comm b t]
 have h1:((Int.gcd t b:Nat):Int) ∣ t:=yU ..
 unfold dv
 split
 ·rename_i h
  rw[uj (Int.neg_dvd.mpr h1),Int.ediv_neg,Int.sign_eq_neg_one_of_neg h]
  rw[show (-1*t)=-t by lia,Int.neg_ediv_of_dvd h1]
 ·rename_i h
  rw[uj h1,Int.sign_eq_one_of_pos ∅,Int.one_mul]
def zeG {t b:Int}(j:b≠0):b.fdiv (dv t b)=((Rat.divInt t b).den:Int):=by
 rw[Rat.den_divInt,if_neg j,Int.gcd_comm b t]
 have h1:((Int.gcd t b:Nat):Int) ∣ b:=Ye ..
 have h2:Int.gcd t b ∣ b.natAbs:=Yd t b
 unfold dv
 split
 ·rename_i h
  rw[uj (Int.neg_dvd.mpr h1),Int.ediv_neg]
  rw[Int.natCast_ediv,show ((b.natAbs:Nat):Int)=-b by lia,Int.neg_ediv_of_dvd h1]
 ·rename_i h
  rw[uj h1,Int.natCast_ediv,show ((b.natAbs:Nat):Int)=b by lia]
def zjy {t b:Int}(F:b≠0):(Rat.divInt t b).num.natAbs<=t.natAbs:=by
 rw[<-zbK F]
 have:t.fdiv (dv t b) ∣ t:=by
  have h1:dv t b ∣ t:=by
   unfold dv;split
   ·exact Int.neg_dvd.mpr (yU ..)
   ·exact yU ..
  obtain⟨c,j⟩:=h1
  rw[uj ⟨c,j⟩]
  refine⟨dv t b,?_⟩
  exact(WT ⟨c,j⟩).symm
 by_cases h0:t=0
 ·subst h0;simp
 ·exact Nat.le_of_dvd ∅ (Int.natAbs_dvd_natAbs.mpr this)
def zi6 {t b:Int}(j:b≠0):(Rat.divInt t b).den<=b.natAbs:=by
 rw[Rat.den_divInt,if_neg j];exact Nat.div_le_self _ _
def zcU (a b:Rat):Rat.divInt (a.num*b.den+b.num*a.den) (a.den*b.den)=a+b:=by
 rw[Rat.add_def',<-Yp];simp
def zbr (a b:Rat):Rat.divInt (a.num*b.num) (a.den*b.den)=a*b:=by
 rw[Rat.mul_def',<-Yp];simp
def zac (a b:Rat):Rat.divInt (a.num*b.den) (a.den*b.num)=a/b:=by
 rw[Rat.div_def,Rat.inv_def,<-Rat.divInt_mul_divInt,W7]
def Z4 (a b:Rat):a.num*b.den<b.num*a.den↔a<b:=(Rat.lt_iff a b).symm
def zfa (n:Int):Rat.divInt n 1=(n:Rat):=by simpa using W7 (n:Rat)
def J8 (n:Int):(n:Rat).num=n:=Rat.num_intCast n
def J7 (n:Int):(n:Rat).den=1:=Rat.den_intCast n
structure zB where
 pl:Rat
 sp:Rat
 wt:Int
abbrev Bk:=List zB
def ws (f:zB->Rat) (l:Bk):Rat:=l.foldl (λacc b=>acc+(b.wt:Rat)*f b) 0
def zkL (f:zB->Rat):ws f []=0:=rfl
def zib (f:zB->Rat) (l:Bk):∀a:Rat,l.foldl (λj b=>j+(b.wt:Rat)*f b) a=a+ws f l:=by
 induction l with
 |nil=>intro a;simp only[List.foldl_nil,zkL];grind
 |cons b l ih=>intro a;simp only[Yu,ws];rw[ih,ih (0+_)];grind
def zia (f:zB->Rat) (l:Bk) (b:zB):ws f (b::l)=(b.wt:Rat)*f b+ws f l:=by
 simp only[ws,Yu];rw[zib];simp only[ws];grind
end KM
namespace L2
open PySem PySem.Spec PyProof.Rows
structure Cal (P:Program) (w:World) (K:Fg) (mg:Aa) (base:Heap) (x:Str) (k:Nat) (ps:Ad) (dvs:Ba) (sp:Sp):Prop where
 ex:∃f fd ds,vC P w K mg base CX0 k f fd ps sp/\mg x=some (.ref f)/\PySem.W.keepIn K (.ref f)=true/\vI K fd ps ds/\xh dvs ds
def zH {X:Cx}{x:Str}{k:Nat}{ps:Ad}{dvs:Ba}{sp:Sp}{p pos:Pos}{e:Expr}{es:Ag}{t:TA}
  (c:Cal X.prog X.w X.K X.mg X.base x k ps dvs sp) (hr:xf k X.A) (W:PA X (e::es) t) (U:Gl X x:=by rfl) (j:(x == ("__debug__":Str))=false:=by decide)
  (S:starEach (e::es) X.env=(false,eval e X.env)::starEach es X.env:=by rfl) (G:(backTo pos (starEach es X.env)).any (·.1)=false:=by rfl) :
  PE X (.Call (.Name x p) (e::es) [] pos) (vV sp dvs E0 t):=by
 obtain⟨f,fd,ds,F,O,I,Y,hd⟩:=c.ex
 exact zhe F hr U O I Y hd zir W j S G
structure Df (K:Fg) (mg:Aa) (x:Str) (st:Stmt) (ps:Ad) (dvs:Ba):Prop where
 ex:∃(f:Addr) (oc:Value) (od:Option Addr) (dV kV doc pm:Value) (an:Option Addr) (cdv ct:Value) (osl:Array (Option Value)) (ds:Ac),
  K.lookup f=some ⟨oc,od,.func (PySem.W.fnOf x x (xC st) (xj st) (zr st) dV kV doc pm an cdv ct),osl⟩/\PySem.W.codeIn K cdv x=true/\PySem.W.keepIn K (.ref f)=true/\mg x=some (.ref f) ∧
  xh dvs ds/\vI K (PySem.W.fnOf x x (xC st) (xj st) (zr st) dV kV doc pm an cdv ct) ps ds
variable {P:Program}{w:World}{K:Fg}{mg:Aa}{base:Heap}
theorem Df.cal {x:Str}{st:Stmt}{N ps:Ad}{dvs:Ba}{k:Nat}{sp:Sp}(D:Df K mg x st ps dvs) (S:zF N ps (zr st)) (F:∀vs H Q E,sp vs H Q E->vs.length=ps.length)
  (j:∀(f:Addr) (cdv:Value) (A:Around) (outer:Aj) (s:Shared) (H:Hp) (vs:Ba) (Q:VK) (E:XK),xf k (A.deeper (envOfC x (zr st) s.heap.objs.size f cdv))->sp vs H Q E →
   ∃t,PSs (xi CX0 P w K mg base N x (zr st) f cdv A outer s H E).nox (xj st) t/\t { nx:=λ_ H'=>Q .non H',rt:=Q } (qJ N vs) H):⇑3 x (k+1) ps dvs sp:=by
 obtain⟨f,oc,od,dV,kV,a1,pm,an,cdv,ct,Y,ds,U,I,O,hm,hv,W⟩:=D.ex
 refine⟨⟨f,_,ds,zcv U I S F λA outer s H vs Q E hr G=>?_,hm,O,W,hv⟩⟩
 obtain⟨t,h,q⟩:=j f cdv A outer s H vs Q E hr G
 exact⟨t,h.nox,q⟩
theorem Df.calq {x:Str}{st:Stmt}{N ps:Ad}{dvs:Ba}{k:Nat}{sp:Sp}(D:Df K mg x st ps dvs) (S:zF N ps (zr st))
  (j:∀(f:Addr) (cdv:Value) (A:Around) (outer:Aj) (s:Shared) (H:Hp) (vs:Ba) (Q:VK) (E:XK),xf k (A.deeper (envOfC x (zr st) s.heap.objs.size f cdv))->sp vs H Q E →
   ∃t,PSs (xi CX0 P w K mg base N x (zr st) f cdv A outer s H E).nox (xj st) t/\t { nx:=λ_ H'=>Q .non H',rt:=Q } (qJ N vs) H) (F:∀vs H Q E,sp vs H Q E->vs.length=ps.length:=by intro _ _ _ _ h;repeat (first | (cases h;subst_vars;rfl) | (obtain⟨rfl,_⟩:=h;rfl) | (obtain⟨_,h⟩:=h))):⇑3 x (k+1) ps dvs sp:=D.cal S F j
theorem zk0 {x:Str}{st:Stmt}{ps:Ad}{f:Addr}{S:Value}{od G:Option Addr}{F:Array (Option Value)}{I kV j O cdv ct:Value}
  (l:K.lookup f=some ⟨S,od,.func (PySem.W.fnOf x x (xC st) (xj st) (zr st) I kV j O G cdv ct),F⟩) (c:PySem.W.codeIn K cdv x=true) (k:PySem.W.keepIn K (.ref f)=true) (m:mg x=some (.ref f))
  (U:∀us:Ac,us.length=ps.length->bindArgs (PySem.W.fnOf x x (xC st) (xj st) (zr st) I kV j O G cdv ct) ⟨us,[]⟩=pure (ps.zip us)):Df K mg x st ps [] :=
 ⟨⟨f,S,od,I,kV,j,O,G,cdv,ct,F,[],l,c,k,m,.nil,.all U⟩⟩
def rp (q:Rat):Ba:=[.int q.num,.int (q.den:Int)]
def zC (H:Hp) (p:Addr) (q:Rat):Prop:=H p=some (.tup (rp q))
def zC.same {H H':Hp}{p:Addr}{q:Rat}(h:zC H p q) (e:zk H H'):zC H' p q:=e _ _ h
def Sz (n:Nat) (q:Rat):Prop:=Bd n q.num/\Bd n (q.den:Int)
def Sz.mono {m n:Nat}{q:Rat}(h:Sz m q) (l:m<=n):Sz n q:=⟨h.1.mono l,h.2.mono l⟩
def Sz.md {m n:Nat}{q:Rat}(h:Sz m q) (l:m<=n:=by decide):Sz n q:=h.mono l
def Bd.of_le {n:Nat}{i j:Int}(h:i.natAbs<=j.natAbs) (b:Bd n j):Bd n i:=uN h b
def Sz.divInt {n:Nat}{t b:Int}(j:b≠0) (h1:Bd n t) (h2:Bd n b):Sz n (Rat.divInt t b) :=
 ⟨h1.of_le (KM.zjy j),h2.of_le (by have:=KM.zi6 (t:=t) j;omega)⟩
def Sz.add {m n:Nat}{x y:Rat}(h:Sz m x) (k:Sz n y):Sz (m+n+1) (x+y):=by
 rw[<-KM.zcU]
 refine .divInt (yl (KM.qd x) (KM.qd y)) ?_ ((h.2.mul k.2).mono ∅)
 exact((h.1.mul k.2).add (k.1.mul h.2)).mono ∅
def Sz.mul {m n:Nat}{x y:Rat}(h:Sz m x) (k:Sz n y):Sz (m+n) (x*y):=by
 rw[<-KM.zbr]
 exact .divInt (yl (KM.qd x) (KM.qd y)) (h.1.mul k.1) (h.2.mul k.2)
def Sz.int {n:Nat}{i:Int}(h:Bd n i) (j:1<=n):Sz n (i:Rat):=by
 refine⟨by rw[KM.J8];exact h,?_⟩
 rw[KM.J7]
 exact Bd.mono (m:=1) (show (1:Int).natAbs<2^1 by decide) j
def xy (q:Rat):SeqAt.shaped (.tuple [.int q.num,.int (q.den:Int)])=true:=rfl
def zC.rd {H:Hp}{p:Addr}{q:Rat}(h:zC H p q):RdD H (.ref p) (.tuple [.int q.num,.int (q.den:Int)]):=.tup h (.cons (.int _) (.cons (.int _) .nil))
def XA (x y:Rat):PyData.eqv (.tuple [.int x.num,.int (x.den:Int)]) (.tuple [.int y.num,.int (y.den:Int)])=decide (x=y):=by
 simp only[PyData.eqv,PyData.eqvAll,Bool.and_true]
 rw[yH]
 simp only[uf,beq_iff_eq,wP]
 constructor
 ·rintro ⟨h1,h2⟩;exact Rat.ext h1 ∅
 ·rintro rfl;exact⟨rfl,rfl⟩
inductive qm (vs:Ba)(H:Hp)(Q:VK)(_e3:XK):Prop
 |mk:∀t b,(vs=[.int t,.int b])->(b≠0)->(Bd 8900 b)->(∀p H',zk H H'->zC H' p (Rat.divInt t b)->Q (.ref p) H')->qm vs H Q _e3
inductive xY (C:Rat->Rat->Prop) (f:Rat->Rat->Rat) (vs:Ba)(H:Hp)(Q:VK)(_e3:XK):Prop
 |mk:∀p q x y,(vs=[.ref p,.ref q])->(zC H p x)->(zC H q y)->(C x y)->(∀r H',zk H H'->zC H' r (f x y)->Q (.ref r) H')->xY C f vs H Q _e3
def Sz2 (x y:Rat):Prop:=Sz 4000 x/\Sz 4000 y
def at0 {α:Type}(a b:α):atI [a,b] 0=some a:=rfl
def at1 {α:Type}(a b:α):atI [a,b] 1=some b:=rfl
def zk.upd {H:Hp}{p:Addr}{o:HO}(h:H p=none):zk H (upd H p o):=λb u e=>by rw[zK (zN e h)];exact e
def TrX (h B:Heap) (e:Addr) (cls a0:Value) (dct:Option Addr) (fl:Value):Prop :=
 ∃oe vs T oT ts,h.get? e=some oe/\oe.cls=cls/\oe.dict=dct/\oe.data=.fields vs/\vs[0]?=some a0/\vs[1]?=some (.ref T)/\B.get? T=none/\T≠e/\h.get? T=some oT/\oT.data=.fields ts/\ts[3]?=some fl
def zdS (o:Obj) (f:Ae->Ae):(Obj.mapFields f o).dict=o.dict:=by
 unfold Obj.mapFields;split <;> rfl
section
variable {M:Model}{A:Around}{E:Af}{s:Shared}{B:Heap}{env:Env}{outer l:Aj}{L e:Addr}{oe:Obj}{vs:Ae}{a0 cls fl:Value}{dct:Option Addr}{Q:Unit->Shared->Prop}
theorem zct {head:Value}{hadNext:Bool}(hfr:A.frames=some (env::outer)) (hl:s.heap.FunFrames B (env::outer)) (hf:env.frame=some L) (he:s.heap.get? e=some oe) (hB:B.StaysIn s.heap) (hn:B.get? e=none) (hd:oe.data=.fields vs) (hz:1<vs.size) (h0:vs[0]?=some a0)
  (q:∀h',B.StaysIn h'->h'.FunFrames B (env::outer)->TrX h' B e oe.cls a0 oe.dict (rawInt L)->s.heap.UpToSlots h'->Q () { s with heap:=h' }) :
  wpAny M A (do let a <-frameOf env;let pl <-entryPlaceOf L hadNext;let b <-EntryCells.newEntry head a .none (rawInt L) .none pl;setField (.ref e) 1 b) Q E s:=by
 have nf:e∉(env::outer).filterMap (·.frame):=λm=>by
  obtain⟨_,o,ho,hnf⟩:=hl.mem m
  rw[he]at ho;cases ho;exact hnf vs hd
 refine wc (wpAny_frameOf_fun hfr hl hf λg1 k1=>wc (wpAny_entryPlaceOf λpl hpl=>?_))
 unfold EntryCells.newEntry newFields
 have e1:g1.get? e=some oe:=(k1.2.1 e nf).trans he
 have B1:B.StaysIn g1:=λb o z=>(k1.2.1 b λm=>by rw[(hl.mem m).1]at z;cases z).trans (hB b o z)
 have fr:g1.objs.size≠e:=Wg (wA e1)
 have d3:=Obj.data_mapFields hd (·.setIfInBounds 1 (Value.ref g1.objs.size))
 refine wc (yv (uI (wg _ e1) hd hz (q _ (λb o z=>?_) (hl.of_keeps λb o hb nn=>?_) ?_ λb o hb nn=>?_)) (hpl.sizeOk5 _ _ _ _ _))
 ·have ne:e≠b:=λr=>by rw[<-r,hn]at z;cases z
  rw[yA _ _ ne]
  exact wg _ (B1 b o z)
 ·obtain⟨sl,z⟩:=k1.2.2 b o hb
  have ne:e≠b:=λr=>by rw[<-r,he]at hb;cases hb;exact nn vs hd
  exact⟨{ o with slots:=sl },by rw[yA _ _ ne];exact wg _ z,rfl⟩
 ·refine⟨_,_,g1.objs.size,_,_,yC _ (wg _ e1) (Obj.isFreed_of_fields d3),Obj.cls_mapFields _ _,zdS _ _,d3,?_,by simp[hz],B1.fresh,fr,(yA _ _ (Ne.symm fr)).trans (wD g1 rfl),rfl,?_⟩
  ·rw[WB ⇑1];exact h0
  ·first | (simp;done) | (rcases hpl with rfl | ⟨_,_,_,_,_,_,_,rfl⟩ <;> simp)
 ·obtain⟨sl,z⟩:=k1.2.2 b o hb
  have ne:e≠b:=λr=>by rw[<-r,he]at hb;cases hb;exact nn vs hd
  exact⟨sl,by rw[yA _ _ ne];exact wg _ z⟩
theorem zbV (j:A.frames=some (env::outer)) (I:s.heap.FunFrames B (env::outer)) (F:env.frame=some L) (G:s.heap.get? e=some oe) (O:B.StaysIn s.heap) (S:B.get? e=none) (hd:oe.data=.fields vs) (h1:vs[1]?=some .none) (U:vs[0]?=some a0)
  (q:∀h',B.StaysIn h'->h'.FunFrames B (env::outer)->TrX h' B e oe.cls a0 oe.dict (rawInt L)->s.heap.UpToSlots h'->Q () { s with heap:=h' }):wpAny M A (noteFrame (.ref e) env) Q E s:=by
 unfold noteFrame
 simp only[F]
 refine wc (yh G hd h1 ?_)
 rw[if_neg ⇑1]
 exact zct j I F G O S hd (uo.mp h1).1 U q
theorem zdU (I:A.frames=some (env::outer)) (hl:s.heap.FunFrames B (env::outer)) (W:env.frame=some L) (ht:TrX s.heap B e cls a0 dct .none) (hB:B.StaysIn s.heap) (hn:B.get? e=none)
  (q:∀h',B.StaysIn h'->h'.FunFrames B (env::outer)->TrX h' B e cls a0 dct (rawInt L)->s.heap.UpToSlots h'->Q () { s with heap:=h' }):wpAny M A (noteFrame (.ref e) env) Q E s:=by
 obtain⟨oe,vs,T,oT,ts,V,rfl,rfl,hd,h0,h1,nT,Te,O,S,Y⟩:=ht
 unfold noteFrame
 simp only[W]
 refine wc (yh V hd h1 ?_)
 rw[if_pos (show (Value.ref T != Value.none)=true from by simp)]
 refine wc (yh O S Y ?_)
 rw[if_neg (show ¬((Value.none == rawInt L)=true)from by simp[rawInt])]
 have F:∀b,b≠T->(s.heap.update T (Obj.mapFields (·.setIfInBounds 3 Value.none))).get? b=s.heap.get? b:=λb j=>yA _ _ (Ne.symm j)
 have U:∀b o,s.heap.get? b=some o->(∀vs,o.data≠.fields vs)->b≠T:=λb o j G r=>by rw[r,O]at j;cases j;exact G ts S
 refine wc (uI O S (uo.mp Y).1 (zct I (hl.of_keeps λb o j G=>⟨o,(F b (U b o j G)).trans j,rfl⟩) W ((F e (Ne.symm Te)).trans V) (λb o z=>(F b λr=>by rw[r,nT]at z;cases z).trans (hB b o z)) hn hd (uo.mp h1).1 h0 λh' x1 x2 x3 x4=>q h' x1 x2 x3 λb o j G=>x4 b o ((F b (U b o j G)).trans j) G))
theorem zeJ (hB:B.StaysIn s.heap) (hl:s.heap.FunFrames B l) (ht:TrX s.heap B e cls a0 dct fl)
  (q:∀h',B.StaysIn h'->h'.FunFrames B l->TrX h' B e cls a0 dct .none->s.heap.UpToSlots h'->Q () { s with heap:=h' }):wpAny M A (setFlight (.ref e) none) Q E s:=by
 obtain⟨oe,vs,T,oT,ts,W,hc,O,hd,h0,h1,Y,U,S,I,h3⟩:=ht
 have z3:3<ts.size:=(uo.mp h3).1
 have F:∀b,b≠T->(s.heap.update T (Obj.mapFields (·.setIfInBounds 3 ((none:Option Addr).elim Value.none λf=>rawInt f)))).get? b=s.heap.get? b:=λb j=>yA _ _ (Ne.symm j)
 have V:∀b o,s.heap.get? b=some o->(∀vs,o.data≠.fields vs)->b≠T:=λb o j G r=>by rw[r,S]at j;cases j;exact G ts I
 unfold setFlight
 refine wc (yh W hd h1 ?_)
 rw[if_pos (show (Value.ref T != Value.none)=true from by simp)]
 exact uI S I z3 (q _ (λb o z=>(F b λr=>by rw[r,Y]at z;cases z).trans (hB b o z)) (hl.of_keeps λb o j G=>⟨o,(F b (V b o j G)).trans j,rfl⟩)
  ⟨oe,vs,T,_,_,(F e (Ne.symm U)).trans W,hc,O,hd,h0,h1,Y,U,yC _ S (Obj.isFreed_of_fields (Obj.data_mapFields I _)),Obj.data_mapFields I _,by simp[z3]⟩ λb o j G=>⟨o.slots,(F b (V b o j G)).trans j⟩)
end
def FlX (B:Heap) (l:Aj) (e:Addr) (cls a0:Value) (dct:Option Addr) (h:Heap):Prop:=B.StaysIn h/\B.get? e=none/\h.FunFrames B l/\TrX h B e cls a0 dct .none
def HeX (B:Heap) (l:Aj) (e:Addr) (cls a0:Value) (dct:Option Addr) (h:Heap):Prop:=B.StaysIn h/\B.get? e=none/\h.FunFrames B l/\∃fl,TrX h B e cls a0 dct fl
section
variable {M:Model}{A:Around}{E:Af}{s:Shared}{B h:Heap}{env:Env}{outer l:Aj}{L e:Addr}{a0 cls:Value}{dct:Option Addr}{Q:Unit->Shared->Prop}
theorem FlX.held (x:FlX B l e cls a0 dct h):HeX B l e cls a0 dct h:=⟨x.1,x.2.1,x.2.2.1,_,x.2.2.2⟩
theorem FlX.there (x:FlX B l e cls a0 dct h):∃ob,h.get? e=some ob/\ob.cls=cls:=by
 obtain⟨_,_,_,oe,_,_,_,_,j,F,_⟩:=x
 exact⟨oe,j,F⟩
theorem FlX.first (x:FlX B l e cls a0 dct h):∃oe vs,h.get? e=some oe/\oe.cls=cls/\oe.dict=dct/\oe.data=.fields vs:=by
 obtain⟨_,_,_,oe,vs,_,_,_,F,G,j,hd,_⟩:=x
 exact⟨oe,vs,F,G,j,hd⟩
theorem zcF (j:A.frames=some (env::outer)) (F:env.frame=some L) (x:FlX B (env::outer) e cls a0 dct s.heap) (q:∀h',HeX B (env::outer) e cls a0 dct h'->s.heap.UpToSlots h'->Q () { s with heap:=h' }):wpAny M A (noteFrame (.ref e) env) Q E s :=
 zdU j x.2.2.1 F x.2.2.2 x.1 x.2.1 λh' G O S I=>q h' ⟨G,x.2.1,O,_,S⟩ I
theorem Vl (x:HeX B l e cls a0 dct s.heap) (q:∀h',FlX B l e cls a0 dct h'->s.heap.UpToSlots h'->Q () { s with heap:=h' }):wpAny M A (setFlight (.ref e) none) Q E s:=by
 obtain⟨F,S,V,fl,I⟩:=x
 exact zeJ F V I λh' U O j G=>q h' ⟨U,S,O,j⟩ G
theorem ze2 (F:A.frames=some (env::outer)) (I:env.frame=some L) (x:FlX B (env::outer) e cls a0 dct s.heap) (q:∀h',FlX B outer e cls a0 dct h'->s.heap.UpToSlots h'->Q () { s with heap:=h' }):wpAny M A (leaving env (.ref e)) Q E s:=by
 unfold leaving
 refine wc (zcF F I x λh' y O=>Vl (s:={ s with heap:=h' }) y λh2 z j=>?_)
 obtain⟨G,U,⟨_,_,V⟩,S⟩:=z
 exact q h2 ⟨G,U,V,S⟩ (O.trans j)
end
structure Fly (P:Program) (w:World) (l:Aj) (H:Hp) (s:Shared) (C:Addr) (H':Hp) (a:Addr) (s':Shared) (B:Heap) (a0:Value) (dct:Option Addr):Prop where
 os:s'.os=s.os
 bare:AllBare s'.gens
 un:Un (frs l) [] H H' s.heap s'.heap
 hok:HOk P w H' s'.heap
 fly:FlX B l a (.ref C) a0 dct s'.heap
 kb:∀b o,s.heap.get? b=some o->b∉frs l->(∃o',B.get? b=some o')/\(H b=none->B.get? b=some o)
 kt:∀b u,H' b=some u->∃o,B.get? b=some o
abbrev CX1 (P:Program) (w:World):CXT:=λouter H s E e s'=>∃a C H' B a0 dct,e=.ref a/\Fly P w outer H s C H' a s' B a0 dct/\E (.ref C) dct H'
section
variable {P:Program}{w:World}{H H':Hp}{h h' B:Heap}{a:Addr}{o:HO}
theorem xD.obj (x:xD P w H h a o):∃u,h.get? a=some u:=by
 cases o with
 |lst xs=>obtain⟨_,_,_,_,e⟩:=x;exact⟨_,e⟩
 |tup xs=>obtain⟨_,_,_,ob,e,_⟩:=x;exact⟨_,e⟩
 |dK kvs=>obtain⟨_,_,_,_,o,_,_,e,_⟩:=x;exact⟨_,e⟩
 |dT kvs=>obtain⟨_,_,_,_,o,_,_,e,_⟩:=x;exact⟨_,e⟩
 |set S n=>obtain⟨o,_,_,_,e,_⟩:=x;exact⟨_,e⟩
 |ins C dx fs=>obtain⟨_,_,_,e,_⟩:=x;exact⟨_,e⟩
 |own y=>obtain⟨_,e⟩:=x;exact⟨_,e⟩
 |xd fs=>obtain⟨_,⟨_,_,_,e,_⟩,_⟩:=x;exact⟨_,e⟩
 |rng lo hi=>obtain⟨_,_,_,e⟩:=x;exact⟨_,e⟩
 |frz ob u=>obtain⟨e,_⟩:=x;exact⟨_,e⟩
 |tbl ps=>exact⟨_,(show h.get? a=some _ from x)⟩
 |met f y=>exact⟨_,(show h.get? a=some _ from x)⟩
 |ext φ=>obtain⟨_,⟨_,e⟩,_⟩:=x;exact⟨_,e⟩
theorem zeQ (x:HOk P w H h) (k1:B.StaysIn h) (k2:B.StaysIn h') (kt:∀b u,H b=some u->∃o,B.get? b=some o):HOk P w H h':=λa o e =>
 (x a o e).stay (λb u F q=>by
  have G:∃v,H b=some v:=by
   rcases F with rfl | F
   ·exact⟨_,e⟩
   ·exact⟨_,F⟩
  obtain⟨v,I⟩:=G
  obtain⟨ob,j⟩:=kt b v I
  rw[k1 b ob j]at q;cases q;exact k2 b _ j) (λ_ q=>q) λ_ _ q=>q
end
section
variable {P:Program}{w:World}{l:Aj}{H H':Hp}{s s':Shared}{C a:Addr}{B h':Heap}{a0:Value}{dct:Option Addr}
theorem Fly.move (F:Fly P w l H s C H' a s' B a0 dct) (fl:FlX B l a (.ref C) a0 dct h') (O:s'.heap.UpToSlots h'):Fly P w l H s C H' a { s' with heap:=h' } B a0 dct where
 os:=F.os
 bare:=F.bare
 un:={
  keep:=λb o q n G _=>fl.1 b o ((F.kb b o q G).2 n)
  slot:=λb o q n G V=>by
   obtain⟨S,e⟩:=F.un.slot b o q n G V
   obtain⟨_,o',j,hd⟩:=F.fly.2.2.1.mem G
   have z:some o'=some { o with slots:=S }:=j.symm.trans e
   cases z
   obtain⟨I,U⟩:=O b _ e hd
   exact⟨I,U⟩
  free:=F.un.free
  there:=λb o q _=>by
   by_cases G:b∈frs l
   ·obtain⟨_,o',j,_⟩:=fl.2.2.1.mem G
    exact⟨o',j⟩
   ·obtain⟨o',j⟩:=(F.kb b o q G).1
    exact⟨o',fl.1 b o' j⟩
  tups:=F.un.tups
  frzs:=F.un.frzs
  tbls:=F.un.tbls }
 hok:=zeQ F.hok F.fly.1 fl.1 F.kt
 fly:=fl
 kb:=F.kb
 kt:=F.kt
theorem Fly.untracked (F:Fly P w l H s C H' a s' B a0 dct):H' a=none:=by
 cases q:H' a with
 |none=>rfl
 |some u =>
  obtain⟨o,e⟩:=F.kt a u q
  rw[F.fly.2.1]at e;cases e
end
section
variable {X:Cx}{pz:Ab}{σ:St}{H H':Hp}{s:Shared}
theorem Inv.notfr (I:Inv X pz σ H s){b:Addr}{o:Obj}(e:X.s₀.heap.get? b=some o) (j:b∉X.fs):b∉frs X.stack:=λz=>by
 rcases wy.mp (I.stkSub b z)with r | r
 ·exact absurd (wM (wA e) I.ok.above) (by rw[r];exact uC _)
 ·exact j r
theorem zeK {g:Array GenState}{d:Drawn}{t:Nat}{C a:Addr}{B h1 h':Heap}{a0:Value}{dct:Option Addr}(I:Inv X pz σ H s) (G:X.ex=[]) (U:∀b∈X.fs,b∈frs X.stack) (u:Un (frs X.stack) [] H H' s.heap h1)
  (kb:∀b o,s.heap.get? b=some o->b∉frs X.stack->(∃o',B.get? b=some o')/\(H b=none->B.get? b=some o)) (kt:∀b u,H' b=some u->∃o,B.get? b=some o)
  (hok:HOk X.prog X.w H' h1) (k1:B.StaysIn h1) (V:h1.FunFrames B X.stack) (up:h1.UpToSlots h') (fl:FlX B X.outer a (.ref C) a0 dct h') (hg:AllBare g) :
  Fly X.prog X.w X.outer X.H₀ X.s₀ C H' a { s with heap:=h',gens:=g,drawn:=d,toks:=t } B a0 dct where
 os:=I.os
 bare:=hg
 un:={
  keep:=λb o q n F O=>by
   have j:b∉X.ex:=by rw[G];exact O
   exact fl.1 b o ((kb b o (I.base.keep b o q n F j) (I.notfr q F)).2 (I.base.free b o q n j))
  slot:=λb o q n F O=>by
   have j:b∉X.ex:=by rw[G];exact O
   obtain⟨sl,e⟩:=I.base.slot b o q n F j
   obtain⟨a1,e1⟩:=u.slot b _ e (I.base.free b o q n j) (U b F) O
   obtain⟨_,o',S,hd⟩:=V.mem (U b F)
   have z:=S.symm.trans e1
   cases z
   obtain⟨W,e2⟩:=up b _ e1 hd
   exact⟨W,e2⟩
  free:=λb o q n O=>by
   have j:b∉X.ex:=by rw[G];exact O
   obtain⟨o',e⟩:=I.base.there b o q j
   exact u.free b o' e (I.base.free b o q n j) O
  there:=λb o q O=>by
   have j:b∉X.ex:=by rw[G];exact O
   by_cases F:b∈X.fs
   ·obtain⟨_,o',S,_⟩:=fl.2.2.1.mem F
    exact⟨o',S⟩
   ·obtain⟨o',e⟩:=I.base.there b o q j
    obtain⟨Y,e2⟩:=(kb b o' e (I.notfr q F)).1
    exact⟨Y,fl.1 b Y e2⟩
  tups:=λb xs q=>u.tups b xs (I.base.tups b xs q)
  frzs:=λb o xs q=>u.frzs b o xs (I.base.frzs b o xs q)
  tbls:=λb ps q=>by
   obtain⟨m1,e1⟩:=I.base.tbls b ps q
   obtain⟨m2,e2⟩:=u.tbls b _ e1
   exact⟨m1++m2,by rw[e2,W0]⟩ }
 hok:=zeQ hok k1 fl.1 kt
 fly:=fl
 kb:=λb o q F=>by
  have j:b∉X.ex:=by rw[G];exact wZ
  obtain⟨o',e⟩:=I.base.there b o q j
  have z:=kb b o' e (I.notfr q F)
  exact⟨z.1,λn=>(kb b o (I.base.keep b o q n F j) (I.notfr q F)).2 (I.base.free b o q n j)⟩
 kt:=kt
end
abbrev XJ:=Addr->Option Addr->St->Hp->Prop
def zch (X:Cx) (J:XJ):Prop:=∀(pz:Ab) (σ:St) (H:Hp) (s:Shared) (a C:Addr) (H':Hp) (s':Shared) (B:Heap) (a0:Value) (dct:Option Addr),
 Inv X pz σ H s->Fly X.prog X.w X.stack H s C H' a s' B a0 dct->J C dct σ H'->X.xe (.ref a) s'
def EJ (E:XK):XJ:=λC d _ H'=>E (.ref C) d H'
section
variable {P:Program}{w:World}{K:Fg}{mg:Aa}{base:Heap}{N:Ad}{qual:Str}{scope:Scope}{f:Addr}{cd:Value}{A:Around}{outer:Aj}{s:Shared}{H:Hp}{E:XK}
theorem Js:zch (xi (CX1 P w) P w K mg base N qual scope f cd A outer s H E) (EJ E):=by
 intro pz σ H1 O a C H' s' B a0 dct I F q
 obtain⟨U,g,d,t,j⟩:=s'
 have e:j=O.os:=F.os
 subst e
 refine ze2 (L:=s.heap.objs.size) I.ok.frames rL F.fly λh' fl G=>?_
 refine⟨a,C,H',B,a0,dct,rL,?_,q⟩
 have z:=zeK (g:=g) (d:=d) (t:=t) I rfl (λb S=>wR _ S) F.un F.kb F.kt F.hok F.fly.1 F.fly.2.2.1 G fl F.bare
 exact z
end
def zkC (sp:Sp) (dvs:Ba) (J:XJ) (t:TA):TE:=λσ H Q=>t σ H λvs H1=>sp (vs++dvs) H1 Q λc d H'=>∃C,c=.ref C/\J C d σ H'
structure XU (P:Program) (w:World) (K:Fg) (mg:Aa) (base:Heap) (x:Str) (k:Nat) (ps:Ad) (dvs:Ba) (sp:Sp):Prop where
 ex:∃f fd ds,vC P w K mg base (CX1 P w) k f fd ps sp/\mg x=some (.ref f)/\PySem.W.keepIn K (.ref f)=true/\vI K fd ps ds/\xh dvs ds
section
variable {X:Cx}{k:Nat}{f:Addr}{fd:FuncData}{ps:Ad}{sp:Sp}{dvs:Ba}{ds:Ac}{J:XJ}{x:Str}{p pos:Pos}{e:Expr}{es:Ag}{t:TA}
theorem zht {pz:Ab}{σ:St}{H:Hp}{s:Shared}{Q:VK}{us:Ac}{vs:Ba}(F:vC X.prog X.w X.K X.mg X.base (CX1 X.prog X.w) k f fd ps sp) (hr:xf k X.A) (U:vI X.K fd ps ds) (hd:xh dvs ds) (S:zch X J)
  (I:Inv X pz σ H s) (r:xh vs us) (h:sp (vs++dvs) H Q λc d H'=>∃C,c=.ref C/\J C d σ H'):wpAny (model X.prog X.w) X.A (call (.ref f) us) (EP X pz σ Q) X.xe s:=by
 have G:xh (vs++dvs) (us++ds):=r.append hd
 have O:(us++ds).length=ps.length:=by rw[<-G.length];exact F.len _ _ _ _ h
 refine WQ (codeAny_mono (F.run X.A X.stack s H ⟨us,[]⟩ (us++ds) (vs++dvs) Q _ hr I.env0 (U s us I.kIn O) G h) λr s' j=>?_)
 cases r with
 |error e =>
  obtain⟨a,C,H',B,a0,dct,rfl,F,W,hC,q⟩:=j
  cases hC
  exact S pz σ H s a C H' s' B a0 dct I F q
 |ok fl =>
  cases fl with
  |ret u=>exact I.after j
  |next=>exact False.elim j
  |brk=>exact False.elim j
  |cont=>exact False.elim j
theorem zfi (c:XU X.prog X.w X.K X.mg X.base x k ps dvs sp) (hr:xf k X.A) (hx:zch X J) (Y:PA X (e::es) t) (V:Gl X x:=by rfl) (j:(x == ("__debug__":Str))=false:=by decide)
  (U:starEach (e::es) X.env=(false,eval e X.env)::starEach es X.env:=by rfl) (G:(backTo pos (starEach es X.env)).any (·.1)=false:=by rfl) :
  PE X (.Call (.Name x p) (e::es) [] pos) (zkC sp dvs J t):=by
 obtain⟨f,fd,ds,F,S,O,hb,hd⟩:=c.ex
 intro pz s σ H Q I h
 refine ue (v3 I V S ?_ j)
 refine W6 (h₀:=X.base) I.ok.mod.kin O (thn (Y pos pz s σ H _ I h) λus s1 ⟨vs,H1,I1,r,q⟩=>⟨I1.kIn,?_⟩) U G
 exact zht F hr hb hd hx I1 r q
end
theorem Df.cal1 {x:Str}{st:Stmt}{N ps:Ad}{dvs:Ba}{k:Nat}{sp:Sp}(D:Df K mg x st ps dvs) (S:zF N ps (zr st)) (F:∀vs H Q E,sp vs H Q E->vs.length=ps.length)
  (j:∀(f:Addr) (cdv:Value) (A:Around) (outer:Aj) (s:Shared) (H:Hp) (vs:Ba) (Q:VK) (E:XK),xf k (A.deeper (envOfC x (zr st) s.heap.objs.size f cdv))->sp vs H Q E →
   ∃t,PSs (xi (CX1 P w) P w K mg base N x (zr st) f cdv A outer s H E) (xj st) t/\t { nx:=λ_ H'=>Q .non H',rt:=Q } (qJ N vs) H):XU P w K mg base x (k+1) ps dvs sp:=by
 obtain⟨f,oc,od,dV,kV,a1,pm,an,cdv,ct,Y,ds,U,I,O,hm,hv,W⟩:=D.ex
 exact⟨⟨f,_,ds,zcv U I S F λA outer s H vs Q E hr G=>j f cdv A outer s H vs Q E hr G,hm,O,W,hv⟩⟩
theorem Df.cal1q {x:Str}{st:Stmt}{N ps:Ad}{dvs:Ba}{k:Nat}{sp:Sp}(D:Df K mg x st ps dvs) (S:zF N ps (zr st))
  (j:∀(f:Addr) (cdv:Value) (A:Around) (outer:Aj) (s:Shared) (H:Hp) (vs:Ba) (Q:VK) (E:XK),xf k (A.deeper (envOfC x (zr st) s.heap.objs.size f cdv))->sp vs H Q E →
   ∃t,PSs (xi (CX1 P w) P w K mg base N x (zr st) f cdv A outer s H E) (xj st) t/\t { nx:=λ_ H'=>Q .non H',rt:=Q } (qJ N vs) H) (F:∀vs H Q E,sp vs H Q E->vs.length=ps.length:=by intro _ _ _ _ h;repeat (first | (cases h;subst_vars;rfl) | (obtain⟨rfl,_⟩:=h;rfl) | (obtain⟨_,h⟩:=h))):XU P w K mg base x (k+1) ps dvs sp:=D.cal1 S F j
theorem XU.imp {x:Str}{k:Nat}{ps:Ad}{dvs:Ba}{sp j:Sp}(c:XU P w K mg base x k ps dvs sp) (h:∀vs H Q E,j vs H Q E->sp vs H Q E):XU P w K mg base x k ps dvs j:=by
 obtain⟨f,fd,ds,F,r⟩:=c.ex
 exact⟨⟨f,fd,ds,F.imp h,r⟩⟩
abbrev Cx.tried (X:Cx) (pz:Ab) (W:Af):Cx:={ X with pn:=X.pn++pz,xe:=W }
abbrev Cx.suite (X:Cx) (pz:Ab) (a:Addr) (oe:Obj):Cx:={ X with A:=X.A.mark (some (.ref a)),calm:=false,pn:=X.pn++(pz++[(a,oe)]),xe:=λ_ _=>False }
abbrev Cx.testing (X:Cx) (a:Addr):Cx:={ X with A:=X.A.mark (some (.ref a)),calm:=false }
section
variable {X:Cx}{pz:Ab}{σ:St}{H:Hp}{s:Shared}
theorem Inv.tried (I:Inv X pz σ H s) (W:Af):Inv (X.tried pz W) [] σ H s :=
 ⟨⟨I.ok.mod,I.ok.kind,I.ok.glob,I.ok.blt,I.ok.above,I.ok.inj,I.ok.has,I.ok.cab,I.ok.hd,I.ok.frames,I.ok.stk,I.ok.exf,I.ok.bs,I.ok.bsz,I.ok.noex,I.ok.exfs,I.ok.funs,I.ok.frf⟩,
  I.os,I.bare,I.base,I.loc,I.cell,I.free,I.freeC,λp j=>I.pin p (by rw[yz]at j;exact j),I.hok,I.len⟩
theorem Inv.untried {j:Ab}{W:Af}(ok:X.Ok) (I:Inv (X.tried pz W) j σ H s):Inv X pz σ H s :=
 ⟨ok,I.os,I.bare,I.base,I.loc,I.cell,I.free,I.freeC,λp F=>I.pin p (wL _ F),I.hok,I.len⟩
theorem Inv.test (I:Inv X pz σ H s) (a:Addr):Inv (X.testing a) pz σ H s :=
 ⟨⟨I.ok.mod,I.ok.kind,I.ok.glob,I.ok.blt,I.ok.above,I.ok.inj,I.ok.has,I.ok.cab,(λh=>nomatch h),I.ok.frames,I.ok.stk,I.ok.exf,I.ok.bs,I.ok.bsz,I.ok.noex,I.ok.exfs,I.ok.funs,I.ok.frf⟩,
  I.os,I.bare,I.base,I.loc,I.cell,I.free,I.freeC,I.pin,I.hok,I.len⟩
theorem Inv.suite {a:Addr}{oe:Obj}{vs:Ae}(I:Inv X pz σ H s) (e:s.heap.get? a=some oe) (hd:oe.data=.fields vs) (V:H a=none):Inv (X.suite pz a oe) [] σ H s :=
 ⟨⟨I.ok.mod,I.ok.kind,I.ok.glob,I.ok.blt,I.ok.above,I.ok.inj,I.ok.has,I.ok.cab,(λh=>nomatch h),I.ok.frames,I.ok.stk,I.ok.exf,I.ok.bs,I.ok.bsz,I.ok.noex,I.ok.exfs,I.ok.funs,I.ok.frf⟩,
  I.os,I.bare,I.base,I.loc,I.cell,I.free,I.freeC,(λp S=>by
   rw[yz]at S
   have O:p∈X.pn++pz\/p∈[(a,oe)]:=by
    rcases wK.mp S with z | z
    ·exact .inl (wL _ z)
    ·rcases wK.mp z with z | z
     ·exact .inl (ww _ z)
     ·exact .inr z
   rcases O with z | z
   ·exact I.pin p z
   ·obtain rfl:p=(a,oe):=↥z
    refine⟨e,V,λq=>?_,λq=>?_,λv q=>?_⟩
    ·obtain⟨m,⟨o,es,W,j,F,_⟩,_⟩:=I.loc
     rw[<-show a=X.env.locals from q,e]at j
     cases j
     rw[hd]at F;cases F
    ·obtain⟨_,o,j,G⟩:=I.funs.mem q
     rw[show s.heap.get? a=some oe from e]at j
     cases j
     exact G vs hd
    ·have U:oe.data=.cell v:=q
     rw[hd]at U;cases U),I.hok,I.len⟩
theorem Inv.unsuite {a:Addr}{oe:Obj}(ok:X.Ok) (I:Inv (X.suite pz a oe) [] σ H s):Inv X pz σ H s :=
 ⟨ok,I.os,I.bare,I.base,I.loc,I.cell,I.free,I.freeC,λp j=>I.pin p (by
  rw[yz]
  rcases wK.mp j with z | z
  ·exact wL _ z
  ·exact ww _ (wL _ z)),I.hok,I.len⟩
end
open PySem.W
section
variable {prog:Program}{w:World}{A:Around}{E:Af}{s:Shared}{K:Fg}{x D:Addr}{ox:Obj}{od:Option Obj}
structure ExcK (K:Fg) (D:Addr):Prop where
 ga:findIn K (.ref D) "__getattribute__" = some (some (.builtin "BaseException.__getattribute__"))
 no:findIn K (.ref D) "__getattr__" = some none
 bx:subIn K (.ref D) (.type "BaseException")=some true
 ob:mroIn K D (.type "object")=some true
 ds:hasDictIn K D=true
 ca:findIn K (.ref D) "__class__" = some (some (.builtin "object.__class__"))
 sp:specialIn K (.builtin "object.__class__") "__get__" = some (some (.builtin "getset_descriptor.__get__"))
 tk:takesIn K (.builtin "object.__class__")=some true
end
def qY (σ:St) (js:List Nat):St:=js.map λj=>(σ[j]?).getD none
inductive XV (X:Cx) (scope:Scope) (cl:List (Str×Addr)):Ad->List Nat->Prop
 |nil:XV X scope cl [] []
 |cons {x:Str}{j:Nat}{r:Ad}{js:List Nat}:X.N[j]?=some x->X.env.kindOf x=some .cell->(relabel scope X.env).names.lookup x=some .cell->(∃c,cl.lookup x=some c)->XV X scope cl r js->XV X scope cl (x::r) (j::js)
section
variable {X:Cx}{scope:Scope}{cl:List (Str×Addr)}
theorem XV.length:∀{r:Ad}{js:List Nat},XV X scope cl r js->r.length=js.length
 |_,_,.nil=>rfl
 |_,_,.cons _ _ _ _ t=>by rw[wJ,wJ,XV.length t]
theorem XV.get:∀{r:Ad}{js:List Nat}{k:Nat}{x:Str},XV X scope cl r js->r[k]?=some x->∃j,js[k]?=some j/\X.N[j]?=some x/\X.env.kindOf x=some .cell/\(relabel scope X.env).names.lookup x=some .cell/\∃c,cl.lookup x=some c
 |_,_,_,_,.nil,e=>by simp at e
 |_,_,0,_,.cons h1 h2 h3 h4 _,e=>by
  simp at e;subst e
  exact⟨00,h1,h2,h3,h4⟩
 |_,_,k+1,x,.cons _ _ _ _ t,e=>by
  obtain⟨j,r⟩:=XV.get (k:=k) t ↥e
  exact⟨j,↥r⟩
theorem XV.has {r:Ad}{js:List Nat}(h:XV X scope cl r js){x:Str}(F:x∈r):∃c,cl.lookup x=some c:=by
 obtain⟨k,j⟩:=yT F
 obtain⟨_,_,_,_,_,z⟩:=h.get j
 exact z
end
def xV (X:Cx) (NB FR:Ad) (scope:Scope) (cl:List (Str×Addr)) (s3:Shared) (H3:Hp) (fp:List Addr):Cx :=
 { X with N:=NB++FR,s₀:=s3,H₀:=H3,env:=compEnvC scope cl s3.heap.objs.size X.env,outer:=X.stack,stack:=X.stack,ex:=fp,fn:=λ_=>false,pn:=[],xe:=λ_ _=>False }
def zcb (n:Nat) (js:List Nat) (wi:TI) (g:TG) (tt:TT) (te:TE):TE:=λσ H Q=>wi σ H λJ H1=>∀D,H1 D=none->∃W:Nat->Nat->Hp->Ba->Prop,(∃m,W 0 m (upd H1 D (.lst [])) []) ∧
 ∀i m H2 ys,W i m H2 ys->H2 D=some (.lst ys)->(J.stop i H2/\Q (.ref D) H2) ∨
  (J.go i H2/\∀zs x H3,zs.length=n->J.yld i H2 x H3->g x (zs++qY σ js) H3 λσ4 H4=>σ4.drop n=qY σ js/\tt σ4 H4 λb H5 =>
   if b=true then te σ4 H5 (λv H6=>H6 D=some (.lst ys)/\ys.length<sizeLine/\∃m',m'<m/\W (i+1) m' (upd H6 D (.lst (ys++[v]))) (ys++[v]))
   else H5 D=some (.lst ys)/\∃m',m'<m/\W (i+1) m' H5 ys)
def zbf {scope:Scope}{env:Env}{FR:Ad}{x:Str}(h:(relabel scope env).names.all (λy=>!(y.2 == .cell || y.2 == .free) || FR.contains y.1)=true)
  (e:(relabel scope env).names.lookup x=some .cell\/(relabel scope env).names.lookup x=some .free):x∈FR:=by
 have j:∀k:NameKind,(k == .cell || k == .free)=true->(x,k)∈(relabel scope env).names->x∈FR:=λk F G=>by
  have z:=Wa.mp h _ G
  simp only[F,Bool.not_true,Wn,List.contains_iff_mem]at z
  exact z
 rcases e with e | e
 ·exact j .cell rL (PySem.mem_of_lookup e)
 ·exact j .free rL (PySem.mem_of_lookup e)
def JA {X:Cx}{elt tg iter:Expr}{ifs:Ag}{scope:Scope}{cl:List (Str×Addr)}{pos:Pos}{NB FR:Ad}{js:List Nat}{wi:TI}{g:TG}{tt:TT}{te:TE}{Q:VK}{RR:Value->Addr->Result->Shared->Prop}
  {pz:Ab}{s:Shared}{σ:St}{H:Hp}(hc:X.calm=true) (hcl:∀x c,cl.lookup x=some c->X.env.cells.lookup x=some c) (hcap:XV X scope cl FR js)
  (hnm:(relabel scope X.env).names.all (λy=>!(y.2 == .cell || y.2 == .free) || FR.contains y.1)=true) (hcell:∀x∈scope.names,x.2≠.cell) (hkind:scope.kind=.function)
  (hi:PI X tg iter wi) (hb:∀s3 H3 fp,PG (xV X NB FR scope cl s3 H3 fp) tg g/\PTs (xV X NB FR scope cl s3 H3 fp) ifs tt/\PE (xV X NB FR scope cl s3 H3 fp) elt te)
  (I:Inv X pz σ H s) (h:zcb NB.length js wi g tt te σ H Q)
  (hRR:∀D C H' s',Inv X pz σ H' s'->Vt X pz H' C->(∃m,s'.heap.Ns C m)->Q (.ref D) H'->RR (.ref D) C (.ok .next) s') :
  wpAny (model X.prog X.w) X.A (eval iter X.env) (λv s1=>wpAny (model X.prog X.w) X.A (pyIter v) (λit s2=>wpAny (model X.prog X.w) X.A (newList []) (λacc s3 =>
   wpAny (model X.prog X.w) X.A (newFunctionEnv scope X.env.globals cl [] X.env.qual none .none (some X.env)) (λcenv s4 =>
    codeAny (model X.prog X.w) X.A (.compStart (.ListComp elt [⟨tg,iter,ifs,0⟩] scope pos) 0 it acc { cenv with scope:=relabel scope X.env }) (RR acc cenv.locals) s4) X.xe s3) X.xe s2) X.xe s1) X.xe s:=by
 refine thn (hi pz s σ H _ I h) λv s1 h1=>thn h1 λitv s2 h2=>?_
 obtain⟨it,fp,tn,J,H2,e,I2,T,st2,f2,q2⟩:=h2
 subst e
 have hf2:H2 s2.heap.objs.size=none:=I2.hok.fresh (wq _)
 obtain⟨W,⟨m0,w0⟩,turn⟩:=q2 _ hf2
 refine yv (hd:=by size_fits) ?_
 have I3:Inv X pz σ (upd H2 s2.heap.objs.size (.lst [])) { s2 with heap:=s2.heap.push { cls:=.type "list",dict:=none,data:=.seq ([]:Ac).toArray } } :=
  I2.laid (t':=s2.toks) (λb u e=>wg _ e) (wq _) ⟨by decide,[],0,.nil,wD _ rfl⟩
 generalize hD:s2.heap.objs.size=D at *
 generalize hs3:({ s2 with heap:=s2.heap.push { cls:=.type "list",dict:=none,data:=.seq ([]:Ac).toArray } }:Shared)=s3 at *
 generalize hH3:upd H2 D (.lst [])=H3 at *
 have h3D:H3 D=some (.lst []):=by rw[<-hH3];exact zi
 have fpD:∀b∈fp,b≠D:=λb hb=>by
  obtain⟨o,e,_⟩:=T.obj _ _ st2 b hb
  rw[<-hD];exact wQ (wA e)
 have k23:∀b u,s2.heap.get? b=some u->s3.heap.get? b=some u:=λb u e=>by rw[<-hs3];exact wg _ e
 have st3:tn 0 s3.heap:=T.keep _ _ _ st2 λb _ o e=>k23 b o e
 have f3:∀b∈fp,Vt X pz H3 b:=λb hb=>⟨by rw[<-hH3,zK (fpD b hb)];exact(f2 b hb).1,(f2 b hb).2⟩
 refine wpAny_newFunctionEnv hcell (by intro y hy;simp at hy) (λh4 hns4 hsb4=>?_) hkind
 have k34:∀b u,s3.heap.get? b=some u->h4.get? b=some u:=λb u e=>hsb4.extBut b u (wQ (wA e)) (wg _ e)
 have okB:(xV X NB FR scope cl s3 H3 fp).Ok:=by
  refine⟨I3.ok.mod,hkind,I3.ok.glob,I3.ok.blt,wq _,λx y c e1 e2=>I3.ok.inj x y c (hcl _ _ e1) (hcl _ _ e2),λx e=>hcap.has (zbf hnm e),(λx c e=>nomatch e),I3.ok.hd,I3.ok.frames,.inl rL,λb hb=>⟨?_,λx c e=>?_⟩,I3.bs,wY I3.ok.bsz I3.sz,λb o e hb=>?_,λb hb z=>?_,I3.stack,I3.stkFree⟩
  ·obtain⟨o,e,_⟩:=T.obj _ _ st3 b hb
   exact wQ (wA e)
  ·exact(f3 b hb).2.2.2.2.1 x c (hcl _ _ e)
  ·obtain⟨_,_,_,z,_⟩:=f3 b hb
   rcases z with z | z
   ·exact I3.ok.noex b o e z
   ·exact absurd (wM (wA e) (wY I3.ok.bsz z)) (uC _)
  ·obtain⟨_,z1,z2,_⟩:=f3 b hb
   rcases wy.mp (I3.stkSub b z)with e | e
   ·exact z1 e
   ·exact z2 e
 have IB:Inv (xV X NB FR scope cl s3 H3 fp) [] (List.replicate NB.length none++qY σ js) H3 { s3 with heap:=h4,toks:=s3.toks+([]:List (Str×Value)).length }:=by
  refine⟨okB,rL,I3.bare,Un.kept k34,⟨_,hns4,λi x v e1 e2 e3=>?_⟩,λx c e=>?_,I3.hok.fresh (wq _),λx c e=>I3.freeC x c (hcl _ _ e),λp hp=>?_,I3.hok.kept k34,?_⟩
  ·by_cases hi:i<NB.length
   ·rw[wE ↥hi,Wj,if_pos hi]at e2
    cases e2
   ·have e1':FR[i-NB.length]?=some x:=by
     have z:(NB++FR)[i]?=some x:=e1
     rw[wB (by omega)]at z;exact z
    rw[wB (by simp;omega),uq]at e2
    obtain⟨j,hj,hN,hk,hb',c,hc'⟩:=hcap.get e1'
    have e2':σ[j]?=some (some v):=by
     unfold qY at e2
     rw[we,hj]at e2
     simp only[Wo,Option.some.injEq]at e2
     cases hσ:σ[j]? with
     |none=>rw[hσ]at e2;cases e2
     |some o=>rw[hσ]at e2;simp only[Yq]at e2;rw[e2]
    obtain⟨m,hn,hl⟩:=I3.loc
    obtain⟨u,ru,lu⟩:=hl j x v hN e2' (.inr (.inl hk))
    refine⟨u,ru,.inr ⟨.inl hb',c,hc',?_⟩⟩
    rcases lu with⟨z,_⟩ | ⟨_,c',z,q⟩
    ·rw[hk]at z;cases z
    ·rw[hcl _ _ hc']at z;cases z
     obtain⟨o,ho,hd⟩:=q
     exact⟨o,k34 _ _ ho,hd⟩
  ·obtain⟨v,o,ho,hd⟩:=I3.cell x c (hcl _ _ e)
   exact⟨v,o,k34 _ _ ho,hd⟩
  ·exact absurd (show p∈([]:Ab)from hp) (by simp)
  ·show _=(NB++FR).length
   rw[wC,wC,uq,hcap.length]
   unfold qY;rw[wk]
 have st4:tn 0 h4:=T.keep _ _ _ st3 λb _ o e=>k34 b o e
 have stat:∀{H':Hp},(∀b∈fp,H' b=none)->∀b∈fp,Vt (xV X NB FR scope cl s3 H3 fp) [] H' b:=λhn b hb =>
  ⟨hn b hb,(okB.exf b hb).1,okB.exfs b hb,.inl hb,λx c e=>(f3 b hb).2.2.2.2.1 x c (hcl _ _ e),λp hp=>absurd (show p∈([]:Ab)from hp) (by simp)⟩
 obtain⟨hg,ht,he⟩:=hb s3 H3 fp
 have fin:∀{σ':St}{H':Hp}{s':Shared},Inv (xV X NB FR scope cl s3 H3 fp) [] σ' H' s'->Q (.ref D) H'->RR (.ref D) s3.heap.objs.size (.ok .next) s':=λ{σ' H' s'} J q=>by
  have hm:∃m,s'.heap.Ns s3.heap.objs.size m:=by
   obtain⟨m,hm,_⟩:=J.loc
   exact⟨m,hm⟩
  refine hRR D _ H' s' (I3.call' (ch:=fp) J.os J.base J.hok J.bare λb hb=>?_) (I3.fpOk (wq _) J.free) hm q
  obtain⟨_,z1,z2,z3,z4,z5⟩:=f3 b hb
  exact⟨z3,z1,z4,z5⟩
 have loop:∀s5:Shared,s5 = { s3 with heap:=h4,toks:=s3.toks+([]:List (Str×Value)).length } →
   codeAny (model X.prog X.w) X.A (.compLoop (.ListComp elt [⟨tg,iter,ifs,0⟩] scope pos) 0 (.ref it) (.ref D) (compEnvC scope cl s3.heap.objs.size X.env)) (RR (.ref D) s3.heap.objs.size) s5:=by
  rintro s5 rfl
  refine XZ (λn s'=>∃i zs H' ys,zs.length=NB.length/\Inv (xV X NB FR scope cl s3 H3 fp) [] (zs++qY σ js) H' s'/\tn i s'.heap/\(∀b∈fp,H' b=none)/\H' D=some (.lst ys)/\W i n H' ys) ?_ m0
   ⟨0,_,H3,[],uq,IB,st4,λb hb=>(f3 b hb).1,h3D,by rw[<-hH3]at *;exact w0⟩
  rintro n s6 ⟨i,zs,H6,ys,hzs,I6,st6,fr6,hD6,w6⟩
  rcases turn i n H6 ys w6 hD6 with⟨stop,qn⟩ | ⟨go,step⟩
  ·refine thn (T.done (xV X NB FR scope cl s3 H3 fp) rL rL rL hc i [] s6 _ H6 _ I6 (stat fr6) st6 stop) λr s7 ⟨hr,I7⟩=>?_
   subst hr
   exact fin I7 qn
  ·refine thn (T.item (xV X NB FR scope cl s3 H3 fp) rL rL rL hc i [] s6 _ H6 _ I6 (stat fr6) st6 go) λr s7 ⟨u,hr,h7⟩=>?_
   subst hr
   refine thn h7 λ_ s8 ⟨x,H8,I8,r8,y8,st8,fr8⟩=>?_
   have I8':=I8.pinned (stat fr8) (T.obj _ _ st8)
   have again:∀{σ9:St}{H9:Hp}{s9:Shared}{ws:Ba}{m':Nat},σ9.drop NB.length=qY σ js->Inv (xV X NB FR scope cl s3 H3 fp) ([]++Qy fp s8.heap) σ9 H9 s9->H9 D=some (.lst ws)->m'<n->W (i+1) m' H9 ws →
     ∃m,m<n/\∃i zs H' ys,zs.length=NB.length/\Inv (xV X NB FR scope cl s3 H3 fp) [] (zs++qY σ js) H' s9/\tn i s9.heap/\(∀b∈fp,H' b=none)/\H' D=some (.lst ys)/\W i m H' ys:=λ{σ9 H9 s9 ws m'} hdr I9 hz hm w9=>by
    have hl:σ9.length=(NB++FR).length:=I9.len
    rw[wC]at hl
    refine⟨m',hm,i+1,σ9.take NB.length,H9,ws,by rw[wU];omega,?_,T.keep _ _ _ st8 λb hb o e=>(I9.pin (b,o) (ww _ (ww _ (vg hb e)))).1,λb hb=>?_,hz,w9⟩
    ·rw[<-hdr,List.take_append_drop];exact I9.unpinned
    ·obtain⟨o,e,d⟩:=T.obj _ _ st8 b hb
     exact(I9.pin (b,o) (ww _ (ww _ (vg hb e)))).2.1
   refine thn (hg _ s8 _ H8 x u _ I8' r8 (step zs x H8 hzs y8)) λ_ s9 ⟨σ9,H9,I9,hdr,q9⟩=>?_
   refine thn (ht _ s9 σ9 H9 _ I9 q9) λok s10 ⟨H10,I10,q10⟩=>?_
   cases ok with
   |false =>
    rw[if_neg ⇑1]at q10 ⊢
    obtain⟨hz,m',hm,w'⟩:=q10
    exact again hdr I10 hz hm w'
   |true =>
    rw[if_pos rfl]at q10 ⊢
    refine thn (he _ s10 σ9 H10 _ I10 q10) λy s11 ⟨v,H11,I11,r11,hz,hlen,m',hm,w'⟩=>?_
    refine thn (qO _ s11 σ9 H11 (.ref D) [v] (.ref D) [y] (λ_ H12=>H12=upd H11 D (.lst (ys++[v]))) I11 rL (.cons r11 .nil) ⟨D,ys,v,rL,rL,hz,hlen,rL⟩) λ_ s12 ⟨_,H12,I12,_,e12⟩=>?_
    subst e12
    exact again hdr I12 zi hm w'
 exact codeAny_compStart_list (loop _ rL) (T.self X.A 0 _ _ _ st4 (loop _ rL))
section
variable {X:Cx}{elt tg iter:Expr}{ifs:Ag}{scope:Scope}{cl:List (Str×Addr)}{pos spos py:Pos}{NB FR:Ad}{js:List Nat}{wi:TI}{g:TG}{tt:TT}{te:TE}
theorem Zj (hc:X.calm=true) (hclos:closureFor scope X.env=pure cl) (hcl:∀x c,cl.lookup x=some c->X.env.cells.lookup x=some c) (hcap:XV X scope cl FR js)
  (hnm:(relabel scope X.env).names.all (λy=>!(y.2 == .cell || y.2 == .free) || FR.contains y.1)=true) (hcell:∀x∈scope.names,x.2≠.cell) (hkind:scope.kind=.function) (hnames:∀x∈scope.names,x.2=.local → scope.names.lookup x.1=some .local)
  (hi:PI X tg iter wi) (hb:∀s3 H3 fp,PG (xV X NB FR scope cl s3 H3 fp) tg g/\PTs (xV X NB FR scope cl s3 H3 fp) ifs tt/\PE (xV X NB FR scope cl s3 H3 fp) elt te)
  (hs:∀x,foldedSetIterable iter X.env x=pure x:=by intro _;rfl) :
  PE X (.ListComp elt [⟨tg,iter,ifs,0⟩] scope pos) (zcb NB.length js wi g tt te):=by
 intro pz s σ H Q I h
 rw[eval_ListComp]
 refine Yk (use:=none) rL hs hclos hkind hnames (JA (RR:=λacc C=>compPost (model X.prog X.w) X.A X.xe none (EP X pz σ Q) acc C) hc hcl hcap hnm hcell hkind hi hb I h ?_)
 intro D C H' s' I' ⟨f0,f1,f2,f3,f4,f5⟩ ⟨m,hm⟩ q
 exact⟨m,hm,λh' sb=>⟨.ref D,H',I'.turned (t':=s'.toks) (λb o hb e=>(sb.2 b hb).trans e) f0 f1 f3 f4 f5,rL,q⟩⟩
theorem vo {i:Nat}{y:Str}(hc:X.calm=true) (hclos:closureFor scope X.env=pure cl) (hcl:∀x c,cl.lookup x=some c->X.env.cells.lookup x=some c) (hcap:XV X scope cl FR js)
  (hnm:(relabel scope X.env).names.all (λy=>!(y.2 == .cell || y.2 == .free) || FR.contains y.1)=true) (hcell:∀x∈scope.names,x.2≠.cell) (hkind:scope.kind=.function) (hnames:∀x∈scope.names,x.2=.local → scope.names.lookup x.1=some .local)
  (hN:X.N.Nodup) (hiN:X.N[i]?=some y) (hy:X.env.kindOf y=some .local) (hsw:swapsWith (.ListComp elt [⟨tg,iter,ifs,0⟩] scope pos) (some (.Name y py)) spos.line X.env=pure true)
  (hi:PI X tg iter wi) (hb:∀s3 H3 fp,PG (xV X NB FR scope cl s3 H3 fp) tg g/\PTs (xV X NB FR scope cl s3 H3 fp) ifs tt/\PE (xV X NB FR scope cl s3 H3 fp) elt te)
  (hs:∀x,foldedSetIterable iter X.env x=pure x:=by intro _;rfl) :
  PS X (.Assign [.Name y py] (.ListComp elt [⟨tg,iter,ifs,0⟩] scope pos) spos) (zca (zcb NB.length js wi g tt te) (zM i)):=by
 intro pz s σ H D I h
 rw[exec_Assign_Name_used _ _ _ _ hsw]
 refine wc (uH (wc ?_))
 show wpAny _ _ (do let _ <-comprehension (.ListComp elt [⟨tg,iter,ifs,0⟩] scope pos) scope X.env _ (newList []) false (eval iter X.env) (some (assign (.Name y py) X.env))) _ _ s
 refine wc (yF (Yk (use:=some (assign (.Name y py) X.env)) (Q:=λ_ s'=>SP X pz D .next s') rL hs hclos hkind hnames
  (JA (RR:=λacc C=>compPost (model X.prog X.w) X.A X.xe (some (assign (.Name y py) X.env)) (λ_ s'=>SP X pz D .next s') acc C) hc hcl hcap hnm hcell hkind hi hb I h ?_)) (λ_ s' hq=>wu (wu hq)) λ_ _ e=>e)
 intro DD C H' s' I' ⟨f0,f1,f2,f3,f4,f5⟩ ⟨m,hm⟩ q
 show wpAny _ _ (assign (.Name y py) X.env (.ref DD)) _ _ s'
 refine wpAny_assign_Name (JS (v:=.ref DD) I' hN hiN (.inl hy) rL (λs'' I'' ⟨a,sa,ha⟩=>?_) (.inr hy))
 have hCa:C≠a:=by
  rcases ha with rfl | ha
  ·exact f1
  ·exact λz=>f4 y a ha z.symm
 exact⟨m,hm.sameBut sa hCa,λh' sb=>⟨_,H',I''.turned (t':=s''.toks) (λb o hb e=>(sb.2 b hb).trans e) f0 f1 f3 f4 f5,q⟩⟩
end
section
variable {prog:Program}{w:World}{A:Around}{E:Af}{s:Shared}
theorem zgW {j t:Addr}{i:Nat}{vs:Ae}{x:Value}{Q:Af}(I:s.heap.IsTupleIter j t i) (kt:s.heap.IsTuple t vs) (O:vs[i]?=some x)
  (q:∀h',h'.IsTupleIter j t (i+1)->Heap.SameBut j s.heap h'->Q x { s with heap:=h' }):wpAny (model prog w) A (Builtin.SmallTypes.nextOf (.ref j)) Q E s:=by
 obtain⟨V,e1,e2,G⟩:=id I
 obtain⟨Y,S,_,W,U⟩:=kt
 unfold Builtin.SmallTypes.nextOf
 refine wc (wpAny_callSpecial?_slot (name:=Str.ofString "__next__") I.typeIs F.slot_tuple_iterator_next (yV F.slot_tuple_iterator_next I.typeIs F.entry_tuple_iterator_next ?_ (F.args_tuple_iterator_next_1 _)))
 show wpAny _ _ (field (.ref j) 0 >>= _) _ _ s
 refine wc (yh e1 G (x:=.ref t) rL ?_)
 show wpAny _ _ (if(Value.ref t == .none)=true then _ else _) _ _ s
 rw[if_neg (show ¬((Value.ref t == .none)=true)from wN)]
 show wpAny _ _ (field (.ref j) 1 >>= _) _ _ s
 refine wc (yh e1 G (x:=.int i 0) rL (?_:wpAny _ _ (seqItems? (.ref t) >>= _) _ _ s))
 refine wc (yL S U ?_)
 simp only[yD,O]
 refine wc (uI e1 G (by simp) (wu ⟨x,rfl,wu (q _ ⟨_,yC _ e1 (Obj.isFreed_of_fields (Obj.data_mapFields G _)),(Obj.cls_mapFields ..).trans e2,?_⟩ (Heap.SameBut.update ..))⟩))
 rw[Obj.data_mapFields G];simp[rawInt]
theorem zjx {j t:Addr}{i:Nat}{vs:Ae}{Q:Af}(O:A.handled=none) (G:s.heap.IsTupleIter j t i) (kt:s.heap.IsTuple t vs) (S:vs[i]?=none)
  (q:∀h' e,Heap.ExtBut j s.heap h'->(∃o,h'.get? e=some o/\o.cls=.type "StopIteration")->E (.ref e) { s with heap:=h' }):wpAny (model prog w) A (Builtin.SmallTypes.nextOf (.ref j)) Q E s:=by
 obtain⟨W,e1,e2,I⟩:=id G
 obtain⟨ot,U,_,Y,V⟩:=kt
 unfold Builtin.SmallTypes.nextOf
 refine wc (wpAny_callSpecial?_slot (name:=Str.ofString "__next__") G.typeIs F.slot_tuple_iterator_next (yV F.slot_tuple_iterator_next G.typeIs F.entry_tuple_iterator_next ?_ (F.args_tuple_iterator_next_1 _)))
 show wpAny _ _ (field (.ref j) 0 >>= _) _ _ s
 refine wc (yh e1 I (x:=.ref t) rL ?_)
 show wpAny _ _ (if(Value.ref t == .none)=true then _ else _) _ _ s
 rw[if_neg (show ¬((Value.ref t == .none)=true)from wN)]
 show wpAny _ _ (field (.ref j) 1 >>= _) _ _ s
 refine wc (yh e1 I (x:=.int i 0) rL (?_:wpAny _ _ (seqItems? (.ref t) >>= _) _ _ s))
 refine wc (yL U V ?_)
 simp only[yD,S]
 refine wc (uW (wc (uI e1 I (by simp) (?_:wpAny _ _ (newExc (.type "StopIteration") [] >>= _) _ _ _))))
 refine wc ?_
 simp only[newExc,newTuple]
 refine wc (yv (wc (m:=firstArgMember _ _) (wpAny_of_eq (a:=Value.none) (by first | rfl | (simp only[firstArgMember];rfl)) (yv ?_ (by size_fits)))) (by size_fits))
 simp only[raiseNew]
 refine wc (wpAny_handled (?_))
 first | rw[show A.in1.handled=none from O] | rw[O]
 exact wc (wu (wpAny_throw (q _ _ (((Heap.SameBut.update ..).extBut.push _).push _) ⟨_,wD _ rL,rL⟩)))
section
variable {z TI TO j1 j2 t1 t2:Addr}{i:Nat}{xs ys:Ae}
theorem zgd {h:Heap}{F:Value}{vs:Ae}{t:Addr}(j:h.IsTuple t vs) (hz:IsZip h z TI TO F):t≠z:=λe=>by
 obtain⟨o,e1,e2,_⟩:=j
 rw[e,hz]at e1;cases e1;simp at e2
end
end
def Itz (K:Fg) (t1 t2:Addr):It :=
 ⟨λi H=>∃xs ys x y,SqT K H t1 xs/\SqT K H t2 ys/\xs[i]?=some x/\ys[i]?=some y,
  λi H v H'=>∃T x y,v=.ref T/\H T=none/\H'=upd H T (.tup [x,y])/\(∀xs,SqT K H t1 xs->xs[i]?=some x)/\∀ys,SqT K H t2 ys->ys[i]?=some y,
  λi H=>∃xs ys,SqT K H t1 xs/\SqT K H t2 ys/\(xs.length<=i\/ys.length<=i)⟩
section
variable {X:Cx}
def zk8 (K:Fg) (t:TA):TI:=λσ H R=>t σ H λvs H1=>∃t1 t2,vs=[.ref t1,.ref t2]/\(∃xs,SqT K H1 t1 xs)/\(∃ys,SqT K H1 t2 ys)/\R (Itz K t1 t2) H1
theorem nne {a b:Nat}(h:a<b):a≠b:=wQ h
theorem zcm:∀{bs:List Bool}{us:Ac}{i:Nat}{v:Value},xh (bs.map V.bl) us->us[i]?=some v->∃b,bs[i]?=some b/\v=.bool b
 |[],_,_,_,r,e=>by cases r;simp at e
 |b::bs,_,i,v,r,e=>by
  cases r with
  |cons h t =>
   cases i with
   |zero=>simp at e;subst e;exact⟨b,rfl,h⟩
   |succ i=>obtain⟨c,e1,e2⟩:=zcm (i:=i) t ↥e;exact⟨c,↥e1,e2⟩
theorem Jq:∀(bs:List Bool) (k:Nat),((List.range' k bs.length).all λi=>(bs[i-k]?).getD true)=bs.all id
 |[],k=>rfl
 |b::bs,k=>by
  rw[wJ,List.range'_succ,List.all_cons,List.all_cons]
  simp only[Nat.sub_self,List.getElem?_cons_zero,Yq,id]
  congr 1
  rw[<-Jq bs (k+1)]
  apply yH.mpr
  simp only[Wa,List.mem_range'_1]
  constructor
  ·intro h i hi
   have:=h i hi
   rw[show i-k=(i-(k+1))+1 by lia,List.getElem?_cons_succ]at this;exact this
  ·intro h i hi
   rw[show i-k=(i-(k+1))+1 by lia,List.getElem?_cons_succ];exact h i hi
theorem Vx (Y:X.calm=true):ZJ X (.builtin "all") (λxs H Q=>∃(p:Addr) (bs:List Bool),xs=[.ref p]/\SqL X.K H p (bs.map V.bl)/\Q (.bl (bs.all id)) H):=by
 intro pz s σ H xs us Q I r h
 obtain⟨p,bs,rfl,U,q⟩:=h
 obtain⟨u,rfl,W⟩:=Xz r
 cases W
 obtain⟨j,S,pl,_⟩:=I.list U
 have G:p<s.heap.objs.size:=by obtain⟨o,n,e,_⟩:=pl;exact wA e
 have O:=S.length
 rw[wk]at O
 refine call_all_walk (WD pl.isList ⟨s.heap.objs.size,_,_,_,_,_,λi=>(bs[i]?).getD true,rL,Walks.list (A:=X.A.in1) (show X.A.in1.handled=none from I.ok.hd Y) s.heap.objs.size p (wQ G) j.toArray,
  ⟨⟨_,wD _ rfl,rfl,rfl⟩,pl.isList.push _⟩,λi v s' Q' E' hv F=>?_,λh' tk k=>⟨.bl (bs.all id),H,I.kept λb o e=>k b o (by simpa using wQ (wA e)) (wg _ e),?_,q⟩⟩)
 ·obtain⟨b,e1,rfl⟩:=zcm S ↥hv
  simp only[e1,Yq]at F
  exact wu F
 ·have:=Jq bs 0
  simp only[Nat.sub_zero]at this
  rw[show j.toArray.size=bs.length by simp[O],List.range_eq_range',this];rfl
end
end L2
namespace HT
open PySem PyProof.Rows
section
variable {prog:Program}{w:World}{A:Around}{E:Af}{s:Shared}
theorem whole_cut {t F:Addr}{items:Ae}{S V:Value}{lo hi:Option Int}{Q:Af}(j:IsTup s.heap t items) (U:s.heap.IsSliceOf F S V .none) (pl:IsPart S lo) (Y:IsPart V hi)
  (hw:sIx items.size 0 lo=0/\sIx items.size items.size hi=items.size) (h:Q (.ref t) s):wpAny (model prog w) A (getItem (.ref t) (.ref F)) Q E s:=by
 obtain⟨os,G,I,W⟩:=id U
 have O:s.TypeIs (.ref F) "slice":=⟨os,G,I⟩
 unfold getItem
 try with_reducible refine yr ?_
 first | refine wc (wu ?_) | skip
 refine wc (Yi j.typeIs ⇑1 ?_)
 refine wc (wpAny_callSpecial?_slot (name:=Str.ofString "__getitem__") j.typeIs yt
  (yV yt j.typeIs entry_tuple_getitem ?_ (args_tuple_getitem _ _)))
 show wpAny _ _ (Builtin.Tuple.tupleItemsOf (.ref t) >>= _) _ _ s
 refine wc (tupleItemsOf_ j ?_)
 refine wc (WJ O ?_)
 rw[if_pos ⇑1]
 refine wc (Zk U pl Y ?_)
 show wpAny _ _ (if(((sIx items.size 0 lo:Nat):Int) == 0&&(1:Int) == 1&&(sIx items.size items.size hi-sIx items.size 0 lo) == items.size)=true then _ else _) _ _ s
 rw[if_pos (by rw[hw.1,hw.2];simp)]
 refine wc ?_
 unfold Builtin.Tuple.tupleIsExact
 refine wc (WJ j.typeIs (wu ?_))
 rw[if_pos ⇑1]
 first
  |exact wc (uW (wu ⟨_,rfl,wu h⟩))
  |exact wc (uW (wc (wu (wu ⟨_,rfl,wu h⟩))))
  |exact wc (uW (wc (wu ⟨_,rfl,wu h⟩)))
end
end HT
namespace L2
open PySem PySem.Spec PyProof.Rows
section
variable {X:Cx}
def zjS (K:Fg):V->Option Int->Option Int->Hp->VK->Prop:=λx lo hi H Q=>∃a xs,x=.ref a/\SqT K H a xs/\(HT.sIx xs.length 0 lo=0/\HT.sIx xs.length xs.length hi=xs.length)/\Q x H
theorem Xm:SlR X (zjS X.K):=by
 intro pz s σ H x v W vu lo hi Y Q I S U pl V h
 obtain⟨a,xs,rfl,O,hw,q⟩:=h
 cases S
 obtain⟨F,r,G,hz⟩:=I.tuple O
 have j:F.toArray.size=xs.length:=by rw[wz];exact r.length.symm
 exact⟨"tuple",_,yt.lookup,G.typeIs,HT.whole_cut G U pl V (by rw[j];exact hw) ⟨.ref a,H,I,rfl,q⟩⟩
end
section
variable {J:It}{D:Addr}{N n:Nat}{js:List Nat}{σ:St}{g:TG}{tt:TT}{te:TE}{Q:VK}{H:Hp}
theorem X0 (j:Nat->Hp->Ba->Prop) (h0:j 0 (upd H D (.lst [])) []) (a2:∀i H ys,i<N->j i H ys->J.go i H) (a1:∀H ys,j N H ys->J.stop N H)
  (hs:∀i x zs H2 G ys (Nx:Hp->Ba->Prop),(∀H ys,j (i+1) H ys->Nx H ys)->i<N->zs.length=n->J.yld i H2 x G->j i H2 ys->H2 D=some (.lst ys)->g x zs G λU H4=>tt U H4 λb I =>
   if b=true then te U I (λv S=>S D=some (.lst ys)/\ys.length<sizeLine/\Nx (upd S D (.lst (ys++[v]))) (ys++[v]))else I D=some (.lst ys)/\Nx I ys)
  (hd:∀H ys,j N H ys->H D=some (.lst ys)->Q (.ref D) H) :
  ∃W:Nat->Nat->Hp->Ba->Prop,(∃m,W 0 m (upd H D (.lst [])) [])/\∀i m H2 ys,W i m H2 ys->H2 D=some (.lst ys)->(J.stop i H2/\Q (.ref D) H2) ∨
   (J.go i H2/\∀Y x G,Y.length=n->J.yld i H2 x G->g x Y G λU H4=>tt U H4 λb I=>if b=true then te U I (λv S=>S D=some (.lst ys)/\ys.length<sizeLine/\∃F,F<m/\W (i+1) F (upd S D (.lst (ys++[v]))) (ys++[v]))
    else I D=some (.lst ys)/\∃F,F<m/\W (i+1) F I ys):=by
 refine⟨λi m H ys=>m=N-i/\i<=N/\j i H ys,⟨N,by simp,yo _,h0⟩,?_⟩
 rintro i m H2 ys ⟨rfl,hi,p⟩ hD
 by_cases hlt:i<N
 ·exact .inr ⟨a2 i H2 ys hlt p,λY x G hB y=>hs i x Y H2 G ys (λH' O=>∃F,F<N-i/\(F=N-(i+1)/\i+1<=N/\j (i+1) H' O)) (λH' O z=>⟨N-(i+1),by lia,rfl,hlt,z⟩) hlt hB y p hD⟩
 ·obtain rfl:i=N:=by lia
  exact .inl ⟨a1 H2 ys p,hd H2 ys p hD⟩
theorem XY (j:Nat->Hp->Ba->Prop) (h0:j 0 (upd H D (.lst [])) []) (a2:∀i H ys,i<N->j i H ys->J.go i H) (a1:∀H ys,j N H ys->J.stop N H)
  (hs:∀i x zs H2 G ys (Y:Hp->Ba->Prop),(∀H ys,j (i+1) H ys->Y H ys)->i<N->zs.length=n->J.yld i H2 x G->j i H2 ys->H2 D=some (.lst ys)->g x (zs++qY σ js) G λO H4=>O.drop n=qY σ js/\tt O H4 λb I =>
   if b=true then te O I (λv U=>U D=some (.lst ys)/\ys.length<sizeLine/\Y (upd U D (.lst (ys++[v]))) (ys++[v]))else I D=some (.lst ys)/\Y I ys)
  (hd:∀H ys,j N H ys->H D=some (.lst ys)->Q (.ref D) H) :
  ∃W:Nat->Nat->Hp->Ba->Prop,(∃m,W 0 m (upd H D (.lst [])) [])/\∀i m H2 ys,W i m H2 ys->H2 D=some (.lst ys)->(J.stop i H2/\Q (.ref D) H2) ∨
   (J.go i H2/\∀zs x G,zs.length=n->J.yld i H2 x G->g x (zs++qY σ js) G λO H4=>O.drop n=qY σ js/\tt O H4 λb I=>if b=true then te O I (λv U=>U D=some (.lst ys)/\ys.length<sizeLine/\∃F,F<m/\W (i+1) F (upd U D (.lst (ys++[v]))) (ys++[v]))
    else I D=some (.lst ys)/\∃F,F<m/\W (i+1) F I ys):=by
 refine⟨λi m H ys=>m=N-i/\i<=N/\j i H ys,⟨N,by simp,yo _,h0⟩,?_⟩
 rintro i m H2 ys ⟨rfl,hi,p⟩ hD
 by_cases hlt:i<N
 ·exact .inr ⟨a2 i H2 ys hlt p,λσB x G hB y=>hs i x σB H2 G ys (λH' S=>∃F,F<N-i/\(F=N-(i+1)/\i+1<=N/\j (i+1) H' S)) (λH' S z=>⟨N-(i+1),by lia,rfl,hlt,z⟩) hlt hB y p hD⟩
 ·obtain rfl:i=N:=by lia
  exact .inl ⟨a1 H2 ys p,hd H2 ys p hD⟩
end
def zgr {α:Type}(a:α) (r:List α):atI (a::r) 0=some a:=xG (xs:=a::r) (j:=0) rfl
def zkS {α:Type}(a b:α) (r:List α):atI (a::b::r) 1=some b:=xG (xs:=a::b::r) (j:=1) rfl
def zal {H H2 j:Hp}{D:Addr}{o:HO}(F:H D=none) (e:zk H H2) (e2:zk H2 j):zk H (upd j D o):=λb u z=>by rw[zK (zN z F)];exact e2 _ _ (e _ _ z)
section
variable {prog:Program}{w:World}{A:Around}{E:Af}{s:Shared}
theorem zet {t b:Addr}{ws:Ac}{Q:Af}(ht:IsTup s.heap t ([]:Ac).toArray) (hb:IsTup s.heap b ws.toArray) (h0:Q (.ref b) s):wpAny (model prog w) A (binaryOp .Add (.ref t) (.ref b)) Q E s:=by
 obtain⟨⟨cls,dd,data,sl⟩,W,Y,n,hd⟩:=id ht
 obtain⟨⟨V,O,U,S⟩,j,I,n2,G⟩:=id hb
 simp only at Y hd I G
 subst Y hd I G
 exact concat_meets ⟨_,W,rL⟩ ⟨_,j,rL⟩ noFill_tuple_add seq_tuple_add Wv Wk (Wh _ _)
   (tuple_addW0 t b ([]:Ac).toArray ws.toArray n n2 dd O sl S (by simp)) ⟨W,j,h0⟩
end
inductive zfq (K:Fg) (x:V) (y:V) (H:Hp) (Q:VK):Prop
 |mk:∀a b xs ys,(x=.ref a)->(y=.ref b)->(SqT K H a xs)->(SqT K H b ys)->(xs.length+ys.length<=sizeLine)->((xs=[]->Q (.ref b) H))->((xs≠[]->ys=[]->Q (.ref a) H))->((xs≠[]->ys≠[]->∀p,H p=none->Q (.ref p) (upd H p (.tup (xs++ys)))))->zfq K x y H Q
def ziu (K:Fg):R2:=λx y H Q=>zfq K x y H Q
def zcM {X:Cx}:OpR X (binaryOp .Add) (ziu X.K):=by
 intro pz s σ H x y v u Q I F j h
 have h':=h
 obtain⟨a,b,xs,ys,rfl,rfl,O,S,hz,Y,V,q2⟩:=h'
 by_cases hx:xs=[]
 ·cases F
  cases j
  obtain⟨U,r1,W,_⟩:=I.tuple O
  obtain⟨G,r2,p2,_⟩:=I.tuple S
  subst hx
  cases r1
  exact zet W p2 ⟨.ref b,H,I,rL,Y rL⟩
 ·exact zha pz s σ H _ _ v u Q I F j ⟨a,b,xs,ys,rL,rL,O,S,hx,hz,V hx,q2 hx⟩
section
variable {N:List Addr}{σ:St}{H:Hp}{K:Fg}
def qZ {α:Type}(xs:List α) (lo hi:Option Int):List α:=(xs.drop (HT.sIx xs.length 0 lo)).take (HT.sIx xs.length xs.length hi-HT.sIx xs.length 0 lo)
end
def rD (x:Rat):PyData:=.tuple [.int x.num,.int (x.den:Int)]
def Zr {H:Hp}{p:Addr}{x:Rat}(h:zC H p x):RdD H (.ref p) (rD x):=h.rd
def szl {n:Nat}(h:n<=1000):n<=sizeLine:=W3 (xn h)
def zgA {α:Type}(xs:List α) (j:Nat):qZ xs none (some (j:Int))=xs.take j:=by
 unfold qZ
 rw[HT.sIx_none,HT.sIx_nat,List.drop_zero,Nat.sub_zero]
 rcases Nat.le_total j xs.length with h | h
 ·rw[WU h]
 ·rw[Yr h,wH (wq _),wH h]
def JC {α:Type}(xs:List α) (j:Nat):qZ xs (some (j:Int)) none=xs.drop j:=by
 unfold qZ
 rw[HT.sIx_none,HT.sIx_nat]
 rcases Nat.le_total j xs.length with h | h
 ·rw[WU h,wH (by rw[wV];exact wq _)]
 ·rw[Yr h,Nat.sub_self,List.take_zero,Ww h]
def QV {te:TE}{i:Nat}{u:TS}{D:vq}{σ:St}{H:Hp}(h:te σ H λv H1=>u D (σ.set i (some v)) H1):Jo (zca te (zM i)) u D σ H:=h
def zau {wi:TI}{g:TG}{tb:TS}{u:TS}{D:vq}{σ:St}{H:Hp}(h:zh3 wi g tb { D with nx:=u D } σ H):Jo (zh3 wi g tb) u D σ H:=h
def zf2 {c:TT}{tb:TS}{u:TS}{D:vq}{σ:St}{H:Hp}(h:zax c tb { D with nx:=u D } σ H):Jo (zax c tb) u D σ H:=h
inductive Bx (p:Prop):Prop
 |mk (h:p):Bx p
section
variable {X:Cx}
theorem vF:Bx (PA X [] Xn):=⟨zf⟩
theorem zW {e:Expr}{es:Ag}{te:TE}{t:TA}(j:Bx (PE X e te)) (hr:Bx (PA X es t)) (F:starEach (e::es) X.env=(false,eval e X.env)::starEach es X.env:=by rfl):Bx (PA X (e::es) (xN te t)):=by
 obtain⟨j⟩:=j;obtain⟨hr⟩:=hr;exact⟨ze j hr F⟩
theorem JX {es:Ag}{t:TA}{j:Nat}{pos:Pos}(h:Bx (PA X es t)):Bx (PE X (.Tuple es j pos) (zgb t)):=by
 obtain⟨h⟩:=h;exact⟨xa h⟩
theorem ZW {es:Ag}{t:TA}{pos:Pos}(h:Bx (PA X es t)):Bx (PE X (.List es pos) (zmi t)):=by
 obtain⟨h⟩:=h;exact⟨xF h⟩
theorem ZX {i:Nat}{x:Str}{e:Expr}{te:TE}{pos pos':Pos}(I:X.N.Nodup) (hi:X.N[i]?=some x) (O:Loc X.env.scope x) (j:Bx (PE X e te)) (G:swapsWith e (some (.Name x pos')) pos.line X.env=pure false:=by rfl)
  (F:X.fn x=true\/X.env.scope.names.lookup x=some .local := by first | exact .inl rfl | exact .inr rfl | assumption):Bx (PS X (.Assign [.Name x pos'] e pos) (zca te (zM i))):=by
 obtain⟨j⟩:=j;exact⟨Qz I hi O j G F⟩
theorem zE {st:Stmt}{rest:Ai}{t u:TS}(h1:Bx (PS X st t)) (h2:Bx (PSs X rest u)):Bx (PSs X (st::rest) (Jo t u)):=by
 obtain⟨h1⟩:=h1;obtain⟨h2⟩:=h2;exact⟨zA h1 h2⟩
end
variable {P:Program}{w:World}{K:Fg}{mg:Aa}{base:Heap}
theorem Df.calB {x:Str}{st:Stmt}{N ps:Ad}{dvs:Ba}{k:Nat}{sp:Sp}(D:Df K mg x st ps dvs) (S:zF N ps (zr st)) (F:∀vs H Q E,sp vs H Q E->vs.length=ps.length)
  (j:∀(f:Addr) (cdv:Value) (A:Around) (outer:Aj) (s:Shared) (H:Hp) (vs:Ba) (Q:VK) (E:XK),xf k (A.deeper (envOfC x (zr st) s.heap.objs.size f cdv))->sp vs H Q E →
   ∃t,Bx (PSs (xi CX0 P w K mg base N x (zr st) f cdv A outer s H E).nox (xj st) t)/\t { nx:=λ_ H'=>Q .non H',rt:=Q } (qJ N vs) H):⇑3 x (k+1) ps dvs sp :=
 D.cal S F λf cdv A outer s H vs Q E hr h=>by
  obtain⟨t,⟨p⟩,q⟩:=j f cdv A outer s H vs Q E hr h
  exact⟨t,p,q⟩
theorem Df.calBq {x:Str}{st:Stmt}{N ps:Ad}{dvs:Ba}{k:Nat}{sp:Sp}(D:Df K mg x st ps dvs) (S:zF N ps (zr st))
  (j:∀(f:Addr) (cdv:Value) (A:Around) (outer:Aj) (s:Shared) (H:Hp) (vs:Ba) (Q:VK) (E:XK),xf k (A.deeper (envOfC x (zr st) s.heap.objs.size f cdv))->sp vs H Q E →
   ∃t,Bx (PSs (xi CX0 P w K mg base N x (zr st) f cdv A outer s H E).nox (xj st) t)/\t { nx:=λ_ H'=>Q .non H',rt:=Q } (qJ N vs) H) (F:∀vs H Q E,sp vs H Q E->vs.length=ps.length:=by intro _ _ _ _ h;repeat (first | (cases h;subst_vars;rfl) | (obtain⟨rfl,_⟩:=h;rfl) | (obtain⟨_,h⟩:=h))):⇑3 x (k+1) ps dvs sp:=D.calB S F j
abbrev zbt:Ac:=[.type "ValueError",.type "Exception",.type "BaseException",.type "object"]
section
variable {prog:Program}{w:World}{A:Around}{E:Af}{h:Heap}{g:Array GenState}{d:Drawn}{t:Nat}{os:OsState}
variable {nm qn:Str}{C N:Addr}{bs bm:Ac}{hd:Bool}{sn:Ad}{sub:Ac}{ab:Bool}{col:Option Bool}{dd:Option Addr}{k0 k1 k2 k3 k5:Option Value}
theorem zbz (T:OwnTail h zbt bm){W:Aa}{us:Ac}{V:Addr}{oI:Obj}{Q:Fin->Shared->Prop}(hC:h.get? C=some (excClassObj nm qn C N bs bm hd sn sub ab col dd k0 k1 k2 k3 k5 "ValueError.__new__")) (hn:h.Ns N W)
  (hi:W "__init__" = some (.ref V)) (hf:h.get? V=some oI) (a1:oI.cls=.type "function") (hz:us.length<=sizeLine)
  (hq:∀h2 e,Heap.MadeExcOf h h2 e (.ref C) us->wpAny (model prog w) A (call (.ref V) (.ref e::us)) (λr s2=>r=.none/\Q (.done (.ret (.ref e))) s2) E ⟨h2,g,d,t,os⟩) :
  wpAny (model prog w) A (Builtin.«type.__call__» ⟨.ref C::us,[]⟩) Q E ⟨h,g,d,t,os⟩:=by
 have j:=WY
 repeat (first | (with_reducible refine uX hC ?_) | (with_reducible refine wpAny_madeBy_exc hC ?_) | wp_step)
 refine codeAny_call_builtin_code (Code.quiet_builtin _ j.quiet) (wpAny_check_new_subU j ⇑0 T hC ?_)
 refine codeAny_exc_new_subU j ⇑0 j T hC ?_ hz
 show wpAny _ _ _ _ _ _
 generalize ho:({ cls:=.ref C,data:=.fields #[.ref h.objs.size,.none,.none,.none,.bool false,.none] }:Obj)=oe
 generalize ht:({ cls:=.type "tuple",data:=.seq us.toArray }:Obj)=ot
 have G:∀b o,h.get? b=some o->((h.push ot).push oe).get? b=some o:=λb o q=>wg oe (wg ot q)
 have S:=G _ _ hC
 have Y:=G _ _ hf
 have a2:((h.push ot).push oe).Ns N W:=let ⟨o,es,ep,e,r⟩:=hn;⟨o,es,ep,G _ _ e,r⟩
 have hg:((h.push ot).push oe).get? (h.objs.size+1)=some oe:=by
  have:=wD (h.push ot) (o:=oe) (by rw[<-ho];rfl)
  rwa [yI]at this
 have U:((h.push ot).push oe).get? h.objs.size=some ot:=wg oe (wD h (by rw[<-ht];rfl))
 have I:oe.cls=.ref C:=by rw[<-ho]
 have O:(Value.ref C::bm).contains (.ref C)=true:=by simp
 unfold isInstance
 repeat (first | (with_reducible refine uX hg ?_;rw[I]) | (with_reducible refine wpAny_isSubtype_exc S ?_;rw[O]) | wp_step)
 show wpAny _ _ (typeLookup (.ref C) _) _ _ _
 refine wpAny_typeLookup_tail S a2 (T.keeps G) j.mroIs j.init.lookup ?_
 rw[hi]
 refine yr (wc ?_)
 unfold bindSpecial
 refine wc (WJ (T:="function") ⟨_,Y,a1⟩ ?_)
 rw[if_pos ⇑1]
 refine wu (wc (yF (hq _ (h.objs.size+1) ⟨G,WM (Nat.le_succ _),h.objs.size,by rw[hg,<-ho],WM (wq _),by rw[U,<-ht]⟩) (λr s2 hr=>?_) λ_ _ x=>x))
 obtain⟨rfl,hQ⟩:=hr
 wp_walk
 exact hQ
theorem zcg (T:OwnTail h zbt bm){I:Aa}{us:Ac}{j:Addr}{G:Obj}{Q:Af}(hC:h.get? C=some (excClassObj nm qn C N bs bm hd sn sub ab col dd k0 k1 k2 k3 k5 "ValueError.__new__")) (W:h.Ns N I)
  (hi:I "__init__" = some (.ref j)) (S:h.get? j=some G) (F:G.cls=.type "function") (hz:us.length<=sizeLine)
  (V:∀h2 e,Heap.MadeExcOf h h2 e (.ref C) us->wpAny (model prog w) (A.under (.builtin "type.__call__" ⟨.ref C::us,[]⟩)) (call (.ref j) (.ref e::us)) (λr O=>r=.none/\Q (.ref e) O) E ⟨h2,g,d,t,os⟩) :
  wpAny (model prog w) A (call (.ref C) us) Q E ⟨h,g,d,t,os⟩:=by
 have c1:=tc_lookup
 have Y:=tc_bind (.ref C)
 have hT:(⟨h,g,d,t,os⟩:Shared).TypeIs (.ref C) "type":=⟨_,hC,rfl⟩
 refine WQ (codeAny_of_tree ?_)
 show wpAny _ _ (callAny (.ref C) _) _ _ _
 repeat (any_goals (first | assumption | (with_reducible refine uX hC ?_) | wp_step))
 refine⟨rL,?_⟩
 exact codeAny_call_builtin_at (Code.quiet_builtin _ ⇑0) entry_typeCall (wpAny_check_type_call_sub hC (zbz T hC W hi S F hz λh2 e U=>V h2 e U))
end
open PySem.W
def XO (a C:Addr) (dct:Option Addr):HO:=.ext λh=>∃ox vs,h.get? a=some ox/\ox.cls=.ref C/\ox.data=.fields vs/\ox.dict=dct/\(∃t0,vs[0]?=some (.ref t0))/\vs[1]?=some .none
def zgk {P:Program}{w:World}{H:Hp}{h:Heap}{a C:Addr}{dct:Option Addr}{ox:Obj}{vs:Ae}(e:h.get? a=some ox) (c:ox.cls=.ref C) (d:ox.data=.fields vs) (k:ox.dict=dct){t0:Addr}(F:vs[0]?=some (.ref t0)) (j:vs[1]?=some .none):xD P w H h a (XO a C dct) :=
 ⟨⟨ox,vs,e,c,d,k,⟨t0,F⟩,j⟩,⟨ox,e⟩,λh1 h2 ⟨o,us,e1,r⟩ q=>⟨o,us,q _ e1,r⟩⟩
def zaC {P:Program}{w:World}{H:Hp}{h:Heap}{a C:Addr}{dct:Option Addr}(x:HOk P w H h) (e:H a=some (XO a C dct)):∃ox vs,h.get? a=some ox/\ox.cls=.ref C/\ox.data=.fields vs/\ox.dict=dct/\(∃t0,vs[0]?=some (.ref t0))/\vs[1]?=some .none :=
 (show xD P w H h a (XO a C dct)from x a _ e).1
section
variable {P:Program}{w:World}{H:Hp}{h h2:Heap}{a:Addr}{o:HO}
theorem ZZ (x:HOk P w H h) (e:h.get? a=none):H a=none:=by
 cases q:H a with
 |none=>rfl
 |some u =>
  obtain⟨ob,z⟩:=xD.obj (x a u q)
  rw[e]at z;cases z
theorem zdK (x:HOk P w H h) (k:∀b u,h.get? b=some u->h2.get? b=some u) (e:h.get? a=none) (new:xD P w (upd H a o) h2 a o):HOk P w (upd H a o) h2:=λb u q=>by
 have j:=ZZ x e
 by_cases hb:b=a
 ·subst hb;rw[zi]at q;cases q;exact new
 ·rw[zK hb]at q
  exact(x b u q).stay (λc v _ z=>k c v z) (λc z=>by rw[zK (zN z j)];exact z) λc xs z=>by rw[zK (zN z j)];exact z
theorem zbs {fs ex:List Addr}(k:∀b u,h.get? b=some u->h2.get? b=some u) (e:h.get? a=none) (j:H a=none):Un fs ex H (upd H a o) h h2 where
 keep:=λb u q _ _ _=>k b u q
 slot:=λb u q _ _ _=>⟨u.slots,k b u q⟩
 free:=λb u q n _=>by rw[zK (λz=>by subst z;rw[e]at q;cases q)];exact n
 there:=λb u q _=>⟨u,k b u q⟩
 tups:=λb xs q=>by rw[zK (zN q j)];exact q
 frzs:=λb u xs q=>by rw[zK (zN q j)];exact q
 tbls:=λb ps q=>⟨#[],by rw[zK (zN q j),q];simp⟩
end
section
variable {X:Cx}{pz:Ab}{σ:St}{H:Hp}{s:Shared}{h2:Heap}
theorem zdL {a:Addr}{o:HO}{t2:Nat}(I:Inv X pz σ H s) (k:∀b u,s.heap.get? b=some u->h2.get? b=some u) (e:s.heap.get? a=none) (new:xD X.prog X.w (upd H a o) h2 a o) :
  Inv X pz σ (upd H a o) { s with heap:=h2,toks:=t2 }:=I.un (zbs k e (ZZ I.hok e)) (zdK I.hok k e new)
theorem zeS {C e:Addr}{us:Ac}{t2:Nat}(I:Inv X pz σ H s) (m:Heap.MadeExcOf s.heap h2 e (.ref C) us):Inv X pz σ (upd H e (XO e C none)) { s with heap:=h2,toks:=t2 }:=by
 obtain⟨tt,h1,_,_⟩:=m.there
 exact zdL I m.keeps m.new (zgk h1 rL rL rL (t0:=tt) rL rL)
end
def Vb:Ac->Bool
 |.ref _::r=>Vb r
 |l=>l == zbt
def Qg (self:Value):∀{l:Ac},Vb l=true->refuseLoop self "__setattr__" l=pure ()
 |l,e=>by
  unfold Vb at e
  split at e
  ·rw[refuseLoop_ref];exact Qg self e
  ·rw[show l=zbt from beq_iff_eq.mp e];exact PySem.F.store_ValueError.passes self
section
variable {prog:Program}{w:World}{A:Around}{s:Shared}{K:Fg}{x C:Addr}{ox:Obj}{od:Option Obj}{name:Str}{v:Value}
theorem zhc {G:Tok}{cd:ClassData}{R:Result->Shared->Prop}(X:K.In s.heap) (I:InstAt s.heap x ox C od) (hc:clsIn K C=some cd) (Y:Vb cd.mro=true) (U:mroIn K C (.type "object")=some true) (ha:findIn K (.ref C) name=some none)
  (h:wpAny (model prog w) A.in1 (Builtin.ObjectAttr.storeInOwnDict (.ref x) (.ref C) (.str name G) name v false)
   (λS O=>match S with | .done f=>R (.ok f) O | .again c2=>c2.quiet=true/\codeAny (model prog w) A c2 R O) (λe O=>R (.error e) O) s) :
  codeAny (model prog w) A (.call (.builtin "object.__setattr__") ⟨[.ref x,.str name G,v],[]⟩) R s:=by
 have j:=PySem.F.store_object
 have sub:Looks (model prog w) s.heap (isInstance (.ref x) (.type "object")) true:=I.type.andThen (looks_mroIn X U)
 refine codeAny_call_builtin j.slot.plain j.entry (@check_slot (model prog w) _ _ s "object.__setattr__" "object" "__setattr__" (.ref x) [.str name G,v] [] _ j.kind j.split sub (j.args (.ref x) (.str name G) v) ?_)
 have W:Looks (model prog w) s.heap (mroOf (.ref C)) cd.mro:=(looks_clsIn X hc).andThen .now
 have V:Looks (model prog w) s.heap (Builtin.ObjectAttr.storeTaker? none) none:=.now
 rw[osa_eq,refuse_eq]
 refine wc (wc (I.type.here (wc (W.here ?_))))
 rw[Qg _ Y]
 refine wu (wc (I.type.here (wc ((looks_findIn X ha).here (wc (V.here ?_))))))
 exact h
theorem zhK {E:Af}{Q:Unit->Shared->Prop}{vs:Ae}{cd:ClassData}(X:K.In s.heap) (U:s.heap.get? x=some ox) (O:ox.cls=.ref C) (F:ox.data=.fields vs) (G:ox.dict=none) (hc:clsIn K C=some cd) (hh:cd.hasDict=true) (ho:Vb cd.mro=true)
  (a1:mroIn K C (.type "object")=some true) (hs:findIn K (.ref C) "__setattr__" = some (some (.builtin "object.__setattr__"))) (ha:findIn K (.ref C) name=some none)
  (h:∀h2,h2.get? x=some { ox with dict:=some s.heap.objs.size }->h2.Ns1 s.heap.objs.size (λy=>if y=name then some v else none)->(∀b o,b≠x->s.heap.get? b=some o->h2.get? b=some o)->Q () { s with heap:=h2,toks:=s.toks+2 }) :
  wpAny (model prog w) A (setAttr (.ref x) name v) Q E s:=by
 have I:InstAt s.heap x ox C none:=⟨U,O,by unfold notCls;rw[F],by rw[G];trivial⟩
 refine set_plain X I hs (zhc (s:={ s with toks:=s.toks+1 }) X I hc ho a1 ha ?_)
 obtain⟨j,g,d,t,os⟩:=s
 obtain⟨oc,a3,a2,S⟩:=ox
 dsimp only at O F G U h
 subst O F G
 have V:(j.push { cls:=.type "dict",data:=.dict #[] }).get? x=some ⟨.ref C,none,.fields vs,S⟩:=wg _ U
 have Y:x≠j.objs.size:=wQ (wA U)
 refine wc (wu (wc (wc (wpAny_loadPart U (wc (PySem.W.Looks.here (s:=⟨j,g,d,t+1,os⟩) (looks_clsIn X hc) ?_))))))
 rw[hh]
 rw[if_neg ⇑1,if_neg (by simp[typeHasDict])]
 refine wc (wpAny_alloc' ?_)
 refine wc (wpAny_update' V ?_)
 refine wu ?_
 have u1:((j.push { cls:=.type "dict",data:=.dict #[] }).update x λo=>{ cls:=o.cls,dict:=some j.objs.size,data:=o.data,slots:=o.slots }).get? j.objs.size=some { cls:=.type "dict",data:=.dict #[] }:=(Wc _ _ _ _ Y.symm).trans (Heap.get?_push_at rfl rfl)
 have u2:((j.push { cls:=.type "dict",data:=.dict #[] }).update x λo=>{ cls:=o.cls,dict:=some j.objs.size,data:=o.data,slots:=o.slots }).get? x=some ⟨.ref C,some j.objs.size,.fields vs,S⟩:=yC _ V rfl
 have u3:∀b o,b≠x->j.get? b=some o->((j.push { cls:=.type "dict",data:=.dict #[] }).update x λo=>{ cls:=o.cls,dict:=some j.objs.size,data:=o.data,slots:=o.slots }).get? b=some o:=λb o hb q=>(Wc _ _ _ _ hb).trans (wg _ q)
 generalize ((j.push { cls:=.type "dict",data:=.dict #[] }).update x λo=>{ cls:=o.cls,dict:=some j.objs.size,data:=o.data,slots:=o.slots })=h1 at u1 u2 u3
 have u4:h1.Ns j.objs.size (λ_=>none):=⟨_,#[],_,u1,rfl,λe he=>absurd he (by simp),λ_=>rfl⟩
 show wpAny _ _ (Builtin.ObjectAttr.storeInDict j.objs.size (.str name t) name v) _ _ _
 unfold Builtin.ObjectAttr.storeInDict Builtin.ObjectAttr.newKeyGuard
 refine wc (wu (wc (wpAny_nsSet1 (Heap.Ns1.of_empty u4) λh2 n2 s2=>?_)))
 obtain⟨oD,eD,pD,g1,g2,g3⟩:=n2.count (Within.cons name v Within.nil)
 refine wc (wpAny_lookBehind g1 (by rw[g2];exact pastItsLine_dict (wY g3 (by rw[wJ,um,sizeLine_eq];lia))) ?_)
 exact wu (h h2 ((s2.2 x Y).trans u2) n2 λb o hb q=>(s2.2 b (wQ (wA q))).trans (u3 b o hb q))
end
structure zel (K:Fg) (C:Addr) (cd:ClassData):Prop where
 hc:clsIn K C=some cd
 hh:cd.hasDict=true
 ho:Vb cd.mro=true
 ob:mroIn K C (.type "object")=some true
 sa:findIn K (.ref C) "__setattr__" = some (some (.builtin "object.__setattr__"))
section
variable {X:Cx}{pz:Ab}{σ:St}{H:Hp}{s:Shared}{h2:Heap}
theorem zeT {a C dx:Addr}{fs:Bf}{mA:Aa}{t2:Nat}{ox:Obj}{vs:Ae}(I:Inv X pz σ H s) (j:H a=some (XO a C none)) (hd:s.heap.objs.size<=dx) (e1:h2.get? a=some ox) (c1:ox.cls=.ref C) (d1:ox.data=.fields vs) (k1:ox.dict=some dx){t0:Addr}(h0:vs[0]?=some (.ref t0)) (W:vs[1]?=some .none)
  (Y:h2.Ns1 dx mA) (r1:∀f,Qq (fs.lookup f) (mA f)) (k:∀b o,b≠a->s.heap.get? b=some o->h2.get? b=some o) :
  Inv X pz σ (upd (upd H dx (.xd fs)) a (XO a C (some dx))) { s with heap:=h2,toks:=t2 }:=by
 have S:H dx=none:=I.hok.fresh hd
 have U:dx≠a:=λz=>by subst z;rw[S]at j;cases j
 have lt:∀b o,s.heap.get? b=some o->b≠dx:=λb o q=>wQ (wM (wA q) hd)
 have G:∀b,H b=none->b≠a:=λb n z=>by subst z;rw[n]at j;cases j
 have two:∀b u,H b=some u->b≠a->upd (upd H dx (.xd fs)) a (XO a C (some dx)) b=some u:=λb u q z=>by rw[zK z,zK (zN q S)];exact q
 refine I.un ⟨λb u q n _ _=>k b u (G b n) q,λb u q n _ _=>⟨u.slots,k b u (G b n) q⟩,λb u q n _=>by rw[zK (G b n),zK (lt b u q)];exact n,λb u q _=>?_,
  λb xs q=>two b _ q (λz=>by subst z;rw[j]at q;cases q),λb u xs q=>two b _ q (λz=>by subst z;rw[j]at q;cases q),λb ps q=>⟨#[],by rw[two b _ q (λz=>by subst z;rw[j]at q;cases q)];simp⟩⟩ ?_
 ·by_cases hb:b=a
  ·subst hb;exact⟨_,e1⟩
  ·exact⟨u,k b u hb q⟩
 ·intro b u q
  by_cases hb:b=a
  ·subst hb;rw[zi]at q;cases q;exact zgk e1 c1 d1 k1 h0 W
  ·rw[zK hb]at q
   by_cases hbd:b=dx
   ·subst hbd;rw[zi]at q;cases q;exact⟨mA,Y,r1⟩
   ·rw[zK hbd]at q
    have F:∀c y,H c=some (.own y)->c≠a:=λc y r z=>by subst z;rw[j]at r;cases r
    refine(I.hok b u q).stay (λc v O r=>k c v ?_ r) (λc r=>two c _ r (F c b r)) λc xs r=>two c _ r (λz=>by subst z;rw[j]at r;cases r)
    rcases O with rfl | O
    ·exact hb
    ·exact F c b O
theorem zbN {a C:Addr}{t2:Nat}{ox:Obj}{vs:Ae}(I:Inv X pz σ H s) (O:H a=some (XO a C none)) (e1:h2.get? a=some ox) (S:ox.cls=.ref C) (j:ox.data=.fields vs) (k1:ox.dict=none){t0:Addr}(F:vs[0]?=some (.ref t0)) (G:vs[1]?=some .none)
  (k:∀b o,b≠a->s.heap.get? b=some o->h2.get? b=some o):Inv X pz σ (upd H a (XO a C none)) { s with heap:=h2,toks:=t2 } :=
 I.write (x:=a) (e:=a) (by rw[O];exact trivial) (.inl rfl) k ⟨_,e1⟩ (zgk e1 S j k1 F G)
end
def sXF (K:Fg) (ta tv:TE) (f:Str):TS:=λD σ H=>tv σ H λy H1=>ta σ H1 λx H2=>∃a C cd,x=.ref a/\H2 a=some (XO a C none)/\zel K C cd/\x9 K C f ∧
 ∀dx,H2 dx=none->D.nx σ (upd (upd H2 dx (.xd [(f,y)])) a (XO a C (some dx)))
def zit {X:Cx}{o value:Expr}{f:Str}{pos pos':Pos}{ta tv:TE}(O:PE X o ta) (hv:PE X value tv) (W:swapsWith value (some (.Attribute o f pos')) pos.line X.env=pure false):PS X (.Assign [.Attribute o f pos'] value pos) (sXF X.K ta tv f):=by
 intro pz s σ H D I h
 refine plainObj_wpAny_Assign_Attribute (thn (hv pz s σ H _ I h) λu V ⟨y,H1,I1,ry,q⟩=>thn (O pz V σ H1 _ I1 q) λov s2 ⟨x,H2,I2,rx,a,C,cd,ex,ea,S,n,q2⟩=>?_) W
 subst ex
 obtain rfl:ov=Value.ref a:=rx
 obtain⟨ox,vs,g1,G,F,g4,⟨t0,Y⟩,j⟩:=zaC I2.hok ea
 refine zhK I2.kIn g1 G F g4 S.hc S.hh S.ho S.ob S.sa n λh2 e1 U k1=>?_
 refine⟨σ,_,zeT (fs:=[(f,y)]) I2 ea (wq _) e1 G F rL Y j U (λg=>?_) k1,q2 _ I2.fresh⟩
 show Qq (List.lookup g [(f,y)]) (if g=f then some u else none)
 by_cases z:g=f
 ·rw[if_pos z,show List.lookup g [(f,y)]=some y by simp[List.lookup,z]];exact ry
 ·rw[if_neg z,show List.lookup g [(f,y)]=none by simp[List.lookup,beq_eq_false_iff_ne.mpr z]];exact trivial
def XB (h:Heap) (C:Addr):Prop:=∃nm qn N bs bm hd sn sub ab col dd k0 k1 k2 k3 k5 ni,h.get? C=some (excClassObj nm qn C N bs bm hd sn sub ab col dd k0 k1 k2 k3 k5 ni)/\OwnTail h zbt bm
section
variable {prog:Program}{w:World}{A:Around}{E:Af}{s:Shared}
theorem zdw {a C:Addr}{y:Value}{t0:Addr}{vs:Ae}{osl:Array (Option Value)}{Q:Af}(hx:s.heap.get? a=some ⟨.ref C,none,.fields vs,osl⟩) (B:XB s.heap C) (h0:vs[0]?=some (.ref t0))
  (h:∀h2 us t1,h2.get? a=some ⟨.ref C,none,.fields us,osl⟩->us[0]?=some (.ref t1)->us[1]?=vs[1]?->(∀b o,b≠a->s.heap.get? b=some o->h2.get? b=some o)->Q .none { s with heap:=h2 }) :
  wpAny (model prog w) A (call (.builtin "ValueError.__init__") [.ref a,y]) Q E s:=by
 have FV:=WY
 obtain⟨nm,qn,N,bs,bm,hd,sn,sub,ab,col,dd,k0,k1,k2,k3,k5,ni,hC,T⟩:=B
 obtain⟨hp,g,d,t,os⟩:=s
 dsimp only at hx hC T h
 refine WQ (codeAny_call_builtin FV.init.plain FV.initEntry (wpAny_check_init_subU FV T hC hx rL ?_))
 wp_walk
 rw[h0]
 wp_walk
 rw[if_pos (by cases q:vs.size with | zero=>(rw[Array.getElem?_eq_none ∅]at h0;cases h0) | succ n=>lia)]
 have hx1:(hp.push { cls:=.type "tuple",data:=.seq #[y] }).get? a=some ⟨.ref C,none,.fields vs,osl⟩:=wg _ hx
 refine wpAny_update' hx1 ?_
 wp_walk
 have hz:0<vs.size:=by cases q:vs.size with | zero=>(rw[Array.getElem?_eq_none ∅]at h0;cases h0) | succ n=>lia
 exact h _ (vs.setIfInBounds 0 (.ref hp.objs.size)) hp.objs.size (yC _ hx1 rfl) (by rw[Array.getElem?_setIfInBounds_self_of_lt hz]) (by rw[WB ⇑1]) λb o hb q=>(Wc _ _ _ _ hb).trans (wg _ q)
end
def XB.keeps {h h2:Heap}{C:Addr}(B:XB h C) (k:∀b o,h.get? b=some o->h2.get? b=some o):XB h2 C:=by
 obtain⟨nm,qn,N,bs,bm,hd,sn,sub,ab,col,dd,k0,k1,k2,k3,k5,j,hC,T⟩:=B
 exact⟨nm,qn,N,bs,bm,hd,sn,sub,ab,col,dd,k0,k1,k2,k3,k5,j,k _ _ hC,T.keeps k⟩
structure XUp (K:Fg) (C0:Addr) (mc:Value):Prop where
 rd:readsIn K C0 mc=true
 ga:specialIn K (.ref C0) "__getattribute__" = some (some (.builtin "type.__getattribute__"))
 it:findCls K (.ref C0) mc "__init__" = some (.val (.builtin "ValueError.__init__"))
inductive zmp (B:Heap) (Q:VK) (vs:Ba) (H1:Hp):Prop
 |mk:∀a C y,(vs=[.ref a,y])->(H1 a=some (XO a C none))->(XB B C)->(Q .non (upd H1 a (XO a C none)))->zmp B Q vs H1
def tXI (B:Heap) (t:TA):TE:=λσ H Q=>t σ H λvs H1=>zmp B Q vs H1
section
variable {X:Cx}{x:Str}{C C0 f:Addr}{mc:Value}{p pos apos:Pos}{e:Expr}{es:Ag}{t:TA}
theorem zis {pl:Sem Bool}(U:XUp X.K C0 mc) (hm:X.mg x=some (.ref C0)) (ha:PA X (e::es) t) (hg:Gl X x:=by rfl) (j:(x == ("__debug__":Str))=false:=by decide)
  (G:starEach (e::es) X.env=(false,eval e X.env)::starEach es X.env:=by rfl) (O:(backTo pos (starEach es X.env)).any (·.1)=false:=by rfl)
  (ht:eval (.Call (.Attribute (.Name x p) "__init__" apos) (e::es) [] pos) X.env=(do
   let Y <-eval (.Name x p) X.env
   standAt apos.atName
   let (f,first) <-holding [Y] (getMethod Y "__init__" pl)
   callWith pos f first (backTo pos (starEach (e::es) X.env)) (backToKw pos (keywordEach [] X.env))):=by rfl) :
  PE X (.Call (.Attribute (.Name x p) "__init__" apos) (e::es) [] pos) (tXI X.base t):=by
 intro pz s σ H Q I h
 refine methodCall_KW (pl:=pl) (v3 I hg hm ?_ j) ht
 refine method_cls I.kIn U.ga (cls_value I.kIn U.rd U.it rL ?_)
 refine callWith_builtin1 (thn (ha pos pz _ σ H _ (I.tok _) h) λus s1 ⟨vs,H1,I1,r,a,C,y,ev,ea,B,q⟩=>?_) G O
 subst ev
 obtain⟨u,w,rfl,r1,r2⟩:=zbw r
 cases(show u=Value.ref a from r1)
 obtain⟨⟨oc,a3,a2,a1⟩,vs,g1,V,W,S,⟨t0,h0⟩,F⟩:=zaC I1.hok ea
 dsimp only at V W S
 subst V W S
 refine zdw g1 (B.keeps I1.bk) h0 λh2 us t1 e1 e2 e3 k1=>?_
 exact⟨.non,_,zbN (t2:=s1.toks) I1 ea e1 rL rL rL e2 (e3.trans F) k1,rL,q⟩
structure XMk (K:Fg) (B:Heap) (C f:Addr):Prop where
 obj:∃nm qn N bs bm hd sn sub ab col dd k0 k1 k2 k3 k5 mN,B.get? C=some (excClassObj nm qn C N bs bm hd sn sub ab col dd k0 k1 k2 k3 k5 "ValueError.__new__")/\B.Ns N mN/\mN "__init__" = some (.ref f)/\OwnTail B zbt bm
 fn:∃oI,B.get? f=some oI/\oI.cls=.type "function"
 kp:keepIn K (.ref C)=true
end
def Vz (a:Addr) (H:Hp):Hp:=λb=>if b=a then none else H b
def Qt {a:Addr}{H:Hp}:Vz a H a=none:=if_pos rfl
def qL {a b:Addr}{H:Hp}(h:b≠a):Vz a H b=H b:=if_neg h
section
variable {P:Program}{w:World}{H H1:Hp}{h h1:Heap}{a C:Addr}{dct:Option Addr}{fs:List Addr}
theorem zgN (x:HOk P w H h) (j:H a=some (XO a C dct)):HOk P w (Vz a H) h:=λb u q=>by
 by_cases hb:b=a
 ·subst hb;rw[Qt]at q;cases q
 ·rw[qL hb]at q
  exact(x b u q).stay (λ_ _ _ r=>r) (λc r=>by rw[qL (λz=>by subst z;rw[j]at r;cases r)];exact r) λc xs r=>by rw[qL (λz=>by subst z;rw[j]at r;cases r)];exact r
theorem zkJ (u:Un fs [] H H1 h h1) (n:H a=none):Un fs [] H (Vz a H1) h h1 where
 keep:=u.keep
 slot:=u.slot
 free:=λb o q n j=>by
  by_cases hb:b=a
  ·subst hb;exact Qt
  ·rw[qL hb];exact u.free b o q n j
 there:=u.there
 tups:=λb xs q=>by rw[qL (zN q n)];exact u.tups b xs q
 frzs:=λb o xs q=>by rw[qL (zN q n)];exact u.frzs b o xs q
 tbls:=λb ps q=>by rw[qL (zN q n)];exact u.tbls b ps q
end
section
variable {M:Model}{A:Around}{E:Af}{s:Shared}{B:Heap}{env:Env}{outer:Aj}{L e:Addr}{a0:Value}{oe:Obj}{vs:Ae}{Q:Unit->Shared->Prop}
theorem zbQ (F:A.frames=some (env::outer)) (O:env.frame=some L) (U:B.StaysIn s.heap) (S:s.heap.FunFrames B (env::outer)) (G:B.get? e=none) (he:s.heap.get? e=some oe) (hd:oe.data=.fields vs) (h1:vs[1]?=some .none) (h0:vs[0]?=some a0)
  (q:∀h',FlX B outer e oe.cls a0 oe.dict h'->s.heap.UpToSlots h'->Q () { s with heap:=h' }):wpAny M A (leaving env (.ref e)) Q E s:=by
 unfold leaving
 refine wc (zbV (a0:=a0) F S O he U G hd h1 h0 λh' V x2 x3 x4=>?_)
 refine Vl (s:={ s with heap:=h' }) ⟨V,G,x2,_,x3⟩ λh2 z j=>?_
 obtain⟨I,Y,⟨_,_,z3⟩,W⟩:=z
 exact q h2 ⟨I,Y,z3,W⟩ (x4.trans j)
end
def Jp (X:Cx) (J:XJ):Prop:=∀(pz:Ab) (σ:St) (H:Hp) (s:Shared) (a C:Addr) (H':Hp) (s':Shared) (dct:Option Addr),
 Inv X pz σ H s->s.heap.get? a=none->s'.os=s.os->AllBare s'.gens->Un (frs X.stack) [] H H' s.heap s'.heap->HOk X.prog X.w H' s'.heap->H' a=some (XO a C dct)->J C dct σ (Vz a H')->X.xe (.ref a) s'
section
variable {P:Program}{w:World}{K:Fg}{mg:Aa}{base:Heap}{N:Ad}{qual:Str}{scope:Scope}{f:Addr}{cd:Value}{A:Around}{outer:Aj}{s:Shared}{H:Hp}{E:XK}
theorem Xv:Jp (xi (CX1 P w) P w K mg base N qual scope f cd A outer s H E) (EJ E):=by
 intro pz σ H1 Y a C H' s' dct I new V bare un hok ea q
 obtain⟨j,g,d,t,a1⟩:=s'
 have e:a1=Y.os:=V
 subst e
 have I':=I.call' (s':=⟨j,g,d,t,Y.os⟩) rfl un hok bare (λb z=>absurd z (by simp))
 obtain⟨ox,vs,g1,g2,g3,g4,⟨t0,h0⟩,hv⟩:=zaC hok ea
 have a3:H1 a=none:=ZZ I.hok new
 generalize hl:a::frs (xi (CX1 P w) P w K mg base N qual scope f cd A outer s H E).stack=l
 have G:∀b o,j.get? b=some o->b∉l->(PySem.W.hideAll j l).get? b=some o:=λb o e n=>PySem.W.hideAll_get _ e n
 have S:(PySem.W.hideAll j l).StaysIn j:=λb o q=>PySem.W.of_hideAll _ q
 have O:j.FunFrames (PySem.W.hideAll j l) (xi (CX1 P w) P w K mg base N qual scope f cd A outer s H E).stack :=
  PySem.W.funFrames_hide I'.stack λenv he b F=>by rw[<-hl];exact wR _ (W4.mpr ⟨env,he,F⟩)
 have a2:(PySem.W.hideAll j l).get? a=none:=PySem.W.hideAll_none _ (by rw[<-hl];exact wT)
 have nl:∀b,b≠a->b∉frs (xi (CX1 P w) P w K mg base N qual scope f cd A outer s H E).stack->b∉l:=λb x y z=>by
  rw[<-hl]at z
  rcases wy.mp z with r | r
  ·exact x r
  ·exact y r
 refine zbQ (L:=s.heap.objs.size) (B:=PySem.W.hideAll j l) (s:=⟨j,g,d,t,Y.os⟩) I.ok.frames rL S O a2 g1 g3 hv h0 λh' fl up=>?_
 rw[g2,g4]at fl
 have ud:=zkJ (a:=a) un a3
 have z:=zeK (g:=g) (d:=d) (t:=t) (h1:=j) (C:=C) I rfl (λb F=>wR _ F) ud (λb o e n=>by
   have F:b≠a:=λz=>by subst z;rw[new]at e;cases e
   obtain⟨o',U⟩:=un.there b o e wZ
   exact⟨⟨o',G b o' U (nl b F n)⟩,λhn=>G b o (un.keep b o e hn n wZ) (nl b F n)⟩)
  (λb u e=>by
   by_cases F:b=a
   ·subst F;rw[Qt]at e;cases e
   ·rw[qL F]at e
    obtain⟨o,ho⟩:=(hok b u e).obj
    exact⟨o,G b o ho (nl b F λz=>by rw[I'.stkFree b z]at e;cases e)⟩) (zgN hok ea) S O up fl bare
 exact⟨a,C,Vz a H',031,z,q⟩
end
section
variable {M:Model}{A:Around}{E:Af}{s:Shared}{env:Env}
theorem zd1 {x:Expr}{pos:Pos}{Q:Flow->Shared->Prop}(U:A.handled=none)
  (h:wpAny M A (eval x env) (λv F=>∃e C ox,v=.ref e/\F.heap.get? e=some ox/\ox.cls=.ref C/\(∃vs,ox.data=.fields vs/\vs[1]?=some .none)/\XB F.heap C/\E (.ref e) F) E s) :
  wpAny M A (exec (.Raise (some x) none pos) env) Q E s:=by
 rw[arm_exec_Raise]
 simp only[evalOpt,Option.map]
 refine wc (uH ?_)
 unfold raiseStmt
 refine wc (wc (yF h (λv F Y=>wc (uH (wu ?_))) λ_ _ x=>x))
 obtain⟨e,C,ox,rfl,I,O,⟨vs,j,hv⟩,⟨nm,qn,N,bs,bm,hd,sn,sub,ab,col,dd,k0,k1,k2,k3,k5,ni,hC,T⟩,V⟩:=Y
 have G:(Value.ref C::bm).contains (.type "BaseException")=true:=by rw[List.contains_cons,T.hasType (show zbt.contains (.type "BaseException")=true by decide +kernel),W8]
 obtain⟨hp,g,d,tk,os⟩:=F
 obtain⟨oc,S,a1,W⟩:=ox
 dsimp only at O j
 subst O j
 repeat (first | (with_reducible refine yh I rfl hv ?_) | with_reducible refine uX I ?_ | with_reducible refine uX hC ?_ | (with_reducible refine wpAny_isSubtype_exc hC ?_;rw[G]) | wp_step)
 exact wpAny_raiseNew_none U V
end
def zh4 (C:Addr) (sp:Sp) (J:XJ) (t:TA):TS:=λ_ σ H=>t σ H λvs H1=>vs.length<=sizeLine/\∀p,H1 p=none->sp (.ref p::vs) (upd H1 p (XO p C none)) (λv H2=>v=.non/\∃dct,H2 p=some (XO p C dct)/\J C dct σ (Vz p H2)) E0
section
variable {X:Cx}{J:XJ}{x:Str}{C f:Addr}{np cpos pos:Pos}{e:Expr}{es:Ag}{t:TA}
theorem JK {k:Nat}{fd:FuncData}{ps:Ad}{sp:Sp}(M:XMk X.K X.base C f) (F:vC X.prog X.w X.K X.mg X.base CX0 k f fd ps sp) (hr:xf (k+1) X.A) (hm:X.mg x=some (.ref C)) (hb:vI X.K fd ps []) (hh:X.A.handled=none) (hJ:Jp X J) (ha:PA X (e::es) t)
  (hg:Gl X x:=by rfl) (a1:(x == ("__debug__":Str))=false:=by decide) (he:starEach (e::es) X.env=(false,eval e X.env)::starEach es X.env:=by rfl) (a7:(backTo cpos (starEach es X.env)).any (·.1)=false:=by rfl) :
  PS X (.Raise (some (.Call (.Name x np) (e::es) [] cpos)) none pos) (zh4 C sp J t):=by
 intro pz s σ H D I h
 refine zd1 hh ?_
 refine ue (v3 I hg hm ?_ a1)
 refine callWith_K (h₀:=X.base) I.ok.mod.kin M.kp (thn (ha cpos pz s σ H _ I h) λus s1 ⟨vs,H1,I1,r,z,q⟩=>⟨I1.kIn,?_⟩) he a7
 obtain⟨nm,qn,N,bs,bm,hd,sn,sub,ab,col,dd,k0,k1,k2,k3,k5,mN,hC,hN,hi,T⟩:=M.obj
 obtain⟨oI,hf,a3⟩:=M.fn
 have a6:=I1.bk _ _ hC
 have a8:=hN.keeps I1.bk
 have T1:=T.keeps I1.bk
 have a5:=I1.bk _ _ hf
 obtain⟨hh,g,d,tk,os⟩:=s1
 refine zcg T1 a6 a8 hi a5 a3 (by show us.length<=sizeLine;rw[<-r.length];exact z) λh2 a j=>?_
 have Y:=zeS (t2:=tk) I1 j
 have hq:=q a (ZZ I1.hok j.new)
 have r2:xh (V.ref a::vs) (Value.ref a::us):=.cons rfl r
 have hl:(Value.ref a::us++[]).length=ps.length:=by
  have e:=r2.length
  rw[F.len _ _ _ _ hq]at e
  rw[yz];exact e.symm
 refine WQ (codeAny_mono (F.run _ X.stack _ _ ⟨Value.ref a::us,[]⟩ (Value.ref a::us) _ _ E0 (hr.make C us []) (Y.env0.make C us []) (by have:=hb _ (Value.ref a::us) Y.kIn hl;rwa [yz]at this) r2 hq) λr3 s3 G=>?_)
 cases r3 with
 |error e=>exact(show False from G).elim
 |ok fl =>
  cases fl with
  |ret u =>
   obtain⟨v,H3,W,S,U,O,rv,ev,dct,ea,q3⟩:=G
   subst ev
   have I3:=Y.call' W U O S (λb z=>absurd z (by simp))
   obtain⟨ox,a2,g1,g2,g3,_,_,hv⟩:=zaC O ea
   have a4:Un (frs X.stack) [] H1 (upd H1 a (XO a C none)) hh h2:=zbs j.keeps j.new (ZZ I1.hok j.new)
   refine⟨rv,a,C,ox,rL,g1,g2,⟨a2,g3,hv⟩,⟨nm,qn,N,bs,bm,hd,sn,sub,ab,col,dd,k0,k1,k2,k3,k5,_,I3.bk _ _ hC,T.keeps I3.bk⟩,?_⟩
   exact hJ pz σ H1 _ a C H3 s3 dct I1 j.new W S (a4.trans U) O ea q3
  |next=>exact False.elim G
  |brk=>exact False.elim G
  |cont=>exact False.elim G
end
def zX (H H':Hp):Prop:=∀b xs,H b=some (.tup xs)->H' b=some (.tup xs)
def zX.of {H H':Hp}(h:zk H H'):zX H H':=λb xs e=>h b _ e
def zX.trans {H H1 H2:Hp}(a:zX H H1) (b:zX H1 H2):zX H H2:=λc xs e=>b c xs (a c xs e)
def zX.upd {H:Hp}{D:Addr}{ys:Ba}{o:HO}(h:H D=some (.lst ys)):zX H (upd H D o):=λb xs e=>by rw[zK (λz=>by subst z;rw[h]at e;cases e)];exact e
structure zdu (J:It) (H:Hp) (xs:Ba):Prop where
 go:∀i H',i<xs.length->zk H H'->J.go i H'
 stop:∀H',zk H H'->J.stop xs.length H'
 yld:∀i x H2 H3,zk H H2->J.yld i H2 x H3->H3=H2/\xs[i]?=some x
def xZ {K:Fg}{H:Hp}{a:Addr}{xs:Ba}(h:H a=some (.lst xs)):zdu (Itl K a) H xs :=
 ⟨λi H' hi s=>⟨xs,xs[i],.of (s _ _ h),by simp[hi]⟩,λH' s=>⟨xs,.of (s _ _ h),wq _⟩,λi x H2 j s y=>⟨y.1,y.2 xs (.of (s _ _ h))⟩⟩
def Xa {K:Fg}{H:Hp}{a:Addr}{xs:Ba}(h:H a=some (.tup xs)):zdu (Itt K a) H xs :=
 ⟨λi H' hi s=>⟨xs,xs[i],.of (s _ _ h),by simp[hi]⟩,λH' s=>⟨xs,.of (s _ _ h),wq _⟩,λi x H2 j s y=>⟨y.1,y.2 xs (.of (s _ _ h))⟩⟩
section
variable {J:It}{D:Addr}{n:Nat}{js:List Nat}{σ:St}{g:TG}{te:TE}{Z:Hp->Prop}{H:Hp}{xs:Ba}
theorem Qs (R:Nat->V->Hp->Prop) (hR:∀i v H H',zX H H'->R i v H->R i v H') (hD:H D=none) (hJ:zdu J H xs) (hl:xs.length<sizeLine)
  (hs:∀i x zs H2 Q',xs[i]?=some x->zs.length=n->zk H H2->(∀v F,zk H2 F->R i v F->Q' v F)->g x zs H2 λS H4=>te S H4 Q')
  (k:∀ys H',zk H H'->H' D=some (.lst ys)->ys.length=xs.length->(∀i v,ys[i]?=some v->R i v H')->Z H') :
  ∃W:Nat->Nat->Hp->Ba->Prop,(∃m,W 0 m (upd H D (.lst [])) [])/\∀i m H2 ys,W i m H2 ys->H2 D=some (.lst ys)->(J.stop i H2/\Z H2) ∨
   (J.go i H2/\∀σB x G,σB.length=n->J.yld i H2 x G->g x σB G λS H4=>(λ_ H Q=>Q true H:TT) S H4 λb H5=>if b=true then te S H5 (λv F=>F D=some (.lst ys)/\ys.length<sizeLine/\∃O,O<m/\W (i+1) O (upd F D (.lst (ys++[v]))) (ys++[v]))
    else H5 D=some (.lst ys)/\∃O,O<m/\W (i+1) O H5 ys):=by
 refine X0 (Q:=λ_ H=>Z H) (tt:=λ_ H Q=>Q true H) (N:=xs.length) (λi H2 ys=>zk H H2/\ys.length=i/\∀j v,ys[j]?=some v->R j v H2) ⟨zk.upd hD,rfl,λj v e=>by simp at e⟩ (λi H2 ys hi p=>hJ.go i H2 hi p.1) (λH2 ys p=>hJ.stop H2 p.1) ?_ (λH2 ys p e=>k ys H2 p.1 e p.2.1 p.2.2)
 rintro i x zs H2 G ys Nx hN hi hz hy ⟨Y,a2,a1⟩ I
 obtain⟨rfl,hx⟩:=hJ.yld i x H2 G Y hy
 refine hs i x zs G _ hx hz Y λv F U r6=>⟨U _ _ I,by lia,hN _ _ ⟨λc o e=>?_,by simp[a2],λj u e=>?_⟩⟩
 ·rw[zK (zN e hD)];exact U _ _ (Y _ _ e)
 ·have T6:zX F (upd F D (.lst (ys++[v]))):=.upd (U _ _ I)
  by_cases hj:j<ys.length
  ·rw[wE hj]at e
   exact hR _ _ _ _ ((zX.of U).trans T6) (a1 j u e)
  ·rw[wB ∅]at e
   have:j-ys.length=0:=by
    rcases yQ (j-ys.length)with z | z
    ·exact z
    ·rw[w4 (by simp;lia)]at e;cases e
   rw[this]at e
   simp at e
   subst e
   rw[show j=i by lia]
   exact hR _ _ _ _ T6 r6
theorem xR (R:Nat->V->Hp->Prop) (hR:∀i v H H',zX H H'->R i v H->R i v H') (hD:H D=none) (hJ:zdu J H xs) (hl:xs.length<sizeLine)
  (hs:∀i x zs H2 Q',xs[i]?=some x->zs.length=n->zk H H2->(∀v F,zk H2 F->R i v F->Q' v F)->g x (zs++qY σ js) H2 λG H4=>G.drop n=qY σ js/\te G H4 Q')
  (k:∀ys H',zk H H'->H' D=some (.lst ys)->ys.length=xs.length->(∀i v,ys[i]?=some v->R i v H')->Z H') :
  ∃W:Nat->Nat->Hp->Ba->Prop,(∃m,W 0 m (upd H D (.lst [])) [])/\∀i m H2 ys,W i m H2 ys->H2 D=some (.lst ys)->(J.stop i H2/\Z H2) ∨
   (J.go i H2/\∀zs x I,zs.length=n->J.yld i H2 x I->g x (zs++qY σ js) I λG H4=>G.drop n=qY σ js/\(λ_ H Q=>Q true H:TT) G H4 λb H5=>if b=true then te G H5 (λv F=>F D=some (.lst ys)/\ys.length<sizeLine/\∃S,S<m/\W (i+1) S (upd F D (.lst (ys++[v]))) (ys++[v]))
    else H5 D=some (.lst ys)/\∃S,S<m/\W (i+1) S H5 ys):=by
 refine XY (Q:=λ_ H=>Z H) (tt:=λ_ H Q=>Q true H) (N:=xs.length) (λi H2 ys=>zk H H2/\ys.length=i/\∀j v,ys[j]?=some v->R j v H2) ⟨zk.upd hD,rfl,λj v e=>by simp at e⟩ (λi H2 ys hi p=>hJ.go i H2 hi p.1) (λH2 ys p=>hJ.stop H2 p.1) ?_ (λH2 ys p e=>k ys H2 p.1 e p.2.1 p.2.2)
 rintro i x zs H2 I ys Nx hN hi hz hy ⟨Y,a2,a1⟩ O
 obtain⟨rfl,hx⟩:=hJ.yld i x H2 I Y hy
 refine hs i x zs I _ hx hz Y λv F U r6=>⟨U _ _ O,by lia,hN _ _ ⟨λc o e=>?_,by simp[a2],λj u e=>?_⟩⟩
 ·rw[zK (zN e hD)];exact U _ _ (Y _ _ e)
 ·have T6:zX F (upd F D (.lst (ys++[v]))):=.upd (U _ _ O)
  by_cases hj:j<ys.length
  ·rw[wE hj]at e
   exact hR _ _ _ _ ((zX.of U).trans T6) (a1 j u e)
  ·rw[wB ∅]at e
   have:j-ys.length=0:=by
    rcases yQ (j-ys.length)with z | z
    ·exact z
    ·rw[w4 (by simp;lia)]at e;cases e
   rw[this]at e
   simp at e
   subst e
   rw[show j=i by lia]
   exact hR _ _ _ _ T6 r6
end
section
variable {J:It}{D:Addr}{n:Nat}{σ:St}{g:TG}{tt:TT}{te:TE}{Z:Hp->Prop}{H:Hp}{xs:Ba}
theorem zey (p:V->Bool) (hD:H D=none) (hJ:zdu J H xs) (hl:xs.length<sizeLine)
  (hs:∀(i:Nat) (x:V) (zs:St) (H2:Hp) (A:VK) (B:Hp->Prop),xs[i]?=some x->zs.length=n->zk H H2->(p x=true->A x H2)->(p x=false->B H2)->g x zs H2 λF Y=>tt F Y λb j=>if b=true then te F j A else B j)
  (k:∀H',zk H H'->H' D=some (.lst (xs.filter p))->Z H') :
  ∃W:Nat->Nat->Hp->Ba->Prop,(∃m,W 0 m (upd H D (.lst [])) [])/\∀i m H2 ys,W i m H2 ys->H2 D=some (.lst ys)->(J.stop i H2/\Z H2) ∨
   (J.go i H2/\∀σB x G,σB.length=n->J.yld i H2 x G->g x σB G λF Y=>tt F Y λb j=>if b=true then te F j (λv H6=>H6 D=some (.lst ys)/\ys.length<sizeLine/\∃O,O<m/\W (i+1) O (upd H6 D (.lst (ys++[v]))) (ys++[v]))
    else j D=some (.lst ys)/\∃O,O<m/\W (i+1) O j ys):=by
 refine X0 (Q:=λ_ H=>Z H) (tt:=tt) (N:=xs.length) (λi H2 ys=>zk H H2/\ys=(xs.take i).filter p) ⟨zk.upd hD,rfl⟩ (λi H2 ys hi p=>hJ.go i H2 hi p.1) (λH2 ys p=>hJ.stop H2 p.1) ?_ (λH2 ys q e=>k H2 q.1 (by rw[e,q.2,WK]))
 rintro i x zs H2 G ys Nx hN hi hz hy ⟨S,rfl⟩ I
 obtain⟨rfl,hx⟩:=hJ.yld i x H2 G S hy
 have et:xs.take (i+1)=xs.take i++[x]:=by rw[yu,hx];rfl
 refine hs i x zs G _ _ hx hz S (λU=>⟨I,?_,hN _ _ ⟨λc o e=>?_,?_⟩⟩) (λU=>⟨I,hN _ _ ⟨S,?_⟩⟩)
 ·have:=uu p (xs.take i)
  have:=List.length_take_le i xs
  lia
 ·rw[zK (zN e hD)];exact S _ _ e
 ·rw[et,yG];simp[U]
 ·rw[et,yG];simp[U]
end
section
variable {prog:Program}{w:World}{A:Around}{E:Af}{s:Shared}
theorem zgV {j t:Addr}{i:Nat}{vs:Ae}{x:Value}{Q:Af}(G:s.heap.IsListIter j t i) (kt:s.heap.IsList t vs) (I:vs[i]?=some x)
  (q:∀h',h'.IsListIter j t (i+1)->Heap.SameBut j s.heap h'->Q x { s with heap:=h' }):wpAny (model prog w) A (Builtin.SmallTypes.nextOf (.ref j)) Q E s:=by
 obtain⟨U,e1,e2,F⟩:=id G
 obtain⟨W,O,_,V,S⟩:=kt
 unfold Builtin.SmallTypes.nextOf
 refine wc (wpAny_callSpecial?_slot (name:=Str.ofString "__next__") G.typeIs slot_listiter_next (yV slot_listiter_next G.typeIs entry_listiter_next ?_ (args_listiter_next _)))
 show wpAny _ _ (field (.ref j) 0 >>= _) _ _ s
 refine wc (yh e1 F (x:=.ref t) rL ?_)
 show wpAny _ _ (if(Value.ref t == .none)=true then _ else _) _ _ s
 rw[if_neg (show ¬((Value.ref t == .none)=true)from wN)]
 show wpAny _ _ (field (.ref j) 1 >>= _) _ _ s
 refine wc (yh e1 F (x:=.int i 0) rL (?_:wpAny _ _ (seqItems? (.ref t) >>= _) _ _ s))
 refine wc (yL O S ?_)
 simp only[yD,I]
 refine wc (uI e1 F (by simp) (wu ⟨x,rfl,wu (q _ ⟨_,yC _ e1 (Obj.isFreed_of_fields (Obj.data_mapFields F _)),(Obj.cls_mapFields ..).trans e2,?_⟩ (Heap.SameBut.update ..))⟩))
 rw[Obj.data_mapFields F];simp[rawInt]
theorem zjw {j t:Addr}{i:Nat}{vs:Ae}{Q:Af}(I:A.handled=none) (F:s.heap.IsListIter j t i) (kt:s.heap.IsList t vs) (O:vs[i]?=none)
  (q:∀h' e,Heap.ExtBut j s.heap h'->(∃o,h'.get? e=some o/\o.cls=.type "StopIteration")->E (.ref e) { s with heap:=h' }):wpAny (model prog w) A (Builtin.SmallTypes.nextOf (.ref j)) Q E s:=by
 obtain⟨V,e1,e2,G⟩:=id F
 obtain⟨Y,S,_,W,U⟩:=kt
 unfold Builtin.SmallTypes.nextOf
 refine wc (wpAny_callSpecial?_slot (name:=Str.ofString "__next__") F.typeIs slot_listiter_next (yV slot_listiter_next F.typeIs entry_listiter_next ?_ (args_listiter_next _)))
 show wpAny _ _ (field (.ref j) 0 >>= _) _ _ s
 refine wc (yh e1 G (x:=.ref t) rL ?_)
 show wpAny _ _ (if(Value.ref t == .none)=true then _ else _) _ _ s
 rw[if_neg (show ¬((Value.ref t == .none)=true)from wN)]
 show wpAny _ _ (field (.ref j) 1 >>= _) _ _ s
 refine wc (yh e1 G (x:=.int i 0) rL (?_:wpAny _ _ (seqItems? (.ref t) >>= _) _ _ s))
 refine wc (yL S U ?_)
 simp only[yD,O]
 refine wc (uW (wc (uI e1 G (by simp) (?_:wpAny _ _ (newExc (.type "StopIteration") [] >>= _) _ _ _))))
 refine wc ?_
 simp only[newExc,newTuple]
 refine wc (yv (wc (m:=firstArgMember _ _) (wpAny_of_eq (a:=Value.none) (by first | rfl | (simp only[firstArgMember];rfl)) (yv ?_ (by size_fits)))) (by size_fits))
 simp only[raiseNew]
 refine wc (wpAny_handled (?_))
 first | rw[show A.in1.handled=none from I] | rw[I]
 exact wc (wu (wpAny_throw (q _ _ (((Heap.SameBut.update ..).extBut.push _).push _) ⟨_,wD _ rL,rL⟩)))
section
variable {z TI TO j1 j2 t1 t2:Addr}{i:Nat}{xs ys:Ae}
theorem ze4 {h:Heap}{F:Value}{vs:Ae}{t:Addr}(j:h.IsList t vs) (hz:IsZip h z TI TO F):t≠z:=λe=>by
 obtain⟨o,e1,e2,_⟩:=j
 rw[e,hz]at e1;cases e1;simp at e2
end
end
def zeh (K:Fg) (t1 t2:Addr):It :=
 ⟨λi H=>∃xs ys x y,SqL K H t1 xs/\SqL K H t2 ys/\xs[i]?=some x/\ys[i]?=some y,
  λi H v H'=>∃T x y,v=.ref T/\H T=none/\H'=upd H T (.tup [x,y])/\(∀xs,SqL K H t1 xs->xs[i]?=some x)/\∀ys,SqL K H t2 ys->ys[i]?=some y,
  λi H=>∃xs ys,SqL K H t1 xs/\SqL K H t2 ys/\(xs.length<=i\/ys.length<=i)⟩
section
variable {X:Cx}
def zla (K:Fg) (t:TA):TI:=λσ H R=>t σ H λvs H1=>∃t1 t2,vs=[.ref t1,.ref t2]/\(∃xs,SqL K H1 t1 xs)/\(∃ys,SqL K H1 t2 ys)/\R (zeh K t1 t2) H1
end
def Ite (K:Fg) (l:Addr):It :=
 ⟨λi H=>∃xs x,SqL K H l xs/\xs[i]?=some x,
  λi H v H'=>∃T x,v=.ref T/\H T=none/\H'=upd H T (.tup [.int i,x])/\∀xs,SqL K H l xs->xs[i]?=some x,
  λi H=>∃xs,SqL K H l xs/\xs.length<=i⟩
def zee {P:Program}{w:World}{K:Fg}{a3:Ag}{kc:Nat}{tp:Pos}(e it l:Addr) (a2:e≠it) :
  zdv P w K (.Tuple a3 kc tp) (Ite K l) [e,it] e (λi h=>(∃F,IsEnum h e it (i:Int) F)/\h.IsListIter it l i) where
 mem:=by simp
 obj:=λi h st b j=>by
  obtain⟨⟨F,Z⟩,o1,e1,_,d1⟩:=st
  simp only[wy,wZ,or_false]at j
  rcases j with rfl | rfl
  ·exact⟨_,Z,λ_ r=>by cases r⟩
  ·exact⟨_,e1,λ_ r=>by rw[d1]at r;cases r⟩
 keep:=λi h h' st k=>by
  obtain⟨⟨F,Z⟩,Z1⟩:=st
  exact⟨⟨F,k e (by simp) _ Z⟩,Z1.at λo q=>k it (by simp) o q⟩
 item:=by
  intro X hP hw hK hc i pz s σ H E I hf st hg
  subst hP hw hK
  obtain⟨xs,x,h1,ex⟩:=hg
  obtain⟨us,r1,p1,_⟩:=I.list h1
  obtain⟨ux,eu,rx⟩:=r1.get ex
  obtain⟨⟨F,Z⟩,Z1⟩:=st
  refine wpAny_pyNext_enum_item Z Z1 p1.isList (x:=ux) ↥eu a2 λh' Zo Zi pr sz kk=>⟨_,rfl,?_⟩
  refine wpAny_letOwnedTupleGo_enum (s:={ s with heap:=h',toks:=s.toks+1 }) Zo λG a6 sb=>?_
  replace sb:Heap.SameBut e h' G:=sb
  have a5:s.heap.objs.size≠e:=Wg (wA Z)
  have S:∀c o,c≠e->c≠it->s.heap.get? c=some o->G.get? c=some o:=λc o O U q=>(sb.2 c O).trans (kk c o O U q)
  have a4:G.get? s.heap.objs.size=some { cls:=.type "tuple",data:=.seq #[.int i s.toks,ux] }:=(sb.2 _ a5).trans pr
  have hT:H s.heap.objs.size=none:=I.hok.fresh (wq _)
  have V:∀b,b∉[e,it]->b≠e/\b≠it:=λb j=>↥j
  have trk:∀b u,H b=some u->b≠e/\b≠it:=λb u q=>by
   refine⟨?_,?_⟩ <;> rintro rfl
   ·rw[(hf b (by simp)).1]at q;cases q
   ·rw[(hf b (by simp)).1]at q;cases q
  have a1:∀b o,s.heap.get? b=some o->b≠s.heap.objs.size:=λb o q=>wQ (wA q)
  have u:Un (frs X.stack) [e,it] H (upd H s.heap.objs.size (.tup [.int i,x])) s.heap G :=
   ⟨λb o q n _ j=>by obtain⟨O,U⟩:=V b j;exact S b o O U q,λb o q n _ j=>by obtain⟨O,U⟩:=V b j;exact⟨o.slots,S b o O U q⟩,
    λb o q n j=>by rw[zK (a1 b o q)];exact n,λb o q j=>by obtain⟨O,U⟩:=V b j;exact⟨o,S b o O U q⟩,
    λb ws q=>by rw[zK (zN q hT)];exact q,λb o ws q=>by rw[zK (zN q hT)];exact q,λb ps q=>⟨#[],by rw[zK (zN q hT),q];simp⟩⟩
  have hok:HOk X.prog X.w (upd H s.heap.objs.size (.tup [.int i,x])) G:=λb ob q=>by
   by_cases j:b=s.heap.objs.size
   ·subst j
    rw[zi]at q;cases q
    exact⟨⟨⇑5,_,a4,rL⟩,[.int i s.toks,ux],.cons ⟨_,rL⟩ (.cons rx .nil),_,a4,rL,0,rL⟩
   ·rw[zK j]at q
    refine(I.hok b ob q).stay (λc v Y qc=>?_) (λc q=>by rw[zK (zN q hT)];exact q) λc ws q=>by rw[zK (zN q hT)];exact q
    have:∃o,H c=some o:=by
     rcases Y with rfl | Y
     ·exact⟨_,q⟩
     ·exact⟨_,Y⟩
    obtain⟨o,ho⟩:=this
    obtain⟨O,U⟩:=trk c o ho
    exact S c v O U qc
  refine⟨.ref s.heap.objs.size,upd H s.heap.objs.size (.tup [.int i,x]),?_,rfl,⟨_,x,rfl,hT,rfl,λa7 h=>by rw[I.list_inj h h1];exact ex⟩,
   ⟨⟨_,by rw[Int.natCast_add];exact a6⟩,Zi.at λo q=>(sb.2 _ a2.symm).trans q⟩,λb j=>?_⟩
  ·refine I.call' (s':={ s with heap:=G,toks:=s.toks+1 }) (ch:=[e,it]) rfl u hok I.bare λb j=>?_
   obtain⟨_,z1,z2,z3,z4,z5⟩:=hf b j
   exact⟨z3,z1,z4,z5⟩
  ·obtain⟨o,q⟩:∃o,s.heap.get? b=some o:=by
    obtain⟨o1,e1,_⟩:=Z1
    simp only[wy,wZ,or_false]at j
    rcases j with rfl | rfl
    ·exact⟨_,Z⟩
    ·exact⟨_,e1⟩
   rw[zK (a1 b o q)];exact(hf b j).1
 done:=by
  intro X hP hw hK hc i pz s σ H E I hf st hg
  subst hP hw hK
  obtain⟨xs,h1,en⟩:=hg
  obtain⟨us,r1,p1,_⟩:=I.list h1
  have l1:=r1.length
  obtain⟨⟨F,Z⟩,Z1⟩:=st
  obtain⟨f0,f1,f2,f3,f4,f5⟩:=hf it (by simp)
  exact wpAny_pyNext_enum_end (I.ok.hd hc) Z Z1 p1.isList (by simp;lia) λh' eb=>⟨rfl,I.turned (t':=s.toks) (λb o j q=>eb b o j q) f0 f1 f3 f4 f5⟩
 self:=λ_ _ _ _ _ st h=>by obtain⟨⟨F,Z⟩,_⟩:=st;exact wpAny_pyIter_enum Z h
def zk5 (K:Fg) (t:TA):TI:=λσ H R=>t σ H λvs H1=>∃l xs,vs=[.ref l]/\H1 l=some (.lst xs)/\R (Ite K l) H1
def zcS {X:Cx}{a:Expr}{ta:TA}{p pos tp:Pos}{G:Ag}{kc:Nat}(hg:Gl X "enumerate") (hm:X.mg "enumerate" = none) (ha:PA X [a] ta) (hs:starEach [a] X.env=[(false,eval a X.env)]:=by rfl) :
  PI X (.Tuple G kc tp) (.Call (.Name "enumerate" p) [a] [] pos) (zk5 X.K ta):=by
 intro pz s σ H R I h
 refine Call_ (Z0 I hg hm (by decide +kernel:bootBuiltins "enumerate" = some (.type "enumerate")) (yP (thn (ha pos pz s σ H _ I h) λus j ⟨vs,H1,I1,r1,q1⟩=>?_) (by rw[hs];rfl) ⇑2))
 obtain⟨l,xs,e,hl,q⟩:=q1
 subst e
 obtain⟨u1,rfl,U⟩:=Xz r1
 cases(show u1=Value.ref l from U)
 obtain⟨z,W,n,rv,V⟩:=(show xD X.prog X.w H1 j.heap l (.lst xs)from I1.hok l _ hl)
 refine callType_new F.called_enumerate ⇑1 (F.typeCall_enumerate_1 _) (F.newCall_enumerate_1 _) (λobj=>F.args_object_init_2 obj _) F.entry_enumerate_new (meets_enumerate_new l W.toArray n) ⟨V,?_⟩
 have z1:(j.heap.push { cls:=.type "list_iterator",data:=.fields #[.ref l,.int 0 0] }).objs.size=j.heap.objs.size+1:=yI ..
 have S:IsEnum ((j.heap.push { cls:=.type "list_iterator",data:=.fields #[.ref l,.int 0 0] }).push { cls:=.type "enumerate",data:=.fields #[.none,.bool false,.ref j.heap.objs.size,rawInt 0,.none,.none] }) (j.heap.push { cls:=.type "list_iterator",data:=.fields #[.ref l,.int 0 0] }).objs.size j.heap.objs.size 0 .none:=wD _ rfl
 have g2:((j.heap.push { cls:=.type "list_iterator",data:=.fields #[.ref l,.int 0 0] }).push { cls:=.type "enumerate",data:=.fields #[.none,.bool false,.ref j.heap.objs.size,rawInt 0,.none,.none] }).IsListIter j.heap.objs.size l 0:=⟨_,wg _ (wD _ rfl),rfl,rfl⟩
 have g3:∀c o,j.heap.get? c=some o->((j.heap.push { cls:=.type "list_iterator",data:=.fields #[.ref l,.int 0 0] }).push { cls:=.type "enumerate",data:=.fields #[.none,.bool false,.ref j.heap.objs.size,rawInt 0,.none,.none] }).get? c=some o:=λc o e=>wg _ (wg _ e)
 rw[z1]at S ⊢
 show _/\_
 refine⟨⟨_,S,rL⟩,wpAny_pyIter_enum S ⟨j.heap.objs.size+1,[j.heap.objs.size+1,j.heap.objs.size],_,_,H1,rL,I1.kept (t':=j.toks) g3,zee (j.heap.objs.size+1) j.heap.objs.size l (Nat.succ_ne_self _),⟨⟨_,S⟩,g2⟩,λb Y=>?_,q⟩⟩
 have O:j.heap.objs.size<=b:=by
  simp only[wy,wZ,or_false]at Y
  rcases Y with rfl | rfl
  ·exact uh _ _
  ·exact wq _
 exact I1.fpOk O (I1.hok.fresh O)
structure zif (J:It) (H:Hp) (N:Nat) (xs ys:Ba):Prop where
 go:∀i H',i<N->zk H H'->J.go i H'
 stop:∀H',zk H H'->J.stop N H'
 yld:∀i v H2 H3,zk H H2->J.yld i H2 v H3->∃T x y,v=.ref T/\H2 T=none/\H3=upd H2 T (.tup [x,y])/\xs[i]?=some x/\ys[i]?=some y
def sel (p:Nat->Bool) (N:Nat):List Nat:=(List.range N).filter p
def Xl (p:Nat->Bool) (N:Nat):sel p (N+1)=sel p N++(if p N=true then [N]else []):=by
 unfold sel
 rw[List.range_succ,yG]
 by_cases h:p N=true <;> simp[h]
section
variable {J:It}{D:Addr}{n N:Nat}{js:List Nat}{σ:St}{g:TG}{tt:TT}{te:TE}{Z:Hp->Prop}{H:Hp}{xs ys:Ba}
theorem zdD (p:Nat->Bool) (R:Nat->V->Hp->Prop) (hR:∀i v H H',zX H H'->R i v H->R i v H') (hD:H D=none) (hJ:zif J H N xs ys) (hl:N<sizeLine)
  (hs:∀(i:Nat) (T:Addr) (x y:V) (zs:St) (H2:Hp) (A:VK) (B:Hp->Prop),xs[i]?=some x->ys[i]?=some y->zs.length=n->zk H H2->H2 T=some (.tup [x,y])->(p i=true->∀v F,zk H2 F->R i v F->A v F)->(p i=false->∀F,zk H2 F->B F) →
   g (.ref T) (zs++qY σ js) H2 λS H4=>S.drop n=qY σ js/\tt S H4 λb H5=>if b=true then te S H5 A else B H5)
  (k:∀us H',zk H H'->H' D=some (.lst us)->us.length=(sel p N).length->(∀(j i:Nat) (v:V),(sel p N)[j]?=some i->us[j]?=some v->R i v H')->Z H') :
  ∃W:Nat->Nat->Hp->Ba->Prop,(∃m,W 0 m (upd H D (.lst [])) [])/\∀i m H2 ys,W i m H2 ys->H2 D=some (.lst ys)->(J.stop i H2/\Z H2) ∨
   (J.go i H2/\∀zs x H3,zs.length=n->J.yld i H2 x H3->g x (zs++qY σ js) H3 λS H4=>S.drop n=qY σ js/\tt S H4 λb H5=>if b=true then te S H5 (λv F=>F D=some (.lst ys)/\ys.length<sizeLine/\∃m',m'<m/\W (i+1) m' (upd F D (.lst (ys++[v]))) (ys++[v]))
    else H5 D=some (.lst ys)/\∃m',m'<m/\W (i+1) m' H5 ys):=by
 refine XY (Q:=λ_ H=>Z H) (N:=N) (λi H2 us=>zk H H2/\us.length=(sel p i).length/\∀(j q:Nat) (v:V),(sel p i)[j]?=some q->us[j]?=some v->R q v H2)
  ⟨zk.upd hD,rfl,λj q v e=>by simp[sel]at e⟩ (λi H2 us hi q=>hJ.go i H2 hi q.1) (λH2 us q=>hJ.stop H2 q.1) ?_ (λH2 us q e=>k us H2 q.1 e q.2.1 q.2.2)
 rintro i x zs H2 H3 us Nx hN hi hz hy ⟨s2,a2,a1⟩ U
 obtain⟨T,a,b,rfl,hT,rfl,e1,e2⟩:=hJ.yld i x H2 H3 s2 hy
 have a4:D≠T:=λz=>by rw[z,hT]at U;cases U
 have s3:zk H2 (upd H2 T (.tup [a,b])):=zk.upd hT
 have Y:upd H2 T (.tup [a,b]) D=some (.lst us):=s3 _ _ U
 have a3:us.length<sizeLine:=by
  have h1:(sel p i).length<=i:=by
   have:=uu p (List.range i)
   rw[List.length_range]at this;exact this
  lia
 refine hs i T a b zs _ _ _ e1 e2 hz (s2.trans s3) zi (λhp v F O r6=>⟨O _ _ Y,a3,hN _ _ ⟨λc o e=>?_,?_,λj q u G I=>?_⟩⟩) (λhp F O=>⟨O _ _ Y,hN _ _ ⟨λc o e=>O _ _ (s3 _ _ (s2 _ _ e)),?_,λj q u G I=>?_⟩⟩)
 ·rw[zK (zN e hD)];exact O _ _ (s3 _ _ (s2 _ _ e))
 ·rw[Xl,if_pos hp];simp[a2]
 ·rw[Xl,if_pos hp]at G
  have T6:zX F (upd F D (.lst (us++[v]))):=.upd (O _ _ Y)
  by_cases hj:j<us.length
  ·rw[wE hj]at I
   rw[wE ∅]at G
   exact hR _ _ _ _ ((zX.of (s3.trans O)).trans T6) (a1 j q u G I)
  ·rw[wB ∅]at I
   rw[wB ∅]at G
   have:j-us.length=0:=by
    rcases yQ (j-us.length)with z | z
    ·exact z
    ·rw[w4 (by simp;lia)]at I;cases I
   rw[this]at I
   rw[show j-(sel p i).length=0 by lia]at G
   simp at G I
   subst G;subst I
   exact hR _ _ _ _ T6 r6
 ·rw[Xl,if_neg (by simp[hp])];simp[a2]
 ·rw[Xl,if_neg (by simp[hp])]at G
  rw[yz]at G
  exact hR _ _ _ _ (zX.of (s3.trans O)) (a1 j q u G I)
end
def KIt (k:Bool) (h:Heap) (j t:Addr) (i:Nat):Prop:=match k with | true=>h.IsTupleIter j t i | false=>h.IsListIter j t i
def KSq (k:Bool) (h:Heap) (t:Addr) (xs:Ae):Prop:=match k with | true=>h.IsTuple t xs | false=>h.IsList t xs
def SqK (k:Bool) (K:Fg) (H:Hp) (t:Addr) (xs:Ba):Prop:=match k with | true=>SqT K H t xs | false=>SqL K H t xs
def Vi (k:Bool) (t:Addr):Obj:={ cls:=.type (match k with | true=>"tuple_iterator" |false=>"list_iterator"),data:=.fields #[.ref t,.int 0 0] }
def KIt.at {k:Bool}{h h':Heap}{j t:Addr}{i:Nat}(x:KIt k h j t i) (e:∀o,h.get? j=some o->h'.get? j=some o):KIt k h' j t i:=by
 cases k
 ·exact Heap.IsListIter.at x e
 ·exact Heap.IsTupleIter.at x e
def KIt.ob {k:Bool}{h:Heap}{j t:Addr}{i:Nat}(x:KIt k h j t i):∃o,h.get? j=some o/\∀v,o.data≠.cell v:=by
 cases k
 ·obtain⟨o,e,_,d⟩:=x;exact⟨o,e,λ_ r=>by rw[d]at r;cases r⟩
 ·obtain⟨o,e,_,d⟩:=x;exact⟨o,e,λ_ r=>by rw[d]at r;cases r⟩
def KSq.keep {k:Bool}{h h':Heap}{t:Addr}{xs:Ae}(x:KSq k h t xs) (e:∀o,h.get? t=some o->h'.get? t=some o):KSq k h' t xs:=by
 cases k
 ·obtain⟨o,j,r⟩:=x;exact⟨o,e _ j,r⟩
 ·obtain⟨o,j,r⟩:=x;exact⟨o,e _ j,r⟩
def KSq.push {k:Bool}{h:Heap}{t:Addr}{xs:Ae}{ob:Obj}(x:KSq k h t xs):KSq k (h.push ob) t xs:=x.keep λ_ e=>wg _ e
def KSq.lt {k:Bool}{h:Heap}{t:Addr}{xs:Ae}(x:KSq k h t xs):t<h.objs.size:=by
 cases k
 ·obtain⟨o,j,r⟩:=x;exact wA j
 ·obtain⟨o,j,r⟩:=x;exact wA j
def KSq.ne_z {k:Bool}{h:Heap}{j:Value}{vs:Ae}{t z TI TO:Addr}(x:KSq k h t vs) (hz:IsZip h z TI TO j):t≠z:=by
 cases k
 ·exact ze4 x hz
 ·exact zgd x hz
def KSq.ne_j {k F:Bool}{h:Heap}{vs:Ae}{t j u:Addr}{n:Nat}(x:KSq k h t vs) (G:KIt F h j u n):t≠j:=by
 rintro rfl
 cases k <;> cases F <;> (obtain⟨o,e1,e2,_⟩:=x;obtain⟨o',I,O,_⟩:=G;rw[I]at e1;cases e1;rw[O]at e2;simp at e2)
def zae {h:Heap}{a:Addr}{o o':Obj}(e:a=h.objs.size) (q:o=o') (f:o.isFreed=false:=by rfl):(h.push o).get? a=some o':=by subst e;subst q;exact wD _ f
def zcA {k:Bool}{h:Heap}{j t:Addr}(e:h.get? j=some (Vi k t)):KIt k h j t 0:=by
 cases k
 ·exact⟨_,e,rL,rL⟩
 ·exact⟨_,e,rL,rL⟩
section
variable {prog:Program}{w:World}{A:Around}{E:Af}{s:Shared}
theorem zbP {k:Bool}{j t:Addr}{i:Nat}{vs:Ae}{x:Value}{Q:Af}(G:KIt k s.heap j t i) (kt:KSq k s.heap t vs) (F:vs[i]?=some x)
  (q:∀h',KIt k h' j t (i+1)->Heap.SameBut j s.heap h'->Q x { s with heap:=h' }):wpAny (model prog w) A (Builtin.SmallTypes.nextOf (.ref j)) Q E s:=by
 cases k
 ·exact zgV G kt F q
 ·exact zgW G kt F q
theorem zim {k:Bool}{j t:Addr}{i:Nat}{vs:Ae}{Q:Af}(I:A.handled=none) (G:KIt k s.heap j t i) (kt:KSq k s.heap t vs) (F:vs[i]?=none)
  (q:∀h' e,Heap.ExtBut j s.heap h'->(∃o,h'.get? e=some o/\o.cls=.type "StopIteration")->E (.ref e) { s with heap:=h' }):wpAny (model prog w) A (Builtin.SmallTypes.nextOf (.ref j)) Q E s:=by
 cases k
 ·exact zjw I G kt F q
 ·exact zjx I G kt F q
theorem zil {k:Bool}{t:Addr}{vs:Ae}{Q:Af}(kt:KSq k s.heap t vs) (q:Q (.ref s.heap.objs.size) { s with heap:=s.heap.push (Vi k t) }):wpAny (model prog w) A (pyIter (.ref t)) Q E s:=by
 cases k
 ·exact WD kt q
 ·exact wpAny_pyIter_tuple kt q
end
def QU {k:Bool}{X:Cx}{pz:Ab}{σ:St}{H:Hp}{s:Shared}{a:Addr}{xs:Ba}(I:Inv X pz σ H s) (h:SqK k X.K H a xs):∃j:Ac,xh xs j/\KSq k s.heap a j.toArray:=by
 cases k
 ·obtain⟨us,r,p,_⟩:=I.list h;exact⟨us,r,p.isList⟩
 ·obtain⟨us,r,p,_⟩:=I.tuple h;exact⟨us,r,p⟩
def zdf {k:Bool}{X:Cx}{pz:Ab}{σ:St}{H:Hp}{s:Shared}{a:Addr}{xs ys:Ba}(I:Inv X pz σ H s) (h:SqK k X.K H a xs) (h':SqK k X.K H a ys):xs=ys:=by
 cases k
 ·exact I.list_inj h h'
 ·exact I.tuple_inj h h'
structure ZN2 (z TI TO j1 j2:Addr):Prop where
 z_TI:z≠TI
 z_TO:z≠TO
 z_j1:z≠j1
 z_j2:z≠j2
 TI_TO:TI≠TO
 TI_j1:TI≠j1
 TI_j2:TI≠j2
 TO_j1:TO≠j1
 TO_j2:TO≠j2
 j1_j2:j1≠j2
abbrev Qo (h:Heap) (T:Addr) (a1 a2:Value):Prop:=h.get? T=some { cls:=.type "tuple",data:=.seq #[a1,a2] }
section
variable {prog:Program}{w:World}{A:Around}{E:Af}{s:Shared}
theorem zcf {T:Addr}{G j x:Value}{k:Nat}{Q:Unit->Shared->Prop}(F:Qo s.heap T G j)
  (h:∀h',h'.get? T=some { cls:=.type "tuple",data:=.seq ((#[G,j]:Ae).setIfInBounds k x) }->Heap.SameBut T s.heap h'->Q () { s with heap:=h' }) :
  wpAny (model prog w) A (updateSeq T (·.setIfInBounds k x)) Q E s:=by
 refine wpAny_updateSeq F rL (h _ ?_ (Heap.SameBut.update ..))
 rw[yC _ F rfl]
 simp[Obj.mapSeq]
structure ZS2 (z TI TO j1 j2 t1 t2:Addr) (k1 k2:Bool) (f0:Value) (i:Nat) (h:Heap):Prop where
 z:IsZip h z TI TO f0
 ti:Qo h TI (.ref j1) (.ref j2)
 to:∃a1 a2,Qo h TO a1 a2
 i1:KIt k1 h j1 t1 i
 i2:KIt k2 h j2 t2 i
variable {z TI TO j1 j2 t1 t2:Addr}{k1 k2:Bool}{i:Nat}{xs1 xs2:Ae}
theorem zic {x1 x2:Value}{Q:Option Value->Shared->Prop}(D:ZN2 z TI TO j1 j2) (Z:ZS2 z TI TO j1 j2 t1 t2 k1 k2 .none i s.heap) (q1:KSq k1 s.heap t1 xs1) (q2:KSq k2 s.heap t2 xs2) (n1:t1≠TO) (n2:t2≠TO) (a8:xs1[i]?=some x1) (a9:xs2[i]?=some x2)
  (q:∀h',ZS2 z TI TO j1 j2 t1 t2 k1 k2 (rawInt s.heap.objs.size) (i+1) h'->Qo h' s.heap.objs.size x1 x2->h'.objs.size=s.heap.objs.size+1 →
   (∀c o,c≠z->c≠TO->c≠j1->c≠j2->s.heap.get? c=some o->h'.get? c=some o)->Q (some (.ref s.heap.objs.size)) { s with heap:=h' }):wpAny (model prog w) A (pyNext (.ref z)) Q E s:=by
 obtain⟨Zz,Zi,⟨a1,a2,Zo⟩,Z1,Z2⟩:=Z
 have ty:s.TypeIs (.ref z) "zip":=⟨_,Zz,rfl⟩
 unfold pyNext
 refine wc (wpAny_attempt (wpAny_callSpecial?_slot (name:=Str.ofString "__next__") ty F.slot_zip_next (yV F.slot_zip_next ty F.entry_zip_next ?_ (F.args_zip_next_1 _))))
 show wpAny _ _ (field (.ref z) 2 >>= _) _ _ s
 refine wc (yh Zz rL (x:=.bool false) rL (?_:wpAny _ _ (field (.ref z) 3 >>= _) _ _ s))
 refine wc (yh Zz rL (x:=.ref TI) rL (wc (yL Zi rL (?_:wpAny _ _ (Builtin.SmallTypes.ownedTupleIsFree (.ref z) >>= _) _ _ s))))
 refine wc ?_;unfold Builtin.SmallTypes.ownedTupleIsFree
 refine wc (yh Zz rL (x:=.none) rL (wu ?_))
 simp only[if_true]
 refine wc (uW (wc (yh Zz rfl (x:=.ref TO) rfl (wc (uy Zz (by simp) λg1 a3 m1=>?_)))))
 replace a3:IsZip g1 z TI TO .ellipsis:=a3
 refine wc ?_;simp only[List.zipIdx_cons,List.zipIdx_nil,List.forIn_cons,List.forIn_nil]
 refine wc (wc (Yn (?_:wpAny _ _ (Builtin.SmallTypes.nextOf (.ref j1) >>= _) _ _ _)))
 refine wc (zbP (Z1.at λo e=>(m1.extBut _ _ D.z_j1.symm e)) (q1.keep λo e=>(m1.extBut _ _ (q1.ne_z Zz) e)) a8 λg2 Y1 m2=>wu ?_)
 have a5:Qo g2 TO a1 a2:=m2.extBut _ _ D.TO_j1 (m1.extBut _ _ D.z_TO.symm Zo)
 refine wc (yL a5 rL (wc (zcf a5 λg3 W m3=>wc (Ym (wu ?_)))))
 replace W:Qo g3 TO x1 a2:=W
 refine wc (wc (Yn (?_:wpAny _ _ (Builtin.SmallTypes.nextOf (.ref j2) >>= _) _ _ _)))
 refine wc (zbP (Z2.at λo e=>(m3.extBut _ _ D.TO_j2.symm (m2.extBut _ _ D.j1_j2.symm (m1.extBut _ _ D.z_j2.symm e)))) (q2.keep λo e=>(m3.extBut _ _ n2 (m2.extBut _ _ (q2.ne_j Z1) (m1.extBut _ _ (q2.ne_z Zz) e)))) a9 λg4 Y2 m4=>wu ?_)
 have a4:Qo g4 TO x1 a2:=m4.extBut _ _ D.TO_j2 W
 refine wc (yL a4 rL (wc (zcf a4 λj U m5=>wc (Ym (wu (wu ?_))))))
 replace U:Qo j TO x1 x2:=U
 refine wc (yL U rL (wc (wpAny_newTuple ?_)))
 have sz:j.objs.size=s.heap.objs.size:=by rw[m5.1,m4.1,m3.1,m2.1,m1.1]
 have a6:IsZip j z TI TO .ellipsis:=(m5.extBut _ _ D.z_TO (m4.extBut _ _ D.z_j2 (m3.extBut _ _ D.z_TO (m2.extBut _ _ D.z_j1 a3))))
 have kp:∀c o,c≠z->c≠TO->c≠j1->c≠j2->s.heap.get? c=some o->j.get? c=some o:=λc o S G I O e=>(m5.extBut _ _ G (m4.extBut _ _ O (m3.extBut _ _ G (m2.extBut _ _ I (m1.extBut _ _ S e)))))
 have W1:KIt k1 j j1 t1 (i+1):=Y1.at λo e=>(m5.extBut _ _ D.TO_j1.symm (m4.extBut _ _ D.j1_j2 (m3.extBut _ _ D.TO_j1.symm e)))
 have W2:KIt k2 j j2 t2 (i+1):=Y2.at λo e=>(m5.extBut _ _ D.TO_j2.symm e)
 have a7:j.objs.size≠z:=Wg (wA a6)
 show wpAny _ _ (Builtin.SmallTypes.ownedTupleHandOut (.ref z) (.ref j.objs.size) >>= _) _ _ _
 refine wc ?_;unfold Builtin.SmallTypes.ownedTupleHandOut
 refine wc (uy (wg _ a6) (by simp) λh7 Y p7=>?_)
 replace Y:IsZip h7 z TI TO (rawInt j.objs.size):=Y
 refine uy Y (by simp) λh8 V p8=>?_
 replace V:IsZip h8 z TI TO (rawInt j.objs.size):=V
 have up:∀c o,c≠z->j.get? c=some o->h8.get? c=some o:=λc o c1 e=>p8.extBut _ _ c1 (p7.extBut _ _ c1 (wg _ e))
 have T8:Qo h8 j.objs.size x1 x2:=p8.extBut _ _ a7 (p7.extBut _ _ a7 (wD _ rfl))
 have s8:h8.objs.size=j.objs.size+1:=by rw[p8.1,p7.1,yI]
 refine wu ⟨_,rL,wu ?_⟩
 rw[sz]at V T8 s8
 show Q (some (.ref j.objs.size)) _
 rw[sz]
 exact q h8 ⟨V,up _ _ D.z_TI.symm (kp _ _ D.z_TI.symm D.TI_TO D.TI_j1 D.TI_j2 Zi),⟨_,_,up _ _ D.z_TO.symm U⟩,W1.at λo e=>up _ o D.z_j1.symm e,W2.at λo e=>up _ o D.z_j2.symm e⟩ T8 s8 λc o S G I O e=>up c o S (kp c o S G I O e)
theorem zkM {Q:Option Value->Shared->Prop}(hh:A.handled=none) (D:ZN2 z TI TO j1 j2) (Z:ZS2 z TI TO j1 j2 t1 t2 k1 k2 .none i s.heap) (q1:KSq k1 s.heap t1 xs1) (q2:KSq k2 s.heap t2 xs2) (n1:t1≠TO) (n2:t2≠TO) (en:xs1[i]?=none\/xs2[i]?=none)
  (q:∀h',(∀c o,c≠z->c≠TO->c≠j1->c≠j2->s.heap.get? c=some o->h'.get? c=some o)->Q none { s with heap:=h' }):wpAny (model prog w) A (pyNext (.ref z)) Q E s:=by
 obtain⟨Zz,Zi,⟨a1,a2,Zo⟩,Z1,Z2⟩:=Z
 have ty:s.TypeIs (.ref z) "zip":=⟨_,Zz,rfl⟩
 have a3:∀(g':Heap) (e:Addr),(∀c o,c≠z->c≠TO->c≠j1->c≠j2->s.heap.get? c=some o->g'.get? c=some o)->(∃o,g'.get? e=some o/\o.cls=.type "StopIteration") →
   wpAny (model prog w) A (do if <-isInstance (.ref e) (.type "StopIteration")then pure none else throw (.ref e):Sem (Option Value)) Q E { s with heap:=g' }:=λg' e kk ⟨o,ho,hc⟩ =>
  wc (wpAny_isInstance (T:="StopIteration") (b:=true) ⟨o,ho,hc⟩ isSubtype_stop (wu (q g' kk)))
 unfold pyNext
 refine wc (wpAny_attempt (wpAny_callSpecial?_slot (name:=Str.ofString "__next__") ty F.slot_zip_next (yV F.slot_zip_next ty F.entry_zip_next ?_ (F.args_zip_next_1 _))))
 show wpAny _ _ (field (.ref z) 2 >>= _) _ _ s
 refine wc (yh Zz rL (x:=.bool false) rL (?_:wpAny _ _ (field (.ref z) 3 >>= _) _ _ s))
 refine wc (yh Zz rL (x:=.ref TI) rL (wc (yL Zi rL (?_:wpAny _ _ (Builtin.SmallTypes.ownedTupleIsFree (.ref z) >>= _) _ _ s))))
 refine wc ?_;unfold Builtin.SmallTypes.ownedTupleIsFree
 refine wc (yh Zz rL (x:=.none) rL (wu ?_))
 simp only[if_true]
 refine wc (uW (wc (yh Zz rfl (x:=.ref TO) rfl (wc (uy Zz (by simp) λg1 S O=>?_)))))
 replace S:IsZip g1 z TI TO .ellipsis:=S
 refine wc ?_;simp only[List.zipIdx_cons,List.zipIdx_nil,List.forIn_cons,List.forIn_nil]
 refine wc (wc (Yn (?_:wpAny _ _ (Builtin.SmallTypes.nextOf (.ref j1) >>= _) _ _ _)))
 cases ex1:xs1[i]? with
 |none =>
  refine wc (zim hh (Z1.at λo e=>(O.extBut _ _ D.z_j1.symm e)) (q1.keep λo e=>(O.extBut _ _ (q1.ne_z Zz) e)) ex1 λg2 e W ⟨oe,e1,e2⟩=>?_)
  have G:IsZip g2 z TI TO .ellipsis:=W _ _ D.z_j1 S
  have nz:e≠z:=λr=>by subst r;rw[G]at e1;cases e1;simp at e2
  exact uy G (by simp) λgE _ mE=>a3 gE e (λc o j U I V r=>mE.extBut _ _ j (W _ _ I (O.extBut _ _ j r))) ⟨oe,mE.extBut _ _ nz e1,e2⟩
 |some x1 =>
  refine wc (zbP (Z1.at λo e=>(O.extBut _ _ D.z_j1.symm e)) (q1.keep λo e=>(O.extBut _ _ (q1.ne_z Zz) e)) ex1 λg2 Y1 W=>wu ?_)
  have a4:Qo g2 TO a1 a2:=W.extBut _ _ D.TO_j1 (O.extBut _ _ D.z_TO.symm Zo)
  refine wc (yL a4 rL (wc (zcf a4 λg3 Y m3=>wc (Ym (wu ?_)))))
  replace Y:Qo g3 TO x1 a2:=Y
  refine wc (wc (Yn (?_:wpAny _ _ (Builtin.SmallTypes.nextOf (.ref j2) >>= _) _ _ _)))
  have a5:xs2[i]?=none:=by
   rcases en with r | r
   ·rw[ex1]at r;cases r
   ·exact r
  refine wc (zim hh (Z2.at λo e=>(m3.extBut _ _ D.TO_j2.symm (W.extBut _ _ D.j1_j2.symm (O.extBut _ _ D.z_j2.symm e)))) (q2.keep λo e=>(m3.extBut _ _ n2 (W.extBut _ _ (q2.ne_j Z1) (O.extBut _ _ (q2.ne_z Zz) e)))) a5 λg4 e m4 ⟨oe,e1,e2⟩=>?_)
  have G:IsZip g4 z TI TO .ellipsis:=m4 _ _ D.z_j2 (m3.extBut _ _ D.z_TO (W.extBut _ _ D.z_j1 S))
  have nz:e≠z:=λr=>by subst r;rw[G]at e1;cases e1;simp at e2
  exact uy G (by simp) λgE _ mE=>a3 gE e (λc o j U I V r=>mE.extBut _ _ j (m4 _ _ V (m3.extBut _ _ U (W.extBut _ _ I (O.extBut _ _ j r))))) ⟨oe,mE.extBut _ _ nz e1,e2⟩
end
def zds (k1 k2:Bool) (K:Fg) (t1 t2:Addr):It :=
 ⟨λi H=>∃(xs1:Ba) (xs2:Ba) (x1:V) (x2:V),SqK k1 K H t1 xs1/\SqK k2 K H t2 xs2/\xs1[i]?=some x1/\xs2[i]?=some x2,
  λi H v H'=>∃(T:Addr) (x1 x2:V),v=.ref T/\H T=none/\H'=upd H T (.tup [x1,x2])/\(∀xs,SqK k1 K H t1 xs->xs[i]?=some x1)/\(∀xs,SqK k2 K H t2 xs->xs[i]?=some x2),
  λi H=>∃(xs1:Ba) (xs2:Ba),SqK k1 K H t1 xs1/\SqK k2 K H t2 xs2/\(xs1.length<=i\/xs2.length<=i)⟩
def zh7 {P:Program}{w:World}{K:Fg}{a8:Ag}{kc:Nat}{tp:Pos}(k1 k2:Bool) (z TI TO j1 j2 t1 t2:Addr) (D:ZN2 z TI TO j1 j2) (n1:t1≠TO) (n2:t2≠TO) :
  zdv P w K (.Tuple a8 kc tp) (zds k1 k2 K t1 t2) [z,TI,TO,j1,j2] z (λi h=>ZS2 z TI TO j1 j2 t1 t2 k1 k2 .none i h) where
 mem:=by simp
 obj:=λi h st b j=>by
  obtain⟨Zz,Zi,⟨a1,a2,Zo⟩,Z1,Z2⟩:=st
  simp only[wy,wZ,or_false]at j
  rcases j with rfl | rfl | rfl | rfl | rfl
  ·exact⟨_,Zz,λ_ r=>by cases r⟩
  ·exact⟨_,Zi,λ_ r=>by cases r⟩
  ·exact⟨_,Zo,λ_ r=>by cases r⟩
  ·exact Z1.ob
  ·exact Z2.ob
 keep:=λi h h' st k=>by
  obtain⟨Zz,Zi,⟨a1,a2,Zo⟩,Z1,Z2⟩:=st
  exact⟨k z (by simp) _ Zz,k TI (by simp) _ Zi,⟨a1,a2,k TO (by simp) _ Zo⟩,Z1.at λo e=>k j1 (by simp) o e,Z2.at λo e=>k j2 (by simp) o e⟩
 item:=by
  intro X hP hw hK hc i pz s σ H E I hf st hg
  subst hP hw hK
  obtain⟨xs1,xs2,x1,x2,h1,h2,a9,b0⟩:=hg
  obtain⟨a4,r1,p1⟩:=QU I h1
  obtain⟨a5,r2,p2⟩:=QU I h2
  obtain⟨u1,c2,b6⟩:=r1.get a9
  obtain⟨u2,c0,b8⟩:=r2.get b0
  refine zic D st (xs1:=a4.toArray) (xs2:=a5.toArray) p1 p2 n1 n2 ↥c2 ↥c0 λh' b5 pr sz kk=>⟨_,rfl,?_⟩
  obtain⟨Zz,Zi,⟨a1,a2,Zo⟩,Z1,Z2⟩:=b5
  refine wpAny_letOwnedTupleGo_zip Zz λY b9 sb=>?_
  have b7:s.heap.objs.size≠z:=Wg (wA st.z)
  have a3:∀c o,c≠z->c≠TO->c≠j1->c≠j2->s.heap.get? c=some o->Y.get? c=some o:=λc o a7 b2 b1 b4 e=>(sb.2 c a7).trans (kk c o a7 b2 b1 b4 e)
  have b3:Y.get? s.heap.objs.size=some { cls:=.type "tuple",data:=.seq #[u1,u2] }:=(sb.2 _ b7).trans pr
  have hT:H s.heap.objs.size=none:=I.hok.fresh (wq _)
  have F:∀b,b∉[z,TO,j1,j2]->b≠z/\b≠TO/\b≠j1/\b≠j2:=λb j=>↥j
  have trk:∀b u,H b=some u->b≠z/\b≠TO/\b≠j1/\b≠j2:=λb u e=>by
   refine⟨?_,?_,?_,?_⟩ <;> rintro rfl
   ·rw[(hf b (by simp)).1]at e;cases e
   ·rw[(hf b (by simp)).1]at e;cases e
   ·rw[(hf b (by simp)).1]at e;cases e
   ·rw[(hf b (by simp)).1]at e;cases e
  have a6:∀b o,s.heap.get? b=some o->b≠s.heap.objs.size:=λb o e=>wQ (wA e)
  have u:Un (frs X.stack) [z,TO,j1,j2] H (upd H s.heap.objs.size (.tup [x1,x2])) s.heap Y :=
   ⟨λb o e n _ j=>by obtain⟨U,S,O,V⟩:=F b j;exact a3 b o U S O V e,λb o e n _ j=>by obtain⟨U,S,O,V⟩:=F b j;exact⟨o.slots,a3 b o U S O V e⟩,
    λb o e n j=>by rw[zK (a6 b o e)];exact n,λb o e j=>by obtain⟨U,S,O,V⟩:=F b j;exact⟨o,a3 b o U S O V e⟩,
    λb ws e=>by rw[zK (zN e hT)];exact e,λb o ws e=>by rw[zK (zN e hT)];exact e,λb ps e=>⟨#[],by rw[zK (zN e hT),e];simp⟩⟩
  have hok:HOk X.prog X.w (upd H s.heap.objs.size (.tup [x1,x2])) Y:=λb ob e=>by
   by_cases j:b=s.heap.objs.size
   ·subst j
    rw[zi]at e;cases e
    exact⟨⟨⇑5,_,b3,rL⟩,[u1,u2],(.cons b6 (.cons b8 .nil)),_,b3,rL,0,rL⟩
   ·rw[zK j]at e
    refine(I.hok b ob e).stay (λc v G qc=>?_) (λc q=>by rw[zK (zN q hT)];exact q) λc ws q=>by rw[zK (zN q hT)];exact q
    have:∃o,H c=some o:=by
     rcases G with rfl | G
     ·exact⟨_,e⟩
     ·exact⟨_,G⟩
    obtain⟨o,ho⟩:=this
    obtain⟨U,S,O,V⟩:=trk c o ho
    exact a3 c v U S O V qc
  refine⟨.ref s.heap.objs.size,upd H s.heap.objs.size (.tup [x1,x2]),?_,rfl,⟨_,x1,x2,rfl,hT,rfl,λc1 h=>by rw[zdf I h h1];exact a9,λc1 h=>by rw[zdf I h h2];exact b0⟩,
   ⟨b9,(sb.2 _ D.z_TI.symm).trans Zi,⟨_,_,(sb.2 _ D.z_TO.symm).trans Zo⟩,Z1.at λo e=>(sb.2 _ D.z_j1.symm).trans e,Z2.at λo e=>(sb.2 _ D.z_j2.symm).trans e⟩,λb j=>?_⟩
  ·refine I.call' (s':={ s with heap:=Y }) (ch:=[z,TO,j1,j2]) rfl u hok I.bare λb j=>?_
   obtain⟨_,y1,y2,y3,y4,y5⟩:=hf b (by simp only[wy,wZ,or_false]at j ⊢;rcases j with r | r | r | r <;> simp[r])
   exact⟨y3,y1,y4,y5⟩
  ·obtain⟨o,e,_⟩:∃o,s.heap.get? b=some o/\True:=by
    obtain⟨Zz,Zi,⟨a1,a2,Zo⟩,Z1,Z2⟩:=st
    simp only[wy,wZ,or_false]at j
    rcases j with rfl | rfl | rfl | rfl | rfl
    ·exact⟨_,Zz,trivial⟩
    ·exact⟨_,Zi,trivial⟩
    ·exact⟨_,Zo,trivial⟩
    ·obtain⟨o,e,_⟩:=Z1.ob;exact⟨o,e,trivial⟩
    ·obtain⟨o,e,_⟩:=Z2.ob;exact⟨o,e,trivial⟩
   rw[zK (a6 b o e)];exact(hf b j).1
 done:=by
  intro X hP hw hK hc i pz s σ H E I hf st hg
  subst hP hw hK
  obtain⟨xs1,xs2,h1,h2,en⟩:=hg
  obtain⟨a4,r1,p1⟩:=QU I h1
  have l1:=r1.length
  obtain⟨a5,r2,p2⟩:=QU I h2
  have l2:=r2.length
  refine zkM (I.ok.hd hc) D st (xs1:=a4.toArray) (xs2:=a5.toArray) p1 p2 n1 n2 (by rcases en with r | r;exact .inl (by simp;lia);exact .inr ((by simp;lia))) λh' kk=>⟨rfl,?_⟩
  have F:∀b,b∉[z,TO,j1,j2]->b≠z/\b≠TO/\b≠j1/\b≠j2:=λb j=>↥j
  have u:Un (frs X.stack) [z,TO,j1,j2] H H s.heap h' :=
   ⟨λb o e n _ j=>by obtain⟨U,S,O,V⟩:=F b j;exact kk b o U S O V e,λb o e n _ j=>by obtain⟨U,S,O,V⟩:=F b j;exact⟨o.slots,kk b o U S O V e⟩,
    λb o e n j=>n,λb o e j=>by obtain⟨U,S,O,V⟩:=F b j;exact⟨o,kk b o U S O V e⟩,λb ws e=>e,λb o ws e=>e,λb ps e=>⟨#[],by rw[e];simp⟩⟩
  have hok:HOk X.prog X.w H h':=λb ob e=>by
   refine(I.hok b ob e).stay (λc v G qc=>?_) (λc q=>q) λc ws q=>q
   have:∃o,H c=some o:=by
    rcases G with rfl | G
    ·exact⟨_,e⟩
    ·exact⟨_,G⟩
   obtain⟨o,ho⟩:=this
   have nn:∀d∈[z,TI,TO,j1,j2],c≠d:=λd hd r=>by subst r;rw[(hf c hd).1]at ho;cases ho
   exact kk c v (nn _ (by simp)) (nn _ (by simp)) (nn _ (by simp)) (nn _ (by simp)) qc
  refine I.call' (s':={ s with heap:=h' }) (ch:=[z,TO,j1,j2]) rfl u hok I.bare λb j=>?_
  obtain⟨_,y1,y2,y3,y4,y5⟩:=hf b (by simp only[wy,wZ,or_false]at j ⊢;rcases j with r | r | r | r <;> simp[r])
  exact⟨y3,y1,y4,y5⟩
 self:=λ_ _ _ _ _ st h=>wpAny_pyIter_zip st.z h
def zaD (h:Heap) (k1 k2:Bool) (t1 t2:Addr):Heap:=((((h.push (Vi k1 t1)).push (Vi k2 t2)).push { cls:=.type "tuple",data:=.seq #[.ref h.objs.size,.ref (h.objs.size+1)] }).push { cls:=.type "tuple",data:=.seq #[.none,.none] }).push { cls:=.type "zip",data:=.fields #[.none,.bool false,.bool false,.ref (h.objs.size+2),.ref (h.objs.size+3)] }
def zgl (k1 k2:Bool) (t1 t2:Addr) (xs1 xs2:Ae):Meets (Builtin.«zip.__new__» ⟨[.type "zip",.ref t1,.ref t2],[]⟩) (λ_ R s=>KSq k1 s.heap t1 xs1/\KSq k2 s.heap t2 xs2/\R (.ok (.ret (.ref (s.heap.objs.size+4)))) { s with heap:=zaD s.heap k1 k2 t1 t2 }) :=
 .of_wp λprog w A R s h=>by
  obtain⟨F,g,d,j,os⟩:=s;obtain⟨I,O,h⟩:=h
  have U:=sub_zip
  have G:KSq k1 (Shared.heap ⟨F,g,d,j,os⟩) t1 xs1:=I
  have S:KSq k2 (Shared.heap ⟨(F.push (Vi k1 t1)),g,d,j,os⟩) t2 xs2:=(KSq.push O)
  wp_walk using zil G,zil S
  refine⟨00,?_⟩
  unfold zaD at h
  simp only[yI]at h ⊢
  exact h
section
variable {X:Cx}
def zk9 (K:Fg) (t:TA):TI:=λσ H R=>t σ H λvs H1=>∃(k1 k2:Bool) (t1 t2:Addr),vs=[.ref t1,.ref t2]/\(∃xs,SqK k1 K H1 t1 xs)/\(∃xs,SqK k2 K H1 t2 xs)/\R (zds k1 k2 K t1 t2) H1
theorem zgo {h:Heap}{k1 k2:Bool}{t1 t2:Addr}:IsZip (zaD h k1 k2 t1 t2) (h.objs.size+4) (h.objs.size+2) (h.objs.size+3) .none/\Qo (zaD h k1 k2 t1 t2) (h.objs.size+2) (.ref h.objs.size) (.ref (h.objs.size+1))/\Qo (zaD h k1 k2 t1 t2) (h.objs.size+3) .none .none ∧
  KIt k1 (zaD h k1 k2 t1 t2) (h.objs.size) t1 0/\KIt k2 (zaD h k1 k2 t1 t2) (h.objs.size+1) t2 0/\∀c o,h.get? c=some o->(zaD h k1 k2 t1 t2).get? c=some o:=by
 have j:(h.push (Vi k1 t1)).objs.size=h.objs.size+1:=by rw[yI]
 have F:((h.push (Vi k1 t1)).push (Vi k2 t2)).objs.size=h.objs.size+2:=by rw[yI,j]
 have G:(((h.push (Vi k1 t1)).push (Vi k2 t2)).push { cls:=.type "tuple",data:=.seq #[.ref h.objs.size,.ref (h.objs.size+1)] }).objs.size=h.objs.size+3:=by rw[yI,F]
 have I:((((h.push (Vi k1 t1)).push (Vi k2 t2)).push { cls:=.type "tuple",data:=.seq #[.ref h.objs.size,.ref (h.objs.size+1)] }).push { cls:=.type "tuple",data:=.seq #[.none,.none] }).objs.size=h.objs.size+4:=by rw[yI,G]
 unfold zaD
 refine⟨?_,?_,?_,?_,?_,λc o e=>?_⟩
 ·rw[<-I];exact wD _ rfl
 ·refine wg _ (wg _ ?_)
  refine zae F.symm ?_
  rfl
 ·refine wg _ ?_
  refine zae G.symm ?_
  rfl
 ·refine zcA (wg _ (wg _ (wg _ (wg _ ?_))))
  exact wD _ rL
 ·refine zcA (wg _ (wg _ (wg _ ?_)))
  exact zae j.symm rL
 ·exact(wg _ (wg _ (wg _ (wg _ (wg _ e)))))
theorem zad {Fz:Ba->Hp->(It->Hp->Prop)->Prop} (hF:∀vs H R,Fz vs H R->∃(k1 k2:Bool) (t1 t2:Addr),vs=[.ref t1,.ref t2]/\(∃xs,SqK k1 X.K H t1 xs)/\(∃xs,SqK k2 X.K H t2 xs)/\R (zds k1 k2 X.K t1 t2) H){a b:Expr}{ta:TA}{p pos tp:Pos}{S:Ag}{kc:Nat}(hg:Gl X "zip") (hm:X.mg "zip" = none) (ha:PA X [a,b] ta) (hs:starEach [a,b] X.env=[(false,eval a X.env),(false,eval b X.env)]:=by rfl) (W:starEach [b] X.env=[(false,eval b X.env)]:=by rfl) :
  PI X (.Tuple S kc tp) (.Call (.Name "zip" p) [a,b] [] pos) (λσ H R=>ta σ H λvs H1=>Fz vs H1 R):=by
 intro pz s σ H R I h
 refine Call_ (Z0 I hg hm (by decide +kernel:bootBuiltins "zip" = some (.type "zip")) (yP (thn (ha pos pz s σ H _ I h) λus j ⟨vs,H1,I1,r1,q1⟩=>?_) (by rw[hs,W]) (by rw[W];rfl)))
 obtain⟨k1,k2,t1,t2,e,⟨xs1,a2⟩,⟨xs2,Y⟩,q⟩:=hF _ _ _ q1
 subst e
 obtain⟨u1,u2,rfl,a4,a5⟩:=zbw r1
 cases(show u1=Value.ref t1 from a4)
 cases(show u2=Value.ref t2 from a5)
 obtain⟨a3,a6,G⟩:=QU I1 a2
 obtain⟨a1,a7,U⟩:=QU I1 Y
 refine callType_new F.called_zip ⇑1 (F.typeCall_zip_2 _ _) (F.newCall_zip_2 _ _) (λobj=>F.args_object_init_3 obj _ _) F.entry_zip_new (zgl k1 k2 t1 t2 a3.toArray a1.toArray) ⟨G,U,?_⟩
 obtain⟨g1,g2,g3,g4,g5,g6⟩:=zgo (h:=j.heap) (k1:=k1) (k2:=k2) (t1:=t1) (t2:=t2)
 show _/\_
 refine⟨⟨_,g1,rL⟩,wpAny_pyIter_zip g1 ⟨_,[j.heap.objs.size+4,j.heap.objs.size+2,j.heap.objs.size+3,j.heap.objs.size,j.heap.objs.size+1],_,_,H1,rL,I1.kept (t':=j.toks) g6,
  zh7 k1 k2 (j.heap.objs.size+4) (j.heap.objs.size+2) (j.heap.objs.size+3) j.heap.objs.size (j.heap.objs.size+1) t1 t2 ?_ (nne (wM G.lt (uh _ _))) (nne (wM U.lt (uh _ _))),⟨g1,g2,⟨_,_,g3⟩,g4,g5⟩,λb hb=>?_,q⟩⟩
 ·constructor <;> (intro z;simp only[Nat.add_right_inj,Nat.add_eq_left,Nat.left_eq_add]at z;try lia)
 ·have O:j.heap.objs.size<=b:=by
   simp only[wy,wZ,or_false]at hb
   rcases hb with rfl | rfl | rfl | rfl | rfl
   ·exact uh _ _
   ·exact uh _ _
   ·exact uh _ _
   ·exact wq _
   ·exact uh _ _
  exact I1.fpOk O (I1.hok.fresh O)
theorem zhk {a b:Expr}{ta:TA}{p pos O:Pos}{j:Ag}{G:Nat}(U:Gl X "zip") (I:X.mg "zip" = none) (V:PA X [a,b] ta) (S:starEach [a,b] X.env=[(false,eval a X.env),(false,eval b X.env)]:=by rfl) (F:starEach [b] X.env=[(false,eval b X.env)]:=by rfl) :
  PI X (.Tuple j G O) (.Call (.Name "zip" p) [a,b] [] pos) (zk9 X.K ta):=zad (Fz:=λvs H1 R=>∃(k1 k2:Bool) (t1 t2:Addr),vs=[.ref t1,.ref t2]/\(∃xs,SqK k1 X.K H1 t1 xs)/\(∃xs,SqK k2 X.K H1 t2 xs)/\R (zds k1 k2 X.K t1 t2) H1) (λ_ _ _ h=>h) U I V S F
theorem zcT {a b:Expr}{ta:TA}{p pos O:Pos}{j:Ag}{G:Nat}(U:Gl X "zip") (I:X.mg "zip" = none) (V:PA X [a,b] ta) (S:starEach [a,b] X.env=[(false,eval a X.env),(false,eval b X.env)]:=by rfl) (F:starEach [b] X.env=[(false,eval b X.env)]:=by rfl) :
  PI X (.Tuple j G O) (.Call (.Name "zip" p) [a,b] [] pos) (zla X.K ta):=zad (Fz:=λvs H1 R=>∃t1 t2,vs=[.ref t1,.ref t2]/\(∃xs,SqL X.K H1 t1 xs)/\(∃ys,SqL X.K H1 t2 ys)/\R (zeh X.K t1 t2) H1) (λ_ _ _ ⟨t1,t2,e,hx,hy,q⟩=>⟨false,false,t1,t2,e,hx,hy,q⟩) U I V S F
theorem zjP {a b:Expr}{ta:TA}{p pos O:Pos}{j:Ag}{G:Nat}(U:Gl X "zip") (I:X.mg "zip" = none) (V:PA X [a,b] ta) (S:starEach [a,b] X.env=[(false,eval a X.env),(false,eval b X.env)]:=by rfl) (F:starEach [b] X.env=[(false,eval b X.env)]:=by rfl) :
  PI X (.Tuple j G O) (.Call (.Name "zip" p) [a,b] [] pos) (zk8 X.K ta):=zad (Fz:=λvs H1 R=>∃t1 t2,vs=[.ref t1,.ref t2]/\(∃xs,SqT X.K H1 t1 xs)/\(∃ys,SqT X.K H1 t2 ys)/\R (Itz X.K t1 t2) H1) (λ_ _ _ ⟨t1,t2,e,hx,hy,q⟩=>⟨true,true,t1,t2,e,hx,hy,q⟩) U I V S F
end
def HSq (k:Bool) (H:Hp) (a:Addr) (xs:Ba):Prop:=match k with | true=>H a=some (.tup xs) | false=>H a=some (.lst xs)
def HSq.sq {k:Bool}{K:Fg}{H:Hp}{a:Addr}{xs:Ba}(h:HSq k H a xs):SqK k K H a xs:=by
 cases k
 ·exact SqL.of h
 ·exact SqT.of h
def HSq.same {k:Bool}{H H':Hp}{a:Addr}{xs:Ba}(h:HSq k H a xs) (e:zk H H'):HSq k H' a xs:=by
 cases k <;> exact e _ _ h
def zhu {k1 k2:Bool}{K:Fg}{H:Hp}{a b:Addr}{xs ys:Ba}(j:HSq k1 H a xs) (F:HSq k2 H b ys) (e:xs.length<=ys.length):zif (zds k1 k2 K a b) H xs.length xs ys :=
 ⟨λi H' hi s=>⟨xs,ys,xs[i],ys[i],(j.same s).sq,(F.same s).sq,by simp[hi],wj _⟩,λH' s=>⟨xs,ys,(j.same s).sq,(F.same s).sq,.inl (wq _)⟩,
  λi v H2 G s ⟨T,x,y,z,h1,h2,h3,h4⟩=>⟨T,x,y,z,h1,h2,h3 xs (j.same s).sq,h4 ys (F.same s).sq⟩⟩
end L2
namespace KM
def VN (a b:Rat):Rat.divInt (a.num*b.den-b.num*a.den) (a.den*b.den)=a-b:=by
 rw[Rat.sub_def',<-Yp];simp
def Zf {a b d:Int}(hd:0<d):Rat.divInt a d<Rat.divInt b d↔a<b:=by
 rw[yM,yM]
 have h:(0:Rat)<d:=Rat.intCast_pos.mpr hd
 rw[YC h,W9 (by grind)];exact Rat.intCast_lt_intCast
def JZ (d:Int):Rat.divInt 0 d=0:=by simp
def zdH {a d:Int}(hd:0<d) (h:0<=a):0<=Rat.divInt a d:=by
 have:=Zf (a:=a) (b:=0) hd
 rw[JZ]at this
 rw[<-Rat.not_lt,this];lia
def mo (l r:Rat×Rat):Rat:=(r.1-l.1)/(l.2-r.2)
def qo (f:Bj) (p:(Rat×Rat)×(Rat×Rat)):Bj :=
 if p.2.2<p.1.2 then(match f with
  |none=>some (mo p.1 p.2)
  |some u=>if mo p.1 p.2<u then some (mo p.1 p.2)else some u)else f
def qI (ch:List (Rat×Rat)):Bj:=(ch.zip ch.tail).foldl qo none
def zcG (x:Rat):x*((x.den:Int):Rat)=((x.num:Int):Rat):=by
 have h:=W7 x
 rw[yM]at h
 have hd:((x.den:Int):Rat)≠0:=by
  intro z
  exact qd x (by exact_mod_cast z)
 have e:x*((x.den:Int):Rat)=((x.num:Int):Rat)/((x.den:Int):Rat)*((x.den:Int):Rat):=by rw[h]
 rw[e];grind
def byq {x:Rat}{b:Int}(h:(x.den:Int) ∣ b):((x.num*b.fdiv (x.den:Int):Int):Rat)=x*(b:Rat):=by
 obtain⟨k,rfl⟩:=h
 rw[Int.mul_fdiv_cancel_left _ (qd x)]
 have e:=zcG x
 rw[ua,ua,<-Rat.mul_assoc,e]
def zgU (j:Rat){a b:Int}(F:b≠0):Rat.divInt (a*j.num) (b*(j.den:Int))=(a:Rat)*j/(b:Rat):=by
 have e:=zcG j
 have hd:((j.den:Int):Rat)≠0:=by
  intro z
  exact qd j (by exact_mod_cast z)
 have G:((b:Int):Rat)≠0:=by
  intro z
  exact F (by exact_mod_cast z)
 rw[yM,ua,ua,<-e]
 grind
def ze9 {l r:Rat×Rat}{p s:Rat}(G:0<p) (O:0<s) (h:r.2<l.2):(r.1*p-l.1*p)*(s/p)/(l.2*s-r.2*s)=mo l r:=by
 unfold mo
 have h1:l.2-r.2≠0:=by grind
 have h2:l.2*s-r.2*s=(l.2-r.2)*s:=by grind
 rw[h2]
 have I:p≠0:=by grind
 have j:s≠0:=by grind
 have F:(l.2-r.2)*s≠0:=by
  intro z
  rcases Rat.mul_eq_zero.mp z with y | y
  ·exact h1 y
  ·exact j y
 grind
def zgJ {a b c d t:Rat}(F:0<b) (hd:0<d) (j:0<t):a*t/b<c*t/d↔a*d<c*b:=by
 rw[YC F]
 have e:c*t/d*b=(c*b*t)/d:=by
  have:d≠0:=by grind
  grind
 rw[e,Yb hd]
 have e2:a*t*d=a*d*t:=by grind
 rw[e2,Rat.mul_lt_mul_right j]
def za0 {α:Type}{L:List α}{p:α×α}(h:p∈L.zip L.tail):∃i,L[i]?=some p.1/\L[i+1]?=some p.2:=by
 obtain⟨i,hi⟩:=yT h
 rw[yY]at hi
 refine⟨i,hi.1,?_⟩
 have:=hi.2
 rw[Wp]at this
 exact this
def xO (pl m:Rat) (ss:Al):List (Rat×Rat):=ss.map λs=>(pl-s*m,s)
end KM
namespace L2
open PySem PySem.Spec PyProof.Rows
structure Jn (n₀:Nat) (J:Shared->Prop):Prop where
 kept:∀(s:Shared) (h':Heap) (tk:Nat),J s->(∀b o,s.heap.get? b=some o->h'.get? b=some o)->J { s with heap:=h',toks:=tk }
 upd:∀(s:Shared) (h':Heap) (tk:Nat) (a:Addr),n₀<=a->J s->Heap.SameBut a s.heap h'->(∃o,s.heap.get? a=some o)->(∃o,h'.get? a=some o)->J { s with heap:=h',toks:=tk }
 size:∀s,J s->n₀<=s.heap.objs.size
section
variable {prog:Program}{w:World}{A:Around}{E:Af}{s:Shared}{n₀:Nat}{J:Shared->Prop}{a kS:Addr}{vs:Ac}{kz:Ak}{keys:Ae}{e e1:Nat}{P:PySem.Fin->Shared->Prop}
theorem zc8 {st:SortSt}(U:Jn n₀ J) (j:J s) (W:s.heap.get? kS=some (seqObj "list" keys e)) (na:s.heap.get? a=some (seqObj "list" #[] e1)) (a2:kS≠a) (gk:n₀<=kS) (ga:n₀<=a)
  (hk:IntsAre keys.toList kz) (a3:kz.length=vs.length) (a4:vs.length<64) (hp:(arrOf st).Perm (keys.zip vs.toArray)) (hs:SortedTo (arrOf st) (arrOf st).size) (a1:failedOf st=none)
  (h:∀s' V c,J s'->s'.heap.get? a=some (seqObj "list" V c)->KskOut false kz vs V.toList->P (.done (.ret .none)) s') :
  wpAny (model prog w) A (ksk_tail a false e1 (.ref kS) st) P E s:=by
 have O:keys.size=vs.length:=by
  have h1:=hk.length
  rw[ul]at h1
  lia
 have S:(arrOf st).size=vs.length:=by rw[hp.size_eq,Array.size_zip,O,wz,Yw]
 have I:((arrOf st).map (·.2)).size=vs.length:=by rw[Array.size_map];exact S
 have s1:=Heap.SameBut.update s.heap kS (Obj.mapSeq λ_=>(#[]:Ae))
 have F:(s.heap.update kS (Obj.mapSeq λ_=>(#[]:Ae))).get? a=some (seqObj "list" #[] e1):=(s1.2 a a2.symm).trans na
 have s2:=Heap.SameBut.update (s.heap.update kS (Obj.mapSeq λ_=>(#[]:Ae))) a (Obj.mapSeq λ_=>(arrOf st).map (·.2))
 obtain⟨c2,G⟩:∃c2,((s.heap.update kS (Obj.mapSeq λ_=>(#[]:Ae))).update a (Obj.mapSeq λ_=>(arrOf st).map (·.2))).get? a=some (seqObj "list" ((arrOf st).map (·.2)) c2) :=
  ⟨_,get?_update_seq F λ_=>(arrOf st).map (·.2)⟩
 obtain⟨c1,Y⟩:∃c1,(s.heap.update kS (Obj.mapSeq λ_=>(#[]:Ae))).get? kS=some (seqObj "list" #[] c1):=⟨_,get?_update_seq W λ_=>#[]⟩
 have j1:=U.upd s _ s.toks kS gk j s1 ⟨_,W⟩ ⟨_,Y⟩
 have j2:=U.upd _ _ s.toks a ga j1 s2 ⟨_,F⟩ ⟨_,G⟩
 unfold ksk_tail
 nofun
 refine wc (listUpdate_at W rfl ?_ (by rw[O,sizeLine_eq];lia) (yo _))
 refine wc (Ym ?_)
 refine wc (seqEpoch_at F rL ?_)
 refine wc (listUpdate_at F rfl ?_ (yo _) (wY (W5 I) (by rw[sizeLine_eq];lia)))
 rw[a1]
 simp only[bne_self_eq_false,ut,if_false]
 refine wu (h _ _ c2 j2 G ?_)
 exact ksk_out (b:=false) hk hp hs
theorem zj1 (U:Jn n₀ J) (j:J s) (nk:s.heap.get? kS=some (seqObj "list" keys e)) (na:s.heap.get? a=some (seqObj "list" #[] e1)) (Y:kS≠a) (gk:n₀<=kS) (ga:n₀<=a)
  (W:IntsAre keys.toList kz) (G:kz.length=vs.length) (O:vs.length<64)
  (h:∀s' V c,J s'->s'.heap.get? a=some (seqObj "list" V c)->KskOut false kz vs V.toList->P (.done (.ret .none)) s') :
  wpAny (model prog w) A (ksk_end a false vs.toArray e1 (.ref kS) keys) P E s:=by
 have S:keys.size=vs.length:=by
  have h1:=W.length
  rw[ul]at h1
  lia
 have I:(keys.zip vs.toArray).size=vs.length:=by rw[Array.size_zip,S,wz,Yw]
 unfold ksk_end
 simp only[ut,if_false]
 by_cases h2:vs.toArray.size<2
 ·rw[if_pos h2,if_pos h2]
  refine wc (wu ?_)
  rw[StateT.run_pure]
  refine wc (wu ?_)
  nofun
  refine zc8 (st:=SortSt.mk' general' (keys.zip vs.toArray) #[] 7 none) U j nk na Y gk ga W G O (Array.Perm.refl _) ?_ rL h
  intro i i' a5 hj
  have a4:i'<(keys.zip vs.toArray).size:=hj
  rw[I]at a4
  rw[wz]at h2
  have:i=i':=by lia
  subst this
  exact Int.le_refl _
 ·rw[if_neg h2,if_neg h2]
  rw[wz]at h2
  rw[ksk_kind W (by rw[S];lia)]
  refine wc (wu ?_)
  refine wc (yF (wpS_sortRuns (a₀:=keys.zip vs.toArray) (st:=SortSt.mk' oneType' (keys.zip vs.toArray) #[] 7 none)
   (Q:=λ_ F=>(arrOf F).Perm (keys.zip vs.toArray)/\failedOf F=none/\SortedTo (arrOf F) (keys.zip vs.toArray).size)
   (ksk_intKeys W) ⟨Array.Perm.refl _,rfl,rfl,rfl⟩ (by rw[I];lia) (by rw[I];exact O) λF a1 a2 a3=>⟨a1,a2,a3⟩) ?_ λ_ _ e=>e)
  rintro ⟨⟨⟩,F⟩ s' ⟨rfl,hp,hf,hs⟩
  nofun
  exact zc8 U j nk na Y gk ga W G O hp (by rw[hp.size_eq];exact hs) hf h
theorem zhM {f:Value}(U:Jn n₀ J) (j:J s) (nk:s.heap.get? kS=some (seqObj "list" #[] 0)) (na:s.heap.get? a=some (seqObj "list" #[] e1)) (a4:kS≠a) (gk:n₀<=kS) (ga:n₀<=a)
  (a2:kz.length=vs.length) (a7:vs.length<64)
  (W:∀(i:Nat) (v:Value) (k:Int),vs[i]?=some v->kz[i]?=some k->∀s':Shared,J s' →
   wpAny (model prog w) A (call f [v]) (λu F=>∃t',u=.int k t'/\J F/\∀b o,n₀<=b->s'.heap.get? b=some o->F.heap.get? b=some o) (λ_ _=>False) s')
  (h:∀s' a3 c,J s'->s'.heap.get? a=some (seqObj "list" a3 c)->KskOut false kz vs a3.toList->P (.done (.ret .none)) s') :
  wpAny (model prog w) A (ksk_rest a f false vs.toArray e1 (.ref kS)) P E s:=by
 unfold ksk_rest
 refine wc (uW ?_)
 first
  |rw[List.forIn_toArray]
  | (rw[<-Array.forIn_toList];simp only[List.toList_toArray])
  |rw[<-Array.forIn_toList]
 refine wc (ksk_fold (λi s'=>∃G e,J s'/\s'.heap.get? kS=some (seqObj "list" G e)/\s'.heap.get? a=some (seqObj "list" #[] e1)/\IntsAre G.toList (kz.take i)) vs 0 s
  ⟨#[],0,j,nk,na,↥IntsAre.nil⟩ ?step ?done)
 case step =>
  rintro i x s' hx ⟨G,e,j',I,S,V⟩
  simp only[Nat.zero_add]at V ⊢
  have hj:i<vs.length:=(wn.mp hx).1
  obtain⟨k,Y⟩:∃k,kz[i]?=some k:=⟨_,wj ∅⟩
  have hz:G.size<=vs.length:=by
   have h1:=V.length
   rw[ul,wU]at h1
   lia
  refine wc (wpAny_attempt (yF (W i x k hx Y s' j') (λv F he=>?_) λ_ _ hF=>hF.elim))
  obtain⟨t2,rfl,j2,kp⟩:=he
  nofun
  have O:=kp _ _ gk I
  have a6:=kp _ _ ga S
  have s1:=Heap.SameBut.update F.heap kS (Obj.mapSeq (·.push (.int k t2)))
  obtain⟨c2,a1⟩:∃c2,(F.heap.update kS (Obj.mapSeq (·.push (.int k t2)))).get? kS=some (seqObj "list" (G.push (.int k t2)) c2):=⟨_,get?_update_seq O (·.push (.int k t2))⟩
  have ek:kz.take (i+1)=kz.take i++[k]:=by rw[yu,Y];simp
  have ea:(G.push (Value.int k t2)).toList=G.toList++[Value.int k t2]:=by simp
  refine wc (listUpdate_at O rfl ?_ (by rw[sizeLine_eq];lia) (wY (W5 (Array.size_push ..)) (by rw[sizeLine_eq];lia)))
  exact wu ⟨rfl,G.push (.int k t2),c2,U.upd _ _ _ kS gk j2 s1 ⟨_,O⟩ ⟨_,a1⟩,a1,(s1.2 a a4.symm).trans a6,by rw[ea,ek];exact ksk_snoc V⟩
 case done =>
  rintro s' ⟨G,e,j',I,S,V⟩
  have a5:IntsAre G.toList kz:=by
   have e3:kz.take (0+vs.length)=kz:=wH ∅
   rw[e3]at V
   exact V
  nofun
  refine wc (listItems_at I rL ?_)
  exact zj1 U j' I S a4 gk ga a5 a2 a7 h
theorem zhN {f:Value}{n:Nat}(U:Jn n₀ J) (j:J s) (ho:s.heap.get? a=some (seqObj "list" vs.toArray n)) (ga:n₀<=a) (hlen:kz.length=vs.length) (h64:vs.length<64)
  (turn:∀(i:Nat) (v:Value) (k:Int),vs[i]?=some v->kz[i]?=some k->∀s':Shared,J s' →
   wpAny (model prog w) A (call f [v]) (λu s''=>∃t',u=.int k t'/\J s''/\∀b o,n₀<=b->s'.heap.get? b=some o->s''.heap.get? b=some o) (λ_ _=>False) s')
  (h:∀s' out c,J s'->s'.heap.get? a=some (seqObj "list" out c)->KskOut false kz vs out.toList->P (.done (.ret .none)) s') :
  wpAny (model prog w) A (ksk_tree a f false) P E s:=by
 have ha:a<s.heap.objs.size:=wA ho
 have s1:=Heap.SameBut.update s.heap a (Obj.mapSeq λ_=>(#[]:Ae))
 obtain⟨e1,ho1⟩:∃e1,(s.heap.update a (Obj.mapSeq λ_=>(#[]:Ae))).get? a=some (seqObj "list" #[] e1):=⟨_,get?_update_seq ho λ_=>#[]⟩
 have j1:=U.upd s _ s.toks a ga j s1 ⟨_,ho⟩ ⟨_,ho1⟩
 have hkS:((s.heap.update a (Obj.mapSeq λ_=>(#[]:Ae))).push (seqObj "tuple" vs.toArray 0)).objs.size=s.heap.objs.size+1:=by rw[size_push',Heap.size_update]
 have j2:=U.kept _ (((s.heap.update a (Obj.mapSeq λ_=>(#[]:Ae))).push (seqObj "tuple" vs.toArray 0)).push (seqObj "list" #[] 0)) s.toks j1 λb o q=>wg _ (wg _ q)
 unfold ksk_tree
 refine wc (listItems_at ho rL ?_)
 refine wc (listUpdate_at ho rfl ?_ (by rw[wz,sizeLine_eq];lia) (yo _))
 refine wc (seqEpoch_at ho1 rL ?_)
 refine wc (wpAny_newTuple ?_ (by show vs.length<=_;rw[sizeLine_eq];lia))
 refine wc (wpAny_newList ?_ (yo _))
 refine yr ?_
 refine zhM (s:={ s with heap:=((s.heap.update a (Obj.mapSeq λ_=>(#[]:Ae))).push (seqObj "tuple" vs.toArray 0)).push (seqObj "list" #[] 0) }) (kS:=((s.heap.update a (Obj.mapSeq λ_=>(#[]:Ae))).push (seqObj "tuple" vs.toArray 0)).objs.size)
  U j2 (wD _ rfl) (wg _ (wg _ ho1)) (by rw[hkS];exact Wg (Nat.lt_succ_of_lt ha)) (by rw[hkS];have:=U.size s j;lia) ga hlen h64 turn h
theorem zd8 {Q:Af}{l q:Addr}(U:Jn n₀ J) (j:J s) (hl:s.heap.IsList l vs.toArray) (hlen:kz.length=vs.length) (h64:vs.length<64)
  (turn:∀(i:Nat) (v:Value) (k:Int),vs[i]?=some v->kz[i]?=some k->∀s':Shared,J s' →
   wpAny (model prog w) A.in1.in1 (call (.ref q) [v]) (λu s''=>∃t',u=.int k t'/\J s''/\∀b o,n₀<=b->s'.heap.get? b=some o->s''.heap.get? b=some o) (λ_ _=>False) s')
  (h:∀D s' out c,n₀<=D->J s'->s'.heap.get? D=some (seqObj "list" out c)->KskOut false kz vs out.toList->Q (.ref D) s') :
  wpAny (model prog w) A (call (.builtin "sorted") [.ref l] [(Str.ofString "key",.ref q)]) Q E s:=by
 refine call_function_entry_kw kind_sorted plain_sorted entry_sorted (ksk_s1 _ _) ?_
 unfold Builtin.«sorted»
 refine wc (m:=checkCount "sorted" 1 1 _) (wu ?_)
 refine wc (collect_list hl ?_ (by rw[sizeLine_eq];lia))
 refine wc (wpAny_newList ?_ (by rw[sizeLine_eq];lia))
 have hsz:((s.heap.push (seqObj "list" #[] 0)).update s.heap.objs.size (Obj.mapSeq (·++vs.toArray))).objs.size=s.heap.objs.size+1:=by
  rw[Heap.size_update,size_push']
 have hoL:(((s.heap.push (seqObj "list" #[] 0)).update s.heap.objs.size (Obj.mapSeq (·++vs.toArray))).push (seqObj "list" vs.toArray 0)).get? (s.heap.objs.size+1)=some (seqObj "list" vs.toArray 0):=by
  rw[<-hsz];exact wD _ rfl
 have keep:∀b o,s.heap.get? b=some o->(((s.heap.push (seqObj "list" #[] 0)).update s.heap.objs.size (Obj.mapSeq (·++vs.toArray))).push (seqObj "list" vs.toArray 0)).get? b=some o:=λb o q=>by
  have hlt:b<s.heap.objs.size:=wA q
  rw[Heap.get?_push_ne _ _ _ (by rw[hsz];exact wQ (Nat.lt_succ_of_lt hlt)),Wc _ _ _ _ (wQ hlt),Heap.get?_push_ne _ _ _ (wQ hlt)]
  exact q
 have ge:n₀<=s.heap.objs.size+1:=Nat.le_succ_of_le (U.size s j)
 show wpAny _ _ _ _ _ { s with heap:=((s.heap.push (seqObj "list" #[] 0)).update s.heap.objs.size (Obj.mapSeq (·++vs.toArray))).push (seqObj "list" vs.toArray 0) }
 rw[hsz]
 refine wc (yr (wpAny_call_entry_kw slot_list_sort ⟨_,hoL,rL⟩ entry_list_sort ?body (ksk_l1 _ _)))
 case body =>
  have ht':=ksk_t1 q (s.heap.objs.size+1)
  show wpAny (model prog w) A.in1.in1 (Builtin.«list.sort» ⟨[.ref (s.heap.objs.size+1)],[(Str.ofString "key",.ref q)]⟩) _ _ _
  rw[ht']
  refine zhN (s:={ s with heap:=((s.heap.push (seqObj "list" #[] 0)).update s.heap.objs.size (Obj.mapSeq (·++vs.toArray))).push (seqObj "list" vs.toArray 0) })
   U (U.kept s _ s.toks j keep) hoL ge hlen h64 turn λs' out c j' hD k'=>⟨_,rfl,?_⟩
  exact wu ⟨_,rL,h _ s' out c ge j' hD k'⟩
end
def zgO {P:Program}{w:World}{K:Fg}{mg:Aa}{base:Heap}{k:Nat}{f G:Addr}{name qual:Str}{j:Arguments}{body:Expr}{scope:Scope}{pm O:Value}{N ps:Ad}{A:Around}{outer:Aj}{s:Shared}{H:Hp}{args:Args}{us:Ac}{vs:Ba}{Q:VK}{E:XK}
  (hr:xf (k+1) A) (e0:Vs P w K mg base A outer s H) (ho:s.heap.get? f=some (PySem.W.kla_obj name qual j body scope [] pm G O)) (Y:s.heap.CodeRec (.ref G) qual) (S:zF N ps scope)
  (hb:bindArgs (PySem.W.kla_fn name qual j body scope [] pm (.ref G) O) args=pure (ps.zip us)) (hl:vs.length=ps.length) (r:xh vs us){t:TE}
  (ht:PE (xi CX0 P w K mg base N qual scope f (.ref G) A outer s H E) body t) (hq:t (qJ N vs) H Q) :
  codeAny (model P w) A (.call (.ref f) args) (CR CX0 outer P w H s Q E) s:=by
 have a1:s.heap.NoLimit:=e0.mod.nolimit.keeps λb o e=>(e0.bs b o e).1
 have F:∀y∈ps.zip us,scope.names.lookup y.1=some .local ∨ (scope.names.lookup y.1=some .cell/\((cellsFrom (s.heap.objs.size+1) scope.names []).lookup y.1).isSome=true):=λ⟨n,v⟩ hy=>by
  rcases S.par n (uz hy).1 with q | q
  ·exact .inl q
  ·exact .inr ⟨q,Wu _ _ _ (.inl q)⟩
 refine PySem.W.kla_callFunE hr.depth ho rL S.co S.gen rL Y ?_
 rw[hb]
 refine wu (WZ S.kind F λenv he s1 x=>?_)
 subst he
 refine⟨a1.keeps x.toInCall.keep,PySem.W.kla_codeExpr ?_⟩
 have I:Inv (xi CX0 P w K mg base N qual scope f (.ref G) A outer s H E) [] (qJ N vs) H s1:=JE S hr.hd e0 hl r x
 refine yF (ht [] s1 (qJ N vs) H _ I hq) (λu s' U=>?_) λe s' U=>U
 obtain⟨v,H',J,rv,q⟩:=U
 exact⟨v,H',J.os,J.bare,J.base,J.hok,rv,q⟩
def Z5 {a b n:Nat}(h:a<n) (g:n<=b):a≠b:=wQ (wM h g)
section
variable {X:Cx}{pz:Ab}{σ:St}{H:Hp}{s:Shared}
theorem Inv.jn {q:Addr}{F:Obj}(I:Inv X pz σ H s) (U:(q,F)∈pz) (V:q+1=s.heap.objs.size):Jn (q+1) (λs'=>Inv X pz σ H s'):=by
 refine⟨λs' h' G J k=>J.kept k,λs' h' G a j J W _ _=>?_,λs' J=>?_⟩
 ·rw[V]at j
  refine J.turned (it:=a) (λb o Y e=>(W.2 b Y).trans e) (I.hok.fresh j) ?_ (.inr (wY I.sz j)) (λx c e=>?_) λp O=>?_
  ·exact(Z5 I.lt j).symm
  ·obtain⟨v,o,S,_⟩:=I.cell x c e
   exact Z5 (wA S) j
  ·exact Z5 (wA (I.pin p O).1) j
 ·exact wA (J.pin (q,F) (ww _ U)).1
theorem Inv.track {D:Addr}{o:HO}(I:Inv X pz σ H s) (S:X.s₀.heap.objs.size<=D) (U:H D=none) (G:D≠X.env.locals) (hC:∀x c,X.env.cells.lookup x=some c->c≠D) (O:∀p∈X.pn++pz,p.1≠D) (new:xD X.prog X.w (upd H D o) s.heap D o):Inv X pz σ (upd H D o) s:=by
 have ne:∀b u,X.s₀.heap.get? b=some u->b≠D:=λb u e=>Z5 (wA e) S
 have j:∀b u,H b=some u->upd H D o b=some u:=λb u e=>by rw[zK (zN e U)];exact e
 refine⟨I.ok,I.os,I.bare,⟨I.base.keep,I.base.slot,λb u e n W=>by rw[zK (ne b u e)];exact I.base.free b u e n W,I.base.there,λb xs e=>j _ _ (I.base.tups b xs e),λb u v e=>j _ _ (I.base.frzs b u v e),λb ps e=>let ⟨m,z⟩:=I.base.tbls b ps e;⟨m,j _ _ z⟩⟩,
  I.loc,I.cell,by rw[zK (Ne.symm G)];exact I.free,λx c e=>by rw[zK (hC x c e)];exact I.freeC x c e,λp m=>by obtain⟨Y,V,F⟩:=I.pin p m;exact⟨Y,by rw[zK (O p m)];exact V,F⟩,λb u e=>?_,I.len⟩
 by_cases hb:b=D
 ·subst hb;rw[zi]at e;cases e;exact new
 ·rw[zK hb]at e
  exact(I.hok b u e).stay (λ_ _ _ z=>z) (λc z=>j _ _ z) λc xs z=>j _ _ z
end
inductive Zp:List (Int×V)->List (Int×Value)->Prop where
 |nil:Zp [] []
 |cons {k:Int}{v:V}{u:Value}{l:List (Int×V)}{m:List (Int×Value)} (r:xz v u) (t:Zp l m):Zp ((k,v)::l) ((k,u)::m)
def zgn:∀{kz:Ak}{xs:Ba}{vs:Ac},xh xs vs->Zp (kz.zip xs) (kz.zip vs)
 |[],_,_,_=>by simp;exact .nil
 |_::_,_,_,.nil=>by simp;exact .nil
 |k::kz,_,_,.cons r t=>by rw[List.zip_cons_cons,List.zip_cons_cons];exact .cons r (zgn t)
def zid {G I:List (Int×Value)} (p:G.Perm I):∀{j:List (Int×V)},Zp j I->∃F,F.Perm j/\Zp F G:=by
 induction p with
 |nil=>intro j h;cases h;exact⟨[],.refl _,.nil⟩
 |cons x p ih=>intro j h;cases h with | cons r t=>obtain⟨F,a,b⟩:=ih t;exact⟨_,a.cons _,.cons r b⟩
 |swap x y l=>intro j h;cases h with | cons r t=>cases t with | cons U O=>exact⟨_,List.Perm.swap ..,.cons U (.cons r O)⟩
 |trans p1 p2 ih1 ih2=>intro j h;obtain⟨F,a,b⟩:=ih2 h;obtain⟨S,c,d⟩:=ih1 b;exact⟨S,c.trans a,d⟩
def zmt {m:List (Int×V)}{l:List (Int×Value)} (h:Zp m l) (p:l.Pairwise λa b=>a.1<=b.1):m.Pairwise λa b=>a.1<=b.1:=by
 have e:∀{m:List (Int×V)}{l:List (Int×Value)},Zp m l->m.map Prod.fst=l.map Prod.fst:=λh=>by
  induction h with
  |nil=>rfl
  |cons r t ih=>simp[ih]
 have j:(l.map Prod.fst).Pairwise (·<=·):=yi.mpr p
 rw[<-e h]at j
 exact yi.mp j
def zkN {m:List (Int×V)}{l:List (Int×Value)} (h:Zp m l):xh (m.map Prod.snd) (l.map Prod.snd):=by
 induction h with
 |nil=>exact .nil
 |cons r t ih=>exact .cons r ih
def zei (kz:Ak) (xs ys:Ba):Prop:=∃ps:List (Int×V),ps.Perm (kz.zip xs)/\ys=ps.map Prod.snd/\ps.Pairwise λa b=>a.1<=b.1
section
variable {X:Cx}{pz:Ab}{σ:St}{H:Hp}{s:Shared}
theorem zb9 {l q c':Addr}{name qual x:Str}{j:Arguments}{body:Expr}{scope:Scope}{pm a4:Value}{N:Ad}{xs:Ba}{kz:Ak}{Qv:Af}{φ:Heap->Prop}(I:Inv X pz σ H s) (hq:(q,PySem.W.kla_obj name qual j body scope [] pm c' a4)∈pz) (hs:q+1=s.heap.objs.size)
  (hc:H c'=some (.ext φ)) (hφ:∀h,φ h->h.CodeRec (.ref c') qual) (hr:xf 3 X.A) (S:zF N [x] scope) (hb:∀v,bindArgs (PySem.W.kla_fn name qual j body scope [] pm (.ref c') a4) ⟨[v],[]⟩=pure [(x,v)])
  (hl:SqL X.K H l xs) (G:kz.length=xs.length) (b3:xs.length<64)
  (ht:∀(i:Nat) (v:V) (k:Int),xs[i]?=some v->kz[i]?=some k->∀s':Shared,∃t,PE (xi CX0 X.prog X.w X.K X.mg X.base N qual scope q (.ref c') X.A.in1.in1 X.stack s' H (λ_ _ _=>False)) body t/\t (qJ N [v]) H (λu H'=>u=.int k/\H'=H))
  (h:∀D ys s',H D=none->zei kz xs ys->Inv X pz σ (upd H D (.lst ys)) s'->Qv (.ref D) s') :
  wpAny (model X.prog X.w) X.A (call (.builtin "sorted") [.ref l] [(Str.ofString "key",.ref q)]) Qv X.xe s:=by
 obtain⟨b0,rv,pl,hz⟩:=I.list hl
 have a9:xs.length=b0.length:=rv.length
 have a7:xf 1 X.A.in1.in1:=(hr.in1).in1
 refine zd8 (U:=I.jn hq hs) I pl.isList (by rw[G,a9]) ∅ (λi v k ev ek s' J=>?_) λD s' a8 c Y J hD ko=>?_
 ·have hi:i<xs.length:=by have:=(wn.mp ek).1;lia
  obtain⟨u,eu⟩:∃u,xs[i]?=some u:=⟨_,wj hi⟩
  obtain⟨t,hp,a5⟩:=ht i u k eu ek s'
  have ru:xz u v:=by
   obtain⟨v',e',r'⟩:=xh.get rv eu
   rw[ev]at e';cases e';exact r'
  have e0:=(J.env0.in1).in1
  refine WQ (codeAny_mono (zgO (k:=0) (E:=λ_ _ _=>False) a7 e0 (J.pin _ (ww _ hq)).1 (hφ _ (J.hok c' _ hc).1) (us:=[v]) S (hb v) rL (.cons ru .nil) hp a5) λr b2 F=>?_)
  cases r with
  |error e=>exact False.elim F
  |ok fl =>
   cases fl with
   |next=>exact False.elim F
   |brk=>exact False.elim F
   |cont=>exact False.elim F
   |ret w' =>
    have a1:CE X.stack X.prog X.w H s' (λu H'=>u=.int k/\H'=H) w' b2:=F
    obtain⟨v1,H1,J1,r1,e1,e2⟩:=J.after a1
    subst e1;subst e2
    obtain⟨t',rfl⟩:=(show ∃t',w'=Value.int k t' from r1)
    refine⟨t',rL,J1,λb o gb e=>?_⟩
    obtain⟨_,H2,_,_,un,_,_,_,rfl⟩:=a1
    have O:s.heap.objs.size<=b:=wY (W5 hs.symm) gb
    have nb:H2 b=none:=I.hok.fresh O
    refine un.keep b o e nb (λz=>?_) (by simp)
    rcases wy.mp (I.stkSub b z)with rfl | z
    ·exact(Z5 I.lt O) rL
    ·exact I.nofs O z
 ·rw[hs]at Y
  obtain⟨ps,hp,ho,a6⟩:=ko
  obtain⟨ms,hm,a2⟩:=zid hp (zgn rv)
  have a3:ms.Pairwise λa b=>a.1<=b.1:=zmt a2 ↥a6
  have hv:=zkN a2
  rw[<-ho]at hv
  have b1:(ms.map Prod.snd).length=xs.length:=by rw[wk,hm.length_eq,uA,G,Yw]
  refine h D (ms.map Prod.snd) s' (I.hok.fresh Y) ⟨ms,hm,rL,a3⟩ (J.track (wY I.sz Y) (I.hok.fresh Y) ?_ (λx c e=>?_) (λp hp=>?_) ?_)
  ·exact(Z5 I.lt Y).symm
  ·obtain⟨v,o,ho,_⟩:=I.cell x c e
   exact Z5 (wA ho) Y
  ·exact Z5 (wA (I.pin p hp).1) Y
  ·refine⟨by rw[b1];exact hz,a8.toList,c,hv,?_⟩
   rw[hD]
end
def Xo:∀{l:Ac},TriplesOk l->∀{m:Ac},TriplesOk m->TriplesOk (l++m)
 |[],_,_,h=>h
 |.int _ _::.int _ _::_::rest,h,m,k=>Xo (l:=rest) h k
abbrev cdX (qual:Str) (c':Addr):HO:=.ext λh=>h.CodeRec (.ref c') qual
def va (P:Addr) (qual:Str) (pos:Pos) (H:Hp):Prop:=∃ps:Ae,H P=some (.tbl ps)/\TriplesOk ps.toList/\(codeAmong pos ps.toList=none\/∃c',codeAmong pos ps.toList=some (.ref c')/\H c'=some (cdX qual c'))
def StT (P:Addr) (H H':Hp):Prop:=∀b o,H b=some o->b≠P->H' b=some o
def StT.refl {P:Addr}{H:Hp}:StT P H H:=λ_ _ e _=>e
def StT.trans {P:Addr}{H H1 H2:Hp}(a:StT P H H1) (b:StT P H1 H2):StT P H H2:=λc o e n=>b c o (a c o e n) n
def StT.of {P:Addr}{H H':Hp}(h:zk H H'):StT P H H':=λb o e _=>h b o e
def va.same {P:Addr}{qual:Str}{pos:Pos}{H H':Hp}(T:va P qual pos H) (e:zk H H'):va P qual pos H':=by
 obtain⟨ps,h1,h2,j⟩:=T
 refine⟨ps,e _ _ h1,h2,?_⟩
 rcases j with j | ⟨F,j,G⟩
 ·exact .inl j
 ·exact .inr ⟨F,j,e _ _ G⟩
def zaP {qual:Str}{j:Addr}{h1 h2:Heap}(x:h1.CodeRec (.ref j) qual) (k:∀o,h1.get? j=some o->h2.get? j=some o):h2.CodeRec (.ref j) qual:=by
 obtain⟨c,o,vs,t,e,g,r⟩:=x
 cases e
 exact⟨j,o,vs,t,rL,k _ g,r⟩
def zbI {P:Program}{w:World}{H:Hp}{h:Heap}{qual:Str}{j:Addr}(x:h.CodeRec (.ref j) qual):xD P w H h j (cdX qual j):=by
 refine⟨x,?_,λh1 h2 a b=>zaP a b⟩
 obtain⟨c,o,vs,t,e,g,r⟩:=x
 cases e
 exact⟨o,g⟩
section
variable {X:Cx}{pz:Ab}{σ:St}{H:Hp}{s:Shared}
theorem Inv.pin1 {q:Addr}{F:Obj}(I:Inv X pz σ H s) (h1:s.heap.get? q=some F) (h2:H q=none) (O:q≠X.env.locals) (S:q∉X.fs) (G:∀v,F.data≠.cell v):Inv X (pz++[(q,F)]) σ H s :=
 I.pins_of λp j=>by
  rcases wK.mp j with j | j
  ·exact I.pin p (ww _ j)
  ·rw[wO.mp j];exact⟨h1,h2,O,S,G⟩
theorem zeW {P c:Addr}{qual:Str}{j:Arguments}{body:Expr}{scope:Scope}{pos:Pos}{Qv:Af}{E:Af}(I:Inv X pz σ H s) (c0:X.env.globals=mainGlobals) (S:X.env.code=.ref c) (hC:PySem.W.codeHdIn X.K c P=true)
  (b8:closureFor scope X.env=pure []) (b0:defaultsOf j X.env=([],[])) (hB:X.base.BuiltinsAt X.mg P) (c2:X.env.qual++"<lambda>" = qual) (T:va P qual pos H)
  (h:∀q F G s' H',va P qual pos H'->StT P H H'->H' F=some (cdX qual F)->Inv X (pz++[(q,PySem.W.kla_obj "<lambda>" qual j body scope [] ((X.mg "__name__").getD .none) F G)]) σ H' s'->q+1=s'.heap.objs.size->Qv (.ref q) s') :
  wpAny (model X.prog X.w) X.A (eval (.Lambda j body scope pos) X.env) Qv E s:=by
 obtain⟨ps,V,tr,a4⟩:=T
 have hP:s.heap.get? P=some (PySem.W.tabObj ps):=I.hok P _ V
 have hG:s.heap.Ns mainGlobals X.mg:=I.mod.glob.keeps I.bk
 have CH:=PySem.W.codeHd_of_K I.kIn hC
 have c3:mainGlobals≠P:=λz=>by
  obtain⟨o,es,ep,e,_⟩:=I.mod.glob
  have:=(I.bs _ _ e).2
  rw[z,V]at this;cases this
 have a7:s.heap.BuiltinsAt X.mg P:=by
  obtain⟨bm,o,b1,b2,b3,b4,b5,b6⟩:=hB
  exact⟨bm,o,b1,b2,b3,b4,I.bk _ _ b5,b6⟩
 refine PySem.W.kla_eval b0 ?_
 rw[c2]
 rcases a4 with a8 | ⟨F,hf,a9⟩
 ·refine PySem.W.kla_makeFunction (mg:=X.mg) b8 c0 hG S CH hP tr a8 c3 a7 λF G h' tk hx U b9 a5 a6=>?_
  have a1:s.heap.objs.size<=h'.objs.size:=wY U (W3 b9)
  have a3:H F=none:=I.hok.fresh U
  have b7:F≠P:=λz=>by rw[z,V]at a3;cases a3
  have kf:∀b o,b≠P->s.heap.get? b=some o->(h'.push (PySem.W.kla_obj "<lambda>" qual j body scope [] ((X.mg "__name__").getD .none) F G)).get? b=some o:=λb o n e=>wg _ (hx b o n e)
  have Y:∀b,H b=none->b≠P:=λb e z=>by rw[z,V]at e;cases e
  have c1:∀b o,s.heap.get? b=some o->b≠F:=λb o e=>Z5 (wA e) U
  have O:∀b o,H b=some o->b≠P->upd (upd H P (.tbl (ps++#[rawInt pos.line,rawInt pos.col,.ref F]))) F (cdX qual F) b=some o:=λb o e n=>by
   rw[zK (zN e a3),zK n];exact e
  have J:Inv X pz σ (upd (upd H P (.tbl (ps++#[rawInt pos.line,rawInt pos.col,.ref F]))) F (cdX qual F)) { s with heap:=h'.push (PySem.W.kla_obj "<lambda>" qual j body scope [] ((X.mg "__name__").getD .none) F G),toks:=tk }:=by
   refine I.step (g':=s.gens) (d':=s.drawn) (ch:=[]) (λ_ z=>nomatch z) (λb o _ _ _ e n=>kf b o (Y b n) e) (λb o _ _ _ e n=>⟨o.slots,kf b o (Y b n) e⟩) (λb o _ e n=>by rw[zK (c1 b o e),zK (Y b n)];exact n) (λb o _ e=>?_) (λb xs e=>O _ _ e λz=>by rw[z,V]at e;cases e) (λb o u e=>O _ _ e λz=>by rw[z,V]at e;cases e) (λb qs e=>?_) (λm hm=>?_) (λb u e=>?_) I.bare
   ·by_cases z:b=P
    ·subst z;exact⟨_,wg _ a6⟩
    ·exact⟨o,kf b o z e⟩
   ·by_cases z:b=P
    ·subst z
     rw[V]at e;cases e
     exact⟨#[rawInt pos.line,rawInt pos.col,.ref F],by rw[zK b7.symm,zi]⟩
    ·exact⟨#[],by rw[O _ _ e z];simp⟩
   ·obtain⟨o,es,ep,ho,r⟩:=hm
    exact⟨o,es,ep,kf _ o (Y _ I.free) ho,r⟩
   ·by_cases zc:b=F
    ·subst zc
     rw[zi]at e;cases e
     exact zbI (a5.push _)
    ·rw[zK zc]at e
     by_cases zp:b=P
     ·subst zp
      rw[zi]at e;cases e
      exact wg _ a6
     ·rw[zK zp]at e
      refine(I.hok b u e).stay (λd v hd ev=>kf d v ?_ ev) (λd ed=>O _ _ ed λz=>by rw[z,V]at ed;cases ed) λd xs ed=>O _ _ ed λz=>by rw[z,V]at ed;cases ed
      rcases hd with rfl | hd
      ·exact zp
      ·intro z;rw[z,V]at hd;cases hd
  refine h h'.objs.size F G _ _ ⟨_,by rw[zK b7.symm,zi],?_,.inr ⟨F,?_,zi⟩⟩ (λb o e n=>O b o e n) zi (J.pin1 (wD _ rfl) ?_ (Z5 I.lt a1).symm (I.nofs a1) (λv=>by intro z;cases z)) (by rw[yI])
  ·rw[Array.toList_append]
   exact Xo tr (show TriplesOk [rawInt pos.line,rawInt pos.col,.ref F]from trivial)
  ·rw[Array.toList_append]
   exact codeAmong_snoc _ tr a8
  ·rw[zK (Wg b9),zK (Y _ (I.hok.fresh a1))];exact I.hok.fresh a1
 ·refine PySem.W.kla_makeFunctionHit (mg:=X.mg) b8 c0 hG S CH hP tr hf a7 λG h' tk hk a2=>?_
  have J:Inv X pz σ H { s with heap:=h'.push (PySem.W.kla_obj "<lambda>" qual j body scope [] ((X.mg "__name__").getD .none) F G),toks:=tk }:=I.kept λb o e=>wg _ (hk b o e)
  exact h h'.objs.size F G _ _ ⟨ps,V,tr,.inr ⟨F,hf,a9⟩⟩ StT.refl a9 (J.pin1 (wD _ rfl) (I.hok.fresh a2) (Z5 I.lt a2).symm (I.nofs a2) (λv=>by intro z;cases z)) (by rw[yI])
end
section
variable {X:Cx}{te to ta tc:TE}{p2 pos kpos p:Pos}
def zjd (to:TE) (tl th:TO):TG:=λv σ H Q=>to σ H λx H1=>tl σ H1 λi H2=>th σ H2 λj H3=>∃l b xs ys a c,x=.ref l/\v=.ref b/\i=some a/\j=some c/\H3 l=some (.lst xs)/\H3 b=some (.lst ys)/\l≠b/\0<=a/\a<=c/\c<=(xs.length:Int)/\xs.length+ys.length<=sizeLine ∧
 Q σ (upd H3 l (.lst (xs.take a.toNat++ys++xs.drop c.toNat)))
theorem zfm {o:Expr}{lo hi:Option Expr}{tl th:TO}(ho:PE X o to) (hl:PO X lo tl) (hh:PO X hi th)
  (ha:∀v,assign (.Subscript o (.Slice lo hi none p2) pos) X.env v=(do
   let j <-holding [v] (eval o X.env)
   let G <-holding [v,j] (eval (.Slice lo hi none p2) X.env)
   standAt pos
   holding [v,j,G] (setItem j G v)
   release [G,v,j] []):=by intro _;rfl):PG X (.Subscript o (.Slice lo hi none p2) pos) (zjd to tl th):=by
 intro pz s σ H v u Q I r h
 rw[ha]
 refine wc (yr (thn (ho pz s σ H _ I h) λj s1 ⟨x,H1,I1,r1,q1⟩=>?_))
 refine wc (yr (wpAny_Slice (thn (hl pz s1 σ H1 _ I1 q1) λY O ⟨l,H2,I2,pl,q2⟩=>thn (hh pz O σ H2 _ I2 q2) λU F ⟨u',H3,S,pu,q3⟩=>?_)))
 rw[evalPart_none]
 refine wu ?_
 obtain⟨l',b,xs,ys,a,c,rfl,rfl,rfl,rfl,h1,h2,h3,V,W,h6,h7,q⟩:=q3
 cases r
 cases r1
 have I4:Inv X pz σ H3 { F with heap:=F.heap.push { cls:=.type "slice",data:=.fields #[Y,U,.none] } }:=S.kept (t':=F.toks) λb ob q=>wg _ q
 refine wc (uH (wc (yr (zd6 I4 h1 h2 h3 (Heap.IsSliceOf.new ..) (by cases pl;exact⟨_,rfl⟩) (by cases pu;exact⟨_,rfl⟩) V W h6 h7 λs' I'=>?_))))
 exact wpAny_release ⟨σ,_,I',q⟩
inductive zdl (P:Addr) (qual:Str) (lpos:Pos) (N:Ad) (tb:TE) (Q:VK) (vs:Ba) (H1:Hp):Prop
 |mk:∀l xs kz,(vs=[.ref l])->(H1 l=some (.lst xs))->(va P qual lpos H1)->(kz.length=xs.length)->(xs.length<64)->((∀(i:Nat) (v:V) (k:Int),xs[i]?=some v->kz[i]?=some k->∀H2,StT P H1 H2->tb (qJ N [v]) H2 (λu H'=>u=.int k/\H'=H2)))->(∀D ys H2,StT P H1 H2->va P qual lpos H2->H2 D=none->zei kz xs ys->Q (.ref D) (upd H2 D (.lst ys)))->zdl P qual lpos N tb Q vs H1
def zkF (P:Addr) (qual:Str) (lpos:Pos) (N:Ad) (ta:TA) (tb:TE):TE:=λσ H Q=>ta σ H λvs H1=>zdl P qual lpos N tb Q vs H1
theorem zfl {e body:Expr}{j:Arguments}{scope:Scope}{F:Pos}{P c:Addr}{x qual:Str}{N:Ad}{ta:TA}{tb:TE}(a7:X.env.globals=mainGlobals) (O:X.env.code=.ref c) (hC:PySem.W.codeHdIn X.K c P=true)
  (a6:closureFor scope X.env=pure []) (Y:defaultsOf j X.env=([],[])) (hB:X.base.BuiltinsAt X.mg P) (a2:X.env.qual++"<lambda>" = qual) (hr:xf 3 X.A) (S:zF N [x] scope)
  (hb:∀(pm cd V v:Value),bindArgs (PySem.W.kla_fn "<lambda>" qual j body scope [] pm cd V) ⟨[v],[]⟩=pure [(x,v)])
  (hg:Gl X "sorted") (hm:X.mg "sorted" = none) (ha:PA X [e] ta)
  (a4:∀(q c':Addr) (s':Shared) (H':Hp),PE (xi CX0 X.prog X.w X.K X.mg X.base N qual scope q (.ref c') X.A.in1.in1 X.stack s' H' (λ_ _ _=>False)) body tb)
  (U:backTo pos (starEach [e] X.env)=(false,eval e X.env)::backTo pos (starEach [] X.env):=by rfl) :
  PE X (.Call (.Name "sorted" p) [e] [⟨some "key",.Lambda j body scope F,kpos⟩] pos) (zkF P qual F N ta tb):=by
 intro pz s σ H Q I h
 refine ue (Z0 I hg hm boot_sorted ?_ ⇑1 ⇑1)
 refine callWith_kw ?_ U (by rw[U];rfl) rfl rfl
 refine thn (ha pos pz s σ H _ I h) λus s1 ⟨vs,H1,I1,r1,q1⟩=>?_
 obtain⟨l,xs,kz,rfl,h1,h2,h3,h4,h5,h6⟩:=q1
 obtain⟨u,rfl,ru⟩:=Xz r1
 cases ru
 have a3:l≠P:=λz=>by
  obtain⟨ps,e,_⟩:=h2
  rw[<-z,h1]at e;cases e
 refine kws_cons (zeW I1 a7 O hC a6 Y hB a2 h2 λq c' V s' H' T' G a5 J hq=>kws_nil ?_)
 show wpAny (model X.prog X.w) X.A (call (.builtin "sorted") [.ref l] [(Str.ofString "key",.ref q)]) _ _ s'
 refine zb9 (φ:=λh=>h.CodeRec (.ref c') qual) J (ww _ (wO.mpr rL)) hq a5 (λ_ z=>z) hr S (hb _ _ _) (SqL.of (G l _ h1 a3)) h3 h4 (λi v k ev ek a1=>⟨tb,a4 q c' a1 H',h5 i v k ev ek H' G⟩) λD ys a1 hD hK J'=>?_
 exact⟨.ref D,_,J'.unpinned,rL,h6 D ys H' G T' hD hK⟩
end
def zdP {P:Program}{w:World}{K:Fg}{mg mb:Aa}{CX:CXT}{k:Nat}{fa a Tb c:Addr}{fd:FuncData}{x:Str}{sp:Sp}{j:Shared}{vs:Ac}{ns:Ak}
  (KX:K.In j.heap) (a5:j.heap.Ns mainGlobals mg) (O:j.heap.Ns builtinsNs mb) (c0:∀x:Str,x≠"__name__"->mb x=bootBuiltins x) (b7:j.heap.NoLimit) (hg:j.gens = #[])
  (b8:∃bm ob,mg "__builtins__" = some (.ref bm)/\bm≠builtinsNs/\j.heap.get? bm=some ob/\ob.cls=.type "module"/\ob.dict=some builtinsNs/\ob.data=.plain)
  (S:j.heap.get? Tb=some (PySem.W.tabObj #[])) (hKT:K.lookup Tb=none) (hC:PySem.W.codeHdIn K c Tb=true)
  (ha:j.heap.get? a=some { cls:=.type "list",data:=.seq vs.toArray }) (hi:IntsAre vs ns) (hl:ns.length<=sizeLine) (hr:xf k callerA)
  (F:∀base:Heap,K.In base->base.Ns mainGlobals mg->base.BuiltinsAt mg Tb->vC P w K mg base CX k fa fd [x] sp) (a4:∀(s:Shared) (u:Value),BindsTo s fd ⟨[u],[]⟩ [(x,u)])
  (b9:∀H:Hp,H Tb=some (.tbl #[])->SqL K H a (ns.map V.int)->sp [.ref a] H (λv _=>v=.bl true) λ_ _ _=>False)
  (c1:∀H e s',CX [] H j (λ_ _ _=>False) e s'->False) :
  codeAny (model P w) callerA (.call (.ref fa) ⟨[.ref a],[]⟩) (λr s'=>r=.ok (.ret (.bool true))/\OldK j.heap s'.heap/\s'.os=j.os/\AllBare s'.gens) j:=by
 have rv:=JT hi
 have a7:=hi.length
 have a8:a≠Tb:=λz=>by rw[z,S]at ha;cases ha
 have a2:∀H:Hp,H Tb=some (.tbl #[])->SqL K H a (ns.map V.int)->HOk P w H j.heap->(∀b,b≠Tb->H b=none\/(b=a/\∃o xs,H b=some (.frz o (.lst xs))))->(H a≠none->K.lookup a=none) →
   codeAny (model P w) callerA (.call (.ref fa) ⟨[.ref a],[]⟩) (λr s'=>r=.ok (.ret (.bool true))/\OldK j.heap s'.heap/\s'.os=j.os/\AllBare s'.gens) j:=by
  intro H hT hS hok hO hK
  have I:∀{b:Addr}{o:Obj},j.heap.get? b=some o->H b=none->(Jj j.heap H).get? b=some o:=λe n=>zeP e n
  have b0:∀{b:Addr}{o:Obj},j.heap.get? b=some o->(∀xs n,o.data≠.seq xs n)->(∀xs,o.data≠.fields xs)->H b=none:=λ{b o} e d1 d2=>by
   by_cases G:b=Tb
   ·subst G;rw[S]at e;cases e;exact absurd rfl (d2 #[])
   ·rcases hO b G with z | ⟨rfl,_⟩
    ·exact z
    ·rw[ha]at e;cases e;exact absurd rfl (d1 _ _)
  have U:∀{b:Addr}{m:Aa},j.heap.Ns b m->(Jj j.heap H).Ns b m:=λ{b m} ⟨o,es,ep,e,d,r⟩=>⟨o,es,ep,I e (b0 e (λ_ _ z=>by rw[d]at z;cases z) λ_ z=>by rw[d]at z;cases z),d,r⟩
  have a9:K.In (Jj j.heap H):=λb o e=>I (KX b o e) (by
   by_cases G:b=Tb
   ·subst G;rw[hKT]at e;cases e
   ·rcases hO b G with z | ⟨rfl,o',xs,z⟩
    ·exact z
    ·rw[hK (by rw[z];simp)]at e;cases e)
  have hM:Mod K mg (Jj j.heap H):=⟨a9,U a5,⟨mb,U O,c0⟩,let ⟨mc,h1,h2⟩:=b7;⟨mc,U h1,h2⟩⟩
  have c2:(Jj j.heap H).BuiltinsAt mg Tb:=by
   obtain⟨bm,ob,b1,b2,b3,b4,b5,b6⟩:=b8
   refine⟨bm,ob,b1,b2,λz=>?_,λz=>?_,I b3 (b0 b3 (λ_ _ z=>by rw[b6]at z;cases z) λ_ z=>by rw[b6]at z;cases z),b4,b5,b6⟩
   ·obtain⟨o,es,ep,e,d,_⟩:=a5
    rw[z,e]at b3;cases b3;rw[d]at b6;cases b6
   ·rw[z,S]at b3;cases b3;cases b4
  have e0:Vs P w K mg (Jj j.heap H) callerA [] j H:=⟨rfl,hM,λb o e=>zgX e,W5 (zdJ _ _),trivial,λb O=>absurd (show b∈([]:List Addr)from O) (by simp),hok,.of_eq hg⟩
  refine codeAny_mono ((F _ a9 (U a5) c2).run callerA [] j H ⟨[.ref a],[]⟩ [.ref a] [.ref a] _ _ hr e0 (a4 j (.ref a)) (.cons rL .nil) (b9 H hT hS)) λr s' h=>?_
  cases r with
  |error e=>exact(c1 H e s' h).elim
  |ok fl =>
   cases fl with
   |next=>exact False.elim h
   |brk=>exact False.elim h
   |cont=>exact False.elim h
   |ret u =>
    obtain⟨v,H',os,bare,un,a3,r',q⟩:=h
    have q':v=.bl true:=q
    subst q'
    obtain rfl:u=Value.bool true:=r'
    have a6:∀b o,b≠Tb->j.heap.get? b=some o->s'.heap.get? b=some o:=λb o G e=>by
     rcases hO b G with z | ⟨_,ob,xs,z⟩
     ·exact un.keep b o e z (by intro z;exact absurd (show b∈([]:List Addr)from z) (by simp)) (by simp)
     ·have z2:=un.frzs b ob _ z
      obtain⟨e1,_⟩:=hok b _ z
      obtain⟨e2,_⟩:=a3 b _ z2
      rw[e]at e1;cases e1
      exact e2
    obtain⟨a1,eT⟩:=un.tbls Tb #[] hT
    have gT:s'.heap.get? Tb=some (PySem.W.tabObj (#[]++a1)):=a3 Tb _ eT
    refine⟨rL,⟨λb o e=>?_,λb o e=>?_⟩,os,bare⟩
    ·by_cases G:b=Tb
     ·subst G
      rw[S]at e;cases e
      exact .inr (.inl ⟨((PySem.W.codeHd_of_K KX hC).tab S).isCodeTable,rL,#[],a1,rL,gT⟩)
     ·exact .inl (a6 b o G e)
    ·by_cases G:b=Tb
     ·subst G;exact⟨_,gT⟩
     ·exact⟨o,a6 b o G e⟩
 cases hk:K.lookup a with
 |some o =>
  have e:=KX a o hk
  rw[ha]at e
  cases e
  refine a2 (λb=>if b=Tb then some (.tbl #[])else none) (if_pos rfl) (.inr ⟨_,vs.toArray,_,hk,rfl,rfl,rfl,by rw[wz,a7];exact hl,↥rv⟩) (λb u z=>?_) (λb O=>.inl (if_neg O)) λz=>absurd (if_neg a8) z
  by_cases O:b=Tb
  ·have Y:=(if_pos O).symm.trans z
   cases Y
   subst O
   exact S
  ·have Y:=(if_neg O).symm.trans z
   cases Y
 |none =>
  refine a2 (λb=>if b=Tb then some (.tbl #[])else if b=a then some (.frz { cls:=.type "list",data:=.seq vs.toArray } (.lst (ns.map V.int)))else none) (if_pos rfl) (.inl (.inr ⟨{ cls:=.type "list",data:=.seq vs.toArray },by show (if a=Tb then _ else _)=_;rw[if_neg a8,if_pos rfl]⟩)) (λb u z=>?_) (λb O=>?_) λ_=>hk
  ·by_cases O:b=Tb
   ·have Y:=(if_pos O).symm.trans z
    cases Y
    subst O
    exact S
   ·have z1:=(if_neg O).symm.trans z
    by_cases hb2:b=a
    ·have Y:=(if_pos hb2).symm.trans z1
     cases Y
     subst hb2
     exact⟨ha,by rw[wk];exact hl,vs,_,rv,ha⟩
    ·have Y:=(if_neg hb2).symm.trans z1
     cases Y
  ·by_cases hb2:b=a
   ·exact .inr ⟨hb2,_,_,by show (if b=Tb then _ else _)=_;rw[if_neg O,if_pos hb2]⟩
   ·exact .inl (by show (if b=Tb then _ else _)=_;rw[if_neg O,if_neg hb2])
def zgg {l:PySem.W.OpenLaw}{n k:Nat}{q:Program}{O:Ad}{XP:(Aa)->Heap->Prop}{YP:World->Heap->Prop}{d:DefRec}{K:Params->Fg}{CX:World->CXT}{sp:World->Sp}{x:Str}{Tb c:Addr}
  (hn:l.most=some n) (a5:n<=sizeLine) (a1:d.params.defaults=[]) (hr:xf k callerA)
  (hY:∀(w:World) (h:Heap),YP w h->(K w.params).In h/\h.get? Tb=some (PySem.W.tabObj #[])) (hKT:∀w:World,(K w.params).lookup Tb=none) (hC:∀w:World,PySem.W.codeHdIn (K w.params) c Tb=true)
  (F:∀(w:World) (mg:Aa) (fa:Addr) (h:Heap),(K w.params).In h->h.Ns mainGlobals mg->mg d.name=some (.ref fa) →
   ∃fd:FuncData,(∀(s:Shared) (u:Value),BindsTo s fd ⟨[u],[]⟩ [(x,u)]) ∧
    ∀base:Heap,(K w.params).In base->base.Ns mainGlobals mg->base.BuiltinsAt mg Tb->vC l.prog w (K w.params) mg base (CX w) k fa fd [x] (sp w))
  (a2:∀(w:World) (H:Hp) (a:Addr) (U:Ak),U.length<=n->H Tb=some (.tbl #[])->SqL (K w.params) H a (U.map V.int)->sp w [.ref a] H (λv _=>v=.bl true) λ_ _ _=>False)
  (a4:∀(w:World) (H:Hp) (s:Shared) (e:Value) (s':Shared),CX w [] H s (λ_ _ _=>False) e s'->False) :
  PySem.W.WalkO q O XP YP l.row.toRowW d [] (λf vs=>PySem.call f vs):=by
 refine Att.attach_call hn a1 λw s₀ s₁ mg mb fa o pm cd a7 a vs U G Y ho hd a6 a3 S I j hg=>?_
 obtain⟨KX,hT⟩:=hY w _ Y
 obtain⟨fd,hb,hF⟩:=F w mg fa _ KX G.T.g a3
 exact zdP KX G.T.g G.T.b G.T.builtins G.T.nolimit hg G.T.bmain hT (hKT w) (hC w) S I (wY j a5) hr hF hb (λH hO hS=>a2 w H a U j hO hS) λH e s'=>a4 w H s₁ e s'
section
variable {prog:Program}{w:World}{A:Around}{E:Af}{s:Shared}
theorem zaZ {h h':Heap}{l a:Addr}{items:Ae}(G:h.IsList l items) (F:Heap.ExtBut a h h') (n:l≠a):h'.IsList l items:=by
 obtain⟨o,j,r⟩:=G
 exact⟨o,F l o n j,r⟩
theorem VA {it l:Addr}{items:Ae}(G:l≠it):∀(n i:Nat) (s:Shared) (Q:Ac->Shared->Prop),s.heap.IsListIter it l i->s.heap.IsList l items->i+n<=items.size →
  (∀h',h'.IsListIter it l (i+n)->Heap.SameBut it s.heap h'->Q ((items.toList.drop i).take n) { s with heap:=h' })->wpAny (model prog w) A (draw (.ref it) n) Q E s
 |0,i,s,Q,hit,_,_,hQ=>by
  show wpAny _ _ (pure []) Q E s
  exact wu (by simpa using hQ s.heap hit (Heap.SameBut.refl ..))
 |n+1,i,s,Q,hit,ht,hle,hQ=>by
  have F:i<items.size:=by lia
  show wpAny _ _ (pyNext (.ref it) >>= _) Q E s
  refine wc (wpAny_pyNext_list_item hit ht (x:=items[i]) (by simp[F]) λV I j=>?_)
  refine wc (yr (VA G n (i+1) _ _ I (zaZ ht j.extBut G) ∅ λU O S=>wu ?_))
  have hd:items.toList.drop i=items[i]::items.toList.drop (i+1):=by simp[yj,F]
  have:=hQ U (by rw[show i+(n+1)=i+1+n by lia];exact O) (j.trans S)
  rw[hd,uE]at this
  exact this
theorem Qm {l:Addr}{items:Ae}{Q:Ac->Shared->Prop}(hh:A.handled=none) (O:s.heap.IsList l items)
  (hQ:∀h',Heap.ExtBut s.heap.objs.size s.heap h'->Q items.toList { s with heap:=h' }):wpAny (model prog w) A (unpackItems (.ref l) items.size none) Q E s:=by
 have j:l≠s.heap.objs.size:=by obtain⟨o,U,_⟩:=O;exact wQ (wA U)
 have W:(s.heap.push { cls:=.type "list_iterator",data:=.fields #[.ref l,.int 0 0] }).IsList l items:=by
  obtain⟨o,U,r⟩:=O;exact⟨o,wg _ U,r⟩
 unfold unpackItems
 refine wc ?_
 unfold notIterableAtAll
 refine wc (YB O.typeIs slot_list_iter.lookup ?_)
 refine wu ?_
 simp only[ut,if_false]
 refine wc (yr (WD O ?_))
 refine wc (yr (VA j items.size 0 _ _ ⟨_,wD _ rL,rL,rL⟩ W ∅ λh₁ I F=>?_))
 have G:List.take items.size (List.drop 0 items.toList)=items.toList:=by
  rw[List.drop_zero];exact wH (by simp)
 rw[G]
 rw[if_neg (by simp)]
 have S:h₁.IsList l items:=zaZ W F.extBut j
 refine wc (yr (wpAny_pyNext_list_end hh I S (by simp) λh₂ V=>?_))
 simp only[Option.isSome_none,ut,if_false]
 refine wu (hQ h₂ λb o Y e=>V b o Y (F.extBut b o Y (wg _ e)))
end
section
variable {X:Cx}{pos:Pos}
def zk3 (K:Fg) (n:Nat) (t:TGs):TG:=λv σ H Q=>∃a xs,v=.ref a/\SqL K H a xs/\xs.length=n/\t xs σ H Q
theorem zcR {es:Ag}{k:Nat}{t:TGs}{n:Nat}(hc:X.calm=true) (h:PGs X es t)
  (Y:(assignEach es X.env).length=n:=by rfl) (G:(assignEach es X.env).findIdx? (·.1)=none:=by rfl):PG X (.Tuple es k pos) (zk3 X.K n t):=by
 intro pz s σ H v u Q I r hw
 obtain⟨a,xs,e1,V,U,hw⟩:=hw
 subst e1
 cases r
 obtain⟨j,O,S,hz⟩:=I.list V
 rw[assign_Tuple]
 refine wc (uH ?_)
 unfold unpack
 have F:(assignEach es X.env).length=j.toArray.size:=by simp[Y,<-U,O.length]
 rw[F,G]
 refine wc (yr (Qm (I.ok.hd hc) S.isList λh' hx=>?_))
 have W:Inv X pz σ H { s with heap:=h' }:=I.kept (t':=s.toks) λb o e=>hx b o (wQ (wA e)) e
 exact h pz _ σ H xs _ Q W ↥O hw
end
section
variable {κ:Type} [DecidableEq κ]
def zaA (kvs:List (κ×V)) (k:κ):Bh:=(kvs.find? λkv=>decide (kv.1=k)).map (·.2)
def zbb (kvs:List (κ×V)) (k:κ) (v:V):List (κ×V) :=
 if(kvs.any λkv=>decide (kv.1=k))=true then kvs.map (λkv=>if kv.1=k then(kv.1,v)else kv)else kvs++[(k,v)]
theorem zbv {p:κ×V}{r:List (κ×V)}{k:κ}(e:p.1=k):zaA (p::r) k=some p.2:=by simp[zaA,uP,e]
theorem zbu {p:κ×V}{r:List (κ×V)}{k:κ}(e:¬p.1=k):zaA (p::r) k=zaA r k:=by simp[zaA,uP,e]
theorem zaX (j:List (κ×V)) (k:κ) (v:V):(zbb j k v).length<=j.length+1:=by
 unfold zbb
 split
 ·rw[wk];lia
 ·rw[wC,wJ,um];lia
theorem KV.val {j:List (κ×V)}{vs:List (κ×Value)} (r:KV j vs) (k:κ):Qq (zaA j k) (valueAt vs k):=by
 unfold KV at r
 induction r with
 |nil=>exact True.intro
 |@cons p q ps qs h t ih =>
  obtain⟨h1,h2⟩:=h
  by_cases e:p.1=k
  ·have F:q.1=k:=h1.symm.trans e
   have b:valueAt (q::qs) k=some q.2:=by simp[valueAt,uP,F]
   rw[zbv e,b];exact h2
  ·have F:¬q.1=k:=λz=>e (h1.trans z)
   have b:valueAt (q::qs) k=valueAt qs k:=by simp[valueAt,uP,F]
   rw[zbu e,b];exact ih
theorem KV.any {j:List (κ×V)}{vs:List (κ×Value)} (r:KV j vs) (k:κ):(j.any λF=>decide (F.1=k))=vs.any λF=>decide (F.1=k):=by
 unfold KV at r
 induction r with
 |nil=>rfl
 |cons h t ih=>rw[List.any_cons,List.any_cons,ih,h.1]
theorem KV.repl {F:List (κ×V)}{vs:List (κ×Value)} (r:KV F vs) (k:κ){y:V}{u:Value}(G:xz y u) :
  KV (F.map λj=>if j.1=k then(j.1,y)else j) (vs.map λj=>if j.1=k then(j.1,u)else j):=by
 unfold KV at r ⊢
 induction r with
 |nil=>exact .nil
 |@cons p q ps qs h t ih =>
  rw[yw,yw]
  refine .cons ?_ ih
  obtain⟨h1,h2⟩:=h
  by_cases e:p.1=k
  ·rw[if_pos e,if_pos (h1.symm.trans e)];exact⟨h1,G⟩
  ·rw[if_neg e,if_neg (λz=>e (h1.trans z))];exact⟨h1,h2⟩
theorem KV.put {j:List (κ×V)}{vs:List (κ×Value)} (r:KV j vs) (k:κ){y:V}{u:Value}(F:xz y u):KV (zbb j k y) (stored vs k u):=by
 unfold zbb stored
 rw[r.any k]
 by_cases e:(vs.any λG=>decide (G.1=k))=true
 ·rw[if_pos e,if_pos e];exact r.repl k F
 ·rw[if_neg e,if_neg e];exact Paired.snoc r ⟨rfl,F⟩
end
def zeU {P:Program}{w:World}{k:Key}{u:Value}(r:xz (kV k) u):(qt P w).is k u=true:=by
 cases k with
 |inl i=>obtain⟨t,e⟩:=(show ∃t,u=Value.int i t from r);subst e;exact za1 P w i t
 |inr x=>obtain⟨t,e⟩:=(show ∃t,u=Value.str x t from r);subst e;exact za2 P w x t
def JF {P:Program}{w:World}:∀{ks:List Key}{us:Ac},xh (ks.map kV) us->ItemsAre (qt P w) ks us
 |[],_,r=>by rw[Yt]at r;cases r;exact .nil
 |k::ks,_,r=>by
  rw[yw]at r
  cases r with
  |cons h t=>exact .cons (zeU h) (JF t)
abbrev KT (H:Hp):List (List Key×V)->List (List Key×Addr×Value)->Prop:=Paired λp q=>p.1=q.1/\H q.2.1=some (.tup (p.1.map kV))/\xz p.2 q.2.2
def KT.val {H:Hp}{j:List (List Key×V)}{xs:List (List Key×Addr×Value)} (r:KT H j xs) (k:List Key):Qq (zaA j k) ((atKey xs k).map (·.2)):=by
 induction r with
 |nil=>exact True.intro
 |@cons p q ps qs h t ih =>
  obtain⟨h1,_,h2⟩:=h
  by_cases e:p.1=k
  ·have F:q.1=k:=h1.symm.trans e
   have b:atKey (q::qs) k=some q.2:=by simp[atKey,uP,F]
   rw[zbv e,b];exact h2
  ·have F:¬q.1=k:=λz=>e (h1.trans z)
   have b:atKey (q::qs) k=atKey qs k:=by simp[atKey,uP,F]
   rw[zbu e,b];exact ih
section
variable {P:Program}{w:World}{H:Hp}{h:Heap}{a:Addr}
theorem ziB {u:HO}(ok:HOk P w H h) (e:Rd H a u):xD P w H h a u:=e.ok ok
theorem zeF {j:List (Key×V)} (ok:HOk P w H h) (e:Rd H a (.dK j)):j.length<=sizeLine/\(a == sysModules)=false/\∃vs,KV j vs/\h.DictOf (qt P w) a vs :=
 show xD P w H h a (.dK j)from ziB ok e
theorem zk1 {j:List (Key×V)} (ok:HOk P w H h) (e:H a=some (.dK j)):j.length<=sizeLine/\(a == sysModules)=false/\∃vs,KV j vs/\h.DictOf (qt P w) a vs:=zeF ok (.inl e)
theorem zeV {ks:List Key}(ok:HOk P w H h) (e:H a=some (.tup (ks.map kV))):(tupleKind (qt P w)).is h ks a:=by
 obtain⟨_,j,r,o,h1,h2,n,F⟩:=(show xD P w H h a (.tup (ks.map kV))from ok a _ e)
 exact⟨o,j.toArray,n,h1,h2,F,by simpa using JF r⟩
theorem zii {j:List (List Key×V)} (ok:HOk P w H h) (e:Rd H a (.dT j)):j.length<=sizeLine/\(a == sysModules)=false ∧
  ∃xs,KT H j xs/\h.DictOfH (tupleKind (qt P w)) a xs:=by
 obtain⟨z,y,xs,r,o,es,O,h1,h2,I,S,G⟩:=(show xD P w H h a (.dT j)from ziB ok e)
 refine⟨z,y,xs,r,o,es,O,h1,h2,I,S,λx F=>?_,G⟩
 have all:∀{l:List (List Key×V)}{m:List (List Key×Addr×Value)},KT H l m->∀x∈m,(tupleKind (qt P w)).is h x.1 x.2.1:=by
  intro l m q
  induction q with
  |nil=>intro x F;exact nomatch F
  |@cons p q ps qs hq t ih =>
   intro x F
   rcases wy.mp F with e | F
   ·subst e
    exact zeV ok (by rw[<-hq.1];exact hq.2.1)
   ·exact ih x F
 exact all r x F
end
def ziU (H:Hp) (a:Addr) (y:V) (r:Bh):Prop :=
 (∃kvs k,Rd H a (.dK kvs)/\y=kV k/\r=zaA kvs k)\/∃kvs k b,Rd H a (.dT kvs)/\y=.ref b/\H b=some (.tup (k.map kV))/\r=zaA kvs k
section
variable {X:Cx}{pz:Ab}{σ:St}{H:Hp}{s:Shared}{a:Addr}{y v:V}{u r:Value}{o:Bh}{A:Around}{E:Af}
theorem Inv.big (I:Inv X pz σ H s):sysModules<s.heap.objs.size:=by
 have h:mainGlobals<s.heap.objs.size:=(I.mod.glob.keeps I.bk).lt
 exact Nat.lt_trans ⇑1 h
theorem zdE {Q:Af}(hu:A.units+1<cLine) (I:Inv X pz σ H s) (g:ziU H a y (some v)) (V:xz y u) (h:∀G s',Inv X pz σ H s'->xz v G->Q G s') :
  wpAny (model X.prog X.w) A (getItem (.ref a) u) Q E s:=by
 rcases g with⟨U,k,e,S,l⟩ | ⟨U,k,b,e,S,Y,l⟩
 ·subst S
  obtain⟨z,hd,vs,j,dd⟩:=zeF I.hok e
  obtain⟨G,hw,F⟩:=Qq.some_of (v:=v) (o:=valueAt vs k) (by rw[l];exact j.val k)
  exact wpAny_getItem_of (zeU V) dd.mapOf hw (h G _ (I.tok _) F)
 ·subst S
  cases(show u=Value.ref b from V)
  obtain⟨z,hd,xs,j,dd⟩:=zii I.hok e
  obtain⟨G,hw,F⟩:=Qq.some_of (v:=v) (o:=(atKey xs k).map (·.2)) (by rw[l];exact j.val k)
  obtain⟨p,W,O⟩:=uJ.mp hw
  refine wpAny_getItem_heap (tupleKind_room_in1 hu) (zeV I.hok Y) dd W ?_
  rw[O]
  exact h G _ (I.tok _) F
theorem zgB {h':Heap}{j:Nat}{ob:HO}(I:Inv X pz σ H s) (O:Mut (H a)) (G:Heap.SameBut a s.heap h') (F:∃q,h'.get? a=some q) (new:xD X.prog X.w (upd H a ob) h' a ob) :
  Inv X pz σ (upd H a ob) { s with heap:=h',toks:=j } :=
 I.write (x:=a) (e:=a) O (.inl rfl) (λb q S z=>(G.2 b S).trans z) F new
theorem zi8 {P:Program}{w:World}{H':Hp}{h':Heap}{j:List (Key×V)}{vs:List (Key×Value)} (z:j.length<=sizeLine) (hd:(a == sysModules)=false) (F:KV j vs) (dd:h'.DictOf (qt P w) a vs) :
  xD P w H' h' a (.dK j):=⟨z,hd,vs,F,dd⟩
end
def zkP (i:Expr):Prop:=∀ov iv,subscripted i false ov iv=operate [ov,iv] (getItem ov iv)
def zhY {prog:Program}{w:World}{A:Around}{E:Af}{s:Shared}{env:Env}{value j:Expr}{pos:Pos}{T id:String}{Q:Af}
  (W:typeLookup (.type T) "__getitem__" = pure (some (.builtin id))) (hs:zkP j)
  (h:wpAny (model prog w) A (eval value env) (λo S=>wpAny (model prog w) A (eval j env) (λi G=>G.TypeIs o T/\wpAny (model prog w) A (getItem o i) Q E G) E S) E s) :
  wpAny (model prog w) A (eval (.Subscript value j pos) env) Q E s:=by
 refine Subscript_ (yF h (λo S Y=>yF Y (λi G I=>?_) λ_ _ x=>x) λ_ _ x=>x)
 obtain⟨U,I⟩:=I
 unfold subscriptTail
 refine wc ?_
 rw[getitemInPython_of_ne U.not_modules]
 refine wc (YB U W ?_)
 have F:wpAny (model prog w) A (subscripted j false o i) (λr O=>wpAny (model prog w) A (letTemporaryGo value o r >>= λ_=>pure r) Q E O) E G:=by
  rw[hs o i]
  exact wpAny_operating (yF I (λr O V=>wc (wpAny_letTemporaryGo (wu V))) λ_ _ x=>x)
 first
  |exact wu (wc F)
  |exact wc (wu (wc F))
  |exact wc F
def zaR {X:Cx}{pz:Ab}{σ:St}{H:Hp}{s:Shared}{a:Addr}{y:V}{o:Bh}(I:Inv X pz σ H s) (g:ziU H a y o):s.TypeIs (.ref a) "dict":=by
 rcases g with⟨j,k,e,_,_⟩ | ⟨j,k,b,e,_,_,_⟩
 ·obtain⟨_,_,vs,_,dd⟩:=zeF I.hok e
  exact dd.typeIs
 ·obtain⟨_,_,xs,_,dd⟩:=zii I.hok e
  exact dd.typeIs
inductive zf7 (Q:VK) (x:V) (y:V) (H2:Hp):Prop
 |mk:∀a v,(x=.ref a)->(ziU H2 a y (some v))->(Q v H2)->zf7 Q x y H2
def zmf (td ty:TE):TE:=λσ H Q=>td σ H λx H1=>ty σ H1 λy H2=>zf7 Q x y H2
section
variable {X:Cx}{o i e value:Expr}{pos pos' tpos:Pos}{td ty tv:TE}
theorem zhf (V:X.A.units+1<cLine) (O:PE X o td) (hi:PE X i ty) (U:zkP i):PE X (.Subscript o i pos) (zmf td ty):=by
 intro pz s σ H Q I h
 refine zhY PySem.F.slot_dict_getitem.lookup U (thn (O pz s σ H _ I h) λu S ⟨x,H1,I1,rx,q1⟩=>thn (hi pz S σ H1 _ I1 q1) λiv W ⟨y,H2,I2,ry,a,v,ex,g,q2⟩=>?_)
 subst ex
 obtain rfl:u=Value.ref a:=rx
 exact⟨zaR I2 g,zdE V I2 g ry λw' Y G j=>⟨v,H2,G,j,q2⟩⟩
end
def zeE {P:Program}{w:World}{H:Hp}(h:Heap) (j:sysModules<h.objs.size):xD P w H (h.push { cls:=.type "dict",data:=.dict #[] }) h.objs.size (.dK []) :=
 ⟨yo _,beq_eq_false_iff_ne.mpr (Ne.symm (wQ j)),[],.nil,Heap.DictOf.new h⟩
def zcc:List (TE×TE)->St->Hp->(List (V×V)->Hp->Prop)->Prop
 |[],_,H,Q=>Q [] H
 | (tk,tv)::r,σ,H,Q=>tk σ H λx H1=>tv σ H1 λy H2=>zcc r σ H2 λps H3=>Q ((x,y)::ps) H3
abbrev VV:List (V×V)->List (Value×Value)->Prop:=Paired λp q=>xz p.1 q.1/\xz p.2 q.2
def PPs (X:Cx) (pos:Pos) (keys:List (Option Expr)) (values:Ag) (trs:List (TE×TE)):Prop :=
 ∀(pz:Ab) (s:Shared) (σ:St) (H:Hp) (Q:List (V×V)->Hp->Prop),Inv X pz σ H s->zcc trs σ H Q →
  wpAny (model X.prog X.w) X.A (evalPairs (pairTrees keys values X.env pos)) (λvs s'=>∃ps H',Inv X pz σ H' s'/\VV ps vs/\Q ps H') X.xe s
def zhl {X:Cx}{pos:Pos}:PPs X pos [] [] []:=λpz s σ H Q I h=>pairTrees_nil_walk ⟨[],H,I,.nil,h⟩
def VQ {X:Cx}{pos:Pos}{k v:Expr}{ks:List (Option Expr)}{vs:Ag}{F tv:TE}{j:List (TE×TE)} (G:PE X k F) (U:PE X v tv) (hr:PPs X pos ks vs j) :
  PPs X pos (some k::ks) (v::vs) ((F,tv)::j):=λpz s σ H Q I h =>
 pairTrees_cons_walk (thn (G pz s σ H _ I h) λu S ⟨x,H1,I1,rx,q1⟩=>thn (U pz S σ H1 _ I1 q1) λW O ⟨y,H2,I2,ry,q2⟩ =>
  thn (hr pz O σ H2 _ I2 q2) λws V ⟨ps,H3,I3,rel,q3⟩=>⟨(x,y)::ps,H3,I3,.cons ⟨rx,ry⟩ rel,q3⟩)
def XC (kvs more:List (Key×V)):List (Key×V):=more.foldl (λacc kv=>zbb acc kv.1 kv.2) kvs
def KV.merge:∀{F:List (Key×V)}{rs:List (Key×Value)}{j:List (Key×V)}{vs:List (Key×Value)},KV F rs->KV j vs->KV (XC j F) (merged vs rs):=by
 intro F rs j vs r
 unfold KV at r
 induction r generalizing j vs with
 |nil=>intro q;exact q
 |@cons p q ps qs h t ih =>
  intro G
  have e:KV (zbb j p.1 p.2) (stored vs q.1 q.2):=by
   have:=G.put p.1 h.2
   rw[<-h.1];exact this
  exact ih e
def Xw:∀(F j:List (Key×V)),(XC j F).length<=j.length+F.length
 |[],j=>by show j.length<=j.length+0;lia
 |p::r,j=>by
  have h1:=Xw r (zbb j p.1 p.2)
  have h2:=zaX j p.1 p.2
  show (XC (zbb j p.1 p.2) r).length<=_
  rw[wJ];lia
def Vy {P:Program}{w:World}:∀{j:List (Key×V)}{ws:List (Value×Value)},VV (j.map λF=>(kV F.1,F.2)) ws->∃rs,Carries (qt P w) ws rs/\KV j rs
 |[],_,r=>by rw[Yt]at r;cases r;exact⟨[],True.intro,.nil⟩
 |p::j,_,r=>by
  rw[yw]at r
  cases r with
  |@cons a b as bs h t =>
   obtain⟨rs,c,q⟩:=Vy (P:=P) (w:=w) t
   obtain⟨I,G⟩:=b
   exact⟨(p.1,G)::rs,⟨zeU h.1,rL,c⟩,.cons ⟨rL,h.2⟩ q⟩
def zmg (trs:List (TE×TE)):TE:=λσ H Q=>∀p,H p=none->zcc trs σ (upd H p (.dK [])) λps H2=>H2 p=some (.dK [])/\∃kvs:List (Key×V),ps=kvs.map (λkv=>(kV kv.1,kv.2))/\kvs.length<=15/\Q (.ref p) (upd H2 p (.dK (XC [] kvs)))
def zhg {X:Cx}{pos:Pos}{keys:List (Option Expr)}{j:Ag}{G:List (TE×TE)} (h:PPs X pos keys j G) (F:keys.all (·.isSome)=true) (W:keys.length=j.length) (h0:keys≠[])
  (S:keys.length<=15):PE X (.Dict keys j pos) (zmg G):=by
 intro pz s σ H Q I q
 have hn:=I.hok.fresh (wq s.heap.objs.size)
 have I1:=I.laid (a:=s.heap.objs.size) (o:=.dK []) (h':=s.heap.push { cls:=.type "dict",data:=.dict #[] }) (t':=s.toks) (λ_ _ q=>wg _ q) (wq _) (zeE s.heap I.big)
 refine wpAny_Dict_walk (knd:=qt X.prog X.w) F W h0 S (thn (h pz _ σ _ _ I1 (q _ hn)) λws s2 ⟨ps,H2,I2,rel,e,kvs,ep,lk,q2⟩=>?_)
 subst ep
 obtain⟨rs,c,U⟩:=Vy (P:=X.prog) (w:=X.w) rel
 obtain⟨z,hd,a1,V,dd⟩:=zk1 I2.hok e
 cases V
 refine⟨rs,c,dd,λh' O hs=>⟨.ref s.heap.objs.size,_,?_,rL,q2⟩⟩
 have hz:(XC [] kvs).length<=sizeLine:=by
  have h1:=Xw kvs []
  rw[um]at h1
  rw[sizeLine_eq];lia
 have Y:∃q,h'.get? s.heap.objs.size=some q:=let ⟨q,_,_,hq,_⟩:=O;⟨q,hq⟩
 exact zgB I2 (by rw[e];exact True.intro) hs Y (zi8 hz hd (U.merge .nil) O)
end L2
namespace Att
open PySem PySem.W PySem.Calls PyProof.Rows
end Att
namespace L2
open PySem PySem.Spec PyProof.Rows
open PySem.W
def FlX.keeps {B h h':Heap}{l:Aj}{e:Addr}{cls a0:Value}{dct:Option Addr}(x:FlX B l e cls a0 dct h) (k:∀b o,h.get? b=some o->h'.get? b=some o):FlX B l e cls a0 dct h':=by
 obtain⟨S,I,f3,oe,ws,T,U,ts,V,hc,G,hd,h0,h1,Y,j,W,F,O⟩:=x
 exact⟨λb o q=>k b o (S b o q),I,f3.of_keeps λb o q _=>⟨o,k b o q,rL⟩,oe,ws,T,U,ts,k _ _ V,hc,G,hd,h0,h1,Y,j,k _ _ W,F,O⟩
def ze3 {M:Model}{h:Heap}{a:Addr}{o:Obj}{c:Value}(e:h.get? a=some o) (k:o.cls=c):Looks M h (typeOf (.ref a)) c:=by
 subst k;exact(Looks.ld e).andThen .now
def zmo (C1 C2:Addr) (tb:XJ->TS) (ts:TS):TS:=λD σ H=>tb (λC' _ σ' H'=>(C'=C1\/C'=C2)/\ts D σ' H') D σ H
section
variable {X:Cx}{x y:Str}{C1 C2:Addr}{np np2 hpos pos tpos:Pos}{kk:Nat}{body suite:Ai}{b₀:Stmt}{tb:XJ->TS}{ts:TS}
theorem zhm (G:X.stack=X.env::X.outer) (a7:X.env.frame=some X.env.locals) (m1:X.mg x=some (.ref C1)) (m2:X.mg y=some (.ref C2))
  (hx:∀V,V=C1\/V=C2->exmAny X.K (.ref V) [.ref C1,.ref C2]=some true)
  (hb:∀pz W J,zch (X.tried pz W) J->PSs (X.tried pz W) body (tb J)) (hs:∀pz a oe d vs,oe.cls=.ref C1\/oe.cls=.ref C2->oe.dict=d->oe.data=.fields vs->PSs (X.suite pz a oe) (b₀::suite) ts)
  (hg:Gl X x:=by rfl) (a9:Gl X y:=by rfl) (hd:(x == ("__debug__":Str))=false:=by decide) (a8:(y == ("__debug__":Str))=false:=by decide) :
  PS X (.Try body [.ExceptHandler (some (.Tuple [.Name x np,.Name y np2] kk tpos)) none (b₀::suite) hpos] [] [] pos) (zmo C1 C2 tb ts):=by
 intro pz s σ H D I h
 have b5:=hb pz (λe s₁=>wpAny (model X.prog X.w) X.A (noteFrame e X.env) (λ_ s₂=>wpAny (model X.prog X.w) X.A (setFlight e none) (λ_ s₃ =>
  wpAny (model X.prog X.w) X.A (handleBy e X.env [.ExceptHandler (some (.Tuple [.Name x np,.Name y np2] kk tpos)) none (b₀::suite) hpos]) (SP X pz D) X.xe s₃) X.xe s₂) X.xe s₁) _ ?_ [] s σ H D (I.tried _) h
 ·refine wpAny_Try_except (yF b5 (λf s1 j=>?_) λ_ _ z=>z)
  cases f with
  |next=>obtain⟨S,H',I',q⟩:=j;exact Wt ⟨S,H',I'.untried I.ok,q⟩
  |brk=>obtain⟨S,H',I',q⟩:=j;exact⟨S,H',I'.untried I.ok,q⟩
  |cont=>obtain⟨S,H',I',q⟩:=j;exact⟨S,H',I'.untried I.ok,q⟩
  |ret u=>obtain⟨v,S,H',I',r,q⟩:=j;exact⟨v,S,H',I'.untried I.ok,r,q⟩
 ·intro b6 S H1 s1 a V H' s' B a0 dct I1 F hq
  obtain⟨hC,q⟩:=hq
  have I1:=I1.untried I.ok
  have a2:X.A.frames=some (X.env::X.outer):=by rw[<-G];exact I.ok.frames
  have F:Fly X.prog X.w X.stack H1 s1 V H' a s' B a0 dct:=F
  have a6:FlX B (X.env::X.outer) a (.ref V) a0 dct s'.heap:=by rw[<-G];exact F.fly
  refine zcF a2 a7 a6 λh4 held b1=>?_
  refine Vl held λh5 U b0=>?_
  have F5:=F.move (by rw[G];exact U) (b1.trans b0)
  have I5:=I1.call' F5.os F5.un F5.hok F5.bare (λb z=>absurd z (by simp))
  obtain⟨ob,b2,a4⟩:=U.there
  obtain⟨hh,g,d,tk,os⟩:=s'
  have kp:∀b o,h5.get? b=some o->(h5.push { cls:=.type "tuple",data:=.seq [Value.ref C1,Value.ref C2].toArray }).get? b=some o:=λ_ _ z=>wg _ z
  refine wpAny_handleBy_cons (codeAny_handlers_test (wpAny_Tuple (wpAny_items_cons (v3 (X:=X.testing a) (I5.test a) hg m1 (wpAny_items_cons (v3 (X:=X.testing a) (I5.test a) a9 m2 (wpAny_items_nil ⟨by size_fits,?_⟩) a8)) hd)))) (by intro q;cases q)
  refine((exm_tup2 (I5.kIn.keeps kp) ((ze3 b2 a4).keeps kp) (wD h5 rL) (hx V hC)).here) (codeAny_handlers_suite ?_)
  refine Vl (U.keeps kp).held λh6 a5 b3=>?_
  have F6:=F5.move (by rw[G];exact a5) ((Heap.UpToSlots.of_keeps kp).trans b3)
  have I6:=I1.call' F6.os F6.un F6.hok F6.bare (λb z=>absurd z (by simp))
  obtain⟨oe,ws,b4,a1,a3,O⟩:=a5.first
  refine yF (hs pz a oe dct ws (by rw[a1];rcases hC with rfl | rfl;exact .inl rfl;exact .inr rfl) a3 O [] _ _ H' D (I6.suite b4 O F6.untracked) q) (λf s8 j=>?_) λ_ _ z=>z.elim
  cases f with
  |next=>obtain⟨σ8,H8,Y,q8⟩:=j;exact⟨_,_,Y.unsuite I.ok,q8⟩
  |brk=>obtain⟨σ8,H8,Y,q8⟩:=j;exact⟨_,_,Y.unsuite I.ok,q8⟩
  |cont=>obtain⟨σ8,H8,Y,q8⟩:=j;exact⟨_,_,Y.unsuite I.ok,q8⟩
  |ret u=>obtain⟨v,σ8,H8,Y,r8,q8⟩:=j;exact⟨_,_,_,Y.unsuite I.ok,r8,q8⟩
end
end L2
namespace KK
open PySem L2
variable {P:Program}{w:World}{K:Fg}{mg:Aa}{base:Heap}
def top (i:Nat):Stmt:=PySem.Challenge.pw_clackrow_k11_speeds_behind.main.body.getD i (.Pass ⟨0,0,0,0⟩)
abbrev XF:Stmt:=top 6
abbrev XE:Stmt:=top 7
abbrev qM:Stmt:=top 8
abbrev XD:Stmt:=top 9
abbrev ZD:Stmt:=top 10
abbrev zb6:Stmt:=top 11
abbrev zaj:Stmt:=top 12
abbrev zak:Stmt:=top 13
abbrev zb4:Stmt:=top 14
abbrev QL:Stmt:=top 15
abbrev V0:Stmt:=top 16
abbrev vj:Stmt:=top 19
abbrev vH:Stmt:=top 20
abbrev XR:Stmt:=top 21
abbrev Xj:Stmt:=top 22
abbrev Ze:Stmt:=top 23
abbrev QQ:Stmt:=top 24
abbrev QR:Stmt:=top 25
abbrev QP:Stmt:=top 26
abbrev Xc:Stmt:=top 27
abbrev QS:Stmt:=top 28
abbrev vR:Stmt:=top 29
abbrev QN:Stmt:=top 30
abbrev Zs:Stmt:=top 31
abbrev zb5:Stmt:=top 32
abbrev VZ:Stmt:=top 33
abbrev QO:Stmt:=top 34
abbrev qW:Stmt:=top 35
abbrev VY:Stmt:=top 36
abbrev v9:Stmt:=top 38
abbrev VT:Stmt:=top 39
abbrev QD:Stmt:=top 43
abbrev vT:Stmt:=top 44
abbrev ZE:Stmt:=top 45
abbrev vS:Stmt:=top 46
abbrev Xd:Stmt:=top 47
abbrev QC:Stmt:=top 48
abbrev QB:Stmt:=top 49
abbrev Zu:Stmt:=top 50
abbrev Zv:Stmt:=top 51
abbrev Zt:Stmt:=top 52
abbrev VU:Stmt:=top 53
abbrev QM:Stmt:=top 54
abbrev Xb:Stmt:=top 55
abbrev XG:Stmt:=top 57
abbrev XI:Stmt:=top 58
abbrev XL:Stmt:=top 59
abbrev XQ:Stmt:=top 60
abbrev QI:Stmt:=top 61
abbrev QE:Stmt:=top 62
abbrev QJ:Stmt:=top 63
abbrev VW:Stmt:=top 64
abbrev XN:Stmt:=top 65
abbrev Xf:Stmt:=top 66
abbrev vz:Stmt:=top 67
abbrev vA:Stmt:=top 68
abbrev QH:Stmt:=top 69
abbrev Zd:Stmt:=top 70
abbrev QK:Stmt:=top 71
abbrev Xg:Stmt:=top 72
abbrev QF:Stmt:=top 73
abbrev Zx:Stmt:=top 74
abbrev Zb:Stmt:=top 75
abbrev Zy:Stmt:=top 76
abbrev VX:Stmt:=top 77
abbrev Za:Stmt:=top 78
abbrev Zc:Stmt:=top 79
abbrev ZA:Stmt:=top 80
abbrev ZC:Stmt:=top 81
abbrev Xh:Stmt:=top 82
abbrev Zw:Stmt:=top 83
abbrev Xi:Stmt:=top 84
abbrev Xe:Stmt:=top 85
abbrev QG:Stmt:=top 86
abbrev XH:Stmt:=top 87
abbrev s_law:Stmt:=top 88
abbrev x0:Stmt:=J5 (top 3) 0
abbrev qP:Stmt:=J5 (top 4) 0
abbrev qx:Stmt:=J5 (top 18) 0
structure TxB (K:Fg) (mg:Aa):Prop where
 ii:PySem.W.kitOne K (.type "int") (.type "int")=some true
 ib:PySem.W.kitOne K (.type "int") (.type "bool")=some false
 nIs:mg "isinstance" = none
 nInt:mg "int" = none
 nBool:mg "bool" = none
 nAbs:mg "abs" = none
 nLen:mg "len" = none
 nMax:mg "max" = none
 nMin:mg "min" = none
 nRange:mg "range" = none
 nTuple:mg "tuple" = none
 nSum:mg "sum" = none
inductive Xp (vs:Ba)(H:Hp)(Q:VK)(_e3:XK):Prop
 |mk:∀i,(vs=[.int i])->(Q (.bl true) H)->Xp vs H Q _e3
theorem zfM:zF ["thing"] ["thing"] (zr XF):=scq
theorem zff (D:Df K mg "is_whole" XF ["thing"] []) (T:TxB K mg):⇑3 "is_whole" 1 ["thing"] [] Xp:=by
 refine D.cal (k:=0) zfM (λvs H Q E h=>by obtain⟨i,rfl,_⟩:=h;rfl) (λf cdv A outer s H vs Q E hr h=>?_)
 obtain⟨i,rfl,k⟩:=h
 refine⟨_,zj (zG (qT
  (xk vY rfl T.nIs uk %[0,Vm (v:=.ty "int") (u:=.type "int") rfl T.nInt PyProof.Rows.boot_int rfl|0])
  (qU (zfk (xk vY rfl T.nIs uk %[0,Vm (v:=.ty "bool") (u:=.type "bool") rfl T.nBool ⇑0 rfl|0]))))),?_⟩
 refine⟨00,_,_,_,true,rL,.int i,T.ii,true,rL,xp ?_⟩
 exact⟨00,_,_,_,false,rL,.int i,T.ib,false,rL,k⟩
inductive JR (vs:Ba)(H:Hp)(Q:VK)(_e3:XK):Prop
 |mk:∀a b:Int,(vs=[.int a,.int b])->(0<=a)->(0<=b)->(Q (.int (Int.gcd a b:Nat)) H)->JR vs H Q _e3
theorem zfE:zF ["one","other"] ["one","other"] (zr qM):=scq
theorem zjC (D:Df K mg "greatest_divisor" qM ["one","other"] []):⇑3 "greatest_divisor" 1 ["one","other"] [] JR:=by
 rcases r:D.cal (k:=0) zfE (λvs H Q E h=>by obtain⟨a,b,rfl,_⟩:=h;rfl) with⟨a,b,rfl,S,V,k⟩
 refine⟨_,zA (Qd PassesOwn.never (zI Vc (pv 1) zg (zJ _))
   (zj (zb1 (i:=0) (j:=1) rfl zfE.nd rfl rfl ⇑1 rfl rfl %[1,zD Zn (pv 0) (pv 1)|0] ⇑2)))
  (zj (zG (pv 0))),?_⟩
 refine zby (λσ H1=>H1=H/\∃x y:Int,σ=[Si x,Si y]/\0<=x/\0<=y/\Int.gcd x y=Int.gcd a b)
  (λσ _=>match σ with | [_,some (.int y)]=>y.toNat | _=>0) ⟨rfl,a,b,rfl,S,V,rfl⟩ ?_ ?_
 ·rintro σ H1 F;rcases q:F with⟨rfl,x,y,rfl,U,G,e⟩
  refine⟨00,022,00,qp (λh=>?_) (λh=>?_)⟩
  ·have h':0<y:=wF h
   refine⟨02,022,h',021,⟨rL,021,G,Wq _ ∅,?_⟩,?_⟩
   ·rw[KM.zaV U h'];exact e
   ·show (x % y).toNat<y.toNat
    have:=uO x h'
    lia
  ·have h':¬ 0<y:=λz=>h (wo z)
   have:y=0:=by lia
   subst this
   refine⟨00,?_⟩
   have e2:x=(Int.gcd a b:Nat):=by rw[<-e,Int.gcd_zero_right];lia
   rw[e2];exact k
 ·rintro σ H1 W Y I F;rcases q:F with⟨v,e,i,j,e1,e2,k1,O,q⟩
  exact⟨v,e,i,j,e1,e2,k1,O,I _ _ q⟩
theorem V5:zF ["top","bottom","divisor"] ["top","bottom"] (zr ZD):=scq
theorem v7 (i:Int):(if i<0 then -i else i)=(i.natAbs:Int):=by split <;> lia
theorem za5 {dvs:Ba}(D:Df K mg "ratio" ZD ["top","bottom"] dvs) (T:TxB K mg) (O:⇑3 "is_whole" 1 ["thing"] [] Xp) (W:⇑3 "greatest_divisor" 1 ["one","other"] [] JR) :
  ⇑3 "ratio" 2 ["top","bottom"] dvs qm:=by
 rcases r:D.cal (k:=1) V5 (λvs H Q E h=>by obtain⟨a,b,rfl,_⟩:=h;rfl) with⟨t,b,rfl,I,hz,k⟩
 refine⟨_,zA (zZ (vQ (qE (xv (zH O hr %[0|0]) λ_=>rL)) (vQ (qE (xv (zH O hr %[1|0]) λ_=>rL)) (vG (zI qh (pv 1) zg (zJ _))))).pt zd0 zQ)
  (zA (psl (i:=2) V5.nd (zH W hr %[xk ZY rfl T.nAbs uv %[0|0],xk ZY rfl T.nAbs uv %[1|0]|0]))
  (zA (zZ (zI Z6 (pv 1) zg (zJ _)) (zj (psl (i:=2) V5.nd (Qc ZH (pv 2)))) zQ)
  (zj (zG (xa %[zD qC (pv 0) (pv 2),zD qC (pv 1) (pv 2)|0]))))),?_⟩
 refine⟨00,t,rL,true,rL,xm ?_⟩
 refine⟨00,b,rL,true,rL,xm ?_⟩
 refine⟨00,rfl,00,qp (λh=>absurd (wF h) (by intro z;injection z with z;exact I z)) (λ_=>?_)⟩
 refine⟨00,t,rfl,⟨00,b,rfl,⟨021,(by rw[v7];lia),(by rw[v7];lia),?_⟩⟩⟩
 have hd:=KM.zij (t:=t) I
 have F:Bd 8900 (KM.dv t b):=hz.of_le (KM.zcs I)
 have G:∀σ:St,σ=[Si t,Si b,some (.int (KM.dv t b))]->zaw (zgb (xN (tOp (rI zaE λi j=>V.int (i.fdiv j)) (xB 0) (xB 2)) (xN (tOp (rI zaE λi j=>V.int (i.fdiv j)) (xB 1) (xB 2)) Xn))) { nx:=λ_ H'=>Q .non H',rt:=Q } σ H:=by
  rintro σ rfl
  refine⟨01,022,⟨hd,F⟩,01,022,⟨hd,F⟩,?_⟩
  refine⟨⇑5,λp U=>k p _ (zk.upd U) ?_⟩
  show upd H p _ p=_
  rw[zi]
  nofun
  rw[KM.zbK I,KM.zeG I];rfl
 have S:(Int.gcd (if t<0 then -t else t) (if b<0 then -b else b):Nat)=Int.gcd t b:=by
  rw[v7,v7];simp[Int.gcd]
 refine⟨00,022,00,qp (λh=>?_) (λh=>?_)⟩
 ·have h':b<0:=wF h
  refine⟨01,G _ ?_⟩
  rw[S];unfold KM.dv;rw[if_pos h'];rfl
 ·have h':¬b<0:=λz=>h (wo z)
  refine G _ ?_
  rw[S];unfold KM.dv;rw[if_neg h'];rfl
theorem Bd4 {x:Rat}(h:Sz 4000 x):Bd 1000000 x.num/\Bd 1000000 (x.den:Int):=⟨h.1.md,h.2.md⟩
section
variable {x y:Rat}{p q:Addr}{H:Hp}
theorem zcW {Q:VK}(I:zC H p x) (O:zC H q y) (U:Sz 4000 x) (S:Sz 4000 y) (k:∀r H',zk H H'->zC H' r (x+y)->Q (.ref r) H') :
  zaw (vV qm [] E0 (xN (tOp (rI0 λi j=>.int (i+j)) (tOp (rI Vr λi j=>.int (i*j)) (tOp (ZV K) (xB 0) (tC (.int 0))) (tOp (ZV K) (xB 1) (tC (.int 1)))) (tOp (rI Vr λi j=>.int (i*j)) (tOp (ZV K) (xB 1) (tC (.int 0))) (tOp (ZV K) (xB 0) (tC (.int 1)))))
   (xN (tOp (rI Vr λi j=>.int (i*j)) (tOp (ZV K) (xB 0) (tC (.int 1))) (tOp (ZV K) (xB 1) (tC (.int 1)))) Xn))) { nx:=λ_ H'=>Q .non H',rt:=Q } [some (.ref p),some (.ref q)] H:=by
 have G:=Bd4 U
 have F:=Bd4 S
 refine⟨00,p,032,.of I,at0 ..,00,q,032,.of O,at1 ..,022,⟨G.1,F.2⟩,?_⟩
 refine⟨00,q,032,.of O,at0 ..,00,p,032,.of I,at1 ..,022,⟨F.1,G.2⟩,022,?_⟩
 refine⟨00,p,032,.of I,at1 ..,00,q,032,.of O,at1 ..,022,⟨G.2,F.2⟩,?_⟩
 refine⟨021,yl (KM.qd x) (KM.qd y),(U.2.mul S.2).md,λr H' e h=>k r H' e ?_⟩
 rw[<-KM.zcU];exact h
theorem zbe {Q:VK}(O:zC H p x) (S:zC H q y) (U:Sz 4000 x) (G:Sz 4000 y) (k:∀r H',zk H H'->zC H' r (x*y)->Q (.ref r) H') :
  zaw (vV qm [] E0 (xN (tOp (rI Vr λi j=>.int (i*j)) (tOp (ZV K) (xB 0) (tC (.int 0))) (tOp (ZV K) (xB 1) (tC (.int 0))))
   (xN (tOp (rI Vr λi j=>.int (i*j)) (tOp (ZV K) (xB 0) (tC (.int 1))) (tOp (ZV K) (xB 1) (tC (.int 1)))) Xn))) { nx:=λ_ H'=>Q .non H',rt:=Q } [some (.ref p),some (.ref q)] H:=by
 have I:=Bd4 U
 have F:=Bd4 G
 refine⟨00,p,032,.of O,at0 ..,00,q,032,.of S,at0 ..,022,⟨I.1,F.1⟩,?_⟩
 refine⟨00,p,032,.of O,at1 ..,00,q,032,.of S,at1 ..,022,⟨I.2,F.2⟩,?_⟩
 refine⟨021,yl (KM.qd x) (KM.qd y),(U.2.mul G.2).md,λr H' e h=>k r H' e ?_⟩
 rw[<-KM.zbr];exact h
end
theorem zhH:zF ["one","other"] ["one","other"] (zr zb6):=scq
theorem zg7 (D:Df K mg "plus" zb6 ["one","other"] []) (c:⇑3 "ratio" 2 ["top","bottom"] [] qm):⇑3 "plus" 3 ["one","other"] [] (xY Sz2 (· + ·)):=by
 rcases r:D.calq (k:=2) zhH with⟨p,q,x,y,rfl,I,F,⟨G,j⟩,k⟩
 exact⟨_,zj (zG (zH c hr %[zD xc (zD zR (pxt (pv 0)) (pxt (pv 1))) (zD zR (pxt (pv 1)) (pxt (pv 0))),zD zR (pxt (pv 0)) (pxt (pv 1))|0])),zcW I F G j k⟩
theorem zfL:zF ["one","other"] ["one","other"] (zr zak):=scq
theorem zfe (D:Df K mg "times" zak ["one","other"] []) (c:⇑3 "ratio" 2 ["top","bottom"] [] qm):⇑3 "times" 3 ["one","other"] [] (xY Sz2 (· * ·)):=by
 rcases r:D.calq (k:=2) zfL with⟨p,q,x,y,rfl,I,F,⟨G,j⟩,k⟩
 exact⟨_,zj (zG (zH c hr %[zD zR (pxt (pv 0)) (pxt (pv 1)),zD zR (pxt (pv 0)) (pxt (pv 1))|0])),zbe I F G j k⟩
theorem zhG:zF ["one","other"] ["one","other"] (zr zb4):=scq
theorem zg6 (D:Df K mg "over" zb4 ["one","other"] []) (c:⇑3 "ratio" 2 ["top","bottom"] [] qm):⇑3 "over" 3 ["one","other"] [] (xY (λx y=>Sz2 x y/\y≠0) (· / ·)):=by
 rcases r:D.calq (k:=2) zhG with⟨p,q,x,y,rfl,O,S,⟨⟨U,G⟩,F⟩,k⟩
 have I:=Bd4 U
 have j:=Bd4 G
 refine⟨_,zj (zG (zH c hr %[zD zR (pxt (pv 0)) (pxt (pv 1)),zD zR (pxt (pv 0)) (pxt (pv 1))|0])),?_⟩
 refine⟨00,p,032,.of O,at0 ..,00,q,032,.of S,at1 ..,022,⟨I.1,j.2⟩,?_⟩
 refine⟨00,p,032,.of O,at1 ..,00,q,032,.of S,at0 ..,022,⟨I.2,j.1⟩,?_⟩
 refine⟨021,yl (KM.qd x) (λz=>F (Yx.mp z)),(U.2.mul G.1).md,λr H' e h=>k r H' e ?_⟩
 show zC H' r (x/y)
 rw[<-KM.zac];exact h
def vE (H:Hp) (p:Addr):Prop:=∃a b c:Int,H p=some (.lst [.int a,.int b,.int c])
structure xo (p:Addr) (H H':Hp):Prop where
 pool:vE H' p
 keep:∀b o,H b=some o->b≠p->H' b=some o
theorem xo.trans {p:Addr}{H H1 H2:Hp}(a:xo p H H1) (b:xo p H1 H2):xo p H H2:=⟨b.pool,λc o e n=>b.keep c o (a.keep c o e n) n⟩
theorem xo.same {p:Addr}{H H1 H2:Hp}(a:xo p H H1) (b:zk H1 H2):xo p H H2:=⟨by obtain⟨x,y,z,e⟩:=a.pool;exact⟨x,y,z,b _ _ e⟩,λc o e n=>b c o (a.keep c o e n)⟩
theorem xo.pre {p:Addr}{H H1 H2:Hp}(b:xo p H1 H2) (a:zk H H1):xo p H H2:=⟨b.pool,λc o e n=>b.keep c o (a c o e) n⟩
theorem vE.new {H:Hp}{p l:Addr}{o:HO}(h:vE H p) (j:H l=none):vE (upd H l o) p:=by obtain⟨a,b,c,e⟩:=h;exact⟨a,b,c,zk.upd j _ _ e⟩
theorem vE.ne {H:Hp}{p l:Addr}(h:vE H p) (j:H l=none):l≠p:=by obtain⟨a,b,c,e⟩:=h;exact(zN e j).symm
theorem xo.refl {p:Addr}{H:Hp}(h:vE H p):xo p H H:=⟨h,λ_ _ e _=>e⟩
theorem xo.tup {p a:Addr}{H H':Hp}{xs:Ba}(s:xo p H H') (j:vE H p) (h:H a=some (.tup xs)):H' a=some (.tup xs):=by
 obtain⟨_,_,_,e⟩:=j
 exact s.keep a _ h (ziq h e (by intro z;cases z))
inductive zfQ (vs:Ba)(H:Hp)(Q:VK)(_e3:XK):Prop
 |mk:∀c:Int,(vs=[.int c])->(∀p H',H p=none->zk H H'->vE H' p->Q (.ref p) H')->zfQ vs H Q _e3
theorem zjW:zF ["cell"] ["cell"] (zr XI):=scq
theorem zjB (D:Df K mg "_law_left" XI ["cell"] []) (T:TxB K mg):⇑3 "_law_left" 1 ["cell"] [] zfQ:=by
 refine D.cal (k:=0) zjW (λvs H Q E h=>by obtain⟨a,rfl,_⟩:=h;rfl) (λf cdv A outer s H vs Q E hr h=>?_)
 obtain⟨c,rfl,k⟩:=h
 refine⟨_,zj (zG (xF %[(xk (zdz rL) ⇑2 T.nMax PyProof.Rows.boot_max %[zg,zD xS (pv 0) (zD vO zg zg)|0]),zD Zn (pv 0) (zD vO zg zg),zg|0])),?_⟩
 refine⟨00,022,⟨by decide,by decide,by decide⟩,022,021,?_⟩
 refine⟨00,022,⟨by decide,by decide,by decide⟩,022,(by show (0:Int)<10^18;decide),(zL3),λp j=>?_⟩
 exact k p _ j (zk.upd j) ⟨_,_,_,zi⟩
inductive qN (vs:Ba)(H:Hp)(Q:VK)(_e3:XK):Prop
 |mk:∀(p:Addr) (n:Int),(vs=[.ref p,.int n])->(0<n)->(n<1073741824)->(vE H p)->(∀(d:Int) H',0<=d->d<n->xo p H H'->Q (.int d) H')->qN vs H Q _e3
theorem Vp:zF ["pool","base","digit","mixed","stir"] ["pool","base"] (zr XL):=scq
theorem zbp {H:Hp}{p:Addr}{a b c:Int}:xo p H (upd H p (.lst [.int a,.int b,.int c])):=⟨⟨a,b,c,zi⟩,λd o e n=>by rw[zK n];exact e⟩
theorem zg5 (D:Df K mg "_law_next" XL ["pool","base"] []):⇑3 "_law_next" 1 ["pool","base"] [] qN:=by
 rcases r:D.cal (k:=0) Vp (λvs H Q E h=>by obtain⟨a,b,rfl,_⟩:=h;rfl) with⟨p,n,rfl,F,G,⟨a,b,c,j⟩,k⟩
 refine⟨_,zA (zZ (zI Vc (xb zU (pv 0) zg (λ_ _=>rL)) zg (zJ _))
   (zA (psl (i:=2) Vp.nd (zD Zn (xb zU (pv 0) zg (λ_ _=>rfl)) (pv 1)))
   (zA (qf (zD zcN (xb zU (pv 0) zg (λ_ _=>rfl)) (pv 1)) (Z7 (pv 0) zg vB))
   (zj (zG (pv 2))))) zQ)
  (zA (qf (zD xc (xb zU (pv 0) zg (λ_ _=>rfl)) zg) (Z7 (pv 0) zg vB))
  (zA (psl (i:=3) Vp.nd (zD Zn (zD xc (xb zU (pv 0) zg (λ_ _=>rfl)) (zD zbY zg (xb zU (pv 0) zg (λ_ _=>rfl)))) zg))
  (zA (psl (i:=4) Vp.nd (zD Zn (zD zbY (zD xc (pv 3) zg) (zD xc (pv 3) zg)) zg))
  (zj (zG (zD Zn (zD zcN (zD Zn (zD zbY (pv 4) (pv 4)) zg) zg) (pv 1))))))),?_⟩
 refine⟨00,p,032,.of j,rL,022,00,qp (λh=>?_) (λh=>?_)⟩
 ·refine⟨00,p,032,.of j,rL,00,022,F,?_⟩
  refine⟨00,p,032,.of j,rL,00,022,⟨F,G⟩,?_⟩
  refine⟨00,p,_,_,0,rL,rL,j,rL,?_⟩
  exact⟨00,k _ _ (Wq _ ∅) (uO _ F) zbp⟩
 ·refine⟨00,p,032,.of j,rL,022,?_⟩
  refine⟨00,p,_,_,2,rL,rL,j,rL,?_⟩
  refine⟨00,p,032,.of zi,rfl,00,p,032,.of zi,rfl,022,.inl ⟨by decide,by decide⟩,022,022,(by show (0:Int)<1000000007;decide),?_⟩
  refine⟨00,022,00,022,022,.inl (by constructor <;> lia),022,(by show (0:Int)<998244353;decide),?_⟩
  refine⟨01,022,.inl (by constructor <;> lia),022,(by show (0:Int)<2147483647;decide),022,⟨by decide,by decide⟩,00,022,F,?_⟩
  exact k _ _ (Wq _ ∅) (uO _ F) zbp
open KM
inductive zL (H:Hp):Ba->Bk->Prop
 |nil:zL H [] []
 |cons {a p q:Addr}{b:zB}{vs:Ba}{bs:Bk}:H a=some (.tup [.ref p,.ref q,.int b.wt])->zC H p b.pl->zC H q b.sp->zL H vs bs->zL H (.ref a::vs) (b::bs)
theorem zL.mono {H H':Hp}(m:∀b xs,H b=some (.tup xs)->H' b=some (.tup xs)):∀{vs:Ba}{bs:Bk},zL H vs bs->zL H' vs bs
 |_,_,.nil=>.nil
 |_,_,.cons h1 h2 h3 t=>.cons (m _ _ h1) (m _ _ h2) (m _ _ h3) (zL.mono m t)
theorem zL.same {H H':Hp}{vs:Ba}{bs:Bk}(h:zL H vs bs) (e:zk H H'):zL H' vs bs:=h.mono λb xs z=>e b _ z
theorem zL.length {H:Hp}:∀{vs:Ba}{bs:Bk},zL H vs bs->vs.length=bs.length
 |_,_,.nil=>rfl
 |_,_,.cons _ _ _ t=>by rw[wJ,wJ,zL.length t]
theorem zL.append {H:Hp}{us:Ba}{cs:Bk}(k:zL H us cs):∀{vs:Ba}{bs:Bk},zL H vs bs->zL H (vs++us) (bs++cs)
 |_,_,.nil=>k
 |_,_,.cons h1 h2 h3 t=>.cons h1 h2 h3 (zL.append k t)
theorem zL.one {H:Hp}{a p q:Addr}{b:zB}(h1:H a=some (.tup [.ref p,.ref q,.int b.wt])) (h2:zC H p b.pl) (j:zC H q b.sp):zL H [.ref a] [b]:=.cons h1 h2 j .nil
theorem zL.get {H:Hp}:∀{vs:Ba}{bs:Bk}{i:Nat}{v:V},zL H vs bs->vs[i]?=some v->∃(a p q:Addr) (b:zB),bs[i]?=some b/\v=.ref a/\H a=some (.tup [.ref p,.ref q,.int b.wt])/\zC H p b.pl/\zC H q b.sp
 |_,_,_,_,.nil,e=>by simp at e
 |_,_,0,_,.cons h1 h2 h3 _,e=>by
  simp at e;subst e
  exact⟨042,h1,h2,h3⟩
 |_,_,i+1,v,.cons _ _ _ t,e=>by
  obtain⟨a,p,q,b,e1,r⟩:=zL.get (i:=i) t ↥e
  exact⟨a,p,q,b,↥e1,r⟩
theorem zL.last {H:Hp}{vs:Ba}{bs:Bk}{b:zB}(h:zL H vs (bs++[b])):∃(us:Ba) (a p q:Addr),vs=us++[.ref a]/\H a=some (.tup [.ref p,.ref q,.int b.wt])/\zC H p b.pl/\zC H q b.sp:=by
 have j:=h.length
 rw[wC,WF]at j
 have hi:bs.length<vs.length:=by lia
 obtain⟨a,p,q,c,e1,e2,r⟩:=h.get (i:=bs.length) (wj hi)
 rw[wB (wq _)]at e1
 simp at e1;subst e1
 refine⟨vs.take bs.length,a,p,q,?_,r⟩
 rw[<-e2]
 have:=List.take_append_getElem hi
 rw[this,wH ∅]
def ZU (b c:zB):Prop:=b.pl<c.pl\/(b.pl=c.pl/\b.sp<c.sp)
theorem ZU.trans {a b c:zB}(h:ZU a b) (k:ZU b c):ZU a c:=by
 unfold ZU at *
 rcases h with h | ⟨h1,h2⟩ <;> rcases k with k | ⟨k1,k2⟩
 ·exact .inl (by grind)
 ·exact .inl (by grind)
 ·exact .inl (by grind)
 ·exact .inr ⟨by grind,by grind⟩
structure Qn (bs:Bk):Prop where
 wt:∀b∈bs,1<=b.wt/\b.wt<=1000
 sz:∀b∈bs,Sz 300 b.pl/\Sz 80 b.sp
 pw:bs.Pairwise ZU
theorem Qn.nil:Qn []:=⟨(λ_ h=>nomatch h),(λ_ h=>nomatch h),List.Pairwise.nil⟩
theorem Qn.snoc {bs:Bk}{b:zB}(G:Qn bs) (hw:1<=b.wt/\b.wt<=1000) (S:Sz 300 b.pl/\Sz 80 b.sp) (h:∀cs c,bs=cs++[c]->ZU c b):Qn (bs++[b]):=by
 refine⟨λx j=>?_,λx j=>?_,?_⟩
 ·rcases wK.mp j with z | z
  ·exact G.wt x z
  ·simp at z;subst z;exact hw
 ·rcases wK.mp j with z | z
  ·exact G.sz x z
  ·simp at z;subst z;exact S
 ·rw[wI]
  refine⟨G.pw,yE _ _,λx j y F=>?_⟩
  simp at F;subst F
  rcases WG bs with e | ⟨cs,c,e⟩
  ·subst e;exact(nomatch j)
  ·have I:bs=cs++[c]:=↥e
   have O:=h cs c I
   subst I
   rcases wK.mp j with z | z
   ·have:=(wI.mp G.pw).2.2 x z c (by simp)
    exact this.trans O
   ·simp at z;subst z;exact O
end KK
namespace L2
open PySem PySem.Spec PyProof.Rows
section
variable {X:Cx}
theorem zkW {G:Operator}{r:R2}{a b:Expr}{ta tb:TE}{pos:Pos}(I:OpR X (binaryOp G) r) (j:Bx (PE X a ta)) (F:Bx (PE X b tb)):Bx (PE X (.BinOp a G b pos) (tOp r ta tb)):=by obtain⟨j⟩:=j;obtain⟨F⟩:=F;exact⟨zD I j F⟩
theorem Jx {r:R2}{a b:Expr}{ta tb:TE}{pos:Pos}(hr:IxR X r) (j:Bx (PE X a ta)) (F:Bx (PE X b tb)) (G:zci b):Bx (PE X (.Subscript a b pos) (tOp r ta tb)):=by obtain⟨j⟩:=j;obtain⟨F⟩:=F;exact⟨xb hr j F G⟩
theorem JW {p:Prop}(h:Bx p):p:=by obtain⟨h⟩:=h;exact h
end
end L2
namespace KK
open PySem L2 KM
variable {P:Program}{w:World}{K:Fg}{mg:Aa}{base:Heap}
theorem vN {X:Cx}{es:Ag}{k:Nat}{pos:Pos}{t:TGs}{n:Nat}{K:Fg}(I:X.K=K) (F:X.calm=true) (h:PGs X es t)
  (G:(assignEach es X.env).length=n:=by rfl) (j:(assignEach es X.env).findIdx? (·.1)=none:=by rfl):PG X (.Tuple es k pos) (Xt K n t):=by subst I;exact qu F h G j
theorem qH {X:Cx}{K:Fg}(j:X.K=K):IxR X (ZV K):=by subst j;exact ve
theorem VI {X:Cx}{K:Fg}(j:X.K=K):IxR X (zjR K):=by subst j;exact zU
theorem VM (x y:Rat):decide (x.num*(y.den:Int)<y.num*(x.den:Int))=decide (x<y):=by
 by_cases h:x<y
 ·rw[wo h,wo ((KM.Z4 x y).mpr h)]
 ·rw[wG h,wG λz=>h ((KM.Z4 x y).mp z)]
theorem bdn {n:Nat}{i:Int}(j:0<=i) (h1:i<2^n):Bd n i:=by
 unfold Bd
 have:((2^n:Nat):Int)=(2:Int)^n:=by push_cast;rfl
 lia
theorem bdz {n:Nat}{i:Int}(j : -(2^n)<i) (h1:i<2^n):Bd n i:=by
 unfold Bd
 have:((2^n:Nat):Int)=(2:Int)^n:=by push_cast;rfl
 omega
theorem zao:zF ["top","bottom","one","other"] ["top","bottom"] (zr QI):=scq
theorem zjG (D:Df K mg "_law_low" QI ["top","bottom"] []) (T:TxB K mg):⇑3 "_law_low" 1 ["top","bottom"] [] qm:=by
 rcases r:D.cal (k:=0) zao (λvs H Q E h=>by obtain⟨a,b,rfl,_⟩:=h;rfl) with⟨t,b,rfl,O,hz,k⟩
 refine⟨_,(zA (zb1 (i:=2) (j:=3) rL zao.nd rL rL ⇑1 rL rL %[xk ZY ⇑2 T.nAbs uv %[0|0],xk ZY ⇑2 T.nAbs uv %[1|0]|0] ⇑2)
  (zA (Qd PassesOwn.never (zI zcP (pv 3) zg (zJ _)) (zj (zb1 (i:=2) (j:=3) rfl zao.nd rfl rfl ⇑1 rfl rfl %[3,zD Zn (pv 2) (pv 3)|0] ⇑2)))
  (zA (zZ (zI Z6 (pv 1) zg (zJ _)) (zj (psl (i:=2) zao.nd (zD xS zg (pv 2)))) zQ)
  (zj (zG (xa %[zD qC (pv 0) (pv 2),zD qC (pv 1) (pv 2)|0])))))),?_⟩
 try dsimp only[xi,Cx.nox]
 have hd:=KM.zij (t:=t) O
 have G:Bd 8900 (KM.dv t b):=hz.of_le (KM.zcs O)
 have Y:(Int.gcd (if t<0 then -t else t) (if b<0 then -b else b):Nat)=Int.gcd t b:=by
  rw[v7,v7];simp[Int.gcd]
 refine⟨00,t,rL,⟨00,b,rL,021,?_⟩⟩
 have I:∀(σ:St) (z:Bh),σ=[Si t,Si b,some (.int (KM.dv t b)),z]->zaw (zgb (xN (tOp (rI zaE λi j=>V.int (i.fdiv j)) (xB 0) (xB 2)) (xN (tOp (rI zaE λi j=>V.int (i.fdiv j)) (xB 1) (xB 2)) Xn))) { nx:=λ_ H'=>Q .non H',rt:=Q } σ H:=by
  rintro σ z rfl
  refine⟨01,022,⟨hd,G⟩,01,022,⟨hd,G⟩,?_⟩
  refine⟨⇑5,λp U=>k p _ (zk.upd U) ?_⟩
  show upd H p _ p=_
  rw[zi]
  nofun
  rw[KM.zbK O,KM.zeG O];rfl
 refine zby (λσ H1=>H1=H/\∃x y:Int,σ=[Si t,Si b,Si x,Si y]/\0<=x/\0<=y/\Int.gcd x y=Int.gcd t b)
  (λσ _=>match σ with | [_,_,_,some (.int y)]=>y.toNat | _=>0) ⟨rfl,_,_,rfl,(by rw[v7];lia),(by rw[v7];lia),Y⟩ ?_ ?_
 ·rintro σ H1 F;rcases q:F with⟨rfl,x,y,rfl,hx,S,e⟩
  refine⟨00,rL,00,qp (λh=>?_) (λh=>?_)⟩
  ·have h':0<y:=by
    have:y≠0:=λz=>by subst z;simp at h
    lia
   refine⟨02,022,h',021,⟨rL,021,S,Wq _ ∅,?_⟩,?_⟩
   ·rw[KM.zaV hx h'];exact e
   ·show (x % y).toNat<y.toNat
    have:=uO x h'
    lia
  ·have:y=0:=↥h
   subst this
   have e2:x=(Int.gcd t b:Nat):=by rw[<-e,Int.gcd_zero_right];lia
   refine⟨00,022,00,qp (λh=>?_) (λh=>?_)⟩
   ·have h':b<0:=wF h
    refine⟨00,0,00,rL,I _ (some (.int 0)) ?_⟩
    rw[e2];unfold KM.dv;rw[if_pos h',<-Int.zero_sub];rfl
   ·have h':¬b<0:=λz=>h (wo z)
    refine I _ (some (.int 0)) ?_
    rw[e2];unfold KM.dv;rw[if_neg h']
 ·rintro σ H1 Q1 Q2 W F;rcases q:F with⟨v,e,e1,k1,e3,q⟩
  exact⟨v,e,e1,k1,e3,W _ _ q⟩
theorem zhC:zF ["a","b"] ["a","b"] (zr QE):=scq
theorem zg1 (D:Df K mg "_law_add" QE ["a","b"] []) (O:⇑3 "_law_low" 1 ["top","bottom"] [] qm):⇑3 "_law_add" 2 ["a","b"] [] (xY Sz2 (· + ·)):=by
 rcases r:D.calq (k:=1) zhC with⟨p,q,x,y,rfl,F,G,⟨I,j⟩,k⟩
 exact⟨_,(zj (zG (zH O hr %[zD xc (zD zR (pxt (pv 0)) (pxt (pv 1))) (zD zR (pxt (pv 1)) (pxt (pv 0))),zD zR (pxt (pv 0)) (pxt (pv 1))|0]))),zcW F G I j k⟩
theorem zjY:zF ["a","b"] ["a","b"] (zr VW):=scq
theorem zjE (D:Df K mg "_law_by" VW ["a","b"] []) (O:⇑3 "_law_low" 1 ["top","bottom"] [] qm):⇑3 "_law_by" 2 ["a","b"] [] (xY Sz2 (· * ·)):=by
 rcases r:D.calq (k:=1) zjY with⟨p,q,x,y,rfl,F,G,⟨I,j⟩,k⟩
 exact⟨_,(zj (zG (zH O hr %[zD zR (pxt (pv 0)) (pxt (pv 1)),zD zR (pxt (pv 0)) (pxt (pv 1))|0]))),zbe F G I j k⟩
theorem zhF:zF ["a","b"] ["a","b"] (zr QJ):=scq
theorem zg4 (D:Df K mg "_law_off" QJ ["a","b"] []) (U:⇑3 "_law_low" 1 ["top","bottom"] [] qm):⇑3 "_law_off" 2 ["a","b"] [] (xY Sz2 (· - ·)):=by
 rcases r:D.calq (k:=1) zhF with⟨p,q,x,y,rfl,G,I,⟨S,O⟩,k⟩
 have F:=Bd4 S
 have j:=Bd4 O
 refine⟨_,(zj (zG (zH U hr %[zD xS (zD zR (pxt (pv 0)) (pxt (pv 1))) (zD zR (pxt (pv 1)) (pxt (pv 0))),zD zR (pxt (pv 0)) (pxt (pv 1))|0]))),?_⟩
 try dsimp only[xi,Cx.nox]
 refine⟨00,p,032,.of G,at0 ..,00,q,032,.of I,at1 ..,022,⟨F.1,j.2⟩,00,q,032,.of I,at0 ..,00,p,032,.of G,at1 ..,022,⟨j.1,F.2⟩,022,?_⟩
 refine⟨00,p,032,.of G,at1 ..,00,q,032,.of I,at1 ..,022,⟨F.2,j.2⟩,?_⟩
 refine⟨021,yl (qd x) (qd y),(S.2.mul O.2).md,λr H' e h=>k r H' e ?_⟩
 show zC H' r (x-y)
 rw[<-KM.VN];exact h
inductive QT (vs:Ba)(H:Hp)(Q:VK)(_e3:XK):Prop
 |mk:∀p q x y,(vs=[.ref p,.ref q])->(zC H p x)->(zC H q y)->(Sz2 x y)->(Q (.bl (decide (x<y))) H)->QT vs H Q _e3
theorem zhD:zF ["a","b"] ["a","b"] (zr Xf):=scq
theorem zg2 (D:Df K mg "_law_below" Xf ["a","b"] []):⇑3 "_law_below" 1 ["a","b"] [] QT:=by
 rcases r:D.calq (k:=0) zhD with⟨p,q,x,y,rfl,G,I,⟨S,O⟩,k⟩
 have F:=Bd4 S
 have j:=Bd4 O
 refine⟨_,(zj (zG (xW Z6 (zD zR (pxt (pv 0)) (pxt (pv 1))) (zD zR (pxt (pv 1)) (pxt (pv 0))) (zJ _)))),?_⟩
 try dsimp only[xi,Cx.nox]
 refine⟨00,p,032,.of G,at0 ..,00,q,032,.of I,at1 ..,022,⟨F.1,j.2⟩,00,q,032,.of I,at0 ..,00,p,032,.of G,at1 ..,022,⟨j.1,F.2⟩,022,?_⟩
 show Q (.bl (decide (x.num*(y.den:Int)<y.num*(x.den:Int)))) H
 rw[VM];exact k
inductive zas (K:Fg) (vs:Ba)(H:Hp)(Q:VK)(_e3:XK):Prop
 |mk:∀(a:Addr) (ns:Ak) (k:Int),(vs=[.ref a,.int k])->(SqL K H a (ns.map V.int))->(0<=k)->(∀i,Q (.int i) H)->zas K vs H Q _e3
theorem zhx:zF ["script","k"] ["script","k"] (zr XG):=scq
theorem zgY (D:Df K mg "_law_cell" XG ["script","k"] []) (T:TxB K mg):⇑3 "_law_cell" 1 ["script","k"] [] (zas K):=by
 rcases r:D.cal (k:=0) zhx (λvs H Q E h=>by obtain⟨a,j,i,rfl,_⟩:=h;rfl) with⟨a,j,i,rfl,F,I,k⟩
 refine⟨_,(zA (zZ (zI Z6 (pv 1) (xk xt ⇑2 T.nLen PySem.boot_len %[0|0]) (zJ _)) (zj (zG (xb zU (pv 0) (pv 1) (λ_ _=>rL)))) zQ)
  (zj (zG zg))),?_⟩
 try dsimp only[xi,Cx.nox]
 refine⟨01,a,00,.inl F,022,00,qp (λh=>?_) (λh=>k _)⟩
 have h':i<((j.map V.int).length:Int):=wF h
 rw[wk]at h'
 have G:i.toNat<j.length:=by omega
 have e:(j.map V.int)[i.toNat]?=some (.int j[i.toNat]):=by rw[we,wj G];rfl
 have e2:=xG e
 rw[show ((i.toNat:Nat):Int)=i by omega]at e2
 exact⟨01,a,032,F,e2,k _⟩
inductive zat (vs:Ba)(H:Hp)(Q:VK)(_e3:XK):Prop
 |mk:∀(p:Addr) (n:Int),(vs=[.ref p,.int n])->(100000000<=n)->(vE H p)->(∀(d:Int) H',0<=d->d<n->xo p H H'->Q (.int d) H')->zat vs H Q _e3
theorem zc5:zF ["pool","base","found","k"] ["pool","base"] (zr XQ):=scq
theorem zlP (D:Df K mg "_law_wide" XQ ["pool","base"] []) (T:TxB K mg) (O:⇑3 "_law_next" 1 ["pool","base"] [] qN):⇑3 "_law_wide" 2 ["pool","base"] [] zat:=by
 rcases r:D.calq (k:=1) zc5 with⟨p,n,rfl,hn,Y,k⟩
 refine⟨_,(zA (zZ (zI Z6 (pv 1) (zD vO zg zg) (zJ _)) (zj (zG (zH O hr %[0,1|0]))) zQ)
  (zA (psl (i:=2) zc5.nd zg)
  (zA (qD PassesOwn.never rfl (vi rfl T.nRange %[zg|0]) (pgl (i:=3) zc5.nd) (zj (psl (i:=2) zc5.nd (zD xc (zD zR (pv 2) (zD vO zg zg)) (zH O hr %[0,zD vO zg zg|0])))))
  (zj (zG (zD Zn (pv 2) (pv 1))))))),?_⟩
 try dsimp only[xi,Cx.nox]
 refine⟨00,022,⟨by decide,by decide,by decide⟩,022,00,qp (λh=>?_) (λh=>?_)⟩
 ·exact absurd (wF h) (by show ¬n<10^8;have:(10:Int)^8=100000000:=by decide
                          lia)
 refine⟨00,by decide,by decide,?_⟩
 refine vd (n:=(4:Int).toNat) (lo:=0) (λi σ G=>∃(z:Bh) (g:Int),σ=[Sr p,Si n,Si g,z]/\Bd (30+40*i) g/\xo p H G) ⟨none,0,rfl,Bd.mono (m:=1) (show (0:Int).natAbs<2^1 by decide) ⇑1,xo.refl Y⟩ ?_ ?_
 ·rintro i σ G hi j;rcases q:j with⟨z,g,rfl,I,F⟩
  refine⟨00,022,⟨by decide,by decide,by decide⟩,022,⟨I.mono ∅,Bd.mono (m:=30) (bdn ⇑1 ⇑1) ⇑1⟩,?_⟩
  refine⟨00,022,⟨by decide,by decide,by decide⟩,p,00,by decide,by decide,F.pool,λd G2 d0 d1 t2=>⟨022,021,?_,F.trans t2⟩⟩
  have e:((2:Int)^(28:Int).toNat)=268435456:=by decide
  have S:d<268435456:=by rw[<-e];exact d1
  have W:Bd 30 ((2:Int)^(28:Int).toNat):=bdn ⇑1 ⇑1
  have U:Bd 30 d:=bdn d0 ∅
  exact((I.mul W).add U).mono ∅
 ·rintro σ G j;rcases q:j with⟨z,g,rfl,I,F⟩
  exact⟨01,022,by lia,k _ _ (Wq _ ∅) (uO _ ∅) F⟩
inductive zhW (vs:Ba)(H:Hp)(Q:VK)(_e3:XK):Prop
 |mk:∀(p:Addr) (n:Int),(vs=[.ref p,.int n])->(0<=n)->(n<=1000000)->(vE H p)->(∀r x H',xo p H H'->zC H' r x->Sz 80 x->Q (.ref r) H')->zhW vs H Q _e3
theorem ze8 {d:Int}(j:0<=d) (h1:d<8):∃v:Int,atI [V.int 1,.int 1,.int 1,.int 2,.int 3,.int 4,.int 6,.int ((10:Int)^(5:Int).toNat)] d=some (.int v)/\1<=v/\v<=100000:=by
 have:d=0\/d=1\/d=2\/d=3\/d=4\/d=5\/d=6\/d=7:=by lia
 rcases this with rfl | rfl | rfl | rfl | rfl | rfl | rfl | rfl
 all_goals exact⟨00,by decide,by decide⟩
theorem zc3:zF ["pool","size","bottom"] ["pool","size"] (zr vz):=scq
theorem zlE (D:Df K mg "_law_ratio" vz ["pool","size"] []) (G:⇑3 "_law_next" 1 ["pool","base"] [] qN) (O:⇑3 "_law_wide" 2 ["pool","base"] [] zat) (cL:⇑3 "_law_low" 1 ["top","bottom"] [] qm):⇑3 "_law_ratio" 3 ["pool","size"] [] zhW:=by
 rcases r:D.calBq (k:=2) zc3 with⟨p,n,rfl,n0,n1,Y,k⟩
 have j:xf 1 _:=hr.md
 refine⟨_,(zE (ZX (i:=2) zc3.nd rL (Or.inl rL) (Jx zU (ZW (zW (Bx.mk zg) (zW (Bx.mk zg) (zW (Bx.mk zg) (zW (Bx.mk zg) (zW (Bx.mk zg) (zW (Bx.mk zg) (zW (Bx.mk zg) (zW (Bx.mk (zD vO zg zg)) vF))))))))) (Bx.mk (zH G j %[0,zg|0])) (λ_ _=>rL))) (Bx.mk (zA (zZ (zI qh (zH G j %[0,zg|0]) zg (zJ _)) (zj (zG (zH cL j %[(zD xS (zH O hr %[0,zD xc (zD zR zg (zD vO zg zg)) zg|0]) (zD vO zg zg)),2|0]))) zQ)
  (zj (zG (zH cL j %[(zD xS (zH G j %[0,zD xc (zD zR zg (pv 1)) zg|0]) (pv 1)),2|0])))))),?_⟩
 try dsimp only[xi,Cx.nox]
 refine⟨022,⟨by decide,by decide,by decide⟩,zL8,λW F=>?_⟩
 refine⟨00,p,00,by decide,by decide,Y.new F,λd1 G1 a1 b1 t1=>?_⟩
 obtain⟨v,ev,v0,v1⟩:=ze8 a1 b1
 refine⟨W,032,.of (t1.keep W _ zi (Y.ne F)),ev,?_⟩
 have T1:xo p H G1:=t1.pre (zk.upd F)
 have vb:Bd 8900 v:=Bd.mono (m:=20) (bdn ∅ ∅) ⇑1
 refine⟨00,p,00,by decide,by decide,t1.pool,λd2 G2 a2 b2 t2=>⟨rfl,00,qp (λh=>?_) (λh=>?_)⟩⟩
 ·refine⟨00,022,⟨by decide,by decide,by decide⟩,022,⟨Bd.mono (m:=2) (bdn ⇑1 ⇑1) ⇑1,Bd.mono (m:=80) (bdn ⇑1 ⇑1) ⇑1⟩,022,p,00,by decide,t2.pool,λV G3 a3 b3 U=>?_⟩
  refine⟨022,⟨by decide,by decide,by decide⟩,022,00,021,by lia,vb,λr H' e h=>k r _ H' (((T1.trans t2).trans U).same e) h (.divInt ∅ ?_ (Bd.mono (m:=20) (bdn ∅ ∅) ⇑1))⟩
  have S:((10:Int)^(20:Int).toNat)=100000000000000000000:=by decide
  have I:V<2*((10:Int)^(20:Int).toNat)+1:=b3
  show Bd 80 (V-(10:Int)^(20:Int).toNat)
  rw[S]at I ⊢
  exact Bd.mono (m:=68) (bdz ∅ ∅) ⇑1
 ·refine⟨01,022,⟨Bd.mono (m:=2) (bdn ⇑1 ⇑1) ⇑1,Bd.mono (m:=30) (bdn ∅ ∅) ⇑1⟩,022,p,00,by lia,by lia,t2.pool,λV G3 a3 b3 U=>?_⟩
  refine⟨00,022,00,021,by lia,vb,λr H' e h=>k r _ H' (((T1.trans t2).trans U).same e) h (.divInt ∅ ?_ (Bd.mono (m:=20) (bdn ∅ ∅) ⇑1))⟩
  exact Bd.mono (m:=30) (bdz ∅ ∅) ⇑1
inductive Jb (vs:Ba)(H:Hp)(Q:VK)(_e3:XK):Prop
 |mk:∀(p:Addr),(vs=[.ref p])->(vE H p)->(∀r x H',xo p H H'->zC H' r x->Sz 5 x->Q (.ref r) H')->Jb vs H Q _e3
theorem ze7 {d:Int}(j:0<=d) (h1:d<4):∃v:Int,atI [V.int 1,.int 1,.int 2,.int 3] d=some (.int v)/\1<=v/\v<=3:=by
 have:d=0\/d=1\/d=2\/d=3:=by lia
 rcases this with rfl | rfl | rfl | rfl
 all_goals exact⟨00,by decide,by decide⟩
theorem zjs {d:Int}(j:0<=d) (h1:d<4):∃v:Int,atI [V.int 1,.int 2,.int 3,.int 6] d=some (.int v)/\1<=v/\v<=6:=by
 have:d=0\/d=1\/d=2\/d=3:=by lia
 rcases this with rfl | rfl | rfl | rfl
 all_goals exact⟨00,by decide,by decide⟩
theorem zc4:zF ["pool"] ["pool"] (zr vA):=scq
theorem zfd (D:Df K mg "_law_speed" vA ["pool"] []) (F:⇑3 "_law_next" 1 ["pool","base"] [] qN) (V:⇑3 "_law_low" 1 ["top","bottom"] [] qm):⇑3 "_law_speed" 2 ["pool"] [] Jb:=by
 refine D.calq (k:=1) zc4 (λf cdv A outer s H vs Q E hr h=>?_)
 obtain⟨p,rfl,S,k⟩:=h
 refine⟨_,(zj (zG (zH V hr %[zD xS (zH F hr %[0,zg|0]) zg,xb zU (xF %[zg,zg,zg,zg|0]) (zH F hr %[0,zg|0]) (λ_ _=>rL)|0]))),?_⟩
 try dsimp only[xi,Cx.nox]
 refine⟨00,p,00,by decide,by decide,S,λd1 W a1 b1 t1=>⟨022,zL4,λG j=>?_⟩⟩
 refine⟨00,p,00,by decide,by decide,t1.pool.new j,λY G2 O I t2=>?_⟩
 obtain⟨v,U,v0,v1⟩:=ze7 O I
 refine⟨G,032,.of (t2.keep G _ zi (t1.pool.ne j)),U,?_⟩
 refine⟨021,by lia,Bd.mono (m:=5) (bdn ∅ ∅) ⇑1,λr H' e h=>k r _ H' ((t1.trans (t2.pre (zk.upd j))).same e) h (.divInt ∅ (bdz ∅ ∅) (bdn ∅ ∅))⟩
inductive zhR (vs:Ba)(H:Hp)(Q:VK)(_e3:XK):Prop
 |mk:∀(p:Addr),(vs=[.ref p])->(vE H p)->(∀r x H',xo p H H'->zC H' r x->Sz 5 x->0<=x->Q (.ref r) H')->zhR vs H Q _e3
theorem zl3:zF ["pool"] ["pool"] (zr QH):=scq
theorem zlv (D:Df K mg "_law_gap" QH ["pool"] []) (F:⇑3 "_law_next" 1 ["pool","base"] [] qN) (O:⇑3 "_law_low" 1 ["top","bottom"] [] qm):⇑3 "_law_gap" 2 ["pool"] [] zhR:=by
 refine D.calq (k:=1) zl3 (λf cdv A outer s H vs Q E hr h=>?_)
 obtain⟨p,rfl,I,k⟩:=h
 refine⟨_,(zA (zZ (zI qh (zH F hr %[0,zg|0]) zg (zJ _)) (zj (zG (xa %[zg,zg|0]))) zQ)
  (zj (zG (zH O hr %[zD xc zg (zH F hr %[0,zg|0]),xb zU (xF %[zg,zg,zg,zg|0]) (zH F hr %[0,zg|0]) (λ_ _=>rfl)|0])))),?_⟩
 try dsimp only[xi,Cx.nox]
 refine⟨00,p,00,by decide,by decide,I,λd0 G0 a0 b0 t0=>⟨rfl,00,qp (λh=>?_) (λh=>?_)⟩⟩
 ·refine⟨⇑5,λr hr=>k r 0 _ (t0.same (zk.upd hr)) zi ⟨show (0:Int).natAbs<2^5 by decide,show (1:Int).natAbs<2^5 by decide⟩ ⇑1⟩
 ·refine⟨00,p,00,by decide,by decide,t0.pool,λd1 G1 W b1 t1=>⟨022,zL4,λG j=>?_⟩⟩
  refine⟨00,p,00,by decide,by decide,t1.pool.new j,λd2 Y U S t2=>?_⟩
  obtain⟨v,V,v0,v1⟩:=zjs U S
  refine⟨G,032,.of (t2.keep G _ zi (t1.pool.ne j)),V,?_⟩
  refine⟨021,by lia,Bd.mono (m:=5) (bdn ∅ ∅) ⇑1,λr H' e h=>k r _ H' (((t0.trans t1).trans (t2.pre (zk.upd j))).same e) h (.divInt ∅ (bdz ∅ ∅) (bdn ∅ ∅)) (zdH ∅ ∅)⟩
end KK
namespace L2
open PySem PySem.Spec PyProof.Rows
def Jy {J:It}{D:Addr}{N n:Nat}{js:List Nat}{σ:St}{g:TG}{tt:TT}{te:TE}{Z:Hp->Prop}{H:Hp}(F:Nat->Hp->Ba->Prop) (h0:F 0 (upd H D (.lst [])) []) (a2:∀i H ys,i<N->F i H ys->J.go i H) (a1:∀H ys,F N H ys->J.stop N H)
  (hs:∀i x zs H2 I ys (U:Hp->Ba->Prop),(∀H ys,F (i+1) H ys->U H ys)->i<N->zs.length=n->J.yld i H2 x I->F i H2 ys->H2 D=some (.lst ys)->g x (zs++qY σ js) I λG Y=>G.drop n=qY σ js/\tt G Y λb j =>
   if b=true then te G j (λv O=>O D=some (.lst ys)/\ys.length<sizeLine/\U (upd O D (.lst (ys++[v]))) (ys++[v]))else j D=some (.lst ys)/\U j ys)
  (hd:∀H ys,F N H ys->H D=some (.lst ys)->Z H) :
  ∃W:Nat->Nat->Hp->Ba->Prop,(∃m,W 0 m (upd H D (.lst [])) [])/\∀i m H2 ys,W i m H2 ys->H2 D=some (.lst ys)->(J.stop i H2/\Z H2) ∨
   (J.go i H2/\∀zs x I,zs.length=n->J.yld i H2 x I->g x (zs++qY σ js) I λG Y=>G.drop n=qY σ js/\tt G Y λb j=>if b=true then te G j (λv O=>O D=some (.lst ys)/\ys.length<sizeLine/\∃S,S<m/\W (i+1) S (upd O D (.lst (ys++[v]))) (ys++[v]))
    else j D=some (.lst ys)/\∃S,S<m/\W (i+1) S j ys):=XY (Q:=λ_ H=>Z H) F h0 a2 a1 hs hd
end L2
namespace KK
open PySem L2 KM
variable {P:Program}{w:World}{K:Fg}{mg:Aa}{base:Heap}
theorem Xq {D:vq}{σ:St}{H:Hp}(h:D.nx σ H):ziL D σ H:=h
theorem xr {t u:TS}{D:vq}{σ:St}{H:Hp}(R:St->Hp->Prop) (h2:∀j H',R j H'->u D j H') (h1:∀nx:St->Hp->Prop,(∀j H',R j H'->nx j H')->t { D with nx:=nx } σ H):Jo t u D σ H:=h1 (u D) h2
theorem zY {p:Addr}{H H':Hp}(j:vE H p) (s:xo p H H'):zX H H':=λb xs e=>s.tup j e
theorem xo.free {p l:Addr}{H G:Hp}(s:xo p H G) (h:G l=none):H l=none:=by
 cases hh:H l with
 |none=>rfl
 |some o =>
  by_cases e:l=p
  ·subst e;obtain⟨_,_,_,z⟩:=s.pool;rw[z]at h;cases h
  ·rw[s.keep _ _ hh e]at h;cases h
theorem xo.put {p l:Addr}{H G:Hp}(s:xo p H G) (h:H l=none) (n:l≠p) (o:HO):xo p H (upd G l o) :=
 ⟨by obtain⟨I,F,j,e⟩:=s.pool;exact⟨I,F,j,by rw[zK (Ne.symm n)];exact e⟩,λb u e m=>by rw[zK (λz=>by rw[z,h]at e;cases e)];exact s.keep b u e m⟩
theorem ZR {α:Type}{xs:List α}(h:xs.length=1):∃a,xs=[a]:=by
 match xs,h with
 |[a],_=>exact⟨a,rfl⟩
theorem zjr {d:Int}(j:0<=d) (h1:d<3):∃v:Int,atI [V.int 1,.int 5,.int 1000] d=some (.int v)/\1<=v/\v<=1000:=by
 have:d=0\/d=1\/d=2:=by lia
 rcases this with rfl | rfl | rfl
 all_goals exact⟨00,by decide,by decide⟩
theorem Vo {α:Type}(v:α):∀n:Nat,(List.replicate n [v]).flatten=List.replicate n v
 |0=>rfl
 |n+1=>by rw[yW,uQ,Vo v n,yW];rfl
inductive zky (vs:Ba)(H:Hp)(Q:VK)(_e3:XK):Prop
 |mk:∀(p:Addr) (n:Nat),(vs=[.ref p,.int (n:Int)])->(1<=n)->(n<=8)->(vE H p)->(∀l (ws:Ak) H',xo p H H'->H l=none->H' l=some (.lst (ws.map V.int))->ws.length=n->(∀x∈ws,1<=x/\x<=1000)->Q (.ref l) H')->zky vs H Q _e3
theorem ziH:zF ["pool","many","sort"] ["pool","many"] (zr Zd):=scq
theorem zlO (D:Df K mg "_law_weights" Zd ["pool","many"] []) (T:TxB K mg) (cN:⇑3 "_law_next" 1 ["pool","base"] [] qN):⇑3 "_law_weights" 2 ["pool","many"] [] zky:=by
 rcases r:D.calq (k:=1) ziH with⟨p,n,rfl,n1,n8,hP,k⟩
 refine⟨_,(zA (Qz (i:=2) ziH.nd rL (Or.inr rL) (zH cN hr %[0,zg|0]))
  (zA (zZ (zI qh (pv 2) zg (zJ _)) (zj (zG (zD zbZ (JW (ZW (zW (Jx zU (ZW (zW (Bx.mk zg) (zW (Bx.mk zg) (zW (Bx.mk zg) vF)))) (Bx.mk (zH cN hr %[0,zg|0])) (λ_ _=>rfl)) vF))) (pv 1)))) zQ)
  (zj (zG (Zj (NB:=["k"]) (FR:=["pool","sort"]) (js:=[0,2]) rfl rfl (λ_ _ h=>h) (.cons rfl rfl rfl ⟨_,rfl⟩ (.cons rfl rfl rfl ⟨_,rfl⟩ .nil)) rfl ⇑0 rfl ⇑0 (vi rfl T.nRange %[1|0]) (by intro _ _ _;refine⟨?_,?_,?_⟩;(exact(pgl (i:=0) (show List.Nodup (["k","pool","sort"]:Ad) by decide +kernel)));(exact xI);(exact(zD xc zg (zH cN hr %[1,xb (VI (K:=K) rfl) (xF %[zg,zg|0]) (zD xS (pv 2) zg) (λ_ _=>rfl)|0]))))))))),?_⟩
 try dsimp only[xi,Cx.nox]
 refine⟨00,p,00,by decide,by decide,hP,λso G1 a1 b1 t1=>?_⟩
 refine⟨00,rL,00,qp (λh=>?_) (λh=>?_)⟩
 ·refine⟨zL3,λl1 j=>?_⟩
  refine⟨00,p,00,by decide,by decide,t1.pool.new j,λd2 G2 a2 b2 t2=>?_⟩
  obtain⟨v,ev,v0,v1⟩:=zjr a2 b2
  refine⟨l1,032,.of (t2.keep l1 _ zi (t1.pool.ne j)),ev,zL1,λl2 a4=>?_⟩
  have T2:xo p H G2:=t1.trans (t2.pre (zk.upd j))
  refine⟨00,l2,022,zi,by lia,by lia,?_,λl3 U=>?_⟩
  ·refine szl ?_
   show 1*((n:Int).toNat)<=1000
   lia
  have T3:=T2.same (zk.upd (o:=.lst [.int v]) a4)
  refine k l3 (List.replicate n v) _ (T3.same (zk.upd U)) (T3.free U) ?_ (by simp) (λx m=>by have:=Wi m;lia)
  rw[zi,show ((n:Int)).toNat=n by lia,Vo];simp
 ·have hs:so=1\/so=2:=by
   have:so≠0:=λz=>by subst z;exact h ⇑1
   lia
  refine⟨00,(n:Int),rfl,by lia,by lia,λDc F=>?_⟩
  have a3:Dc≠p:=t1.pool.ne F
  refine Jy (js:=[0,2]) (J:=Itr 0 ((n:Int)).toNat) (g:=zM 0) (tt:=λ_ H Q=>Q true H) (te:=_) (N:=n) (n:=1) (λi G ys=>xo p G1 G/\∃ws:Ak,ys=ws.map V.int/\ws.length=i/\∀x∈ws,1<=x/\x<=1000)
   ⟨⟨t1.pool.new F,λb o e _=>zk.upd F _ _ e⟩,[],rfl,rfl,λv hv=>by cases hv⟩ (λi G ys hi z=>by show i<((n:Int)).toNat;lia) (λG ys z=>by show ((n:Int)).toNat<=n;lia) ?_ ?_
  ·rintro i x zs G_ G ys Nx hN hi a6 ⟨rfl,rfl⟩ ⟨tG,ws,rfl,I,O⟩ S
   obtain⟨y1,rfl⟩:=ZR a6
   refine⟨rL,xp ?_⟩
   refine⟨00,⇑5,λl1 j=>?_⟩
   obtain⟨W,a5,m0,m1⟩:∃W:Int,atI [V.int 9,.int 1000] (so-1)=some (.int W)/\9<=W/\W<=1000:=by
    rcases hs with rfl | rfl
    ·exact⟨9,rfl,by decide,by decide⟩
    ·exact⟨1000,rfl,by decide,by decide⟩
   refine⟨00,022,l1,032,.of zi,a5,?_⟩
   refine⟨p,W,rfl,by lia,by lia,tG.pool.new j,λd2 G3 a2 b2 t3=>⟨022,?_⟩⟩
   have Y:xo p G G3:=t3.pre (zk.upd j)
   have h3:=Y.keep _ _ S a3
   refine⟨h3,xn (by simp;lia),hN _ _ ⟨(tG.trans Y).put F a3 _,ws++[1+d2],by simp,by simp[I],λv hv=>?_⟩⟩
   rcases wK.mp hv with z | z
   ·exact O v z
   ·have:v=1+d2:=↥z
    lia
  ·rintro G ys ⟨tG,ws,rfl,I,O⟩ S
   exact k Dc ws G (t1.trans tG) (t1.free F) S I O
theorem zk2 (x:Rat):PyData.eqv (.tuple [.int x.num,.int (x.den:Int)]) (.tuple [.int 0,.int 1])=decide (x=0):=XA x 0
inductive zfV (vs:Ba)(H:Hp)(Q:VK)(_e3:XK):Prop
 |mk:∀(p:Addr) (mo:Int),(vs=[.ref p,.int mo])->(1<=mo)->(mo<=8)->(vE H p)->(∀r us bs H',xo p H H'->H' r=some (.tup us)->zL H' us bs->Qn bs->1<=bs.length->bs.length<=8->Q (.ref r) H')->zfV vs H Q _e3
theorem Xk:zF ["pool","most","many","weights","place","row","k","speed","gap"] ["pool","most"] (zr QK):=scq
theorem zlI (D:Df K mg "_law_row" QK ["pool","most"] []) (T:TxB K mg) (cN:⇑3 "_law_next" 1 ["pool","base"] [] qN) (cWe:⇑3 "_law_weights" 2 ["pool","many"] [] zky) (cRa:⇑3 "_law_ratio" 3 ["pool","size"] [] zhW)
  (cSp:⇑3 "_law_speed" 2 ["pool"] [] Jb) (cGa:⇑3 "_law_gap" 2 ["pool"] [] zhR) (cA:⇑3 "_law_add" 2 ["a","b"] [] (xY Sz2 (· + ·))) (cBl:⇑3 "_law_below" 1 ["a","b"] [] QT):⇑3 "_law_row" 4 ["pool","most"] [] zfV:=by
 rcases r:D.calq (k:=3) Xk with⟨p,mo,rfl,o1,o8,hP,k⟩
 have hr1:xf 1 _:=hr.md
 have hr2:xf 2 _:=hr.md
 have hu:=hr.units
 refine⟨_,(zA (psl (i:=2) Xk.nd (zD xc zg (zH cN hr1 %[0,1|0])))
  (zA (psl (i:=3) Xk.nd (zH cWe hr2 %[0,2|0]))
  (zA (psl (i:=4) Xk.nd (zH cRa hr %[0,zg|0]))
  (zA (psl (i:=5) Xk.nd (xF zf))
  (zA (qD PassesOwn.never rfl (vi rfl T.nRange %[2|0]) (pgl (i:=6) Xk.nd) (zA (psl (i:=7) Xk.nd (zH cSp hr2 %[0|0]))
  (zA (zZ (zI Vc (pv 6) zg (zJ _)) (zA (psl (i:=8) Xk.nd (zH cGa hr2 %[0|0]))
  (zA (psl (i:=4) Xk.nd (zH cA hr2 %[4,8|0]))
  (zA (zZ (zI qh (zH cN hr1 %[0,zg|0]) zg (zJ _)) (zj (psl (i:=7) Xk.nd (pxt (xb zU (pv 5) (Qc ZH zg) (λ_ _=>rfl))))) zQ)
  (zj (zZ (qk (zI (vh hu) (pv 8) (xa %[zg,zg|0]) (zJ _)) (x8 (qE (xv (zH cBl hr1 %[pxt (xb zU (pv 5) (Qc ZH zg) (λ_ _=>rfl)),7|0]) λ_=>rfl)))).pt (zj (psl (i:=7) Xk.nd (zH cA hr2 %[pxt (xb zU (pv 5) (Qc ZH zg) (λ_ _=>rfl)),(xa %[zD xc zg (zH cN hr1 %[0,zg|0]),zg|0])|0]))) zQ))))) zQ)
  (zj (qz (Vd yx yN yO qO (pv 5) %[(xa %[4,7,xb zU (pv 3) (pv 6) (λ_ _=>rfl)|0])|0]))))))
  (zj (zG (qj qv ⇑2 T.nTuple yy %[5|0])))))))),?_⟩
 try dsimp only[xi,Cx.nox]
 refine⟨01,p,00,by lia,by lia,hP,λd1 G1 a1 b1 t1=>⟨022,?_⟩⟩
 obtain⟨n,hn⟩:∃n:Nat,(n:Int)=1+d1:=⟨(1+d1).toNat,by lia⟩
 dsimp only[zM]
 rw[<-hn]
 refine⟨01,p,n,rfl,by lia,by lia,t1.pool,λlw ws G2 t2 hlw hw hwl hwv=>?_⟩
 refine⟨00,p,00,by decide,by decide,t2.pool,λpp pl G3 t3 hpp zpl=>?_⟩
 refine⟨by show 0<=sizeLine;exact yo _,λlr hlr=>?_⟩
 have T3:=(t1.trans t2).trans t3
 have hlwp:lw≠p:=t1.pool.ne hlw
 have hw3:=t3.keep _ _ hw hlwp
 have hrp:lr≠p:=T3.pool.ne hlr
 have hrH:=T3.free hlr
 have hlwr:lw≠lr:=λz=>by rw[z,hlr]at hw3;cases hw3
 dsimp only[zM]
 refine zau ?_
 refine⟨00,(n:Int),rfl,by lia,by lia,?_⟩
 refine vd (n:=((n:Int)).toNat) (lo:=0) (λi σ G=>∃pp pl us bs z6 z7 z8,σ=[Sr p,Si mo,some (.int (n:Int)),Sr lw,Sr pp,Sr lr,z6,z7,z8]/\xo p H G/\G lw=some (.lst (ws.map V.int))/\zC G pp pl/\Sz (80+10*i) pl/\G lr=some (.lst us)/\zL G us bs/\bs.length=i/\Qn bs ∧
   (∀cs c,bs=cs++[c]->c.pl=pl/\Sz (5+8*i) c.sp))
  ⟨pp,pl,[],[],none,none,none,rfl,T3.same (zk.upd hlr),zk.upd hlr _ _ hw3,zk.upd hlr _ _ hpp,zpl,zi,.nil,rfl,Qn.nil,λcs c e=>by simp at e⟩ ?_ ?_
 ·rintro i σ G hi hQq;rcases q:hQq with⟨pp,pl,us,bs,z6,z7,z8,rfl,TG,hwG,hppG,zplG,hlrG,hB,hbl,hGo,hlast⟩
  have hin:i<n:=by lia
  refine⟨00,p,rL,TG.pool,λrs sp G4 t4 hrs zsp=>?_⟩
  have T4:=TG.trans t4
  have Tu4:=zY TG.pool t4
  dsimp only[zM]
  refine xr (λσ' G'=>∃pp' pl' rs' sp' z8',σ'=[Sr p,Si mo,some (.int (n:Int)),Sr lw,Sr pp',Sr lr,some (.int (0+(i:Int))),Sr rs',z8']/\xo p H G'/\G' lw=some (.lst (ws.map V.int))/\zC G' pp' pl'/\Sz (80+10*(i+1)) pl'/\G' lr=some (.lst us)/\zL G' us bs ∧
   zC G' rs' sp'/\Sz (5+8*(i+1)) sp'/\∀wt cs c,bs=cs++[c]->ZU c ⟨pl',sp',wt⟩) ?_ ?_
  ·rintro σ' G5 hQq;rcases q:hQq with⟨pp',pl',rs',sp',z8',rfl,T5,hw5,hpp5,zpl5,hlr5,hB5,hrs5,zsp5,hlex⟩
   obtain⟨wt,ewt⟩:∃wt,ws[i]?=some wt:=⟨_,wj ∅⟩
   have hwt:=hwv wt (wm ewt)
   have ewv:(ws.map V.int)[i]?=some (.int wt):=by rw[we,ewt];rfl
   have eat:atI (ws.map V.int) (0+(i:Int))=some (.int wt):=by rw[Int.zero_add];exact xG ewv
   refine⟨00,.inl ⟨rL,_,SqL.of hlr5⟩,03,lw,032,.of hw5,eat,zL3,λt ht=>?_⟩
   refine⟨lr,us,00,rfl,zk.upd ht _ _ hlr5,xn (by rw[hB.length];lia),?_⟩
   have Tt:zX G5 (upd (upd G5 t (.tup [.ref pp',.ref rs',.int wt])) lr (.lst (us++[.ref t]))):=(zX.of (zk.upd ht)).trans (.upd (zk.upd ht _ _ hlr5))
   refine⟨pp',pl',us++[.ref t],bs++[⟨pl',sp',wt⟩],031,(T5.same (zk.upd ht)).put hrH hrp _,?_,Tt _ _ hpp5,zpl5,zi,?_,by simp[hbl],hGo.snoc hwt ⟨zpl5.mono ∅,zsp5.mono ∅⟩ (hlex wt),?_⟩
   ·rw[zK hlwr];exact zk.upd ht _ _ hw5
   ·exact zL.append (.one (b:=⟨pl',sp',wt⟩) (zX.upd (zk.upd ht _ _ hlr5) _ _ zi) (Tt _ _ hpp5) (Tt _ _ hrs5)) (hB5.mono Tt)
   ·intro cs c e
    have e2:=Wx e rfl
    have:c=⟨pl',sp',wt⟩:=by injection e2 with e3;exact e3.symm
    subst this
    exact⟨rL,zsp5⟩
  ·intro nx hnx
   refine⟨00,022,00,qp (λh=>?_) (λh=>?_)⟩
   ·have hi0:0<i:=by have z:(0:Int)<0+(i:Int):=wF h
                     lia
    obtain⟨cs,c,hcs⟩:∃cs c,bs=cs++[c]:=by
     rcases WG bs with e | ⟨cs,c,e⟩
     ·rw[e]at hbl;simp at hbl;lia
     ·exact⟨cs,c,↥e⟩
    obtain⟨hcpl,zc⟩:=hlast cs c hcs
    have hB':=hB
    rw[hcs]at hB'
    rcases q:hB'.last with⟨us0,la,lp,lq,eus,hla,hlp,hlq⟩
    have elast:atI us (-1)=some (.ref la):=by rw[eus];exact Vv _ _
    refine⟨00,p,rL,T4.pool,λrg ga G5 t5 hrg zga gnn=>?_⟩
    have Tu5:=zY T4.pool t5
    refine⟨01,pp,rg,pl,ga,rL,Tu5 _ _ (Tu4 _ _ hppG),hrg,⟨zplG.mono ∅,zga.md⟩,λpp' G6 e6 hpp'=>?_⟩
    have T6:=(T4.trans t5).same e6
    have Tu6:zX G G6:=(Tu4.trans Tu5).trans (.of e6)
    have hw6:=e6 _ _ (t5.keep _ _ (t4.keep _ _ hwG hlwp) hlwp)
    have hlr6:=e6 _ _ (t5.keep _ _ (t4.keep _ _ hlrG hrp) hrp)
    have hrs6:zC G6 rs sp:=e6 _ _ (Tu5 _ _ hrs)
    have zpl':Sz (80+10*(i+1)) (pl+ga):=(zplG.add zga).mono ∅
    have hrg6:zC G6 rg ga:=e6 _ _ hrg
    dsimp only[zM]
    refine xr (λσ' G'=>∃rs' sp',σ'=[Sr p,Si mo,some (.int (n:Int)),Sr lw,Sr pp',Sr lr,some (.int (0+(i:Int))),Sr rs',Sr rg]/\xo p H G'/\G' lw=some (.lst (ws.map V.int))/\zX G6 G'/\G' lr=some (.lst us)/\zC G' rs' sp'/\Sz (5+8*i) sp') ?_ ?_
    ·rintro σ' G7 hQq;rcases q:hQq with⟨rs',sp',rfl,T7,hw7,Tu7,hlr7,hrs7,zs7⟩
     have hrg7:=Tu7 _ _ hrg6
     have hla7:=Tu7 _ _ (Tu6 _ _ hla)
     have hlq7:zC G7 lq c.sp:=Tu7 _ _ (Tu6 _ _ hlq)
     refine⟨00,⇑5,λtz htz=>?_⟩
     refine⟨_,_,zC.rd (zk.upd htz _ _ hrg7),.tup zi (.cons (.int 0) (.cons (.int 1) .nil)),xy _,rL,00,?_⟩
     rw[zk2]
     have Tu8:zX G7 (upd G7 tz (.tup [.int 0,.int 1])):=.of (zk.upd htz)
     have T8:=T7.same (zk.upd (o:=.tup [.int 0,.int 1]) htz)
     have hw8:=zk.upd (o:=.tup [.int 0,.int 1]) htz _ _ hw7
     have hlr8:=zk.upd (o:=.tup [.int 0,.int 1]) htz _ _ hlr7
     generalize upd G7 tz (.tup [.int 0,.int 1])=G8 at *
     have hla8:=Tu8 _ _ hla7
     have hpp8:zC G8 pp' (pl+ga):=Tu8 _ _ (Tu7 _ _ hpp')
     have hB8:zL G8 us bs:=hB.mono (Tu6.trans (Tu7.trans Tu8))
     have out:∀rs'' sp'' G',xo p H G'->G' lw=some (.lst (ws.map V.int))->zX G8 G'->G' lr=some (.lst us)->zC G' rs'' sp''->Sz (5+8*(i+1)) sp''->(ga=0->c.sp<sp'')->nx [some (.ref p),some (.int mo),some (.int (n:Int)),some (.ref lw),some (.ref pp'),some (.ref lr),some (.int (0+(i:Int))),some (.ref rs''),some (.ref rg)] G':=λrs'' sp'' G' T' hw' Tu' hlr' hrs' zs' hx =>
      hnx _ _ ⟨pp',pl+ga,rs'',sp'',_,rfl,T',hw',Tu' _ _ hpp8,zpl',hlr',hB8.mono Tu',hrs',zs',λwt cs' c' e=>by
       have:c'=c:=by
        rw[hcs]at e
        have:=Wx e rfl
        injection this with e3;exact e3.symm
       subst this
       by_cases hg:ga=0
       ·exact .inr ⟨by show c'.pl=pl+ga;rw[hcpl,hg];grind,hx hg⟩
       ·exact .inl (by show c'.pl<pl+ga;rw[hcpl];grind)⟩
     by_cases hg:ga=0
     ·rw[wo hg]
      refine xp ⟨_,rL,_,rL,lr,_,_,_,rL,rL,.of hlr8,elast,la,_,_,_,rL,rL,.of hla8,rL,_,rL,lq,rs',c.sp,sp',rL,Tu8 _ _ hlq7,Tu8 _ _ hrs7,⟨zc.mono ∅,zs7.mono ∅⟩,_,rL,?_⟩
      by_cases hlt:c.sp<sp'
      ·rw[wo hlt]
       exact xm (out rs' sp' G8 T8 hw8 (.of (zk.refl _)) hlr8 (Tu8 _ _ hrs7) (zs7.mono ∅) λ_=>hlt)
      ·rw[wG hlt]
       refine xp ⟨_,rL,_,rL,lr,_,_,_,rL,rL,.of hlr8,elast,la,_,_,_,rL,rL,.of hla8,rL,?_⟩
       refine⟨00,p,00,by decide,by decide,T8.pool,λd9 G9 a9 b9 t9=>⟨022,⇑5,λta hta=>?_⟩⟩
       have Tu9:=zY T8.pool t9
       have hone:zC (upd G9 ta (.tup [.int (1+d9),.int 1])) ta ((1+d9:Int):Rat):=by
        show upd G9 ta (.tup [.int (1+d9),.int 1]) ta=some (.tup (rp ((1+d9:Int):Rat)))
        rw[zi];unfold rp;rw[KM.J8,KM.J7];rfl
       have zone:Sz 4 ((1+d9:Int):Rat):=.int (bdn ∅ ∅) ⇑1
       refine⟨lq,ta,c.sp,00,zk.upd hta _ _ (Tu9 _ _ (Tu8 _ _ hlq7)),hone,⟨zc.mono ∅,zone.md⟩,λrn GA eA hrn=>?_⟩
       refine out rn _ GA (((T8.trans t9).same (zk.upd hta)).same eA) (eA _ _ (zk.upd hta _ _ (t9.keep _ _ hw8 hlwp))) ((Tu9.trans (.of (zk.upd hta))).trans (.of eA)) (eA _ _ (zk.upd hta _ _ (t9.keep _ _ hlr8 hrp))) hrn ((zc.add zone).mono ∅) λ_=>?_
       have:(0:Rat)<((1+d9:Int):Rat):=Rat.intCast_pos.mpr ∅
       show c.sp<c.sp+((1+d9:Int):Rat)
       grind
     ·rw[wG hg]
      exact xm (xm (out rs' sp' G8 T8 hw8 (.of (zk.refl _)) hlr8 (Tu8 _ _ hrs7) (zs7.mono ∅) λz=>absurd z hg))
    ·intro nx2 hnx2
     refine⟨00,p,00,by decide,by decide,T6.pool,λd7 G7 a7 b7 t7=>⟨rfl,00,qp (λh=>?_) (λh=>?_)⟩⟩
     ·have Tu7:=zY T6.pool t7
      have hlr7:=t7.keep _ _ hlr6 hrp
      have hlaZ:=Tu7 _ _ (Tu6 _ _ hla)
      exact⟨01,lr,032,.of hlr7,elast,la,032,.of hlaZ,rL,hnx2 _ _ ⟨lq,c.sp,rL,T6.trans t7,t7.keep _ _ hw6 hlwp,Tu7,hlr7,Tu7 _ _ (Tu6 _ _ hlq),zc⟩⟩
     ·have Tu7:=zY T6.pool t7
      exact hnx2 _ _ ⟨rs,sp,rL,T6.trans t7,t7.keep _ _ hw6 hlwp,Tu7,t7.keep _ _ hlr6 hrp,Tu7 _ _ hrs6,zsp.mono ∅⟩
   ·have hi0:i=0:=by
     rcases yQ i with z | z
     ·exact z
     ·exact absurd (wo (show (0:Int)<0+(i:Int) by lia)) h
    exact hnx _ _ ⟨pp,pl,rs,sp,_,rfl,T4,t4.keep _ _ hwG hlwp,Tu4 _ _ hppG,zplG.mono ∅,t4.keep _ _ hlrG hrp,hB.mono Tu4,hrs,zsp.mono ∅,λwt cs c e=>by
     rw[e]at hbl;simp at hbl;lia⟩
 ·rintro σ G hQq;rcases q:hQq with⟨pp,pl,us,bs,z6,z7,z8,rfl,TG,hwG,hppG,zplG,hlrG,hB,hbl,hGo,hlast⟩
  refine⟨00,lr,us,rL,.inl ⟨.of hlrG,λr hr'=>k r us bs _ (TG.same (zk.upd hr')) zi (hB.same (zk.upd hr')) hGo ∅ ∅⟩⟩
theorem zfv {j:Int}(h:j=1\/j=-1):rp (j:Rat)=[.int j,.int 1]:=by unfold rp;rw[KM.J8,KM.J7];rfl
theorem Je {j:Int}(h:j=1\/j=-1):Sz 2 (j:Rat):=.int (by rcases h with rfl | rfl <;> (show (_:Int).natAbs<2^2;decide)) ⇑1
inductive zj6 (vs:Ba)(H:Hp)(Q:VK)(_e3:XK):Prop
 |mk:∀(p a bp bq:Addr) (b:zB) (sd:Int),(vs=[.ref p,.ref a,.int sd])->((sd=1\/sd=-1))->(H a=some (.tup [.ref bp,.ref bq,.int b.wt]))->(zC H bp b.pl)->(zC H bq b.sp)->(Sz 300 b.pl)->(Sz 80 b.sp)->(vE H p)->((∀H',xo p H H'->Q .non H'))->(∀r rp rq x y H',xo p H H'->H' r=some (.tup [.ref rp,.ref rq])->zC H' rp x->zC H' rq y->Sz 310 x->Sz 80 y->(∃g:Rat,0<=g/\x=b.pl+(sd:Rat)*g/\(g=0->(sd:Rat)*b.sp<=(sd:Rat)*y))->Q (.ref r) H')->zj6 vs H Q _e3
theorem zcY:zF ["pool","ball","side","gap","speed"] ["pool","ball","side"] (zr Xg):=scq
theorem zlh (D:Df K mg "_law_bound" Xg ["pool","ball","side"] []) (cN:⇑3 "_law_next" 1 ["pool","base"] [] qN) (e2:⇑3 "_law_speed" 2 ["pool"] [] Jb) (f5:⇑3 "_law_gap" 2 ["pool"] [] zhR)
  (cA:⇑3 "_law_add" 2 ["a","b"] [] (xY Sz2 (· + ·))) (a8:⇑3 "_law_by" 2 ["a","b"] [] (xY Sz2 (· * ·))) (f0:⇑3 "_law_below" 1 ["a","b"] [] QT):⇑3 "_law_bound" 3 ["pool","ball","side"] [] zj6:=by
 refine D.calq (k:=2) zcY (λf cdv A outer s H vs Q E F h=>?_)
 rcases q:h with⟨p,a,bp,bq,b,G,rfl,j,ha,f3,e0,c7,b7,hP,kn,ks⟩
 have b5:xf 1 _:=F.md
 have hu:=F.units
 refine⟨_,(zA (zZ (zI qh (zH cN b5 %[0,zg|0]) zg (zJ _)) (zj (zG zV)) zQ)
  (zA (psl (i:=3) zcY.nd (zH f5 F %[0|0]))
  (zA (JW (ZX (i:=4) zcY.nd rfl (Or.inl rfl) (Jx zU (ZW (zW (JX (zW (Bx.mk zg) (zW (Bx.mk zg) vF))) (zW (JX (zW (Bx.mk zg) (zW (Bx.mk zg) vF))) (zW (Bx.mk (zH e2 F %[0|0])) vF)))) (Bx.mk (zH cN b5 %[0,zg|0])) (λ_ _=>rfl))))
  (zA (zZ (qk (zI (vh hu) (pv 3) (xa %[zg,zg|0]) (zJ _)) (x8 (xv (zH f0 b5 %[(zH a8 F %[(xa %[2,zg|0]),4|0]),(zH a8 F %[(xa %[2,zg|0]),pxt (pv 1)|0])|0]) λ_=>rfl))).pt (zj (psl (i:=4) zcY.nd (pxt (pv 1)))) zQ)
  (zj (zG (xa %[(zH cA F %[pxt (pv 1),(zH a8 F %[(xa %[2,zg|0]),3|0])|0]),4|0]))))))),?_⟩
 try dsimp only[xi,Cx.nox]
 refine⟨00,p,00,by decide,by decide,hP,λd1 G1 a1 b1 t1=>⟨rfl,00,qp (λh=>kn G1 t1) (λh=>?_)⟩⟩
 have d6:=zY hP t1
 refine⟨00,p,rL,t1.pool,λrg ga G2 t2 f2 b9 d2=>?_⟩
 have f1:=zY t1.pool t2
 have T2:=t1.trans t2
 refine⟨⇑5,λq1 h1=>?_⟩
 refine⟨⇑5,λq2 h2=>?_⟩
 have Y:=T2.same ((zk.upd (o:=.tup [.int 0,.int 1]) h1).trans (zk.upd (o:=.tup [.int 0,.int 1]) h2))
 refine⟨00,p,rL,Y.pool,λr3 x3 G3 t3 e9 z3=>?_⟩
 have c6:zX G2 G3:=(zX.of ((zk.upd (o:=.tup [.int 0,.int 1]) h1).trans (zk.upd (o:=.tup [.int 0,.int 1]) h2))).trans (zY Y.pool t3)
 have g1:zC G3 q1 0:=zY Y.pool t3 _ _ (zk.upd h2 _ _ zi)
 have g2:zC G3 q2 0:=zY Y.pool t3 _ _ zi
 have T3:=Y.trans t3
 refine⟨zL3,λl3 U=>?_⟩
 refine⟨00,p,00,by decide,by decide,T3.pool.new U,λd4 I a4 b4 t4=>?_⟩
 have b8:zX G3 I:=(zX.of (zk.upd U)).trans (zY (T3.pool.new U) t4)
 have T4:xo p H I:=T3.trans (t4.pre (zk.upd U))
 obtain⟨rs,sp,f6,e3,a3⟩:∃rs sp,atI [V.ref q1,.ref q2,.ref r3] d4=some (.ref rs)/\zC G3 rs sp/\Sz 5 sp:=by
  have zz:Sz 5 (0:Rat):=⟨show (0:Int).natAbs<2^5 by decide,show (1:Int).natAbs<2^5 by decide⟩
  have:d4=0\/d4=1\/d4=2:=by lia
  rcases this with rfl | rfl | rfl
  ·exact⟨q1,0,rL,g1,zz⟩
  ·exact⟨q2,0,rL,g2,zz⟩
  ·exact⟨r3,x3,rL,e9,z3⟩
 refine⟨l3,032,.of (t4.keep l3 _ zi (T3.pool.ne U)),f6,?_⟩
 have b3:zX H I:=((d6.trans f1).trans c6).trans b8
 have b6:=b3 _ _ ha
 have c5:zC I bp b.pl:=b3 _ _ f3
 have a6:zC I bq b.sp:=b3 _ _ e0
 have a5:zC I rg ga:=b8 _ _ (c6 _ _ f2)
 have S:zC I rs sp:=b8 _ _ e3
 dsimp only[zM]
 refine xr (λσ' G'=>∃a2 O,σ'=[Sr p,Sr a,Si G,Sr rg,Sr a2]/\xo p H G'/\zX I G'/\zC G' a2 O/\Sz 80 O/\(ga=0->(G:Rat)*b.sp<=(G:Rat)*O)) ?_ ?_
 ·rintro σ' G5 d5;rcases q:d5 with⟨a2,O,rfl,T5,c0,d0,d7,e8⟩
  have a7:=c0 _ _ b6
  refine⟨00,a,032,.of a7,rL,00,⇑5,λts c4=>?_⟩
  have c3:zC (upd G5 ts (.tup [.int G,.int 1])) ts (G:Rat):=by unfold zC;rw[zfv j];exact zi
  refine⟨00,ts,rg,021,c3,zk.upd c4 _ _ (c0 _ _ a5),⟨(Je j).md,b9.md⟩,λrm G6 e6 e4=>?_⟩
  have S6:zk G5 G6:=(zk.upd c4).trans e6
  refine⟨bp,rm,021,S6 _ _ (c0 _ _ c5),e4,⟨c7.md,((Je j).mul b9).md⟩,λd8 G7 e7 f7=>?_⟩
  refine⟨00,⇑5,λrr a9=>?_⟩
  have S7:=S6.trans e7
  exact ks rr d8 a2 _ O _ ((T5.same S7).same (zk.upd a9)) zi (zk.upd a9 _ _ f7) (zk.upd a9 _ _ (S7 _ _ d0)) ((c7.add ((Je j).mul b9)).md) d7 ⟨ga,d2,rL,e8⟩
 ·intro nx b0
  refine⟨00,⇑5,λtz c1=>?_⟩
  refine⟨_,_,zC.rd (zk.upd c1 _ _ a5),.tup zi (.cons (.int 0) (.cons (.int 1) .nil)),xy _,rL,00,?_⟩
  rw[zk2]
  have S5:zk I (upd I tz (.tup [.int 0,.int 1])):=zk.upd c1
  have T5:=T4.same S5
  generalize upd I tz (.tup [.int 0,.int 1])=G5 at *
  have a7:=S5 _ _ b6
  by_cases hg:ga=0
  ·rw[wo hg]
   refine xp ⟨_,rL,⇑5,λs1 c8=>?_⟩
   have c9:zC (upd G5 s1 (.tup [.int G,.int 1])) s1 (G:Rat):=by unfold zC;rw[zfv j];exact zi
   refine⟨00,s1,rs,021,c9,zk.upd c8 _ _ (S5 _ _ S),⟨(Je j).md,a3.md⟩,λm1 G6 e6 e5=>?_⟩
   have S6:zk G5 G6:=(zk.upd c8).trans e6
   refine⟨00,⇑5,λs2 b2=>?_⟩
   have c2:zC (upd G6 s2 (.tup [.int G,.int 1])) s2 (G:Rat):=by unfold zC;rw[zfv j];exact zi
   have d9:=zk.upd (o:=.tup [.int G,.int 1]) b2 _ _ (S6 _ _ a7)
   refine⟨00,a,032,.of d9,rL,s2,bq,021,c2,zk.upd b2 _ _ (S6 _ _ (S5 _ _ a6)),⟨(Je j).md,b7.md⟩,λm2 G7 e7 d3=>?_⟩
   have S7:zk G6 G7:=(zk.upd b2).trans e7
   refine⟨m1,m2,021,S7 _ _ e5,d3,⟨((Je j).mul a3).md,((Je j).mul b7).md⟩,00,?_⟩
   have W:zk I G7:=S5.trans (S6.trans S7)
   have T7:=(T5.same S6).same S7
   by_cases hlt:(G:Rat)*sp<(G:Rat)*b.sp
   ·rw[wo hlt]
    have f4:=W _ _ b6
    exact xp ⟨_,rL,a,_,_,_,rL,rL,.of f4,rL,b0 _ _ ⟨bq,b.sp,rL,T7,.of W,W _ _ a6,b7,λ_=>Wd⟩⟩
   ·rw[wG hlt]
    exact xm (b0 _ _ ⟨rs,sp,rL,T7,.of W,W _ _ S,a3.md,λ_=>Rat.not_lt.mp hlt⟩)
  ·rw[wG hg]
   exact xm (xm (b0 _ _ ⟨rs,sp,rL,T5,.of S5,S5 _ _ S,a3.md,λz=>absurd z hg⟩))
abbrev Wl:=Be
def zT (H:Hp) (v:V):Wl->Prop
 |none=>v=.non
 |some (x,y)=>∃a p q,v=.ref a/\H a=some (.tup [.ref p,.ref q])/\zC H p x/\zC H q y
theorem zT.tups {H H':Hp}{v:V}{l:Wl}(h:zT H v l) (e:zX H H'):zT H' v l:=by
 cases l with
 |none=>exact h
 |some z=>obtain⟨x,y⟩:=z;obtain⟨a,p,q,e1,e2,j,F⟩:=h;exact⟨a,p,q,e1,e _ _ e2,e _ _ j,e _ _ F⟩
structure Box (bs:Bk) (l1 l2:Wl):Prop where
 z1:∀x y,l1=some (x,y)->Sz 320 x/\Sz 80 y
 z2:∀x y,l2=some (x,y)->Sz 320 x/\Sz 80 y
 lo:∀x y b,l1=some (x,y)->bs[0]?=some b->x<=b.pl/\(x=b.pl->y<=b.sp)
 hi:∀x y cs b,l2=some (x,y)->bs=cs++[b]->b.pl<=x/\(x=b.pl->b.sp<=y)
 lt:∀x y x' y',l1=some (x,y)->l2=some (x',y')->x<x'
inductive zj8 (vs:Ba)(H:Hp)(Q:VK)(_e3:XK):Prop
 |mk:∀(p r:Addr) (us:Ba) (bs:Bk),(vs=[.ref p,.ref r])->(H r=some (.tup us))->(zL H us bs)->(Qn bs)->(1<=bs.length)->(vE H p)->(∀t v1 v2 l1 l2 H',xo p H H'->H' t=some (.tup [v1,v2])->zT H' v1 l1->zT H' v2 l2->Box bs l1 l2->Q (.ref t) H')->zj8 vs H Q _e3
theorem zcZ:zF ["pool","row","low","high"] ["pool","row"] (zr QF):=scq
theorem zlk (D:Df K mg "_law_box" QF ["pool","row"] []) (c6:⇑3 "_law_bound" 3 ["pool","ball","side"] [] zj6) (cA:⇑3 "_law_add" 2 ["a","b"] [] (xY Sz2 (· + ·))):⇑3 "_law_box" 4 ["pool","row"] [] zj8:=by
 rcases r:D.calq (k:=3) zcZ with⟨p,r,us,bs,rfl,c0,hB,hG,c3,hP,k⟩
 have d0:xf 2 _:=hr.md
 have hu:=hr.units
 obtain⟨S,e0⟩:∃S,bs[0]?=some S:=⟨_,wj ∅⟩
 have e5:=hB.length
 obtain⟨v0,b5⟩:∃v0,us[0]?=some v0:=⟨_,wj ∅⟩
 rcases q:hB.get b5 with⟨a0,p0,q0,e4,c2,rfl,c9,d3,d1⟩
 rw[e0]at c2;cases c2
 obtain⟨cs,bl,a3⟩:∃cs c,bs=cs++[c]:=by
  rcases WG bs with e | ⟨cs,c,e⟩
  ·rw[e]at c3;simp at c3
  ·exact⟨cs,c,↥e⟩
 have c1:=hB
 rw[a3]at c1
 rcases q:c1.last with⟨e6,la,lp,lq,d6,d2,d8,d7⟩
 have b1:atI us (-1)=some (.ref la):=by rw[d6];exact Vv _ _
 have m0:S∈bs:=wm e0
 have ml:bl∈bs:=by rw[a3];simp
 have first:S.pl<=bl.pl:=by
  have c4:=hG.pw
  rcases yQ cs.length with z | z
  ·have:cs=[]:=Wr.mp z
   rw[a3,this]at e0;cases e0;exact Wd
  ·rw[a3]at e0 c4
   rw[wE z]at e0
   have:=(wI.mp c4).2.2 S (wm e0) bl (by simp)
   rcases this with h | h
   ·exact uw h
   ·rw[h.1];exact Wd
 refine⟨_,(zA (psl (i:=2) zcZ.nd (zH c6 hr %[0,pxt (pv 1),Qc ZH zg|0]))
  (zA (psl (i:=3) zcZ.nd (zH c6 hr %[0,xb ve (pv 1) (Qc ZH zg) (λ_ _=>rfl),zg|0]))
  (zA (zZ (qk (zI xQ (pv 2) zV (zJ _)) (qk (zI xQ (pv 3) zV (zJ _)) (x8 (zI (vh hu) (pxt (pv 2)) (pxt (pv 3)) (zJ _))))).pt (zj (psl (i:=3) zcZ.nd (xa %[(zH cA d0 %[pxt (pv 3),(xa %[zg,zg|0])|0]),pxt (pv 3)|0]))) zQ)
  (zj (zG (xa %[2,3|0])))))),?_⟩
 try dsimp only[xi,Cx.nox]
 have rest:∀(G:Hp) (W:V) (Y:Wl),xo p H G->zT G W Y->(∀x y,Y=some (x,y)->Sz 310 x/\Sz 80 y/\x<=S.pl/\(x=S.pl->y<=S.sp))->∀(G2:Hp) (v2:V) (l2:Wl),xo p G G2->zT G2 v2 l2->(∀x y,l2=some (x,y)->Sz 310 x/\Sz 80 y/\bl.pl<=x/\(x=bl.pl->bl.sp<=y)) →
   ∀(nx:St->Hp->Prop),(∀σ' H',(∃U O,σ'=[Sr p,Sr r,some W,some U]/\xo p H H'/\zT H' W Y/\zT H' U O/\Box bs Y O)->nx σ' H')->True:=λ_ _ _ _ _ _ _ _ _ _ _ _ _ _=>trivial
 clear rest
 refine xr (λσ' G=>∃W Y,σ'=[Sr p,Sr r,some W,none]/\xo p H G/\zT G W Y/\∀x y,Y=some (x,y)->Sz 310 x/\Sz 80 y/\x<=S.pl/\(x=S.pl->y<=S.sp)) ?_ ?_
 ·rintro σ' G1 a1;rcases q:a1 with⟨W,Y,rfl,T1,b6,F1⟩
  have a4:=zY hP T1
  refine xr (λσ' G=>∃v2 l2,σ'=[Sr p,Sr r,some W,some v2]/\xo p H G/\zT G W Y/\zT G v2 l2/\∀x y,l2=some (x,y)->Sz 310 x/\Sz 80 y/\bl.pl<=x/\(x=bl.pl->bl.sp<=y)) ?_ ?_
  ·rintro σ' G2 a1;rcases q:a1 with⟨v2,l2,rfl,T2,a6,b4,F2⟩
   refine xr (λσ' G=>∃U O,σ'=[Sr p,Sr r,some W,some U]/\xo p H G/\zT G W Y/\zT G U O/\Box bs Y O) ?_ ?_
   ·rintro σ' G3 a1;rcases q:a1 with⟨U,O,rfl,T3,h1,h2,d4⟩
    exact⟨01,⇑5,λt ht=>k t W U Y O _ (T3.same (zk.upd ht)) zi (h1.tups (.of (zk.upd ht))) (h2.tups (.of (zk.upd ht))) d4⟩
   ·intro nx F
    have ob:∀b,bs[0]?=some b->b=S:=λb e=>by rw[e0]at e;cases e;rfl
    have oc:∀I b,bs=I++[b]->b=bl:=λI b e=>by
     rw[a3]at e
     have:=Wx e rfl
     injection this with e3;exact e3.symm
    cases Y with
    |none =>
     obtain rfl:W=.non:=a6
     refine⟨00,rfl,00,xm (xm (F _ _ ⟨v2,l2,rfl,T2,rfl,b4,⟨λ_ _ z=>by (cases z),λx y z=>⟨(F2 x y z).1.md,(F2 x y z).2.1⟩,λ_ _ _ z=>by (cases z),λx y I b z e=>by rw[oc I b e];exact(F2 x y z).2.2,λ_ _ _ _ z=>by (cases z)⟩⟩))⟩
    |some w1 =>
     obtain⟨x1,y1⟩:=w1
     have f1:=F1 x1 y1 rfl
     rcases q:a6 with⟨a5,a7,a9,rfl,g1,g2,g3⟩
     refine⟨00,rL,00,xp ?_⟩
     cases l2 with
     |none =>
      obtain rfl:v2=.non:=b4
      exact⟨00,rfl,00,xm (xm (F _ _ ⟨.non,none,rfl,T2,⟨a5,a7,a9,rfl,g1,g2,g3⟩,rfl,⟨λx y z=>by (cases z;exact⟨f1.1.md,f1.2.1⟩),λ_ _ z=>by (cases z),λx y b z e=>by (cases z;rw[ob b e];exact f1.2.2),λ_ _ _ _ z=>by (cases z),λ_ _ _ _ _ z=>by (cases z)⟩⟩))⟩
     |some w2 =>
      obtain⟨x2,y2⟩:=w2
      have f2:=F2 x2 y2 rfl
      rcases q:b4 with⟨a2,b9,b2,rfl,i1,i2,i3⟩
      refine⟨00,rL,00,xp ?_⟩
      refine⟨00,a5,032,.of g1,rL,00,a2,032,.of i1,rL,_,_,g2.rd,i2.rd,xy _,xy _,00,?_⟩
      rw[XA]
      by_cases he:x1=x2
      ·rw[wo he]
       refine xp ⟨_,rL,a2,_,_,_,rL,rL,.of i1,rL,⇑5,λto b3=>?_⟩
       have c5:zC (upd G2 to (.tup [.int 1,.int 1])) to 1:=zi
       have e2:=zk.upd (o:=.tup [.int 1,.int 1]) b3 _ _ i1
       refine⟨b9,to,x2,1,rfl,zk.upd b3 _ _ i2,c5,⟨f2.1.md,⟨show (1:Int).natAbs<2^4000 by exact Bd.mono (m:=1) (show (1:Int).natAbs<2^1 by decide) ⇑1,show (1:Int).natAbs<2^4000 by exact Bd.mono (m:=1) (show (1:Int).natAbs<2^1 by decide) ⇑1⟩⟩,λrn G3 e3 c8=>?_⟩
       have S3:zk G2 G3:=(zk.upd b3).trans e3
       have d5:=S3 _ _ i1
       refine⟨00,a2,032,.of d5,rL,⇑5,λtn b7=>?_⟩
       have S4:zk G2 (upd G3 tn (.tup [.ref rn,.ref b2])):=S3.trans (zk.upd b7)
       have d9:Sz 1 (1:Rat):=⟨show (1:Int).natAbs<2^1 by decide,show (1:Int).natAbs<2^1 by decide⟩
       refine F _ _ ⟨.ref tn,some (x2+1,y2),rfl,T2.same S4,⟨a5,a7,a9,rfl,S4 _ _ g1,S4 _ _ g2,S4 _ _ g3⟩,⟨tn,rn,b2,rfl,zi,zk.upd b7 _ _ c8,S4 _ _ i3⟩,⟨λx y z=>by (cases z;exact⟨f1.1.md,f1.2.1⟩),λx y z=>by (cases z;exact⟨(f2.1.add d9).md,f2.2.1⟩),λx y b z e=>by (cases z;rw[ob b e];exact f1.2.2),λx y I b z e=>?_,λx y x' y' z z'=>?_⟩⟩
       ·cases z;rw[oc I b e]
        have:=f2.2.2.1
        exact⟨by grind,λq=>by grind⟩
       ·cases z;cases z';rw[he];grind
      ·rw[wG he]
       refine xm (F _ _ ⟨.ref a2,some (x2,y2),rfl,T2,⟨a5,a7,a9,rfl,g1,g2,g3⟩,⟨a2,b9,b2,rfl,i1,i2,i3⟩,⟨λx y z=>by (cases z;exact⟨f1.1.md,f1.2.1⟩),λx y z=>by (cases z;exact⟨f2.1.md,f2.2.1⟩),λx y b z e=>by (cases z;rw[ob b e];exact f1.2.2),λx y I b z e=>by (cases z;rw[oc I b e];exact f2.2.2),λx y x' y' z z'=>?_⟩⟩)
       cases z;cases z'
       have:=f1.2.2.1
       have:=f2.2.2.1
       grind
  ·intro nx F
   have c7:=a4 _ _ c0
   have b8:=a4 _ _ d2
   refine⟨02,r,032,.of c7,b1,p,la,lp,lq,bl,1,rL,.inl rL,b8,a4 _ _ d8,a4 _ _ d7,(hG.sz bl ml).1,(hG.sz bl ml).2,T1.pool,λG2 t2=>?_,λrr a8 rq x y G2 t2 h1 h2 h3 z1 z2 hx=>?_⟩
   ·exact F _ _ ⟨.non,none,rfl,T1.trans t2,b6.tups (zY T1.pool t2),rfl,λ_ _ z=>by (cases z)⟩
   ·refine F _ _ ⟨.ref rr,some (x,y),rL,T1.trans t2,b6.tups (zY T1.pool t2),⟨rr,a8,rq,rL,h1,h2,h3⟩,λx' y' z=>?_⟩
    cases z
    obtain⟨g,g0,rfl,hg⟩:=hx
    refine⟨z1,z2,?_,λe=>?_⟩
    ·have:((1:Int):Rat)=1:=rfl
     rw[this];grind
    ·have e1:((1:Int):Rat)=1:=rfl
     rw[e1]at e hg
     have:=hg (by grind)
     grind
 ·intro nx F
  refine⟨01,r,032,.of c0,xG (j:=0) b5,00,p,a0,p0,q0,S,-1,rL,.inr rL,c9,d3,d1,(hG.sz S m0).1,(hG.sz S m0).2,hP,λG2 t2=>?_,λrr a8 rq x y G2 t2 h1 h2 h3 z1 z2 hx=>?_⟩
  ·exact F _ _ ⟨.non,none,rfl,t2,rfl,λ_ _ z=>by (cases z)⟩
  ·refine F _ _ ⟨.ref rr,some (x,y),rL,t2,⟨rr,a8,rq,rL,h1,h2,h3⟩,λx' y' z=>?_⟩
   cases z
   obtain⟨g,g0,rfl,hg⟩:=hx
   have e1:((-1:Int):Rat)=-1:=rfl
   rw[e1]at hg ⊢
   refine⟨by rw[e1]at z1;exact z1,z2,by grind,λe=>?_⟩
   have:=hg (by grind)
   grind
end KK
namespace L2
open PySem PySem.Spec PyProof.Rows
section
variable {X:Cx}{e st:Expr}{te:TE}{pos p2:Pos}
inductive zf9 (K:Fg) (Q:VK) (x:V) (y:V) (H2:Hp):Prop
 |mk:∀a xs,(x=.ref a)->(y=.int (-1))->(SqL K H2 a xs)->(∀p,H2 p=none->Q (.ref p) (upd H2 p (.lst xs.reverse)))->zf9 K Q x y H2
def zmn (K:Fg) (te ts:TE):TE:=λσ H Q=>te σ H λx H1=>ts σ H1 λy H2=>zf9 K Q x y H2
theorem zhi {ts:TE}(V:PE X e te) (Y:PE X st ts):PE X (.Subscript e (.Slice none none (some st) p2) pos) (zmn X.K te ts):=by
 intro pz s σ H Q I h
 refine Subscript_ (thn (V pz s σ H _ I h) λv U ⟨x,H1,I1,r1,q1⟩=>?_)
 refine wpAny_Slice ?_
 rw[evalPart_none]
 refine wu (wu ?_)
 rw[evalPart_some]
 refine thn (Y pz U σ H1 _ I1 q1) λu j ⟨y,H3,I3,r3,q3⟩=>?_
 obtain⟨a,xs,rfl,rfl,hx,q⟩:=q3
 cases r1
 obtain⟨t,rfl⟩:=r3
 have F:Inv X pz σ H3 { j with heap:=j.heap.push { cls:=.type "slice",data:=.fields #[.none,.none,.int (-1) t] } }:=I3.kept (t':=j.toks) λb ob q=>wg _ q
 obtain⟨S,r,G,hz⟩:=F.list hx
 have O:=r.length
 show wpAny (model X.prog X.w) X.A (subscriptTail e (.Slice none none (some st) p2) (.ref a) (.ref j.heap.objs.size)) (EP X pz σ Q) X.xe { j with heap:=j.heap.push { cls:=.type "slice",data:=.fields #[.none,.none,.int (-1) t] } }
 refine tail_any (ops:=[.ref a,.ref j.heap.objs.size]) G.isList.typeIs slot_list_getitem.lookup (Yj G.isList (Heap.IsSliceOf.new ..) .none .none (.int (-1) t) (by simp) ?_ (by rw[wz] <;> lia)) (by with_unfolding_all rfl)
 rw[PySem.W.krv_pick]
 refine⟨.ref _,_,F.laid (t':=j.toks) (o:=.lst xs.reverse) (λb ob q=>wg _ q) (wq _) ?_,rL,q _ (F.hok.fresh (wq _))⟩
 exact⟨by rw[uF];exact hz,_,0,r.rev,wD _ rfl⟩
end
section
variable {X:Cx}
def zhp:V->Ba->Hp->VK->Prop:=λx vs H Q=>∃(l:Addr) (xs:Ba) (i:Int) (y:V),x=.ref l/\vs=[.int i,y]/\H l=some (.lst xs)/\0<=i/\i<=xs.length/\xs.length<=1000/\Q .non (upd H l (.lst (xs.take i.toNat++y::xs.drop i.toNat)))
theorem zjf (j:Ac) (i:Int) (u:Value) (F:0<=i) (h1:i<=j.length) :
  ((j.toArray.extract 0 (if i<0 then(i+((j.toArray.size:Nat):Int)).toNat else min i.toNat j.toArray.size)).push u++j.toArray.extract (if i<0 then(i+((j.toArray.size:Nat):Int)).toNat else min i.toNat j.toArray.size))=(j.take i.toNat++u::j.drop i.toNat).toArray:=by
 rw[if_neg ∅,wz,show min i.toNat j.length=i.toNat by lia]
 apply Array.toList_inj.mp
 simp
 exact wH (by simp)
theorem JH:MtM X "list.insert" zhp:=by
 intro pz s σ H x vs v us Q I W Y h
 obtain⟨l,xs,i,y,rfl,rfl,S,h0,h1,hz,q⟩:=h
 cases W
 obtain⟨u1,G,rfl,⟨t,rfl⟩,ru⟩:=Y.two
 obtain⟨z,j,n,r,V,e⟩:=I.lstM S
 have U:Builtin.List.listFitsIndex i=true:=fitsIndex_both ∅ ∅
 have O:j.toArray.size<=sizeLine:=by rw[wz,<-V];exact z
 refine call_meets F.slot_list_insert ⟨_,e,rfl⟩ F.entry_list_insert (F.args_list_insert_3 _ _ _) (AutoSeq1.list_insert_list_int_val_1 l j.toArray n i t G (by simp[U]) O) ⟨e,?_⟩
 refine⟨.non,_,I.lset (its':=j.take i.toNat++G::j.drop i.toNat) S e (zjf j i G h0 ∅) ((r.take i.toNat).append (.cons ru (r.drop i.toNat))) ?_,rL,q⟩
 have:xs.length<sizeLine:=xn hz
 rw[wC,wJ,wU,wV]
 lia
end
end L2
namespace KK
open PySem L2 KM
variable {P:Program}{w:World}{K:Fg}{mg:Aa}{base:Heap}
theorem VD {K:Fg}{a:Addr}{xs:Ba}{g:TG}{tb:TS}{D:vq}{σ:St}{H:Hp}(j:Nat->St->Hp->Prop) (h0:j 0 σ H) (U:∀i σ H,j i σ H->SqL K H a xs)
  (hs:∀(i:Nat) (x:V) (σ:St) (H:Hp) (T:Addr),xs[i]?=some x->j i σ H->H T=none->g (.ref T) σ (upd H T (.tup [.int i,x])) λG H2=>tb { D with nx:=j (i+1),ct:=j (i+1),bk:=D.nx } G H2)
  (hd:∀σ H,j xs.length σ H->D.nx σ H) :
  ∃W:Nat->Nat->St->Hp->Prop,(∃m,W 0 m σ H)/\∀i m σ H,W i m σ H →
   ((Ite K a).stop i H/\D.nx σ H)\/((Ite K a).go i H/\∃N:St->Hp->Prop,(∀I H',N I H'->∃O,O<m/\W (i+1) O I H')/\∀x H',(Ite K a).yld i H x H'->g x σ H' λG H2=>tb { D with nx:=N,ct:=N,bk:=D.nx } G H2):=by
 refine⟨λi m σ H=>m=xs.length-i/\i<=xs.length/\j i σ H,⟨xs.length,by simp,yo _,h0⟩,?_⟩
 rintro i m σ H ⟨rfl,hi,p⟩
 have F:=U i σ H p
 by_cases hlt:i<xs.length
 ·refine .inr ⟨⟨xs,xs[i],F,by simp⟩,j (i+1),λI H' S=>⟨xs.length-(i+1),by lia,rfl,hlt,S⟩,λx H' y=>?_⟩
  obtain⟨T,u,rfl,Y,rfl,e1⟩:=y
  exact hs i u σ H T (e1 xs F) p Y
 ·have e:i=xs.length:=by lia
  subst e
  exact .inl ⟨⟨xs,F,wq _⟩,hd σ H p⟩
theorem Sz.sub {m n:Nat}{x y:Rat}(h:Sz m x) (k:Sz n y):Sz (m+n+1) (x-y):=by
 rw[Rat.sub_eq_add_neg]
 exact h.add ⟨by rw[Rat.neg_num];exact k.1.neg,by rw[Rat.neg_den];exact k.2⟩
theorem zev {a b:Str}{m n:Addr}(x:Str) (c:Addr) (e:List.lookup x [(a,m)]=some c):List.lookup x [(a,m),(b,n)]=some c:=by
 simp only[List.lookup]at e ⊢
 cases h1:(x == a)with
 |true=>rw[h1]at e;exact e
 |false=>rw[h1]at e;cases e
theorem zew {a b:Str}{m n:Addr}(h:a≠b) (x:Str) (c:Addr) (e:List.lookup x [(b,n)]=some c):List.lookup x [(a,m),(b,n)]=some c:=by
 simp only[List.lookup]at e ⊢
 cases h1:(x == b)with
 |true =>
  cases h2:(x == a)with
  |true=>exact absurd ((eq_of_beq h2).symm.trans (eq_of_beq h1)) h
  |false=>rw[h1]at e;exact e
 |false=>rw[h1]at e;cases e
structure NEn (mg:Aa):Prop where
 nEnum:mg "enumerate" = none
theorem zh1 {t b:Int}{n:Nat}(F : -(2^n)<t) (h1:t<2^n) (G:0<b) (j:b<2^n):Sz n (Rat.divInt t b):=.divInt ∅ (bdz F h1) (bdn ∅ j)
theorem zjt {d:Int}(j:0<=d) (h1:d<8):∃v:Int,atI [V.int 2,.int 2,.int 3,.int 3,.int 4,.int 5,.int 6,.int 7] d=some (.int v)/\2<=v/\v<=7:=by
 have:d=0\/d=1\/d=2\/d=3\/d=4\/d=5\/d=6\/d=7:=by lia
 rcases this with rfl | rfl | rfl | rfl | rfl | rfl | rfl | rfl
 all_goals exact⟨00,by decide,by decide⟩
def ZB (bs:Bk):Prop:=∀b∈bs,Sz 300 b.pl/\Sz 80 b.sp/\1<=b.wt/\b.wt<=1000
structure ERQ (H:Hp) (n:Nat) (us:Ba) (qs:Al):Prop where
 len:us.length=qs.length
 at':∀(i:Nat) (v:V),us[i]?=some v->∃r q,v=.ref r/\qs[i]?=some q/\zC H r q
 sz:∀q∈qs,Sz n q
theorem ERQ.tups {H H':Hp}{n:Nat}{us:Ba}{qs:Al}(h:ERQ H n us qs) (e:zX H H'):ERQ H' n us qs:=⟨h.len,λi v f=>let ⟨r,q,a,b,c⟩:=h.at' i v f;⟨r,q,a,b,e _ _ c⟩,h.sz⟩
theorem ERQ.mono {H:Hp}{n j:Nat}{us:Ba}{qs:Al}(h:ERQ H n us qs) (l:n<=j):ERQ H j us qs:=⟨h.len,h.at',λq m=>(h.sz q m).mono l⟩
theorem ERQ.nil {H:Hp}{n:Nat}:ERQ H n [] []:=⟨rfl,λi v e=>by simp at e,λq m=>by cases m⟩
theorem ERQ.cons {H:Hp}{n:Nat}{us:Ba}{qs:Al}{r:Addr}{q:Rat}(h:ERQ H n us qs) (hr:zC H r q) (z:Sz n q):ERQ H n (.ref r::us) (q::qs):=by
 refine⟨by simp[h.len],λi v e=>?_,λx m=>?_⟩
 ·match i,e with
  |0,e=>cases e;exact⟨r,q,rfl,rfl,hr⟩
  |i+1,e=>exact h.at' i v ↥e
 ·rcases wy.mp m with rfl | m
  ·exact z
  ·exact h.sz x m
theorem ERQ.snoc {H:Hp}{n:Nat}{us:Ba}{qs:Al}{r:Addr}{q:Rat}(h:ERQ H n us qs) (hr:zC H r q) (z:Sz n q):ERQ H n (us++[.ref r]) (qs++[q]):=by
 refine⟨by simp[h.len],λi v e=>?_,λx m=>?_⟩
 ·by_cases hi:i<us.length
  ·rw[wE hi]at e
   rw[wE (by rw[<-h.len];exact hi)]
   exact h.at' i v e
  ·rw[wB ∅]at e
   have j:i-us.length=0:=by
    rcases yQ (i-us.length)with z | z
    ·exact z
    ·rw[w4 (by simp;lia)]at e;cases e
   rw[j]at e;cases e
   exact⟨r,q,rfl,by rw[wB (by rw[<-h.len];lia),<-h.len,j];rfl,hr⟩
 ·rcases wK.mp m with y | y
  ·exact h.sz x y
  ·have:x=q:=↥y
   rw[this];exact z
def bq (n:Nat):Rat:=((4*(n:Int):Int):Rat)
theorem JV (n:Nat):bq (n+1)=bq n+4:=by
 unfold bq
 have:(4*((n+1:Nat):Int):Int)=4*(n:Int)+4:=by lia
 rw[this,Rat.intCast_add];rfl
theorem zig (n:Nat):0<=bq n:=by
 have:((0:Int):Rat)<=((4*(n:Int):Int):Rat):=uK.mpr ∅
 exact this
theorem zkV {n:Nat}(h:n<=8):bq n<=32:=by
 have:((4*(n:Int):Int):Rat)<=((32:Int):Rat):=uK.mpr ∅
 exact this
def FQ (ow b:Rat) (qs:Al):Prop:=∀q∈qs,ow-b<=q/\q<=ow+b
def FA (ow:Rat) (qs:Al):Prop:=qs.Pairwise (· > ·)/\(∀q∈qs,ow<q)/\FQ ow (bq qs.length) qs
theorem FA.cons {F j x:Rat}{qs:Al}(h:FA F (j::qs)) (lt:j<x) (G:x<=j+4):FA F (x::j::qs):=by
 refine⟨yB.mpr ⟨λa m=>?_,h.1⟩,λq m=>?_,λq m=>?_⟩
 ·rcases wy.mp m with rfl | m
  ·exact lt
  ·have:=(yB.mp h.1).1 a m
   grind
 ·rcases wy.mp m with rfl | m
  ·have:=h.2.1 j (wT ..)
   grind
  ·exact h.2.1 q m
 ·have e:bq (x::j::qs).length=bq (j::qs).length+4:=JV _
  rw[e]
  rcases wy.mp m with rfl | m
  ·have:=h.2.2 j (wT ..)
   grind
  ·have:=h.2.2 q m
   grind
def FB (wh:Int) (ow:Rat) (qs:Al):Prop:=qs.Pairwise (· > ·)/\(wh=1->∀q∈qs,q<ow)/\(wh≠1->∀q∈qs,ow<q)/\FQ ow (bq qs.length) qs
def FC (wh:Int) (ow:Rat) (qs:Al):Prop:=qs.Pairwise (· > ·)/\(wh=1->∀q∈qs,q<=ow)/\(wh≠1->∀q∈qs,ow<q)/\FQ ow (bq qs.length) qs
def FD (wh:Int) (ow:Rat) (qs:Al):Prop:=qs.Pairwise (· > ·)/\(wh=1->∀q∈qs,q<=ow)/\(wh=2->∀q∈qs,ow<=q)/\FQ ow (bq qs.length) qs
theorem FA.mirror {j:Rat}{qs:Al}(h:FA j qs):FB 1 j (qs.reverse.map λq=>j+j-q):=by
 refine⟨?_,λ_ q m=>?_,λz=>absurd rL z,λq m=>?_⟩
 ·rw[yi,List.pairwise_reverse]
  exact h.1.imp λ{a b} lt=>by show j+j-b>j+j-a;grind
 ·obtain⟨x,F,rfl⟩:=wx.mp m
  have:=h.2.1 x (WL.mp F)
  grind
 ·obtain⟨x,F,rfl⟩:=wx.mp m
  have:=h.2.2 x (WL.mp F)
  rw[wk,uF]
  grind
theorem FA.fb {j:Int}{F:Rat}{qs:Al}(h:FA F qs) (w:j≠1):FB j F qs:=⟨h.1,λz=>absurd z w,λ_=>h.2.1,h.2.2⟩
theorem FB.fc {j:Int}{F:Rat}{qs:Al}(h:FB j F qs):FC j F qs:=⟨h.1,λz q m=>by have:=h.2.1 z q m;grind,h.2.2.1,h.2.2.2⟩
theorem FB.rest {j:Rat}{qs:Al}(h:FB 1 j qs):FC 1 j (j::qs):=by
 refine⟨yB.mpr ⟨λa m=>h.2.1 rL a m,h.1⟩,λ_ q m=>?_,λz=>absurd rL z,λq m=>?_⟩
 ·rcases wy.mp m with rfl | m
  ·grind
  ·have:=h.2.1 rfl q m
   grind
 ·have e:bq (j::qs).length=bq qs.length+4:=JV _
  have n:=zig qs.length
  rw[e]
  rcases wy.mp m with rfl | m
  ·grind
  ·have:=h.2.2.2 q m
   grind
theorem FC.fd {j:Int}{F:Rat}{qs:Al}(h:FC j F qs):FD j F qs:=⟨h.1,h.2.1,λz q m=>by have:=h.2.2.1 ∅ q m;grind,h.2.2.2⟩
theorem FC.rest {j:Rat}{qs:Al}(h:FC 2 j qs):FD 2 j (qs++[j]):=by
 refine⟨wI.mpr ⟨h.1,by simp,λa m b F=>?_⟩,λz=>absurd z ⇑1,λ_ q m=>?_,λq m=>?_⟩
 ·have e:b=j:=↥F
  rw[e];exact h.2.2.1 ⇑1 a m
 ·rcases wK.mp m with y | y
  ·have:=h.2.2.1 ⇑1 q y
   grind
  ·have e:q=j:=↥y
   grind
 ·have e:bq (qs++[j]).length=bq qs.length+4:=by rw[wC];exact JV _
  have n:=zig qs.length
  rw[e]
  rcases wK.mp m with y | y
  ·have:=h.2.2.2 q y
   grind
  ·have e:q=j:=↥y
   grind
theorem J0 {t b c:Int}(I:0<b) (G : -c*b<=t) (h1:t<=c*b) : -(c:Rat)<=Rat.divInt t b/\Rat.divInt t b<=(c:Rat):=by
 have j:(0:Rat)<(b:Rat):=by exact_mod_cast I
 rw[yM]
 have F:((-c*b:Int):Rat)<=(t:Rat):=uK.mpr G
 have O:(t:Rat)<=((c*b:Int):Rat):=uK.mpr h1
 rw[ua]at F O
 rw[Rat.intCast_neg]at F
 constructor
 ·rcases Classical.em ((t:Rat)/(b:Rat) < -(c:Rat))with z | z
  ·rw[YC j]at z;grind
  ·grind
 ·rcases Classical.em ((c:Rat)<(t:Rat)/(b:Rat))with z | z
  ·rw[Yb j]at z;grind
  ·grind
inductive zfU (vs:Ba)(H:Hp)(Q:VK)(_e3:XK):Prop
 |mk:∀(p:Addr) (n:Int),(vs=[.ref p,.int n])->(0<=n)->(n<=1000000)->(vE H p)->(∀r x H',xo p H H'->zC H' r x->Sz 69 x->Q (.ref r) H')->zfU vs H Q _e3
theorem zjH (D:Df K mg "_law_ratio" vz ["pool","size"] []) (G:⇑3 "_law_next" 1 ["pool","base"] [] qN) (O:⇑3 "_law_wide" 2 ["pool","base"] [] zat) (cL:⇑3 "_law_low" 1 ["top","bottom"] [] qm):⇑3 "_law_ratio" 3 ["pool","size"] [] zfU:=by
 rcases r:D.calBq (k:=2) zc3 with⟨p,n,rfl,n0,n1,Y,k⟩
 have j:xf 1 _:=hr.md
 refine⟨_,(zE (ZX (i:=2) zc3.nd rL (Or.inl rL) (Jx zU (ZW (zW (Bx.mk zg) (zW (Bx.mk zg) (zW (Bx.mk zg) (zW (Bx.mk zg) (zW (Bx.mk zg) (zW (Bx.mk zg) (zW (Bx.mk zg) (zW (Bx.mk (zD vO zg zg)) vF))))))))) (Bx.mk (zH G j %[0,zg|0])) (λ_ _=>rL))) (Bx.mk (zA (zZ (zI qh (zH G j %[0,zg|0]) zg (zJ _)) (zj (zG (zH cL j %[(zD xS (zH O hr %[0,zD xc (zD zR zg (zD vO zg zg)) zg|0]) (zD vO zg zg)),2|0]))) zQ)
  (zj (zG (zH cL j %[(zD xS (zH G j %[0,zD xc (zD zR zg (pv 1)) zg|0]) (pv 1)),2|0])))))),?_⟩
 try dsimp only[xi,Cx.nox]
 refine⟨022,⟨by decide,by decide,by decide⟩,zL8,λW F=>?_⟩
 refine⟨00,p,00,by decide,by decide,Y.new F,λd1 G1 a1 b1 t1=>?_⟩
 obtain⟨v,ev,v0,v1⟩:=ze8 a1 b1
 refine⟨W,032,.of (t1.keep W _ zi (Y.ne F)),ev,?_⟩
 have T1:xo p H G1:=t1.pre (zk.upd F)
 have vb:Bd 8900 v:=Bd.mono (m:=20) (bdn ∅ ∅) ⇑1
 refine⟨00,p,00,by decide,by decide,t1.pool,λd2 G2 a2 b2 t2=>⟨rfl,00,qp (λh=>?_) (λh=>?_)⟩⟩
 ·refine⟨00,022,⟨by decide,by decide,by decide⟩,022,⟨Bd.mono (m:=2) (bdn ⇑1 ⇑1) ⇑1,Bd.mono (m:=80) (bdn ⇑1 ⇑1) ⇑1⟩,022,p,00,by decide,t2.pool,λV G3 a3 b3 U=>?_⟩
  refine⟨022,⟨by decide,by decide,by decide⟩,022,00,021,by lia,vb,λr H' e h=>k r _ H' (((T1.trans t2).trans U).same e) h (.divInt ∅ ?_ (Bd.mono (m:=20) (bdn ∅ ∅) ⇑1))⟩
  have S:((10:Int)^(20:Int).toNat)=100000000000000000000:=by decide
  have I:V<2*((10:Int)^(20:Int).toNat)+1:=b3
  show Bd 69 (V-(10:Int)^(20:Int).toNat)
  rw[S]at I ⊢
  exact Bd.mono (m:=68) (bdz ∅ ∅) ⇑1
 ·refine⟨01,022,⟨Bd.mono (m:=2) (bdn ⇑1 ⇑1) ⇑1,Bd.mono (m:=30) (bdn ∅ ∅) ⇑1⟩,022,p,00,by lia,by lia,t2.pool,λV G3 a3 b3 U=>?_⟩
  refine⟨00,022,00,021,by lia,vb,λr H' e h=>k r _ H' (((T1.trans t2).trans U).same e) h (.divInt ∅ ?_ (Bd.mono (m:=20) (bdn ∅ ∅) ⇑1))⟩
  exact Bd.mono (m:=30) (bdz ∅ ∅) ⇑1
inductive zfW (vs:Ba)(H:Hp)(Q:VK)(_e3:XK):Prop
 |mk:∀(p:Addr),(vs=[.ref p])->(vE H p)->(∀r x H',xo p H H'->zC H' r x->Sz 5 x → -6<=x->x<=6->Q (.ref r) H')->zfW vs H Q _e3
theorem zjI (D:Df K mg "_law_speed" vA ["pool"] []) (F:⇑3 "_law_next" 1 ["pool","base"] [] qN) (Y:⇑3 "_law_low" 1 ["top","bottom"] [] qm):⇑3 "_law_speed" 2 ["pool"] [] zfW:=by
 refine D.calq (k:=1) zc4 (λf cdv A outer s H vs Q E hr h=>?_)
 obtain⟨p,rfl,U,k⟩:=h
 refine⟨_,(zj (zG (zH Y hr %[zD xS (zH F hr %[0,zg|0]) zg,xb zU (xF %[zg,zg,zg,zg|0]) (zH F hr %[0,zg|0]) (λ_ _=>rL)|0]))),?_⟩
 try dsimp only[xi,Cx.nox]
 refine⟨00,p,00,by decide,by decide,U,λV G1 a1 b1 t1=>⟨022,zL4,λG j=>?_⟩⟩
 refine⟨00,p,00,by decide,by decide,t1.pool.new j,λd2 G2 S O t2=>?_⟩
 obtain⟨v,W,v0,v1⟩:=ze7 S O
 refine⟨G,032,.of (t2.keep G _ zi (t1.pool.ne j)),W,?_⟩
 have I:=J0 (t:=V-6) (b:=v) (c:=6) ∅ ∅ ∅
 refine⟨021,by lia,Bd.mono (m:=5) (bdn ∅ ∅) ⇑1,λr H' e h=>k r _ H' ((t1.trans (t2.pre (zk.upd j))).same e) h (.divInt ∅ (bdz ∅ ∅) (bdn ∅ ∅)) I.1 I.2⟩
inductive zhQ (vs:Ba)(H:Hp)(Q:VK)(_e3:XK):Prop
 |mk:∀(p pp pm:Addr) (wh:Int) (al:Bool) (x m:Rat),(vs=[.ref p,.int wh,.ref pp,.ref pm,.bl al])->(0<=wh)->(wh<=2)->(zC H pp x)->(Sz 80 x)->(zC H pm m)->(Sz 5 m)->(vE H p)->(∀t r wl us bs ra rb y z H',xo p H H'->H' t=some (.tup [.ref r,.ref wl])->H' r=some (.tup us)->zL H' us bs->ZB bs->1<=bs.length->bs.length<=8->H' wl=some (.tup [.ref ra,.ref rb])->zC H' ra y->zC H' rb z->Sz 300 y->Sz 80 z->(∃qs,bs.map (λb=>(b.pl,b.sp))=xO x m qs/\FD wh z qs/\y=x-z*m ∧ -6<=z/\z<=6)->Q (.ref t) H')->zhQ vs H Q _e3
theorem ZN:zF ["pool","where","place","moment","alike","rest","many","own","speeds","k","weights","row","speed"] ["pool","where","place","moment","alike"] (zr Zx):=scq
theorem zli (D:Df K mg "_law_bundle" Zx ["pool","where","place","moment","alike"] []) (T:TxB K mg) (TW:NEn mg) (cN:⇑3 "_law_next" 1 ["pool","base"] [] qN) (s3:⇑3 "_law_speed" 2 ["pool"] [] zfW)
  (cL:⇑3 "_law_low" 1 ["top","bottom"] [] qm) (cA:⇑3 "_law_add" 2 ["a","b"] [] (xY Sz2 (· + ·))) (cO:⇑3 "_law_off" 2 ["a","b"] [] (xY Sz2 (· - ·))) (l9:⇑3 "_law_by" 2 ["a","b"] [] (xY Sz2 (· * ·))):⇑3 "_law_bundle" 3 ["pool","where","place","moment","alike"] [] zhQ:=by
 rcases r:D.calBq (k:=2) ZN with⟨p,pp,pm,wh,al,px,mm,rfl,w0,w2,n8,h8,r1,h6,hP,k⟩
 have a8:xf 1 _:=hr.md
 refine⟨_,(zE (Bx.mk (psl (i:=5) ZN.nd (qj zdy ⇑2 T.nInt PyProof.Rows.boot_int %[qT (xW Vc (pv 1) zg (zJ _)) (qU (xW qh (zH cN a8 %[0,zg|0]) zg (zJ _)))|0])))
  (zE (ZX (i:=6) ZN.nd rfl (Or.inl rfl) (zkW xS (Jx zU (ZW (zW (Bx.mk zg) (zW (Bx.mk zg) (zW (Bx.mk zg) (zW (Bx.mk zg) (zW (Bx.mk zg) (zW (Bx.mk zg) (zW (Bx.mk zg) (zW (Bx.mk zg) vF))))))))) (Bx.mk (zH cN a8 %[0,zg|0])) (λ_ _=>rfl)) (Bx.mk (pv 5))))
  (zE (ZX (i:=7) ZN.nd rfl (Or.inr rfl) (Jx zU (ZW (zW (JX (zW (Bx.mk zg) (zW (Bx.mk zg) vF))) (zW (JX (zW (Bx.mk zg) (zW (Bx.mk zg) vF))) (zW (Bx.mk (zH s3 hr %[0|0])) vF)))) (Bx.mk (zH cN a8 %[0,zg|0])) (λ_ _=>rfl)))
  (zE (Bx.mk (psl (i:=8) ZN.nd (xF %[(zH cA hr %[7,(zH cL a8 %[zD xc zg (zH cN a8 %[0,zg|0]),zD xc zg (zH cN a8 %[0,zg|0])|0])|0])|0])))
  (zE (Bx.mk (qD PassesOwn.never rfl (vi rfl T.nRange %[zD xS (pv 6) zg|0]) (pgl (i:=9) ZN.nd) (zj (qz (Vd yx Yf Yg JH (pv 8) %[zg,(zH cA hr %[xb zU (pv 8) zg (λ_ _=>rfl),(zH cL a8 %[zD xc zg (zH cN a8 %[0,zg|0]),zD xc zg (zH cN a8 %[0,zg|0])|0])|0])|0])))))
  (zE (Bx.mk (zZ (zI qh (pv 1) zg (zJ _)) (zj (vo (i:=8) (NB:=["speed"]) (FR:=["own"]) (js:=[7]) rfl rfl zev (.cons rfl rfl rfl ⟨_,rfl⟩ .nil) rfl ⇑0 rfl ⇑0 ZN.nd rfl rfl ⇑2 (xM (zhi (pv 8) (Qc ZH zg))) (by intro _ _ _;refine⟨?_,?_,?_⟩;(exact(pgl (i:=0) (show List.Nodup (["speed","own"]:Ad) by decide +kernel)));(exact xI);(exact(zH cO hr %[(zH cA hr %[1,1|0]),0|0]))))) zQ))
  (zE (Bx.mk (zZ (qk (zI qh (pv 5) zg (zJ _)) (x8 (zI qh (pv 1) zg (zJ _)))).pt (zj (qz (Vd yx Yf Yg JH (pv 8) %[zg,7|0]))) zQ))
  (zE (Bx.mk (zZ (qk (zI qh (pv 5) zg (zJ _)) (x8 (zI qh (pv 1) zg (zJ _)))).pt (zj (qz (Vd yx yN yO qO (pv 8) %[7|0]))) zQ))
  (zE (Bx.mk (vo (i:=10) (NB:=["speed"]) (FR:=["pool"]) (js:=[0]) rfl rfl (zew (a:="own") (b:="pool") ⇑1) (.cons rfl rfl rfl ⟨_,rfl⟩ .nil) rfl ⇑0 rfl ⇑0 ZN.nd rfl rfl ⇑2 (xM (pv 8)) (by intro _ _ _;refine⟨?_,?_,?_⟩;(exact(pgl (i:=0) (show List.Nodup (["speed","pool"]:Ad) by decide +kernel)));(exact xI);(exact(zD xc zg (zH cN a8 %[1,zg|0]))))))
  (zE (Bx.mk (zZ (xv (pv 4) λ_=>rfl) (zj (psl (i:=10) ZN.nd (zD zbZ (xF %[xb zU (pv 10) zg (λ_ _=>rfl)|0]) (xk xt ⇑2 T.nLen PySem.boot_len %[10|0])))) zQ))
  (zE (Bx.mk (psl (i:=11) ZN.nd (xF zf)))
  (zE (Bx.mk (qD PassesOwn.never rfl (zcS ⇑2 TW.nEnum %[8|0]) (qu rfl (zP (pgl (i:=9) ZN.nd) (zP (pgl (i:=12) ZN.nd) xw))) (zj (qz (Vd yx yN yO qO (pv 11) %[(xa %[(zH cO hr %[2,(zH l9 hr %[12,3|0])|0]),12,xb zU (pv 10) (pv 9) (λ_ _=>rfl)|0])|0])))))
  (Bx.mk (zj (zG (xa %[qj qv ⇑2 T.nTuple yy %[11|0],(xa %[(zH cO hr %[2,(zH l9 hr %[7,3|0])|0]),7|0])|0])))))))))))))))),?_⟩
 try dsimp only[xi,Cx.nox]
 refine xr (λY G=>∃rs:Int,(rs=0\/rs=1)/\Y=[Sr p,Si wh,Sr pp,Sr pm,some (.bl al),Si rs,none,none,none,none,none,none,none]/\xo p H G) ?_ ?_
 rotate_left
 ·intro nx I
  refine⟨00,022,00,qp (λh=>?_) (λh=>?_)⟩
  ·refine⟨00,p,00,by decide,by decide,hP,λd1 G1 a1 b1 t1=>⟨rfl,.inr ⟨00,?_⟩⟩⟩
   exact I _ _ ⟨_,by split <;> lia,rfl,t1⟩
  ·exact .inr ⟨_,rL,I _ _ ⟨0,.inl rL,rL,xo.refl hP⟩⟩
 rintro Y G1 ⟨rs,u9,rfl,T1⟩
 refine xr (λY G=>∃mn:Int,1<=mn/\mn+rs<=7/\Y=[Sr p,Si wh,Sr pp,Sr pm,some (.bl al),Si rs,Si mn,none,none,none,none,none,none]/\xo p H G) ?_ ?_
 rotate_left
 ·intro nx I
  refine⟨zL8,λl1 j8=>?_⟩
  refine⟨00,p,00,by decide,by decide,T1.pool.new j8,λd2 G2 a2 b2 t2=>?_⟩
  obtain⟨v,ev,v0,v1⟩:=zjt a2 b2
  refine⟨l1,032,.of (t2.keep l1 _ zi (T1.pool.ne j8)),ev,?_⟩
  exact⟨00,022,I _ _ ⟨v-rs,by lia,by lia,rfl,T1.trans (t2.pre (zk.upd j8))⟩⟩
 rintro Y G2 O;rcases q:O with⟨mn,m1,m7,rfl,T2⟩
 refine xr (λY G=>∃U ow,Y=[Sr p,Si wh,Sr pp,Sr pm,some (.bl al),Si rs,Si mn,Sr U,none,none,none,none,none]/\xo p H G/\zC G U ow/\Sz 5 ow ∧ -6<=ow/\ow<=6) ?_ ?_
 rotate_left
 ·intro nx I
  refine⟨⇑5,λq1 h1=>?_⟩
  refine⟨⇑5,λq2 h2=>?_⟩
  have i4:=T2.same ((zk.upd (o:=.tup [.int 0,.int 1]) h1).trans (zk.upd (o:=.tup [.int 0,.int 1]) h2))
  refine⟨00,p,rL,i4.pool,λr3 x3 G3 t3 s8 z3 t0 s0=>?_⟩
  have g1:zC G3 q1 0:=zY i4.pool t3 _ _ (zk.upd h2 _ _ zi)
  have g2:zC G3 q2 0:=zY i4.pool t3 _ _ zi
  have T3:=i4.trans t3
  refine⟨zL3,λl3 b9=>?_⟩
  refine⟨00,p,00,by decide,by decide,T3.pool.new b9,λd4 G4 a4 b4 t4=>?_⟩
  have u0:zX G3 G4:=(zX.of (zk.upd b9)).trans (zY (T3.pool.new b9) t4)
  have T4:xo p H G4:=T3.trans (t4.pre (zk.upd b9))
  obtain⟨U,ow,u6,h7,a3,g3,f4⟩:∃rs sp,atI [V.ref q1,.ref q2,.ref r3] d4=some (.ref rs)/\zC G3 rs sp/\Sz 5 sp ∧ -6<=sp/\sp<=6:=by
   have zz:Sz 5 (0:Rat):=⟨show (0:Int).natAbs<2^5 by decide,show (1:Int).natAbs<2^5 by decide⟩
   have:d4=0\/d4=1\/d4=2:=by lia
   rcases this with rfl | rfl | rfl
   ·exact⟨q1,0,rfl,g1,zz,by decide,by decide⟩
   ·exact⟨q2,0,rfl,g2,zz,by decide,by decide⟩
   ·exact⟨r3,x3,rL,s8,z3,t0,s0⟩
  exact⟨l3,032,.of (t4.keep l3 _ zi (T3.pool.ne b9)),u6,I _ _ ⟨U,ow,rL,T4,u0 _ _ h7,a3,g3,f4⟩⟩
 rintro Y G3 O;rcases q:O with⟨U,ow,rfl,T3,h7,a3,g3,f4⟩
 refine xr (λY G=>∃S us qs,Y=[Sr p,Si wh,Sr pp,Sr pm,some (.bl al),Si rs,Si mn,Sr U,Sr S,none,none,none,none]/\xo p H G/\zC G U ow/\H S=none/\S≠p/\G S=some (.lst us)/\us.length=1/\ERQ G 10 us qs/\FA ow qs) ?_ ?_
 rotate_left
 ·intro nx I
  refine⟨01,p,00,by decide,by decide,T3.pool,λd4 G4 a4 b4 t4=>⟨022,?_⟩⟩
  refine⟨00,p,00,by decide,by decide,t4.pool,λd5 G5 a5 b5 t5=>⟨022,?_⟩⟩
  have r4:zX G3 G5:=(zY T3.pool t4).trans (zY t4.pool t5)
  refine⟨021,by lia,Bd.mono (m:=5) (bdn ∅ ∅) ⇑1,λr6 G6 e6 l0=>?_⟩
  have z6:Sz 3 (Rat.divInt (1+d4) (1+d5)):=zh1 ∅ ∅ ∅ ∅
  refine⟨U,r6,021,e6 _ _ (r4 _ _ h7),l0,⟨a3.md,z6.md⟩,λr7 G7 e7 k4=>⟨zL1,λS c8=>?_⟩⟩
  have T7:xo p H G7:=(((T3.trans t4).trans t5).same e6).same e7
  have p6:0<Rat.divInt (1+d4) (1+d5):=by
   rw[<-WV (1+d5)];exact(Zf ∅).mpr ∅
  refine I _ _ ⟨S,_,_,rfl,T7.same (zk.upd c8),zk.upd c8 _ _ (e7 _ _ (e6 _ _ (r4 _ _ h7))),T7.free c8,T7.pool.ne c8,zi,rfl,ERQ.nil.cons (zk.upd c8 _ _ k4) ((a3.add z6).md),by simp,λq m=>?_,λq m=>?_⟩
  ·have e:q=ow+Rat.divInt (1+d4) (1+d5):=↥m
   grind
  ·have e:q=ow+Rat.divInt (1+d4) (1+d5):=↥m
   have hb:=(J0 (t:=1+d4) (b:=1+d5) (c:=4) ∅ ∅ ∅).2
   have e1:bq [ow+Rat.divInt (1+d4) (1+d5)].length=4:=rfl
   rw[e1]
   grind
 rintro Y G4 O;rcases q:O with⟨S,us,qs,rfl,T4,n4,c0,W,c8,n1,n0,f3⟩
 refine xr (λY G=>∃us qs z9,Y=[Sr p,Si wh,Sr pp,Sr pm,some (.bl al),Si rs,Si mn,Sr U,Sr S,z9,none,none,none]/\xo p H G/\zC G U ow/\G S=some (.lst us)/\(us.length:Int)=mn/\ERQ G 40 us qs/\FA ow qs) ?_ ?_
 rotate_left
 ·intro nx I
  refine⟨00,022,mn-1,rfl,by lia,by lia,?_⟩
  refine vd (n:=(mn-1).toNat) (lo:=0) (λi σ G=>∃us qs z9,σ=[Sr p,Si wh,Sr pp,Sr pm,some (.bl al),Si rs,Si mn,Sr U,Sr S,z9,none,none,none]/\xo p H G/\zC G U ow/\G S=some (.lst us)/\us.length=i+1/\ERQ G (10+5*i) us qs/\FA ow qs)
   ⟨us,qs,_,rfl,T4,n4,c8,n1,n0,f3⟩ ?_ ?_
  ·rintro i σ G hi O;rcases q:O with⟨us,qs,z9,rfl,TG,g4,b3,f0,c5,f3⟩
   have r5:i<6:=by lia
   obtain⟨v0,d0,rfl⟩:∃v0 d0,us=v0::d0:=by
    cases us with
    |nil=>simp at f0
    |cons v0 d0=>exact⟨v0,d0,rfl⟩
   rcases q:c5.at' 0 v0 rfl with⟨r0,q0,rfl,h5,t8⟩
   have z0:=c5.sz q0 (wm h5)
   obtain⟨o5,rfl⟩:∃o5,qs=q0::o5:=by
    cases qs with
    |nil=>simp at h5
    |cons a r=>simp at h5;exact⟨r,by rw[h5]⟩
   have e0:atI (V.ref r0::d0) 0=some (.ref r0):=xG (j:=0) rfl
   refine⟨00,.inl ⟨rL,_,SqL.of b3⟩,00,S,032,.of b3,e0,?_⟩
   refine⟨00,p,00,by decide,by decide,TG.pool,λd4 G5 a4 b4 t5=>⟨022,?_⟩⟩
   refine⟨00,p,00,by decide,by decide,t5.pool,λd5 G6 a5 b5 t6=>⟨022,?_⟩⟩
   have n2:zX G G6:=(zY TG.pool t5).trans (zY t5.pool t6)
   refine⟨021,by lia,Bd.mono (m:=5) (bdn ∅ ∅) ⇑1,λr6 G7 e7 l0=>?_⟩
   have z6:Sz 3 (Rat.divInt (1+d4) (1+d5)):=zh1 ∅ ∅ ∅ ∅
   refine⟨r0,r6,021,e7 _ _ (n2 _ _ t8),l0,⟨z0.mono ∅,z6.md⟩,λr7 G8 e8 k4=>?_⟩
   have T8:xo p H G8:=(((TG.trans t5).trans t6).same e7).same e8
   have a6:=e8 _ _ (e7 _ _ (t6.keep _ _ (t5.keep _ _ b3 W) W))
   have m5:zX G G8:=(n2.trans (.of e7)).trans (.of e8)
   refine⟨S,_,0,00,rfl,a6,by decide,by lia,by simp at f0 ⊢;lia,?_⟩
   have b7:zX G8 (upd G8 S (.lst (.ref r7::.ref r0::d0))):=.upd a6
   have p6:0<Rat.divInt (1+d4) (1+d5):=by
    rw[<-WV (1+d5)];exact(Zf ∅).mpr ∅
   exact⟨.ref r7::.ref r0::d0,021,T8.put c0 W _,b7 _ _ (m5 _ _ g4),zi,by simp at f0 ⊢;lia,(((c5.mono ∅).tups m5).tups b7).cons (b7 _ _ k4) ((z0.add z6).mono ∅),f3.cons (by show q0<q0+Rat.divInt (1+d4) (1+d5);grind) (by
    have hb:=(J0 (t:=1+d4) (b:=1+d5) (c:=4) ∅ ∅ ∅).2
    show q0+Rat.divInt (1+d4) (1+d5)<=q0+4;grind)⟩
  ·rintro σ G O;rcases q:O with⟨us,qs,z9,rfl,TG,g4,b3,f0,c5,f3⟩
   exact I _ _ ⟨us,qs,z9,rfl,TG,g4,b3,by lia,c5.mono ∅,f3⟩
 rintro Y G5 O;rcases q:O with⟨b6,l7,z9,rfl,T5,i6,g5,i8,c2,j3⟩
 refine xr (λY G=>∃S us qs,Y=[Sr p,Si wh,Sr pp,Sr pm,some (.bl al),Si rs,Si mn,Sr U,Sr S,z9,none,none,none]/\xo p H G/\zC G U ow/\H S=none/\S≠p/\G S=some (.lst us)/\(us.length:Int)=mn/\ERQ G 60 us qs/\FB wh ow qs) ?_ ?_
 rotate_left
 ·intro nx I
  refine⟨00,rL,00,qp (λh=>?_) (λh=>?_)⟩
  ·refine⟨01,S,b6,rL,rL,.of g5,λlv l5=>?_⟩
   refine⟨lv,rL,⟨_,.of zi⟩,λDc a7=>?_⟩
   have u8:lv≠Dc:=λz=>by rw[<-z,zi]at a7;cases a7
   have T6:=T5.same (zk.upd (o:=.lst b6.reverse) l5)
   have n7:upd G5 lv (.lst b6.reverse) lv=some (.lst b6.reverse):=zi
   have b0:zC (upd G5 lv (.lst b6.reverse)) U ow:=zk.upd l5 _ _ i6
   have c6:=c2.tups (.of (zk.upd (o:=.lst b6.reverse) l5))
   generalize upd G5 lv (.lst b6.reverse)=G6 at *
   have l6:wh=1:=↥h
   have o0:=c2.len
   have m6:∀(i:Nat) (v:V),b6.reverse[i]?=some v->∃r q,v=.ref r/\l7.reverse[i]?=some q/\zC G6 r q:=λi v e=>by
    have hi:i<b6.length:=by have:=(wn.mp e).1;rw[uF]at this;exact this
    rw[List.getElem?_reverse hi]at e
    rw[List.getElem?_reverse ∅,<-o0]
    exact c6.at' _ v e
   refine xR (js:=[7]) (J:=Itl K lv) (g:=zM 0) (te:=_) (n:=1) (xs:=b6.reverse) (λi v G=>∃r q,v=.ref r/\(l7.reverse.map λq=>ow+ow-q)[i]?=some q/\zC G r q) (λi v G G' e ⟨r,q,a,b,c⟩=>⟨r,q,a,b,e _ _ c⟩) a7 (xZ n7) (xn (by rw[uF];lia)) ?_ ?_
   ·intro i x zs G7 Q' hx hz S7 hQ
    obtain⟨y1,rfl⟩:=ZR hz
    rcases q:m6 i x hx with⟨r,q,rfl,eq,j6⟩
    have zq:=c2.sz q (WL.mp (wm eq))
    refine⟨rL,?_⟩
    refine⟨01,U,U,ow,ow,rL,S7 _ _ b0,S7 _ _ b0,⟨a3.md,a3.md⟩,λr8 G8 e8 s1=>?_⟩
    refine⟨00,r8,r,021,s1,e8 _ _ (S7 _ _ j6),⟨(a3.add a3).md,zq.md⟩,λr9 G9 e9 u1=>hQ _ _ (e8.trans e9) ⟨r9,00,by rw[we,eq];rfl,u1⟩⟩
   ·intro ys G7 S7 s6 o6 u3
    refine I _ _ ⟨Dc,ys,_,rfl,T6.same S7,S7 _ _ b0,T6.free a7,T6.pool.ne a7,s6,by rw[o6,uF];exact i8,⟨by rw[o6];simp[o0],u3,λq m=>?_⟩,by rw[l6];exact j3.mirror⟩
    obtain⟨x,mx,rfl⟩:=wx.mp m
    exact(Sz.sub (a3.add a3) (c2.sz x (WL.mp mx))).md
  ·have l6:wh≠1:=λz=>h (by rw[z];decide)
   exact I _ _ ⟨S,b6,l7,rL,T5,i6,c0,W,g5,i8,c2.mono ⇑1,j3.fb l6⟩
 clear c8 n0 n1 c0 W g5 f3
 clear qs us
 rintro Y G6 O;rcases q:O with⟨S,us,qs,rfl,T6,b0,c0,W,c4,l8,c6,g7⟩
 refine xr (λY G=>∃us qs,Y=[Sr p,Si wh,Sr pp,Sr pm,some (.bl al),Si rs,Si mn,Sr U,Sr S,z9,none,none,none]/\xo p H G/\zC G U ow/\G S=some (.lst us)/\1<=us.length/\us.length<=7/\(wh≠1->(us.length:Int)+rs<=7)/\ERQ G 60 us qs/\FC wh ow qs) ?_ ?_
 rotate_left
 ·intro nx I
  have no:nx [some (.ref p),some (.int wh),some (.ref pp),some (.ref pm),some (.bl al),some (.int rs),some (.int mn),some (.ref U),some (.ref S),z9,none,none,none] G6:=I _ _ ⟨us,qs,rfl,T6,b0,c4,by lia,by lia,λ_=>by lia,c6,g7.fc⟩
  refine⟨00,rL,00,qp (λh=>?_) (λh=>xm no)⟩
  refine⟨00,rL,00,qp (λh2=>?_) (λh2=>no)⟩
  have b7:zX G6 (upd G6 S (.lst (.ref U::us))):=.upd c4
  have hw:wh=1:=↥h2
  exact⟨00,.inl ⟨rfl,_,SqL.of c4⟩,00,S,_,0,00,rfl,c4,by decide,by lia,by lia,I _ _ ⟨.ref U::us,00,T6.put c0 W _,b7 _ _ b0,zi,by simp,by simp only[wJ];lia,λz=>absurd hw z,(c6.tups b7).cons (b7 _ _ b0) (a3.md),by subst hw;exact g7.rest⟩⟩
 clear c4 c6 l8 b0 g7
 clear qs us
 rintro Y G7 O;rcases q:O with⟨us,qs,rfl,T7,e4,c3,p0,p4,m9,f8,f5⟩
 refine xr (λY G=>∃us qs,Y=[Sr p,Si wh,Sr pp,Sr pm,some (.bl al),Si rs,Si mn,Sr U,Sr S,z9,none,none,none]/\xo p H G/\zC G U ow/\G S=some (.lst us)/\1<=us.length/\us.length<=7/\ERQ G 60 us qs/\FD wh ow qs) ?_ ?_
 rotate_left
 ·intro nx I
  have no:nx [some (.ref p),some (.int wh),some (.ref pp),some (.ref pm),some (.bl al),some (.int rs),some (.int mn),some (.ref U),some (.ref S),z9,none,none,none] G7:=I _ _ ⟨us,qs,rfl,T7,e4,c3,by lia,by lia,f8,f5.fd⟩
  refine⟨00,rL,00,qp (λh=>?_) (λh=>xm no)⟩
  refine⟨00,rL,00,qp (λh2=>?_) (λh2=>no)⟩
  have b7:zX G7 (upd G7 S (.lst (us++[.ref U]))):=.upd c3
  have hw:wh=2:=↥h2
  have:=m9 ∅
  exact⟨00,.inl ⟨rfl,_,SqL.of c3⟩,00,S,022,c3,xn ∅,I _ _ ⟨us++[.ref U],00,T7.put c0 W _,b7 _ _ e4,zi,by simp,by simp only[wC,WF];lia,(f8.tups b7).snoc (b7 _ _ e4) (a3.md),by subst hw;exact f5.rest⟩⟩
 clear c3 f8 p0 p4 m9 e4 f5
 clear qs us
 rintro Y G8 O;rcases q:O with⟨us,qs,rfl,T8,m8,a6,p0,p4,o2,n3⟩
 refine xr (λY G=>∃(lw:Addr) (ws:Ak),Y=[Sr p,Si wh,Sr pp,Sr pm,some (.bl al),Si rs,Si mn,Sr U,Sr S,z9,Sr lw,none,none]/\xo p G8 G/\H lw=none/\lw≠p/\lw≠S/\G lw=some (.lst (ws.map V.int))/\ws.length=us.length/\∀x∈ws,1<=x/\x<=1000) ?_ ?_
 rotate_left
 ·intro nx I
  refine⟨00,S,rL,⟨_,.of a6⟩,λDc a7=>?_⟩
  have l4:Dc≠p:=T8.pool.ne a7
  have u7:Dc≠S:=λz=>by rw[z,a6]at a7;cases a7
  refine Jy (js:=[0]) (J:=Itl K S) (g:=zM 0) (tt:=λ_ H Q=>Q true H) (te:=_) (N:=us.length) (n:=1) (λi G ys=>xo p G8 G/\∃ws:Ak,ys=ws.map V.int/\ws.length=i/\∀x∈ws,1<=x/\x<=1000)
   ⟨⟨T8.pool.new a7,λb o e _=>zk.upd a7 _ _ e⟩,[],rfl,rfl,λv hv=>by cases hv⟩ (λi G ys hi z=>⟨us,us[i],.of (z.1.keep _ _ a6 W),wj hi⟩) (λG ys z=>⟨us,.of (z.1.keep _ _ a6 W),wq _⟩) ?_ ?_
  ·rintro i x zs G_ G ys Nx hN hi s9 ⟨rfl,_⟩ ⟨tG,ws,rfl,c7,c1⟩ j9
   obtain⟨y1,rfl⟩:=ZR s9
   refine⟨rL,xp ?_⟩
   refine⟨00,p,00,by decide,by decide,tG.pool,λd2 G3 a2 b2 t3=>⟨022,?_⟩⟩
   have h3:=t3.keep _ _ j9 l4
   refine⟨h3,xn (by simp;lia),hN _ _ ⟨(tG.trans t3).put a7 l4 _,ws++[1+d2],by simp,by simp[c7],λv hv=>?_⟩⟩
   rcases wK.mp hv with z | z
   ·exact c1 v z
   ·have:v=1+d2:=↥z
    lia
  ·rintro G ys ⟨tG,ws,rfl,c7,c1⟩ j9
   exact I _ _ ⟨Dc,ws,rL,tG,T8.free a7,l4,u7,j9,c7,c1⟩
 rintro Y G9 O;rcases q:O with⟨lw,ws,rfl,T9,f7,g9,g0,e5,c7,c1⟩
 have p8:=T8.trans T9
 refine xr (λY G=>∃(lw:Addr) (ws:Ak),Y=[Sr p,Si wh,Sr pp,Sr pm,some (.bl al),Si rs,Si mn,Sr U,Sr S,z9,Sr lw,none,none]/\xo p G8 G/\H lw=none/\lw≠p/\lw≠S/\G lw=some (.lst (ws.map V.int))/\ws.length=us.length/\∀x∈ws,1<=x/\x<=1000) ?_ ?_
 rotate_left
 ·intro nx I
  refine⟨01,qp (λh=>?_) (λh=>I _ _ ⟨lw,ws,rL,T9,f7,g9,g0,e5,c7,c1⟩)⟩
  obtain⟨w0,o7⟩:∃w0,ws[0]?=some w0:=⟨_,wj ∅⟩
  have e0:atI (ws.map V.int) 0=some (.int w0):=xG (j:=0) (by rw[we,o7];rfl)
  refine⟨00,lw,032,.of e5,e0,zL1,λl2 i0=>?_⟩
  have j7:=zk.upd (o:=.lst [.int w0]) i0 _ _ e5
  refine⟨00,lw,00,.inl (.of j7),l2,022,zi,by (first | (simp;lia) | simp),by (first | (simp;lia) | simp),szl (by (first | (simp;lia) | simp)),λl3 b9=>?_⟩
  have f6:=T9.same ((zk.upd (o:=.lst [.int w0]) i0).trans (zk.upd (o:=.lst ((List.replicate ((ws.map V.int).length:Int).toNat [V.int w0]).flatten)) b9))
  have p9:=p8.same (zk.upd (o:=.lst [.int w0]) i0)
  have p3:=T9.keep _ _ a6 W
  refine I _ _ ⟨l3,List.replicate ws.length w0,rfl,f6,p9.free b9,p9.pool.ne b9,λz=>?_,?_,by simp[c7],λx m=>by have:=Wi m;subst this;exact c1 _ (wm o7)⟩
  ·have:=zk.upd (o:=.lst [.int w0]) i0 _ _ p3
   rw[<-z,b9]at this;cases this
  ·rw[zi,Vo];simp
 clear e5 c7 c1 f7 g9 g0 p8 T9
 rintro Y i3 O;rcases q:O with⟨lw,ws,rfl,f6,f7,g9,g0,g8,c7,c1⟩
 have i9:=zY T8.pool f6
 have c9:=f6.keep _ _ a6 W
 have k9:zC i3 U ow:=i9 _ _ m8
 have d7:=o2.tups i9
 have h4:=T8.trans f6
 have h9:zX H i3:=zY hP h4
 refine xr (λY G=>∃lr,Y=[Sr p,Si wh,Sr pp,Sr pm,some (.bl al),Si rs,Si mn,Sr U,Sr S,z9,Sr lw,Sr lr,none]/\zk i3 G/\i3 lr=none/\G lr=some (.lst [])) ?_ ?_
 rotate_left
 ·intro nx I
  exact⟨by show 0<=sizeLine;exact yo _,λlr o4=>I _ _ ⟨lr,rfl,zk.upd o4,o4,zi⟩⟩
 rintro Y p7 O;rcases q:O with⟨lr,rfl,b8,a9,k6⟩
 have m0:lr≠p:=h4.pool.ne a9
 have o9:=h4.free a9
 have n5:S≠lr:=λz=>by rw[<-z,c9]at a9;cases a9
 have o1:lw≠lr:=λz=>by rw[<-z,g8]at a9;cases a9
 have t9:=h4.same b8
 refine xr (λY G=>∃z9 d6 vs bs,Y=[Sr p,Si wh,Sr pp,Sr pm,some (.bl al),Si rs,Si mn,Sr U,Sr S,z9,Sr lw,Sr lr,d6]/\xo p H G/\zX p7 G/\G lr=some (.lst vs)/\zL G vs bs/\bs.length=us.length/\ZB bs/\bs.map (λb=>(b.pl,b.sp))=xO px mm qs) ?_ ?_
 rotate_left
 ·intro nx I
  refine⟨00,S,us,rL,b8 _ _ c9,VD (xs:=us) (λi σ G=>∃z9 d6 vs bs,σ=[Sr p,Si wh,Sr pp,Sr pm,some (.bl al),Si rs,Si mn,Sr U,Sr S,z9,Sr lw,Sr lr,d6]/\xo p H G/\zX p7 G/\G S=some (.lst us)/\G lw=some (.lst (ws.map V.int))/\G lr=some (.lst vs)/\zL G vs bs/\bs.length=i/\ZB bs/\bs.map (λb=>(b.pl,b.sp))=xO px mm (qs.take i))
   ⟨_,_,[],[],rfl,t9,λ_ _ e=>e,b8 _ _ c9,b8 _ _ g8,k6,.nil,rfl,(λ_ m=>by cases m),rfl⟩ (λi σ G ⟨_,_,_,_,_,_,_,z,_⟩=>.of z) ?_ ?_⟩
  ·rintro i x σ G Tt hx ⟨z9,d6,vs,bs,rfl,TG,f2,b3,j0,d9,hB,i2,hZ,f1⟩ s4
   have sT:zk G (upd G Tt (.tup [.int i,x])):=zk.upd s4
   have o8:upd G Tt (.tup [.int i,x]) Tt=some (.tup [.int i,x]):=zi
   generalize upd G Tt (.tup [.int i,x])=G1 at sT o8
   have r5:i<us.length:=(wn.mp hx).1
   rcases q:d7.at' i x hx with⟨r,q,rfl,eq,j6⟩
   have zq:=d7.sz q (wm eq)
   obtain⟨wt,n9⟩:∃wt,ws[i]?=some wt:=⟨_,wj ∅⟩
   have u4:=c1 wt (wm n9)
   have s7:atI (ws.map V.int) (i:Int)=some (.int wt):=xG (by rw[we,n9];rfl)
   have a8:zC G1 r q:=sT _ _ (f2 _ _ (b8 _ _ j6))
   have m2:zC G1 pm mm:=sT _ _ (f2 _ _ (b8 _ _ (h9 _ _ r1)))
   have m4:zC G1 pp px:=sT _ _ (f2 _ _ (b8 _ _ (h9 _ _ n8)))
   refine⟨Tt,00,.of o8,rL,021,022,?_⟩
   refine⟨00,.inl ⟨rL,_,SqL.of (sT _ _ d9)⟩,02,r,pm,q,mm,rL,a8,m2,⟨zq.md,h6.md⟩,λr2 G2 e2 h2=>?_⟩
   have o3:=zq.mul h6
   refine⟨pp,r2,px,00,e2 _ _ m4,h2,⟨h8.md,o3.md⟩,λr3 G3 e3 h3=>?_⟩
   have S3:=sT.trans (e2.trans e3)
   have i7:=S3 _ _ j0
   refine⟨02,lw,032,.of i7,s7,zL3,λt ht=>?_⟩
   have g6:=zk.upd (o:=.tup [.ref r3,.ref r,.int wt]) ht _ _ (S3 _ _ d9)
   refine⟨lr,vs,00,rfl,g6,xn (by rw[hB.length];lia),?_⟩
   have Tu:zX G3 (upd (upd G3 t (.tup [.ref r3,.ref r,.int wt])) lr (.lst (vs++[.ref t]))):=(zX.of (zk.upd ht)).trans (.upd g6)
   have p1:zX G (upd (upd G3 t (.tup [.ref r3,.ref r,.int wt])) lr (.lst (vs++[.ref t]))):=(zX.of S3).trans Tu
   refine⟨_,_,vs++[.ref t],bs++[⟨px-q*mm,q,wt⟩],rfl,((TG.same S3).same (zk.upd ht)).put o9 m0 _,f2.trans p1,?_,?_,zi,?_,by simp[i2],?_,?_⟩
   ·rw[zK n5];exact zk.upd ht _ _ (S3 _ _ b3)
   ·rw[zK o1];exact zk.upd ht _ _ i7
   ·exact zL.append (.one (b:=⟨px-q*mm,q,wt⟩) (zX.upd g6 _ _ zi) (Tu _ _ h3) (Tu _ _ ((e2.trans e3) _ _ a8))) (hB.mono p1)
   ·intro b mb
    rcases wK.mp mb with z | z
    ·exact hZ b z
    ·have:b=⟨px-q*mm,q,wt⟩:=↥z
     subst this
     exact⟨(Sz.sub h8 o3).md,zq.md,u4⟩
   ·rw[yK,f1,yu,eq];simp[xO]
  ·rintro σ G O;rcases q:O with⟨z9,d6,vs,bs,rfl,TG,f2,b3,j0,d9,hB,i2,hZ,f1⟩
   rw[wH (by rw[<-d7.len];lia)]at f1
   exact I _ _ ⟨z9,d6,vs,bs,rL,TG,f2,d9,hB,i2,hZ,f1⟩
 rintro Y d8 O;rcases q:O with⟨w1,d6,vs,bs,rfl,u5,f9,j5,hB,i2,hZ,f1⟩
 have h0:zC d8 U ow:=f9 _ _ (b8 _ _ k9)
 have k8:zC d8 pm mm:=f9 _ _ (b8 _ _ (h9 _ _ r1))
 have k7:zC d8 pp px:=f9 _ _ (b8 _ _ (h9 _ _ n8))
 refine⟨00,lr,vs,rL,.inl ⟨.of j5,λr s5=>?_⟩⟩
 have d3:zk d8 (upd d8 r (.tup vs)):=zk.upd s5
 have i5:upd d8 r (.tup vs) r=some (.tup vs):=zi
 generalize upd d8 r (.tup vs)=G14 at d3 i5
 refine⟨02,U,pm,ow,mm,rL,d3 _ _ h0,d3 _ _ k8,⟨a3.md,h6.md⟩,λr2 w3 n6 h2=>?_⟩
 have p5:=a3.mul h6
 refine⟨pp,r2,px,00,n6 _ _ (d3 _ _ k7),h2,⟨h8.md,p5.md⟩,λr3 u2 s2 h3=>?_⟩
 have t7:=n6.trans s2
 refine⟨00,⇑5,λwl j4=>⟨⇑5,λt ht=>?_⟩⟩
 have i1:=t7.trans ((zk.upd (o:=.tup [.ref r3,.ref U]) j4).trans (zk.upd (o:=.tup [.ref r,.ref wl]) ht))
 have m3:zk u2 _:=(zk.upd (o:=.tup [.ref r3,.ref U]) j4).trans (zk.upd (o:=.tup [.ref r,.ref wl]) ht)
 exact k t r wl vs bs r3 U _ ow _ (u5.same (d3.trans i1)) zi (i1 _ _ i5) (hB.same (d3.trans i1)) hZ ∅ ∅ (zk.upd ht _ _ zi) (m3 _ _ h3) (i1 _ _ (d3 _ _ h0)) ((Sz.sub h8 p5).md) (a3.md) ⟨qs,f1,n3,rL,g3,f4⟩
theorem ze6 {d:Int}(j:0<=d) (h1:d<3):∃v:Int,atI [V.int 1,.int 2,.int 3] d=some (.int v)/\1<=v/\v<=3:=by
 have:d=0\/d=1\/d=2:=by lia
 rcases this with rfl | rfl | rfl
 all_goals exact⟨00,by decide,by decide⟩
theorem zdQ {bs:Bk}{pl m:Rat}{qs:Al}(h:bs.map (λb=>(b.pl,b.sp))=xO pl m qs) (G:qs.Pairwise (· > ·)) (F:0<m) (z:ZB bs):Qn bs:=by
 refine⟨λb j=>⟨(z b j).2.2.1,(z b j).2.2.2⟩,λb j=>⟨(z b j).1,(z b j).2.1⟩,?_⟩
 have h1:(xO pl m qs).Pairwise (λa b=>a.1<b.1):=by
  unfold xO
  rw[yi]
  refine G.imp λ{a b} lt=>?_
  have:=ym (show b<a from lt) F
  show pl-a*m<pl-b*m
  grind
 rw[<-h,yi]at h1
 exact h1.imp λ{a b} lt=>.inl lt
theorem Qb {bs:Bk}{pl m:Rat}{qs:Al}(h:bs.map (λb=>(b.pl,b.sp))=xO pl m qs){b:zB}(j:b∈bs):b.sp∈qs/\b.pl=pl-b.sp*m:=by
 have:(b.pl,b.sp)∈xO pl m qs:=by rw[<-h];exact wx.mpr ⟨b,j,rfl⟩
 unfold xO at this
 obtain⟨q,F,e⟩:=wx.mp this
 simp only[Prod.mk.injEq]at e
 obtain⟨e1,e2⟩:=e
 subst e2
 exact⟨F,e1.symm⟩
theorem za3 {a b m:Rat}(h:a<=b) (j:0<m):a*m<=b*m:=yn h (uw j)
theorem zcH {a b m:Rat}(h:a*m=b*m) (j:0<m):a=b:=by
 have:m≠0:=by grind
 grind
theorem zi4 {bs:Bk}:Box bs none none:=⟨λx y e=>by (cases e),λx y e=>by (cases e),λx y b e=>by (cases e),λx y cs b e=>by (cases e),λx y F j e=>by (cases e)⟩
theorem zi3 {bs:Bk}{pl m j:Rat}{qs:Al}(h:bs.map (λb=>(b.pl,b.sp))=xO pl m qs) (F:0<m) (O:∀q∈qs,q<=j) (G:Sz 300 (pl-j*m)) (U:Sz 80 j):Box bs (some (pl-j*m,j)) none:=by
 refine⟨λx y e=>by cases e;exact⟨G.md,U⟩,(λx y e=>by cases e),λx y b e I=>?_,(λx y cs b e=>by cases e),(λx y W V _ e=>by cases e)⟩
 cases e
 obtain⟨S,e1⟩:=Qb h (wm I)
 have Y:=za3 (O _ S) F
 refine⟨by rw[e1];grind,λe2=>?_⟩
 have:j*m=b.sp*m:=by rw[e1]at e2;grind
 rw[zcH this F];grind
theorem zi2 {bs:Bk}{pl m j:Rat}{qs:Al}(h:bs.map (λb=>(b.pl,b.sp))=xO pl m qs) (F:0<m) (O:∀q∈qs,j<=q) (G:Sz 300 (pl-j*m)) (U:Sz 80 j):Box bs none (some (pl-j*m,j)):=by
 refine⟨(λx y e=>by cases e),λx y e=>by cases e;exact⟨G.md,U⟩,(λx y b e=>by cases e),λx y cs b e I=>?_,(λx y W V e=>by cases e)⟩
 cases e
 obtain⟨S,e1⟩:=Qb h (show b∈bs by rw[I];simp)
 have Y:=za3 (O _ S) F
 refine⟨by rw[e1];grind,λe2=>?_⟩
 have:j*m=b.sp*m:=by rw[e1]at e2;grind
 rw[zcH this F];grind
def StK (p:Addr) (H:Hp) (Q:VK):Prop:=∀t r ws us bs v1 v2 l1 l2 H',xo p H H'->H' t=some (.tup [.ref r,.ref ws])->H' r=some (.tup us)->zL H' us bs->Qn bs->1<=bs.length->bs.length<=8->H' ws=some (.tup [v1,v2])->zT H' v1 l1->zT H' v2 l2->Box bs l1 l2->Q (.ref t) H'
inductive Jm (vs:Ba)(H:Hp)(Q:VK)(_e3:XK):Prop
 |mk:∀(p:Addr) (al:Bool),(vs=[.ref p,.bl al])->(vE H p)->(StK p H Q)->Jm vs H Q _e3
theorem JO:zF ["pool","alike","moment","where","row","wall","walls"] ["pool","alike"] (zr Zb):=scq
theorem ok_fo (D:Df K mg "_law_focused" Zb ["pool","alike"] []) (T:TxB K mg) (cN:⇑3 "_law_next" 1 ["pool","base"] [] qN) (c6:⇑3 "_law_ratio" 3 ["pool","size"] [] zhW)
  (cL:⇑3 "_law_low" 1 ["top","bottom"] [] qm) (c0:⇑3 "_law_bundle" 3 ["pool","where","place","moment","alike"] [] zhQ):⇑3 "_law_focused" 4 ["pool","alike"] [] Jm:=by
 rcases r:D.calBq (k:=3) JO with⟨p,al,rfl,hP,k⟩
 have W:xf 1 _:=hr.md
 refine⟨_,(zE (ZX (i:=2) JO.nd rL (Or.inl rL) (Bx.mk (zH cL W %[zD xc zg (zH cN W %[0,zg|0]),xb zU (xF %[zg,zg,zg|0]) (zH cN W %[0,zg|0]) (λ_ _=>rL)|0])))
  (zE (Bx.mk (psl (i:=3) JO.nd (zH cN W %[0,zg|0])))
  (zE (Bx.mk (qf (zH c0 hr %[0,3,(zH c6 hr %[0,zg|0]),2,1|0]) (qu rfl (zP (pgl (i:=4) JO.nd) (zP (pgl (i:=5) JO.nd) xw)))))
  (zE (ZX (i:=6) JO.nd rfl (Or.inl rfl) (ZW (zW (Bx.mk zV) (zW (Bx.mk zV) vF))))
  (zE (Bx.mk (zZ (zI Vc (pv 3) zg (zJ _)) (zj (qf (pv 5) (Z7 (pv 6) (zD xS (pv 3) zg) vB))) zQ))
  (Bx.mk (zj (zG (xa %[4,qj qv ⇑2 T.nTuple yy %[6|0]|0]))))))))),?_⟩
 try dsimp only[xi,Cx.nox]
 refine xr (λσ' G=>∃rm U,σ'=[Sr p,some (.bl al),Sr rm,none,none,none,none]/\xo p H G/\zC G rm U/\Sz 5 U/\0<U) ?_ ?_
 rotate_left
 ·intro nx F
  refine⟨00,p,00,by decide,by decide,hP,λd1 G1 a1 b1 t1=>⟨022,zL3,λl1 a7=>?_⟩⟩
  refine⟨00,p,00,by decide,by decide,t1.pool.new a7,λd2 G2 a2 b2 t2=>?_⟩
  obtain⟨v,ev,v0,v1⟩:=ze6 a2 b2
  refine⟨l1,032,.of (t2.keep l1 _ zi (t1.pool.ne a7)),ev,?_⟩
  exact⟨021,by lia,Bd.mono (m:=5) (bdn ∅ ∅) ⇑1,λr H' e h=>F _ _ ⟨r,00,(t1.trans (t2.pre (zk.upd a7))).same e,h,zh1 ∅ ∅ ∅ ∅,by rw[<-WV v];exact(Zf ∅).mpr ∅⟩⟩
 rintro σ' G1 a5;rcases q:a5 with⟨rm,U,rfl,T1,c4,c2,a6⟩
 refine⟨00,p,00,by decide,by decide,T1.pool,λwh G2 w0 w3 t2=>?_⟩
 have T2:=T1.trans t2
 refine⟨02,p,00,by decide,by decide,T2.pool,λrp px G3 t3 b7 c8=>?_⟩
 have T3:=T2.trans t3
 have a9:zC G3 rm U:=zY T2.pool t3 _ _ (zY T1.pool t2 _ _ c4)
 refine⟨01,p,rp,rm,wh,al,px,U,rfl,w0,by lia,b7,c8,a9,c2,T3.pool,λt r wl us bs ra rb y z G4 t4 ht b8 hB hZ h1 h8 c7 b9 c9 zy zz c3=>?_⟩
 rcases q:c3 with⟨qs,hL,a8,rfl,_,_⟩
 have hG:=zdQ hL a8.1 a6 hZ
 have T4:=T3.trans t4
 refine⟨t,00,.of ht,rL,021,022,?_⟩
 refine⟨⇑5,λO Y=>?_⟩
 have a3:=T4.free Y
 have a4:=T4.pool.ne Y
 have I:zX G4 (upd G4 O (.lst [.non,.non])):=.of (zk.upd Y)
 have j:upd G4 O (.lst [.non,.non]) O=some (.lst [.non,.non]):=zi
 have T5:=T4.same (zk.upd (o:=.lst [.non,.non]) Y)
 generalize upd G4 O (.lst [.non,.non])=G5 at *
 dsimp only[zM]
 refine xr (λσ' G=>∃v1 v2 l1 l2,σ'=[Sr p,some (.bl al),Sr rm,Si wh,Sr r,Sr wl,Sr O]/\xo p H G/\zX G4 G/\G O=some (.lst [v1,v2])/\zT G v1 l1/\zT G v2 l2/\Box bs l1 l2) ?_ ?_
 rotate_left
 ·intro nx F
  refine⟨00,022,00,qp (λh=>?_) (λh=>F _ _ ⟨.non,.non,none,none,rL,T5,I,j,rL,rL,zi4⟩)⟩
  have hw:wh=1\/wh=2:=by have:0<wh:=wF h
                         lia
  have wa:∀G,zX G4 G->zT G (.ref wl) (some (px-z*U,z)):=λG e=>⟨wl,ra,rb,rfl,e _ _ c7,e _ _ b9,e _ _ c9⟩
  have V:∀xs,zX G5 (upd G5 O (.lst xs)):=λxs=>.upd j
  rcases hw with rfl | rfl
  ·exact⟨02,022,O,_,_,0,rL,rL,j,rL,F _ _ ⟨.ref wl,.non,some (px-z*U,z),none,rL,T5.put a3 a4 _,I.trans (V _),zi,wa _ (I.trans (V _)),rL,zi3 hL a6 (a8.2.1 rL) zy zz⟩⟩
  ·exact⟨02,022,O,_,_,1,rL,rL,j,rL,F _ _ ⟨.non,.ref wl,none,some (px-z*U,z),rL,T5.put a3 a4 _,I.trans (V _),zi,rL,wa _ (I.trans (V _)),zi2 hL a6 (a8.2.2.1 rL) zy zz⟩⟩
 rintro σ' G6 a5;rcases q:a5 with⟨v1,v2,l1,l2,rfl,T6,b0,b4,c1,b6,c5⟩
 refine⟨01,O,00,.inl ⟨.of b4,λws b5=>⟨⇑5,λtt b3=>?_⟩⟩⟩
 have S:=(zk.upd (o:=.tup [v1,v2]) b5).trans (zk.upd (o:=.tup [.ref r,.ref ws]) b3)
 exact k tt r ws us bs v1 v2 l1 l2 _ (T6.same S) zi (S _ _ (b0 _ _ b8)) ((hB.mono b0).same S) hG h1 h8 (zk.upd b3 _ _ zi) (c1.tups (.of S)) (b6.tups (.of S)) c5
end KK
namespace KQ
open PySem L2 KM KK
def vN {X:Cx}{es:Ag}{k:Nat}{pos:Pos}{t:TGs}{n:Nat}{K:Fg}(I:X.K=K) (F:X.calm=true) (h:PGs X es t)
  (G:(assignEach es X.env).length=n:=by rfl) (j:(assignEach es X.env).findIdx? (·.1)=none:=by rfl):PG X (.Tuple es k pos) (Xt K n t):=by subst I;exact qu F h G j
def qH {X:Cx}{K:Fg}(j:X.K=K):IxR X (ZV K):=by subst j;exact ve
def VI {X:Cx}{K:Fg}(j:X.K=K):IxR X (zjR K):=by subst j;exact zU
variable {P:Program}{w:World}{K:Fg}{mg:Aa}{base:Heap}
theorem zdT (x y:Rat):Rat.divInt (x.num*y.den-y.num*x.den) (x.den*y.den)=x-y:=by
 exact KM.VN x y
theorem zfJ:zF ["one","other"] ["one","other"] (zr zaj):=scq
theorem zfc (D:Df K mg "minus" zaj ["one","other"] []) (c:⇑3 "ratio" 2 ["top","bottom"] [] qm):⇑3 "minus" 3 ["one","other"] [] (xY Sz2 (· - ·)):=by
 rcases r:D.calq (k:=2) zfJ with⟨p,q,x,y,rfl,G,I,⟨S,O⟩,k⟩
 have F:=Bd4 S
 have j:=Bd4 O
 refine⟨_,zj (zG (zH c hr %[zD xS (zD zR (pxt (pv 0)) (pxt (pv 1))) (zD zR (pxt (pv 1)) (pxt (pv 0))),zD zR (pxt (pv 0)) (pxt (pv 1))|0])),?_⟩
 refine⟨00,p,032,.of G,at0 ..,00,q,032,.of I,at1 ..,022,⟨F.1,j.2⟩,00,q,032,.of I,at0 ..,00,p,032,.of G,at1 ..,022,⟨j.1,F.2⟩,022,?_⟩
 refine⟨00,p,032,.of G,at1 ..,00,q,032,.of I,at1 ..,022,⟨F.2,j.2⟩,?_⟩
 refine⟨021,yl (qd x) (qd y),(S.2.mul O.2).md,λr H' e h=>k r H' e ?_⟩
 show zC H' r (x-y)
 rw[<-zdT];exact h
inductive zdc (vs:Ba)(H:Hp)(Q:VK)(_e3:XK):Prop
 |mk:∀p q a b c d,(vs=[.ref p,.ref q])->(H p=some (.tup [.int a,.int b]))->(H q=some (.tup [.int c,.int d]))->(Bd 8900 a)->(Bd 8900 b)->(Bd 8900 c)->(Bd 8900 d)->(Q (.bl (decide (a*d<c*b))) H)->zdc vs H Q _e3
theorem zhE:zF ["one","other"] ["one","other"] (zr QL):=scq
theorem Bd9 {i:Int}(h:Bd 8900 i):Bd 1000000 i:=h.md
theorem zg3 (D:Df K mg "less" QL ["one","other"] []):⇑3 "less" 1 ["one","other"] [] zdc:=by
 rcases r:D.calq (k:=0) zhE with⟨p,q,a,b,c,d,rfl,j,F,I,O,G,hd,k⟩
 refine⟨_,zj (zG (xW Z6 (zD zR (pxt (pv 0)) (pxt (pv 1))) (zD zR (pxt (pv 1)) (pxt (pv 0))) (zJ _))),?_⟩
 refine⟨00,p,032,.of j,at0 ..,00,q,032,.of F,at1 ..,022,⟨Bd9 I,Bd9 hd⟩,?_⟩
 refine⟨00,q,032,.of F,at0 ..,00,p,032,.of j,at1 ..,022,⟨Bd9 G,Bd9 O⟩,022,?_⟩
 exact k
theorem VM (x y:Rat):decide (x.num*(y.den:Int)<y.num*(x.den:Int))=decide (x<y):=by
 by_cases h:x<y
 ·rw[wo h,wo ((KM.Z4 x y).mpr h)]
 ·rw[wG h,wG λz=>h ((KM.Z4 x y).mp z)]
def Zh (ks:Ak):Int:=ks.foldl (λc n=>c/(Int.gcd c n:Int)*n) 1
theorem VL {c n:Int}(j:0<c) (F:0<n):0<c/(Int.gcd c n:Int)*n:=by
 refine Yl ?_ F
 have G:0<(Int.gcd c n:Int):=by have:=yR n (a:=c) ∅;lia
 exact Int.ediv_pos_of_pos_of_dvd j ∅ (yU c n)
theorem zjp {c n:Int}(j:0<c) (G:0<n):c/(Int.gcd c n:Int)*n<=c*n:=by
 have F:0<(Int.gcd c n:Int):=by have:=yR n (a:=c) ∅;lia
 exact Int.mul_le_mul_of_nonneg_right (Wb _ ∅) ∅
theorem zer {m n:Nat}{c k:Int}(F:0<c) (j:0<k) (h:Bd m c) (h':Bd n k):Bd (m+n) (c/(Int.gcd c k:Int)*k) :=
 (h.mul h').of_le (by have:=zjp F j;have:=VL F j;omega)
def Pos (n:Nat) (ks:Ak):Prop:=∀k∈ks,0<k/\Bd n k
inductive zfS (vs:Ba)(H:Hp)(Q:VK)(_e3:XK):Prop
 |mk:∀p ks,(vs=[.ref p])->(H p=some (.lst (ks.map V.int)))->(Pos 400 ks)->(ks.length<=20)->(Q (.int (Zh ks)) H)->zfS vs H Q _e3
theorem zan:zF ["numbers","common","number"] ["numbers"] (zr vj):=scq
theorem zjF (D:Df K mg "least_multiple" vj ["numbers"] []) (cG:⇑3 "greatest_divisor" 1 ["one","other"] [] JR):⇑3 "least_multiple" 2 ["numbers"] [] zfS:=by
 rcases r:D.calq (k:=1) zan with⟨p,ks,rfl,O,Y,hl,k⟩
 refine⟨_,(zA (psl (i:=1) zan.nd zg)
  (zA (qD PassesOwn.never rfl (xM (pv 0)) (pgl (i:=2) zan.nd) (zj (psl (i:=1) zan.nd (zD zR (zD qC (pv 1) (zH cG hr %[1,2|0])) (pv 2)))))
  (zj (zG (pv 1))))),?_⟩
 try dsimp only[xi,Cx.nox]
 refine⟨00,p,rfl,⟨_,SqL.of O⟩,Zg (xs:=ks.map V.int) (λi σ H1=>H1=H/\∃z,σ=[Sr p,some (.int (Zh (ks.take i))),z]/\0<Zh (ks.take i)/\Bd (1+400*i) (Zh (ks.take i))) ⟨rfl,none,rfl,(by show (0:Int)<1;decide),(show (1:Int).natAbs<2^1 by decide)⟩ ?_ ?_ ?_⟩
 ·rintro i σ H1 _ ⟨rfl,_⟩;exact .of O
 ·rintro i x σ H1 W F;rcases q:F with⟨rfl,z,rfl,h1,h2⟩
  have hi:i<ks.length:=by
   have:=(wn.mp W).1
   simpa using this
  obtain⟨n,U,rfl⟩:∃n,ks[i]?=some n/\V.int n=x:=↥W
  have j:=Y n (wm U)
  have G:Zh (ks.take (i+1))=Zh (ks.take i)/(Int.gcd (Zh (ks.take i)) n:Int)*n:=by
   rw[yu,U];simp[Zh,uR]
  have hg:0<(Int.gcd (Zh (ks.take i)) n:Int):=by have:=yR n (a:=Zh (ks.take i)) ∅;lia
  have S:Bd 8900 (Zh (ks.take i)):=h2.mono ∅
  have I:Bd 8900 (Int.gcd (Zh (ks.take i)) n:Int):=S.of_le (by have:=Int.le_of_dvd h1 (yU (Zh (ks.take i)) n);lia)
  have hq:Bd 8900 ((Zh (ks.take i)).fdiv (Int.gcd (Zh (ks.take i)) n:Int)):=by
   rw[yp _ ∅]
   exact S.of_le (by have:=Wb (Int.gcd (Zh (ks.take i)) n:Int) (a:=Zh (ks.take i)) ∅;have:=Yy (a:=Zh (ks.take i)) (b:=(Int.gcd (Zh (ks.take i)) n:Int)) ∅ ∅;lia)
  refine⟨02,⟨021,by lia,by lia,?_⟩⟩
  refine⟨022,⟨by lia,I⟩,00,022,⟨Bd9 hq,j.2.md⟩,?_⟩
  refine⟨rL,some (.int n),?_,?_,?_⟩
  ·rw[G,<-yp _ ∅];rfl
  ·rw[G];exact VL h1 j.1
  ·rw[G];exact(zer h1 j.1 h2 j.2).mono ∅
 ·rintro σ H1 ⟨rfl,z,rfl,_⟩
  refine⟨00,?_⟩
  rw[wk,WK];exact k
def zie (H:Hp) (us:Ba) (qs:Al):Prop:=us.length=qs.length/\∀(i:Nat) (v:V),us[i]?=some v->∃a q,v=V.ref a/\qs[i]?=some q/\zC H a q
def zeH {α:Type}{f:α->V}{ys:Ba}{qs:List α}(h:ys.length=qs.length) (k:∀(i:Nat) (v:V),ys[i]?=some v->∃q,qs[i]?=some q/\v=f q):ys=qs.map f:=by
 refine yq λi=>?_
 by_cases hi:i<ys.length
 ·obtain⟨q,e1,e2⟩:=k i ys[i] (by simp[hi])
  rw[we,e1,wj hi,e2];rfl
 ·rw[w4 (by omega),w4 (by rw[wk];omega)]
def zlc {σ:St}(h:σ.length=2):∃a b,σ=[a,b]:=by
 match σ,h with
 |[a,b],_=>exact⟨a,b,rfl⟩
def ZR {σ:St}(h:σ.length=1):∃a,σ=[a]:=by
 match σ,h with
 |[a],_=>exact⟨a,rfl⟩
def vp {n:Nat}(h:n<=20):n<sizeLine:=uN h ⇑1
def J9 (qs:Al):Int:=Zh (qs.map λq=>(q.den:Int))
inductive zj9 (vs:Ba)(H:Hp)(Q:VK)(_e3:XK):Prop
 |mk:∀p us qs,(vs=[.ref p])->(H p=some (.lst us))->(zie H us qs)->((∀q∈qs,Bd 400 (q.den:Int)))->(qs.length<=20)->(∀H',zk H H'->Q (.int (J9 qs)) H')->zj9 vs H Q _e3
theorem zl1:zF ["ratios"] ["ratios"] (zr vH):=scq
theorem zll (D:Df K mg "common_bottom" vH ["ratios"] []) (cL:⇑3 "least_multiple" 2 ["numbers"] [] zfS):⇑3 "common_bottom" 3 ["ratios"] [] zj9:=by
 rcases r:D.calq (k:=2) zl1 with⟨p,us,qs,rfl,O,G,W,S,k⟩
 refine⟨_,(zj (zG (zH cL hr %[(vn (NB:=["top","bottom"]) rfl ⇑0 ⇑0 rfl ⇑0 (xM (pv 0)) (by intro _ _ _;refine⟨?_,?_,?_⟩;(exact(vN (K:=K) (n:=2) rfl rfl (zP (pgl (i:=0) (show List.Nodup (["top","bottom"]:Ad) by decide +kernel)) (zP (pgl (i:=1) (show List.Nodup (["top","bottom"]:Ad) by decide +kernel)) xw))));(exact xI);(exact(pv 1))))|0]))),?_⟩
 try dsimp only[xi,Cx.nox]
 refine⟨00,p,rL,⟨_,SqL.of O⟩,λDa hD=>?_⟩
 refine Qs (J:=Itl K p) (n:=2) (g:=Xt K 2 (xL (zM 0) (xL (zM 1) Qa))) (te:=xB 1) (xs:=us) (λi v _=>∃q:Rat,qs[i]?=some q/\v=.int (q.den:Int)) (λ_ _ _ _ _ z=>z) hD (xZ O) (vp (by rw[G.1];exact S)) ?_ ?_
 ·intro i x zs H2 Q' hx hz U hk
  rcases q:G.2 i x hx with⟨a,q,rfl,j,Y⟩
  obtain⟨z1,z2,rfl⟩:=zlc hz
  exact⟨a,00,SqT.of (U _ _ Y),rL,021,022,00,hk _ _ (zk.refl _) ⟨q,j,rL⟩⟩
 ·intro ys H' s' hy I F
  have e:=zeH (f:=λq:Rat=>V.int (q.den:Int)) (I.trans G.1) F
  refine⟨Da,qs.map λq:Rat=>(q.den:Int),rfl,?_,λn hn=>?_,↥S,k H' s'⟩
  ·rw[hy,e,wW];rfl
  ·obtain⟨q,j,rfl⟩:=wx.mp hn
   exact⟨by have:=q.den_pos;omega,W q j⟩
theorem zen {a:V}{r:Ba}:atI (a::r) 0=some a:=by
 unfold atI ixN;rw[if_pos ⇑1,if_pos (by simp only[wJ];omega)];rfl
theorem zbF {a b:V}{r:Ba}:atI (a::b::r) 1=some b:=by
 unfold atI ixN;rw[if_pos ⇑1,if_pos (by simp only[wJ];lia)];rfl
structure TCo (K:Fg) (C:Addr):Prop where
 cls:Cls K C
 pb:x9 K C "place_bottom"
 sb:x9 K C "speed_bottom"
 tick:x9 K C "tick"
 weights:x9 K C "weights"
 tracks:x9 K C "tracks"
 low:x9 K C "low"
 high:x9 K C "high"
def vL (H:Hp) (a:Addr) (x y:Rat):Prop:=∃p q r,H a=some (.tup (.ref p::.ref q::r))/\zC H p x/\zC H q y
theorem vL.keeps {H H':Hp}{a:Addr}{x y:Rat}(h:vL H a x y) (t:zX H H'):vL H' a x y:=by
 obtain⟨p,q,r,h1,h2,j⟩:=h
 exact⟨p,q,r,t _ _ h1,t _ _ h2,t _ _ j⟩
def byB (x:Rat) (b:Int):Int:=x.num*b.fdiv (x.den:Int)
inductive zfY (C:Addr) (vs:Ba)(H:Hp)(Q:VK)(_e3:XK):Prop
 |mk:∀(c dx:Addr) (fs:Bf) (pb sb:Int),(H c=some (.ins C dx fs))->(fs.lookup ("place_bottom":Str)=some (V.int pb))->(fs.lookup ("speed_bottom":Str)=some (V.int sb))->(((vs=[.ref c,.non]/\Q .non H)\/∃a x y,vs=[.ref c,.ref a]/\vL H a x y/\Sz 400 x/\Sz 400 y/\0<pb/\0<sb/\Bd 8900 pb/\Bd 8900 sb/\∀r H',zk H H'->H' r=some (.tup [.int (byB x pb),.int (byB y sb)])->Q (.ref r) H'))->zfY C vs H Q _e3
theorem ziG:zF ["course","thing","start"] ["course","thing"] (zr XR):=scq
theorem zck {b d:Int}(j:0<b) (hd:0<d) (h:Bd 8900 b):Bd 8900 (b.fdiv d):=by
 rw[yp _ ∅]
 exact h.of_le (by have:=Wb d (a:=b) ∅;have:=Yy (a:=b) (b:=d) ∅ ∅;lia)
theorem zlN {C:Addr}(D:Df K mg "track_of" XR ["course","thing"] []) (j:TCo K C):⇑3 "track_of" 1 ["course","thing"] [] (zfY C):=by
 rcases r:D.cal (k:=0) ziG (λvs H Q E h=>by obtain⟨_,_,_,_,_,_,_,_,⟨rfl,_⟩ | ⟨_,_,_,rfl,_⟩⟩:=h <;> rfl) with⟨c,dx,fs,pb,sb,S,e1,e2,h⟩
 refine⟨_,(zA (zZ (zI qy (pv 1) zV (zJ _)) (zj (zG zV)) zQ)
  (zA (psl (i:=2) ziG.nd (zD zR (pxt (pxt (pv 1))) (zD qC (xx (pv 0) rfl) (pxt (pxt (pv 1))))))
  (zj (zG (xa %[2,zD zR (pxt (pxt (pv 1))) (zD qC (xx (pv 0) rfl) (pxt (pxt (pv 1))))|0]))))),?_⟩
 try dsimp only[xi,Cx.nox]
 rcases h with⟨rfl,k⟩ | ⟨a,x,y,rfl,⟨p,q,r,F,I,O⟩,U,G,p1,p2,b1,Y,k⟩
 ·refine⟨00,rL,00,xp k⟩
 ·refine⟨00,rL,00,xm ?_⟩
  have d1:0<(x.den:Int):=by have:=x.den_pos;lia
  have W:0<(y.den:Int):=by have:=y.den_pos;lia
  have V:=zck p1 d1 b1
  have z2:=zck p2 W Y
  refine⟨00,a,032,.of F,zen,p,032,.of I,at0 ..,00,c,C,dx,fs,00,S,j.cls,j.pb,e1,00,a,032,.of F,zen,p,032,.of I,at1 ..,022,⟨by lia,U.2.md⟩,022,⟨U.1.md,Bd9 V⟩,?_⟩
  refine⟨01,a,032,.of F,zbF,q,032,.of O,at0 ..,00,c,C,dx,fs,00,S,j.cls,j.sb,e2,00,a,032,.of F,zbF,q,032,.of O,at1 ..,022,⟨by lia,G.2.md⟩,022,⟨G.1.md,Bd9 z2⟩,?_⟩
  exact⟨⇑5,λr hr=>k r _ (zk.upd hr) (by rw[zi];rfl)⟩
def zgP {c n:Int}(F:0<c) (I:0<n):c ∣ c/(Int.gcd c n:Int)*n/\n ∣ c/(Int.gcd c n:Int)*n:=by
 refine⟨?_,Int.dvd_mul_left ..⟩
 obtain⟨m,j⟩:=Ye c n
 have G:0<(Int.gcd c n:Int):=by have:=yR n (a:=c) ∅;lia
 refine⟨m,?_⟩
 have e1:c/(Int.gcd c n:Int)*(Int.gcd c n:Int)=c:=WT (yU c n)
 calc c/(Int.gcd c n:Int)*n=c/(Int.gcd c n:Int)*((Int.gcd c n:Int)*m):=by rw[<-j]
  _=c/(Int.gcd c n:Int)*(Int.gcd c n:Int)*m:=by rw[Int.mul_assoc]
  _=c*m:=by rw[e1]
def VJ {n:Nat}:∀{ks:Ak}{c:Int}{m:Nat},0<c->Bd m c->Pos n ks →
  0<ks.foldl (λc n=>c/(Int.gcd c n:Int)*n) c/\Bd (m+n*ks.length) (ks.foldl (λc n=>c/(Int.gcd c n:Int)*n) c)/\c ∣ ks.foldl (λc n=>c/(Int.gcd c n:Int)*n) c/\∀k∈ks,k ∣ ks.foldl (λc n=>c/(Int.gcd c n:Int)*n) c
 |[],c,m,hc,hm,_=>⟨hc,hm,Int.dvd_refl c,λk j=>by cases j⟩
 |k::r,c,m,hc,hm,hp=>by
  have j:=hp k wT
  have d:=zgP hc j.1
  obtain⟨O,I,G,S⟩:=VJ (ks:=r) (VL hc j.1) (zer hc j.1 hm j.2) λx F=>hp x (wR _ F)
  refine⟨O,I.mono (by rw[wJ,Nat.mul_add];lia),Int.dvd_trans d.1 G,λx F=>?_⟩
  rcases wy.mp F with rfl | F
  ·exact Int.dvd_trans d.2 G
  ·exact S x F
def zcC {qs:Al}(h:∀q∈qs,Bd 400 (q.den:Int)) (S:qs.length<=20):0<J9 qs/\Bd 8900 (J9 qs)/\∀q∈qs,(q.den:Int) ∣ J9 qs:=by
 obtain⟨O,G,_,I⟩:=VJ (n:=400) (ks:=qs.map λq=>(q.den:Int)) (c:=1) (m:=1) ⇑1 (show (1:Int).natAbs<2^1 by decide) (λk F=>by
  obtain⟨q,j,rfl⟩:=wx.mp F
  exact⟨by have:=q.den_pos;lia,h q j⟩)
 exact⟨O,G.mono (by rw[wk];lia),λq j=>I _ (wx.mpr ⟨q,j,rfl⟩)⟩
structure Bl where
 pl:Rat
 sp:Rat
 wt:Int
def zbC (H:Hp) (v:V) (b:Bl):Prop:=∃a p q,v=V.ref a/\H a=some (.tup [.ref p,.ref q,.int b.wt])/\zC H p b.pl/\zC H q b.sp
def XW (H:Hp) (us:Ba) (bs:List Bl):Prop:=us.length=bs.length/\∀(i:Nat) (v:V),us[i]?=some v->∃b,bs[i]?=some b/\zbC H v b
def qR (H:Hp) (v:V):Be->Prop
 |none=>v=.non
 |some w=>∃a,v=V.ref a/\vL H a w.1 w.2
def zbC.keeps {H H':Hp}{v:V}{b:Bl}(h:zbC H v b) (t:zX H H'):zbC H' v b:=by
 obtain⟨a,p,q,e,h1,h2,j⟩:=h
 exact⟨a,p,q,e,t _ _ h1,t _ _ h2,t _ _ j⟩
def XW.keeps {H H':Hp}{us:Ba}{bs:List Bl}(h:XW H us bs) (t:zX H H'):XW H' us bs :=
 ⟨h.1,λi v e=>by obtain⟨b,e1,e2⟩:=h.2 i v e;exact⟨b,e1,e2.keeps t⟩⟩
def qR.keeps {H H':Hp}{v:V}{w:Be} (h:qR H v w) (t:zX H H'):qR H' v w:=by
 cases w with
 |none=>exact h
 |some w=>obtain⟨a,e,h⟩:=h;exact⟨a,e,h.keeps t⟩
def TsI (H:Hp) (vs:Ba) (ts:List (Rat×Rat)):Prop:=vs.length=ts.length/\∀(i:Nat) (v:V),vs[i]?=some v->∃t a,ts[i]?=some t/\v=V.ref a/\vL H a t.1 t.2
def TsI.keeps {H H':Hp}{vs:Ba}{ts:List (Rat×Rat)} (h:TsI H vs ts) (t:zX H H'):TsI H' vs ts :=
 ⟨h.1,λi v e=>by obtain⟨x,a,e1,e2,j⟩:=h.2 i v e;exact⟨x,a,e1,e2,j.keeps t⟩⟩
def TsI.nil {H:Hp}:TsI H [] []:=⟨rfl,λi v e=>by simp at e⟩
def TsI.cons {H:Hp}{a:Addr}{t:Rat×Rat}{vs:Ba}{ts:List (Rat×Rat)} (h:vL H a t.1 t.2) (r:TsI H vs ts):TsI H (.ref a::vs) (t::ts):=by
 refine⟨by simp[r.1],λi v e=>?_⟩
 cases i with
 |zero=>simp at e;subst e;exact⟨t,a,rfl,rfl,h⟩
 |succ i=>obtain⟨x,b,e1,e2⟩:=r.2 i v ↥e;exact⟨x,b,↥e1,e2⟩
def TsI.append {H:Hp}{vs F:Ba}{ts j:List (Rat×Rat)} (h:TsI H vs ts) (h':TsI H F j):TsI H (vs++F) (ts++j):=by
 refine⟨by simp[h.1,h'.1],λi v e=>?_⟩
 by_cases hi:i<vs.length
 ·rw[wE hi]at e
  rw[wE (by rw[<-h.1];exact hi)]
  exact h.2 i v e
 ·rw[wB ∅]at e
  rw[wB (by rw[<-h.1];lia),<-h.1]
  exact h'.2 _ v e
def XW.ts {H:Hp}{us:Ba}{bs:List Bl}(h:XW H us bs):TsI H us (bs.map λb=>(b.pl,b.sp)):=by
 refine⟨by simp[h.1],λi v e=>?_⟩
 obtain⟨b,e1,a,p,q,rfl,h1,h2,j⟩:=h.2 i v e
 exact⟨(b.pl,b.sp),a,by rw[we,e1];rfl,rfl,p,q,_,h1,h2,j⟩
def xK:Be->List (Rat×Rat)
 |none=>[]
 |some w=>[w]
def zgi {H:Hp}{F j:V}{lo hi:Be} (h1:qR H F lo) (h2:qR H j hi):TsI H ([F,j].filter λv=>!decide (v=.non)) (xK lo++xK hi):=by
 have one:∀{v:V}{w:Be},qR H v w->TsI H ([v].filter λv=>!decide (v=.non)) (xK w):=λ{v w} h=>by
  cases w with
  |none =>
   have e:v=.non:=h
   subst e;exact .nil
  |some w =>
   obtain⟨a,e,h⟩:=h
   subst e
   rw[uG (by simp)]
   exact .cons h .nil
 have e:([F,j].filter λv=>!decide (v=.non))=([F].filter λv=>!decide (v=.non))++([j].filter λv=>!decide (v=.non)):=by
  rw[<-yG];rfl
 rw[e];exact(one h1).append (one h2)
def xq (c:Addr) (H H':Hp):Prop:=∀b o,b≠c->H b=some o->H' b=some o
def xq.of {c:Addr}{H H':Hp}(h:zk H H'):xq c H H':=λb o _ e=>h b o e
def xq.trans {c:Addr}{H H1 H2:Hp}(a:xq c H H1) (b:xq c H1 H2):xq c H H2:=λx o n e=>b x o n (a x o n e)
def xq.upd {c:Addr}{H:Hp}{o:HO}:xq c H (upd H c o):=λb u n e=>by rw[zK n];exact e
def xq.tup {c C dx:Addr}{fs:Bf}{H H':Hp}(h:xq c H H') (e:H c=some (.ins C dx fs)):zX H H':=λb xs q=>h b _ (λz=>by subst z;rw[e]at q;cases q) q
structure TxQ (K:Fg) (mg:Aa):Prop extends TxB K mg where
 nList:mg "list" = none
 nZip:mg "zip" = none
def vX (H:Hp) (v:V):Bc->Prop
 |none=>v=.non
 |some t=>∃a,v=V.ref a/\H a=some (.tup [.int t.1,.int t.2])
def qr (H:Hp) (vs:Ba) (ts:Bb):Prop:=vs.length=ts.length/\∀(i:Nat) (v:V),vs[i]?=some v->∃t,ts[i]?=some t/\vX H v (some t)
def vX.keeps {H H':Hp}{v:V}{w:Bc} (h:vX H v w) (t:zX H H'):vX H' v w:=by
 cases w with
 |none=>exact h
 |some w=>obtain⟨a,e,h⟩:=h;exact⟨a,e,t _ _ h⟩
def qr.keeps {H H':Hp}{vs:Ba}{ts:Bb} (h:qr H vs ts) (t:zX H H'):qr H' vs ts :=
 ⟨h.1,λi v e=>by obtain⟨x,e1,e2⟩:=h.2 i v e;exact⟨x,e1,e2.keeps t⟩⟩
structure CoF (H:Hp) (fs:Bf) (pb sb:Int) (tk:Rat) (ws:Ak) (trs:Bb) (lo hi:Bc):Prop where
 pb:fs.lookup ("place_bottom":Str)=some (V.int pb)
 sb:fs.lookup ("speed_bottom":Str)=some (V.int sb)
 tick:∃tp,fs.lookup ("tick":Str)=some (V.ref tp)/\zC H tp tk
 weights:∃wl,fs.lookup ("weights":Str)=some (V.ref wl)/\H wl=some (.lst (ws.map V.int))
 tracks:∃tl tv,fs.lookup ("tracks":Str)=some (V.ref tl)/\H tl=some (.lst tv)/\qr H tv trs
 low:∃v,fs.lookup ("low":Str)=some v/\vX H v lo
 high:∃v,fs.lookup ("high":Str)=some v/\vX H v hi
 len:fs.length<=20
def Jh (H:Hp) (C c:Addr) (pb sb:Int) (tk:Rat) (ws:Ak) (trs:Bb) (lo hi:Bc):Prop:=∃dx fs,H c=some (.ins C dx fs)/\CoF H fs pb sb tk ws trs lo hi
def CoN (H0 H:Hp) (C c:Addr) (pb sb:Int) (tk:Rat) (ws:Ak) (trs:Bb) (lo hi:Bc):Prop:=∃dx fs tl,H c=some (.ins C dx fs)/\CoF H fs pb sb tk ws trs lo hi/\fs.lookup ("tracks":Str)=some (V.ref tl)/\H0 tl=none
def CoN.co {O H:Hp}{C c:Addr}{G I:Int}{F:Rat}{ws:Ak}{j:Bb}{lo hi:Bc} (h:CoN O H C c G I F ws j lo hi):Jh H C c G I F ws j lo hi:=by
 obtain⟨dx,fs,tl,h1,h2,_⟩:=h;exact⟨dx,fs,h1,h2⟩
def ths (bs:List Bl) (lo hi:Be):List (Rat×Rat):=bs.map (λb=>(b.pl,b.sp))++(xK lo++xK hi)
def pbO (bs:List Bl) (lo hi:Be):Int:=J9 ((ths bs lo hi).map (·.1))
def sbO (bs:List Bl) (lo hi:Be):Int:=J9 ((ths bs lo hi).map (·.2))
def trB (pb sb:Int) (t:Rat×Rat):Int×Int:=(byB t.1 pb,byB t.2 sb)
inductive zkb (C:Addr) (vs:Ba)(H:Hp)(Q:VK)(_e3:XK):Prop
 |mk:∀c dx r wa us bs v1 v2 lo hi,(vs=[V.ref c,.ref r,.ref wa])->(H c=some (.ins C dx []))->(H r=some (.tup us))->(XW H us bs)->(H wa=some (.tup [v1,v2]))->(qR H v1 lo)->(qR H v2 hi)->(bs.length<=8)->((∀t∈ths bs lo hi,Sz 400 t.1/\Sz 400 t.2))->(∀H',xq c H H'->CoN H H' C c (pbO bs lo hi) (sbO bs lo hi) (Rat.divInt (sbO bs lo hi) (pbO bs lo hi)) (bs.map Bl.wt) (bs.map λb=>trB (pbO bs lo hi) (sbO bs lo hi) (b.pl,b.sp)) (lo.map (trB (pbO bs lo hi) (sbO bs lo hi))) (hi.map (trB (pbO bs lo hi) (sbO bs lo hi)))->Q .non H')->zkb C vs H Q _e3
theorem ziE:zF ["self","row","walls","things"] ["self","row","walls"] (zr qx):=scq
theorem Xr {bs:List Bl}{lo hi:Be} (h:bs.length<=8):(ths bs lo hi).length<=20:=by
 unfold ths
 have e:∀w:Be,(xK w).length<=1:=λw=>by cases w <;> simp[xK]
 have:=e lo
 have:=e hi
 simp only[wC,wk];lia
theorem zco {σ:St}{H:Hp}{Q:VK}{L:Addr}{vs:Ba}{ts:List (Rat×Rat)}{j:Nat}{i:Int}(f:Rat×Rat->Rat) (hσ:σ[j]?=some (some (.ref L))) (S:H L=some (.lst vs)) (I:TsI H vs ts) (hl:ts.length<=20)
  (Y:∀H2 a t,vL H2 a t.1 t.2->∃xs p,H2 a=some (.tup xs)/\atI xs i=some (.ref p)/\zC H2 p (f t))
  (k:∀D ys H',zk H H'->H' D=some (.lst ys)->zie H' ys (ts.map f)->Q (.ref D) H') :
  Ql 1 (zcx K (xB j)) (zM 0) (λ_ H Q=>Q true H) (tOp (ZV K) (xB 0) (tC (.int i))) σ H Q:=by
 refine⟨_,hσ,L,rL,⟨_,SqL.of S⟩,λD hD=>?_⟩
 refine Qs (J:=Itl K L) (n:=1) (g:=zM 0) (te:=tOp (ZV K) (xB 0) (tC (.int i))) (xs:=vs) (λm v H=>∃t p,ts[m]?=some t/\v=.ref p/\zC H p (f t)) (λ_ _ _ _ t ⟨x,p,e1,e2,O⟩=>⟨x,p,e1,e2,t _ _ O⟩) hD (xZ S) (vp (by rw[I.1];exact hl)) ?_ ?_
 ·intro m x zs H2 Q' hx hz W U
  obtain⟨t,a,e,rfl,ha⟩:=I.2 m x hx
  obtain⟨z1,rfl⟩:=ZR hz
  obtain⟨xs,p,h1,h2,h3⟩:=Y H2 a t (ha.keeps (.of W))
  dsimp only[zM]
  try rw[if_pos rfl]
  exact⟨00,a,032,.of h1,h2,U _ _ (zk.refl _) ⟨t,p,e,rL,h3⟩⟩
 ·intro ys H' s' hy G F
  refine k D ys H' s' hy ⟨by simp[G,I.1],λm v e=>?_⟩
  obtain⟨t,p,e1,e2,O⟩:=F m v e
  exact⟨p,f t,e2,by rw[we,e1];rfl,O⟩
theorem th0:∀(H2:Hp) (a:Addr) (t:Rat×Rat),vL H2 a t.1 t.2->∃xs p,H2 a=some (.tup xs)/\atI xs 0=some (.ref p)/\zC H2 p t.1:=λH2 a t ⟨p,q,r,h1,h2,h3⟩=>⟨_,p,h1,zen,h2⟩
theorem th1:∀(H2:Hp) (a:Addr) (t:Rat×Rat),vL H2 a t.1 t.2->∃xs p,H2 a=some (.tup xs)/\atI xs 1=some (.ref p)/\zC H2 p t.2:=λH2 a t ⟨p,q,r,h1,h2,h3⟩=>⟨_,q,h1,zbF,h3⟩
theorem v5 {tv:TE}{rest:TS}{f:Str}{D:vq}{σ:St}{H:Hp}(h:tv σ H λy H1=>xB 0 σ H1 λx H2=>∃a C dx fs,x=.ref a/\H2 a=some (.ins C dx fs)/\Cls K C/\x9 K C f/\fs.length<1000/\rest D σ (upd H2 a (.ins C dx (qg f y fs)))):Jo (zjU K (xB 0) tv f) rest D σ H:=h
theorem zcK {tv:TE}{f:Str}{D:vq}{σ:St}{H:Hp}(h:tv σ H λy H1=>xB 0 σ H1 λx H2=>∃a C dx fs,x=.ref a/\H2 a=some (.ins C dx fs)/\Cls K C/\x9 K C f/\fs.length<1000/\D.nx σ (upd H2 a (.ins C dx (qg f y fs)))):zjU K (xB 0) tv f D σ H:=h
theorem zih {te:TE}{sp:Sp}{σ:St}{H:Hp}{Q:VK}(h:te σ H λx H1=>sp [x] H1 Q E0):vV sp [] E0 (xN te Xn) σ H Q:=h
theorem zaM {ta tb:TE}{sp:Sp}{σ:St}{H:Hp}{Q:VK}(h:ta σ H λx H1=>tb σ H1 λy H2=>sp [x,y] H2 Q E0):vV sp [] E0 (xN ta (xN tb Xn)) σ H Q:=h
theorem qK {c C dx:Addr}{fs:Bf}{f:Str}{y:V}{rest:TS}{D:vq}{σ:St}{j:Hp}(I:σ[0]?=some (some (.ref c))) (S:j c=some (.ins C dx fs)) (cl:Cls K C) (F:x9 K C f) (O:fs.length<1000)
  (k:∀G,xq c j G->G c=some (.ins C dx (qg f y fs))->rest D σ G):xB 0 σ j λx H2=>∃a C dx fs,x=.ref a/\H2 a=some (.ins C dx fs)/\Cls K C/\x9 K C f/\fs.length<1000/\rest D σ (upd H2 a (.ins C dx (qg f y fs))) :=
 ⟨_,I,c,C,dx,fs,rfl,S,cl,F,O,k _ .upd zi⟩
theorem zdn {C c dx:Addr}{fs:Bf}{j F:Int}{G:Hp}{v:V}{w:Be}{Q:VK}{E:XK}(S:G c=some (.ins C dx fs)) (e1:fs.lookup ("place_bottom":Str)=some (V.int j)) (e2:fs.lookup ("speed_bottom":Str)=some (V.int F)) (hw:qR G v w)
  (hz:∀t,w=some t->Sz 400 t.1/\Sz 400 t.2) (I:0<j/\Bd 8900 j) (p2:0<F/\Bd 8900 F) (k:∀O H',zk G H'->vX H' O (w.map (trB j F))->Q O H'):zfY C [.ref c,v] G Q E:=by
 refine⟨c,dx,fs,j,F,S,e1,e2,?_⟩
 cases w with
 |none =>
  have e:v=.non:=hw
  subst e
  exact .inl ⟨rL,k _ _ (zk.refl _) rL⟩
 |some t =>
  obtain⟨a,rfl,U⟩:=hw
  have z:=hz t rfl
  exact .inr ⟨a,t.1,t.2,rL,U,z.1,z.2,I.1,p2.1,I.2,p2.2,λr H' s h=>k _ _ s ⟨r,rL,h⟩⟩
theorem zlm {C f:Addr}{fd:FuncData}(F:Fun K "__init__" "Course.__init__" qx f fd) (T:TxQ K mg) (j:TCo K C) (cB:⇑3 "common_bottom" 3 ["ratios"] [] zj9) (cR:⇑3 "ratio" 2 ["top","bottom"] [] qm)
  (cT:⇑3 "track_of" 1 ["course","thing"] [] (zfY C)):vC P w K mg base CX0 4 f fd ["self","row","walls"] (zkb C):=by
 refine F.okq (k:=3) ziE (λcdv A outer s H vs Q E hr h=>?_)
 rcases q:h with⟨c,dx,r,wa,us,bs,v1,v2,lo,hi,rfl,hc,S,hB,hw,h1,h2,hl,hz,k⟩
 have d6:xf 2 _:=hr.md
 have a9:xf 1 _:=hr.md
 refine⟨_,(zA (psl (i:=3) ziE.nd (zD VP (qj vM ⇑2 T.nList uL %[1|0]) (vn (NB:=["wall"]) rfl ⇑0 ⇑0 rfl ⇑0 (Zq (pv 2)) (by intro _ _ _;refine⟨?_,?_,?_⟩;(exact(pgl (i:=0) (show List.Nodup (["wall"]:Ad) by decide +kernel)));(exact(Vn (zI xQ (pv 0) zV (zJ _))));(exact(pv 0))))))
  (zA (v8 (pv 0) (zH cB hr %[(vn (NB:=["thing"]) rfl ⇑0 ⇑0 rfl ⇑0 (xM (pv 3)) (by intro _ _ _;refine⟨?_,?_,?_⟩;(exact(pgl (i:=0) (show List.Nodup (["thing"]:Ad) by decide +kernel)));(exact xI);(exact(xb (qH (K:=K) rfl) (pv 0) zg (λ_ _=>rfl)))))|0]) rfl)
  (zA (v8 (pv 0) (zH cB hr %[(vn (NB:=["thing"]) rfl ⇑0 ⇑0 rfl ⇑0 (xM (pv 3)) (by intro _ _ _;refine⟨?_,?_,?_⟩;(exact(pgl (i:=0) (show List.Nodup (["thing"]:Ad) by decide +kernel)));(exact xI);(exact(xb (qH (K:=K) rfl) (pv 0) zg (λ_ _=>rfl)))))|0]) rfl)
  (zA (v8 (pv 0) (zH cR d6 %[xx (pv 0) rfl,xx (pv 0) rfl|0]) rfl)
  (zA (v8 (pv 0) (vn (NB:=["ball"]) rfl ⇑0 ⇑0 rfl ⇑0 (Zq (pv 1)) (by intro _ _ _;refine⟨?_,?_,?_⟩;(exact(pgl (i:=0) (show List.Nodup (["ball"]:Ad) by decide +kernel)));(exact xI);(exact(xb (qH (K:=K) rfl) (pv 0) zg (λ_ _=>rfl))))) rfl)
  (zA (v8 (pv 0) (Zj (NB:=["ball"]) (FR:=["self"]) (js:=[0]) rfl rfl (λ_ _ h=>h) (.cons rfl rfl rfl ⟨_,rfl⟩ .nil) rfl ⇑0 rfl ⇑0 (Zq (pv 1)) (by intro _ _ _;refine⟨?_,?_,?_⟩;(exact(pgl (i:=0) (show List.Nodup (["ball","self"]:Ad) by decide +kernel)));(exact xI);(exact(zH cT a9 %[1,0|0])))) rfl)
  (zA (v8 (pv 0) (zH cT a9 %[0,pxt (pv 2)|0]) rfl)
  (zj (v8 (pv 0) (zH cT a9 %[0,pxt (pv 2)|0]) rfl))))))))),?_⟩
 try dsimp only[xi,Cx.nox]
 refine⟨00,r,us,rL,.inr (.of S),λl a8=>?_⟩
 refine⟨00,wa,rL,⟨_,SqT.of (zk.upd a8 _ _ hw)⟩,λDa hD=>?_⟩
 refine zey (J:=Itt K wa) (n:=1) (g:=zM 0) (te:=xB 0) (xs:=[v1,v2]) (λv=>!decide (v=.non)) hD (Xa (zk.upd a8 _ _ hw)) (vp (by show 2<=20;decide)) ?_ ?_
 ·intro m x zs H2 A2 B2 hx d4 s2 ka kb
  obtain⟨z1,rfl⟩:=ZR d4
  dsimp only[zM]
  refine⟨00,rL,00,?_⟩
  cases e:decide (x=V.non)with
  |true=>exact kb (by simp[e])
  |false=>exact⟨00,ka (by simp[e])⟩
 intro H1 s1 hy
 have d9:H1 l=some (.lst us):=s1 _ _ zi
 refine⟨l,Da,us,00,rL,d9,hy,?_,λL hL=>?_⟩
 ·have z1:=uu (λv=>!decide (v=V.non)) [v1,v2]
  have z2:=hB.1
  have z3:20<sizeLine:=vp (wq _)
  simp only[wJ,um]at z1
  lia
 have S1:zk H H1:=(zk.upd a8).trans s1
 have S2:zk H (upd H1 L (.lst (us++[v1,v2].filter λv=>!decide (v=.non)))):=S1.trans (zk.upd hL)
 have hT:TsI H (us++[v1,v2].filter λv=>!decide (v=.non)) (ths bs lo hi):=hB.ts.append (zgi h1 h2)
 have U:upd H1 L (.lst (us++[v1,v2].filter λv=>!decide (v=.non))) L=some (.lst (us++[v1,v2].filter λv=>!decide (v=.non))):=zi
 generalize upd H1 L (.lst (us++[v1,v2].filter λv=>!decide (v=.non)))=G0 at S2 U
 generalize (us++[v1,v2].filter λv=>!decide (v=.non))=tv at hT U
 have I:=S2 _ _ hc
 have cL:L≠c:=λz=>by subst z;rw[U]at I;cases I
 dsimp only[zM]
 refine v5 (K:=K) ?_
 refine zih ?_
 refine zco (λt=>t.1) ⇑2 U (hT.keeps (.of S2)) (Xr hl) th0 λD1 y1 H2 s2 d7 e8=>?_
 refine⟨D1,y1,00,d7,e8,λq hq=>?_,by rw[wk];exact Xr hl,λH3 s3=>?_⟩
 ·obtain⟨t,ht,rfl⟩:=wx.mp hq
  exact(hz t ht).1.2
 have p1:=zcC (qs:=(ths bs lo hi).map (·.1)) (λq hq=>by obtain⟨t,ht,rfl⟩:=wx.mp hq;exact(hz t ht).1.2) (by rw[wk];exact Xr hl)
 have p2:=zcC (qs:=(ths bs lo hi).map (·.2)) (λq hq=>by obtain⟨t,ht,rfl⟩:=wx.mp hq;exact(hz t ht).2.2) (by rw[wk];exact Xr hl)
 refine qK ⇑2 (s3 _ _ (s2 _ _ I)) j.cls j.pb ⇑1 λG1 X1 c1=>?_
 replace X1:xq c G0 G1:=(xq.of (s2.trans s3)).trans X1
 have t1:zX H G1:=(zX.of S2).trans (X1.tup I)
 refine v5 (K:=K) ?_
 refine zih ?_
 refine zco (λt=>t.2) ⇑2 (X1 _ _ cL U) (hT.keeps t1) (Xr hl) th1 λD2 y2 H4 s4 d2 d3=>?_
 refine⟨D2,y2,00,d2,d3,λq hq=>?_,by rw[wk];exact Xr hl,λH5 s5=>?_⟩
 ·obtain⟨t,ht,rfl⟩:=wx.mp hq
  exact(hz t ht).2.2
 refine qK ⇑2 (s5 _ _ (s4 _ _ c1)) j.cls j.sb (by show 1<1000;decide) λG2 X2 c2=>?_
 replace X2:xq c G0 G2:=X1.trans ((xq.of (s4.trans s5)).trans X2)
 refine v5 (K:=K) ?_
 refine⟨00,c,C,dx,021,c2,j.cls,j.sb,rfl,00,c,C,dx,021,c2,j.cls,j.pb,rfl,021,by have:=p1.1;lia,p1.2.1,λtp H6 s6 c0=>?_⟩
 refine qK ⇑2 (s6 _ _ c2) j.cls j.tick (by show 2<1000;decide) λG3 b1 c3=>?_
 have X3:xq c G0 G3:=X2.trans ((xq.of s6).trans b1)
 have a2:zC G3 tp _:=b1 _ _ (λz=>by subst z;have:=s6 _ _ c2;rw[c0]at this;cases this) c0
 have t3:zX H G3:=(zX.of S2).trans (X3.tup I)
 refine v5 (K:=K) ?_
 have b3:us.length<sizeLine:=vp (by rw[hB.1];lia)
 refine⟨00,r,rL,⟨_,SqT.of (t3 _ _ S)⟩,λD4 e6=>?_⟩
 refine Qs (J:=Itt K r) (n:=1) (g:=zM 0) (te:=tOp (ZV K) (xB 0) (tC (.int 2))) (xs:=us) (λm v _=>∃b:Bl,bs[m]?=some b/\v=.int b.wt) (λ_ _ _ _ _ z=>z) e6 (Xa (t3 _ _ S)) b3 ?_ ?_
 ·intro m x zs H7 Q' hx e9 s7 hk
  rcases q:(hB.keeps (t3.trans (.of s7))).2 m x hx with⟨b,e,a,p,q,rfl,ha,_⟩
  obtain⟨z1,rfl⟩:=ZR e9
  dsimp only[zM]
  exact⟨00,a,032,.of ha,rL,hk _ _ (zk.refl _) ⟨b,e,rL⟩⟩
 intro y4 H7 s7 b2 d0 b5
 have e4:y4=(bs.map Bl.wt).map V.int:=by
  rw[wW]
  exact zeH (d0.trans hB.1) b5
 refine qK ⇑2 (s7 _ _ c3) j.cls j.weights (by show 3<1000;decide) λG4 a7 c4=>?_
 have X4:xq c G0 G4:=X3.trans ((xq.of s7).trans a7)
 have nc:∀{G:Hp}{fs:Bf}{b:Addr}{o:HO},G c=some (.ins C dx fs)->G b=some o->(∀fs,o≠.ins C dx fs)->b≠c:=λh1 h2 h3 z=>by subst z;rw[h1]at h2;cases h2;exact h3 _ rfl
 have b8:G4 D4=some (.lst ((bs.map Bl.wt).map V.int)):=by
  rw[<-e4];exact a7 _ _ (nc (s7 _ _ c3) b2 (λ_ z=>by cases z)) b2
 have a3:zC G4 tp _:=a7 _ _ (nc (s7 _ _ c3) (s7 _ _ a2) (λ_ z=>by cases z)) (s7 _ _ a2)
 have t4:zX H G4:=(zX.of S2).trans (X4.tup I)
 refine v5 (K:=K) ?_
 refine⟨00,r,rL,⟨_,SqT.of (t4 _ _ S)⟩,λD5 Y=>?_⟩
 refine xR (J:=Itt K r) (n:=1) (js:=[0]) (g:=zM 0) (te:=vV (zfY C) [] E0 (xN (xB 1) (xN (xB 0) Xn))) (xs:=us) (λm v H=>∃t,(bs.map λb=>trB (pbO bs lo hi) (sbO bs lo hi) (b.pl,b.sp))[m]?=some t/\vX H v (some t)) (λ_ _ _ _ t ⟨x,e1,e2⟩=>⟨x,e1,e2.keeps t⟩) Y (Xa (t4 _ _ S)) b3 ?_ ?_
 ·intro m x zs H8 Q' hx e3 O hk
  rcases q:(hB.keeps (t4.trans (.of O))).2 m x hx with⟨b,e,a,p,q,rfl,ha,hp,hq⟩
  obtain⟨z1,rfl⟩:=ZR e3
  dsimp only[zM]
  have zb:=hz (b.pl,b.sp) (wL _ (wx.mpr ⟨b,wm e,rfl⟩))
  refine⟨rfl,01,c,dx,_,_,_,O _ _ c4,rfl,rfl,.inr ⟨a,b.pl,b.sp,rfl,⟨p,q,_,ha,hp,hq⟩,zb.1,zb.2,p1.1,p2.1,p1.2.1,p2.2.1,λr' H9 s9 h9=>hk _ _ s9 ⟨_,by rw[we,e];rfl,r',rfl,h9⟩⟩⟩
 intro y5 H8 O b4 d1 b7
 refine qK ⇑2 (O _ _ c4) j.cls j.tracks (by show 4<1000;decide) λG5 W c5=>?_
 have X5:xq c G0 G5:=X4.trans ((xq.of O).trans W)
 have c8:G5 D5=some (.lst y5):=W _ _ (nc (O _ _ c4) b4 (λ_ z=>by cases z)) b4
 have e5:qr G5 y5 (bs.map λb=>trB (pbO bs lo hi) (sbO bs lo hi) (b.pl,b.sp)):=⟨by rw[d1,wk,hB.1],λm v e=>by
  obtain⟨t,e1,e2⟩:=b7 m v e
  exact⟨t,e1,e2.keeps (W.tup (O _ _ c4))⟩⟩
 have b6:=W _ _ (nc (O _ _ c4) (O _ _ b8) (λ_ z=>by cases z)) (O _ _ b8)
 have a4:zC G5 tp _:=W _ _ (nc (O _ _ c4) (O _ _ a3) (λ_ z=>by cases z)) (O _ _ a3)
 have t5:zX H G5:=(zX.of S2).trans (X5.tup I)
 have e0:∀t,lo=some t->Sz 400 t.1/\Sz 400 t.2:=λt e=>hz t (by unfold ths;rw[e];simp[xK])
 have d8:∀t,hi=some t->Sz 400 t.1/\Sz 400 t.2:=λt e=>hz t (by unfold ths;rw[e];simp[xK])
 refine v5 (K:=K) ?_
 refine zaM ⟨_,rL,_,rL,wa,_,_,_,rL,rL,.of (t5 _ _ hw),at0 ..,?_⟩
 refine zdn c5 rL rL (h1.keeps t5) e0 ⟨p1.1,p1.2.1⟩ ⟨p2.1,p2.2.1⟩ λlv H9 s9 f0=>?_
 refine qK ⇑2 (s9 _ _ c5) j.cls j.low (by show 5<1000;decide) λG6 a5 c6=>?_
 have X6:xq c G0 G6:=X5.trans ((xq.of s9).trans a5)
 have t6:zX H G6:=(zX.of S2).trans (X6.tup I)
 have e7:xq c G5 G6:=(xq.of s9).trans a5
 refine zcK (K:=K) ?_
 refine zaM ⟨_,rL,_,rL,wa,_,_,_,rL,rL,.of (t6 _ _ hw),at1 ..,?_⟩
 refine zdn c6 rL rL (h2.keeps t6) d8 ⟨p1.1,p1.2.1⟩ ⟨p2.1,p2.2.1⟩ λhv f1 b0 d5=>?_
 refine qK (rest:=vq.nx) ⇑2 (b0 _ _ c6) j.cls j.high (by show 6<1000;decide) λG7 c9 c7=>?_
 have a6:xq c G6 G7:=(xq.of b0).trans c9
 have a1:xq c G5 G7:=e7.trans a6
 have X7:xq c G0 G7:=X6.trans a6
 have b9:H D5=none:=by
  cases e:H D5 with
  |none=>rfl
  |some o =>
   by_cases z:D5=c
   ·rw[z,c4]at Y;cases Y
   ·rw[X4 _ _ z (S2 _ _ e)]at Y;cases Y
 refine k G7 ((xq.of S2).trans X7) ⟨dx,_,D5,c7,⟨rfl,rfl,⟨tp,rfl,a1 _ _ (nc c5 a4 (λ_ z=>by cases z)) a4⟩,⟨D4,rfl,a1 _ _ (nc c5 b6 (λ_ z=>by cases z)) b6⟩,
  ⟨D5,y5,rfl,a1 _ _ (nc c5 c8 (λ_ z=>by cases z)) c8,e5.keeps (a1.tup c5)⟩,⟨lv,rfl,(f0.keeps (a5.tup (s9 _ _ c5))).keeps (a6.tup c6)⟩,⟨hv,rfl,d5.keeps (c9.tup (b0 _ _ c6))⟩,by show 7<=20;decide⟩,rfl,b9⟩
def zek {m n:Nat}{x y:Rat}(h:Sz m x) (k:Sz n y):Sz (m+n+1) (x-y):=by
 rw[<-KM.VN]
 refine .divInt (yl (KM.qd x) (KM.qd y)) ?_ ((h.2.mul k.2).mono ∅)
 rw[Int.sub_eq_add_neg]
 have h2:Bd (n+m) (-(y.num*(x.den:Int))):=by
  have:=k.1.mul h.2
  unfold Bd at *
  rw[Int.natAbs_neg];exact this
 exact Bd.mono (Bd.add (h.1.mul k.2) h2) ∅
inductive zfT (C:Addr) (vs:Ba)(H:Hp)(Q:VK)(_e3:XK):Prop
 |mk:∀c t dx fs tp tk a b,(vs=[V.ref c,.ref t])->(H c=some (.ins C dx fs))->(fs.lookup ("tick":Str)=some (V.ref tp))->(zC H tp tk)->(H t=some (.tup [.int a,.int b]))->(b≠0)->(Bd 4400 a)->(Bd 4400 b)->(Sz 4400 tk)->(∀r H',zk H H'->zC H' r (Rat.divInt (a*tk.num) (b*(tk.den:Int)))->Q (.ref r) H')->zfT C vs H Q _e3
theorem zl7:zF ["course","ticks"] ["course","ticks"] (zr Xj):=scq
theorem zlz {C:Addr}(D:Df K mg "moment_of" Xj ["course","ticks"] []) (F:TCo K C) (V:⇑3 "ratio" 2 ["top","bottom"] [] qm):⇑3 "moment_of" 3 ["course","ticks"] [] (zfT C):=by
 rcases r:D.calq (k:=2) zl7 with⟨c,t,dx,fs,O,U,a,b,rfl,S,e,j,G,Y,W,I,hz,k⟩
 refine⟨_,(zj (zG (zH V hr %[zD zR (pxt (pv 1)) (pxt (xx (pv 0) rL)),zD zR (pxt (pv 1)) (pxt (xx (pv 0) rL))|0]))),?_⟩
 try dsimp only[xi,Cx.nox]
 refine zaM (Q:=Q) ?_
 refine⟨00,t,032,.of G,at0 ..,00,c,C,dx,fs,00,S,F.cls,F.tick,e,O,032,.of j,at0 ..,022,⟨W.md,hz.1.md⟩,?_⟩
 refine⟨00,t,032,.of G,at1 ..,00,c,C,dx,fs,00,S,F.cls,F.tick,e,O,032,.of j,at1 ..,022,⟨I.md,hz.2.md⟩,?_⟩
 exact⟨021,yl Y (KM.qd U),(I.mul hz.2).md,k⟩
def xP:Be->Be->Bj
 |some l,some h=>if h.2<l.2 then some ((h.1-l.1)/(l.2-h.2))else none
 |_,_=>none
def vW (H:Hp) (v:V):Bj->Prop
 |none=>v=.non
 |some q=>∃a,v=V.ref a/\zC H a q
inductive zkt (vs:Ba)(H:Hp)(Q:VK)(_e3:XK):Prop
 |mk:∀wa v1 v2 lo hi,(vs=[V.ref wa])->(H wa=some (.tup [v1,v2]))->(qR H v1 lo)->(qR H v2 hi)->((∀t,lo=some t->Sz 400 t.1/\Sz 400 t.2))->((∀t,hi=some t->Sz 400 t.1/\Sz 400 t.2))->(∀v H',zk H H'->vW H' v (xP lo hi)->Q v H')->zkt vs H Q _e3
theorem zfK:zF ["walls","low","high"] ["walls"] (zr Ze):=scq
theorem zlJ (D:Df K mg "shut_moment" Ze ["walls"] []) (a7:⇑3 "less" 1 ["one","other"] [] zdc) (cM:⇑3 "minus" 3 ["one","other"] [] (xY Sz2 (· - ·)))
  (cO:⇑3 "over" 3 ["one","other"] [] (xY (λx y=>Sz2 x y/\y≠0) (· / ·))):⇑3 "shut_moment" 4 ["walls"] [] zkt:=by
 rcases r:D.calq (k:=3) zfK with⟨wa,v1,v2,lo,hi,rfl,hw,h1,h2,z1,z2,k⟩
 have a4:xf 1 _:=hr.md
 refine⟨_,(zA (qf (pv 0) (qu rL (zP (pgl (i:=1) zfK.nd) (zP (pgl (i:=2) zfK.nd) xw))))
  (zA (zZ ((vQ (zI qy (pv 1) zV (zJ _)) (vQ (zI qy (pv 2) zV (zJ _)) (vG (qE (xv (zH a7 a4 %[pxt (pv 2),pxt (pv 1)|0]) λ_=>rfl)))))).pt (zj (zG zV)) zQ)
  (zj (zG (zH cO hr %[(zH cM hr %[pxt (pv 2),pxt (pv 1)|0]),(zH cM hr %[pxt (pv 1),pxt (pv 2)|0])|0]))))),?_⟩
 try dsimp only[xi,Cx.nox]
 refine⟨00,wa,00,.of hw,rL,021,022,?_⟩
 refine⟨00,rL,00,?_⟩
 cases lo with
 |none =>
  have e:v1=.non:=h1
  subst e
  exact xp (k _ _ (zk.refl _) rL)
 |some l =>
  rcases q:h1 with⟨Y,rfl,p1,q1,r1,F,a3,U⟩
  refine xm ?_
  refine⟨00,rL,00,?_⟩
  cases hi with
  |none =>
   have e:v2=.non:=h2
   subst e
   exact xp (k _ _ (zk.refl _) rL)
  |some h =>
   rcases q:h2 with⟨a2,rfl,p2,q2,r2,j,a5,S⟩
   have I:=z1 l rfl
   have G:=z2 h rfl
   refine xm ?_
   refine⟨00,a2,032,.of j,zbF,00,Y,032,.of F,zbF,q2,q1,041,S,U,G.2.1.md,G.2.2.md,I.2.1.md,I.2.2.md,?_⟩
   refine⟨00,?_⟩
   have V:=VM h.2 l.2
   by_cases hlt:h.2<l.2
   ·rw[wo hlt]at V
    rw[V]
    refine xm ?_
    have sM:xP (some l) (some h)=some ((h.1-l.1)/(l.2-h.2)):=if_pos hlt
    rw[sM]at k
    refine⟨00,a2,032,.of j,zen,00,Y,032,.of F,zen,p2,p1,021,a5,a3,⟨G.1.md,I.1.md⟩,λm1 H1 O a6=>?_⟩
    refine⟨00,Y,032,.of (O _ _ F),zbF,00,a2,032,.of (O _ _ j),zbF,q1,q2,021,U.same O,S.same O,⟨I.2.md,G.2.md⟩,λm2 H2 s2 W=>?_⟩
    refine⟨m1,m2,021,a6.same s2,W,⟨⟨(zek G.1 I.1).md,(zek I.2 G.2).md⟩,?_⟩,λr H3 s3 h3=>k _ _ (O.trans (s2.trans s3)) ⟨r,rL,h3⟩⟩
    intro z
    have z':l.2-h.2=0:=z
    grind
   ·rw[wG hlt]at V
    rw[V]
    have sM:xP (some l) (some h)=none:=if_neg hlt
    rw[sM]at k
    exact xp (k _ _ (zk.refl _) rL)
end KQ
namespace L2
open PySem PySem.Spec PyProof.Rows
section
variable {J:It}{D:Addr}{n:Nat}{js:List Nat}{σ:St}{g:TG}{tt:TT}{te:TE}{Z:Hp->Prop}{H:Hp}{xs:Ba}
theorem Jz (p:V->Bool) (hD:H D=none) (hJ:zdu J H xs) (hl:xs.length<sizeLine)
  (hs:∀(i:Nat) (x:V) (zs:St) (H2:Hp) (A:VK) (B:Hp->Prop),xs[i]?=some x->zs.length=n->zk H H2->(p x=true->A x H2)->(p x=false->B H2)->g x (zs++qY σ js) H2 λj Y=>j.drop n=qY σ js/\tt j Y λb F=>if b=true then te j F A else B F)
  (k:∀H',zk H H'->H' D=some (.lst (xs.filter p))->Z H') :
  ∃W:Nat->Nat->Hp->Ba->Prop,(∃m,W 0 m (upd H D (.lst [])) [])/\∀i m H2 ys,W i m H2 ys->H2 D=some (.lst ys)->(J.stop i H2/\Z H2) ∨
   (J.go i H2/\∀zs x G,zs.length=n->J.yld i H2 x G->g x (zs++qY σ js) G λj Y=>j.drop n=qY σ js/\tt j Y λb F=>if b=true then te j F (λv H6=>H6 D=some (.lst ys)/\ys.length<sizeLine/\∃O,O<m/\W (i+1) O (upd H6 D (.lst (ys++[v]))) (ys++[v]))
    else F D=some (.lst ys)/\∃O,O<m/\W (i+1) O F ys):=by
 refine XY (Q:=λ_ H=>Z H) (tt:=tt) (N:=xs.length) (λi H2 ys=>zk H H2/\ys=(xs.take i).filter p) ⟨zk.upd hD,rfl⟩ (λi H2 ys hi p=>hJ.go i H2 hi p.1) (λH2 ys p=>hJ.stop H2 p.1) ?_ (λH2 ys q e=>k H2 q.1 (by rw[e,q.2,WK]))
 rintro i x zs H2 G ys Nx hN hi hz hy ⟨S,rfl⟩ I
 obtain⟨rfl,hx⟩:=hJ.yld i x H2 G S hy
 have et:xs.take (i+1)=xs.take i++[x]:=by rw[yu,hx];rfl
 refine hs i x zs G _ _ hx hz S (λU=>⟨I,?_,hN _ _ ⟨λc o e=>?_,?_⟩⟩) (λU=>⟨I,hN _ _ ⟨S,?_⟩⟩)
 ·have:=uu p (xs.take i)
  have:=List.length_take_le i xs
  lia
 ·rw[zK (zN e hD)];exact S _ _ e
 ·rw[et,yG];simp[U]
 ·rw[et,yG];simp[U]
end
end L2
namespace KQ
open PySem L2 KM KK
def vm {K:Fg}{a b:Addr}{xs ys:Ba}{g:TG}{tb:TS}{D:vq}{σ:St}{H:Hp}(j:Nat->St->Hp->Prop) (h0:j 0 σ H) (Y:∀i σ H,j i σ H->SqL K H a xs/\SqL K H b ys)
  (hs:∀(i:Nat) (x y:V) (σ:St) (H:Hp) (T:Addr),xs[i]?=some x->ys[i]?=some y->j i σ H->H T=none->g (.ref T) σ (upd H T (.tup [x,y])) λG H2=>tb { D with nx:=j (i+1),ct:=j (i+1),bk:=D.nx } G H2)
  (hd:∀σ H,j (min xs.length ys.length) σ H->D.nx σ H) :
  ∃W:Nat->Nat->St->Hp->Prop,(∃m,W 0 m σ H)/\∀i m σ H,W i m σ H →
   ((zeh K a b).stop i H/\D.nx σ H)\/((zeh K a b).go i H/\∃N:St->Hp->Prop,(∀I H',N I H'->∃S,S<m/\W (i+1) S I H')/\∀x H',(zeh K a b).yld i H x H'->g x σ H' λG H2=>tb { D with nx:=N,ct:=N,bk:=D.nx } G H2):=by
 refine⟨λi m σ H=>m=min xs.length ys.length-i/\i<=min xs.length ys.length/\j i σ H,⟨min xs.length ys.length,by simp,yo _,h0⟩,?_⟩
 rintro i m σ H ⟨rfl,hi,p⟩
 obtain⟨F,O⟩:=Y i σ H p
 by_cases hlt:i<min xs.length ys.length
 ·refine .inr ⟨⟨xs,ys,xs[i]'∅,ys[i]'∅,F,O,by simp,by simp⟩,j (i+1),λI H' U=>⟨min xs.length ys.length-(i+1),by lia,rfl,hlt,U⟩,λx H' y=>?_⟩
  obtain⟨T,u,v,rfl,hT,rfl,e1,e2⟩:=y
  exact hs i u v σ H T (e1 xs F) (e2 ys O) p hT
 ·have e:i=min xs.length ys.length:=by lia
  subst e
  exact .inl ⟨⟨xs,ys,F,O,by lia⟩,hd σ H p⟩
def zkX {us:Ba}:qB us (some 1) none=us.drop 1:=by
 cases us with
 |nil=>rfl
 |cons a r =>
  unfold qB HT.sIx
  simp
def JU {n:Nat}{a b:Int}(h:Bd n a) (k:Bd n b):Bd (n+1) (a-b):=by
 unfold Bd at *
 have:=Int.natAbs_sub_le a b
 rw[Nat.pow_succ];lia
def zdX:Bc->Bb
 |none=>[]
 |some w=>[w]
def chn (trs:Bb) (lo hi:Bc):Bb:=zdX lo++trs++zdX hi
def qG (f:Bc) (p:(Int×Int)×(Int×Int)):Bc :=
 if p.2.2<p.1.2 then(match f with
  |none=>some (p.2.1-p.1.1,p.1.2-p.2.2)
  |some u=>if(p.2.1-p.1.1)*u.2<u.1*(p.1.2-p.2.2)then some (p.2.1-p.1.1,p.1.2-p.2.2)else some u)else f
def zdg {l r:Int×Int}(h:r.2<l.2):qG none (l,r)=some (r.1-l.1,l.2-r.2):=if_pos h
def zdh {l r u:Int×Int}(h:r.2<l.2):qG (some u) (l,r)=if(r.1-l.1)*u.2<u.1*(l.2-r.2)then some (r.1-l.1,l.2-r.2)else some u:=if_pos h
def XT (ch:Bb):Bc:=(ch.zip ch.tail).foldl qG none
def zh6 {H:Hp}:qr H [] []:=⟨rfl,λi v e=>by simp at e⟩
def zdo {H:Hp}{v:V}{w:Bc} (h:vX H v w):qr H ([v].filter λv=>!decide (v=.non)) (zdX w):=by
 cases w with
 |none =>
  have e:v=.non:=h
  subst e;exact zh6
 |some w =>
  obtain⟨a,e,h⟩:=h
  subst e
  rw[uG (by simp)]
  refine⟨rL,λi v e=>?_⟩
  cases i with
  |zero=>simp at e;subst e;exact⟨w,rfl,a,rfl,h⟩
  |succ i=>simp at e
def zh5 {H:Hp}{vs:Ba}{ts:Bb} (h:qr H vs ts):(vs.filter λv=>!decide (v=.non))=vs:=by
 refine List.filter_eq_self.mpr λv j=>?_
 obtain⟨i,hi⟩:=yT j
 obtain⟨t,_,a,rfl,_⟩:=h.2 i v hi
 simp
def Jf {H:Hp}{vs F:Ba}{ts j:Bb} (h:qr H vs ts) (h':qr H F j):qr H (vs++F) (ts++j):=by
 refine⟨by simp[h.1,h'.1],λi v e=>?_⟩
 by_cases hi:i<vs.length
 ·rw[wE hi]at e
  rw[wE (by rw[<-h.1];exact hi)]
  exact h.2 i v e
 ·rw[wB ∅]at e
  rw[wB (by rw[<-h.1];lia),<-h.1]
  exact h'.2 _ v e
variable {P:Program}{w:World}{K:Fg}{mg:Aa}{base:Heap}
inductive zkw (C:Addr) (vs:Ba)(H:Hp)(Q:VK)(_e3:XK):Prop
 |mk:∀c pb sb tk ws trs lo hi,(vs=[V.ref c])->(Jh H C c pb sb tk ws trs lo hi)->(trs.length<=8)->((∀t∈chn trs lo hi,Bd 4000 t.1/\Bd 4000 t.2))->(∀v H',zk H H'->vX H' v (XT (chn trs lo hi))->Q v H')->zkw C vs H Q _e3
theorem ZP:zF ["course","chain","found","left","right","ticks"] ["course"] (zr QQ):=scq
theorem zlM {C:Addr}(D:Df K mg "soonest" QQ ["course"] []) (T:TxQ K mg) (TC:TCo K C) (c9:⇑3 "less" 1 ["one","other"] [] zdc):⇑3 "soonest" 2 ["course"] [] (zkw C):=by
 rcases r:D.calq (k:=1) ZP with⟨c,pb,sb,tk,ws,b7,lo,hi,rfl,⟨dx,fs,hc,F⟩,hl,hz,k⟩
 rcases q:F.tracks with⟨tl,tv,e1,c5,a7⟩
 obtain⟨lv,e2,c8⟩:=F.low
 obtain⟨hv,e3,c3⟩:=F.high
 have d0:20<sizeLine:=vp (wq _)
 have lt:=a7.1
 refine⟨_,(zA (vo (i:=1) (NB:=["track"]) (FR:=[]) (js:=[]) rfl rfl (λ_ _ h=>by cases h) .nil rfl ⇑0 rfl ⇑0 ZP.nd rfl rfl ⇑2 (xM (zD VP (zD VP (xF %[xx (pv 0) rfl|0]) (xx (pv 0) rfl)) (xF %[xx (pv 0) rfl|0]))) (by intro _ _ _;refine⟨?_,?_,?_⟩;(exact(pgl (i:=0) (show List.Nodup (["track"]:Ad) by decide +kernel)));(exact(Vn (zI xQ (pv 0) zV (zJ _))));(exact(pv 0))))
  (zA (psl (i:=2) ZP.nd zV)
  (zA (qD PassesOwn.never rfl (zcT ⇑2 T.nZip %[1,x6 ZG (pv 1) (xH zg) v4|0]) (qu rfl (zP (pgl (i:=3) ZP.nd) (zP (pgl (i:=4) ZP.nd) xw))) (zj (zZ (zI Vc (pxt (pv 3)) (pxt (pv 4)) (zJ _)) (zA (psl (i:=5) ZP.nd (xa %[zD xS (pxt (pv 4)) (pxt (pv 3)),zD xS (pxt (pv 3)) (pxt (pv 4))|0]))
  (zj (zZ ((vQ (zI qy (pv 2) zV (zJ _)) (vG (xv (zH c9 hr %[5,2|0]) λ_=>rfl)))).pt (zj (psl (i:=2) ZP.nd (pv 5))) zQ))) zQ)))
  (zj (zG (pv 2)))))),?_⟩
 try dsimp only[xi,Cx.nox]
 refine⟨00,c,C,dx,fs,lv,rL,hc,TC.cls,TC.low,e2,zL1,λp1 b9=>?_⟩
 have S1:zk H (upd H p1 (.lst [lv])):=zk.upd b9
 refine⟨00,c,C,dx,fs,00,S1 _ _ hc,TC.cls,TC.tracks,e1,p1,tl,022,zi,S1 _ _ c5,by rw[wJ,um];lia,λp2 c7=>?_⟩
 have S2:=S1.trans (zk.upd (o:=.lst ([lv]++tv)) c7)
 refine⟨00,c,C,dx,fs,hv,rL,S2 _ _ hc,TC.cls,TC.high,e3,zL1,λp3 b3=>?_⟩
 have S3:=S2.trans (zk.upd (o:=.lst [hv]) b3)
 refine⟨p2,p3,022,zk.upd b3 _ _ zi,zi,by simp only[wC,wJ,um];lia,λp4 c4=>?_⟩
 have S4:=S3.trans (zk.upd (o:=.lst ([lv]++tv++[hv])) c4)
 refine⟨p4,rL,⟨_,SqL.of zi⟩,λDa hD=>?_⟩
 refine Jz (J:=Itl K p4) (n:=1) (js:=[]) (g:=zM 0) (te:=xB 0) (xs:=[lv]++tv++[hv]) (λv=>!decide (v=.non)) hD (xZ zi) (vp (by simp only[wC,wJ,um];lia)) ?_ ?_
 ·intro m x zs H2 A2 B2 hx c2 s2 ka kb
  obtain⟨z1,rfl⟩:=ZR c2
  dsimp only[zM]
  refine⟨rL,00,rL,00,?_⟩
  cases e:decide (x=V.non)with
  |true=>exact kb (by simp[e])
  |false=>exact⟨00,ka (by simp[e])⟩
 intro H5 s5 hy
 have S5:zk H H5:=S4.trans s5
 have W:qr H5 (([lv]++tv++[hv]).filter λv=>!decide (v=.non)) (chn b7 lo hi):=by
  rw[yG,yG,zh5 a7]
  exact(Jf (Jf (zdo c8) a7) (zdo c3)).keeps (.of S5)
 generalize (([lv]++tv++[hv]).filter λv=>!decide (v=.non))=ys at W hy
 dsimp only[zM]
 refine⟨01,1,rL,Da,ys,rL,.of hy,λp5 c0=>?_⟩
 rw[zkX]
 have S6:zk H5 (upd H5 p5 (.lst (ys.drop 1))):=zk.upd c0
 have a4:=S6 _ _ hy
 have a5:upd H5 p5 (.lst (ys.drop 1)) p5=some (.lst (ys.drop 1)):=zi
 replace W:=W.keeps (.of S6)
 have S7:zk H (upd H5 p5 (.lst (ys.drop 1))):=S5.trans S6
 generalize upd H5 p5 (.lst (ys.drop 1))=G at S6 a4 a5 W S7
 generalize chn b7 lo hi=ch at W hz k
 refine⟨Da,p5,rL,⟨_,.of a4⟩,⟨_,.of a5⟩,vm (xs:=ys) (ys:=ys.drop 1) (λi σ H'=>zk G H'/\∃fv z3 z4 z5,σ=[Sr c,Sr Da,some fv,z3,z4,z5]/\vX H' fv (((ch.zip ch.tail).take i).foldl qG none)/\∀u,((ch.zip ch.tail).take i).foldl qG none=some u->Bd 4001 u.1/\Bd 4001 u.2)
  ⟨zk.refl _,.non,_,_,_,rfl,rfl,λu e=>by cases e⟩ (λi σ H' ⟨s',_⟩=>⟨.of (s' _ _ a4),.of (s' _ _ a5)⟩) ?_ ?_⟩
 ·rintro i x y σ H' T' hx b0 ⟨s',fv,z3,z4,z5,rfl,I,O⟩ a8
  rcases q:W.2 i x hx with⟨t1,a9,a1,rfl,c1⟩
  rw[yk]at b0
  rcases q:W.2 _ y b0 with⟨t2,b4,Y,rfl,c6⟩
  have S8:zk G (upd H' T' (.tup [.ref a1,.ref Y])):=s'.trans (zk.upd a8)
  have j:=I.keeps (.of (zk.upd (o:=.tup [.ref a1,.ref Y]) a8))
  have b6:upd H' T' (.tup [.ref a1,.ref Y]) T'=some (.tup [.ref a1,.ref Y]):=zi
  generalize upd H' T' (.tup [.ref a1,.ref Y])=G2 at S8 j b6
  have b1:=hz t1 (wm a9)
  have b2:=hz t2 (wm b4)
  have ez:(ch.zip ch.tail)[i]?=some (t1,t2):=by
   rw[yY]
   refine⟨a9,?_⟩
   rw[<-List.drop_one,yk];exact b4
  have ef:((ch.zip ch.tail).take (i+1)).foldl qG none=qG (((ch.zip ch.tail).take i).foldl qG none) (t1,t2):=by
   rw[yu,ez];simp[uR]
  rw[ef]
  generalize ((ch.zip ch.tail).take i).foldl qG none=fo at I j O
  refine⟨T',00,.of b6,rL,021,022,?_⟩
  have a3:=S8 _ _ c1
  have a6:=S8 _ _ c6
  refine⟨00,a1,032,.of a3,at1 ..,00,Y,032,.of a6,at1 ..,022,00,qp (λh=>?_) (λh=>?_)⟩
  ·have h':t2.2<t1.2:=wF h
   refine⟨00,Y,032,.of a6,at0 ..,00,a1,032,.of a3,at0 ..,022,00,a1,032,.of a3,at1 ..,00,Y,032,.of a6,at1 ..,022,⇑5,λtp S=>?_⟩
   have d1:=JU b2.1 b1.1
   have d2:=JU b1.2 b2.2
   refine⟨00,rL,00,?_⟩
   cases fo with
   |none =>
    have e:fv=.non:=I
    subst e
    refine xp ⟨_,rL,⟨S8.trans (zk.upd S),.ref tp,_,_,_,rL,?_,?_⟩⟩
    ·rw[zdg h'];exact⟨tp,rfl,zi⟩
    ·rw[zdg h'];intro u eu;cases eu;exact⟨d1,d2⟩
   |some u =>
    obtain⟨af,rfl,b5⟩:=j
    have bu:=O u rfl
    refine xm ?_
    refine⟨01,tp,af,041,zi,zk.upd S _ _ b5,d1.md,d2.md,bu.1.md,bu.2.md,00,qp (λhh=>?_) (λhh=>?_)⟩
    ·have U:qG (some u) (t1,t2)=some (t2.1-t1.1,t1.2-t2.2):=(zdh h').trans (if_pos (wF hh))
     refine⟨00,⟨S8.trans (zk.upd S),.ref tp,031,?_,?_⟩⟩
     ·rw[U];exact⟨tp,rfl,zi⟩
     ·rw[U];intro u eu;cases eu;exact⟨d1,d2⟩
    ·have U:qG (some u) (t1,t2)=some u:=(zdh h').trans (if_neg λz=>hh (wo z))
     refine⟨S8.trans (zk.upd S),.ref af,031,?_,?_⟩
     ·rw[U];exact⟨af,rfl,zk.upd S _ _ b5⟩
     ·rw[U];exact O
  ·have es:qG fo (t1,t2)=fo:=if_neg λz=>h (wo z)
   refine⟨S8,fv,031,?_,?_⟩
   ·rw[es];exact j
   ·rw[es];exact O
 ·rintro σ H' b8;rcases q:b8 with⟨s',fv,z3,z4,z5,rfl,I,O⟩
  refine⟨00,k _ _ (S7.trans s') ?_⟩
  have e:(ch.zip ch.tail).take (min ys.length (ys.drop 1).length)=ch.zip ch.tail:=wH (by rw[uA,wV,List.length_tail,W.1];lia)
  rw[e]at I
  exact I
def zgf {H:Hp}{a:Addr}{o:HO}(h:H a=some o):upd H a o=H:=by
 funext b
 by_cases e:b=a
 ·subst e;rw[zi];exact h.symm
 ·rw[zK e]
section
variable {P:Program}{w:World}{K:Fg}{mg:Aa}{base:Heap}{C0:Addr}
inductive zfR (C:Addr) (vs:Ba)(H:Hp)(Q:VK)(_e3:XK):Prop
 |mk:∀a y,(vs=[.ref a,y])->(H a=some (XO a C none))->(∀dx,H dx=none->Q .non (upd (upd H dx (.xd [("moment",y)])) a (XO a C (some dx))))->zfR C vs H Q _e3
theorem zhy:zF ["self","moment"] ["self","moment"] (zr qP):=scq
theorem zgZ {C f:Addr}{fd:FuncData}{mc:Value}{cd:ClassData}(F:Fun K "__init__" "Shut.__init__" qP f fd) (U:XUp K C0 mc) (G:mg "ClackError" = some (.ref C0)) (B:XB base C) (S:zel K C cd) (n:x9 K C "moment"):vC P w K mg base CX0 1 f fd ["self","moment"] (zfR C):=by
 refine F.okq (k:=0) zhy (λcdv A outer s H vs Q E hr h=>?_)
 rcases q:h with⟨a,y,rfl,j,k⟩
 refine⟨_,zA (qz (zis U G %[0,qV|0])) (zj (zit (pv 0) (pv 1) rL)),?_⟩
 refine⟨00,a,C,00,j,B,?_⟩
 rw[zgf j]
 exact⟨01,a,C,cd,rL,j,S,n,k⟩
def vt (tk:Rat) (t:Int×Int):Rat:=Rat.divInt (t.1*tk.num) (t.2*(tk.den:Int))
inductive zki (C:Addr) (CS:Addr) (vs:Ba) (H:Hp) (Q:VK) (E:XK):Prop
 |mk:∀c pb sb tk ws trs lo hi wa v1 v2 wlo whi,(vs=[V.ref c,.ref wa])->(Jh H C c pb sb tk ws trs lo hi)->(trs.length<=8)->((∀t∈chn trs lo hi,Bd 4000 t.1/\Bd 4000 t.2))->(Sz 4400 tk)->(H wa=some (.tup [v1,v2]))->(qR H v1 wlo)->(qR H v2 whi)->((∀t,wlo=some t->Sz 400 t.1/\Sz 400 t.2))->((∀t,whi=some t->Sz 400 t.1/\Sz 400 t.2))->((∀H',zk H H'->XT (chn trs lo hi)=none->Q .non H'))->((∀v t H',zk H H'->XT (chn trs lo hi)=some t->xP wlo whi≠some (vt tk t)->vX H' v (some t)->Q v H'))->((∀t p dx H',zk H H'->XT (chn trs lo hi)=some t->xP wlo whi=some (vt tk t)->H' dx=some (.xd [("moment",.ref p)])->zC H' p (vt tk t)->E (.ref CS) (some dx) H'))->zki C CS vs H Q E
theorem zfD:zF ["course","walls","ticks","shut"] ["course","walls"] (zr v9):=scq
theorem zbl:∀{l:List ((Int×Int)×(Int×Int))}{f:Bc},(∀u,f=some u->0<u.2)->(∀u,l.foldl qG f=some u->0<u.2)
 |[],_,h=>h
 |p::l,f,h=>by
  refine zbl (l:=l) (f:=qG f p) λu j=>?_
  unfold qG at j
  split at j
  ·split at j
   ·cases j;show 0<_;lia
   ·split at j
    ·cases j;show 0<_;lia
    ·exact h u j
  ·exact h u j
theorem zc9:∀{l:List ((Int×Int)×(Int×Int))}{f:Bc},(∀p∈l,(Bd 4000 p.1.1/\Bd 4000 p.1.2)/\Bd 4000 p.2.1/\Bd 4000 p.2.2)->(∀u,f=some u->Bd 4001 u.1/\Bd 4001 u.2)->(∀u,l.foldl qG f=some u->Bd 4001 u.1/\Bd 4001 u.2)
 |[],_,_,h=>h
 |p::l,f,hp,h=>by
  have z:=hp p wT
  refine zc9 (l:=l) (f:=qG f p) (λx F=>hp x (wR _ F)) λu j=>?_
  have d:Bd 4001 (p.2.1-p.1.1)/\Bd 4001 (p.1.2-p.2.2):=⟨JU z.2.1 z.1.1,JU z.1.2 z.2.2⟩
  unfold qG at j
  split at j
  ·split at j
   ·cases j;exact d
   ·split at j
    ·cases j;exact d
    ·exact h u j
  ·exact h u j
theorem zda {ch:Bb} (hz:∀t∈ch,Bd 4000 t.1/\Bd 4000 t.2){t:Int×Int}(h:XT ch=some t):0<t.2/\Bd 4001 t.1/\Bd 4001 t.2:=by
 refine⟨zbl (λu e=>by cases e) t h,zc9 (λp j=>?_) (λu e=>by cases e) t h⟩
 have z:=uz j
 exact⟨hz _ z.1,hz _ (WN z.2)⟩
theorem zlu {C CS a5:Addr}{O:FuncData}(D:Df K mg "first_ticks" v9 ["course","walls"] []) (TC:TCo K C) (b4:⇑3 "soonest" 2 ["course"] [] (zkw C)) (b7:⇑3 "shut_moment" 4 ["walls"] [] zkt)
  (b0:⇑3 "moment_of" 3 ["course","ticks"] [] (zfT C)) (XM:XMk K base CS a5) (b8:vC P w K mg base CX0 1 a5 O ["self","moment"] (zfR CS)) (a7:mg "Shut" = some (.ref CS)) (b5:vI K O ["self","moment"] []) :
  XU P w K mg base "first_ticks" 5 ["course","walls"] [] (zki C CS):=by
 rcases r:D.cal1q (k:=4) zfD with⟨c,pb,sb,S,ws,a3,lo,hi,wa,v1,v2,a4,a2,rfl,Y,hl,hz,a8,hw,h1,h2,z1,z2,k1,k2,k3⟩
 have a1:xf 2 _:=hr.md
 have b9:xf 3 _:=hr.md
 have hu:=hr.units
 refine⟨_,(zA (psl (i:=2) zfD.nd (zH b4 a1 %[0|0]))
  (zA (zZ (zI qy (pv 2) zV (zJ _)) (zj (zG zV)) zQ)
  (zA (psl (i:=3) zfD.nd (zH b7 hr %[1|0]))
  (zA (zZ ((qk (zI xQ (pv 3) zV (zJ _)) (x8 (zI (vh hu) (pv 3) (zH b0 b9 %[0,2|0]) (zJ _))))).pt (zj (JK XM b8 a1 a7 b5 hr.hd Xv %[3|0])) zQ)
  (zj (zG (pv 2))))))),?_⟩
 try dsimp only[xi,Cx.nox]
 refine⟨00,c,pb,sb,S,ws,a3,lo,hi,rL,Y,hl,hz,λtv H1 F G=>?_⟩
 dsimp only[zM]
 refine⟨00,rL,00,?_⟩
 cases es:XT (chn a3 lo hi)with
 |none =>
  rw[es]at G
  have e:tv=.non:=G
  subst e
  exact xp (k1 H1 F es)
 |some t =>
  rw[es]at G
  obtain⟨ta,rfl,U⟩:=G
  refine xm ?_
  refine⟨00,wa,v1,v2,a4,a2,rL,F _ _ hw,h1.keeps (.of F),h2.keeps (.of F),z1,z2,λsv H2 I j=>?_⟩
  have so:=zda hz es
  obtain⟨dx,fs,hc,Fc⟩:=Y
  obtain⟨tp,a9,b3⟩:=Fc.tick
  dsimp only[zM]
  refine⟨00,rL,00,?_⟩
  cases em:xP a4 a2 with
  |none =>
   rw[em]at j
   have e:sv=.non:=j
   subst e
   refine xm ⟨_,rfl,k2 _ t H2 (F.trans I) es (by rw[em];intro z;cases z) ⟨ta,rfl,I _ _ U⟩⟩
  |some q =>
   rw[em]at j
   obtain⟨sa,rfl,a6⟩:=j
   refine xp ?_
   refine⟨02,c,ta,dx,fs,tp,S,t.1,t.2,rfl,I _ _ (F _ _ hc),a9,I _ _ (F _ _ b3),I _ _ U,by lia,so.2.1.md,so.2.2.md,a8,λmr W s3 b2=>?_⟩
   refine⟨_,_,(a6.same s3).rd,b2.rd,xy _,xy _,00,?_⟩
   rw[XA]
   by_cases e:q=vt S t
   ·rw[wo (show q=Rat.divInt (t.1*S.num) (t.2*(S.den:Int))from e)]
    refine xp ?_
    refine⟨00,zL1,λp hp=>⟨p,00,zi,λd hd=>⟨rL,some d,zi,?_⟩⟩⟩
    have V:d≠p:=λz=>by subst z;rw[zi]at hd;cases hd
    have b1:W d=none:=by rw[zK V]at hd;exact hd
    have eG:∀b,b≠p->b≠d->Vz p (upd (upd (upd W p (XO p CS none)) d (.xd [("moment",.ref sa)])) p (XO p CS (some d))) b=W b:=λb hb b6=>by
     rw[qL hb,zK hb,zK b6,zK hb]
    have SG:zk W (Vz p (upd (upd (upd W p (XO p CS none)) d (.xd [("moment",.ref sa)])) p (XO p CS (some d)))):=λb o eb=>by
     rw[eG b (zN eb hp) (zN eb b1)];exact eb
    refine k3 t sa d _ (F.trans (I.trans (s3.trans SG))) es (by rw[em,e]) ?_ ?_
    ·rw[qL V,zK V,zi]
    ·rw[<-e];exact SG _ _ (s3 _ _ a6)
   ·rw[wG (show ¬q=Rat.divInt (t.1*S.num) (t.2*(S.den:Int))from e)]
    refine xm ⟨_,rfl,k2 _ t W (F.trans (I.trans s3)) es (by rw[em];intro z;cases z;exact e rfl) ⟨ta,rfl,s3 _ _ (I _ _ U)⟩⟩
end
def tkO (bs:List Bl) (lo hi:Be):Rat:=Rat.divInt (sbO bs lo hi) (pbO bs lo hi)
def trO (bs:List Bl) (lo hi:Be):Bb:=bs.map λb=>trB (pbO bs lo hi) (sbO bs lo hi) (b.pl,b.sp)
def chO (bs:List Bl) (lo hi:Be):Bb:=chn (trO bs lo hi) (lo.map (trB (pbO bs lo hi) (sbO bs lo hi))) (hi.map (trB (pbO bs lo hi) (sbO bs lo hi)))
structure In (H:Hp) (r wa:Addr) (bs:List Bl) (lo hi:Be):Prop where
 row:∃us,H r=some (.tup us)/\XW H us bs
 walls:∃v1 v2,H wa=some (.tup [v1,v2])/\qR H v1 lo/\qR H v2 hi
 len:bs.length<=8
 sz:∀t∈ths bs lo hi,Sz 400 t.1/\Sz 400 t.2
 bd:∀t∈chO bs lo hi,Bd 4000 t.1/\Bd 4000 t.2
 tk:Sz 4400 (tkO bs lo hi)
def In.lo {H:Hp}{r j:Addr}{bs:List Bl}{lo hi:Be} (I:In H r j bs lo hi):∀t,lo=some t->Sz 400 t.1/\Sz 400 t.2:=λt e=>I.sz t (by unfold ths;rw[e];simp[xK])
def In.hi {H:Hp}{r j:Addr}{bs:List Bl}{lo hi:Be} (I:In H r j bs lo hi):∀t,hi=some t->Sz 400 t.1/\Sz 400 t.2:=λt e=>I.sz t (by unfold ths;rw[e];simp[xK])
def xu (l t:Int×Int):Int:=l.1*t.2+l.2*t.1
def BdP (n:Nat) (t:Int×Int):Prop:=Bd n t.1/\Bd n t.2
inductive Jb (vs:Ba)(H:Hp)(Q:VK)(_e3:XK):Prop
 |mk:∀a b l t,(vs=[V.ref a,.ref b])->(H a=some (.tup [.int l.1,.int l.2]))->(H b=some (.tup [.int t.1,.int t.2]))->(BdP 4400 l)->(BdP 4400 t)->(Q (.int (xu l t)) H)->Jb vs H Q _e3
theorem zc4:zF ["track","ticks"] ["track","ticks"] (zr QR):=scq
theorem zfd (D:Df K mg "spot_at" QR ["track","ticks"] []):⇑3 "spot_at" 1 ["track","ticks"] [] Jb:=by
 rcases r:D.calq (k:=0) zc4 with⟨a,b,l,t,rfl,j,I,G,F,k⟩
 refine⟨_,(zj (zG (zD xc (zD zR (pxt (pv 0)) (pxt (pv 1))) (zD zR (pxt (pv 0)) (pxt (pv 1)))))),?_⟩
 try dsimp only[xi,Cx.nox]
 exact⟨00,a,032,.of j,at0 ..,00,b,032,.of I,at1 ..,022,⟨G.1.md,F.2.md⟩,00,a,032,.of j,at1 ..,00,b,032,.of I,at0 ..,022,⟨G.2.md,F.1.md⟩,022,k⟩
def atS (w:Bc) (t:Int×Int) (s:Int):Bool:=match w with
 |none=>false
 |some l=>decide (s=xu l t)
def ql (lo hi:Bc) (t:Int×Int) (s:Int):Str:=if atS lo t s then "low" else if atS hi t s then "high" else ""
inductive zku (C:Addr) (vs:Ba)(H:Hp)(Q:VK)(_e3:XK):Prop
 |mk:∀c b pb sb tk ws trs lo hi s t,(vs=[V.ref c,.int s,.ref b])->(Jh H C c pb sb tk ws trs lo hi)->(H b=some (.tup [.int t.1,.int t.2]))->(BdP 4400 t)->((∀l,lo=some l->BdP 4400 l))->((∀l,hi=some l->BdP 4400 l))->(Q (.str (ql lo hi t s)) H)->zku C vs H Q _e3
theorem zmb:zF ["course","spot","ticks"] ["course","spot","ticks"] (zr QP):=scq
theorem zlK {C:Addr}(D:Df K mg "side_at" QP ["course","spot","ticks"] []) (j:TCo K C) (a1:⇑3 "spot_at" 1 ["track","ticks"] [] Jb):⇑3 "side_at" 2 ["course","spot","ticks"] [] (zku C):=by
 rcases r:D.calq (k:=1) zmb with⟨c,b,pb,sb,tk,ws,a4,lo,hi,sp,t,rfl,⟨dx,fs,V,F⟩,hb,zt,a2,W,k⟩
 obtain⟨lv,e2,Y⟩:=F.low
 obtain⟨hv,e3,O⟩:=F.high
 refine⟨_,(zA (zZ ((qk (zI xQ (xx (pv 0) rL) zV (zJ _)) (x8 (zI qh (pv 1) (zH a1 hr %[xx (pv 0) rL,2|0]) (zJ _))))).pt (zj (zG qV)) zQ)
  (zA (zZ ((qk (zI xQ (xx (pv 0) rfl) zV (zJ _)) (x8 (zI qh (pv 1) (zH a1 hr %[xx (pv 0) rfl,2|0]) (zJ _))))).pt (zj (zG qV)) zQ)
  (zj (zG qV)))),?_⟩
 try dsimp only[xi,Cx.nox]
 refine⟨00,c,C,dx,fs,lv,rL,V,j.cls,j.low,e2,rL,00,?_⟩
 cases elo:lo with
 |none =>
  subst elo
  have e:lv=.non:=Y
  subst e
  have S:atS none t sp=false:=rfl
  generalize hlo:(none:Bc)=lo at S k
  refine xm ?_
  refine⟨00,c,C,dx,fs,hv,rL,V,j.cls,j.high,e3,rL,00,?_⟩
  cases hi with
  |none =>
   have e:hv=.non:=O
   subst e
   refine xm ?_
   have es:ql lo none t sp = "":=by unfold ql;rw[if_neg (by rw[S];simp)];rfl
   rw[es]at k;exact k
  |some h =>
   obtain⟨ah,rfl,U⟩:=O
   refine xp ?_
   refine⟨01,c,C,dx,fs,00,V,j.cls,j.high,e3,00,ah,b,h,t,rL,U,hb,W h rL,zt,rL,00,qp (λG=>?_) (λG=>?_)⟩
   ·have I:sp=xu h t:=by have:=wF G;injection this
    have es:ql lo (some h) t sp = "high":=by unfold ql;rw[if_neg (by rw[S];simp),if_pos (show atS (some h) t sp=true from wo I)]
    rw[es]at k;exact k
   ·have I:¬sp=xu h t:=λz=>G (wo (by rw[z]))
    have es:ql lo (some h) t sp = "":=by unfold ql;rw[if_neg (by rw[S];simp),if_neg (show ¬atS (some h) t sp=true from λz=>I (wF z))]
    rw[es]at k;exact k
 |some l =>
  subst elo
  obtain⟨al,rfl,a3⟩:=Y
  refine xp ?_
  refine⟨01,c,C,dx,fs,00,V,j.cls,j.low,e2,00,al,b,l,t,rL,a3,hb,a2 l rL,zt,rL,00,qp (λG=>?_) (λG=>?_)⟩
  ·have I:sp=xu l t:=by have:=wF G;injection this
   have es:ql (some l) hi t sp = "low":=by unfold ql;rw[if_pos (show atS (some l) t sp=true from wo I)]
   rw[es]at k;exact k
  ·have I:¬sp=xu l t:=λz=>G (wo (by rw[z]))
   have S:atS (some l) t sp=false:=wG I
   generalize hlo:some l=lo at S k
   refine⟨00,c,C,dx,fs,hv,rL,V,j.cls,j.high,e3,rL,00,?_⟩
   cases hi with
   |none =>
    have e:hv=.non:=O
    subst e
    refine xm ?_
    have es:ql lo none t sp = "":=by unfold ql;rw[if_neg (by rw[S];simp)];rfl
    rw[es]at k;exact k
   |some h =>
    obtain⟨ah,rfl,U⟩:=O
    refine xp ?_
    refine⟨01,c,C,dx,fs,00,V,j.cls,j.high,e3,00,ah,b,h,t,rL,U,hb,W h rL,zt,rL,00,qp (λG=>?_) (λG=>?_)⟩
    ·have I:sp=xu h t:=by have:=wF G;injection this
     have es:ql lo (some h) t sp = "high":=by unfold ql;rw[if_neg (by rw[S];simp),if_pos (show atS (some h) t sp=true from wo I)]
     rw[es]at k;exact k
    ·have I:¬sp=xu h t:=λz=>G (wo (by rw[z]))
     have es:ql lo (some h) t sp = "":=by unfold ql;rw[if_neg (by rw[S];simp),if_neg (show ¬atS (some h) t sp=true from λz=>I (wF z))]
     rw[es]at k;exact k
end KQ
namespace L2
open PySem PySem.Spec PyProof.Rows
def Vk {tc:TT}{ta tb:TS}{D:vq}{σ:St}{H:Hp}(R:Hp->Prop) (c:Bool) (h1:∀(j:Bool->Hp->Prop),(∀H',R H'->j c H')->tc σ H j) (F:c=true->∀H',R H'->ta D σ H') (G:c=false->∀H',R H'->tb D σ H'):zkD tc ta tb D σ H:=h1 _ λH' r=>by
 cases c with
 |true=>exact xp (F rfl H' r)
 |false=>exact xm (G rfl H' r)
def VF {tc:TT}{ta tb u:TS}{D:vq}{σ:St}{H:Hp}(R:Hp->Prop) (c:Bool) (h1:∀(j:Bool->Hp->Prop),(∀H',R H'->j c H')->tc σ H j) (F:c=true->∀H',R H'->ta { D with nx:=u D } σ H') (G:c=false->∀H',R H'->tb { D with nx:=u D } σ H'):Jo (zkD tc ta tb) u D σ H:=Vk (D:={ D with nx:=u D }) R c h1 F G
end L2
namespace KQ
open PySem L2 KM KK
variable {P:Program}{w:World}{K:Fg}{mg:Aa}{base:Heap}
def xl (wh:Str) (lo hi:Bc):Bc:=if wh = "" then none else if wh = "low" then lo else hi
inductive zhX (C:Addr) (vs:Ba)(H:Hp)(Q:VK)(_e3:XK):Prop
 |mk:∀c pb sb tk ws trs lo hi wh,(vs=[V.ref c,.str wh])->(Jh H C c pb sb tk ws trs lo hi)->(∀v,vX H v (xl wh lo hi)->Q v H)->zhX C vs H Q _e3
theorem zmc:zF ["course","where"] ["course","where"] (zr QS):=scq
theorem zlQ {C:Addr}(D:Df K mg "wall_of" QS ["course","where"] []) (j:TCo K C):⇑3 "wall_of" 1 ["course","where"] [] (zhX C):=by
 rcases r:D.calq (k:=0) zmc with⟨c,pb,sb,tk,ws,Y,lo,hi,G,rfl,⟨dx,fs,S,F⟩,k⟩
 obtain⟨V,e2,O⟩:=F.low
 obtain⟨hv,W,I⟩:=F.high
 refine⟨_,(zA (zZ (zI qh (pv 1) qV (zJ _)) (zj (zG zV)) zQ)
  (zj (zG (zfj (zI qh (pv 1) qV (zJ _)) (xx (pv 0) rfl) (xx (pv 0) rfl))))),?_⟩
 try dsimp only[xi,Cx.nox]
 refine⟨00,rL,00,qp (λh=>?_) (λh=>?_)⟩
 ·have e:G = "":=by have:=wF h;injection this
  exact k _ (by unfold xl;rw[if_pos e];exact rfl)
 ·have n:¬G = "":=λz=>h (wo (by rw[z]))
  refine⟨00,rL,00,qp (λh=>?_) (λh=>?_)⟩
  ·have e:G = "low":=by have:=wF h;injection this
   exact⟨00,c,C,dx,fs,V,rfl,S,j.cls,j.low,e2,k _ (by unfold xl;rw[if_neg n,if_pos e];exact O)⟩
  ·have U:¬G = "low":=λz=>h (wo (by rw[z]))
   exact⟨00,c,C,dx,fs,hv,rfl,S,j.cls,j.high,W,k _ (by unfold xl;rw[if_neg n,if_neg U];exact I)⟩
def cwN (trs:Bb) (w:Bc) (a b:Nat):Nat:=match w with
 |none=>0
 |some u=>(((trs.drop a).take (b+1-a)).filter λt=>decide (t.2≠u.2)).length
inductive zkc (C:Addr) (vs:Ba)(H:Hp)(Q:VK)(_e3:XK):Prop
 |mk:∀(c g:Addr) (pb sb:Int) (tk:Rat) (ws:Ak) (trs:Bb) (lo hi:Bc) (a b:Nat) (wh:Str),(vs=[V.ref c,.ref g])->(Jh H C c pb sb tk ws trs lo hi)->(trs.length<=8)->(a<=b)->(b<trs.length)->(H g=some (.tup [.int (a:Int),.int (b:Int),.str wh]))->(∀H',zk H H'->Q (.int (cwN trs (xl wh lo hi) a b:Nat)) H')->zkc C vs H Q _e3
theorem zbh:zF ["course","group","first","last","where","wall"] ["course","group"] (zr vR):=scq
theorem zgT {xs:Ba}{lo hi:Option Int}{v:V}(h:v∈qB xs lo hi):v∈xs:=w5 (w8 h)
def zbX (H:Hp) (s:Int) (v:V):Bool:=match v with
 |.ref a=>(match H a with | some (.tup [_,.int y])=>decide (y≠s) | _=>false)
 |_=>false
theorem zcJ {H:Hp}{s:Int}:∀{vs:Ba}{ts:Bb},vs.length=ts.length->(∀(i:Nat) (v:V),vs[i]?=some v->∃t,ts[i]?=some t/\vX H v (some t))->(vs.filter (zbX H s)).length=(ts.filter λt=>decide (t.2≠s)).length
 |[],[],_,_=>rfl
 |[],_::_,h,_=>by simp at h
 |_::_,[],h,_=>by simp at h
 |v::vs,t::ts,h,k=>by
  obtain⟨F,e,a,rfl,j⟩:=k 0 v rfl
  cases e
  have ih:=zcJ (H:=H) (s:=s) (vs:=vs) (ts:=ts) ↥h λi v e=>k (i+1) v ↥e
  have e1:zbX H s (.ref a)=decide (t.2≠s):=by unfold zbX;dsimp only;rw[j]
  rw[List.filter_cons,List.filter_cons,e1]
  by_cases c:t.2≠s
  ·rw[if_pos (wo c),if_pos (wo c),wJ,wJ,ih]
  ·rw[wG c,if_neg (by simp),if_neg (by simp),ih]
theorem zi5 {α:Type}{xs:List α}{a b:Nat}(j:b<xs.length):qZ xs (some (a:Int)) (some ((b:Int)+1))=(xs.drop a).take (b+1-a):=by
 unfold qZ
 rw[show ((b:Int)+1)=((b+1:Nat):Int)from rfl,HT.sIx_nat,HT.sIx_nat]
 rw[WU (by lia:b+1<=xs.length)]
 rcases Nat.le_total a xs.length with h | h
 ·rw[WU h]
 ·rw[Yr h,Ww h,Ww (wq _)];simp
theorem zlo {C:Addr}(D:Df K mg "came_to_wall" vR ["course","group"] []) (T:TxQ K mg) (TC:TCo K C) (cW:⇑3 "wall_of" 1 ["course","where"] [] (zhX C)):⇑3 "came_to_wall" 2 ["course","group"] [] (zkc C):=by
 rcases r:D.calq (k:=1) zbh with⟨c,g,pb,sb,tk,ws,O,lo,hi,a,b,wh,rfl,G,hl,a4,a5,hg,k⟩
 refine⟨_,(zA (qf (pv 1) (qu rL (zP (pgl (i:=2) zbh.nd) (zP (pgl (i:=3) zbh.nd) (zP (pgl (i:=4) zbh.nd) xw)))))
  (zA (Qz (i:=5) zbh.nd rfl (Or.inr rfl) (zH cW hr %[0,4|0]))
  (zA (zZ (zI qy (pv 5) zV (zJ _)) (zj (zG zg)) zQ)
  (zj (zG (xk xt ⇑2 T.nLen PySem.boot_len %[(Zj (NB:=["track"]) (FR:=["wall"]) (js:=[5]) rfl rfl (λ_ _ h=>h) (.cons rfl rfl rfl ⟨_,rfl⟩ .nil) rfl ⇑0 rfl ⇑0 (xM (x6 ZG (xx (pv 0) rfl) (xH (pv 2)) (xH (zD xc (pv 3) zg)))) (by intro _ _ _;refine⟨?_,?_,?_⟩;(exact(pgl (i:=0) (show List.Nodup (["track","wall"]:Ad) by decide +kernel)));(exact(Vn (zI zcP (xb (qH (K:=K) rfl) (pv 0) zg (λ_ _=>rfl)) (xb (qH (K:=K) rfl) (pv 1) zg (λ_ _=>rfl)) (zJ _))));(exact(pv 0))))|0])))))),?_⟩
 try dsimp only[xi,Cx.nox]
 refine⟨00,g,00,.of hg,rL,021,021,022,?_⟩
 refine⟨01,c,pb,sb,tk,ws,O,lo,hi,wh,rL,G,λv U=>?_⟩
 obtain⟨dx,fs,hc,F⟩:=G
 rcases q:F.tracks with⟨tl,tv,e1,Y,j⟩
 dsimp only[zM]
 refine⟨00,rL,00,?_⟩
 cases ew:xl wh lo hi with
 |none =>
  rw[ew]at U k
  have e:v=.non:=U
  subst e
  exact xp (k H (zk.refl _))
 |some wl =>
  rw[ew]at U k
  obtain⟨aw,rfl,a3⟩:=U
  refine xm ?_
  refine⟨00,c,C,dx,fs,00,hc,TC.cls,TC.tracks,e1,00,a,rL,00,022,00,tl,tv,rL,.of Y,λp hp=>?_⟩
  have S1:zk H (upd H p (.lst (qB tv (some a) (some (b+1))))):=zk.upd hp
  refine⟨p,rL,⟨_,SqL.of zi⟩,λDa hD=>?_⟩
  have lc:(qB tv (some a) (some (b+1))).length<=8:=wY (vZ ..) (by rw[j.1];exact hl)
  have a2:=j.1
  have S:qB tv (some (a:Int)) (some ((b:Int)+1))=(tv.drop a).take (b+1-a):=zi5 ∅
  refine Jz (J:=Itl K p) (n:=1) (js:=[5]) (g:=zM 0) (te:=xB 0) (xs:=qB tv (some a) (some (b+1))) (zbX H wl.2) hD (xZ zi) (vp ∅) ?_ ?_
  ·intro i x zs H2 A2 B2 hx a1 W ka kb
   obtain⟨m,hm⟩:=yT (zgT (wm hx))
   rcases q:j.2 m x hm with⟨t,_,ax,rfl,I⟩
   obtain⟨z1,rfl⟩:=ZR a1
   dsimp only[zM]
   have s3:=S1.trans W
   have eo:zbX H wl.2 (.ref ax)=decide (t.2≠wl.2):=by unfold zbX;dsimp only;rw[I]
   refine⟨rL,00,ax,032,.of (s3 _ _ I),at1 ..,00,aw,032,.of (s3 _ _ a3),at1 ..,rL,00,?_⟩
   by_cases c':t.2=wl.2
   ·have:(!decide (V.int t.2=V.int wl.2))=false:=by rw[c'];simp
    rw[this]
    exact kb (by rw[eo];simp[c'])
   ·have:(!decide (V.int t.2=V.int wl.2))=true:=by
     have:¬V.int t.2=V.int wl.2:=λz=>c' (by injection z)
     rw[wG this];rfl
    rw[this]
    exact⟨00,ka (by rw[eo];simp[c'])⟩
  ·intro H2 W hy
   refine⟨Da,00,.inl (.of hy),?_⟩
   have el:((qB tv (some (a:Int)) (some ((b:Int)+1))).filter (zbX H wl.2)).length=cwN O (some wl) a b:=by
    rw[S]
    refine zcJ (by simp[a2]) λi v e=>?_
    rw[yS]at e
    split at e
    ·rw[yk]at e
     rw[yS,if_pos ‹_›,yk]
     exact j.2 _ v e
    ·cases e
   rw[el]
   exact k _ (S1.trans W)
def Jh.same {H H':Hp}{C c:Addr}{I O:Int}{G:Rat}{ws:Ak}{j:Bb}{lo hi:Bc} (h:Jh H C c I O G ws j lo hi) (s:zk H H'):Jh H' C c I O G ws j lo hi:=by
 obtain⟨dx,fs,hc,F⟩:=h
 obtain⟨tp,W,a2⟩:=F.tick
 obtain⟨wl,b1,V⟩:=F.weights
 obtain⟨tl,tv,c1,S,Y⟩:=F.tracks
 obtain⟨lv,d1,U⟩:=F.low
 obtain⟨hv,e1,e2⟩:=F.high
 exact⟨dx,fs,s _ _ hc,⟨F.pb,F.sb,⟨tp,W,s _ _ a2⟩,⟨wl,b1,s _ _ V⟩,⟨tl,tv,c1,s _ _ S,Y.keeps (.of s)⟩,⟨lv,d1,U.keeps (.of s)⟩,⟨hv,e1,e2.keeps (.of s)⟩,F.len⟩⟩
def VD {K:Fg}{a:Addr}{xs:Ba}{g:TG}{tb:TS}{D:vq}{σ:St}{H:Hp}(j:Nat->St->Hp->Prop) (h0:j 0 σ H) (U:∀i σ H,j i σ H->SqL K H a xs)
  (hs:∀(i:Nat) (x:V) (σ:St) (H:Hp) (T:Addr),xs[i]?=some x->j i σ H->H T=none->g (.ref T) σ (upd H T (.tup [.int i,x])) λG H2=>tb { D with nx:=j (i+1),ct:=j (i+1),bk:=D.nx } G H2)
  (hd:∀σ H,j xs.length σ H->D.nx σ H) :
  ∃W:Nat->Nat->St->Hp->Prop,(∃m,W 0 m σ H)/\∀i m σ H,W i m σ H →
   ((Ite K a).stop i H/\D.nx σ H)\/((Ite K a).go i H/\∃N:St->Hp->Prop,(∀I H',N I H'->∃O,O<m/\W (i+1) O I H')/\∀x H',(Ite K a).yld i H x H'->g x σ H' λG H2=>tb { D with nx:=N,ct:=N,bk:=D.nx } G H2):=by
 refine⟨λi m σ H=>m=xs.length-i/\i<=xs.length/\j i σ H,⟨xs.length,by simp,yo _,h0⟩,?_⟩
 rintro i m σ H ⟨rfl,hi,p⟩
 have F:=U i σ H p
 by_cases hlt:i<xs.length
 ·refine .inr ⟨⟨xs,xs[i],F,by simp⟩,j (i+1),λI H' S=>⟨xs.length-(i+1),by lia,rfl,hlt,S⟩,λx H' y=>?_⟩
  obtain⟨T,u,rfl,Y,rfl,e1⟩:=y
  exact hs i u σ H T (e1 xs F) p Y
 ·have e:i=xs.length:=by lia
  subst e
  exact .inl ⟨⟨xs,F,wq _⟩,hd σ H p⟩
def zgs {xs:Ba}{n:Nat}{v:V}(h:xs[n]?=some v):atI xs (n:Int)=some v:=by
 have j:=(wn.mp h).1
 unfold atI ixN
 rw[if_pos ∅,if_pos ∅]
 show xs[(n:Int).toNat]?=_
 rw[yD];exact h
def brk {α:Type} [DecidableEq α] (ss:List α) (i:Nat):Bool:=decide (i+1=ss.length) || decide (ss[i+1]?≠ss[i]?)
def stG {α:Type} [DecidableEq α] (ss:List α):Nat->Nat
 |0=>0
 |i+1=>if brk ss i=true then i+1 else stG ss i
def rlG {α γ:Type} [DecidableEq α] (ss:List α) (f:Nat->Nat->Option γ):Nat->List γ
 |0=>[]
 |i+1=>if brk ss i=true then rlG ss f i++(f (stG ss i) i).toList else rlG ss f i
theorem xU {α:Type} [DecidableEq α] (ss:List α):∀i,stG ss i<=i
 |0=>wq _
 |i+1=>by
  have:=xU ss i
  show (if brk ss i=true then i+1 else stG ss i)<=i+1
  split <;> lia
def Vg (H:Hp) (v:V) (g:Bg):Prop:=∃a,v=.ref a/\H a=some (.tup [.int (g.1:Int),.int (g.2.1:Int),.str g.2.2])
def vD (H:Hp) (vs:Ba) (gs:List (Bg)):Prop:=vs.length=gs.length/\∀(i:Nat) (v:V),vs[i]?=some v->∃g,gs[i]?=some g/\Vg H v g
theorem vD.keeps {H H':Hp}{vs:Ba}{j:List (Bg)} (h:vD H vs j) (t:zX H H'):vD H' vs j :=
 ⟨h.1,λi v e=>by obtain⟨g,e1,a,e2,F⟩:=h.2 i v e;exact⟨g,e1,a,e2,t _ _ F⟩⟩
theorem vD.snoc {H:Hp}{vs:Ba}{F:List (Bg)}{v:V}{g:Bg}(h:vD H vs F) (k:Vg H v g):vD H (vs++[v]) (F++[g]):=by
 refine⟨by simp[h.1],λi u e=>?_⟩
 by_cases hi:i<vs.length
 ·rw[wE hi]at e
  rw[wE (by rw[<-h.1];exact hi)]
  exact h.2 i u e
 ·rw[wB ∅]at e
  have j:i-vs.length=0:=by
   rcases yQ (i-vs.length)with z | z
   ·exact z
   ·rw[w4 (by simp;lia)]at e;cases e
  rw[j]at e;cases e
  exact⟨g,by rw[wB (by rw[<-h.1];lia),<-h.1,j];rfl,k⟩
def fP (trs:Bb) (lo hi:Bc) (t:Int×Int) (a b:Nat):Option (Bg) :=
 let s:=ql lo hi t (((trs.map λl=>xu l t)[b]?).getD 0)
 if a<b\/0<cwN trs (xl s lo hi) a b then some (a,b,s)else none
def grP (trs:Bb) (lo hi:Bc) (t:Int×Int):List (Bg):=rlG (trs.map λl=>xu l t) (fP trs lo hi t) trs.length
inductive zkj (C:Addr) (vs:Ba)(H:Hp)(Q:VK)(_e3:XK):Prop
 |mk:∀c b pb sb tk ws trs lo hi t,(vs=[V.ref c,.ref b])->(Jh H C c pb sb tk ws trs lo hi)->(trs.length<=8)->(H b=some (.tup [.int t.1,.int t.2]))->(BdP 4400 t)->((∀l∈trs,BdP 4400 l))->((∀l,lo=some l->BdP 4400 l))->((∀l,hi=some l->BdP 4400 l))->(∀G gs H',zk H H'->H G=none->H' G=some (.lst gs)->vD H' gs (grP trs lo hi t)->Q (.ref G) H')->zkj C vs H Q _e3
theorem Vf:zF ["course","ticks","spots","groups","first","last","spot","group"] ["course","ticks"] (zr Xc):=scq
theorem zlw {C:Addr}(D:Df K mg "groups_at" Xc ["course","ticks"] []) (T:TxQ K mg) (hE:mg "enumerate" = none) (TC:TCo K C) (c3:⇑3 "spot_at" 1 ["track","ticks"] [] Jb) (d0:⇑3 "side_at" 2 ["course","spot","ticks"] [] (zku C))
  (c0:⇑3 "came_to_wall" 2 ["course","group"] [] (zkc C)):⇑3 "groups_at" 3 ["course","ticks"] [] (zkj C):=by
 rcases r:D.calq (k:=2) Vf with⟨c,b,pb,sb,tk,ws,j,lo,hi,t,rfl,CO,hl,hb,zt,c2,c8,c5,k⟩
 have b2:xf 2 _:=hr
 have c9:xf 1 _:=hr.md
 obtain⟨dx,fs,hc,F⟩:=id CO
 rcases q:F.tracks with⟨tl,tv,e1,b4,a4⟩
 refine⟨_,(zA (vo (i:=2) (NB:=["track"]) (FR:=["ticks"]) (js:=[1]) rfl rfl (λ_ _ h=>h) (.cons rfl rfl rfl ⟨_,rfl⟩ .nil) rfl ⇑0 rfl ⇑0 Vf.nd rfl rfl ⇑2 (xM (xx (pv 0) rfl)) (by intro _ _ _;refine⟨?_,?_,?_⟩;(exact(pgl (i:=0) (show List.Nodup (["track","ticks"]:Ad) by decide +kernel)));(exact xI);(exact(zH c3 c9 %[0,1|0]))))
  (zA (psl (i:=3) Vf.nd (xF zf))
  (zA (psl (i:=4) Vf.nd zg)
  (zA (qD PassesOwn.never rfl (zcS ⇑2 hE %[2|0]) (qu rfl (zP (pgl (i:=5) Vf.nd) (zP (pgl (i:=6) Vf.nd) xw))) (zj (zZ ((vQ (zI qh (zD xc (pv 5) zg) (xk xt ⇑2 T.nLen PySem.boot_len %[2|0]) (zJ _)) (vG (zI zcP (xb zU (pv 2) (zD xc (pv 5) zg) (λ_ _=>rfl)) (pv 6) (zJ _))))).pt (zA (psl (i:=7) Vf.nd (xa %[4,5,(zH d0 b2 %[0,6,1|0])|0]))
  (zA (zZ ((vQ (zI Z6 (pv 4) (pv 5) (zJ _)) (vG (zI Vc (zH c0 b2 %[0,7|0]) zg (zJ _))))).pt (zj (qz (Vd yx yN yO qO (pv 3) %[7|0]))) zQ)
  (zj (psl (i:=4) Vf.nd (zD xc (pv 5) zg))))) zQ)))
  (zj (zG (pv 3))))))),?_⟩
 try dsimp only[xi,Cx.nox]
 refine⟨00,c,C,dx,fs,00,hc,TC.cls,TC.tracks,e1,tl,rL,⟨_,SqL.of b4⟩,λDa hD=>?_⟩
 refine xR (J:=Itl K tl) (n:=1) (js:=[1]) (g:=zM 0) (te:=vV Jb [] E0 (xN (xB 0) (xN (xB 1) Xn))) (xs:=tv) (λm v _=>∃z:Int,(j.map λl=>xu l t)[m]?=some z/\v=.int z) (λ_ _ _ _ _ z=>z) hD (xZ b4) (vp (by rw[a4.1];lia)) ?_ ?_
 ·intro m x zs H2 Q' hx hz s2 hk
  rcases q:a4.2 m x hx with⟨l,el,a,rfl,ha⟩
  obtain⟨z1,rfl⟩:=ZR hz
  dsimp only[zM]
  exact⟨rfl,01,a,b,l,t,rfl,s2 _ _ ha,s2 _ _ hb,c2 l (wm el),zt,hk _ _ (zk.refl _) ⟨_,by rw[we,el];rfl,rfl⟩⟩
 intro ys H1 s1 hy b1 a5
 dsimp only[zM]
 refine⟨zL0,λG hG=>?_⟩
 dsimp only[zM]
 have S2:zk H1 (upd H1 G (.lst [])):=zk.upd hG
 have d3:ys.length<=8:=by rw[b1,a4.1];exact hl
 have a9:(j.map λl=>xu l t).length=ys.length:=by rw[wk,b1,a4.1]
 obtain⟨ss,U⟩:∃ss,ss=j.map λl=>xu l t:=⟨_,rfl⟩
 rw[<-U]at a5 a9
 refine⟨00,Da,ys,rL,S2 _ _ hy,VD (xs:=ys) (λi σ H'=>zk H1 H'/\(∃S,H' G=some (.lst S)/\S.length<=i/\vD H' S (rlG ss (fP j lo hi t) i))/\∃(z5 z6 z7:Bh),σ=[Sr c,Sr b,Sr Da,Sr G,some (.int (stG ss i:Nat)),z5,z6,z7])
  ⟨S2,⟨[],zi,wq _,rfl,λi v e=>by simp at e⟩,_,_,_,rfl⟩ (λi σ H' ⟨s',_⟩=>.of (s' _ _ hy)) ?_ ?_⟩
 ·rintro i x σ H' T' hx ⟨s',⟨S,a6,d5,a7⟩,z5,z6,z7,rfl⟩ b8
  obtain⟨z,ez,rfl⟩:=a5 i x hx
  have Y:zk H' (upd H' T' (.tup [.int i,.int z])):=zk.upd b8
  have b6:upd H' T' (.tup [.int i,.int z]) T'=some (.tup [.int i,.int z]):=zi
  have I:=Y _ _ a6
  have O:=a7.keeps (.of Y)
  replace Y:=s'.trans Y
  generalize upd H' T' (.tup [.int i,.int z])=G2 at Y b6 I O
  have sG:zk H G2:=s1.trans Y
  refine⟨T',00,.of b6,rL,021,022,?_⟩
  have d4:i<ys.length:=(wn.mp hx).1
  have d2:=xU ss i
  refine Vk (λH'=>H'=G2) (brk ss i) (λQ' q=>?_) (λa1 H3 e3=>?_) (λa1 H3 e3=>?_)
  ·refine⟨00,022,00,Da,ys,rL,.inl (.of (Y _ _ hy)),rL,00,qp (λh0=>?_) (λh0=>?_)⟩
   ·have e0:i+1=ss.length:=by
     have:=wF h0
     injection this with this
     lia
    have:brk ss i=true:=by unfold brk;rw[wo e0];rfl
    rw[this]at q
    exact q _ rL
   ·have b5:i+1<ys.length:=by
     have:¬((i:Int)+1=ys.length):=λz=>h0 (wo (show V.int ((i:Int)+1)=V.int (ys.length:Int) by rw[z]))
     lia
    obtain⟨z',c7,c4⟩:=a5 (i+1) ys[i+1] (by simp[b5])
    have ha:atI ys ((i:Int)+1)=some (.int z'):=by
     have:=zgs (xs:=ys) (n:=i+1) (v:=ys[i+1]) (by simp[b5])
     rw[c4]at this
     rw[<-this];rfl
    refine⟨01,022,Da,032,.of (Y _ _ hy),ha,00,rL,00,?_⟩
    have:(!decide (V.int z'=V.int z))=brk ss i:=by
     unfold brk
     rw[wG (by lia:¬i+1=ss.length),Wn,ez,c7]
     by_cases c:z'=z
     ·rw[c];simp
     ·have c1:¬V.int z'=V.int z:=λy=>c (by injection y)
      rw[wG c1];simp[c]
    rw[this]
    exact q _ rL
  ·subst e3
   have a2:stG ss (i+1)=i+1:=if_pos a1
   have a3:rlG ss (fP j lo hi t) (i+1)=rlG ss (fP j lo hi t) i++(fP j lo hi t (stG ss i) i).toList:=if_pos a1
   have c6:i<j.length:=by rw[U,wk]at a9;lia
   refine⟨04,c,b,pb,sb,tk,ws,j,lo,hi,z,t,rL,CO.same sG,sG _ _ hb,zt,c8,c5,zL3,λgp d1=>?_⟩
   have s5:zk H3 (upd H3 gp (.tup [.int (stG ss i:Nat),.int i,.str (ql lo hi t z)])):=zk.upd d1
   have h5:upd H3 gp (.tup [.int (stG ss i:Nat),.int i,.str (ql lo hi t z)]) gp=some (.tup [.int (stG ss i:Nat),.int i,.str (ql lo hi t z)]):=zi
   generalize upd H3 gp (.tup [.int (stG ss i:Nat),.int i,.str (ql lo hi t z)])=G5 at s5 h5
   have b7:fP j lo hi t (stG ss i) i=if stG ss i<i\/0<cwN j (xl (ql lo hi t z) lo hi) (stG ss i) i then some (stG ss i,i,ql lo hi t z)else none:=by
    unfold fP
    rw[<-U,ez];rfl
   dsimp only[zM]
   refine VF (λH'=>zk G5 H') (decide (stG ss i<i\/0<cwN j (xl (ql lo hi t z) lo hi) (stG ss i) i)) (λQ' q=>?_) (λa8 H6 s6=>?_) (λa8 H6 s6=>?_)
   ·refine⟨01,022,00,qp (λh1=>?_) (λh1=>?_)⟩
    ·have b0:stG ss i<i:=by have:=wF h1;lia
     rw[wo (Or.inl b0)]at q
     exact q _ (zk.refl _)
    ·have b0:¬stG ss i<i:=λz=>h1 (wo ∅)
     refine⟨01,c,gp,pb,sb,tk,ws,j,lo,hi,stG ss i,i,00,CO.same (sG.trans s5),hl,d2,c6,h5,λH6 s6=>⟨022,00,?_⟩⟩
     have:decide ((0:Int)<((cwN j (xl (ql lo hi t z) lo hi) (stG ss i) i:Nat):Int))=decide (stG ss i<i\/0<cwN j (xl (ql lo hi t z) lo hi) (stG ss i) i):=by
      rw[yH,wP,wP]
      constructor
      ·intro y;exact .inr ∅
      ·rintro (y | y)
       ·exact absurd y b0
       ·lia
     rw[this]
     exact q _ s6
   ·have S6:=Y.trans (s5.trans s6)
    have W:=(s5.trans s6) _ _ I
    refine⟨00,.inl ⟨rL,S,.of W⟩,00,G,S,00,rL,W,vp ∅,?_⟩
    have b3:zX H6 (upd H6 G (.lst (S++[.ref gp]))):=.upd W
    refine⟨00,022,⟨λb' o' e'=>?_,⟨S++[.ref gp],zi,by simp;lia,?_⟩,some (.int i),some (.int z),some (.ref gp),?_⟩⟩
    ·rw[zK (zN e' hG)];exact S6 _ _ e'
    ·rw[a3,b7,if_pos (wF a8)]
     exact(((O.keeps (.of s5)).keeps (.of s6)).keeps b3).snoc ⟨gp,rL,b3 _ _ (s6 _ _ h5)⟩
    ·rw[a2];rfl
   ·have S6:=Y.trans (s5.trans s6)
    refine⟨00,022,⟨S6,⟨S,(s5.trans s6) _ _ I,by lia,?_⟩,some (.int i),some (.int z),some (.ref gp),?_⟩⟩
    ·rw[a3,b7,if_neg (of_decide_eq_false a8)]
     show vD H6 S (_++[])
     rw[yz]
     exact(O.keeps (.of s5)).keeps (.of s6)
    ·rw[a2];rfl
  ·subst e3
   have a2:stG ss (i+1)=stG ss i:=if_neg (by rw[a1];simp)
   have a3:rlG ss (fP j lo hi t) (i+1)=rlG ss (fP j lo hi t) i:=if_neg (by rw[a1];simp)
   exact⟨Y,⟨S,I,by lia,by rw[a3];exact O⟩,some (.int i),some (.int z),z7,by rw[a2];rfl⟩
 ·rintro σ H' b9;rcases q:b9 with⟨s',⟨S,a6,_,a7⟩,z5,z6,z7,rfl⟩
  refine⟨00,k G S H' (s1.trans s') (s1.free hG) a6 ?_⟩
  unfold grP
  rw[<-U]
  have:ys.length=j.length:=by rw[<-a9,U,wk]
  rw[<-this];exact a7
end KQ
namespace L2
open PySem PySem.Spec PyProof.Rows
structure DfC (K:Fg) (mg:Aa) (x:Str) (st:Stmt) (ps:Ad) (c P:Addr):Prop where
 ex:∃(f:Addr) (oc:Value) (od:Option Addr) (dV kV doc pm:Value) (an:Option Addr) (ct:Value) (osl:Array (Option Value)),
  K.lookup f=some ⟨oc,od,.func (PySem.W.fnOf x x (xC st) (xj st) (zr st) dV kV doc pm an (.ref c) ct),osl⟩/\PySem.W.codeIn K (.ref c) x=true/\PySem.W.keepIn K (.ref f)=true/\mg x=some (.ref f) ∧
  vI K (PySem.W.fnOf x x (xC st) (xj st) (zr st) dV kV doc pm an (.ref c) ct) ps []
 hd:PySem.W.codeHdIn K c P=true
def DfC.calB {P:Program}{w:World}{K:Fg}{mg:Aa}{base:Heap}{c Tb:Addr}{x:Str}{st:Stmt}{N ps:Ad}{k:Nat}{sp:Sp}(D:DfC K mg x st ps c Tb) (S:zF N ps (zr st)) (F:∀vs H Q E,sp vs H Q E->vs.length=ps.length)
  (j:∀(f:Addr) (A:Around) (outer:Aj) (s:Shared) (H:Hp) (vs:Ba) (Q:VK) (E:XK),xf k (A.deeper (envOfC x (zr st) s.heap.objs.size f (.ref c)))->sp vs H Q E →
   ∃t,Bx (PSs (xi CX0 P w K mg base N x (zr st) f (.ref c) A outer s H E).nox (xj st) t)/\t { nx:=λ_ H'=>Q .non H',rt:=Q } (qJ N vs) H):⇑3 x (k+1) ps [] sp:=by
 obtain⟨f,oc,od,dV,kV,a1,pm,an,ct,Y,U,I,O,hm,hb⟩:=D.ex
 refine⟨⟨f,_,[],zcv U I S F λA outer s H vs Q E hr G=>?_,hm,O,hb,.nil⟩⟩
 obtain⟨t,⟨h⟩,q⟩:=j f A outer s H vs Q E hr G
 exact⟨t,h.nox,q⟩
end L2
namespace KQ
open PySem L2 KM KK
def xr {t u:TS}{D:vq}{σ:St}{H:Hp}(R:St->Hp->Prop) (h2:∀j H',R j H'->u D j H') (h1:∀nx:St->Hp->Prop,(∀j H',R j H'->nx j H')->t { D with nx:=nx } σ H):Jo t u D σ H:=h1 (u D) h2
def ZM (wl:Bc) (t:Int×Int):Int×Int:=match wl with
 |none=>t
 |some w=>(2*w.1-t.1,2*w.2-t.2)
def Chg (S:List Addr) (H H':Hp):Prop:=∀b o,b∉S->H b=some o->H' b=some o
def CoT (H:Hp) (C c tl:Addr) (pb sb:Int) (tk:Rat) (ws:Ak) (trs:Bb) (lo hi:Bc):Prop:=∃dx fs tv,H c=some (.ins C dx fs)/\CoF H fs pb sb tk ws trs lo hi/\fs.lookup ("tracks":Str)=some (V.ref tl)/\H tl=some (.lst tv)/\qr H tv trs
abbrev laS:Scope:=match (xj Zs).getD 2 (.Pass ⟨0,0,0,0⟩)with
 |.Assign _ (.Call _ _ [⟨_,.Lambda _ _ sc _,_⟩] _) _=>sc
 |_=>zr Zs
abbrev laP:PySem.Pos:=match (xj Zs).getD 2 (.Pass ⟨0,0,0,0⟩)with
 |.Assign _ (.Call _ _ [⟨_,.Lambda _ _ _ p,_⟩] _) _=>p
 |_=>⟨0,0,0,0⟩
abbrev laQ:Str:=(("deal":Str)++(".<locals>.":Str))++("<lambda>":Str)
def zl5:zF ["track"] ["track"] laS:=scq
def qr.cut {H:Hp}{tv:Ba}{j:Bb} (h:qr H tv j) (lo hi:Option Int):qr H (qB tv lo hi) (qZ j lo hi):=by
 have e:qB tv lo hi=(tv.drop (HT.sIx j.length 0 lo)).take (HT.sIx j.length j.length hi-HT.sIx j.length 0 lo):=by
  unfold qB;rw[h.1]
 rw[e];unfold qZ
 refine⟨by simp only[wU,wV,h.1],λi v F=>?_⟩
 rw[yS]at F ⊢
 split at F
 ·rw[if_pos ‹_›]
  rw[yk]at F ⊢
  exact h.2 _ v F
 ·cases F
def qr.map {H:Hp}{tv:Ba}{j:Bb}{f:Int×Int->Int×Int}(F:tv.length=j.length) (h:∀(i:Nat) (v:V),tv[i]?=some v->∃t,j[i]?=some t/\vX H v (some (f t))):qr H tv (j.map f) :=
 ⟨by rw[wk];exact F,λi v e=>by obtain⟨t,e1,e2⟩:=h i v e;exact⟨f t,by rw[we,e1];rfl,e2⟩⟩
def za9 {α β:Type}{f:α->β}{ps qs:List β}(p:ps.Perm qs):∀{l:List α},qs=l.map f->∃j:List α,j.Perm l/\ps=j.map f:=by
 induction p with
 |nil=>intro l e;cases l with
  |nil=>exact⟨[],.refl _,rfl⟩
  |cons x l=>cases e
 |cons x p ih=>intro l e;cases l with
  |nil=>cases e
  |cons y l =>
   rw[yw]at e;injection e with e1 e2
   obtain⟨j,h1,h2⟩:=ih e2
   exact⟨y::j,h1.cons _,by rw[yw,h2,e1]⟩
 |swap x y l0=>intro l e;cases l with
  |nil=>cases e
  |cons a l=>cases l with
   |nil=>rw[yw]at e;injection e with _ e2;cases e2
   |cons b l =>
    rw[yw,yw]at e;injection e with e1 e2;injection e2 with e2 I
    exact⟨b::a::l,List.Perm.swap ..,by rw[yw,yw,e1,e2,I]⟩
 |trans p1 p2 ih1 ih2 =>
  intro l e
  obtain⟨S,h1,h2⟩:=ih2 e
  obtain⟨G,F,O⟩:=ih1 h2
  exact⟨G,F.trans h1,O⟩
def zd9 {H:Hp}{tv ys:Ba}{ts:Bb} (h:qr H tv ts) (s:zei (ts.map Prod.snd) tv ys):∃j,qr H ys j/\j.Perm ts/\j.Pairwise λx y=>x.2<=y.2:=by
 obtain⟨ps,U,rfl,hw⟩:=s
 have e:(ts.map Prod.snd).zip tv=(ts.zip tv).map λz=>(z.1.2,z.2):=by rw[List.zip_map_left];rfl
 obtain⟨zs,hz,rfl⟩:=za9 U e
 have W:∀z∈zs,vX H z.2 (some z.1):=λz Y=>by
  have O:=hz.mem_iff.mp Y
  obtain⟨i,hi,F⟩:=List.getElem_of_mem O
  have S:i<ts.length:=by rw[uA]at hi;omega
  have I:i<tv.length:=by rw[uA]at hi;omega
  obtain⟨t,e1,e2⟩:=h.2 i tv[i] (wj I)
  rw[wj S]at e1;cases e1
  rw[<-F,List.getElem_zip];exact e2
 refine⟨zs.map Prod.fst,⟨by simp,λi v G=>?_⟩,?_,?_⟩
 ·rw[wW,we]at G
  cases F:zs[i]? with
  |none=>rw[F]at G;cases G
  |some z =>
   rw[F]at G;cases G
   exact⟨z.1,by rw[we,F];rfl,W z (wm F)⟩
 ·have:=hz.map Prod.fst
  rwa [List.map_fst_zip (by rw[h.1];exact wq _)]at this
 ·rw[yi]at hw ⊢
  exact hw
def qr.app {H:Hp}{tv j:Ba}{ts us:Bb} (h:qr H tv ts) (k:qr H j us):qr H (tv++j) (ts++us):=by
 refine⟨by simp[h.1,k.1],λi v e=>?_⟩
 by_cases hi:i<tv.length
 ·rw[wE hi]at e
  rw[wE (by rw[<-h.1];exact hi)]
  exact h.2 i v e
 ·rw[wB ∅]at e
  rw[wB (by rw[<-h.1];lia),<-h.1]
  exact k.2 _ v e
def qr.take {H:Hp}{tv:Ba}{ts:Bb} (h:qr H tv ts) (n:Nat):qr H (tv.take n) (ts.take n):=by
 refine⟨by simp[h.1],λi v e=>?_⟩
 rw[yS]at e ⊢
 split at e
 ·rw[if_pos ‹_›];exact h.2 i v e
 ·cases e
def qr.drop {H:Hp}{tv:Ba}{ts:Bb} (h:qr H tv ts) (n:Nat):qr H (tv.drop n) (ts.drop n):=by
 refine⟨by simp[h.1],λi v e=>?_⟩
 rw[yk]at e ⊢
 exact h.2 _ v e
def zd2:(ZM none)=id:=rfl
variable {P:Program}{w:World}{K:Fg}{mg:Aa}{base:Heap}
inductive zke (C:Addr) (Tb:Addr) (vs:Ba)(H:Hp)(Q:VK)(_e3:XK):Prop
 |mk:∀c tl a b wv pb sb tk ws trs lo hi wl,(vs=[V.ref c,.int (a:Nat),.int (b:Nat),wv])->(CoT H C c tl pb sb tk ws trs lo hi)->(vX H wv wl)->(a<=b)->(b<trs.length)->(trs.length<=8)->((∀t∈trs,BdP 4600 t))->((∀l,wl=some l->BdP 4600 l))->(va Tb laQ laP H)->(∀H' seg,Chg [Tb,tl] H H'->va Tb laQ laP H'->seg.Perm ((qZ trs (some (a:Int)) (some ((b:Int)+1))).map (ZM wl))->seg.Pairwise (λx y=>x.2<=y.2)->CoT H' C c tl pb sb tk ws (trs.take a++seg++trs.drop (b+1)) lo hi->Q .non H')->zke C Tb vs H Q _e3
theorem zfB:zF ["course","first","last","wall","tracks"] ["course","first","last","wall"] (zr Zs):=scq
theorem zlq {C cd Tb:Addr}(D:DfC K mg "deal" Zs ["course","first","last","wall"] cd Tb) (TC:TCo K C) (d6:mg "sorted" = none) (hB:base.BuiltinsAt mg Tb):⇑3 "deal" 4 ["course","first","last","wall"] [] (zke C Tb):=by
 refine D.calB (k:=3) zfB (λvs H Q E h=>by obtain⟨_,_,_,_,_,_,_,_,_,_,_,_,_,rfl,_⟩:=h;rfl) (λf A outer s H vs Q E hr h=>?_)
 rcases q:h with⟨c,tl,a,b,wv,pb,sb,tk,ws,U,lo,hi,wl,rfl,⟨dx,fs,tv,hc,F,elt,O,W⟩,c7,e3,e6,d2,zt,zw,T0,k⟩
 refine⟨_,(zE (Bx.mk (psl (i:=4) zfB.nd (x6 ZG (xx (pv 0) rL) (xH (pv 1)) (xH (zD xc (pv 2) zg)))))
  (zE (Bx.mk (zZ (zI xQ (pv 3) zV (zJ _)) (zj (vo (i:=4) (NB:=["start","speed"]) (FR:=["wall"]) (js:=[3]) rfl rfl (λ_ _ h=>h) (.cons rfl rfl rfl ⟨_,rfl⟩ .nil) rfl ⇑0 rfl ⇑0 zfB.nd rfl rfl ⇑2 (xM (pv 4)) (by intro _ _ _;refine⟨?_,?_,?_⟩;(exact(vN (K:=K) (n:=2) rfl rfl (zP (pgl (i:=0) (show List.Nodup (["start","speed","wall"]:Ad) by decide +kernel)) (zP (pgl (i:=1) (show List.Nodup (["start","speed","wall"]:Ad) by decide +kernel)) xw))));(exact xI);(exact(xa %[zD xS (zD zR zg (xb (qH (K:=K) rfl) (pv 2) zg (λ_ _=>rfl))) (pv 0),zD xS (zD zR zg (xb (qH (K:=K) rfl) (pv 2) zg (λ_ _=>rfl))) (pv 1)|0]))))) zQ))
  (Bx.mk (zj (qf (zfl rfl rfl D.hd rfl rfl hB rfl hr zl5 (λ_ _ _ _=>rfl) rfl d6 %[4|0] (λ_ _ _ _=>xb (qH (K:=K) rfl) (pv 0) zg (λ_ _=>rfl))) (zfm (xx (pv 0) rfl) (xH (pv 1)) (xH (zD xc (pv 2) zg)))))))),?_⟩
 try dsimp only[xi,Cx.nox]
 refine⟨00,c,C,dx,021,hc,TC.cls,TC.tracks,elt,?_⟩
 refine⟨02,022,00,tl,tv,rL,.of O,λq1 c8=>?_⟩
 have s1:=zk.upd (o:=.lst (qB tv (some (a:Int)) (some ((b:Int)+1)))) c8
 have S:upd H q1 (.lst (qB tv (some (a:Int)) (some ((b:Int)+1)))) q1=some (.lst (qB tv (some (a:Int)) (some ((b:Int)+1)))):=zi
 generalize upd H q1 (.lst (qB tv (some (a:Int)) (some ((b:Int)+1))))=G1 at s1 S
 have j:=(W.cut (some (a:Int)) (some ((b:Int)+1)))
 have c3:(qB tv (some (a:Int)) (some ((b:Int)+1))).length<=8:=wY (vZ _ _ _) (by rw[W.1];exact d2)
 dsimp only[zM]
 refine xr (λσ' G=>∃q2 a1,σ'=[Sr c,some (.int (a:Int)),some (.int (b:Int)),some wv,Sr q2]/\zk H G/\H q2=none/\G q2=some (.lst a1)/\qr G a1 ((qZ U (some (a:Int)) (some ((b:Int)+1))).map (ZM wl))) ?_ ?_
 rotate_left
 ·intro nx b5
  cases wl with
  |none =>
   obtain rfl:wv=.non:=c7
   exact⟨00,rfl,00,xm (b5 _ _ ⟨q1,00,s1,c8,S,by rw[zd2,List.map_id];exact j.keeps (.of s1)⟩)⟩
  |some w0 =>
   obtain⟨aw,rfl,d8⟩:=c7
   have c5:=zw w0 rfl
   refine⟨00,rL,00,xp ?_⟩
   refine⟨00,q1,rL,⟨_,SqL.of S⟩,λDc b2=>?_⟩
   refine xR (js:=[3]) (J:=Itl K q1) (g:=Xt K 2 (xL (zM 0) (xL (zM 1) Qa))) (te:=_) (n:=2) (xs:=qB tv (some (a:Int)) (some ((b:Int)+1))) (λi v G=>∃t,(qZ U (some (a:Int)) (some ((b:Int)+1)))[i]?=some t/\vX G v (some (ZM (some w0) t))) (λi v G G' e ⟨t,h1,h2⟩=>⟨t,h1,h2.keeps e⟩) b2 (xZ S) (xn ∅) ?_ ?_
   ·intro i x zs H2 Q' hx hz s2 hk
    obtain⟨z1,z2,rfl⟩:=zlc hz
    rcases q:(j.keeps (.of (s1.trans s2))).2 i x hx with⟨t,et,a5,rfl,a9⟩
    have b0:=s2 _ _ (s1 _ _ d8)
    refine⟨a5,00,.of a9,rL,021,023,?_⟩
    refine⟨00,aw,032,.of b0,rfl,022,⟨Bd.mono (m:=3) (show (2:Int).natAbs<2^3 by decide) ⇑1,c5.1.md⟩,00,022,?_⟩
    refine⟨00,aw,032,.of b0,rfl,022,⟨Bd.mono (m:=3) (show (2:Int).natAbs<2^3 by decide) ⇑1,c5.2.md⟩,00,022,?_⟩
    refine⟨⇑5,λtp d5=>hk _ _ (zk.upd d5) ⟨t,et,tp,rL,zi⟩⟩
   ·intro ys G2 s2 d7 d9 d1
    refine b5 _ _ ⟨Dc,ys,rfl,s1.trans s2,?_,d7,qr.map (by rw[d9];exact j.1) d1⟩
    cases e:H Dc with
    |none=>rfl
    |some o=>rw[s1 _ _ e]at b2;cases b2
 rintro σ' G2 d0;rcases q:d0 with⟨q2,a1,rfl,S2,e7,c0,a8⟩
 have T2:=T0.same S2
 obtain⟨e4,c2,_⟩:=id T2
 have a6:∀{b:Addr}{o:HO},G2 b=some o->(∀ps,o≠.tbl ps)->b≠Tb:=λ{b o} e n z=>by rw[z,c2]at e;cases e;exact n _ rfl
 refine⟨00,q2,a1,((qZ U (some (a:Int)) (some ((b:Int)+1))).map (ZM wl)).map Prod.snd,rfl,c0,T2,by rw[wk];exact a8.1.symm,?_,λi v kk ev ek H2 st=>?_,λDn ys H2 st T3 c1 hK=>?_⟩
 ·have:=a8.1
  rw[wk]at this
  have:a1.length<=8:=by rw[this,<-j.1];exact c3
  lia
 ·rcases q:a8.2 i v ev with⟨t,et,a5,rfl,a9⟩
  rw[we,et]at ek
  cases ek
  have h2:=st _ _ a9 (a6 a9 (λ_ z=>by cases z))
  exact⟨00,a5,032,.of h2,rL,rL,rL⟩
 have S3:zk H2 (upd H2 Dn (.lst ys)):=zk.upd c1
 have CH:Chg [Tb] H (upd H2 Dn (.lst ys)):=λb o nb e=>S3 _ _ (st b o (S2 b o e) ↥nb)
 have a4:∀{b:Addr}{o:HO},H b=some o->(∀ps,o≠.tbl ps)->b∉[Tb]:=λ{b o} e n z=>a6 (S2 _ _ e) n ↥z
 have b6:=CH c _ (a4 hc (λ_ z=>by cases z)) hc
 have I:=CH tl _ (a4 O (λ_ z=>by cases z)) O
 have c4:upd H2 Dn (.lst ys) Dn=some (.lst ys):=zi
 have b7:tl≠Dn:=λz=>by
  have:=st tl _ (S2 _ _ O) (a6 (S2 _ _ O) (λ_ z=>by cases z))
  rw[z,c1]at this;cases this
 have T4:=T3.same S3
 have b9:zX H (upd H2 Dn (.lst ys)):=λb xs e=>CH b _ (a4 e (λ_ z=>by cases z)) e
 have b8:zX G2 (upd H2 Dn (.lst ys)):=λb xs e=>S3 _ _ (st b _ e (a6 e (λ_ z=>by cases z)))
 obtain⟨c9,a2,Y,d4⟩:=zd9 (a8.keeps b8) hK
 generalize upd H2 Dn (.lst ys)=G3 at CH b6 I c4 T4 b9 b8 a2
 have e5:ys.length<=8:=by
  have e1:=a2.1
  have e2:=Y.length_eq
  rw[wk]at e2
  rw[e1,e2,<-j.1];exact c3
 have e0:tv.length=U.length:=W.1
 refine⟨00,c,C,dx,021,b6,TC.cls,TC.tracks,elt,02,022,00,tl,Dn,tv,ys,(a:Int),((b:Int)+1),rfl,rfl,rfl,rfl,I,c4,b7,by lia,by lia,by lia,szl ∅,?_⟩
 have a7:Chg [tl] G3 (upd G3 tl (.lst (tv.take ((a:Int)).toNat++ys++tv.drop ((b:Int)+1).toNat))):=λb o nb e=>by rw[zK ↥nb];exact e
 have hE:upd G3 tl (.lst (tv.take ((a:Int)).toNat++ys++tv.drop ((b:Int)+1).toNat)) tl=some (.lst (tv.take a++ys++tv.drop (b+1))):=zi
 have b3:zX G3 (upd G3 tl (.lst (tv.take ((a:Int)).toNat++ys++tv.drop ((b:Int)+1).toNat))):=.upd I
 generalize upd G3 tl (.lst (tv.take ((a:Int)).toNat++ys++tv.drop ((b:Int)+1).toNat))=G4 at a7 hE b3
 have a3:zX H G4:=b9.trans b3
 have b1:Chg [Tb,tl] H G4:=λb o nb e=>a7 b o (λz=>nb (by simp at z;simp[z])) (CH b o (λz=>nb (by simp at z;simp[z])) e)
 have d3:∀{b:Addr}{o:HO},H b=some o->(∀xs,o≠.lst xs)->(∀ps,o≠.tbl ps)->b∉[Tb,tl]:=λ{b o} e n1 n2 z=>by
  rcases wy.mp z with z | z
  ·exact a4 e n2 (by simp[z])
  ·have:b=tl:=↥z
   rw[this,O]at e;cases e;exact n1 _ rfl
 refine k G4 c9 b1 ?_ Y d4 ?_
 ·obtain⟨ps,g1,g2,g3⟩:=T4
  have nT:Tb∉[tl]:=λz=>by
   have:Tb=tl:=↥z
   rw[this,I]at g1;cases g1
  refine⟨ps,a7 _ _ nT g1,g2,?_⟩
  rcases g3 with g3 | ⟨c',g3,g4⟩
  ·exact .inl g3
  ·exact .inr ⟨c',g3,a7 _ _ (λz=>by
    have:c'=tl:=↥z
    rw[this,I]at g4;cases g4) g4⟩
 ·obtain⟨tp,f1,f2⟩:=F.tick
  obtain⟨b4,f3,f4⟩:=F.weights
  obtain⟨v1,f5,f6⟩:=F.low
  obtain⟨v2,f7,f8⟩:=F.high
  have c6:qr G4 (tv.take a++ys++tv.drop (b+1)) (U.take a++c9++U.drop (b+1)):=(((W.keeps a3).take a).app (a2.keeps b3)).app ((W.keeps a3).drop (b+1))
  refine⟨dx,fs,_,b1 c _ (d3 hc (λ_ z=>by cases z) (λ_ z=>by cases z)) hc,⟨F.pb,F.sb,⟨tp,f1,a3 _ _ f2⟩,⟨b4,f3,?_⟩,⟨tl,_,elt,hE,c6⟩,⟨v1,f5,f6.keeps a3⟩,⟨v2,f7,f8.keeps a3⟩,F.len⟩,elt,hE,c6⟩
  refine b1 b4 _ (λz=>?_) f4
  rcases wy.mp z with z | z
  ·exact a4 f4 (λ_ z=>by cases z) (by simp[z])
  ·have z:b4=tl:=↥z
   rw[z,O]at f4
   have ev:tv=ws.map V.int:=by injection f4 with f4;injection f4
   have h0:0<tv.length:=by lia
   rcases q:W.2 0 tv[0] (wj h0) with⟨t,_,a5,e1,_⟩
   have:tv[0]∈ws.map V.int:=by rw[<-ev];exact List.getElem_mem h0
   obtain⟨n,_,en⟩:=wx.mp this
   rw[e1]at en;cases en
end KQ
namespace L2
open PySem PySem.Spec PyProof.Rows
section
variable {X:Cx}
theorem zcy:zkO X .Mult (rI Vr λi j=>.int (i*j)):=by
 rintro pz s σ H x y u v Q I S O ⟨i,j,rfl,rfl,G,q⟩
 obtain⟨t,rfl⟩:=(show ∃t,u=Value.int i t from S)
 obtain⟨F,rfl⟩:=(show ∃F,v=Value.int j F from O)
 exact PyProof.Rows.imul_int ⟨.int (i*j),H,I.tok _,⟨_,rL⟩,q⟩ (IntMulOk.of_le G.1.bits G.2.bits ⇑1)
theorem vf {f:Str}{v x:V}:∀{fs:Bf},fs.lookup f=some x->(qg f v fs).length=fs.length
 |[],h=>by cases h
 | (g,y)::r,h=>by
  unfold qg
  by_cases e:g=f
  ·rw[if_pos e];rfl
  ·rw[if_neg e]
   have:(f == g)=false:=beq_eq_false_iff_ne.mpr (λz=>e z.symm)
   rw[List.lookup_cons,this]at h
   rw[wJ,wJ,vf h]
end
end L2
namespace KQ
open PySem L2 KM KK
def scT (m:Int) (t:Int×Int):Int×Int:=(t.1*m,t.2*m)
variable {P:Program}{w:World}{K:Fg}{mg:Aa}{base:Heap}
inductive zks (vs:Ba)(H:Hp)(Q:VK)(_e3:XK):Prop
 |mk:∀v m o,(vs=[v,.int m])->(vX H v o)->(Bd 5000 m)->((∀t,o=some t->BdP 5000 t))->(∀v' H',zk H H'->vX H' v' (o.map (scT m))->Q v' H')->zks vs H Q _e3
theorem zma:zF ["track","many"] ["track","many"] (zr QO):=scq
theorem zlH (D:Df K mg "refined" QO ["track","many"] []):⇑3 "refined" 1 ["track","many"] [] zks:=by
 rcases r:D.calq (k:=0) zma with⟨v,m,o,rfl,I,F,O,k⟩
 refine⟨_,(zA (zZ (zI qy (pv 0) zV (zJ _)) (zj (zG zV)) zQ)
  (zj (zG (xa %[zD zR (pxt (pv 0)) (pv 1),zD zR (pxt (pv 0)) (pv 1)|0])))),?_⟩
 try dsimp only[xi,Cx.nox]
 cases o with
 |none =>
  obtain rfl:v=.non:=I
  exact⟨00,rL,00,xp (k _ _ (zk.refl _) rL)⟩
 |some t =>
  obtain⟨a,rfl,G⟩:=I
  have z:=O t rfl
  refine⟨00,rL,00,xm ?_⟩
  refine⟨00,a,032,.of G,rL,00,022,⟨z.1.md,F.md⟩,00,a,032,.of G,rL,00,022,⟨z.2.md,F.md⟩,⇑5,λS j=>?_⟩
  exact k _ _ (zk.upd j) ⟨S,rL,zi⟩
inductive zkr (C:Addr) (vs:Ba)(H:Hp)(Q:VK)(_e3:XK):Prop
 |mk:∀c tl m pb sb tk ws trs lo hi,(vs=[V.ref c,.int m])->(CoT H C c tl pb sb tk ws trs lo hi)->(trs.length<=8)->(Bd 5000 m)->(Bd 5000 pb)->(Bd 5000 sb)->((∀t∈trs,BdP 5000 t))->((∀l,lo=some l->BdP 5000 l))->((∀l,hi=some l->BdP 5000 l))->(∀H' tl',xq c H H'->H tl'=none->CoT H' C c tl' (pb*m) (sb*m) tk ws (trs.map (scT m)) (lo.map (scT m)) (hi.map (scT m))->Q .non H')->zkr C vs H Q _e3
theorem zl9:zF ["course","many"] ["course","many"] (zr VZ):=scq
theorem zlG {C:Addr}(D:Df K mg "refine" VZ ["course","many"] []) (j:TCo K C) (a1:⇑3 "refined" 1 ["track","many"] [] zks):⇑3 "refine" 2 ["course","many"] [] (zkr C):=by
 rcases r:D.calBq (k:=1) zl9 with⟨c,tl,m,pb,sb,tk,ws,b6,lo,hi,rfl,⟨dx,fs,tv,W,F,elt,a8,a3⟩,d2,zm,b8,c0,zt,c7,b9,k⟩
 obtain⟨tp,f1,f2⟩:=F.tick
 obtain⟨c9,f3,f4⟩:=F.weights
 obtain⟨v1,f5,f6⟩:=F.low
 obtain⟨v2,f7,f8⟩:=F.high
 have d1:=F.len
 refine⟨_,(zE (Bx.mk (JJ (pv 0) (pv 1) zcy))
  (zE (Bx.mk (JJ (pv 0) (pv 1) zcy))
  (zE (Bx.mk (v8 (pv 0) (Zj (NB:=["track"]) (FR:=["many"]) (js:=[1]) rfl rfl (λ_ _ h=>h) (.cons rfl rfl rfl ⟨_,rfl⟩ .nil) rfl ⇑0 rfl ⇑0 (xM (xx (pv 0) rfl)) (by intro _ _ _;refine⟨?_,?_,?_⟩;(exact(pgl (i:=0) (show List.Nodup (["track","many"]:Ad) by decide +kernel)));(exact xI);(exact(zH a1 hr %[0,1|0])))) rfl))
  (zE (Bx.mk (v8 (pv 0) (zH a1 hr %[xx (pv 0) rfl,1|0]) rfl))
  (Bx.mk (zj (v8 (pv 0) (zH a1 hr %[xx (pv 0) rfl,1|0]) rfl))))))),?_⟩
 try dsimp only[xi,Cx.nox]
 have nc:∀{G:Hp}{dx:Addr}{fs:Bf}{b:Addr}{o:HO},G c=some (.ins C dx fs)->G b=some o->(∀dx fs,o≠.ins C dx fs)->b≠c:=λh1 h2 h3 z=>by subst z;rw[h1]at h2;cases h2;exact h3 _ _ rfl
 refine⟨00,c,C,dx,fs,00,W,j.cls,j.pb,F.pb,00,022,⟨b8.md,zm.md⟩,dx,fs,W,by lia,?_⟩
 have l1:(qg ("place_bottom":Str) (.int (pb*m)) fs).length=fs.length:=vf F.pb
 have e1:∀g:Str,g≠"place_bottom"->(qg ("place_bottom":Str) (.int (pb*m)) fs).lookup g=fs.lookup g:=λg n=>by rw[xE,if_neg n]
 have p1:(qg ("place_bottom":Str) (.int (pb*m)) fs).lookup ("place_bottom":Str)=some (.int (pb*m)):=by rw[xE,if_pos rfl]
 generalize qg ("place_bottom":Str) (.int (pb*m)) fs=fs1 at l1 e1 p1
 have X1:xq c H (upd H c (.ins C dx fs1)):=.upd
 have c1:upd H c (.ins C dx fs1) c=some (.ins C dx fs1):=zi
 generalize upd H c (.ins C dx fs1)=G1 at X1 c1
 refine⟨00,c,C,dx,fs1,00,c1,j.cls,j.sb,(e1 _ ⇑1).trans F.sb,00,022,⟨c0.md,zm.md⟩,dx,fs1,c1,by lia,?_⟩
 have l2:(qg ("speed_bottom":Str) (.int (sb*m)) fs1).length=fs1.length:=vf ((e1 _ ⇑1).trans F.sb)
 have e2:∀g:Str,g≠"speed_bottom"->(qg ("speed_bottom":Str) (.int (sb*m)) fs1).lookup g=fs1.lookup g:=λg n=>by rw[xE,if_neg n]
 have p2:(qg ("speed_bottom":Str) (.int (sb*m)) fs1).lookup ("speed_bottom":Str)=some (.int (sb*m)):=by rw[xE,if_pos rfl]
 generalize qg ("speed_bottom":Str) (.int (sb*m)) fs1=fs2 at l2 e2 p2
 have X2:xq c H (upd G1 c (.ins C dx fs2)):=X1.trans .upd
 have c2:upd G1 c (.ins C dx fs2) c=some (.ins C dx fs2):=zi
 generalize upd G1 c (.ins C dx fs2)=G2 at X2 c2
 have t2:zX H G2:=X2.tup W
 have U:=X2 _ _ (nc W a8 (λ_ _ z=>by cases z)) a8
 nofun
 refine v5 (K:=K) ?_
 refine⟨00,c,C,dx,fs2,00,c2,j.cls,j.tracks,(e2 _ ⇑1).trans ((e1 _ ⇑1).trans elt),tl,rL,⟨_,SqL.of U⟩,λI O=>?_⟩
 refine xR (J:=Itl K tl) (n:=1) (js:=[1]) (g:=zM 0) (te:=_) (xs:=tv) (λi v G=>∃t,b6[i]?=some t/\vX G v (some (scT m t))) (λ_ _ _ _ t ⟨x,h1,h2⟩=>⟨x,h1,h2.keeps t⟩) O (xZ U) (xn (by have:=a3.1;lia)) ?_ ?_
 ·intro i x zs H3 Q' hx hz s3 hk
  obtain⟨z1,rfl⟩:=ZR hz
  obtain⟨t,et,c8⟩:=(a3.keeps (t2.trans (.of s3))).2 i x hx
  dsimp only[zM]
  exact⟨rfl,01,x,m,some t,rfl,c8,zm,λu e=>by cases e;exact zt t (wm et),λv' H' s' h'=>hk _ _ s' ⟨t,et,h'⟩⟩
 intro y3 H3 s3 b2 a7 a4
 refine qK ⇑2 (s3 _ _ c2) j.cls j.tracks ∅ λG3 Y c3=>?_
 have l3:(qg ("tracks":Str) (.ref I) fs2).length=fs2.length:=vf ((e2 _ ⇑1).trans ((e1 _ ⇑1).trans elt))
 have e3:∀g:Str,g≠"tracks"->(qg ("tracks":Str) (.ref I) fs2).lookup g=fs2.lookup g:=λg n=>by rw[xE,if_neg n]
 have p3:(qg ("tracks":Str) (.ref I) fs2).lookup ("tracks":Str)=some (.ref I):=by rw[xE,if_pos rfl]
 generalize qg ("tracks":Str) (.ref I) fs2=fs3 at l3 e3 p3 c3
 have X3:xq c H G3:=X2.trans ((xq.of s3).trans Y)
 have t3:zX H G3:=X3.tup W
 have S:G3 I=some (.lst y3):=Y _ _ (nc (s3 _ _ c2) b2 (λ_ _ z=>by cases z)) b2
 have b4:H I=none:=by
  cases e:H I with
  |none=>rfl
  |some o =>
   by_cases hz:I=c
   ·rw[hz,c2]at O;cases O
   ·rw[X2 _ _ hz e]at O;cases O
 have c6:qr G3 y3 (b6.map (scT m)):=(qr.map (by rw[a7];exact a3.1) a4).keeps (Y.tup (s3 _ _ c2))
 have g5:fs3.lookup ("low":Str)=some v1:=(e3 _ ⇑1).trans ((e2 _ ⇑1).trans ((e1 _ ⇑1).trans f5))
 have g7:fs3.lookup ("high":Str)=some v2:=(e3 _ ⇑1).trans ((e2 _ ⇑1).trans ((e1 _ ⇑1).trans f7))
 refine v5 (K:=K) ?_
 refine zaM ⟨_,rL,c,C,dx,fs3,_,rL,c3,j.cls,j.low,g5,_,rL,v1,m,lo,rL,f6.keeps t3,zm,c7,λlv H4 s4 d0=>?_⟩
 refine qK ⇑2 (s4 _ _ c3) j.cls j.low ∅ λG4 a5 c4=>?_
 have l4:(qg ("low":Str) lv fs3).length=fs3.length:=vf g5
 have e4:∀g:Str,g≠"low"->(qg ("low":Str) lv fs3).lookup g=fs3.lookup g:=λg n=>by rw[xE,if_neg n]
 have p4:(qg ("low":Str) lv fs3).lookup ("low":Str)=some lv:=by rw[xE,if_pos rfl]
 generalize qg ("low":Str) lv fs3=fs4 at l4 e4 p4 c4
 have b3:xq c G3 G4:=(xq.of s4).trans a5
 have X4:xq c H G4:=X3.trans b3
 have t4:zX H G4:=X4.tup W
 have b1:=d0.keeps (a5.tup (s4 _ _ c3))
 have g8:fs4.lookup ("high":Str)=some v2:=(e4 _ ⇑1).trans g7
 refine zcK (K:=K) ?_
 refine zaM ⟨_,rL,c,C,dx,fs4,_,rL,c4,j.cls,j.high,g8,_,rL,v2,m,hi,rL,f8.keeps t4,zm,b9,λhv H5 s5 b7=>?_⟩
 refine qK (rest:=vq.nx) ⇑2 (s5 _ _ c4) j.cls j.high ∅ λG5 b5 c5=>?_
 have l5:(qg ("high":Str) hv fs4).length=fs4.length:=vf g8
 have e5:∀g:Str,g≠"high"->(qg ("high":Str) hv fs4).lookup g=fs4.lookup g:=λg n=>by rw[xE,if_neg n]
 have p5:(qg ("high":Str) hv fs4).lookup ("high":Str)=some hv:=by rw[xE,if_pos rfl]
 generalize qg ("high":Str) hv fs4=fs5 at l5 e5 p5 c5
 have a2:xq c G4 G5:=(xq.of s5).trans b5
 have a9:=b3.trans a2
 have X5:xq c H G5:=X4.trans a2
 have t5:zX H G5:=X5.tup W
 have a6:=a9 _ _ (nc c3 S (λ_ _ z=>by cases z)) S
 have b0:=c6.keeps (a9.tup c3)
 have q3:fs5.lookup ("tracks":Str)=some (.ref I):=(e5 _ ⇑1).trans ((e4 _ ⇑1).trans p3)
 refine k G5 I X5 b4 ⟨dx,fs5,y3,c5,⟨?_,?_,⟨tp,?_,t5 _ _ f2⟩,⟨c9,?_,X5 _ _ (nc W f4 (λ_ _ z=>by cases z)) f4⟩,⟨I,y3,q3,a6,b0⟩,⟨lv,(e5 _ ⇑1).trans p4,b1.keeps (a2.tup c4)⟩,⟨hv,p5,b7.keeps (b5.tup (s5 _ _ c4))⟩,by lia⟩,q3,a6,b0⟩
 ·exact(e5 _ ⇑1).trans ((e4 _ ⇑1).trans ((e3 _ ⇑1).trans ((e2 _ ⇑1).trans p1)))
 ·exact(e5 _ ⇑1).trans ((e4 _ ⇑1).trans ((e3 _ ⇑1).trans p2))
 ·exact(e5 _ ⇑1).trans ((e4 _ ⇑1).trans ((e3 _ ⇑1).trans ((e2 _ ⇑1).trans ((e1 _ ⇑1).trans f1))))
 ·exact(e5 _ ⇑1).trans ((e4 _ ⇑1).trans ((e3 _ ⇑1).trans ((e2 _ ⇑1).trans ((e1 _ ⇑1).trans f3))))
def zkY {α:Type}{xs:List α}{a:Nat}{x y:α}(F:xs[a]?=some x) (j:xs[a+1]?=some y):qZ xs (some (a:Int)) (some ((a:Int)+2))=[x,y]:=by
 have h2:a+1<xs.length:=(wn.mp j).1
 unfold qZ
 rw[show ((a:Int)+2)=((a+2:Nat):Int) by lia,HT.sIx_nat,HT.sIx_nat]
 have e1:min a xs.length=a:=by lia
 have e2:min (a+2) xs.length-min a xs.length=2:=by lia
 rw[e2,e1]
 obtain⟨h1,rfl⟩:=wn.mp F
 obtain⟨_,rfl⟩:=wn.mp j
 rw[yj h1,yj h2]
 rfl
def dvP (l r:Int):Int:=((Int.gcd (l+r) (2*l):Nat):Int)
def mP (l r:Int):Int:=(l+r).fdiv (dvP l r)
def puP (l r:Int):Int:=(2*r).fdiv (dvP l r)
def baP (l r:Int):Int:=(2*l).fdiv (dvP l r)
def ahP (l r:Int):Int:=(l-r).fdiv (dvP l r)
def Xx (l r:Int) (trs:Bb) (a:Nat) (x y:Int×Int):Bb :=
 ((trs.map (scT (mP l r))).set a (ahP l r*x.1+puP l r*y.1,ahP l r*x.2+puP l r*y.2)).set (a+1) (baP l r*x.1-ahP l r*y.1,baP l r*x.2-ahP l r*y.2)
def VC {l r:Int}(j:1<=l) (hr:1<=r):0<dvP l r:=by
 unfold dvP
 have:0<Int.gcd (l+r) (2*l):=yR _ ∅
 lia
def zcs {l r:Int}(G:1<=l) (hr:1<=r) (j:l<=1000) (F:r<=1000):dvP l r<=2000:=by
 unfold dvP
 have h:((Int.gcd (l+r) (2*l):Nat):Int)<=l+r:=Int.le_of_dvd ∅ (yU ..)
 lia
def QZ {t d:Int}(hd:0<d) (h : -2000<=t) (h2:t<=2000):Bd 12 (t.fdiv d):=by
 rw[yp _ ∅]
 have h1:t/d<=2000:=by
  by_cases z:0<=t
  ·have:=Wb d z;lia
  ·have:t/d<0:=Int.ediv_neg_of_neg_of_pos ∅ hd
   lia
 have j : -2000<=t/d:=by
  have : -2000/d<=t/d:=Int.ediv_le_ediv hd h
  have : -2000 ≤ -2000/d:=by
   rw[Int.le_ediv_iff_mul_le hd]
   have:(2000:Int)*1<=2000*d:=Int.mul_le_mul_of_nonneg_left ∅ ⇑1
   lia
  lia
 show (t/d).natAbs<2^12
 lia
def qr.put {H:Hp}{tv:Ba}{ts:Bb}{p:Addr}{t:Int×Int}{a:Nat}(h:qr H tv ts) (j:H p=some (.tup [.int t.1,.int t.2])):qr H (tv.set a (.ref p)) (ts.set a t):=by
 refine⟨by simp[h.1],λi v e=>?_⟩
 rw[WC]at e ⊢
 by_cases hi:a=i
 ·rw[if_pos hi]at e ⊢
  split at e
  ·cases e
   rw[if_pos (by rw[<-h.1];assumption)]
   exact⟨t,rL,p,rL,j⟩
  ·cases e
 ·rw[if_neg hi]at e ⊢
  exact h.2 i v e
def VH {n a:Nat}(h:a<n):ixN n (a:Int)=some a:=by
 unfold ixN
 rw[if_pos ∅,if_pos ∅,yD]
inductive zkn (C:Addr) (vs:Ba)(H:Hp)(Q:VK)(_e3:XK):Prop
 |mk:∀c tl a pb sb tk ws trs lo hi l r x y,(vs=[V.ref c,.int (a:Nat)])->(CoT H C c tl pb sb tk ws trs lo hi)->(trs.length<=8)->(ws[a]?=some l)->(ws[a+1]?=some r)->(1<=l)->(l<=1000)->(1<=r)->(r<=1000)->(trs[a]?=some x)->(trs[a+1]?=some y)->(Bd 5000 pb)->(Bd 5000 sb)->((∀t∈trs,BdP 5000 t))->((∀l,lo=some l->BdP 5000 l))->((∀l,hi=some l->BdP 5000 l))->(∀H' tl',xq c H H'->H tl'=none->CoT H' C c tl' (pb*mP l r) (sb*mP l r) tk ws (Xx l r trs a x y) (lo.map (scT (mP l r))) (hi.map (scT (mP l r)))->Q .non H')->zkn C vs H Q _e3
theorem Qh:zF ["course","first","left","right","one","other","divisor","pull","back","ahead"] ["course","first"] (zr zb5):=scq
theorem zlB {C:Addr}(D:Df K mg "part" zb5 ["course","first"] []) (TC:TCo K C) (cG:⇑3 "greatest_divisor" 1 ["one","other"] [] JR) (f0:⇑3 "refine" 2 ["course","many"] [] (zkr C)):⇑3 "part" 3 ["course","first"] [] (zkn C):=by
 rcases r:D.calBq (k:=2) Qh with⟨c,tl,a,pb,sb,tk,ws,a4,lo,hi,l,r,x,y,rfl,CT,d4,hl,d6,l1,l2,r1,r2,hx,hy,d8,e3,zt,e5,e0,k⟩
 rcases q:id CT with⟨dx,fs,tv,hc,F,elt,b9,W⟩
 obtain⟨c6,f3,f4⟩:=F.weights
 have e6:xf 1 _:=hr.md
 have f6:a+1<a4.length:=(wn.mp hy).1
 refine⟨_,(zE (Bx.mk (qf (x6 ZG (xx (pv 0) rL) (xH (pv 1)) (xH (zD xc (pv 1) zg))) (zcR rL (zP (pgl (i:=2) Qh.nd) (zP (pgl (i:=3) Qh.nd) xw)))))
  (zE (Bx.mk (qf (x6 ZG (xx (pv 0) rfl) (xH (pv 1)) (xH (zD xc (pv 1) zg))) (zcR rfl (zP (pgl (i:=4) Qh.nd) (zP (pgl (i:=5) Qh.nd) xw)))))
  (zE (Bx.mk (psl (i:=6) Qh.nd (zH cG e6 %[zD xc (pv 2) (pv 3),zD zR zg (pv 2)|0])))
  (zE (Bx.mk (qz (zH f0 hr %[0,zD qC (zD xc (pv 2) (pv 3)) (pv 6)|0])))
  (zE (Bx.mk (psl (i:=7) Qh.nd (zD qC (zD zR zg (pv 3)) (pv 6))))
  (zE (Bx.mk (psl (i:=8) Qh.nd (zD qC (zD zR zg (pv 2)) (pv 6))))
  (zE (Bx.mk (psl (i:=9) Qh.nd (zD qC (zD xS (pv 2) (pv 3)) (pv 6))))
  (zE (Bx.mk (qf (xa %[zD xc (zD zR (pv 9) (pxt (pv 4))) (zD zR (pv 7) (pxt (pv 5))),zD xc (zD zR (pv 9) (pxt (pv 4))) (zD zR (pv 7) (pxt (pv 5)))|0]) (Z7 (xx (pv 0) rfl) (pv 1) vB)))
  (Bx.mk (zj (qf (xa %[zD xS (zD zR (pv 8) (pxt (pv 4))) (zD zR (pv 9) (pxt (pv 5))),zD xS (zD zR (pv 8) (pxt (pv 4))) (zD zR (pv 9) (pxt (pv 5)))|0]) (Z7 (xx (pv 0) rfl) (zD xc (pv 1) zg) vB)))))))))))),?_⟩
 try dsimp only[xi,Cx.nox]
 have cw:qB (ws.map V.int) (some (a:Int)) (some ((a:Int)+2))=[.int l,.int r]:=zkY (xs:=ws.map V.int) (by rw[we,hl];rfl) (by rw[we,d6];rfl)
 obtain⟨vx,c9⟩:∃v,tv[a]?=some v:=⟨_,wj (by rw[W.1];lia)⟩
 obtain⟨vy,c4⟩:∃v,tv[a+1]?=some v:=⟨_,wj (by rw[W.1];lia)⟩
 have ct:qB tv (some (a:Int)) (some ((a:Int)+2))=[vx,vy]:=zkY (xs:=tv) c9 c4
 rcases q:W.2 _ _ c9 with⟨x',ex',ax,rfl,c7⟩
 rcases q:W.2 _ _ c4 with⟨y',d0,ay,rfl,c5⟩
 rw[hx]at ex';cases ex'
 rw[hy]at d0;cases d0
 refine⟨00,c,C,dx,021,hc,TC.cls,TC.weights,f3,02,022,00,c6,00,.of f4,λq1 f2=>?_⟩
 rw[cw]
 have s1:=zk.upd (o:=.lst [.int l,.int r]) f2
 have b5:upd H q1 (.lst [.int l,.int r]) q1=some (.lst [.int l,.int r]):=zi
 generalize upd H q1 (.lst [.int l,.int r])=G1 at s1 b5
 refine⟨q1,00,.of b5,rL,021,022,?_⟩
 refine⟨00,c,C,dx,021,s1 _ _ hc,TC.cls,TC.tracks,elt,02,022,00,tl,00,.of (s1 _ _ b9),λq2 f1=>?_⟩
 rw[ct]
 have s2:=zk.upd (o:=.lst [.ref ax,.ref ay]) f1
 have b0:upd G1 q2 (.lst [.ref ax,.ref ay]) q2=some (.lst [.ref ax,.ref ay]):=zi
 generalize upd G1 q2 (.lst [.ref ax,.ref ay])=G2 at s2 b0
 refine⟨q2,00,.of b0,rL,021,022,?_⟩
 have U:=s1.trans s2
 dsimp only[zM]
 have b2:Bd 1000000 2:=Bd.mono (m:=3) (show (2:Int).natAbs<2^3 by decide) ⇑1
 have bl:Bd 1000000 l:=Bd.mono (m:=11) (show l.natAbs<2^11 by lia) ⇑1
 have br:Bd 1000000 r:=Bd.mono (m:=11) (show r.natAbs<2^11 by lia) ⇑1
 have dp:=VC l1 r1
 have dl:=zcs l1 r1 l2 r2
 have bd:Bd 8900 (dvP l r):=Bd.mono (m:=12) (show (dvP l r).natAbs<2^12 by lia) ⇑1
 have bm:Bd 12 (mP l r):=QZ dp ∅ ∅
 have bp:Bd 12 (puP l r):=QZ dp ∅ ∅
 have bb:Bd 12 (baP l r):=QZ dp ∅ ∅
 have bh:Bd 12 (ahP l r):=QZ dp ∅ ∅
 refine⟨01,022,00,022,⟨b2,bl⟩,021,by lia,by lia,?_⟩
 dsimp only[zM]
 show _
 have d5:CoT G2 C c tl pb sb tk ws a4 lo hi:=by
  obtain⟨tp,g1,g2⟩:=F.tick
  obtain⟨v1,g5,g6⟩:=F.low
  obtain⟨v2,g7,g8⟩:=F.high
  exact⟨dx,fs,tv,U _ _ hc,⟨F.pb,F.sb,⟨tp,g1,U _ _ g2⟩,⟨c6,f3,U _ _ f4⟩,⟨tl,tv,elt,U _ _ b9,W.keeps (.of U)⟩,⟨v1,g5,g6.keeps (.of U)⟩,⟨v2,g7,g8.keeps (.of U)⟩,F.len⟩,elt,U _ _ b9,W.keeps (.of U)⟩
 have e4:((Int.gcd (l+r) (2*l):Nat):Int)=dvP l r:=rfl
 rw[e4]
 refine⟨02,022,00,022,⟨by lia,bd⟩,c,tl,mP l r,pb,sb,tk,ws,a4,lo,hi,rfl,d5,d4,bm.md,d8,e3,zt,e5,e0,λG3 j X3 a2 e8=>?_⟩
 rcases q:e8 with⟨b7,c1,G,Y,F3,O,I,a3⟩
 have c2:zX H G3:=(zX.of U).trans (X3.tup (U _ _ hc))
 nofun
 have d2:(2*r).fdiv (dvP l r)=puP l r:=rfl
 have e9:(2*l).fdiv (dvP l r)=baP l r:=rfl
 have d7:(l-r).fdiv (dvP l r)=ahP l r:=rfl
 refine⟨00,022,⟨b2,br⟩,00,022,⟨by lia,bd⟩,?_⟩
 dsimp only[zM]
 refine⟨00,022,⟨b2,bl⟩,00,022,⟨by lia,bd⟩,?_⟩
 dsimp only[zM]
 refine⟨01,022,00,022,⟨by lia,bd⟩,?_⟩
 dsimp only[zM]
 rw[d2,e9,d7]
 have zx:=zt x (wm hx)
 have zy:=zt y (wm hy)
 have f8:G.length=a4.length:=by rw[a3.1,wk]
 have b4:=c2 _ _ c7
 have a8:=c2 _ _ c5
 refine⟨01,ax,032,.of b4,rL,022,⟨bh.md,zx.1.md⟩,01,ay,032,.of a8,rL,022,⟨bp.md,zy.1.md⟩,022,?_⟩
 refine⟨01,ax,032,.of b4,rL,022,⟨bh.md,zx.2.md⟩,01,ay,032,.of a8,rL,022,⟨bp.md,zy.2.md⟩,022,⇑5,λS d3=>?_⟩
 nofun
 have s4:=zk.upd (o:=.tup [.int (ahP l r*x.1+puP l r*y.1),.int (ahP l r*x.2+puP l r*y.2)]) d3
 have b3:upd G3 S (.tup [.int (ahP l r*x.1+puP l r*y.1),.int (ahP l r*x.2+puP l r*y.2)]) S=some (.tup [.int (ahP l r*x.1+puP l r*y.1),.int (ahP l r*x.2+puP l r*y.2)]):=zi
 generalize upd G3 S (.tup [.int (ahP l r*x.1+puP l r*y.1),.int (ahP l r*x.2+puP l r*y.2)])=G4 at s4 b3 ⊢
 refine⟨00,c,C,b7,c1,00,s4 _ _ Y,TC.cls,TC.tracks,O,00,j,G,(a:Int),a,rL,rL,s4 _ _ I,VH ∅,?_⟩
 have d1:zX H G4:=c2.trans (.of s4)
 have nl:∀{b:Addr}{o:HO},G4 b=some o->(∀xs,o≠.lst xs)->b≠j:=λ{b o} e n z=>by rw[z,s4 _ _ I]at e;cases e;exact n _ rfl
 have h5:upd G4 j (.lst (G.set a (.ref S))) j=some (.lst (G.set a (.ref S))):=zi
 have a1:zX G4 (upd G4 j (.lst (G.set a (.ref S)))):=.upd (s4 _ _ I)
 have b8:xq j G4 (upd G4 j (.lst (G.set a (.ref S)))):=.upd
 generalize upd G4 j (.lst (G.set a (.ref S)))=G5 at h5 a1 b8 ⊢
 nofun
 have d9:=b8 _ _ (nl (s4 _ _ Y) (λ_ z=>by cases z)) (s4 _ _ Y)
 have a9:=a1 _ _ (d1 _ _ c7)
 have b6:=a1 _ _ (d1 _ _ c5)
 refine⟨01,ax,032,.of a9,rL,022,⟨bb.md,zx.1.md⟩,01,ay,032,.of b6,rL,022,⟨bh.md,zy.1.md⟩,022,?_⟩
 refine⟨01,ax,032,.of a9,rL,022,⟨bb.md,zx.2.md⟩,01,ay,032,.of b6,rL,022,⟨bh.md,zy.2.md⟩,022,⇑5,λp2 e7=>?_⟩
 nofun
 have s6:=zk.upd (o:=.tup [.int (baP l r*x.1-ahP l r*y.1),.int (baP l r*x.2-ahP l r*y.2)]) e7
 have b1:upd G5 p2 (.tup [.int (baP l r*x.1-ahP l r*y.1),.int (baP l r*x.2-ahP l r*y.2)]) p2=some (.tup [.int (baP l r*x.1-ahP l r*y.1),.int (baP l r*x.2-ahP l r*y.2)]):=zi
 generalize upd G5 p2 (.tup [.int (baP l r*x.1-ahP l r*y.1),.int (baP l r*x.2-ahP l r*y.2)])=G6 at s6 b1 ⊢
 refine⟨00,c,C,b7,c1,00,s6 _ _ d9,TC.cls,TC.tracks,O,00,022,j,_,((a:Int)+1),a+1,rfl,rfl,s6 _ _ h5,(by rw[Wm];exact VH (n:=G.length) (a:=a+1) ∅),?_⟩
 have f7:∀{b:Addr}{o:HO},G6 b=some o->(∀xs,o≠.lst xs)->b≠j:=λ{b o} e n z=>by rw[z,s6 _ _ h5]at e;cases e;exact n _ rfl
 have h7:upd G6 j (.lst ((G.set a (.ref S)).set (a+1) (.ref p2))) j=some (.lst ((G.set a (.ref S)).set (a+1) (.ref p2))):=zi
 have a7:zX G6 (upd G6 j (.lst ((G.set a (.ref S)).set (a+1) (.ref p2)))):=.upd (s6 _ _ h5)
 have c3:xq j G6 (upd G6 j (.lst ((G.set a (.ref S)).set (a+1) (.ref p2)))):=.upd
 generalize upd G6 j (.lst ((G.set a (.ref S)).set (a+1) (.ref p2)))=G7 at h7 a7 c3 ⊢
 have a6:zX G3 G7:=((zX.of s4).trans a1).trans ((zX.of s6).trans a7)
 have c0:xq j G3 G7:=(xq.of s4).trans (b8.trans ((xq.of s6).trans c3))
 have a5:H j=none:=by
  cases e:H j with
  |none=>rfl
  |some o=>rw[U _ _ e]at a2;cases a2
 have e2:xq c H G7:=λb o nb e=>c0 _ _ (λz=>by rw[z,a5]at e;cases e) (X3 _ _ nb (U _ _ e))
 have c8:qr G7 ((G.set a (.ref S)).set (a+1) (.ref p2)) (Xx l r a4 a x y):=by
  unfold Xx
  exact((a3.keeps a6).put (a7 _ _ (s6 _ _ (a1 _ _ b3)))).put (a7 _ _ b1)
 have nt:∀{b:Addr}{o:HO},G3 b=some o->(∀xs,o≠.lst xs)->b≠j:=λ{b o} e n z=>by rw[z,I]at e;cases e;exact n _ rfl
 obtain⟨tp,g1,g2⟩:=F3.tick
 obtain⟨v1,g5,g6⟩:=F3.low
 obtain⟨v2,g7,g8⟩:=F3.high
 obtain⟨w3,g3,g4⟩:=F3.weights
 refine k G7 j e2 a5 ⟨b7,c1,_,c0 _ _ (nt Y (λ_ z=>by cases z)) Y,⟨F3.pb,F3.sb,⟨tp,g1,a6 _ _ g2⟩,⟨w3,g3,c0 _ _ (λz=>?_) g4⟩,⟨j,_,O,h7,c8⟩,⟨v1,g5,g6.keeps a6⟩,⟨v2,g7,g8.keeps a6⟩,F3.len⟩,O,h7,c8⟩
 rw[z,I]at g4
 have ev:G=ws.map V.int:=by injection g4 with g4;injection g4
 have h0:0<G.length:=by lia
 rcases q:a3.2 0 G[0] (wj h0) with⟨t,_,f5,e1,_⟩
 have:G[0]∈ws.map V.int:=by rw[<-ev];exact List.getElem_mem h0
 obtain⟨n,_,en⟩:=wx.mp this
 rw[e1]at en;cases en
section
variable {P:Program}{w:World}{K:Fg}{mg:Aa}{base:Heap}{C0:Addr}
theorem zhz:zF ["self","moment"] ["self","moment"] (zr x0):=scq
theorem zg0 {C f:Addr}{fd:FuncData}{mc:Value}{cd:ClassData}(F:Fun K "__init__" "Together.__init__" x0 f fd) (U:XUp K C0 mc) (G:mg "ClackError" = some (.ref C0)) (B:XB base C) (S:zel K C cd) (n:x9 K C "moment"):vC P w K mg base CX0 1 f fd ["self","moment"] (zfR C):=by
 refine F.okq (k:=0) zhz (λcdv A outer s H vs Q E hr h=>?_)
 rcases q:h with⟨a,y,rfl,j,k⟩
 refine⟨_,zA (qz (zis U G %[0,qV|0])) (zj (zit (pv 0) (pv 1) rL)),?_⟩
 refine⟨00,a,C,00,j,B,?_⟩
 rw[zgf j]
 exact⟨01,a,C,cd,rL,j,S,n,k⟩
def xX (ws:Ak) (a b:Nat):Ak:=qZ ws (some (a:Int)) (some ((b:Int)+1))
def qi (l:Ak):Bool:=l.all λx=>decide (x=l.headD 0)
def vP (wl:Bc) (l:Ak):Bool:=decide (wl=none)&&decide (l.length=2)
def RbT (ws:Ak) (a b:Nat) (wl:Bc) (pb sb:Int) (trs:Bb) (lo hi:Bc) (pb' sb':Int) (trs':Bb) (lo' hi':Bc):Prop :=
 (vP wl (xX ws a b)=true/\∃l r x y,ws[a]?=some l/\ws[a+1]?=some r/\trs[a]?=some x/\trs[a+1]?=some y/\pb'=pb*mP l r/\sb'=sb*mP l r/\trs'=Xx l r trs a x y/\lo'=lo.map (scT (mP l r))/\hi'=hi.map (scT (mP l r))) ∨
 (vP wl (xX ws a b)=false/\qi (xX ws a b)=true/\∃seg,seg.Perm ((qZ trs (some (a:Int)) (some ((b:Int)+1))).map (ZM wl))/\seg.Pairwise (λx y=>x.2<=y.2)/\pb'=pb/\sb'=sb/\trs'=trs.take a++seg++trs.drop (b+1)/\lo'=lo/\hi'=hi)
theorem zeA {α:Type}(f:α->V) (l:List α) (lo hi:Option Int):qB (l.map f) lo hi=(qZ l lo hi).map f:=by
 unfold qB qZ
 rw[wk,uS,uT]
theorem zbi {ws:Ak}{a b:Nat}(j:a<=b) (F:b<ws.length):(xX ws a b).length=b+1-a:=by
 unfold xX qZ
 rw[show ((b:Int)+1)=((b+1:Nat):Int) by lia,HT.sIx_nat,HT.sIx_nat,wU,wV]
 lia
theorem zbj {l:Ak}(h:0<l.length):atI (l.map V.int) 0=some (.int (l.headD 0)):=by
 cases l with
 |nil=>simp at h
 |cons x l=>unfold atI ixN;rw[if_pos ⇑1,if_pos (by simp only[wk,wJ];lia)];rfl
theorem zmq {Tb c C dx:Addr}{fs:Bf}{q:Str}{p:PySem.Pos}{H H':Hp}(T:va Tb q p H) (I:H c=some (.ins C dx fs)) (X:xq c H H'):va Tb q p H':=by
 obtain⟨ps,G,S,j⟩:=T
 refine⟨ps,X _ _ (λz=>by rw[z,I]at G;cases G) G,S,?_⟩
 rcases j with j | ⟨O,j,F⟩
 ·exact .inl j
 ·exact .inr ⟨O,j,X _ _ (λz=>by rw[z,I]at F;cases F) F⟩
theorem CoT.same {H H':Hp}{C c tl:Addr}{U S:Int}{O:Rat}{ws:Ak}{G:Bb}{lo hi:Bc} (h:CoT H C c tl U S O ws G lo hi) (s:zk H H'):CoT H' C c tl U S O ws G lo hi:=by
 obtain⟨dx,fs,tv,W,F,elt,j,I⟩:=h
 obtain⟨V,g1,g2⟩:=F.tick
 obtain⟨v1,g5,g6⟩:=F.low
 obtain⟨v2,g7,g8⟩:=F.high
 obtain⟨w3,g3,Y⟩:=F.weights
 exact⟨dx,fs,tv,s _ _ W,⟨F.pb,F.sb,⟨V,g1,s _ _ g2⟩,⟨w3,g3,s _ _ Y⟩,⟨tl,tv,elt,s _ _ j,I.keeps (.of s)⟩,⟨v1,g5,g6.keeps (.of s)⟩,⟨v2,g7,g8.keeps (.of s)⟩,F.len⟩,elt,s _ _ j,I.keeps (.of s)⟩
inductive zkq (C:Addr) (CT:Addr) (Tb:Addr) (vs:Ba) (H:Hp) (Q:VK) (E:XK):Prop
 |mk:∀c tl g tb a b wh t pb sb tk ws trs lo hi,(vs=[V.ref c,.ref g,.ref tb])->(CoT H C c tl pb sb tk ws trs lo hi)->(H g=some (.tup [.int (a:Nat),.int (b:Nat),.str wh]))->(H tb=some (.tup [.int t.1,.int t.2]))->(t.2≠0)->(BdP 4400 t)->(Sz 4400 tk)->(a<=b)->(b<trs.length)->(trs.length<=8)->(ws.length=trs.length)->((∀x∈ws,1<=x/\x<=1000))->(Bd 4600 pb)->(Bd 4600 sb)->((∀t∈trs,BdP 4600 t))->((∀l,lo=some l->BdP 4600 l))->((∀l,hi=some l->BdP 4600 l))->(va Tb laQ laP H)->((∀H' tl' pb' sb' trs' lo' hi',Chg [Tb,tl,c] H H'->va Tb laQ laP H'->(tl'=tl\/H tl'=none)->RbT ws a b (xl wh lo hi) pb sb trs lo hi pb' sb' trs' lo' hi'->CoT H' C c tl' pb' sb' tk ws trs' lo' hi'->Q .non H'))->((∀H' dx p,zk H H'->vP (xl wh lo hi) (xX ws a b)=false->qi (xX ws a b)=false->H' dx=some (.xd [("moment",.ref p)])->zC H' p (vt tk t)->E (.ref CT) (some dx) H'))->zkq C CT Tb vs H Q E
theorem JP:zF ["course","group","ticks","first","last","where","wall","weights"] ["course","group","ticks"] (zr QN):=scq
theorem zlF {C CT Tb b2:Addr}{Y:FuncData}(D:Df K mg "rebound" QN ["course","group","ticks"] []) (TC:TCo K C) (T:TxQ K mg) (a9:mg "all" = none) (d5:⇑3 "wall_of" 1 ["course","where"] [] (zhX C)) (c6:⇑3 "part" 3 ["course","first"] [] (zkn C)) (d0:⇑3 "deal" 4 ["course","first","last","wall"] [] (zke C Tb))
  (c3:⇑3 "moment_of" 3 ["course","ticks"] [] (zfT C)) (XM:XMk K base CT b2) (c0:vC P w K mg base CX0 1 b2 Y ["self","moment"] (zfR CT)) (d2:mg "Together" = some (.ref CT)) (c9:vI K Y ["self","moment"] []):XU P w K mg base "rebound" 5 ["course","group","ticks"] [] (zkq C CT Tb):=by
 rcases r:D.cal1q (k:=4) JP with⟨c,tl,g,tb,a,b,wh,t,pb,sb,tk,ws,O,lo,hi,rfl,a3,hg,d1,d4,b0,e0,b1,d8,a7,f6,b5,c4,c8,zt,a4,a1,T0,k1,k2⟩
 have d3:xf 1 _:=hr.md
 have c1:xf 2 _:=hr.md
 have b3:xf 3 _:=hr.md
 rcases q:id a3 with⟨dx,fs,tv,hc,F,elt,f5,g0⟩
 obtain⟨e7,f3,f4⟩:=F.weights
 refine⟨_,(zA (qf (pv 1) (qu rL (zP (pgl (i:=3) JP.nd) (zP (pgl (i:=4) JP.nd) (zP (pgl (i:=5) JP.nd) xw)))))
  (zA (psl (i:=6) JP.nd (zH d5 d3 %[0,5|0]))
  (zA (Qz (i:=7) JP.nd rfl (Or.inr rfl) (x6 ZG (xx (pv 0) rfl) (xH (pv 3)) (xH (zD xc (pv 4) zg))))
  (zj (zZ (qk (zI qy (pv 6) zV (zJ _)) (x8 (zI qh (xk xt ⇑2 T.nLen PySem.boot_len %[7|0]) zg (zJ _)))).pt (zj (qz (zH c6 b3 %[0,3|0]))) (zj (zZ (xv (xk (Vx rfl) ⇑2 a9 PyProof.Rows.boot_all %[(Zj (NB:=["weight"]) (FR:=["weights"]) (js:=[7]) rfl rfl (λ_ _ h=>h) (.cons rfl rfl rfl ⟨_,rfl⟩ .nil) rfl ⇑0 rfl ⇑0 (xM (pv 7)) (by intro _ _ _;refine⟨?_,?_,?_⟩;(exact(pgl (i:=0) (show List.Nodup (["weight","weights"]:Ad) by decide +kernel)));(exact xI);(exact(xW qh (pv 0) (xb (VI (K:=K) rfl) (pv 1) zg (λ_ _=>rfl)) (zJ _)))))|0]) λ_=>rfl) (zj (qz (zH d0 hr %[0,3,4,6|0]))) (zj (JK XM c0 c1 d2 c9 hr.hd Xv %[(zH c3 b3 %[0,2|0])|0]))))))))),?_⟩
 try dsimp only[xi,Cx.nox]
 refine⟨00,g,00,.of hg,rL,021,021,022,?_⟩
 dsimp only[zM]
 refine⟨01,c,pb,sb,tk,ws,O,lo,hi,wh,rL,⟨dx,fs,hc,F⟩,λwv S=>?_⟩
 dsimp only[zM]
 refine⟨00,c,C,dx,021,hc,TC.cls,TC.weights,f3,02,022,00,e7,00,.of f4,λq1 e8=>?_⟩
 rw[zeA]
 have a8:qZ ws (some (a:Int)) (some ((b:Int)+1))=xX ws a b:=rfl
 rw[a8]
 have f7:=zbi b1 (by omega:b<ws.length)
 have W:=zk.upd (o:=.lst ((xX ws a b).map V.int)) e8
 have j:upd H q1 (.lst ((xX ws a b).map V.int)) q1=some (.lst ((xX ws a b).map V.int)):=zi
 generalize upd H q1 (.lst ((xX ws a b).map V.int))=G1 at W j ⊢
 dsimp only[zM]
 have c7:=a3.same W
 have T1:=T0.same W
 have e6:∀l,xl wh lo hi=some l->BdP 4600 l:=λl e=>by
  unfold xl at e
  split at e
  ·cases e
  ·split at e
   ·exact a4 l e
   ·exact a1 l e
 refine Vk (λH'=>H'=G1) (vP (xl wh lo hi) (xX ws a b)) (λQ' q=>?_) (λI H3 e3=>?_) (λI H3 e3=>?_)
 ·cases ewl:xl wh lo hi with
  |none =>
   rw[ewl]at S
   obtain rfl:wv=.non:=S
   refine⟨00,rL,00,xp ?_⟩
   refine⟨00,q1,00,.inl (.of j),rL,00,?_⟩
   have e2:vP (xl wh lo hi) (xX ws a b)=decide (V.int (((xX ws a b).map V.int).length:Int)=V.int 2):=by
    rw[ewl,wk]
    unfold vP
    rw[wo (show (none:Bc)=none from rfl),WO,decide_eq_decide]
    exact⟨λz=>by rw[z];rfl,λz=>by injection z with z;omega⟩
   rw[<-e2]
   exact q _ rL
  |some u =>
   rw[ewl]at S
   obtain⟨aw,rfl,g1⟩:=S
   have e2:vP (xl wh lo hi) (xX ws a b)=false:=by rw[ewl];rfl
   rw[e2]at q
   exact⟨00,rL,00,xm (q _ rL)⟩
 ·subst e3
  unfold vP at I
  rw[uf,wP,wP]at I
  have f8:b=a+1:=by omega
  obtain⟨l,el⟩:∃l,ws[a]?=some l:=⟨_,wj (by omega)⟩
  obtain⟨r,er⟩:∃r,ws[a+1]?=some r:=⟨_,wj (by omega)⟩
  obtain⟨x,ex⟩:∃x,O[a]?=some x:=⟨_,wj (by omega)⟩
  obtain⟨y,ey⟩:∃y,O[a+1]?=some y:=⟨_,wj (by omega)⟩
  have b7:=b5 l (wm el)
  have b6:=b5 r (wm er)
  refine⟨01,c,tl,a,pb,sb,tk,ws,O,lo,hi,l,r,x,y,rL,c7,a7,el,er,b7.1,b7.2,b6.1,b6.2,ex,ey,c4.md,c8.md,λt m=>⟨(zt t m).1.md,(zt t m).2.md⟩,λl e=>⟨(a4 l e).1.md,(a4 l e).2.md⟩,λl e=>⟨(a1 l e).1.md,(a1 l e).2.md⟩,λH' b4 X' hn a6=>?_⟩
  refine k1 H' b4 _ _ _ _ _ (λb o nb e=>X' _ _ (λz=>nb (by simp[z])) (W _ _ e)) (zmq T1 (W _ _ hc) X') (.inr ?_) (.inl ⟨?_,l,r,x,y,el,er,ex,ey,rfl,rfl,rfl,rfl,rfl⟩) a6
  ·cases e:H b4 with
   |none=>rfl
   |some o=>rw[W _ _ e]at hn;cases hn
  ·unfold vP;rw[uf,wP,wP];exact I
 ·subst e3
  have b8:0<(xX ws a b).length:=by omega
  have f9:(xX ws a b).length<=8:=by omega
  refine Vk (λH'=>zk H3 H') (qi (xX ws a b)) (λQ' q=>?_) (λa5 H4 s4=>?_) (λa5 H4 s4=>?_)
  ·refine⟨00,q1,rL,⟨_,SqL.of j⟩,λDc c2=>?_⟩
   refine xR (J:=Itl K q1) (n:=1) (js:=[7]) (g:=zM 0) (te:=_) (xs:=(xX ws a b).map V.int) (λi v G=>∃x,(xX ws a b)[i]?=some x/\v=.bl (decide (x=(xX ws a b).headD 0))) (λ_ _ _ _ _ h=>h) c2 (xZ j) (xn (by rw[wk];omega)) ?_ ?_
   ·intro i x zs H4 g2 hx hz s4 hk
    obtain⟨z1,rfl⟩:=ZR hz
    rw[we]at hx
    cases ew:(xX ws a b)[i]? with
    |none=>rw[ew]at hx;cases hx
    |some n =>
     rw[ew]at hx;cases hx
     dsimp only[zM]
     refine⟨rL,01,q1,032,.of (s4 _ _ j),zbj b8,rL,hk _ _ (zk.refl _) ⟨n,ew,?_⟩⟩
     rw[show decide (V.int n=V.int ((xX ws a b).headD 0))=decide (n=(xX ws a b).headD 0) by rw[decide_eq_decide];exact⟨λz=>by injection z,λz=>by rw[z]⟩]
   ·intro ys H4 s4 d9 f0 b9
    have e5:ys=((xX ws a b).map λx=>decide (x=(xX ws a b).headD 0)).map V.bl:=by
     rw[wW]
     refine yq λi=>?_
     rw[we]
     cases ey:ys[i]? with
     |none =>
      have:ys.length<=i:=uY.mp ey
      rw[w4 (by rw[f0,wk]at this;exact this)];rfl
     |some v =>
      obtain⟨x,e1,e2⟩:=b9 i v ey
      rw[e1,e2];rfl
    refine⟨Dc,(xX ws a b).map λx=>decide (x=(xX ws a b).headD 0),rfl,.of (by rw[<-e5];exact d9),00,?_⟩
    have:((xX ws a b).map λx=>decide (x=(xX ws a b).headD 0)).all id=qi (xX ws a b):=by
     unfold qi;rw[List.all_map];rfl
    rw[this]
    exact q _ s4
  ·have U:=W.trans s4
   refine⟨03,c,tl,a,b,wv,pb,sb,tk,ws,O,lo,hi,xl wh lo hi,rL,a3.same U,S.keeps (.of U),b1,d8,a7,zt,e6,T0.same U,λH' e9 ch d6 pm pw a6=>?_⟩
   exact k1 H' tl _ _ _ _ _ (λb o nb e=>ch b o (λz=>nb (by rcases wy.mp z with z | z;(exact wy.mpr (.inl z));(exact wR _ (wy.mpr (.inl (wO.mp z)))))) (U _ _ e)) d6 (.inl rfl) (.inr ⟨I,a5,e9,pm,pw,rfl,rfl,rfl,rfl,rfl⟩) a6
  ·have U:=W.trans s4
   obtain⟨tp,f1,f2⟩:=F.tick
   refine⟨01,c,tb,dx,fs,tp,tk,t.1,t.2,rL,U _ _ hc,f1,U _ _ f2,U _ _ d1,d4,b0.1,b0.2,e0,λmr H5 s5 c5=>?_⟩
   refine⟨zL1,λp hp=>⟨p,00,zi,λd hd=>⟨rL,some d,zi,?_⟩⟩⟩
   have a2:d≠p:=λz=>by subst z;rw[zi]at hd;cases hd
   have e4:H5 d=none:=by rw[zK a2]at hd;exact hd
   have eG:∀b,b≠p->b≠d->Vz p (upd (upd (upd H5 p (XO p CT none)) d (.xd [("moment",.ref mr)])) p (XO p CT (some d))) b=H5 b:=λb hb d7=>by
    rw[qL hb,zK hb,zK d7,zK hb]
   have SG:zk H5 (Vz p (upd (upd (upd H5 p (XO p CT none)) d (.xd [("moment",.ref mr)])) p (XO p CT (some d)))):=λb o eb=>by
    rw[eG b (zN eb hp) (zN eb e4)];exact eb
   refine k2 _ d mr (U.trans (s5.trans SG)) I a5 ?_ (SG _ _ c5)
   rw[qL a2,zK a2,zi]
end
def Ji (H:Hp) (v:V):Be->Prop
 |none=>v=.non
 |some t=>∃a p q,v=.ref a/\H a=some (.tup [.ref p,.ref q])/\zC H p t.1/\zC H q t.2
def Ji.keeps {H H':Hp}{v:V}{o:Be} (h:Ji H v o) (e:zX H H'):Ji H' v o:=by
 cases o with
 |none=>exact h
 |some t=>obtain⟨a,p,q,h1,h2,F,j⟩:=h;exact⟨a,p,q,h1,e _ _ h2,e _ _ F,e _ _ j⟩
def ptT (pb sb:Int) (t l:Int×Int):Rat×Rat:=(Rat.divInt (xu l t) (pb*t.2),Rat.divInt l.2 sb)
def zj0 (N:Nat):sel (λ_=>true) N=List.range N:=by
 induction N with
 |zero=>rfl
 |succ n ih=>rw[Xl,ih,List.range_succ,if_pos rfl]
inductive zkp (C:Addr) (vs:Ba)(H:Hp)(Q:VK)(_e3:XK):Prop
 |mk:∀c v tb dx fs pb sb t o,(vs=[V.ref c,v,.ref tb])->(H c=some (.ins C dx fs))->(fs.lookup ("place_bottom":Str)=some (V.int pb))->(fs.lookup ("speed_bottom":Str)=some (V.int sb))->(vX H v o)->(H tb=some (.tup [.int t.1,.int t.2]))->(BdP 4400 t)->((∀l,o=some l->BdP 4400 l))->(pb≠0)->(sb≠0)->(t.2≠0)->(Bd 4400 pb)->(Bd 8900 sb)->(Bd 8900 (pb*t.2))->(∀v' H',zk H H'->Ji H' v' (o.map (ptT pb sb t))->Q v' H')->zkp C vs H Q _e3
theorem ziF:zF ["course","track","ticks","place"] ["course","track","ticks"] (zr qW):=scq
theorem zlD {C:Addr}(D:Df K mg "place_and_speed" qW ["course","track","ticks"] []) (I:TCo K C) (cR:⇑3 "ratio" 2 ["top","bottom"] [] qm) (a2:⇑3 "spot_at" 1 ["track","ticks"] [] Jb):⇑3 "place_and_speed" 3 ["course","track","ticks"] [] (zkp C):=by
 rcases r:D.calq (k:=2) ziF with⟨c,v,tb,dx,fs,pb,sb,t,o,rfl,hc,e1,e2,hv,F,zt,zo,p0,s0,t0,S,a1,Y,k⟩
 have W:xf 1 _:=hr.md
 refine⟨_,(zA (zZ (zI qy (pv 1) zV (zJ _)) (zj (zG zV)) zQ)
  (zA (psl (i:=3) ziF.nd (zH cR hr %[(zH a2 W %[1,2|0]),zD zR (xx (pv 0) rfl) (pxt (pv 2))|0]))
  (zj (zG (xa %[3,(zH cR hr %[pxt (pv 1),xx (pv 0) rfl|0])|0]))))),?_⟩
 try dsimp only[xi,Cx.nox]
 cases o with
 |none =>
  obtain rfl:v=.non:=hv
  exact⟨00,rL,00,xp (k _ _ (zk.refl _) rL)⟩
 |some l =>
  obtain⟨a,rfl,ha⟩:=hv
  refine⟨00,rL,00,xm ?_⟩
  refine⟨01,a,tb,l,t,rL,ha,F,zo l rL,zt,?_⟩
  refine⟨00,c,C,dx,fs,00,hc,I.cls,I.pb,e1,00,tb,032,.of F,rL,022,⟨S.md,zt.2.md⟩,021,yl p0 t0,Y,λr1 H1 V G=>?_⟩
  dsimp only[zM]
  refine⟨01,a,032,.of (V _ _ ha),rL,00,c,C,dx,fs,00,V _ _ hc,I.cls,I.sb,e2,021,s0,a1,λr2 H2 s2 j=>⟨⇑5,λtp U=>?_⟩⟩
  have O:=zk.upd (o:=.tup [.ref r1,.ref r2]) U
  exact k _ _ (V.trans (s2.trans O)) ⟨tp,r1,r2,rL,zi,O _ _ (s2 _ _ G),O _ _ j⟩
def blT (pb sb:Int) (t:Int×Int) (l:Int×Int) (wt:Int):Bl:=⟨(ptT pb sb t l).1,(ptT pb sb t l).2,wt⟩
inductive zko (C:Addr) (vs:Ba)(H:Hp)(Q:VK)(_e3:XK):Prop
 |mk:∀c tl tb pb sb tk ws trs lo hi t,(vs=[V.ref c,.ref tb])->(CoT H C c tl pb sb tk ws trs lo hi)->(H tb=some (.tup [.int t.1,.int t.2]))->(BdP 4400 t)->(trs.length<=8)->(ws.length=trs.length)->((∀l∈trs,BdP 4400 l))->((∀l,lo=some l->BdP 4400 l))->((∀l,hi=some l->BdP 4400 l))->(pb≠0)->(sb≠0)->(t.2≠0)->(Bd 4400 pb)->(Bd 8900 sb)->(Bd 8900 (pb*t.2))->(∀p r wa us v1 v2 H',zk H H'->H' p=some (.tup [.ref r,.ref wa])->H' r=some (.tup us)->XW H' us ((trs.zip ws).map λz=>blT pb sb t z.1 z.2)->H' wa=some (.tup [v1,v2])->Ji H' v1 (lo.map (ptT pb sb t))->Ji H' v2 (hi.map (ptT pb sb t))->Q (.ref p) H')->zko C vs H Q _e3
theorem zc2:zF ["course","ticks","spots","row","walls"] ["course","ticks"] (zr VY):=scq
theorem zlC {C:Addr}(D:Df K mg "placed" VY ["course","ticks"] []) (T:TxQ K mg) (W:TCo K C) (a3:⇑3 "place_and_speed" 3 ["course","track","ticks"] [] (zkp C)):⇑3 "placed" 4 ["course","ticks"] [] (zko C):=by
 rcases r:D.calBq (k:=3) zc2 with⟨c,tl,tb,O,Y,tk,ws,j,lo,hi,t,rfl,⟨dx,fs,tv,hc,F,elt,b1,b5⟩,a4,zt,d1,c6,b7,c2,b9,p0,s0,t0,a1,a2,a6,k⟩
 obtain⟨b4,f3,f4⟩:=F.weights
 obtain⟨v1,f5,f6⟩:=F.low
 obtain⟨v2,f7,f8⟩:=F.high
 have d4:=b5.1
 refine⟨_,(zE (Bx.mk (vo (i:=2) (NB:=["track"]) (FR:=["course","ticks"]) (js:=[0,1]) rfl rfl (λ_ _ h=>h) (.cons rfl rfl rfl ⟨_,rfl⟩ (.cons rfl rfl rfl ⟨_,rfl⟩ .nil)) rfl ⇑0 rfl ⇑0 zc2.nd rfl rfl ⇑2 (xM (xx (pv 0) rfl)) (by intro _ _ _;refine⟨?_,?_,?_⟩;(exact(pgl (i:=0) (show List.Nodup (["track","course","ticks"]:Ad) by decide +kernel)));(exact xI);(exact(zH a3 hr %[1,0,2|0])))))
  (zE (Bx.mk (vo (i:=3) (NB:=["place","speed","weight"]) (FR:=[]) (js:=[]) rfl rfl (λ_ _ h=>by cases h) .nil rfl ⇑0 rfl ⇑0 zc2.nd rfl rfl ⇑2 (zhk ⇑2 T.nZip %[2,xx (pv 0) rfl|0]) (by intro _ _ _;refine⟨?_,?_,?_⟩;(exact(vN (K:=K) (n:=2) rfl rfl (zP (vN (K:=K) (n:=2) rfl rfl (zP (pgl (i:=0) (show List.Nodup (["place","speed","weight"]:Ad) by decide +kernel)) (zP (pgl (i:=1) (show List.Nodup (["place","speed","weight"]:Ad) by decide +kernel)) xw))) (zP (pgl (i:=2) (show List.Nodup (["place","speed","weight"]:Ad) by decide +kernel)) xw))));(exact xI);(exact(xa %[0,1,2|0])))))
  (zE (Bx.mk (psl (i:=4) zc2.nd (xa %[(zH a3 hr %[0,xx (pv 0) rfl,1|0]),(zH a3 hr %[0,xx (pv 0) rfl,1|0])|0])))
  (Bx.mk (zj (zG (xa %[qj qv ⇑2 T.nTuple yy %[3|0],4|0]))))))),?_⟩
 try dsimp only[xi,Cx.nox]
 refine⟨00,c,C,dx,fs,00,hc,W.cls,W.tracks,elt,tl,rL,⟨_,SqL.of b1⟩,λD1 c1=>?_⟩
 refine xR (J:=Itl K tl) (n:=1) (js:=[0,1]) (g:=zM 0) (te:=_) (xs:=tv) (λi v G=>∃l,j[i]?=some l/\Ji G v (some (ptT O Y t l))) (λ_ _ _ _ e ⟨l,h1,h2⟩=>⟨l,h1,h2.keeps e⟩) c1 (xZ b1) (xn ∅) ?_ ?_
 ·intro i x zs H2 Q' hx hz s2 hk
  obtain⟨z1,rfl⟩:=ZR hz
  obtain⟨l,el,c7⟩:=(b5.keeps (.of s2)).2 i x hx
  dsimp only[zM]
  exact⟨rfl,02,c,x,tb,dx,fs,O,Y,t,some l,rfl,s2 _ _ hc,F.pb,F.sb,c7,s2 _ _ a4,zt,λl' e=>by cases e;exact b7 l (wm el),p0,s0,t0,a1,a2,a6,λv' H' s' h'=>hk _ _ s' ⟨l,el,h'⟩⟩
 intro ys G1 s1 a8 d2 b6
 dsimp only[zM]
 refine⟨01,c,C,dx,fs,00,s1 _ _ hc,W.cls,W.weights,f3,false,false,D1,b4,rL,⟨_,SqL.of a8⟩,⟨_,SqL.of (s1 _ _ f4)⟩,λD2 c8=>?_⟩
 have c9:=s1 _ _ f4
 refine zdD (js:=[]) (J:=zds false false K D1 b4) (N:=ys.length) (n:=3) (xs:=ys) (ys:=ws.map V.int) (g:=Xt K 2 (xL (Xt K 2 (xL (zM 0) (xL (zM 1) Qa))) (xL (zM 2) Qa))) (tt:=λ_ H Q=>Q true H) (te:=zgb (xN (xB 0) (xN (xB 1) (xN (xB 2) Xn)))) (λ_=>true) (λi v G=>∀b,((j.zip ws).map λz=>blT O Y t z.1 z.2)[i]?=some b->zbC G v b) (λi v G G' e h b hb=>(h b hb).keeps e) c8 (zhu (k1:=false) (k2:=false) a8 c9 (by rw[wk];lia)) (xn ∅) ?_ ?_
 ·intro i Tt x y zs G A' B' hx hy hz S hT hA d3
  rcases q:b6 i x hx with⟨l,el,a',p,q,rfl,g1,g2,g3⟩
  rw[we]at hy
  cases ew:ws[i]? with
  |none=>rw[ew]at hy;cases hy
  |some n =>
   rw[ew]at hy;cases hy
   obtain⟨y1,y2,y3,rfl⟩:∃a b c,zs=[a,b,c]:=by
    match zs,hz with
    |[a,b,c],_=>exact⟨a,b,c,rfl⟩
   refine⟨Tt,00,.of hT,rL,021,a',00,.of (S _ _ g1),rL,021,022,023,xp ?_⟩
   refine⟨02,zL3,λtp a5=>hA rL _ _ (zk.upd a5) λb eb=>?_⟩
   rw[we,(yY.mpr ⟨el,ew⟩:(j.zip ws)[i]?=some (l,n))]at eb
   cases eb
   exact⟨tp,p,q,rL,zi,zk.upd a5 _ _ (S _ _ g2),zk.upd a5 _ _ (S _ _ g3)⟩
 intro us G2 s2 hu a9 b0
 rw[zj0]at a9 b0
 have d0:us.length=ys.length:=by rw[a9,List.length_range]
 have d5:((j.zip ws).map λz=>blT O Y t z.1 z.2).length=j.length:=by rw[wk,uA,c6,Yw]
 have b2:XW G2 us ((j.zip ws).map λz=>blT O Y t z.1 z.2):=⟨by lia,λi v e=>by
  have hi:i<us.length:=(wn.mp e).1
  obtain⟨b,eb⟩:∃b,((j.zip ws).map λz=>blT O Y t z.1 z.2)[i]?=some b:=⟨_,wj ∅⟩
  exact⟨b,eb,b0 i i v (by rw[List.getElem?_range ∅]) e b eb⟩⟩
 have S2:=s1.trans s2
 dsimp only[zM]
 refine⟨01,c,C,dx,fs,00,S2 _ _ hc,W.cls,W.low,f5,00,c,v1,tb,dx,fs,O,Y,t,lo,rL,S2 _ _ hc,F.pb,F.sb,f6.keeps (.of S2),S2 _ _ a4,zt,c2,p0,s0,t0,a1,a2,a6,λw1 G3 s3 c0=>?_⟩
 have S3:=S2.trans s3
 refine⟨01,c,C,dx,fs,00,S3 _ _ hc,W.cls,W.high,f7,00,c,v2,tb,dx,fs,O,Y,t,hi,rL,S3 _ _ hc,F.pb,F.sb,f8.keeps (.of S3),S3 _ _ a4,zt,b9,p0,s0,t0,a1,a2,a6,λw2 G4 s4 c5=>⟨⇑5,λwa c4=>?_⟩⟩
 have s5:=zk.upd (o:=.tup [w1,w2]) c4
 have U:upd G4 wa (.tup [w1,w2]) wa=some (.tup [w1,w2]):=zi
 generalize upd G4 wa (.tup [w1,w2])=G5 at s5 U ⊢
 dsimp only[zM]
 have a7:=s3.trans (s4.trans s5)
 refine⟨00,D2,us,rL,.inl ⟨.of (a7 _ _ hu),λr b8=>?_⟩⟩
 have s6:=zk.upd (o:=.tup us) b8
 have b3:upd G5 r (.tup us) r=some (.tup us):=zi
 generalize upd G5 r (.tup us)=G6 at s6 b3 ⊢
 refine⟨00,⇑5,λpp c3=>?_⟩
 have s7:=zk.upd (o:=.tup [.ref r,.ref wa]) c3
 have I:=s6.trans s7
 exact k pp r wa us w1 w2 _ (S2.trans (a7.trans I)) zi (s7 _ _ b3) (b2.keeps (.of (a7.trans I))) (I _ _ U) (c0.keeps (.of (s4.trans (s5.trans I)))) (c5.keeps (.of (s5.trans I)))
structure SC where
 pb:Int
 sb:Int
 trs:Bb
 lo:Bc
 hi:Bc
def RbS (ws:Ak) (g:Bg) (s s':SC):Prop:=RbT ws g.1 g.2.1 (xl g.2.2 s.lo s.hi) s.pb s.sb s.trs s.lo s.hi s'.pb s'.sb s'.trs s'.lo s'.hi
inductive ZK (ws:Ak):List (Bg)->SC->SC->Prop where
 |nil (s:SC):ZK ws [] s s
 |snoc {gs:List (Bg)}{g:Bg}{s0 s s':SC}(h:ZK ws gs s0 s) (r:RbS ws g s s'):ZK ws (gs++[g]) s0 s'
def refB (ws:Ak) (g:Bg) (s:SC):Prop:=vP (xl g.2.2 s.lo s.hi) (xX ws g.1 g.2.1)=false/\qi (xX ws g.1 g.2.1)=false
structure BdS (n:Nat) (s:SC):Prop where
 pb:Bd n s.pb
 sb:Bd n s.sb
 p0:0<s.pb
 s0:0<s.sb
 tr:∀t∈s.trs,BdP n t
 lo:∀l,s.lo=some l->BdP n l
 hi:∀l,s.hi=some l->BdP n l
def zbR {l r:Int}(F:1<=l) (hr:1<=r):0<mP l r:=by
 unfold mP
 have G:=VC F hr
 rw[yp _ ∅]
 have hd:dvP l r ∣ l+r:=yU ..
 obtain⟨q,j⟩:=hd
 rw[j,Int.mul_ediv_cancel_left _ ∅]
 rcases Int.lt_or_le 0 q with z | z
 ·exact z
 ·have:dvP l r*q<=0:=Int.mul_nonpos_of_nonneg_of_nonpos ∅ z
  lia
def BdP.sc {n:Nat}{t:Int×Int}{m:Int}(h:BdP n t) (j:Bd 12 m):BdP (n+14) (scT m t):=⟨(h.1.mul j).mono ∅,(h.2.mul j).mono ∅⟩
def zfg {l r:Int}{j:Bb}{a:Nat}{x y t:Int×Int}(h:t∈Xx l r j a x y):(∃u∈j,t=scT (mP l r) u)\/t=(ahP l r*x.1+puP l r*y.1,ahP l r*x.2+puP l r*y.2)\/t=(baP l r*x.1-ahP l r*y.1,baP l r*x.2-ahP l r*y.2):=by
 unfold Xx at h
 rcases Yc h with h | h
 ·rcases Yc h with h | h
  ·obtain⟨u,F,rfl⟩:=wx.mp h;exact .inl ⟨u,F,rfl⟩
  ·exact .inr (.inl h)
 ·exact .inr (.inr h)
def zes {ws:Ak}{g:Bg}{s s':SC}{n:Nat}(hw:∀x∈ws,1<=x/\x<=1000) (h:BdS n s) (r:RbS ws g s s') (a1:g.1<=g.2.1) (hb:g.2.1<s.trs.length):BdS (n+14) s'/\s'.trs.length=s.trs.length/\(s'.lo=none↔s.lo=none)/\(s'.hi=none↔s.hi=none):=by
 rcases r with⟨_,l,S,x,y,el,er,ex,ey,e1,e2,G,U,O⟩ | ⟨_,_,V,pm,_,e1,e2,G,U,O⟩
 ·have hl:=hw l (wm el)
  have hr:=hw S (wm er)
  have W:=VC hl.1 hr.1
  have bm:Bd 12 (mP l S):=QZ W ∅ ∅
  have bp:Bd 12 (puP l S):=QZ W ∅ ∅
  have bb:Bd 12 (baP l S):=QZ W ∅ ∅
  have bh:Bd 12 (ahP l S):=QZ W ∅ ∅
  have mp:=zbR hl.1 hr.1
  have Y:=h.tr x (wm ex)
  have zy:=h.tr y (wm ey)
  refine⟨⟨by rw[e1];exact(h.pb.mul bm).mono ∅,by rw[e2];exact(h.sb.mul bm).mono ∅,by rw[e1];exact Yl h.p0 mp,by rw[e2];exact Yl h.s0 mp,λt j=>?_,λu F=>?_,λu F=>?_⟩,by rw[G];unfold Xx;simp,?_,?_⟩
  ·rw[G]at j
   rcases zfg j with⟨u,mu,rfl⟩ | rfl | rfl
   ·exact(h.tr u mu).sc bm
   ·exact⟨((bh.mul Y.1).add (bp.mul zy.1)).mono ∅,((bh.mul Y.2).add (bp.mul zy.2)).mono ∅⟩
   ·exact⟨((bb.mul Y.1).sub (bh.mul zy.1)).mono ∅,((bb.mul Y.2).sub (bh.mul zy.2)).mono ∅⟩
  ·rw[U]at F
   obtain⟨v,ev,rfl⟩:=uJ.mp F
   exact(h.lo v ev).sc bm
  ·rw[O]at F
   obtain⟨v,ev,rfl⟩:=uJ.mp F
   exact(h.hi v ev).sc bm
  ·rw[U];simp
  ·rw[O];simp
 ·have zw:∀l,xl g.2.2 s.lo s.hi=some l->BdP n l:=λl e=>by
   unfold xl at e
   split at e
   ·cases e
   ·split at e
    ·exact h.lo l e
    ·exact h.hi l e
  have mono:∀{t:Int×Int},BdP n t->BdP (n+14) t:=λz=>⟨z.1.mono ∅,z.2.mono ∅⟩
  have I:∀t∈V,BdP (n+14) t:=λt j=>by
   obtain⟨u,mu,rfl⟩:=wx.mp (pm.mem_iff.mp j)
   have zu:=h.tr u (w5 (w8 mu))
   unfold ZM
   cases ew:xl g.2.2 s.lo s.hi with
   |none=>exact mono zu
   |some v =>
    have zv:=zw v ew
    have b2:Bd 3 2:=show (2:Int).natAbs<2^3 by decide
    exact⟨((b2.mul zv.1).sub zu.1).mono ∅,((b2.mul zv.2).sub zu.2).mono ∅⟩
  refine⟨⟨by rw[e1];exact h.pb.mono ∅,by rw[e2];exact h.sb.mono ∅,by rw[e1];exact h.p0,by rw[e2];exact h.s0,λt j=>?_,λu F=>mono (h.lo u (by rw[<-U];exact F)),λu F=>mono (h.hi u (by rw[<-O];exact F))⟩,?_,by rw[U],by rw[O]⟩
  ·rw[G]at j
   rcases wK.mp j with j | j
   ·rcases wK.mp j with j | j
    ·exact mono (h.tr t (w8 j))
    ·exact I t j
   ·exact mono (h.tr t (w5 j))
  ·have el:V.length=g.2.1+1-g.1:=by
    rw[pm.length_eq,wk]
    unfold qZ
    rw[show ((g.2.1:Int)+1)=((g.2.1+1:Nat):Int) by lia,HT.sIx_nat,HT.sIx_nat,wU,wV]
    lia
   rw[G,wC,wC,wU,wV,el]
   lia
def zag {α γ:Type} [DecidableEq α] {ss:List α}{f:Nat->Nat->Option γ}:∀{n:Nat}{g:γ},g∈rlG ss f n->∃i,i<n/\f (stG ss i) i=some g
 |0,_,m=>by cases m
 |n+1,g,m=>by
  unfold rlG at m
  split at m
  ·rcases wK.mp m with m | m
   ·obtain⟨i,h1,h2⟩:=zag m;exact⟨i,by lia,h2⟩
   ·exact⟨n,by lia,uU.mp m⟩
  ·obtain⟨i,h1,h2⟩:=zag m;exact⟨i,by lia,h2⟩
def zje {j:Bb}{lo hi:Bc}{t:Int×Int}{g:Bg}(h:g∈grP j lo hi t):g.1<=g.2.1/\g.2.1<j.length:=by
 unfold grP at h
 obtain⟨i,F,e⟩:=zag h
 unfold fP at e
 dsimp only at e
 split at e
 ·cases e;exact⟨xU _ _,F⟩
 ·cases e
def S0 (bs:List Bl) (lo hi:Be):SC:=⟨pbO bs lo hi,sbO bs lo hi,trO bs lo hi,lo.map (trB (pbO bs lo hi) (sbO bs lo hi)),hi.map (trB (pbO bs lo hi) (sbO bs lo hi))⟩
def gsO (bs:List Bl) (lo hi:Be) (t:Int×Int):List (Bg):=grP (S0 bs lo hi).trs (S0 bs lo hi).lo (S0 bs lo hi).hi t
inductive zhP (C:Addr) (CS:Addr) (CT:Addr) (Tb:Addr) (vs:Ba) (H:Hp) (Q:VK) (E:XK):Prop
 |mk:∀r wa bs lo hi,(vs=[V.ref r,.ref wa])->(In H r wa bs lo hi)->(va Tb laQ laP H)->((∀b∈bs,1<=b.wt/\b.wt<=1000))->(BdS 4200 (S0 bs lo hi))->((∀H',zk H H'->XT (chO bs lo hi)=none->Q .non H'))->((∀t S p m r' wa' us v1 v2 H',XT (chO bs lo hi)=some t->xP lo hi≠some (vt (tkO bs lo hi) t)->ZK (bs.map Bl.wt) (gsO bs lo hi t) (S0 bs lo hi) S->StT Tb H H'->va Tb laQ laP H'->H' p=some (.tup [.ref m,.ref r',.ref wa'])->zC H' m (vt (tkO bs lo hi) t)->H' r'=some (.tup us)->XW H' us ((S.trs.zip (bs.map Bl.wt)).map λz=>blT S.pb S.sb t z.1 z.2)->H' wa'=some (.tup [v1,v2])->Ji H' v1 (S.lo.map (ptT S.pb S.sb t))->Ji H' v2 (S.hi.map (ptT S.pb S.sb t))->Q (.ref p) H'))->((∀t p dx H',zk H H'->XT (chO bs lo hi)=some t->xP lo hi=some (vt (tkO bs lo hi) t)->H' dx=some (.xd [("moment",.ref p)])->zC H' p (vt (tkO bs lo hi) t)->E (.ref CS) (some dx) H'))->((∀t S pre g suf p dx H',XT (chO bs lo hi)=some t->xP lo hi≠some (vt (tkO bs lo hi) t)->gsO bs lo hi t=pre++g::suf->ZK (bs.map Bl.wt) pre (S0 bs lo hi) S->refB (bs.map Bl.wt) g S->StT Tb H H'->va Tb laQ laP H'->H' dx=some (.xd [("moment",.ref p)])->zC H' p (vt (tkO bs lo hi) t)->E (.ref CT) (some dx) H'))->zhP C CS CT Tb vs H Q E
theorem zhs (j:Bb) (lo hi:Bc) (t:Int×Int):(grP j lo hi t).length<=j.length:=by
 unfold grP
 have:∀n,(rlG (j.map λl=>xu l t) (fP j lo hi t) n).length<=n:=λn=>by
  induction n with
  |zero=>exact wq _
  |succ n ih =>
   unfold rlG
   split
   ·rw[wC]
    have:((fP j lo hi t (stG (j.map λl=>xu l t) n) n).toList).length<=1:=by cases fP j lo hi t (stG (j.map λl=>xu l t) n) n <;> simp
    lia
   ·lia
 exact this _
theorem JL:zF ["row","walls","course","ticks","group","row_then","walls_then"] ["row","walls"] (zr VT):=scq
theorem zlg {C CS CT Tb fi:Addr}{e9:FuncData}(D:Df K mg "behind" VT ["row","walls"] []) (M:Mk K C fi) (Fi:vC P w K mg base CX0 4 fi e9 ["self","row","walls"] (zkb C)) (i7:mg "Course" = some (.ref C)) (Bi:vI K e9 ["self","row","walls"] [])
  (f5:XU P w K mg base "first_ticks" 5 ["course","walls"] [] (zki C CS)) (g2:⇑3 "moment_of" 3 ["course","ticks"] [] (zfT C)) (h3:⇑3 "groups_at" 3 ["course","ticks"] [] (zkj C)) (f0:XU P w K mg base "rebound" 5 ["course","group","ticks"] [] (zkq C CT Tb)) (f8:⇑3 "placed" 4 ["course","ticks"] [] (zko C)) :
  XU P w K mg base "behind" 6 ["row","walls"] [] (zhP C CS CT Tb):=by
 rcases r:D.cal1q (k:=5) JL with⟨r,wa,bs,lo,hi,rfl,I,T0,i3,a1,k1,k2,k3,k4⟩
 obtain⟨us,f4,hB⟩:=I.row
 rcases q:I.walls with⟨v1,v2,hw,h1,h2⟩
 have d1:xf 3 _:=hr.md
 have f1:xf 4 _:=hr.md
 refine⟨_,(zA (psl (i:=2) JL.nd (zhh M Fi hr ⇑2 i7 Bi .nil zir %[0,1|0]))
  (zA (psl (i:=3) JL.nd (zfi f5 hr Js %[2,1|0]))
  (zA (zZ (zI qy (pv 3) zV (zJ _)) (zj (zG zV)) zQ)
  (zA (qD PassesOwn.leaving rfl (xM (zH h3 d1 %[2,3|0])) (pgl (i:=4) JL.nd) (zj (qz (zfi f0 hr Js %[2,4,3|0]))))
  (zA (qf (zH f8 f1 %[2,3|0]) (qu rfl (zP (pgl (i:=5) JL.nd) (zP (pgl (i:=6) JL.nd) xw))))
  (zj (zG (xa %[(zH g2 d1 %[2,3|0]),5,6|0])))))))),?_⟩
 try dsimp only[xi,Cx.nox]
 refine⟨01,λc dx hc f3 ne=>?_⟩
 have SS:zk H (upd (upd H dx (.own c)) c (.ins C dx [])):=(zk.upd f3).trans (zk.upd (by rw[zK ne.symm];exact hc))
 refine⟨c,dx,r,wa,us,bs,v1,v2,lo,hi,rL,zi,SS _ _ f4,hB.keeps (.of SS),SS _ _ hw,h1.keeps (.of SS),h2.keeps (.of SS),I.len,I.sz,λH1 X1 e4=>⟨rL,?_⟩⟩
 have c7:=e4.co
 have S1:zk H H1:=λb o e=>X1 b o (zN e hc) (SS b o e)
 dsimp only[zM]
 refine⟨01,c,_,_,_,_,_,_,_,wa,v1,v2,lo,hi,rfl,c7,by rw[wk];exact I.len,I.bd,I.tk,S1 _ _ hw,h1.keeps (.of S1),h2.keeps (.of S1),I.lo,I.hi,?_,?_,?_⟩
 ·intro H2 s2 e
  dsimp only[zM]
  exact⟨00,rL,00,xp (k1 H2 (S1.trans s2) e)⟩
 ·intro v t H2 s2 e n hv
  obtain⟨ta,rfl,b5⟩:=hv
  dsimp only[zM]
  refine⟨00,rL,00,xm ?_⟩
  have so:=zda I.bd e
  have zt:BdP 4400 t:=⟨so.2.1.md,so.2.2.md⟩
  have S2:=S1.trans s2
  have e3:=c7.same s2
  have f2:∀l∈(S0 bs lo hi).trs,BdP 4400 l:=λl m=>⟨(a1.tr l m).1.md,(a1.tr l m).2.md⟩
  have h4:∀l,(S0 bs lo hi).lo=some l->BdP 4400 l:=λl m=>⟨(a1.lo l m).1.md,(a1.lo l m).2.md⟩
  have g5:∀l,(S0 bs lo hi).hi=some l->BdP 4400 l:=λl m=>⟨(a1.hi l m).1.md,(a1.hi l m).2.md⟩
  have c9:(S0 bs lo hi).trs.length<=8:=by show (trO bs lo hi).length<=8;unfold trO;rw[wk];exact I.len
  nofun
  refine⟨01,c,ta,_,_,_,_,_,_,_,t,rL,e3,c9,b5,zt,f2,h4,g5,λGl gv H4 s4 e5 hG c8=>?_⟩
  rcases q:e4 with⟨i6,i0,F,c5,F1,c6,h7⟩
  have d3:H F=none:=SS.free h7
  have S4:=S2.trans s4
  rcases q:F1.tracks with⟨j6,f7,ext,a8,e8⟩
  rw[c6]at ext;cases ext
  have g7:CoT H1 C c F (S0 bs lo hi).pb (S0 bs lo hi).sb (tkO bs lo hi) (bs.map Bl.wt) (S0 bs lo hi).trs (S0 bs lo hi).lo (S0 bs lo hi).hi:=⟨i6,i0,f7,c5,F1,c6,a8,e8⟩
  have g1:=g7.same (s2.trans s4)
  have T4:=T0.same S4
  obtain⟨j7,U,_⟩:=id T4
  have a5:=s4 _ _ (s2 _ _ c5)
  have b6:=s4 _ _ (s2 _ _ a8)
  have d2:Gl∉[Tb,c,F]:=λz=>by
   rcases wy.mp z with rfl | z
   ·rw[hG]at U;cases U
   ·rcases wy.mp z with rfl | z
    ·rw[hG]at a5;cases a5
    ·have:Gl=F:=↥z
     rw[this,s2 _ _ a8]at e5;cases e5
  have b8:ta∉[Tb,c,F]:=λz=>by
   have h:=s4 _ _ b5
   rcases wy.mp z with rfl | z
   ·rw[h]at U;cases U
   ·rcases wy.mp z with rfl | z
    ·rw[h]at a5;cases a5
    ·have:ta=F:=↥z
     rw[this,b6]at h;cases h
  have g8:gv.length=(gsO bs lo hi t).length:=c8.1
  have j5:(gsO bs lo hi t).length<=8:=wY (zhs ..) c9
  have d6:(bs.map Bl.wt).length=(S0 bs lo hi).trs.length:=by show _=(trO bs lo hi).length;unfold trO;rw[wk,wk]
  have e6:∀x∈bs.map Bl.wt,1<=x/\x<=1000:=λx mx=>by obtain⟨b,mb,rfl⟩:=wx.mp mx;exact i3 b mb
  have b0:∀{G:Hp},(∀b o,H4 b=some o->b∉[Tb,c,F]->G b=some o)->StT Tb H G:=λ{G} V b o eb nb=>V b o (S4 _ _ eb) λz=>by
   rcases wy.mp z with z | z
   ·exact nb z
   ·rcases wy.mp z with rfl | z
    ·rw[hc]at eb;cases eb
    ·have:b=F:=↥z
     rw[this,d3]at eb;cases eb
  refine⟨Gl,rL,⟨_,SqL.of hG⟩,?_⟩
  refine Zg (xs:=gv) (λi σ G=>∃z4 S a3,σ=[Sr r,Sr wa,Sr c,Sr ta,z4,none,none]/\ZK (bs.map Bl.wt) ((gsO bs lo hi t).take i) (S0 bs lo hi) S/\CoT G C c a3 S.pb S.sb (tkO bs lo hi) (bs.map Bl.wt) S.trs S.lo S.hi/\va Tb laQ laP G/\(∀b o,H4 b=some o->b∉[Tb,c,F]->G b=some o)/\(a3=F\/H4 a3=none)/\BdS (4200+14*i) S/\S.trs.length=(S0 bs lo hi).trs.length)
   ⟨_,S0 bs lo hi,F,rfl,.nil _,g1,T4,λ_ _ eb _=>eb,.inl rfl,a1,rfl⟩ (λi σ G i8 ⟨_,_,_,_,_,_,_,V,_⟩=>SqL.of (V _ _ hG d2)) ?_ ?_
  ·rintro i xg σ G d5 c0;rcases q:c0 with⟨z4,S,a3,rfl,V,a9,TT,W,a6,j,Y⟩
   rcases q:c8.2 i xg d5 with⟨g,eg,ga,rfl,a7⟩
   have i8:i<gv.length:=(wn.mp d5).1
   have c3:=zje (wm eg)
   have d7:ga∉[Tb,c,F]:=λz=>by
    rcases wy.mp z with rfl | z
    ·rw[a7]at U;cases U
    ·rcases wy.mp z with rfl | z
     ·rw[a7]at a5;cases a5
     ·have:ga=F:=↥z
      rw[this,b6]at a7;cases a7
   have d9:g.2.1<S.trs.length:=by rw[Y];exact c3.2
   have O:4200+14*i<=4600:=by lia
   have i5:(gsO bs lo hi t).take (i+1)=(gsO bs lo hi t).take i++[g]:=by
    have c2:(gsO bs lo hi t)[i]?=some g:=eg
    rw[yu,c2];rfl
   dsimp only[zM]
   refine⟨02,c,a3,ga,ta,g.1,g.2.1,g.2.2,t,S.pb,S.sb,tkO bs lo hi,bs.map Bl.wt,S.trs,S.lo,S.hi,rfl,a9,W _ _ a7 d7,W _ _ (s4 _ _ b5) b8,by lia,zt,I.tk,c3.1,d9,by lia,by rw[d6,Y],e6,j.pb.mono O,j.sb.mono O,λt' m=>⟨(j.tr t' m).1.mono O,(j.tr t' m).2.mono O⟩,λl m=>⟨(j.lo l m).1.mono O,(j.lo l m).2.mono O⟩,λl m=>⟨(j.hi l m).1.mono O,(j.hi l m).2.mono O⟩,TT,?_,?_⟩
   ·intro G' b4 e7 d0 b7 c4 b3 ch tt f9 rb ct
    have e2:RbS (bs.map Bl.wt) g S ⟨e7,d0,b7,c4,b3⟩:=rb
    obtain⟨b1,b2,_⟩:=zes e6 j e2 c3.1 d9
    refine⟨_,⟨e7,d0,b7,c4,b3⟩,b4,rfl,by rw[i5];exact V.snoc e2,ct,tt,λb o eb nb=>ch b o (λz=>?_) (W b o eb nb),?_,by rw[show 4200+14*(i+1)=4200+14*i+14 by lia];exact b1,b2.trans Y⟩
    ·rcases wy.mp z with rfl | z
     ·exact nb (wT ..)
     ·rcases wy.mp z with rfl | z
      ·rcases a6 with z2 | z2
       ·exact nb (by rw[z2];simp)
       ·rw[eb]at z2;cases z2
      ·have:b=c:=↥z
       exact nb (by rw[this];simp)
    ·rcases f9 with rfl | hn
     ·exact a6
     ·by_cases z0:b4=F
      ·exact .inl z0
      ·refine .inr ?_
       cases ez:H4 b4 with
       |none=>rfl
       |some o =>
        have nb:b4∉[Tb,c,F]:=λz=>by
         rcases wy.mp z with rfl | z
         ·obtain⟨ps,gT,_⟩:=TT;rw[gT]at hn;cases hn
         ·rcases wy.mp z with rfl | z
          ·obtain⟨_,_,_,gc,_⟩:=a9;rw[gc]at hn;cases hn
          ·exact z0 ↥z
        rw[W _ _ ez nb]at hn;cases hn
   ·intro G' g4 pe ss c1 i2 i4 f6
    refine⟨CT,rL,k4 t S ((gsO bs lo hi t).take i) g ((gsO bs lo hi t).drop (i+1)) pe g4 G' e n ?_ V ⟨c1,i2⟩ (λb o eb nb=>ss _ _ (b0 W b o eb nb)) (TT.same ss) i4 f6⟩
    have b3:i<(gsO bs lo hi t).length:=by lia
    have c2:(gsO bs lo hi t)[i]?=some g:=eg
    obtain⟨_,i1⟩:=wn.mp c2
    rw[<-i1,<-yj b3,List.take_append_drop]
  ·rintro σ G c0;rcases q:c0 with⟨z4,S,a3,rfl,V,a9,TT,W,a6,j,Y⟩
   have O:4200+14*gv.length<=4312:=by lia
   have a4:4200+14*gv.length<=4400:=by lia
   rcases q:id a9 with⟨h0,g6,j3,g3,F5,j4,i9,j0⟩
   obtain⟨tp,h6,h8⟩:=F5.tick
   have b9:=W _ _ (s4 _ _ b5) b8
   refine⟨01,c,a3,ta,S.pb,S.sb,tkO bs lo hi,bs.map Bl.wt,S.trs,S.lo,S.hi,t,rfl,a9,b9,zt,by lia,by rw[d6,Y],λt' m=>⟨(j.tr t' m).1.mono a4,(j.tr t' m).2.mono a4⟩,λl m=>⟨(j.lo l m).1.mono a4,(j.lo l m).2.mono a4⟩,λl m=>⟨(j.hi l m).1.mono a4,(j.hi l m).2.mono a4⟩,by have:=j.p0;lia,by have:=j.s0;lia,by lia,j.pb.mono a4,j.sb.mono ∅,(((j.pb.mono O).mul zt.2).md),λp r' d8 g9 w1 w2 G5 s5 hp g0 e0 d4 c1 h9=>?_⟩
   refine⟨p,00,.of hp,rL,021,022,?_⟩
   dsimp only[zM]
   refine⟨01,c,ta,h0,g6,tp,_,t.1,t.2,rfl,s5 _ _ g3,h6,s5 _ _ h8,s5 _ _ b9,by lia,zt.1,zt.2,I.tk,λm G6 s6 hm=>⟨01,zL3,λpp h5=>?_⟩⟩
   have s7:=zk.upd (o:=.tup [.ref m,.ref r',.ref d8]) h5
   have a2:=s6.trans s7
   refine k2 t S pp m r' d8 g9 w1 w2 _ e n ?_ (λb o eb nb=>a2 _ _ (s5 _ _ (b0 W b o eb nb))) ((TT.same s5).same a2) zi (s7 _ _ hm) (a2 _ _ g0) (e0.keeps (.of a2)) (a2 _ _ d4) (c1.keeps (.of a2)) (h9.keeps (.of a2))
   rw[g8,WK]at V
   exact V
 ·intro t p d H2 s2 e e' hd hp
  exact⟨CS,rL,k3 t p d H2 (S1.trans s2) e e' hd hp⟩
end KQ
namespace KT
open PySem L2 KM KK KQ
def bl (b:zB):KQ.Bl:=⟨b.pl,b.sp,b.wt⟩
def zlZ {H:Hp}{us:Ba}{bs:Bk}(h:zL H us bs):XW H us (bs.map bl):=by
 refine⟨by rw[h.length,wk],λi v e=>?_⟩
 obtain⟨a,p,q,b,j,rfl,h1,h2,F⟩:=h.get e
 exact⟨bl b,by rw[we,j];rfl,a,p,q,rfl,h1,h2,F⟩
def zh9 {H:Hp}{v:V}{l:Wl}(h:zT H v l):qR H v l:=by
 cases l with
 |none=>exact h
 |some u=>obtain⟨x,y⟩:=u;obtain⟨a,p,q,rfl,h1,h2,j⟩:=h;exact⟨a,rfl,p,q,[],h1,h2,j⟩
def tl (bs:Bk) (lo hi:Wl):List (Rat×Rat):=xK lo++bs.map (λb=>(b.pl,b.sp))++xK hi
def zcL (F j:Int) (l:Wl):zdX (l.map (trB F j))=(xK l).map (trB F j):=by cases l <;> rfl
def zeu (bs:Bk) (lo hi:Wl):chO (bs.map bl) lo hi=(tl bs lo hi).map (trB (pbO (bs.map bl) lo hi) (sbO (bs.map bl) lo hi)):=by
 unfold chO chn trO tl
 rw[zcL,zcL,yK,yK,wW,wW];rfl
def zaz (bs:Bk) (lo hi:Wl):trO (bs.map bl) lo hi=bs.map λb=>trB (pbO (bs.map bl) lo hi) (sbO (bs.map bl) lo hi) (b.pl,b.sp):=by
 unfold trO;rw[wW];rfl
def QX {bs:Bk}{lo hi:Wl}{t:Rat×Rat}:t∈ths (bs.map bl) lo hi↔t∈tl bs lo hi:=by
 unfold ths tl
 rw[wW]
 simp only[wK]
 show t∈bs.map (λb=>(b.pl,b.sp))\/_↔_
 constructor
 ·rintro (h | h | h)
  ·exact .inl (.inr h)
  ·exact .inl (.inl h)
  ·exact .inr h
 ·rintro ((h | h) | h)
  ·exact .inr (.inl h)
  ·exact .inl h
  ·exact .inr (.inr h)
def zaF (tk:Rat) (u:Bc) (f:Bj):Prop:=(u=none/\f=none)\/∃t m,u=some t/\f=some m/\0<t.2/\vt tk t=m
def zaW {a b:Int}:((a:Rat)<(b:Rat))↔a<b:=Rat.intCast_lt_intCast
def zf3 {F j:Int}(hp:0<F) (hs:0<j){l r:Rat×Rat}(d1:(l.1.den:Int) ∣ F) (d2:(l.2.den:Int) ∣ j) (d3:(r.1.den:Int) ∣ F) (d4:(r.2.den:Int) ∣ j){u:Bc}{f:Bj}(h:zaF (Rat.divInt j F) u f) :
  zaF (Rat.divInt j F) (qG u (trB F j l,trB F j r)) (qo f (l,r)):=by
 have e1:(((trB F j l).1:Int):Rat)=l.1*F:=byq d1
 have e2:(((trB F j l).2:Int):Rat)=l.2*j:=byq d2
 have e3:(((trB F j r).1:Int):Rat)=r.1*F:=byq d3
 have Y:(((trB F j r).2:Int):Rat)=r.2*j:=byq d4
 have G:(0:Rat)<(F:Rat):=by exact_mod_cast hp
 have O:(0:Rat)<(j:Rat):=by exact_mod_cast hs
 have S:(trB F j r).2<(trB F j l).2↔r.2<l.2:=by
  rw[<-zaW,e2,Y,Rat.mul_lt_mul_right O]
 generalize trB F j l=L at *
 generalize trB F j r=R at *
 unfold qG qo
 by_cases c:r.2<l.2
 ·have c':=S.mpr c
  rw[if_pos (show (L,R).2.2<(L,R).1.2 from c'),if_pos (show (l,r).2.2<(l,r).1.2 from c)]
  have pos:0<L.2-R.2:=by lia
  have V:vt (Rat.divInt j F) (R.1-L.1,L.2-R.2)=mo l r:=by
   unfold vt
   rw[zgU _ (by show L.2-R.2≠0;lia)]
   show ((R.1-L.1:Int):Rat)*_/((L.2-R.2:Int):Rat)=_
   rw[Rat.intCast_sub,Rat.intCast_sub,e1,e2,e3,Y,yM]
   exact ze9 G O c
  rcases h with⟨rfl,rfl⟩ | ⟨t,m,rfl,rfl,W,hm⟩
  ·exact .inr ⟨(R.1-L.1,L.2-R.2),mo l r,rL,rL,pos,V⟩
  ·have U:(0:Rat)<Rat.divInt j F:=by
    rw[yM,Yb G];grind
   have I:(R.1-L.1)*t.2<t.1*(L.2-R.2)↔mo l r<m:=by
    rw[<-V,<-hm]
    unfold vt
    rw[zgU _ (show (R.1-L.1,L.2-R.2).2≠0 by show L.2-R.2≠0;lia),zgU _ (show t.2≠0 by lia)]
    rw[zgJ (by exact_mod_cast pos) (by exact_mod_cast W) U]
    rw[<-zaW]
    show _↔((R.1-L.1:Int):Rat)*(t.2:Rat)<(t.1:Rat)*((L.2-R.2:Int):Rat)
    rw[ua,ua]
   show zaF _ (if(R.1-L.1)*t.2<t.1*(L.2-R.2)then some (R.1-L.1,L.2-R.2)else some t) (if mo l r<m then some (mo l r)else some m)
   by_cases c2:mo l r<m
   ·rw[if_pos (I.mpr c2),if_pos c2]
    exact .inr ⟨_,_,rL,rL,pos,V⟩
   ·rw[if_neg (λz=>c2 (I.mp z)),if_neg c2]
    exact .inr ⟨_,_,rL,rL,W,hm⟩
 ·rw[if_neg (show ¬(L,R).2.2<(L,R).1.2 from λz=>c (S.mp z)),if_neg (show ¬(l,r).2.2<(l,r).1.2 from c)]
  exact h
def zaU {j F:Int}(G:0<j) (I:0<F):∀{L:List ((Rat×Rat)×(Rat×Rat))}{u:Bc}{f:Bj},(∀p∈L,((p.1.1.den:Int) ∣ j/\(p.1.2.den:Int) ∣ F)/\(p.2.1.den:Int) ∣ j/\(p.2.2.den:Int) ∣ F)->zaF (Rat.divInt F j) u f →
  zaF (Rat.divInt F j) ((L.map λp=>(trB j F p.1,trB j F p.2)).foldl qG u) (L.foldl qo f)
 |[],u,f,_,h=>h
 |p::L,u,f,hL,h=>by
  obtain⟨⟨a,b⟩,c,d⟩:=hL p wT
  show zaF _ ((L.map λp=>(trB j F p.1,trB j F p.2)).foldl qG (qG u (trB j F p.1,trB j F p.2))) (L.foldl qo (qo f p))
  exact zaU G I (λq O=>hL q (wR _ O)) (zf3 G I a b c d h)
def zfO {j F:Int}(G:0<j) (O:0<F){ch:List (Rat×Rat)} (hd:∀t∈ch,(t.1.den:Int) ∣ j/\(t.2.den:Int) ∣ F):zaF (Rat.divInt F j) (XT (ch.map (trB j F))) (qI ch):=by
 unfold XT qI
 have e:(ch.map (trB j F)).zip (ch.map (trB j F)).tail=(ch.zip ch.tail).map λp=>(trB j F p.1,trB j F p.2):=by
  rw[<-List.map_tail,List.zip_map];rfl
 rw[e]
 refine zaU G O (λp I=>?_) (.inl ⟨rL,rL⟩)
 have z:=uz I
 exact⟨hd _ z.1,hd _ (WN z.2)⟩
def zcD {n:Nat}{qs:Al}(h:∀q∈qs,Bd n (q.den:Int)):0<J9 qs/\Bd (1+n*qs.length) (J9 qs)/\∀q∈qs,(q.den:Int) ∣ J9 qs:=by
 obtain⟨O,F,_,I⟩:=VJ (n:=n) (ks:=qs.map λq=>(q.den:Int)) (c:=1) (m:=1) ⇑1 (show (1:Int).natAbs<2^1 by decide) (λk G=>by
  obtain⟨q,j,rfl⟩:=wx.mp G
  exact⟨by have:=q.den_pos;lia,h q j⟩)
 rw[wk]at F
 exact⟨O,F,λq j=>I _ (wx.mpr ⟨q,j,rL⟩)⟩
def zaL {n:Nat}{b d:Int}(j:0<b) (hd:0<d) (h:Bd n b):Bd n (b.fdiv d):=by
 rw[yp _ ∅]
 exact h.of_le (by have:=Wb d (a:=b) ∅;have:=Yy (a:=b) (b:=d) ∅ ∅;lia)
def zed {bs:List KQ.Bl}{lo hi:Wl}(h:bs.length<=8):(ths bs lo hi).length<=10:=by
 unfold ths
 have e:∀w:Wl,(xK w).length<=1:=λw=>by cases w <;> simp[xK]
 have:=e lo
 have:=e hi
 simp only[wC,wk];lia
structure Bot (bs:Bk) (lo hi:Wl):Prop where
 p0:0<pbO (bs.map bl) lo hi
 s0:0<sbO (bs.map bl) lo hi
 pz:Bd 3201 (pbO (bs.map bl) lo hi)
 sz:Bd 801 (sbO (bs.map bl) lo hi)
 dv:∀t∈tl bs lo hi,(t.1.den:Int) ∣ pbO (bs.map bl) lo hi/\(t.2.den:Int) ∣ sbO (bs.map bl) lo hi
def TZ (bs:Bk) (lo hi:Wl):Prop:=∀t∈tl bs lo hi,Sz 320 t.1/\Sz 80 t.2
def bot {bs:Bk}{lo hi:Wl}(h:bs.length<=8) (hz:TZ bs lo hi):Bot bs lo hi:=by
 have W:=zed (bs:=bs.map bl) (lo:=lo) (hi:=hi) (by rw[wk];exact h)
 obtain⟨S,I,O⟩:=zcD (n:=320) (qs:=(ths (bs.map bl) lo hi).map (·.1)) (λq F=>by obtain⟨t,j,rfl⟩:=wx.mp F;exact(hz t (QX.mp j)).1.2)
 obtain⟨V,G,U⟩:=zcD (n:=80) (qs:=(ths (bs.map bl) lo hi).map (·.2)) (λq F=>by obtain⟨t,j,rfl⟩:=wx.mp F;exact(hz t (QX.mp j)).2.2)
 rw[wk]at I G
 exact⟨S,V,I.mono ∅,G.mono ∅,λt j=>⟨O _ (wx.mpr ⟨t,QX.mpr j,rL⟩),U _ (wx.mpr ⟨t,QX.mpr j,rL⟩)⟩⟩
def zlb {H:Hp}{r O:Addr}{us:Ba}{G F:V}{bs:Bk}{lo hi:Wl}(hr:H r=some (.tup us)) (U:zL H us bs) (hw:H O=some (.tup [G,F])) (h1:zT H G lo) (h2:zT H F hi) (I:bs.length<=8) (hz:TZ bs lo hi):In H r O (bs.map bl) lo hi:=by
 have B:=bot I hz
 refine⟨⟨us,hr,zlZ U⟩,⟨G,F,hw,zh9 h1,zh9 h2⟩,by rw[wk];exact I,λt j=>⟨(hz t (QX.mp j)).1.md,(hz t (QX.mp j)).2.md⟩,λt j=>?_,?_⟩
 ·rw[zeu]at j
  obtain⟨s,S,rfl⟩:=wx.mp j
  have z:=hz s S
  exact⟨(z.1.1.mul (zaL B.p0 (KM.den_pos _) B.pz)).md,(z.2.1.mul (zaL B.s0 (KM.den_pos _) B.sz)).md⟩
 ·exact(Sz.divInt (by have:=B.p0;lia) (B.sz.mono (by decide:801<=3201)) B.pz).md
def zhO {bs:Bk}{lo hi:Wl}(B:Bot bs lo hi):zaF (tkO (bs.map bl) lo hi) (XT (chO (bs.map bl) lo hi)) (qI (tl bs lo hi)):=by
 rw[zeu];exact zfO B.p0 B.s0 B.dv
def Xu (l r:Rat×Rat):Prop:=l.1<r.1\/(l.1=r.1/\l.2<=r.2)
structure Ord (bs:Bk) (lo hi:Wl):Prop where
 pw:(tl bs lo hi).Pairwise Xu
 lt:∀x y x' y',lo=some (x,y)->hi=some (x',y')->x<x'
def zju {l r:Rat×Rat}(h:Xu l r) (c:r.2<l.2):0<mo l r:=by
 unfold mo
 rcases h with h | ⟨_,h⟩
 ·rw[Yb (by grind)];grind
 ·grind
def zaT:∀{L:List ((Rat×Rat)×(Rat×Rat))}{f:Bj},(∀p∈L,p.2.2<p.1.2->0<mo p.1 p.2)->(∀u,f=some u->0<u)->∀u,L.foldl qo f=some u->0<u
 |[],_,_,h=>h
 |p::L,f,hL,h=>by
  refine zaT (L:=L) (f:=qo f p) (λq m=>hL q (wR _ m)) λu j=>?_
  unfold qo at j
  split at j
  ·have:=hL p wT ‹_›
   split at j
   ·cases j;exact this
   ·split at j
    ·cases j;exact this
    ·cases j;exact h _ rfl
  ·exact h u j
def vk {bs:Bk}{lo hi:Wl}(O:Ord bs lo hi){m:Rat}(h:qI (tl bs lo hi)=some m):0<m:=by
 refine zaT (λp j c=>?_) (λu e=>by cases e) m h
 obtain⟨i,e1,e2⟩:=za0 j
 obtain⟨h1,F⟩:=wn.mp e1
 obtain⟨h2,G⟩:=wn.mp e2
 have:=uZ.mp O.pw i (i+1) h1 h2 ∅
 rw[F,G]at this
 exact zju this c
def Ord.lo {bs:Bk}{lo hi:Wl}(O:Ord bs lo hi){x y:Rat}(e:lo=some (x,y)){b:zB}(m:b∈bs):Xu (x,y) (b.pl,b.sp):=by
 subst e
 have:=O.pw
 unfold tl at this
 rw[wI,wI]at this
 exact this.1.2.2 _ (by simp[xK]) _ (wx.mpr ⟨b,m,rfl⟩)
def Ord.hi {bs:Bk}{lo hi:Wl}(O:Ord bs lo hi){x y:Rat}(e:hi=some (x,y)){b:zB}(m:b∈bs):Xu (b.pl,b.sp) (x,y):=by
 subst e
 have:=O.pw
 unfold tl at this
 rw[wI]at this
 exact this.2.2 _ (ww _ (wx.mpr ⟨b,m,rfl⟩)) _ (by simp[xK])
def zS (m:Rat) (b:zB):zB:=⟨b.pl+b.sp*m,b.sp,b.wt⟩
def zO (m:Rat) (l:Wl):Wl:=match l with | none=>none | some (x,y)=>some (x+y*m,y)
def Vj (m:Rat) (bs:Bk):Al:=bs.map λb=>b.pl+b.sp*m
def Jc {j F:Int}{t:Int×Int}{x y m:Rat}(O:0<j) (G:0<t.2) (V:(x.den:Int) ∣ j) (I:(y.den:Int) ∣ F) (S:vt (Rat.divInt F j) t=m):((xu (trB j F (x,y)) t:Int):Rat)=(x+y*m)*((j:Rat)*(t.2:Rat)):=by
 have e1:(((trB j F (x,y)).1:Int):Rat)=x*j:=byq V
 have e2:(((trB j F (x,y)).2:Int):Rat)=y*F:=byq I
 have U:(j:Rat)≠0:=by
  have:(0:Rat)<(j:Rat):=by exact_mod_cast O
  grind
 have W:(t.2:Rat)≠0:=by
  have:(0:Rat)<(t.2:Rat):=by exact_mod_cast G
  grind
 unfold xu
 rw[Rat.intCast_add,ua,ua,e1,e2,<-S]
 unfold vt
 rw[zgU _ ∅,yM]
 grind
def zde {j F:Int}{t:Int×Int}{x y I G m:Rat}(S:0<j) (O:0<t.2) (d1:(x.den:Int) ∣ j) (d2:(y.den:Int) ∣ F) (d3:(I.den:Int) ∣ j) (Y:(G.den:Int) ∣ F) (W:vt (Rat.divInt F j) t=m):xu (trB j F (x,y)) t=xu (trB j F (I,G)) t↔x+y*m=I+G*m:=by
 have k1:=Jc S O d1 d2 W
 have k2:=Jc S O d3 Y W
 have U:(0:Rat)<(j:Rat):=by exact_mod_cast S
 have V:(0:Rat)<(t.2:Rat):=by exact_mod_cast O
 have a1:(j:Rat)*(t.2:Rat)≠0:=by
  have:=Rat.mul_pos U V
  grind
 constructor
 ·intro h
  rw[h]at k1
  have:(x+y*m)*((j:Rat)*(t.2:Rat))=(I+G*m)*((j:Rat)*(t.2:Rat)):=by rw[<-k1,<-k2]
  grind
 ·intro h
  rw[h,<-k2]at k1
  exact_mod_cast k1
def ziJ {G j:Int}{x y I F:Rat}(U:0<j) (S:(y.den:Int) ∣ j) (O:(F.den:Int) ∣ j):(trB G j (x,y)).2=(trB G j (I,F)).2↔y=F:=by
 have e1:(((trB G j (x,y)).2:Int):Rat)=y*j:=byq S
 have e2:(((trB G j (I,F)).2:Int):Rat)=F*j:=byq O
 have V:(j:Rat)≠0:=by
  have:(0:Rat)<(j:Rat):=by exact_mod_cast U
  grind
 constructor
 ·intro h
  rw[h,e2]at e1
  grind
 ·intro h
  have:(((trB G j (x,y)).2:Int):Rat)=(((trB G j (I,F)).2:Int):Rat):=by rw[e1,e2,h]
  exact_mod_cast this
def atW (l:Wl) (k:Rat):Bool:=match l with
 |none=>false
 |some (x,_)=>decide (x=k)
def xT (lo hi:Wl) (k:Rat):Str:=if atW lo k=true then "low" else if atW hi k=true then "high" else ""
def vK (cs:Bk) (lo hi:Wl) (a b:Nat):Bool:=match cs[a]?,cs[b]? with
 |some ca,some cb=>if atW lo ca.pl=true then(match lo with | some (_,y)=>decide (ca.sp<y) | none=>false)else if atW hi ca.pl=true then(match hi with | some (_,y)=>decide (y<cb.sp) | none=>false)else false
 |_,_=>false
def wsp (l:Wl) (f:Rat->Bool):Bool:=match l with
 |some (_,y)=>f y
 |none=>false
def J4 {cs:Bk}{lo hi:Wl}{a b:Nat}{j F:zB}(I:cs[a]?=some j) (G:cs[b]?=some F):vK cs lo hi a b=if atW lo j.pl=true then wsp lo (λy=>decide (j.sp<y))else if atW hi j.pl=true then wsp hi (λy=>decide (y<F.sp))else false:=by
 unfold vK
 rw[I,G];rfl
def zaq {lo hi:Wl}{k:Rat}(h:atW lo k=false):xT lo hi k=(if atW hi k=true then("high":Str)else("":Str)):=by
 unfold xT
 rw[if_neg (by rw[h];simp)]
def zc7 {lo hi:Wl}{k:Rat}(h:atW lo k=true):xT lo hi k=("low":Str):=by
 unfold xT
 rw[if_pos h]
def fL (cs:Bk) (lo hi:Wl) (a b:Nat):Option (Bg):=if a<b\/vK cs lo hi a b=true then some (a,b,xT lo hi (((cs.map zB.pl)[a]?).getD 0))else none
def grL (cs:Bk) (lo hi:Wl):List (Bg):=rlG (cs.map zB.pl) (fL cs lo hi) cs.length
def QA {α:Type} [DecidableEq α] {ss:List α}:∀{i:Nat},i<ss.length->∀j,stG ss i<=j->j<=i->ss[j]?=ss[i]?
 |0,_,j,_,h2=>by rw[show j=0 by lia]
 |i+1,hi,j,h1,h2=>by
  by_cases hb:brk ss i=true
  ·have e:stG ss (i+1)=i+1:=if_pos hb
   rw[show j=i+1 by lia]
  ·have e:stG ss (i+1)=stG ss i:=if_neg hb
   rw[e]at h1
   have F:ss[i+1]?=ss[i]?:=by
    have:brk ss i=false:=↥hb
    unfold brk at this
    rw[Bool.or_eq_false_iff]at this
    have:=of_decide_eq_false this.2
    exact Classical.byContradiction λz=>this z
   rcases WH i j with h | h
   ·rw[show j=i+1 by lia]
   ·rw[QA ∅ j h1 h,F]
def zbn {α β:Type} [DecidableEq α] [DecidableEq β] {ss:List α}{ts:List β}:∀{n:Nat},(∀i,i<n->brk ss i=brk ts i)->stG ss n=stG ts n
 |0,_=>rfl
 |n+1,h=>by
  have ih:=zbn (n:=n) λi hi=>h i ∅
  show (if brk ss n=true then n+1 else stG ss n)=(if brk ts n=true then n+1 else stG ts n)
  rw[h n ∅,ih]
def zbg {α β γ:Type} [DecidableEq α] [DecidableEq β] {ss:List α}{ts:List β}{f g:Nat->Nat->Option γ}:∀{n:Nat},(∀i,i<n->brk ss i=brk ts i)->(∀i,i<n->brk ts i=true->f (stG ts i) i=g (stG ts i) i)->rlG ss f n=rlG ts g n
 |0,_,_=>rfl
 |n+1,h,k=>by
  have ih:=zbg (n:=n) (f:=f) (g:=g) (λi hi=>h i (by omega)) (λi hi=>k i (by omega))
  have es:=zbn (ss:=ss) (ts:=ts) (n:=n) λi hi=>h i (by omega)
  show (if brk ss n=true then rlG ss f n++(f (stG ss n) n).toList else rlG ss f n)=(if brk ts n=true then rlG ts g n++(g (stG ts n) n).toList else rlG ts g n)
  rw[h n (by omega),ih,es]
  by_cases c:brk ts n=true
  ·rw[if_pos c,if_pos c,k n (by omega) c]
  ·rw[if_neg c,if_neg c]
def zbx {bs:Bk}{lo hi:Wl}{l:Wl}(B:Bot bs lo hi){t:Int×Int}{m:Rat}(F:0<t.2) (I:vt (tkO (bs.map bl) lo hi) t=m) (G:∀u,l=some u->u∈tl bs lo hi){b:zB}(O:b∈bs) :
  atS (l.map (trB (pbO (bs.map bl) lo hi) (sbO (bs.map bl) lo hi))) t (xu (trB (pbO (bs.map bl) lo hi) (sbO (bs.map bl) lo hi) (b.pl,b.sp)) t)=atW (zO m l) (b.pl+b.sp*m):=by
 cases l with
 |none=>rfl
 |some u =>
  obtain⟨x,y⟩:=u
  have d:=B.dv _ (G _ rfl)
  have j:=B.dv (b.pl,b.sp) (by unfold tl;exact wL _ (ww _ (wx.mpr ⟨b,O,rfl⟩)))
  show decide (_=xu (trB _ _ (x,y)) t)=decide (x+y*m=b.pl+b.sp*m)
  rw[yH,wP,wP,zde B.p0 F j.1 j.2 d.1 d.2 I]
  exact⟨λh=>h.symm,λh=>h.symm⟩
def zeC {j:Bb}{a:Nat}{u t:Int×Int}(e:j[a]?=some t):(0<cwN j (some u) a a)↔t.2≠u.2:=by
 show (0<(((j.drop a).take (a+1-a)).filter λt=>decide (t.2≠u.2)).length)↔_
 obtain⟨F,rfl⟩:=wn.mp e
 rw[show a+1-a=1 by lia,yj F,uE,List.take_zero]
 by_cases c:j[a].2≠u.2
 ·rw[uG ↥c];simp[c]
 ·rw[List.filter_cons_of_neg ↥c];simp at c;simp[c]
def zk4 {bs:Bk}{lo hi:Wl}(B:Bot bs lo hi) (O:Ord bs lo hi){t:Int×Int}{m:Rat}(ht:0<t.2) (hm:vt (tkO (bs.map bl) lo hi) t=m) (pm:0<m) :
  grP (trO (bs.map bl) lo hi) (lo.map (trB (pbO (bs.map bl) lo hi) (sbO (bs.map bl) lo hi))) (hi.map (trB (pbO (bs.map bl) lo hi) (sbO (bs.map bl) lo hi))) t=grL (bs.map (zS m)) (zO m lo) (zO m hi):=by
 have ek:(bs.map (zS m)).map zB.pl=Vj m bs:=by rw[wW];rfl
 have a1:(trO (bs.map bl) lo hi).map (λl=>xu l t)=bs.map λb=>xu (trB (pbO (bs.map bl) lo hi) (sbO (bs.map bl) lo hi) (b.pl,b.sp)) t:=by rw[zaz,wW];rfl
 have dB:∀b∈bs,(b.pl.den:Int) ∣ pbO (bs.map bl) lo hi/\(b.sp.den:Int) ∣ sbO (bs.map bl) lo hi:=λb mb=>B.dv (b.pl,b.sp) (by unfold tl;exact wL _ (ww _ (wx.mpr ⟨b,mb,rfl⟩)))
 have wl:∀u,lo=some u->u∈tl bs lo hi:=λu e=>by unfold tl;rw[e];simp[xK]
 have wh:∀u,hi=some u->u∈tl bs lo hi:=λu e=>by unfold tl;rw[e];simp[xK]
 unfold grP grL
 rw[ek,a1,show (trO (bs.map bl) lo hi).length=bs.length by rw[zaz,wk],wk]
 have W:∀i,i<bs.length->brk (bs.map λb=>xu (trB (pbO (bs.map bl) lo hi) (sbO (bs.map bl) lo hi) (b.pl,b.sp)) t) i=brk (Vj m bs) i:=λi F=>by
  unfold brk Vj
  rw[wk,wk,we,we,we,we]
  by_cases h1:i+1=bs.length
  ·rw[wo h1];rfl
  ·obtain⟨b,G⟩:∃b,bs[i]?=some b:=⟨_,wj F⟩
   obtain⟨c,ec⟩:∃b,bs[i+1]?=some b:=⟨_,wj ∅⟩
   have db:=dB b (wm G)
   have dc:=dB c (wm ec)
   rw[G,ec,wG h1,Wn,Wn,yH,wP,wP]
   show some _≠some _↔some _≠some _
   rw[ne_eq,ne_eq,Option.some.injEq,Option.some.injEq,zde B.p0 ht dc.1 dc.2 db.1 db.2 hm]
 refine zbg W λi F _=>?_
 have a4:=xU (Vj m bs) i
 obtain⟨b,G⟩:∃b,bs[i]?=some b:=⟨_,wj F⟩
 obtain⟨a,V⟩:∃b,bs[stG (Vj m bs) i]?=some b:=⟨_,wj ∅⟩
 have a3:a.pl+a.sp*m=b.pl+b.sp*m:=by
  have:=QA (ss:=Vj m bs) (i:=i) (by unfold Vj;rw[wk];exact F) (stG (Vj m bs) i) (wq _) a4
  unfold Vj at this
  rw[we,we]at this
  unfold Vj at V
  rw[V,G]at this
  simpa using this
 have mb:=wm G
 have ma:=wm V
 generalize stG (Vj m bs) i=j at *
 have U:ql (lo.map (trB (pbO (bs.map bl) lo hi) (sbO (bs.map bl) lo hi))) (hi.map (trB (pbO (bs.map bl) lo hi) (sbO (bs.map bl) lo hi))) t (xu (trB (pbO (bs.map bl) lo hi) (sbO (bs.map bl) lo hi) (b.pl,b.sp)) t)=xT (zO m lo) (zO m hi) (a.pl+a.sp*m):=by
  unfold ql xT
  rw[zbx B ht hm wl mb,zbx B ht hm wh mb,a3]
 have e1:((List.map (λl=>xu l t) (trO (bs.map bl) lo hi))[i]?).getD 0=xu (trB (pbO (bs.map bl) lo hi) (sbO (bs.map bl) lo hi) (b.pl,b.sp)) t:=by
  rw[a1,we,G];rfl
 have e2:(((bs.map (zS m)).map zB.pl)[j]?).getD 0=a.pl+a.sp*m:=by
  rw[ek];unfold Vj;rw[we,V];rfl
 unfold fP fL
 nofun
 rw[e1,e2,U]
 have I:(j<i\/0<cwN (trO (bs.map bl) lo hi) (xl (xT (zO m lo) (zO m hi) (a.pl+a.sp*m)) (lo.map (trB (pbO (bs.map bl) lo hi) (sbO (bs.map bl) lo hi))) (hi.map (trB (pbO (bs.map bl) lo hi) (sbO (bs.map bl) lo hi)))) j i)↔(j<i\/vK (bs.map (zS m)) (zO m lo) (zO m hi) j i=true):=by
  rcases WH j i with h | h
  ·exact⟨λ_=>.inl h,λ_=>.inl h⟩
  ·have a5:j=i:=by lia
   subst a5
   obtain rfl:a=b:=by rw[V]at G;injection G with G
   have Y:(trO (bs.map bl) lo hi)[j]?=some (trB (pbO (bs.map bl) lo hi) (sbO (bs.map bl) lo hi) (a.pl,a.sp)):=by rw[zaz,we,V];rfl
   have eg:vK (bs.map (zS m)) (zO m lo) (zO m hi) j j=(if atW (zO m lo) (a.pl+a.sp*m)=true then(match zO m lo with | some (_,y)=>decide (a.sp<y) | none=>false)else if atW (zO m hi) (a.pl+a.sp*m)=true then(match zO m hi with | some (_,y)=>decide (y<a.sp) | none=>false)else false):=by
    unfold vK
    rw[we,V];rfl
   rw[eg]
   refine or_congr Iff.rfl ?_
   unfold xT
   by_cases c1:atW (zO m lo) (a.pl+a.sp*m)=true
   ·rw[if_pos c1,if_pos c1]
    show 0<cwN _ (xl "low" _ _) j j↔_
    rw[show xl "low" (lo.map (trB (pbO (bs.map bl) lo hi) (sbO (bs.map bl) lo hi))) (hi.map (trB (pbO (bs.map bl) lo hi) (sbO (bs.map bl) lo hi)))=lo.map (trB (pbO (bs.map bl) lo hi) (sbO (bs.map bl) lo hi))from by unfold xl;rw[if_neg ⇑1,if_pos rfl]]
    cases lo with
    |none=>cases c1
    |some u =>
     obtain⟨x,y⟩:=u
     have hk:x+y*m=a.pl+a.sp*m:=wF c1
     have d:=B.dv _ (wl _ rfl)
     show 0<cwN _ (some (trB _ _ (x,y))) j j↔decide (a.sp<y)=true
     rw[zeC Y,wP,ne_eq,ziJ B.s0 (dB a ma).2 d.2]
     have lx:=O.lo rfl ma
     constructor
     ·intro a2
      rcases Classical.em (a.sp<y)with z | z
      ·exact z
      ·have S:y<a.sp:=by grind
       have:=ym S pm
       rcases lx with l | ⟨l,_⟩
       ·have l:x<a.pl:=l
        grind
       ·have l:x=a.pl:=l
        grind
     ·intro h;grind
   ·rw[if_neg c1,if_neg c1]
    by_cases c2:atW (zO m hi) (a.pl+a.sp*m)=true
    ·rw[if_pos c2,if_pos c2]
     rw[show xl "high" (lo.map (trB (pbO (bs.map bl) lo hi) (sbO (bs.map bl) lo hi))) (hi.map (trB (pbO (bs.map bl) lo hi) (sbO (bs.map bl) lo hi)))=hi.map (trB (pbO (bs.map bl) lo hi) (sbO (bs.map bl) lo hi))from by unfold xl;rw[if_neg ⇑1,if_neg ⇑1]]
     cases hi with
     |none=>cases c2
     |some u =>
      obtain⟨x,y⟩:=u
      have hk:x+y*m=a.pl+a.sp*m:=wF c2
      have d:=B.dv _ (wh _ rfl)
      show 0<cwN _ (some (trB _ _ (x,y))) j j↔decide (y<a.sp)=true
      rw[zeC Y,wP,ne_eq,ziJ B.s0 (dB a ma).2 d.2]
      have lx:=O.hi rfl ma
      constructor
      ·intro a2
       rcases Classical.em (y<a.sp)with z | z
       ·exact z
       ·have S:a.sp<y:=by grind
        have:=ym S pm
        rcases lx with l | ⟨l,_⟩
        ·have l:a.pl<x:=l
         grind
        ·have l:a.pl=x:=l
         grind
      ·intro h;grind
    ·rw[if_neg c2,if_neg c2]
     show 0<cwN _ (xl "" _ _) j j↔_
     rw[show xl "" (lo.map (trB (pbO (bs.map bl) lo hi) (sbO (bs.map bl) lo hi))) (hi.map (trB (pbO (bs.map bl) lo hi) (sbO (bs.map bl) lo hi)))=none from by unfold xl;rw[if_pos rfl]]
     show 0<0↔false=true
     simp
 by_cases c:j<i\/vK (bs.map (zS m)) (zO m lo) (zO m hi) j i=true
 ·rw[if_pos (I.mpr c),if_pos c]
 ·rw[if_neg (λz=>c (I.mp z)),if_neg c]
def zbk {bs:Bk}{lo hi:Wl}(O:Ord bs lo hi){m:Rat}(I:0<m):xP lo hi=some m↔∃x y F j,lo=some (x,y)/\hi=some (F,j)/\x+y*m=F+j*m:=by
 cases lo with
 |none=>exact⟨λh=>(by cases h),λ⟨_,_,_,_,e,_⟩=>(by cases e)⟩
 |some u =>
  cases hi with
  |none=>exact⟨λh=>(by cases h),λ⟨_,_,_,_,_,e,_⟩=>(by cases e)⟩
  |some v =>
   obtain⟨x,y⟩:=u
   obtain⟨F,j⟩:=v
   have lt:=O.lt x y F j rfl rfl
   show (if j<y then some ((F-x)/(y-j))else none)=some m↔_
   constructor
   ·intro h
    split at h
    ·injection h with h
     have hd:y-j≠0:=by grind
     refine⟨x,y,F,j,rL,rL,?_⟩
     have:m*(y-j)=F-x:=by rw[<-h];grind
     grind
    ·cases h
   ·rintro ⟨_,_,_,_,e1,e2,h⟩
    cases e1;cases e2
    have G:j<y:=by
     rcases Classical.em (j<y)with z | z
     ·exact z
     ·have:y<=j:=by grind
      have:=yn this (uw I)
      grind
    rw[if_pos G]
    have hd:y-j≠0:=by grind
    have:F-x=m*(y-j):=by grind
    rw[this]
    congr 1
    grind
end KT
namespace L2
open KM in
def Sz.div {m n:Nat}{x y:Rat}(h:Sz m x) (k:Sz n y) (j:y≠0):Sz (m+n) (x/y):=by
 rw[<-zac]
 exact .divInt (yl (qd x) (λz=>j (Yx.mp z))) (h.1.mul k.2) (h.2.mul k.1)
end L2
namespace KQ
open PySem L2 KM KK
def vW.same {H H':Hp}{v:V}{o:Bj}(h:vW H v o) (s:zk H H'):vW H' v o:=by
 cases o with
 |none=>exact h
 |some q=>obtain⟨a,e,h⟩:=h;exact⟨a,e,s _ _ h⟩
end KQ
namespace KT
open PySem L2 KM KK
open KQ (vL qR vW TxQ xK xP vm stG rlG brk vD Vg)
def zaG {α:Type}(a:α) (r:List α):atI (a::r) 0=some a:=xG (xs:=a::r) (j:=0) rfl
def zaH {α:Type}(a b:α) (r:List α):atI (a::b::r) 1=some b:=xG (xs:=a::b::r) (j:=1) rfl
abbrev OT:=Be
def ZQ (f:Bj) (p:OT×OT):Bj:=match p.1,p.2 with
 |some l,some r=>qo f (l,r)
 |_,_=>f
def fO (f:Bj) (N:List OT):Bj:=(N.zip N.tail).foldl ZQ f
def zgG (f:Bj):∀N:List OT,fO f (none::N)=fO f N
 |[]=>rfl
 |_::_=>rfl
def J2:∀(N:List OT) (f:Bj),fO f (N++[none])=fO f N
 |[],_=>rfl
 |[a],f=>by cases a <;> rfl
 |a::b::r,f=>by
  show fO (ZQ f (a,b)) (b::r++[none])=fO (ZQ f (a,b)) (b::r)
  exact J2 (b::r) _
def X9:∀(L:List (Rat×Rat)) (f:Bj),fO f (L.map some)=(L.zip L.tail).foldl qo f
 |[],_=>rfl
 |[_],_=>rfl
 |a::b::r,f=>by
  show fO (qo f (a,b)) ((b::r).map some)=((b::r).zip r).foldl qo (qo f (a,b))
  exact X9 (b::r) _
def lnO (bs:Bk) (lo hi:Wl):List OT:=lo::(bs.map λb=>some (b.pl,b.sp))++[hi]
def zgR (bs:Bk) (lo hi:Wl):fO none (lnO bs lo hi)=qI (tl bs lo hi):=by
 have e:(bs.map λb=>some (b.pl,b.sp))=(bs.map λb=>(b.pl,b.sp)).map some:=by rw[wW];rfl
 unfold lnO tl qI
 rw[e]
 generalize bs.map (λb=>(b.pl,b.sp))=M
 cases lo with
 |none =>
  show fO none (none::(M.map some++[hi]))=_
  rw[zgG]
  cases hi with
  |none=>rw[J2,X9];simp[xK]
  |some h =>
   have:M.map some++[some h]=(M++[h]).map some:=by simp
   rw[this,X9];simp[xK]
 |some l =>
  cases hi with
  |none =>
   rw[J2]
   have:some l::M.map some=(l::M).map some:=rfl
   rw[this,X9];simp[xK]
  |some h =>
   have:some l::M.map some++[some h]=(l::(M++[h])).map some:=by simp
   rw[this,X9];simp[xK]
def OsI (H:Hp) (vs:Ba) (N:List OT):Prop:=vs.length=N.length/\∀(i:Nat) (v:V),vs[i]?=some v->∃o,N[i]?=some o/\qR H v o
def OsI.keeps {H H':Hp}{vs:Ba}{N:List OT}(h:OsI H vs N) (t:zX H H'):OsI H' vs N:=⟨h.1,λi v e=>by obtain⟨o,e1,e2⟩:=h.2 i v e;exact⟨o,e1,e2.keeps t⟩⟩
def OsI.nil {H:Hp}:OsI H [] []:=⟨rfl,λi v e=>by simp at e⟩
def OsI.cons {H:Hp}{v:V}{o:OT}{vs:Ba}{N:List OT}(h:qR H v o) (r:OsI H vs N):OsI H (v::vs) (o::N):=by
 refine⟨by simp[r.1],λi u e=>?_⟩
 cases i with
 |zero=>simp at e;subst e;exact⟨o,rfl,h⟩
 |succ i=>obtain⟨x,e1,e2⟩:=r.2 i u ↥e;exact⟨x,↥e1,e2⟩
def OsI.append {H:Hp}{vs j:Ba}{N F:List OT}(h:OsI H vs N) (h':OsI H j F):OsI H (vs++j) (N++F):=by
 refine⟨by simp[h.1,h'.1],λi v e=>?_⟩
 by_cases hi:i<vs.length
 ·rw[wE hi]at e
  rw[wE (by rw[<-h.1];exact hi)]
  exact h.2 i v e
 ·rw[wB ∅]at e
  rw[wB (by rw[<-h.1];lia),<-h.1]
  exact h'.2 _ v e
def zaJ {H:Hp}:∀{us:Ba}{bs:Bk},zL H us bs->OsI H us (bs.map λb=>some (b.pl,b.sp))
 |_,_,.nil=>.nil
 |_,_,.cons h1 h2 h3 t=>.cons ⟨_,rfl,_,_,_,h1,h2,h3⟩ (zaJ t)
variable {P:Program}{w:World}{K:Fg}{mg:Aa}{base:Heap}
theorem zfI:zF ["a","b"] ["a","b"] (zr XN):=scq
theorem zfb (D:Df K mg "_law_part" XN ["a","b"] []) (V:⇑3 "_law_low" 1 ["top","bottom"] [] qm):⇑3 "_law_part" 2 ["a","b"] [] (xY (λx y=>Sz2 x y/\y≠0) (· / ·)):=by
 rcases r:D.calq (k:=1) zfI with⟨p,q,x,y,rfl,O,S,⟨⟨U,G⟩,F⟩,k⟩
 have I:=Bd4 U
 have j:=Bd4 G
 refine⟨_,(zj (zG (zH V hr %[zD zR (pxt (pv 0)) (pxt (pv 1)),zD zR (pxt (pv 0)) (pxt (pv 1))|0]))),?_⟩
 try dsimp only[xi,Cx.nox]
 refine⟨00,p,032,.of O,at0 ..,00,q,032,.of S,at1 ..,022,⟨I.1,j.2⟩,?_⟩
 refine⟨00,p,032,.of O,at1 ..,00,q,032,.of S,at0 ..,022,⟨I.2,j.1⟩,?_⟩
 refine⟨021,yl (KM.qd x) (λz=>F (Yx.mp z)),(U.2.mul G.1).md,λr H' e h=>k r H' e ?_⟩
 show zC H' r (x/y)
 rw[<-KM.zac];exact h
inductive zka (vs:Ba)(H:Hp)(Q:VK)(_e3:XK):Prop
 |mk:∀a b l r,(vs=[.ref a,.ref b])->(vL H a l.1 l.2)->(vL H b r.1 r.2)->(Sz 320 l.1)->(Sz 320 l.2)->(Sz 320 r.1)->(Sz 320 r.2)->(∀L us H',zk H H'->H' L=some (.lst us)->((r.2<l.2/\∃rm,us=[.ref rm]/\zC H' rm (mo l r))\/(¬r.2<l.2/\us=[]))->Q (.ref L) H')->zka vs H Q _e3
theorem zl2:zF ["one","other"] ["one","other"] (zr Za):=scq
theorem zln (D:Df K mg "_law_closing" Za ["one","other"] []) (a1:⇑3 "_law_below" 1 ["a","b"] [] QT) (cO:⇑3 "_law_off" 2 ["a","b"] [] (xY Sz2 (· - ·))) (a3:⇑3 "_law_part" 2 ["a","b"] [] (xY (λx y=>Sz2 x y/\y≠0) (· / ·))):⇑3 "_law_closing" 3 ["one","other"] [] zka:=by
 rcases r:D.calq (k:=2) zl2 with⟨a,b,l,r,rfl,⟨p1,q1,r1,ha,O,F⟩,⟨p2,q2,r2,S,Y,j⟩,z1,z2,z3,I,k⟩
 have W:xf 1 _:=hr.md
 have zz:∀{x y:Rat},Sz 320 x->Sz 320 y->Sz2 x y:=λh h'=>⟨h.md,h'.md⟩
 refine⟨_,(zA (zZ (qE (xv (zH a1 W %[pxt (pv 1),pxt (pv 0)|0]) λ_=>rL)) (zj (zG (xF zf))) zQ)
  (zj (zG (xF %[(zH a3 hr %[(zH cO hr %[pxt (pv 1),pxt (pv 0)|0]),(zH cO hr %[pxt (pv 0),pxt (pv 1)|0])|0])|0])))),?_⟩
 try dsimp only[xi,Cx.nox]
 refine⟨00,b,032,.of S,zaH ..,00,a,032,.of ha,zaH ..,q2,q1,021,j,F,zz I z2,00,?_⟩
 by_cases c:r.2<l.2
 ·rw[wo c]
  refine xm ?_
  refine⟨00,b,032,.of S,zaG ..,00,a,032,.of ha,zaG ..,p2,p1,021,Y,O,zz z3 z1,λd1 H1 e1 V=>?_⟩
  refine⟨00,a,032,.of (e1 _ _ ha),zaH ..,00,b,032,.of (e1 _ _ S),zaH ..,q1,q2,021,e1 _ _ F,e1 _ _ j,zz z2 I,λd2 H2 e2 U=>?_⟩
  refine⟨d1,d2,021,e2 _ _ V,U,⟨⟨(Sz.sub z3 z1).md,(Sz.sub z2 I).md⟩,by grind⟩,λrm H3 e3 a2=>⟨zL1,λL G=>?_⟩⟩
  exact k L _ _ (e1.trans (e2.trans (e3.trans (zk.upd G)))) zi (.inl ⟨c,rm,rL,zk.upd G _ _ a2⟩)
 ·rw[wG c]
  exact xp ⟨by show 0<=sizeLine;exact yo _,λL G=>k L _ _ (zk.upd G) zi (.inr ⟨c,rfl⟩)⟩
inductive zkv (vs:Ba)(H:Hp)(Q:VK)(_e3:XK):Prop
 |mk:∀r wl us v1 v2 bs lo hi,(vs=[.ref r,.ref wl])->(H r=some (.tup us))->(zL H us bs)->(H wl=some (.tup [v1,v2]))->(zT H v1 lo)->(zT H v2 hi)->(bs.length<=8)->(TZ bs lo hi)->(∀v H',zk H H'->vW H' v (qI (tl bs lo hi))->(∀q,qI (tl bs lo hi)=some q->Sz 1400 q)->Q v H')->zkv vs H Q _e3
theorem V6:zF ["row","walls","found","line","one","other","moment"] ["row","walls"] (zr Zc):=scq
theorem zle {l r:Rat×Rat}(j:Sz 320 l.1) (F:Sz 320 l.2) (I:Sz 320 r.1) (G:Sz 320 r.2) (h:r.2<l.2):Sz 1400 (mo l r):=((Sz.sub I j).div (Sz.sub F G) (by grind)).md
theorem zlL (D:Df K mg "_law_soonest" Zc ["row","walls"] []) (T:TxQ K mg) (e2:⇑3 "_law_below" 1 ["a","b"] [] QT) (d6:⇑3 "_law_closing" 3 ["one","other"] [] zka):⇑3 "_law_soonest" 4 ["row","walls"] [] zkv:=by
 rcases r:D.calBq (k:=3) V6 with⟨r,wl,us,I,U,bs,lo,hi,rfl,c6,hR,c3,d2,S,h8,hz,k⟩
 have d8:xf 1 _:=hr.md
 have e7:=hR.length
 refine⟨_,(zE (Bx.mk (psl (i:=2) V6.nd zV))
  (zE (Bx.mk (psl (i:=3) V6.nd (zD VP (zD VP (xF %[pxt (pv 1)|0]) (qj vM ⇑2 T.nList uL %[0|0])) (xF %[pxt (pv 1)|0]))))
  (zE (Bx.mk (qD PassesOwn.never rfl (zcT ⇑2 T.nZip %[3,x6 ZG (pv 3) (xH zg) v4|0]) (qu rfl (zP (pgl (i:=4) V6.nd) (zP (pgl (i:=5) V6.nd) xw))) (zj (zZ (qk (zI xQ (pv 4) zV (zJ _)) (x8 (zI xQ (pv 5) zV (zJ _)))).pt (zj (qD PassesOwn.never rfl (xM (zH d6 hr %[4,5|0])) (pgl (i:=6) V6.nd) (zj (zZ ((vQ (zI qy (pv 2) zV (zJ _)) (vG (xv (zH e2 d8 %[6,2|0]) λ_=>rfl)))).pt (zj (psl (i:=2) V6.nd (pv 6))) zQ)))) zQ))))
  (Bx.mk (zj (zG (pv 2))))))),?_⟩
 try dsimp only[xi,Cx.nox]
 try dsimp only[zM]
 refine⟨00,wl,032,.of c3,rL,zL1,λl1 d4=>?_⟩
 have s1:=zk.upd (o:=.lst [I]) d4
 have V:upd H l1 (.lst [I]) l1=some (.lst [I]):=zi
 generalize upd H l1 (.lst [I])=G1 at s1 V
 refine⟨00,r,us,rL,.inr (.of (s1 _ _ c6)),λl2 d7=>?_⟩
 have s2:=zk.upd (o:=.lst us) d7
 have W:upd G1 l2 (.lst us) l2=some (.lst us):=zi
 generalize upd G1 l2 (.lst us)=G2 at s2 W
 refine⟨l1,l2,022,s2 _ _ V,W,szl (by simp;lia),λl3 e3=>?_⟩
 have s3:=zk.upd (o:=.lst ([I]++us)) e3
 have a3:upd G2 l3 (.lst ([I]++us)) l3=some (.lst ([I]++us)):=zi
 generalize upd G2 l3 (.lst ([I]++us))=G3 at s3 a3
 have S3:=s1.trans (s2.trans s3)
 have a6:=S3 _ _ c3
 refine⟨00,wl,032,.of a6,rL,zL1,λl4 c7=>?_⟩
 have s4:=zk.upd (o:=.lst [U]) c7
 have a4:upd G3 l4 (.lst [U]) l4=some (.lst [U]):=zi
 generalize upd G3 l4 (.lst [U])=G4 at s4 a4
 refine⟨l3,l4,022,s4 _ _ a3,a4,szl (by simp;lia),λln d3=>?_⟩
 have s5:=zk.upd (o:=.lst ([I]++us++[U])) d3
 have O:upd G4 ln (.lst ([I]++us++[U])) ln=some (.lst ([I]++us++[U])):=zi
 generalize upd G4 ln (.lst ([I]++us++[U]))=G5 at s5 O
 have S5:=S3.trans (s4.trans s5)
 dsimp only[zM]
 have b6:OsI G5 ([I]++us++[U]) (lnO bs lo hi):=by
  have:=OsI.cons ((zh9 d2).keeps (.of S5)) (((zaJ hR).keeps (.of S5)).append (OsI.cons ((zh9 S).keeps (.of S5)) .nil))
  unfold lnO
  simpa using this
 have c0:([I]++us++[U]).length<=10:=by simp;lia
 obtain⟨F,e4⟩:∃F,F=[I]++us++[U]:=⟨_,rfl⟩
 rw[<-e4]at O b6 c0
 clear V W a3 a4 s1 s2 s3 s4 s5 S3 a6
 have c1:∀(i:Nat) (t:Rat×Rat),(lnO bs lo hi)[i]?=some (some t)->Sz 320 t.1/\Sz 320 t.2:=λi t e=>by
  have m:=wm e
  have:t∈tl bs lo hi:=by
   unfold lnO at m
   unfold tl
   simp only[List.cons_append,wy,wK,wx,wZ,or_false]at m ⊢
   rcases m with m | ⟨b,mb,eb⟩ | m
   ·exact .inl (.inl (by rw[<-m];simp[xK]))
   ·exact .inl (.inr ⟨b,mb,by injection eb⟩)
   ·exact .inr (by rw[<-m];simp[xK])
  have:=hz t this
  exact⟨this.1,this.2.md⟩
 rw[<-zgR]at k
 unfold fO at k
 generalize lnO bs lo hi=L at *
 have e8:=b6.1
 refine xr (λσ' G=>∃z4 z5 z6 v,σ'=[Sr r,Sr wl,some v,Sr ln,z4,z5,z6]/\zk H G/\vW G v ((L.zip L.tail).foldl ZQ none)/\∀q,(L.zip L.tail).foldl ZQ none=some q->Sz 1400 q) ?_ ?_
 rotate_left
 ·intro nx c8
  refine⟨02,ln,F,rL,.of O,λl6 e5=>?_⟩
  have s6:=zk.upd (o:=.lst (qB F (some 1) none)) e5
  have a9:upd G5 l6 (.lst (qB F (some 1) none)) l6=some (.lst (F.drop 1)):=by rw[zi];exact congrArg (λl=>some (HO.lst l)) (JC F 1)
  have a5:=s6 _ _ O
  have S6:=S5.trans s6
  have a7:=b6.keeps (.of s6)
  generalize upd G5 l6 (.lst (qB F (some 1) none))=G6 at *
  refine⟨ln,l6,rL,⟨_,SqL.of a5⟩,⟨_,SqL.of a9⟩,vm (xs:=F) (ys:=F.drop 1) (λi σ G=>∃z4 z5 z6 v,σ=[Sr r,Sr wl,some v,Sr ln,z4,z5,z6]/\zk G6 G/\vW G v (((L.zip L.tail).take i).foldl ZQ none)/\∀q,((L.zip L.tail).take i).foldl ZQ none=some q->Sz 1400 q)
   ⟨_,_,_,.non,rfl,zk.refl _,rfl,λq e=>by cases e⟩ (λi σ G ⟨_,_,_,_,_,s',_⟩=>⟨.of (s' _ _ a5),.of (s' _ _ a9)⟩) ?_ ?_⟩
  ·rintro i x y σ G Tt hx hy ⟨z4,z5,z6,v,rfl,SG,hv,Y⟩ d0
   obtain⟨o1,b9,d5⟩:=a7.2 i x hx
   rw[yk]at hy
   obtain⟨o2,b7,d1⟩:=a7.2 _ y hy
   rw[Yv]at b7
   have sT:=zk.upd (o:=.tup [x,y]) d0
   have c5:upd G Tt (.tup [x,y]) Tt=some (.tup [x,y]):=zi
   generalize upd G Tt (.tup [x,y])=G2 at sT c5
   have S2:=SG.trans sT
   have ez:(L.zip L.tail)[i]?=some (o1,o2):=by
    rw[yY]
    refine⟨b9,?_⟩
    rw[Wp];exact b7
   have ef:((L.zip L.tail).take (i+1)).foldl ZQ none=ZQ (((L.zip L.tail).take i).foldl ZQ none) (o1,o2):=by
    rw[yu,ez];simp[uR]
   rw[ef]
   generalize ((L.zip L.tail).take i).foldl ZQ none=fo at hv Y
   have S:vW G2 v fo:=hv.same sT
   refine⟨Tt,00,.of c5,rL,021,022,?_⟩
   have b0:=d5.keeps (.of S2)
   have a8:=d1.keeps (.of S2)
   cases o1 with
   |none =>
    obtain rfl:x=.non:=b0
    exact⟨00,rL,00,xm (xm ⟨_,_,_,v,rL,S2,S,Y⟩)⟩
   |some t1 =>
    obtain⟨a1,rfl,c9⟩:=b0
    refine⟨00,rL,00,xp ?_⟩
    cases o2 with
    |none =>
     obtain rfl:y=.non:=a8
     exact⟨00,rL,00,xm ⟨_,_,_,v,rL,S2,S,Y⟩⟩
    |some t2 =>
     obtain⟨a2,rfl,d9⟩:=a8
     refine⟨00,rL,00,xp ?_⟩
     have b1:=c1 i t1 b9
     have b2:=c1 _ t2 b7
     show zh3 _ _ _ _ _ _
     refine⟨01,a1,a2,t1,t2,rL,c9,d9,b1.1,b1.2,b2.1,b2.2,λLc e6 G3 s3 b8 hc=>?_⟩
     have S3:=S2.trans s3
     have b5:vW G3 v fo:=S.same s3
     have eo:ZQ fo (some t1,some t2)=qo fo (t1,t2):=rfl
     rw[eo]
     refine⟨Lc,rL,⟨_,SqL.of b8⟩,?_⟩
     rcases hc with⟨c,rm,rfl,b4⟩ | ⟨c,rfl⟩
     ·refine Zg (xs:=[.ref rm]) (λj σ G'=>G'=G3/\((j=0/\σ=[Sr r,Sr wl,some v,Sr ln,Sr a1,Sr a2,z6])\/(j=1/\∃v',σ=[Sr r,Sr wl,some v',Sr ln,Sr a1,Sr a2,Sr rm]/\vW G3 v' (qo fo (t1,t2))/\∀q,qo fo (t1,t2)=some q->Sz 1400 q)))
       ⟨rfl,.inl ⟨rfl,rfl⟩⟩ (λj σ G' _ ⟨e,_⟩=>by rw[e];exact .of b8) ?_ ?_
      ·rintro j x σ G' hx ⟨rfl,hj⟩
       rcases hj with⟨rfl,rfl⟩ | ⟨rfl,_⟩
       ·cases hx
        dsimp only[zM]
        have zm:=zle b1.1 b1.2 b2.1 b2.2 c
        have e0:qo none (t1,t2)=some (mo t1 t2):=if_pos c
        have e1:∀u,qo (some u) (t1,t2)=if mo t1 t2<u then some (mo t1 t2)else some u:=λu=>if_pos c
        cases fo with
        |none =>
         obtain rfl:v=.non:=b5
         refine⟨00,rL,00,xp ⟨00,rL,.inr ⟨rL,00,?_,?_⟩⟩⟩
         ·rw[e0];exact⟨rm,rfl,b4⟩
         ·rw[e0];intro q e;cases e;exact zm
        |some u =>
         obtain⟨af,rfl,c4⟩:=b5
         refine⟨00,rL,00,xm ⟨01,rm,af,021,b4,c4,⟨zm.md,(Y u rL).md⟩,00,?_⟩⟩
         by_cases c2:mo t1 t2<u
         ·rw[wo c2]
          refine xp ⟨_,rL,rL,.inr ⟨rL,_,rL,?_,?_⟩⟩
          ·rw[e1,if_pos c2];exact⟨rm,rfl,b4⟩
          ·rw[e1,if_pos c2];intro q e;cases e;exact zm
         ·rw[wG c2]
          refine xm ⟨rL,.inr ⟨rL,_,rL,?_,?_⟩⟩
          ·rw[e1,if_neg c2];exact⟨af,rfl,c4⟩
          ·rw[e1,if_neg c2];exact Y
       ·cases hx
      ·rintro σ G' ⟨rfl,hj⟩
       rcases hj with⟨z,_⟩ | ⟨_,v',rfl,h1,h2⟩
       ·cases z
       ·exact⟨_,_,_,v',rL,S3,h1,h2⟩
     ·have e0:qo fo (t1,t2)=fo:=if_neg c
      rw[e0]
      refine Zg (xs:=[]) (λj σ G'=>G'=G3/\σ=[Sr r,Sr wl,some v,Sr ln,Sr a1,Sr a2,z6]) ⟨rfl,rfl⟩ (λj σ G' _ ⟨e,_⟩=>by rw[e];exact .of b8) ?_ ?_
      ·rintro j x σ G' hx;simp at hx
      ·rintro σ G' ⟨rfl,rfl⟩
       exact⟨_,_,_,v,rL,S3,b5,Y⟩
  ·rintro σ G b3;rcases q:b3 with⟨z4,z5,z6,v,rfl,SG,hv,Y⟩
   have el:min F.length (F.drop 1).length=(L.zip L.tail).length:=by simp;lia
   rw[el,wH (wq _)]at hv Y
   exact c8 _ _ ⟨z4,z5,z6,v,rL,S6.trans SG,hv,Y⟩
 rintro σ' G b3;rcases q:b3 with⟨z4,z5,z6,v,rfl,SG,hv,Y⟩
 exact⟨00,k v G SG hv Y⟩
open KQ (xU)
def ThR (H:Hp) (v:V) (o:OT) (rest:Ba):Prop:=match o with
 |none=>v=.non
 |some t=>∃a p q,v=.ref a/\H a=some (.tup (.ref p::.ref q::rest))/\zC H p t.1/\zC H q t.2
def ThR.tups {H H':Hp}{v:V}{o:OT}{rest:Ba}(h:ThR H v o rest) (e:zX H H'):ThR H' v o rest:=by
 cases o with
 |none=>exact h
 |some t=>obtain⟨a,p,q,h1,h2,F,j⟩:=h;exact⟨a,p,q,h1,e _ _ h2,e _ _ F,e _ _ j⟩
def OsR (H:Hp) (vs:Ba) (N:List (OT×List V)):Prop:=vs.length=N.length/\∀(i:Nat) (v:V) (n:OT×List V),vs[i]?=some v->N[i]?=some n->ThR H v n.1 n.2
def onO (m:Rat) (o:OT):OT:=o.map λt=>(t.1+t.2*m,t.2)
inductive zhV (vs:Ba)(H:Hp)(Q:VK)(_e3:XK):Prop
 |mk:∀a pm us N m,(vs=[.ref a,.ref pm])->(H a=some (.tup us))->(OsR H us N)->(N.length<=8)->((∀n∈N,n.2.length<=1/\∀t,n.1=some t->Sz 320 t.1/\Sz 80 t.2))->(zC H pm m)->(Sz 1400 m)->(∀r us' H',zk H H'->H' r=some (.tup us')->OsR H' us' (N.map λn=>(onO m n.1,n.2))->Q (.ref r) H')->zhV vs H Q _e3
theorem zc1:zF ["things","t","found","thing"] ["things","t"] (zr VX):=scq
theorem zlA (D:Df K mg "_law_on" VX ["things","t"] []) (T:TxQ K mg) (cA:⇑3 "_law_add" 2 ["a","b"] [] (xY Sz2 (· + ·))) (b3:⇑3 "_law_by" 2 ["a","b"] [] (xY Sz2 (· * ·))):⇑3 "_law_on" 3 ["things","t"] [] zhV:=by
 rcases r:D.calBq (k:=2) zc1 with⟨a,pm,us,N,m,rfl,ha,hO,h8,hz,hm,zm,k⟩
 have b7:=hO.1
 refine⟨_,(zE (Bx.mk (psl (i:=2) zc1.nd (xF zf)))
  (zE (Bx.mk (qD PassesOwn.never rfl (Zq (pv 0)) (pgl (i:=3) zc1.nd) (zA (zZ (zI xQ (pv 3) zV (zJ _)) (zj (psl (i:=3) zc1.nd (zD zcM (xa %[(zH cA hr %[pxt (pv 3),(zH b3 hr %[pxt (pv 3),1|0])|0])|0]) (x6 XS (pv 3) (xH zg) v4)))) zQ) (zj (qz (Vd yx yN yO qO (pv 2) %[3|0]))))))
  (Bx.mk (zj (zG (qj qv ⇑2 T.nTuple yy %[2|0])))))),?_⟩
 try dsimp only[xi,Cx.nox]
 refine⟨by show 0<=sizeLine;exact yo _,λl hl=>?_⟩
 have S1:zk H (upd H l (.lst [])):=zk.upd hl
 have a9:upd H l (.lst []) l=some (.lst []):=zi
 generalize upd H l (.lst [])=G1 at S1 a9
 dsimp only[zM]
 refine zau ?_
 refine⟨00,a,rL,⟨us,SqT.of (S1 _ _ ha)⟩,?_⟩
 refine zgI (xs:=us) (λi σ G=>∃z3 I,σ=[Sr a,Sr pm,Sr l,z3]/\zk H G/\G l=some (.lst I)/\I.length=i/\∀(j:Nat) (v:V) (n:OT×List V),I[j]?=some v->N[j]?=some n->ThR G v (onO m n.1) n.2)
  ⟨_,[],rfl,S1,a9,rfl,λj v n e=>by simp at e⟩ (λi σ G _ ⟨_,_,_,s,_⟩=>SqT.of (s _ _ ha)) ?_ ?_
 ·rintro i x σ G hx a2;rcases q:a2 with⟨z3,I,rfl,W,a4,b1,a5⟩
  have hi:i<us.length:=(wn.mp hx).1
  obtain⟨n,en⟩:∃n,N[i]?=some n:=⟨_,wj ∅⟩
  have a8:=hO.2 i x n hx en
  have zn:=hz n (wm en)
  dsimp only[zM]
  refine xr (λσ' G'=>∃v,σ'=[Sr a,Sr pm,Sr l,some v]/\zk G G'/\ThR G' v (onO m n.1) n.2) ?_ ?_
  rotate_left
  ·intro nx b0
   obtain⟨o,rest⟩:=n
   cases o with
   |none =>
    obtain rfl:x=.non:=a8
    exact⟨00,rL,00,xm (b0 _ _ ⟨.non,rL,zk.refl _,rL⟩)⟩
   |some t =>
    rcases q:a8 with⟨ax,p,q,rfl,g1,g2,g3⟩
    have zt:=zn.2 t rfl
    refine⟨00,rL,00,xp ?_⟩
    have h1:=W _ _ g1
    refine⟨00,ax,032,.of h1,zaG ..,00,ax,032,.of h1,zaH ..,00,q,pm,021,W _ _ g3,W _ _ hm,⟨zt.2.md,zm.md⟩,λr1 G2 e2 h2=>?_⟩
    refine⟨p,r1,021,e2 _ _ (W _ _ g2),h2,⟨zt.1.md,(zt.2.mul zm).md⟩,λU G3 e3 h3=>⟨zL1,λp1 a7=>?_⟩⟩
    have S4:zk G (upd G3 p1 (.tup [.ref U])):=e2.trans (e3.trans (zk.upd a7))
    have a1:upd G3 p1 (.tup [.ref U]) p1=some (.tup [.ref U]):=zi
    have a6:zC (upd G3 p1 (.tup [.ref U])) U (t.1+t.2*m):=zk.upd a7 _ _ h3
    generalize upd G3 p1 (.tup [.ref U])=G4 at S4 a1 a6
    have w1:¬(HT.sIx (V.ref p::.ref q::rest).length 0 (some 1)=0/\HT.sIx (V.ref p::.ref q::rest).length (V.ref p::.ref q::rest).length none=(V.ref p::.ref q::rest).length):=λ⟨z,_⟩=>by
     rw[show (1:Int)=((1:Nat):Int)from rfl,HT.sIx_nat]at z
     simp only[wJ]at z;lia
    refine⟨01,ax,00,.of (S4 _ _ h1),w1,λp2 b4=>?_⟩
    have S5:zk G4 (upd G4 p2 (.tup (qB (V.ref p::.ref q::rest) (some 1) none))):=zk.upd b4
    have Y:upd G4 p2 (.tup (qB (V.ref p::.ref q::rest) (some 1) none)) p2=some (.tup (.ref q::rest)):=by rw[zi];exact congrArg (λl=>some (HO.tup l)) (JC (V.ref p::.ref q::rest) 1)
    generalize upd G4 p2 (.tup (qB (V.ref p::.ref q::rest) (some 1) none))=G5 at S5 Y
    refine⟨p1,p2,[.ref U],.ref q::rest,rfl,rfl,.of (S5 _ _ a1),.of Y,szl (by simp;lia),λz=>(by cases z),λ_ z=>(by cases z),λ_ _ p3 b5=>?_⟩
    have S6:zk G5 (upd G5 p3 (.tup ([.ref U]++.ref q::rest))):=zk.upd b5
    exact b0 _ _ ⟨.ref p3,rL,S4.trans (S5.trans S6),p3,U,q,rL,zi,(S5.trans S6) _ _ a6,(S4.trans (S5.trans S6)) _ _ (W _ _ g3)⟩
  rintro σ' G2 ⟨v,rfl,S2,hv⟩
  have a3:=S2 _ _ a4
  refine⟨00,.inl ⟨rL,_,SqL.of a3⟩,00,l,I,00,rL,a3,xn ∅,?_⟩
  have Tu:zX G2 (upd G2 l (.lst (I++[v]))):=.upd a3
  refine⟨_,I++[v],rfl,λb o e=>?_,zi,by simp[b1],λj u n' O S=>?_⟩
  ·rw[zK (zN e hl)];exact S2 _ _ (W _ _ e)
  ·by_cases hj:j<I.length
   ·rw[wE hj]at O
    exact((a5 j u n' O S).tups (.of S2)).tups Tu
   ·rw[wB ∅]at O
    have b6:j-I.length=0:=by
     rcases yQ (j-I.length)with z | z
     ·exact z
     ·rw[w4 (by simp;lia)]at O;cases O
    rw[b6]at O;cases O
    have:j=i:=by lia
    subst this
    rw[en]at S;cases S
    exact hv.tups Tu
 ·rintro σ G a2;rcases q:a2 with⟨z3,I,rfl,W,a4,b1,a5⟩
  refine⟨00,l,I,rfl,.inl ⟨.of a4,λr b2=>k r I _ (W.trans (zk.upd b2)) zi ⟨by rw[wk];lia,λj v n O S=>?_⟩⟩⟩
  rw[we]at S
  cases hn:N[j]? with
  |none=>rw[hn]at S;cases S
  |some n'=>rw[hn]at S;cases S;exact(a5 j v n' O hn).tups (.of (zk.upd b2))
def CZ (cs:Bk) (lo hi:Wl):Prop:=(∀b∈cs,Sz 2000 b.pl/\Sz 80 b.sp)/\(∀x y,lo=some (x,y)->Sz 2000 x/\Sz 80 y)/\(∀x y,hi=some (x,y)->Sz 2000 x/\Sz 80 y)
inductive zhU (vs:Ba)(H:Hp)(Q:VK)(_e3:XK):Prop
 |mk:∀r wl us cs v1 v2 lo hi,(vs=[.ref r,.ref wl])->(H r=some (.tup us))->(zL H us cs)->(cs.length<=8)->(H wl=some (.tup [v1,v2]))->(zT H v1 lo)->(zT H v2 hi)->(CZ cs lo hi)->(∀G gs H',zk H H'->H G=none->H' G=some (.lst gs)->vD H' gs (grL cs lo hi)->Q (.ref G) H')->zhU vs H Q _e3
theorem ZO:zF ["row","walls","found","start","end","where","goes"] ["row","walls"] (zr ZA):=scq
theorem zaS (x y:Rat):PyData.eqv (.tuple [.int x.num,.int (x.den:Int)]) (.tuple [.int y.num,.int (y.den:Int)])=decide (x=y):=XA x y
theorem zly (D:Df K mg "_law_groups" ZA ["row","walls"] []) (T:TxQ K mg) (d2:⇑3 "_law_below" 1 ["a","b"] [] QT):⇑3 "_law_groups" 2 ["row","walls"] [] zhU:=by
 rcases r:D.calBq (k:=1) ZO with⟨r,wl,us,cs,v1,v2,lo,hi,rfl,c5,hB,h8,f4,e7,d7,hz,k⟩
 have d1:xf 1 _:=hr
 have hu:=hr.units
 have e8:=hB.length
 refine⟨_,(zE (Bx.mk (psl (i:=2) ZO.nd (xF zf)))
  (zE (Bx.mk (psl (i:=3) ZO.nd zg))
  (zE (Bx.mk (Qd PassesOwn.never (zI Z6 (pv 3) (xk xt ⇑2 T.nLen PySem.boot_len %[0|0]) (zJ _)) (JW (zE (Bx.mk (psl (i:=4) ZO.nd (pv 3)))
  (zE (Bx.mk (Qd PassesOwn.never (qk (zI Z6 (zD xc (pv 4) zg) (xk xt ⇑2 T.nLen PySem.boot_len %[0|0]) (zJ _)) (x8 (zI (vh hu) (pxt (xb ve (pv 0) (zD xc (pv 4) zg) (λ_ _=>rfl))) (pxt (xb ve (pv 0) (pv 3) (λ_ _=>rfl))) (zJ _)))).pt (zj (psl (i:=4) ZO.nd (zD xc (pv 4) zg)))))
  (zE (Bx.mk (psl (i:=5) ZO.nd qV))
  (zE (Bx.mk (psl (i:=6) ZO.nd ZL))
  (zE (Bx.mk (zZ (qk (zI xQ (pxt (pv 1)) zV (zJ _)) (x8 (zI (vh hu) (pxt (pxt (pv 1))) (pxt (xb ve (pv 0) (pv 3) (λ_ _=>rfl))) (zJ _)))).pt (zA (psl (i:=5) ZO.nd qV)
  (zj (psl (i:=6) ZO.nd (zH d2 d1 %[pxt (xb ve (pv 0) (pv 3) (λ_ _=>rfl)),pxt (pxt (pv 1))|0])))) (zj (zZ (qk (zI xQ (pxt (pv 1)) zV (zJ _)) (x8 (zI (vh hu) (pxt (pxt (pv 1))) (pxt (xb ve (pv 0) (pv 3) (λ_ _=>rfl))) (zJ _)))).pt (zA (psl (i:=5) ZO.nd qV)
  (zj (psl (i:=6) ZO.nd (zH d2 d1 %[pxt (pxt (pv 1)),pxt (xb ve (pv 0) (pv 4) (λ_ _=>rfl))|0])))) zQ))))
  (zE (Bx.mk (zZ ((vQ (zI Vc (pv 4) (pv 3) (zJ _)) (vG (xv (pv 6) λ_=>rfl)))).pt (zj (qz (Vd yx yN yO qO (pv 2) %[(xa %[3,4,5|0])|0]))) zQ))
  (Bx.mk (zj (psl (i:=3) ZO.nd (zD xc (pv 4) zg)))))))))))))
  (Bx.mk (zj (zG (pv 2))))))),?_⟩
 try dsimp only[xi,Cx.nox]
 refine⟨by show 0<=sizeLine;exact yo _,λl hl=>?_⟩
 have S1:zk H (upd H l (.lst [])):=zk.upd hl
 have c9:upd H l (.lst []) l=some (.lst []):=zi
 generalize upd H l (.lst [])=G1 at S1 c9
 dsimp only[zM]
 obtain⟨ks,b2⟩:∃ks,ks=cs.map zB.pl:=⟨_,rfl⟩
 have g7:ks.length=us.length:=by rw[b2,wk,e8]
 refine zf2 ?_
 refine⟨λm σ G=>∃(st:Nat) (gs:Ba) (z4 z5 z6:Bh),σ=[Sr r,Sr wl,Sr l,some (.int (st:Int)),z4,z5,z6]/\m=us.length-st/\st<=us.length/\stG ks st=st/\zk H G/\G l=some (.lst gs)/\gs.length<=st/\vD G gs (rlG ks (fL cs lo hi) st),
  ⟨_,0,[],_,_,_,rfl,rfl,yo _,rfl,S1,c9,wq _,rfl,λi v e=>by simp at e⟩,?_⟩
 rintro m σ G a5;rcases q:a5 with⟨st,gs,z4,z5,z6,rfl,rfl,g9,d8,SG,a7,g4,b7⟩
 refine⟨01,r,us,rL,.inr (.of (SG _ _ c5)),022,00,qp (λhc=>?_) (λhc=>?_)⟩
 rotate_left
 ·have:¬st<us.length:=λz=>hc (wo ∅)
  refine⟨00,k l gs G SG hl a7 ?_⟩
  unfold grL
  rw[<-b2,show cs.length=st by lia];exact b7
 have c7:st<us.length:=by have:=wF hc;lia
 refine⟨_,λ_ _ z=>z,?_⟩
 dsimp only[zM]
 obtain⟨g0,W⟩:∃v,us[st]?=some v:=⟨_,wj c7⟩
 rcases q:hB.get W with⟨a0,p0,q0,O,a8,rfl,e2,a9,e3⟩
 have f6:=hz.1 O (wm a8)
 have Y:=SG _ _ c5
 have a3:=SG _ _ e2
 refine QV ?_
 refine⟨00,?_⟩
 refine xr (λσ' G'=>∃j:Nat,σ'=[Sr r,Sr wl,Sr l,some (.int (st:Int)),some (.int (j:Int)),z5,z6]/\G'=G/\st<=j/\j<us.length/\stG ks j=st/\rlG ks (fL cs lo hi) j=rlG ks (fL cs lo hi) st/\brk ks j=true) ?_ ?_
 rotate_left
 ·intro nx S
  refine⟨λm' σ' G'=>∃j:Nat,σ'=[Sr r,Sr wl,Sr l,some (.int (st:Int)),some (.int (j:Int)),z5,z6]/\G'=G/\m'=us.length-j/\st<=j/\j<us.length/\stG ks j=st/\rlG ks (fL cs lo hi) j=rlG ks (fL cs lo hi) st,⟨_,st,rL,rL,rL,wq _,c7,d8,rL⟩,?_⟩
  rintro m' σ' G' a5;rcases q:a5 with⟨j,rfl,rfl,rfl,h1,h2,h3,h4⟩
  have c4:ks[j]?=ks[st]?:=by
   have:=QA (ss:=ks) (i:=j) ∅ st ∅ h1
   exact this.symm
  refine⟨00,022,00,r,us,rL,.inr (.of Y),022,00,qp (λb6=>?_) (λb6=>?_)⟩
  rotate_left
  ·have hn:¬j+1<us.length:=λz=>b6 (wo ∅)
   refine xm (S _ _ ⟨j,rL,rL,h1,h2,h3,h4,?_⟩)
   unfold brk
   rw[wo (by lia:j+1=ks.length)];rfl
  have hn:j+1<us.length:=by have:=wF b6;lia
  obtain⟨v',d5⟩:∃v,us[j+1]?=some v:=⟨_,wj hn⟩
  rcases q:hB.get d5 with⟨a',p',q',b',f0,rfl,e0,e4,g6⟩
  have d4:atI us ((j:Int)+1)=some (.ref a'):=by rw[show (j:Int)+1=((j+1:Nat):Int)from rfl];exact xG d5
  refine⟨01,022,r,032,.of Y,d4,a',032,.of (SG _ _ e0),zaG ..,01,r,032,.of Y,xG W,a0,032,.of a3,zaG ..,?_⟩
  refine⟨_,_,zC.rd (SG _ _ e4),zC.rd (SG _ _ a9),xy _,xy _,00,?_⟩
  rw[zaS]
  have e9:ks[j+1]?=some b'.pl:=by rw[b2,we,f0];rfl
  have c0:ks[st]?=some O.pl:=by rw[b2,we,a8];rfl
  have a2:brk ks j = !decide (b'.pl=O.pl):=by
   unfold brk
   rw[wG (by lia:¬j+1=ks.length),Wn,c4,e9,c0]
   by_cases c:b'.pl=O.pl
   ·rw[c];simp
   ·rw[wG c];simp[c]
  by_cases c:b'.pl=O.pl
  ·rw[wo c]
   rw[wo c]at a2
   refine xp ⟨_,λ_ _ z=>z,_,rfl,_,_,rfl,rfl,us.length-(j+1),by lia,j+1,rfl,rfl,rfl,by lia,hn,?_,?_⟩
   ·show (if brk ks j=true then j+1 else stG ks j)=st
    rw[a2,if_neg (by simp)];exact h3
   ·show (if brk ks j=true then _ else rlG ks (fL cs lo hi) j)=_
    rw[a2,if_neg (by simp)];exact h4
  ·rw[wG c]
   rw[wG c]at a2
   exact xm (S _ _ ⟨j,rfl,rfl,h1,h2,h3,h4,by rw[a2];rfl⟩)
 rintro σ' G' a5;rcases q:a5 with⟨j,rfl,rfl,h1,h2,h3,h4,a2⟩
 obtain⟨g5,a6⟩:∃v,us[j]?=some v:=⟨_,wj h2⟩
 rcases q:hB.get a6 with⟨ae,pe,qe,be,c3,rfl,d9,g8,d6⟩
 have c2:=hz.1 be (wm c3)
 have b3:=SG _ _ d9
 refine QV ?_
 dsimp only[tC]
 refine QV ?_
 dsimp only[tC]
 have I:=SG _ _ f4
 have b4:=e7.tups (zX.of SG)
 have a4:=d7.tups (zX.of SG)
 refine xr (λσ' b9=>σ'=[Sr r,Sr wl,Sr l,some (.int (st:Int)),some (.int (j:Int)),some (.str (xT lo hi O.pl)),some (.bl (vK cs lo hi st j))]/\b9=G') ?_ ?_
 rotate_left
 ·intro nx S
  have U:=J4 (lo:=lo) (hi:=hi) a8 c3
  cases lo with
  |none =>
   obtain rfl:v1=.non:=b4
   have a1:atW none O.pl=false:=rfl
   rw[a1,if_neg (by simp)]at U
   have es:=zaq (hi:=hi) a1
   refine⟨00,wl,032,.of I,rL,rL,00,xm (xm ?_)⟩
   cases hi with
   |none =>
    obtain rfl:v2=.non:=a4
    refine⟨00,wl,032,.of I,rL,rL,00,xm (xm (S _ _ ⟨?_,rL⟩))⟩
    rw[es,U];rfl
   |some u =>
    obtain⟨x,y⟩:=u
    rcases q:a4 with⟨aw,pw,qw,rfl,g1,g2,g3⟩
    have zw:=hz.2.2 x y rfl
    refine⟨00,wl,032,.of I,rL,rL,00,xp ?_⟩
    refine⟨00,wl,032,.of I,rL,aw,032,.of g1,rL,01,r,032,.of Y,xG W,a0,032,.of a3,zaG ..,?_⟩
    refine⟨_,_,zC.rd g2,zC.rd (SG _ _ a9),xy _,xy _,00,?_⟩
    rw[zaS]
    have ea:atW (some (x,y)) O.pl=decide (x=O.pl):=rfl
    rw[ea]at es U
    by_cases c:x=O.pl
    ·rw[wo c]at es U ⊢
     rw[if_pos rfl]at es U
     refine xp ?_
     refine QV ?_
     dsimp only[tC]
     refine⟨00,wl,032,.of I,rL,aw,032,.of g1,rL,01,r,032,.of Y,xG a6,ae,032,.of b3,zaH ..,qw,qe,y,be.sp,rL,g3,SG _ _ d6,⟨zw.2.md,c2.2.md⟩,?_⟩
     refine S _ _ ⟨?_,rL⟩
     rw[es,U];rfl
    ·rw[wG c]at es U ⊢
     rw[if_neg (by simp)]at es U
     refine xm (S _ _ ⟨?_,rL⟩)
     rw[es,U];rfl
  |some u1 =>
   obtain⟨x1,y1⟩:=u1
   rcases q:b4 with⟨c6,f9,e5,rfl,f1,f2,f3⟩
   have f5:=hz.2.1 x1 y1 rfl
   refine⟨00,wl,032,.of I,rL,rL,00,xp ?_⟩
   refine⟨00,wl,032,.of I,rL,c6,032,.of f1,rL,01,r,032,.of Y,xG W,a0,032,.of a3,zaG ..,?_⟩
   refine⟨_,_,zC.rd f2,zC.rd (SG _ _ a9),xy _,xy _,00,?_⟩
   rw[zaS]
   have b1:atW (some (x1,y1)) O.pl=decide (x1=O.pl):=rfl
   by_cases c1:x1=O.pl
   ·rw[b1,wo c1,if_pos rfl]at U
    have es:=zc7 (hi:=hi) (b1.trans (wo c1))
    rw[wo c1]
    refine xp ?_
    refine QV ?_
    dsimp only[tC]
    refine⟨01,r,032,.of Y,xG W,a0,032,.of a3,zaH ..,00,wl,032,.of I,rL,c6,032,.of f1,rL,q0,e5,O.sp,y1,rL,SG _ _ e3,f3,⟨f6.2.md,f5.2.md⟩,?_⟩
    refine S _ _ ⟨?_,rL⟩
    rw[es,U];rfl
   ·rw[b1,wG c1,if_neg (by simp)]at U
    have es:=zaq (hi:=hi) (b1.trans (wG c1))
    rw[wG c1]
    refine xm ?_
    cases hi with
    |none =>
     obtain rfl:v2=.non:=a4
     refine⟨00,wl,032,.of I,rL,rL,00,xm (xm (S _ _ ⟨?_,rL⟩))⟩
     rw[es,U];rfl
    |some u =>
     obtain⟨x,y⟩:=u
     rcases q:a4 with⟨aw,pw,qw,rfl,g1,g2,g3⟩
     have zw:=hz.2.2 x y rfl
     refine⟨00,wl,032,.of I,rL,rL,00,xp ?_⟩
     refine⟨00,wl,032,.of I,rL,aw,032,.of g1,rL,01,r,032,.of Y,xG W,a0,032,.of a3,zaG ..,?_⟩
     refine⟨_,_,zC.rd g2,zC.rd (SG _ _ a9),xy _,xy _,00,?_⟩
     rw[zaS]
     have ea:atW (some (x,y)) O.pl=decide (x=O.pl):=rfl
     rw[ea]at es U
     by_cases c:x=O.pl
     ·rw[wo c]at es U ⊢
      rw[if_pos rfl]at es U
      refine xp ?_
      refine QV ?_
      dsimp only[tC]
      refine⟨00,wl,032,.of I,rL,aw,032,.of g1,rL,01,r,032,.of Y,xG a6,ae,032,.of b3,zaH ..,qw,qe,y,be.sp,rL,g3,SG _ _ d6,⟨zw.2.md,c2.2.md⟩,?_⟩
      refine S _ _ ⟨?_,rL⟩
      rw[es,U];rfl
     ·rw[wG c]at es U ⊢
      rw[if_neg (by simp)]at es U
      refine xm (S _ _ ⟨?_,rL⟩)
      rw[es,U];rfl
 rintro σ' b9 ⟨rfl,rfl⟩
 have c8:rlG ks (fL cs lo hi) (j+1)=rlG ks (fL cs lo hi) st++(fL cs lo hi st j).toList:=by
  show (if brk ks j=true then rlG ks (fL cs lo hi) j++(fL cs lo hi (stG ks j) j).toList else _)=_
  rw[if_pos a2,h3,h4]
 have b5:stG ks (j+1)=j+1:=if_pos a2
 have c0:((cs.map zB.pl)[st]?).getD 0=O.pl:=by rw[we,a8];rfl
 have d3:fL cs lo hi st j=if st<j\/vK cs lo hi st j=true then some (st,j,xT lo hi O.pl)else none:=by unfold fL;rw[c0]
 have f8:gs.length<=j:=by lia
 refine VF (λH'=>H'=b9) (decide (st<j\/vK cs lo hi st j=true)) (λQ' q=>?_) (λb8 H6 e6=>?_) (λb8 H6 e6=>?_)
 ·refine⟨01,022,00,qp (λy1=>?_) (λy1=>?_)⟩
  ·have:st<j:=by have:=wF y1;lia
   rw[wo (Or.inl this)]at q
   exact q _ rL
  ·have n:¬st<j:=λz=>y1 (wo ∅)
   refine⟨01,?_⟩
   have:vK cs lo hi st j=decide (st<j\/vK cs lo hi st j=true):=by
    cases U:vK cs lo hi st j with
    |true=>rw[wo (Or.inr rfl)]
    |false=>rw[wG (by rintro (z | z);exact n z;cases z)]
   rw[<-this]at q
   exact q _ rL
 ·subst e6
  refine⟨00,.inl ⟨rL,gs,.of a7⟩,02,zL3,λgp f7=>?_⟩
  have s5:zk H6 (upd H6 gp (.tup [.int (st:Int),.int (j:Int),.str (xT lo hi O.pl)])):=zk.upd f7
  have h5:upd H6 gp (.tup [.int (st:Int),.int (j:Int),.str (xT lo hi O.pl)]) gp=some (.tup [.int (st:Int),.int (j:Int),.str (xT lo hi O.pl)]):=zi
  generalize upd H6 gp (.tup [.int (st:Int),.int (j:Int),.str (xT lo hi O.pl)])=G5 at s5 h5
  have d0:=s5 _ _ a7
  refine⟨l,gs,00,rL,d0,xn ∅,?_⟩
  have Tu:zX G5 (upd G5 l (.lst (gs++[.ref gp]))):=.upd d0
  refine⟨00,022,us.length-(j+1),by lia,j+1,gs++[.ref gp],032,by lia,b5,λb o e=>?_,zi,by simp;lia,?_⟩
  ·rw[zK (zN e hl)];exact s5 _ _ (SG _ _ e)
  ·rw[c8,d3,if_pos (wF b8)]
   exact((b7.keeps (.of s5)).keeps Tu).snoc ⟨gp,rL,Tu _ _ h5⟩
 ·subst e6
  refine⟨00,022,us.length-(j+1),by lia,j+1,gs,032,by lia,b5,SG,a7,by lia,?_⟩
  rw[c8,d3,if_neg (of_decide_eq_false b8)]
  show vD H6 gs (_++[])
  rw[yz];exact b7
end KT
namespace L2
open PySem PySem.Spec PyProof.Rows
def zgy {K:Fg}{H:Hp}{a b:Addr}{xs ys:Ba}{Q:VK}(j:H a=some (.tup xs)) (F:H b=some (.tup ys)) (I:xs.length+ys.length<=1000) (k:∀q H',zk H H'->H' q=some (.tup (xs++ys))->Q (.ref q) H'):ziu K (.ref a) (.ref b) H Q :=
 ⟨a,b,xs,ys,rfl,rfl,.of j,.of F,szl I,λz=>k b H (zk.refl _) (by rw[z];exact F),λ_ z=>k a H (zk.refl _) (by rw[z,yz];exact j),λ_ _ p G=>k p _ (zk.upd G) zi⟩
def JY {K:Fg}{H:Hp}{a:Addr}{xs:Ba}{lo hi:Option Int}{Q:VK}(j:H a=some (.tup xs)) (k:∀q H',zk H H'->H' q=some (.tup (qZ xs lo hi))->Q (.ref q) H'):zhq K (.ref a) lo hi H Q\/zjS K (.ref a) lo hi H Q:=by
 by_cases w:HT.sIx xs.length 0 lo=0/\HT.sIx xs.length xs.length hi=xs.length
 ·refine .inr ⟨a,xs,rL,.of j,w,k a H (zk.refl _) ?_⟩
  have:qZ xs lo hi=xs:=by unfold qZ;rw[w.1,w.2];simp
  rw[this];exact j
 ·exact .inl ⟨a,xs,rL,.of j,w,λp F=>k p _ (zk.upd F) zi⟩
end L2
namespace KT
open PySem L2 KM KK
open KQ (vL qR vW TxQ xK xP vm stG rlG brk vD Vg xU)
def Lay (n:Nat) (d:PyData):Prop:=PyData.canLay0 d=true/\PyData.depth d<=n
def ze1 {n:Nat}:∀{ds:List PyData},(∀d∈ds,Lay n d)->PyData.canLayAll0 ds=true/\PyData.depthAll ds<=n
 |[],_=>⟨rfl,yo _⟩
 |d::ds,h=>by
  obtain⟨h1,h2⟩:=ze1 (ds:=ds) λe m=>h e (wR _ m)
  obtain⟨j,F⟩:=h d (wT ..)
  refine⟨?_,?_⟩
  ·show (PyData.canLay0 d&&_)=true
   rw[h1,j];rfl
  ·show max (PyData.depth d) _<=n
   lia
def Lay.tup {n:Nat}{ds:List PyData}(h:∀d∈ds,Lay n d):Lay (n+1) (.tuple ds):=⟨(ze1 h).1,Nat.succ_le_succ (ze1 h).2⟩
def Lay.mono {m n:Nat}{d:PyData}(h:Lay m d) (e:m<=n):Lay n d:=⟨h.1,wY h.2 e⟩
def Lay.md {m n:Nat}{d:PyData}(h:Lay m d) (e:m<=n:=by decide):Lay n d:=h.mono e
def Lay.int (i:Int):Lay 0 (.int i):=⟨rfl,wq _⟩
def Lay.non:Lay 0 .none:=⟨rfl,wq _⟩
def Lay.rat (x:Rat):Lay 1 (rD x):=Lay.tup λd m=>by
 rcases wy.mp m with rfl | m
 ·exact .int _
 ·rcases wy.mp m with rfl | m
  ·exact .int _
  ·cases m
def Lay.shaped {n:Nat}{d:PyData}(h:Lay n d) (e:n<=64):SeqAt.shaped d=true:=by
 show (_&&_)=true
 rw[h.1,wo (wY h.2 e)];rfl
def Lay.self {n:Nat}{d:PyData}(h:Lay n d):PyData.eqv d d=true:=SeqAt.eqv_refl _ h.1
def Lay.str {x:Str}(h:PyData.canLay0 (.str x)=true):Lay 0 (.str x):=⟨h,wq _⟩
def Lay.lst {n:Nat}{ds:List PyData}(h:∀d∈ds,Lay n d):Lay (n+1) (.list ds):=⟨(ze1 h).1,Nat.succ_le_succ (ze1 h).2⟩
def ziI (lo hi:Wl) (m:Rat):Bool:=match lo,hi with
 |some (x,y),some (x',y')=>decide (x+y*m=x'+y'*m)
 |_,_=>false
def JQ {bs:Bk}{lo hi:Wl}(O:Ord bs lo hi){m:Rat}(G:0<m):xP lo hi=some m↔ziI lo hi m=true:=by
 rw[zbk O G]
 cases lo with
 |none=>exact⟨λ⟨_,_,_,_,e,_⟩=>(by cases e),λh=>(by cases h)⟩
 |some u =>
  cases hi with
  |none=>exact⟨λ⟨_,_,_,_,_,e,_⟩=>(by cases e),λh=>(by cases h)⟩
  |some v =>
   obtain⟨x,y⟩:=u
   obtain⟨F,j⟩:=v
   show _↔decide (x+y*m=F+j*m)=true
   rw[wP]
   exact⟨λ⟨_,_,_,_,e1,e2,h⟩=>(by cases e1;cases e2;exact h),λh=>⟨x,y,F,j,rfl,rfl,h⟩⟩
variable {P:Program}{w:World}{K:Fg}{mg:Aa}{base:Heap}
theorem zeg {H:Hp}{F j:V}{lo hi:Wl}(h1:zT H F lo) (h2:zT H j hi):OsR H [F,j] [(lo,[]),(hi,[])]:=by
 have one:∀{v:V}{l:Wl},zT H v l->ThR H v l []:=λ{v l} h=>by
  cases l with
  |none=>exact h
  |some u=>obtain⟨x,y⟩:=u;obtain⟨a,p,q,e,O,I,G⟩:=h;exact⟨a,p,q,e,O,I,G⟩
 refine⟨rL,λi v n e1 e2=>?_⟩
 match i,e1,e2 with
 |0,e1,e2=>cases e1;cases e2;exact one h1
 |1,e1,e2=>cases e1;cases e2;exact one h2
 |i+2,e1,_=>simp at e1
theorem za7 {H:Hp}{v:V}{l:Wl}{m:Rat}(h:ThR H v (onO m l) []):zT H v (zO m l):=by
 cases l with
 |none=>exact h
 |some u=>obtain⟨x,y⟩:=u;obtain⟨a,p,q,e,G,F,j⟩:=h;exact⟨a,p,q,e,G,F,j⟩
theorem Jr {H:Hp}{us:Ba}{bs:Bk}(h:zL H us bs):OsR H us (bs.map λb=>(some (b.pl,b.sp),[V.int b.wt])):=by
 refine⟨by rw[h.length,wk],λi v n e1 e2=>?_⟩
 obtain⟨a,p,q,b,j,rfl,I,G,F⟩:=h.get e1
 rw[we,j]at e2
 cases e2
 exact⟨a,p,q,rL,I,G,F⟩
theorem Qx {H:Hp}{m:Rat}:∀{us:Ba}{bs:Bk},OsR H us ((bs.map λb=>((some (b.pl,b.sp):OT),[V.int b.wt])).map λn=>(onO m n.1,n.2))->zL H us (bs.map (zS m))
 |[],[],_=>.nil
 |[],_::_,h=>by have:=h.1;simp at this
 |_::_,[],h=>by have:=h.1;simp at this
 |u::us,b::bs,h=>by
  obtain⟨a,p,q,rfl,G,F,j⟩:=h.2 0 u _ rfl rfl
  exact .cons G F j (Qx ⟨by have:=h.1;simpa using this,λi v n e1 e2=>h.2 (i+1) v n ↥e1 ↥e2⟩)
def Xu.trans {a b c:Rat×Rat}(h:Xu a b) (k:Xu b c):Xu a c:=by
 unfold Xu at *
 rcases h with h | ⟨h1,h2⟩ <;> rcases k with k | ⟨k1,k2⟩
 ·exact .inl (by grind)
 ·exact .inl (by grind)
 ·exact .inl (by grind)
 ·exact .inr ⟨by grind,by grind⟩
def zjM {bs:Bk}{lo hi:Wl}(G:Qn bs) (B:Box bs lo hi) (h1:1<=bs.length):Ord bs lo hi:=by
 have a1:(bs.map λb=>(b.pl,b.sp)).Pairwise Xu:=by
  rw[yi]
  refine G.pw.imp λ{a b} h=>?_
  rcases h with h | ⟨h1,h2⟩
  ·exact .inl h
  ·exact .inr ⟨h1,by show a.sp<=b.sp;grind⟩
 have Y:∀x y,lo=some (x,y)->∀b∈bs,Xu (x,y) (b.pl,b.sp):=λx y e b j=>by
  obtain⟨I,V⟩:∃I,bs[0]?=some I:=⟨_,wj h1⟩
  have S:Xu (x,y) (I.pl,I.sp):=by
   obtain⟨U,O⟩:=B.lo x y I e V
   by_cases z:x=I.pl
   ·exact .inr ⟨z,O z⟩
   ·exact .inl (by show x<I.pl;grind)
  match bs,V with
  |c::cs,V =>
   cases V
   rcases wy.mp j with rfl | j
   ·exact S
   ·refine S.trans ?_
    rcases(yB.mp G.pw).1 b j with h | ⟨U,O⟩
    ·exact .inl h
    ·exact .inr ⟨U,uw O⟩
 have W:∀x y,hi=some (x,y)->∀b∈bs,Xu (b.pl,b.sp) (x,y):=λx y e b j=>by
  obtain⟨cs,c,ec⟩:∃cs c,bs=cs++[c]:=⟨_,_,(WP (by intro z;rw[z]at h1;simp at h1)).symm⟩
  have S:Xu (c.pl,c.sp) (x,y):=by
   obtain⟨U,O⟩:=B.hi x y cs c e ec
   by_cases z:x=c.pl
   ·exact .inr ⟨z.symm,O z⟩
   ·exact .inl (by show c.pl<x;grind)
  have gp:=G.pw
  rw[ec]at j gp
  rcases wK.mp j with j | j
  ·refine Xu.trans ?_ S
   rcases(wI.mp gp).2.2 b j c (wT ..)with h | ⟨U,O⟩
   ·exact .inl h
   ·exact .inr ⟨U,by show b.sp<=c.sp;grind⟩
  ·rw[wO.mp j];exact S
 refine⟨?_,B.lt⟩
 unfold tl
 refine wI.mpr ⟨wI.mpr ⟨?_,a1,λa F b j=>?_⟩,?_,λa F b j=>?_⟩
 ·cases lo with
  |none=>exact .nil
  |some u=>exact yE ..
 ·obtain⟨c,mc,rfl⟩:=wx.mp j
  cases lo with
  |none=>cases F
  |some u=>rw[wO.mp F];exact Y _ _ rfl c mc
 ·cases hi with
  |none=>exact .nil
  |some u=>exact yE ..
 ·cases hi with
  |none=>cases j
  |some u =>
   rw[wO.mp j]
   rcases wK.mp F with F | F
   ·cases lo with
    |none=>cases F
    |some v=>rw[wO.mp F];exact .inl (B.lt _ _ _ _ rfl rfl)
   ·obtain⟨c,mc,rfl⟩:=wx.mp F
    exact W _ _ rL c mc
def ziP {bs:Bk}{lo hi:Wl}(z:∀b∈bs,Sz 300 b.pl/\Sz 80 b.sp) (F:∀x y,lo=some (x,y)->Sz 320 x/\Sz 80 y) (G:∀x y,hi=some (x,y)->Sz 320 x/\Sz 80 y):TZ bs lo hi:=by
 intro t j
 unfold tl at j
 rcases wK.mp j with j | j
 ·rcases wK.mp j with j | j
  ·cases lo with
   |none=>cases j
   |some u=>rw[wO.mp j];exact F _ _ rfl
  ·obtain⟨c,mc,rfl⟩:=wx.mp j
   exact⟨(z c mc).1.md,(z c mc).2⟩
 ·cases hi with
  |none=>cases j
  |some u=>rw[wO.mp j];exact G _ _ rfl
def zaY {P m:Rat}(F:0<m){qs:Al}(h:qs.Pairwise (·>=·)):(xO P m qs).Pairwise Xu:=by
 unfold xO
 rw[yi]
 refine h.imp λ{a b} j=>?_
 have j:b<=a:=j
 by_cases z:a=b
 ·subst z;exact .inr ⟨rfl,by show a<=a;grind⟩
 ·have:=ym (show b<a by grind) F
  exact .inl (by show P-a*m<P-b*m;grind)
def far {q j m:Rat}(F:0<m) (G:m<=9) (h1 : -38<=q) (h2:j<=38):(j-q)*m<1000:=by
 have I:=yn (show j-q<=76 by grind) (uw F)
 grind
def wlL (P m:Rat) (o:Bj):Wl:=o.map λz=>(P-z*m,z)
def za6 (P m:Rat) (o:Bj):xK (wlL P m o)=xO P m o.toList:=by cases o <;> rfl
def Va (P m:Rat) (a b:Al):xO P m (a++b)=xO P m a++xO P m b:=by unfold xO;rw[yK]
def zhb {bs cs:Bk}{P m:Rat}{qs rs:Al}{j G:Bj}(F:0<m) (U:m<=9) (e1:bs.map (λb=>(b.pl,b.sp))=xO P m qs) (e2:cs.map (λb=>(b.pl,b.sp))=xO (P+1000) m rs)
  (p1:(j.toList++qs).Pairwise (·>=·)) (p2:(rs++G.toList).Pairwise (·>=·)) (V:∀q∈j.toList++qs,-38<=q) (I:∀q∈rs++G.toList,q<=38):Ord (bs++cs) (wlL P m j) (wlL (P+1000) m G):=by
 refine⟨?_,λx y x' y' Y W=>?_⟩
 ·unfold tl
  rw[za6,za6,yK,e1,e2,<-WA,<-Va,WA,<-Va]
  refine wI.mpr ⟨zaY F p1,zaY F p2,λa S b O=>?_⟩
  unfold xO at S O
  obtain⟨q,mq,rfl⟩:=wx.mp S
  obtain⟨r,mr,rfl⟩:=wx.mp O
  have:=far F U (V q mq) (I r mr)
  exact .inl (by show P-q*m<P+1000-r*m;grind)
 ·cases j with
  |none=>cases Y
  |some z =>
   cases G with
   |none=>cases W
   |some z' =>
    cases Y;cases W
    have:=far F U (V y (wL _ (wT ..))) (I y' (ww _ (wT ..)))
    grind
def zL.take' {H:Hp}:∀{vs:Ba}{bs:Bk}(n:Nat),zL H vs bs->zL H (vs.take n) (bs.take n)
 |_,_,0,_=>by simp;exact .nil
 |_,_,n+1,.nil=>by simp;exact .nil
 |_,_,n+1,.cons h1 h2 h3 h=>by rw[uE,uE];exact .cons h1 h2 h3 (zL.take' n h)
def zL.drop' {H:Hp}:∀{vs:Ba}{bs:Bk}(n:Nat),zL H vs bs->zL H (vs.drop n) (bs.drop n)
 |_,_,0,h=>h
 |_,_,n+1,.nil=>by simp;exact .nil
 |_,_,n+1,.cons h1 h2 h3 h=>by rw[WW,WW];exact zL.drop' n h
def zeB {α:Type}(xs:List α) (k:Nat) (j:0<k):qZ xs (some (-(k:Int))) none=xs.drop (xs.length-k):=by
 unfold qZ
 have e1:HT.sIx xs.length 0 (some (-(k:Int)))=xs.length-k:=by
  show (if -(k:Int)<0 then(-(k:Int)+(xs.length:Int)).toNat else _)=_
  rw[if_pos ∅];lia
 have e2:HT.sIx xs.length xs.length none=xs.length:=rfl
 rw[e1,e2,wH (by rw[wV];lia)]
def zcu {G:Int}{z:Rat}{qs:Al}(h:FD G z qs) (j:qs.length<=8) (O : -6<=z) (I:z<=6):(∀q∈qs,-38<=q/\q<=38)/\qs.Pairwise (·>=·):=by
 refine⟨λq F=>?_,h.1.imp λ{a b} g=>by show a>=b;have g:a>b:=g;grind⟩
 have:=h.2.2.2 q F
 have:=zkV j
 grind
def StO (p:Addr) (H:Hp) (Q:VK):Prop:=∀t r ws us bs v1 v2 l1 l2 H',xo p H H'->H' t=some (.tup [.ref r,.ref ws])->H' r=some (.tup us)->zL H' us bs->bs.length<=8->H' ws=some (.tup [v1,v2])->zT H' v1 l1->zT H' v2 l2->TZ bs l1 l2->Ord bs l1 l2->1<=bs.length->(∀c∈bs,1<=c.wt/\c.wt<=1000)->bs.Pairwise ZU->Q (.ref t) H'
def zkG {H:Hp}{p:Addr}(h:H p=some (.tup [.int 1000,.int 1])):zC H p 1000:=h
def zdm:Sz 10 1000:=⟨show (1000:Int).natAbs<2^10 by decide,show (1:Int).natAbs<2^10 by decide⟩
def zcE {bs:Bk}{P m:Rat}{qs:Al}(h:bs.map (λb=>(b.pl,b.sp))=xO P m qs) (F:qs.Pairwise (· > ·)) (j:0<m):bs.Pairwise ZU:=by
 have h1:(xO P m qs).Pairwise (λa b=>a.1<b.1):=by
  unfold xO
  rw[yi]
  refine F.imp λ{a b} lt=>?_
  have:=ym (show b<a from lt) j
  show P-a*m<P-b*m
  grind
 rw[<-h,yi]at h1
 exact h1.imp λ{a b} lt=>.inl lt
def zjQ {bs cs:Bk}{P m:Rat}{qs rs:Al}(j:0<m) (V:m<=9) (e1:bs.map (λb=>(b.pl,b.sp))=xO P m qs) (e2:cs.map (λb=>(b.pl,b.sp))=xO (P+1000) m rs) (I:qs.Pairwise (· > ·)) (p2:rs.Pairwise (· > ·)) (S:∀q∈qs,-38<=q) (F:∀q∈rs,q<=38):(bs++cs).Pairwise ZU:=by
 refine wI.mpr ⟨zcE e1 I j,zcE e2 p2 j,λa O b G=>?_⟩
 obtain⟨h1,h2⟩:=Qb e1 O
 obtain⟨U,W⟩:=Qb e2 G
 have:=far j V (S _ h1) (F _ U)
 exact .inl (by rw[h2,W];grind)
inductive zkd (vs:Ba)(H:Hp)(Q:VK)(_e3:XK):Prop
 |mk:∀(p:Addr),(vs=[.ref p])->(vE H p)->(StO p H Q)->zkd vs H Q _e3
theorem Xy:zF ["pool","moment","place","off","sides","alike","left","low","right","high"] ["pool"] (zr Zy):=scq
theorem zlp (D:Df K mg "_law_double" Zy ["pool"] []) (cN:⇑3 "_law_next" 1 ["pool","base"] [] qN) (h6:⇑3 "_law_ratio" 3 ["pool","size"] [] zfU)
  (cL:⇑3 "_law_low" 1 ["top","bottom"] [] qm) (cA:⇑3 "_law_add" 2 ["a","b"] [] (xY Sz2 (· + ·))) (d8:⇑3 "_law_bundle" 3 ["pool","where","place","moment","alike"] [] zhQ):⇑3 "_law_double" 4 ["pool"] [] zkd:=by
 refine D.calBq (k:=3) Xy (λf cdv A outer s H vs Q E hr h=>?_)
 obtain⟨p,rfl,hP,k⟩:=h
 have I:xf 1 _:=hr.md
 have g6:xf 2 _:=hr.md
 refine⟨_,(zE (ZX (i:=1) Xy.nd rL (Or.inl rL) (Bx.mk (zH cL I %[zD xc zg (zH cN I %[0,zg|0]),xb zU (xF %[zg,zg,zg|0]) (zH cN I %[0,zg|0]) (λ_ _=>rL)|0])))
  (zE (Bx.mk (psl (i:=2) Xy.nd (zH h6 hr %[0,zg|0])))
  (zE (Bx.mk (psl (i:=3) Xy.nd (zH cA g6 %[2,(xa %[zg,zg|0])|0])))
  (zE (Bx.mk (psl (i:=4) Xy.nd (xF %[(zH cN I %[0,zg|0]),zD zR zg (zH cN I %[0,zg|0])|0])))
  (zE (Bx.mk (psl (i:=5) Xy.nd (xF %[xW qh (zH cN I %[0,zg|0]) zg (zJ _),xW qh (zH cN I %[0,zg|0]) zg (zJ _)|0])))
  (zE (Bx.mk (qf (zH d8 hr %[0,xb zU (pv 4) zg (λ_ _=>rfl),2,1,xb zU (pv 5) zg (λ_ _=>rfl)|0]) (qu rfl (zP (pgl (i:=6) Xy.nd) (zP (pgl (i:=7) Xy.nd) xw)))))
  (zE (Bx.mk (qf (zH d8 hr %[0,xb zU (pv 4) zg (λ_ _=>rfl),3,1,xb zU (pv 5) zg (λ_ _=>rfl)|0]) (qu rfl (zP (pgl (i:=8) Xy.nd) (zP (pgl (i:=9) Xy.nd) xw)))))
  (Bx.mk (zj (zG (xa %[zD zcM (x6 (XS.or Xm) (pv 6) v4 (xH zg)) (x6 (XS.or Xm) (pv 8) (xH (Qc ZH zg)) v4),(xa %[xb zU (xF %[zV,7|0]) (xb zU (pv 4) zg (λ_ _=>rfl)) (λ_ _=>rfl),xb zU (xF %[zV,zV,9|0]) (xb zU (pv 4) zg (λ_ _=>rfl)) (λ_ _=>rfl)|0])|0]))))))))))),?_⟩
 try dsimp only[xi,Cx.nox]
 refine xr (λσ' G=>∃rm S,σ'=[Sr p,Sr rm,none,none,none,none,none,none,none,none]/\xo p H G/\zC G rm S/\Sz 5 S/\0<S/\S<=9) ?_ ?_
 rotate_left
 ·intro nx a4
  refine⟨00,p,00,by decide,by decide,hP,λU G1 a1 b1 t1=>⟨022,zL3,λl1 a9=>?_⟩⟩
  refine⟨00,p,00,by decide,by decide,t1.pool.new a9,λY G2 a2 b2 t2=>?_⟩
  obtain⟨v,ev,v0,v1⟩:=ze6 a2 b2
  refine⟨l1,032,.of (t2.keep l1 _ zi (t1.pool.ne a9)),ev,?_⟩
  have hb:=J0 (t:=1+U) (b:=v) (c:=9) ∅ ∅ ∅
  exact⟨021,by lia,Bd.mono (m:=5) (bdn ∅ ∅) ⇑1,λr H' e h=>a4 _ _ ⟨r,00,(t1.trans (t2.pre (zk.upd a9))).same e,h,zh1 ∅ ∅ ∅ ∅,by rw[<-WV v];exact(Zf ∅).mpr ∅,hb.2⟩⟩
 rintro σ' G1 a3;rcases q:a3 with⟨rm,S,rfl,T1,g9,e3,d6,m9⟩
 refine⟨00,p,00,by decide,by decide,T1.pool,λrp px G2 t2 d0 c9=>?_⟩
 have T2:=T1.trans t2
 have f9:zC G2 rm S:=zY T1.pool t2 _ _ g9
 refine⟨00,⇑5,λth e5=>?_⟩
 have s3:=zk.upd (o:=.tup [.int 1000,.int 1]) e5
 refine⟨rp,th,021,s3 _ _ d0,zkG zi,⟨c9.md,zdm.md⟩,λro G4 s4 g5=>?_⟩
 have S4:=s3.trans s4
 have T4:=T2.same S4
 have e8:zC G4 rp px:=S4 _ _ d0
 have b9:zC G4 rm S:=S4 _ _ f9
 have i4:Sz 80 (px+1000):=(c9.add zdm).md
 clear s3 e5
 dsimp only[zM]
 refine xr (λσ' G=>∃(U Y:Int) (W:Addr),σ'=[Sr p,Sr rm,Sr rp,Sr ro,Sr W,none,none,none,none,none]/\0<=U/\U<2/\0<=Y/\Y<2/\xo p G4 G/\G W=some (.lst [.int U,.int (2*Y)])/\W≠p) ?_ ?_
 rotate_left
 ·intro nx a4
  refine⟨00,p,00,by decide,by decide,T4.pool,λU G5 a1 b1 t5=>?_⟩
  refine⟨00,p,00,by decide,by decide,t5.pool,λY G6 a2 b2 t6=>?_⟩
  refine⟨022,⟨Bd.mono (m:=3) (bdn ⇑1 ⇑1) ⇑1,Bd.mono (m:=3) (bdn ∅ ∅) ⇑1⟩,⇑5,λW b5=>?_⟩
  exact a4 _ _ ⟨U,Y,W,rL,a1,b1,a2,b2,(t5.trans t6).same (zk.upd b5),zi,t6.pool.ne b5⟩
 rintro σ' G5 a3;rcases q:a3 with⟨U,Y,W,rfl,a1,b1,a2,b2,t5,b5,O⟩
 have T5:=T4.trans t5
 refine xr (λσ' G=>∃(e1 e2:Bool) (la:Addr),σ'=[Sr p,Sr rm,Sr rp,Sr ro,Sr W,Sr la,none,none,none,none]/\xo p G5 G/\G la=some (.lst [.bl e1,.bl e2])/\la≠p) ?_ ?_
 rotate_left
 ·intro nx a4
  refine⟨00,p,00,by decide,by decide,T5.pool,λf1 G6 _ _ t6=>?_⟩
  refine⟨rfl,00,p,00,by decide,by decide,t6.pool,λf2 G7 _ _ t7=>?_⟩
  refine⟨rL,⇑5,λla a7=>?_⟩
  exact a4 _ _ ⟨_,_,la,rL,(t6.trans t7).same (zk.upd a7),zi,t7.pool.ne a7⟩
 rintro σ' G6 a3;rcases q:a3 with⟨e1,e2,la,rfl,t6,a7,f8⟩
 have T6:=T5.trans t6
 have b3:zX G4 G6:=(zY T4.pool t5).trans (zY T5.pool t6)
 have a8:=t6.keep W _ b5 O
 refine⟨01,W,032,.of a8,rfl,02,la,032,.of a7,rfl,p,rp,rm,U,e1,px,S,rfl,a1,by lia,b3 _ _ e8,c9.md,b3 _ _ b9,e3,T6.pool,λt r wl us bs ra rb y z G7 t7 ht g2 hB hZ h1 h8 h9 g3 i3 zy zz g7=>?_⟩
 rcases q:g7 with⟨qs,hL,c7,rfl,z0,z1⟩
 have T7:=T6.trans t7
 have g1:=zY T6.pool t7
 refine⟨t,00,.of ht,rL,021,022,?_⟩
 dsimp only[zM]
 have b8:=b3.trans g1
 refine⟨01,W,032,.of (t7.keep _ _ a8 O),rfl,02,la,032,.of (t7.keep _ _ a7 f8),rfl,p,ro,rm,2*Y,e2,px+1000,S,rfl,by lia,by lia,b8 _ _ g5,i4,b8 _ _ b9,e3,T7.pool,λt' r' F c5 f5 h4 i0 y' z' G8 t8 i8 e7 e4 c6 j4 j7 f0 e0 f7 i6 g8 d4=>?_⟩
 rcases q:d4 with⟨c8,c4,b0,rfl,i5,i9⟩
 have T8:=T7.trans t8
 have a5:=zY T7.pool t8
 have f6:=t8.keep _ _ (t7.keep _ _ a8 O) O
 refine⟨t',00,.of i8,rL,021,022,?_⟩
 dsimp only[zM]
 refine⟨01,JY (a5 _ _ g2) λc1 G9 s9 d3=>?_⟩
 refine⟨02,JY (s9 _ _ e7) λc2 j3 e9 d9=>?_⟩
 rw[show (some (4:Int))=some ((4:Nat):Int)from rfl,zgA]at d3
 rw[show (some (-4:Int))=some (-((4:Nat):Int))from rfl,zeB _ _ ⇑1]at d9
 refine zgy (e9 _ _ d3) d9 (by simp only[wU,wV];lia) λc3 d5 h0 g4=>?_
 have d7:=s9.trans (e9.trans h0)
 have a6:=d7 _ _ f6
 have i7:∀G,zX G8 G->zT G (.ref wl) (some (px-z*S,z)):=λG e=>⟨wl,ra,rb,rfl,e _ _ (a5 _ _ h9),e _ _ (a5 _ _ g3),e _ _ (a5 _ _ i3)⟩
 have h7:∀G,zX G8 G->zT G (.ref F) (some (px+1000-z'*S,z')):=λG e=>⟨F,h4,i0,rfl,e _ _ f0,e _ _ e0,e _ _ f7⟩
 refine⟨00,⇑5,λl1 a9=>?_⟩
 have b4:=zk.upd (o:=.lst [.non,.ref wl]) a9
 have b6:upd d5 l1 (.lst [.non,.ref wl]) l1=some (.lst [.non,.ref wl]):=zi
 generalize upd d5 l1 (.lst [.non,.ref wl])=G12 at b4 b6
 obtain⟨v1,o1,i1,k1,k2⟩:∃(v1:V) (o1:Bj),atI [V.non,.ref wl] U=some v1/\(∀G,zX G8 G->zT G v1 (wlL px S o1))/\((o1=none)\/(U=1/\o1=some z)):=by
  have:U=0\/U=1:=by lia
  rcases this with rfl | rfl
  ·exact⟨.non,none,rL,λ_ _=>rL,.inl rL⟩
  ·exact⟨.ref wl,some z,rL,i7,.inr ⟨rL,rL⟩⟩
 refine⟨00,W,032,.of (b4 _ _ a6),rL,l1,032,.of b6,i1,?_⟩
 refine⟨00,zL3,λl2 h3=>?_⟩
 have c0:=zk.upd (o:=.lst [.non,.non,.ref F]) h3
 have b7:upd G12 l2 (.lst [.non,.non,.ref F]) l2=some (.lst [.non,.non,.ref F]):=zi
 generalize upd G12 l2 (.lst [.non,.non,.ref F])=G13 at c0 b7
 obtain⟨v2,o2,i2,k3,k4⟩:∃(v2:V) (o2:Bj),atI [V.non,.non,.ref F] (2*Y)=some v2/\(∀G,zX G8 G->zT G v2 (wlL (px+1000) S o2))/\((o2=none)\/(2*Y=2/\o2=some z')):=by
  have:Y=0\/Y=1:=by lia
  rcases this with rfl | rfl
  ·exact⟨.non,none,rL,λ_ _=>rL,.inl rL⟩
  ·exact⟨.ref F,some z',rL,h7,.inr ⟨rL,rL⟩⟩
 refine⟨00,W,032,.of (c0 _ _ (b4 _ _ a6)),rL,l2,032,.of b7,i2,?_⟩
 refine⟨⇑5,λws g0=>⟨⇑5,λtt e6=>?_⟩⟩
 have h5:=(zk.upd (o:=.tup [v1,v2]) g0).trans (zk.upd (o:=.tup [.ref c3,.ref ws]) e6)
 have SE:=b4.trans (c0.trans h5)
 have S8:=d7.trans SE
 have j6:qs.length=bs.length:=by have:=congrArg List.length hL;unfold xO at this;simpa using this.symm
 have j5:c8.length=f5.length:=by have:=congrArg List.length c4;unfold xO at this;simpa using this.symm
 obtain⟨f1,f2⟩:=zcu c7 ∅ z0 z1
 obtain⟨f3,f4⟩:=zcu b0 ∅ i5 i9
 have j0:=e4.length
 refine k tt c3 ws _ (bs.take 4++f5.drop (c5.length-4)) v1 v2 _ _ _ (T8.same S8) zi (SE _ _ g4) ((zL.append (zL.drop' _ e4) (zL.take' _ (hB.mono a5))).same S8) (by simp only[wC,wU,wV];lia) (zk.upd e6 _ _ zi) (k1 _ (.of S8)) (k3 _ (.of S8)) (ziP (λb mb=>?_) (λx y e=>?_) (λx y e=>?_)) (zhb d6 m9 (qs:=qs.take 4) (rs:=c8.drop (c5.length-4)) ?_ ?_ ?_ ?_ (λq j=>?_) λq j=>?_) (by rw[wC,wU];lia) (λc mc=>by
  rcases wK.mp mc with mc | mc
  ·exact(hZ c (w8 mc)).2.2
  ·exact(c6 c (w5 mc)).2.2) (zjQ d6 m9 (qs:=qs.take 4) (rs:=c8.drop (c5.length-4)) (by rw[uS,hL];unfold xO;rw[uS]) (by rw[uT,c4];unfold xO;rw[uT]) (c7.1.sublist (Wz _ _)) (b0.1.sublist (Yh _ _)) (λq j=>(f1 q (w8 j)).1) λq j=>(f3 q (w5 j)).2)
 ·rcases wK.mp mb with mb | mb
  ·exact⟨(hZ b (w8 mb)).1,(hZ b (w8 mb)).2.1⟩
  ·exact⟨(c6 b (w5 mb)).1,(c6 b (w5 mb)).2.1⟩
 ·rcases k2 with rfl | ⟨_,rfl⟩
  ·cases e
  ·cases e;exact⟨zy.md,zz⟩
 ·rcases k4 with rfl | ⟨_,rfl⟩
  ·cases e
  ·cases e;exact⟨i6.md,g8⟩
 ·rw[uS,hL];unfold xO;rw[uS]
 ·rw[uT,c4];unfold xO;rw[uT]
 ·rcases k2 with rfl | ⟨rfl,rfl⟩
  ·exact f2.sublist (Wz _ _)
  ·exact yB.mpr ⟨λa ma=>c7.2.1 rL a (w8 ma),f2.sublist (Wz _ _)⟩
 ·rcases k4 with rfl | ⟨e2,rfl⟩
  ·rw[Option.toList_none,yz];exact f4.sublist (Yh _ _)
  ·refine wI.mpr ⟨f4.sublist (Yh _ _),yE ..,λa ma b mb=>?_⟩
   rw[wO.mp mb]
   exact b0.2.2.1 e2 a (w5 ma)
 ·rcases wK.mp j with j | j
  ·rcases k2 with rfl | ⟨_,rfl⟩
   ·cases j
   ·rw[wO.mp j];grind
  ·exact(f1 q (w8 j)).1
 ·rcases wK.mp j with j | j
  ·exact(f3 q (w5 j)).2
  ·rcases k4 with rfl | ⟨_,rfl⟩
   ·cases j
   ·rw[wO.mp j];grind
open KQ (SC RbS RbT ZK ptT scT mP puP baP ahP dvP Xx ZM vP qi xX xl xu trB vt tkO S0)
def zej (xs ys:Al):Prop:=ys.Perm xs/\ys.Pairwise (·<=·)
def zf1 {xs ys zs:Al}(h:zej xs ys) (k:zej xs zs):ys=zs :=
 (h.1.trans k.1.symm).eq_of_pairwise (λa b _ _ h1 h2=>Rat.le_antisymm h1 h2) h.2 k.2
def Z9 (wv:Bj) (v:Rat):Rat:=match wv with
 |none=>v
 |some z=>2*z-v
def twR (w0 w1 s0 s1:Rat):Rat:=2*(w0*s0+w1*s1)/(w0+w1)
def vJ (ws:Ak) (vs:Al) (wv:Bj) (ss:Al):Prop :=
 (wv=none/\∃(w0 w1:Int) (s0 s1:Rat),ws=[w0,w1]/\vs=[s0,s1]/\ss=[twR w0 w1 s0 s1-s0,twR w0 w1 s0 s1-s1]) ∨
 (¬(wv=none/\ws.length=2)/\qi ws=true/\zej (vs.map (Z9 wv)) ss)
def dq {a b:Int}(j:b≠0):Rat.divInt a b=(a:Rat)/(b:Rat):=yM a b
def ic0 {a:Int}(h:a≠0):(a:Rat)≠0:=λz=>h (by exact_mod_cast z)
def zl8 {j G m:Int}{t l:Int×Int}(F:m≠0):ptT (j*m) (G*m) t (scT m l)=ptT j G t l:=by
 unfold ptT scT
 have e:xu (l.1*m,l.2*m) t=xu l t*m:=by unfold xu;dsimp only;grind
 rw[e,show j*m*t.2=j*t.2*m by grind,Rat.divInt_mul_right F,Rat.divInt_mul_right F]
def zhr {j F:Int}{t l w:Int×Int}(G:j*t.2≠0) (I:F≠0):ptT j F t (ZM (some w) l)=(2*(ptT j F t w).1-(ptT j F t l).1,2*(ptT j F t w).2-(ptT j F t l).2):=by
 unfold ptT ZM
 nofun
 have e:xu (2*w.1-l.1,2*w.2-l.2) t=2*xu w t-xu l t:=by unfold xu;dsimp only;grind
 rw[e,dq G,dq G,dq G,dq I,dq I,dq I]
 push_cast
 exact YF (by simp only;grind) (by simp only;grind)
def zjb {l r:Int}(O:1<=l) (hr:1<=r):mP l r*dvP l r=l+r/\puP l r*dvP l r=2*r/\baP l r*dvP l r=2*l/\ahP l r*dvP l r=l-r:=by
 have U:=KQ.VC O hr
 have G:dvP l r ∣ l+r:=yU ..
 have F:dvP l r ∣ 2*l:=Ye ..
 have S:dvP l r ∣ 2*r:=by have:=Int.dvd_sub (Int.dvd_mul_of_dvd_right (b:=2) G) F;rw[show 2*(l+r)-2*l=2*r by lia]at this;exact this
 have I:dvP l r ∣ l-r:=by have:=Int.dvd_sub F G;rw[show 2*l-(l+r)=l-r by lia]at this;exact this
 have j:∀{x:Int},dvP l r ∣ x->x.fdiv (dvP l r)*dvP l r=x:=λ{x} h=>by
  rw[yp _ ∅];exact WT h
 exact⟨j G,j S,j F,j I⟩
def zhd {l r j F:Int}{t x y:Int×Int}(S:1<=l) (hr:1<=r) (G:j*t.2≠0) (O:F≠0) (I:(ptT j F t x).1=(ptT j F t y).1) :
  ptT (j*mP l r) (F*mP l r) t (ahP l r*x.1+puP l r*y.1,ahP l r*x.2+puP l r*y.2)=((ptT j F t x).1,twR l r (ptT j F t x).2 (ptT j F t y).2-(ptT j F t x).2) ∧
  ptT (j*mP l r) (F*mP l r) t (baP l r*x.1-ahP l r*y.1,baP l r*x.2-ahP l r*y.2)=((ptT j F t y).1,twR l r (ptT j F t x).2 (ptT j F t y).2-(ptT j F t y).2):=by
 obtain⟨em,eu,eb,ea⟩:=zjb S hr
 have dp:=KQ.VC S hr
 have mp:=KQ.zbR S hr
 generalize mP l r=m at *
 generalize puP l r=u at *
 generalize baP l r=b at *
 generalize ahP l r=a at *
 generalize dvP l r=d at *
 have hm:(m:Rat)≠0:=ic0 ∅
 have hd:(d:Rat)≠0:=ic0 ∅
 have hP:=ic0 G
 have hS:=ic0 O
 have a3:(l:Rat)+(r:Rat)≠0:=by have:=ic0 (a:=l+r) ∅;push_cast at this;exact this
 have W:(m:Rat)*d=l+r:=by exact_mod_cast congrArg (λz:Int=>(z:Rat)) em
 have a4:(u:Rat)*d=2*r:=by exact_mod_cast congrArg (λz:Int=>(z:Rat)) eu
 have a1:(b:Rat)*d=2*l:=by exact_mod_cast congrArg (λz:Int=>(z:Rat)) eb
 have a2:(a:Rat)*d=l-r:=by exact_mod_cast congrArg (λz:Int=>(z:Rat)) ea
 have U:j*m*t.2≠0:=by rw[show j*m*t.2=j*t.2*m by grind];exact yl G ∅
 have V:F*m≠0:=yl O ∅
 unfold ptT at I ⊢
 unfold twR
 dsimp only at I ⊢
 rw[dq G,dq G]at I
 rw[dq U,dq U,dq V,dq V,dq G,dq G,dq O,dq O]
 have e1:xu (a*x.1+u*y.1,a*x.2+u*y.2) t=a*xu x t+u*xu y t:=by unfold xu;dsimp only;grind
 have e2:xu (b*x.1-a*y.1,b*x.2-a*y.2) t=b*xu x t-a*xu y t:=by unfold xu;dsimp only;grind
 rw[e1,e2,show j*m*t.2=j*t.2*m by grind]
 generalize xu x t=X at *
 generalize xu y t=Y at *
 generalize j*t.2=Pq at *
 push_cast
 have eX:(X:Rat)=Y:=by
  have:=congrArg (· * (Pq:Rat)) I
  simp only[W9 hP]at this
  exact this
 rw[eX]
 refine⟨YF ?_ ?_,YF ?_ ?_⟩ <;> dsimp only
 ·grind
 ·grind
 ·grind
 ·grind
def zc6 {α:Type}:∀{T:List α}{a:Nat}{u v:α},a+1<T.length->(T.set a u).set (a+1) v=T.take a++[u,v]++T.drop (a+2)
 |x::y::T,0,u,v,_=>by simp
 |[x],0,u,v,h=>by simp at h
 |[],a,u,v,h=>by simp at h
 |x::T,a+1,u,v,h=>by
  have:=zc6 (T:=T) (a:=a) (u:=u) (v:=v) ↥h
  simp only[List.set_cons_succ,uE,WW,List.cons_append]
  rw[this]
def X8 {α:Type}(xs:List α) (a b:Nat):qZ xs (some (a:Int)) (some ((b:Int)+1))=(xs.drop a).take (b+1-a):=by
 unfold qZ
 rw[show ((b:Int)+1)=((b+1:Nat):Int) by lia,HT.sIx_nat,HT.sIx_nat]
 by_cases h:b+1<=xs.length
 ·rw[show min (b+1) xs.length=b+1 by lia]
  by_cases h':a<=xs.length
  ·rw[show min a xs.length=a by lia]
  ·rw[uM ∅,uM ∅];simp
 ·by_cases h':a<=xs.length
  ·rw[show min a xs.length=a by lia,show min (b+1) xs.length=xs.length by lia,wH (by rw[wV];lia),wH (by rw[wV];lia)]
  ·rw[uM ∅,uM ∅];simp
def zi7 {a b s:Int}(j:0<s) (h:a<=b):Rat.divInt a s<=Rat.divInt b s:=by
 rw[dq ∅,dq ∅]
 have h1:(a:Rat)<=(b:Rat):=by exact_mod_cast h
 have h2:(0:Rat)<(s:Rat):=by exact_mod_cast j
 rw[Rat.div_def,Rat.div_def]
 exact yn h1 (uw (Rat.inv_pos.mpr h2))
def zlX {ws:Ak}{g:Bg}{S j:SC}{t:Int×Int}{pl:Rat}(hw:∀x∈ws,1<=x/\x<=1000) (p0:0<S.pb) (s0:0<S.sb) (t0:0<t.2) (r:RbS ws g S j) (a5:g.1<=g.2.1) (hb:g.2.1<S.trs.length) (a7:ws.length=S.trs.length)
  (G:∀l∈(S.trs.drop g.1).take (g.2.1+1-g.1),(ptT S.pb S.sb t l).1=pl) (a6:∀u,xl g.2.2 S.lo S.hi=some u->(ptT S.pb S.sb t u).1=pl) :
  0<j.pb/\0<j.sb/\j.trs.length=S.trs.length/\j.lo.map (ptT j.pb j.sb t)=S.lo.map (ptT S.pb S.sb t)/\j.hi.map (ptT j.pb j.sb t)=S.hi.map (ptT S.pb S.sb t) ∧
  ∃ss,ss.length=g.2.1+1-g.1/\vJ (xX ws g.1 g.2.1) (((S.trs.drop g.1).take (g.2.1+1-g.1)).map λl=>(ptT S.pb S.sb t l).2) ((xl g.2.2 S.lo S.hi).map λl=>(ptT S.pb S.sb t l).2) ss ∧
   j.trs.map (ptT j.pb j.sb t)=(S.trs.map (ptT S.pb S.sb t)).take g.1++ss.map (λv=>(pl,v))++(S.trs.map (ptT S.pb S.sb t)).drop (g.2.1+1):=by
 obtain⟨a,b,wh⟩:=g
 dsimp only at *
 have a8:=KQ.zbi a5 (show b<ws.length by lia)
 have q0:S.pb*t.2≠0:=yl ∅ ∅
 have q1:S.sb≠0:=by lia
 rcases r with⟨U,l,I,x,y,el,er,ex,ey,e1,e2,e3,e4,e5⟩ | ⟨U,hs,a2,pm,ps,e1,e2,e3,e4,e5⟩
 ·dsimp only at *
  unfold vP at U
  rw[uf,wP,wP]at U
  obtain⟨hn,h2⟩:=U
  have a4:b=a+1:=by lia
  subst a4
  have wl:=hw l (wm el)
  have wr:=hw I (wm er)
  have mp:=KQ.zbR wl.1 wr.1
  have Y:∀u,ptT j.pb j.sb t (scT (mP l I) u)=ptT S.pb S.sb t u:=λu=>by rw[e1,e2];exact zl8 ∅
  have F:(S.trs.drop a).take (a+1+1-a)=[x,y]:=by
   obtain⟨ha,rfl⟩:=wn.mp ex
   obtain⟨W,rfl⟩:=wn.mp ey
   rw[show a+1+1-a=2 by lia,yj ha,yj W];rfl
  have a3:xX ws a (a+1)=[l,I]:=by
   unfold xX
   rw[X8]
   obtain⟨ha,rfl⟩:=wn.mp el
   obtain⟨W,rfl⟩:=wn.mp er
   rw[show a+1+1-a=2 by lia,yj ha,yj W];rfl
  have hx:=G x (by rw[F];simp)
  have hy:=G y (by rw[F];simp)
  obtain⟨g1,g2⟩:=zhd (l:=l) (r:=I) wl.1 wr.1 q0 q1 (hx.trans hy.symm)
  refine⟨by rw[e1];exact Yl p0 mp,by rw[e2];exact Yl s0 mp,by rw[e3];unfold Xx;simp,?_,?_,[twR l I (ptT S.pb S.sb t x).2 (ptT S.pb S.sb t y).2-(ptT S.pb S.sb t x).2,twR l I (ptT S.pb S.sb t x).2 (ptT S.pb S.sb t y).2-(ptT S.pb S.sb t y).2],by show 2=_;lia,?_,?_⟩
  ·rw[e4,WE];congr 1;funext u;exact Y u
  ·rw[e5,WE];congr 1;funext u;exact Y u
  ·refine .inl ⟨by rw[hn];rfl,l,I,(ptT S.pb S.sb t x).2,(ptT S.pb S.sb t y).2,a3,by rw[F];rfl,rfl⟩
  ·rw[e3];unfold Xx
   rw[Yz,Yz,wW]
   have em:S.trs.map (ptT j.pb j.sb t ∘ scT (mP l I))=S.trs.map (ptT S.pb S.sb t):=We λu _=>Y u
   rw[em,e1,e2,g1,g2,hx,hy,zc6 (by rw[wk];lia)]
   rfl
 ·dsimp only at *
  rw[X8]at pm
  generalize hcut:(S.trs.drop a).take (b+1-a)=cut at *
  have a1:cut.length=b+1-a:=by rw[<-hcut,wU,wV];lia
  have hr:∀u∈cut,(ptT S.pb S.sb t (ZM (xl wh S.lo S.hi) u)).1=pl/\(ptT S.pb S.sb t (ZM (xl wh S.lo S.hi) u)).2=Z9 ((xl wh S.lo S.hi).map λl=>(ptT S.pb S.sb t l).2) (ptT S.pb S.sb t u).2:=λu O=>by
   cases ew:xl wh S.lo S.hi with
   |none=>exact⟨G u O,rfl⟩
   |some v =>
    rw[zhr q0 q1]
    have h1:=G u O
    have h2:=a6 v ew
    refine⟨?_,rL⟩
    nofun
    rw[h1,h2];grind
  have V:∀u∈a2,(ptT S.pb S.sb t u).1=pl:=λu O=>by
   obtain⟨v,mv,rfl⟩:=wx.mp (pm.mem_iff.mp O)
   exact(hr v mv).1
  rw[e1,e2,e3,e4,e5]
  refine⟨p0,s0,?_,rfl,rfl,a2.map (λl=>(ptT S.pb S.sb t l).2),by rw[wk,pm.length_eq,wk,a1],.inr ⟨?_,hs,?_,?_⟩,?_⟩
  ·rw[wC,wC,wU,wV,pm.length_eq,wk,a1];lia
  ·rintro ⟨z1,z2⟩
   unfold vP at U
   have z3:xl wh S.lo S.hi=none:=by
    cases ew:xl wh S.lo S.hi with
    |none=>rfl
    |some v=>rw[ew]at z1;cases z1
   rw[z3,z2]at U
   simp at U
  ·have:=pm.map (λl=>(ptT S.pb S.sb t l).2)
   refine this.trans ?_
   rw[wW,wW]
   refine List.Perm.of_eq (We λu O=>?_)
   exact(hr u O).2
  ·rw[yi]
   exact ps.imp λ{u v} h=>zi7 s0 h
  ·rw[yK,yK,uS,uT,wW]
   congr 2
   exact We λu O=>YF (V u O) rL
end KT
namespace L2
open PySem
end L2
namespace KT
open PySem L2 KM KK
def wtD (ws:Ak):PyData:=.list (ws.map PyData.int)
def zb2 {H:Hp}:∀(ws:Ak),Qp H (ws.map V.int) (ws.map PyData.int)
 |[]=>.nil
 |x::ws=>.cons (.int x) (zb2 ws)
def ze0 (ws:Ak):Lay 1 (wtD ws):=Lay.lst λd m=>by obtain⟨x,_,rfl⟩:=wx.mp m;exact Lay.int x
def QY:∀(xs ys:Ak),PyData.eqvAll (xs.map PyData.int) (ys.map PyData.int)=decide (xs=ys)
 |[],[]=>rfl
 |[],_::_=>rfl
 |_::_,[]=>rfl
 |x::xs,y::ys=>by
  show (PyData.eqv (.int x) (.int y)&&PyData.eqvAll (xs.map PyData.int) (ys.map PyData.int))=_
  rw[QY xs ys]
  show (x == y&&decide (xs=ys))=_
  by_cases h:x=y
  ·subst h;simp
  ·simp[h]
def zjc (xs ys:Ak):PyData.eqv (wtD xs) (wtD ys)=decide (xs=ys):=QY xs ys
def zfy {ws:Ak}(h:1<=ws.length):decide (ws=List.replicate ws.length (ws.headD 0))=KQ.qi ws:=by
 unfold KQ.qi
 rw[yH,wP,Wa]
 constructor
 ·intro e x m
  rw[wP]
  rw[e]at m
  exact Wi m
 ·intro e
  exact List.eq_replicate_iff.mpr ⟨rL,λx m=>wF (e x m)⟩
def wlD (l:Wl):PyData:=match l with
 |none=>.none
 |some (x,y)=>.tuple [rD x,rD y]
def ziR {H:Hp}{v:V}{l:Wl}(h:zT H v l):RdD H v (wlD l):=by
 cases l with
 |none=>obtain rfl:v=.non:=h;exact .non
 |some u=>obtain⟨x,y⟩:=u;obtain⟨a,p,q,rfl,G,F,j⟩:=h;exact .tup G (.cons (Zr F) (.cons (Zr j) .nil))
def zeZ (l:Wl):Lay 2 (wlD l):=by
 cases l with
 |none=>exact Lay.non.md
 |some u =>
  obtain⟨x,y⟩:=u
  exact Lay.tup λd m=>by
   simp only[wy,wZ,or_false]at m
   rcases m with rfl | rfl
   ·exact .rat _
   ·exact .rat _
def wsD (lo hi:Wl):PyData:=.tuple [wlD lo,wlD hi]
def zjo (lo hi:Wl):Lay 3 (wsD lo hi):=Lay.tup λd m=>by
 simp only[wy,wZ,or_false]at m
 rcases m with rfl | rfl
 ·exact zeZ _
 ·exact zeZ _
open KQ (xK xP SC RbS ZK ptT qi xX xl xu trB vt tkO S0 blT XW zbC pbO sbO stG rlG brk xU)
abbrev Grp:=Bg
def qA (wh:Str) (lo hi:Wl):Wl:=if wh = "low" then lo else if wh = "high" then hi else none
def xJ {α:Type}(l:List α) (g:Grp):List α:=(l.drop g.1).take (g.2.1+1-g.1)
def inG (g:Grp) (i:Nat):Prop:=g.1<=i/\i<=g.2.1
structure zbB (cs:Bk) (lo hi:Wl) (gs:List Grp) (ds:Bk):Prop where
 pw:ds.map (λb=>(b.pl,b.wt))=cs.map (λb=>(b.pl,b.wt))
 gr:∀g∈gs,vJ (xJ (cs.map zB.wt) g) (xJ (cs.map zB.sp) g) ((qA g.2.2 lo hi).map Prod.snd) (xJ (ds.map zB.sp) g)
 no:∀i,(∀g∈gs,¬inG g i)->(ds.map zB.sp)[i]?=(cs.map zB.sp)[i]?
def zdG {ws:Ak}{vs ss G:Al}{Y:Bj}(h:vJ ws vs Y ss) (k:vJ ws vs Y G):ss=G:=by
 rcases h with⟨U,w0,w1,s0,s1,e1,e2,e3⟩ | ⟨U,h1,h2⟩
 ·rcases k with⟨_,W,I,V,S,j,F,O⟩ | ⟨k0,_,_⟩
  ·rw[e1]at j;rw[e2]at F
   cases j;cases F
   rw[e3,O]
  ·exact absurd ⟨U,by rw[e1];rfl⟩ k0
 ·rcases k with⟨k0,W,I,V,S,j,_,_⟩ | ⟨_,_,k2⟩
  ·exact absurd ⟨k0,by rw[j];rfl⟩ U
  ·exact zf1 h2 k2
def vU {α:Type}{l:List α}{g:Grp}{i:Nat}(h:inG g i):(xJ l g)[i-g.1]?=l[i]?:=by
 unfold xJ
 rw[yS,if_pos (by have:=h.1;have:=h.2;lia),yk,Wf h.1]
def qF {α β:Type}(f:α->β) (l:List α) (g:Grp):xJ (l.map f) g=(xJ l g).map f:=by
 unfold xJ;rw[uS,uT]
def Qj {α:Type}{l:List α}{g:Grp}(h:g.2.1<l.length):(xJ l g).length=g.2.1+1-g.1:=by
 unfold xJ;rw[wU,wV];omega
def qQ {α:Type}{l:List α}{g:Grp}(j:Nat):(xJ l g)[j]?=if j<g.2.1+1-g.1 then l[g.1+j]? else none:=by
 unfold xJ
 rw[yS]
 split
 ·rw[yk]
 ·rfl
def Qi {α:Type}{l m:List α}{g:Grp}(h:∀i,inG g i->l[i]?=m[i]?):xJ l g=xJ m g:=by
 refine yq λj=>?_
 rw[qQ,qQ]
 split
 ·exact h _ ⟨by omega,by omega⟩
 ·rfl
def zep {ds es:Bk}(h1:ds.map zB.sp=es.map zB.sp) (h2:ds.map (λb=>(b.pl,b.wt))=es.map (λb=>(b.pl,b.wt))):ds=es:=by
 refine yq λi=>?_
 have e1:=congrArg (·[i]?) h1
 have e2:=congrArg (·[i]?) h2
 simp only[we]at e1 e2
 cases a:ds[i]? with
 |none=>rw[a]at e1;cases b:es[i]? with
  |none=>rfl
  |some y=>rw[b]at e1;cases e1
 |some x =>
  rw[a]at e1 e2
  cases b:es[i]? with
  |none=>rw[b]at e1;cases e1
  |some y =>
   rw[b]at e1 e2
   simp only[Wo,Option.some.injEq,Prod.mk.injEq]at e1 e2
   obtain⟨p,s,w⟩:=x
   obtain⟨F,s',j⟩:=y
   dsimp only at e1 e2
   rw[e1,e2.1,e2.2]
def zbB.uniq {cs:Bk}{lo hi:Wl}{j:List Grp}{ds es:Bk}(h:zbB cs lo hi j ds) (k:zbB cs lo hi j es):ds=es:=by
 refine zep (yq λi=>?_) (h.pw.trans k.pw.symm)
 by_cases c:∃g∈j,inG g i
 ·obtain⟨g,mg,hi⟩:=c
  rw[<-vU hi,zdG (h.gr g mg) (k.gr g mg),vU hi]
 ·have F:∀g∈j,¬inG g i:=λg mg z=>c ⟨g,mg,z⟩
  rw[h.no i F,k.no i F]
def Qe {α:Type}(l ss:List α) (g:Grp):List α:=l.take g.1++ss++l.drop (g.2.1+1)
def vv {α:Type}{l ss:List α}{g:Grp}(F:g.1<=g.2.1) (G:g.2.1<l.length) (j:ss.length=g.2.1+1-g.1) (i:Nat):(Qe l ss g)[i]?=if i<g.1 then l[i]? else if i<=g.2.1 then ss[i-g.1]? else l[i]?:=by
 unfold Qe
 have h1:(l.take g.1).length=g.1:=by rw[wU];lia
 by_cases c1:i<g.1
 ·rw[if_pos c1,WA,wE ∅,yS,if_pos c1]
 ·rw[if_neg c1]
  by_cases c2:i<=g.2.1
  ·rw[if_pos c2,wE (by rw[wC];lia),wB ∅,h1]
  ·rw[if_neg c2,wB (by rw[wC];lia),wC,h1,j,yk]
   congr 1;lia
def VR {α:Type}{l ss:List α}{g:Grp}(F:g.1<=g.2.1) (G:g.2.1<l.length) (j:ss.length=g.2.1+1-g.1):(Qe l ss g).length=l.length:=by
 unfold Qe;rw[wC,wC,wU,wV,j];lia
def ZI {α β:Type}(l:List α) (m:List β) (i:Nat):(l.zip m)[i]?=match l[i]?,m[i]? with
  |some a,some b=>some (a,b)
  |_,_=>none:=by
 rw[List.zip_eq_zipWith,List.getElem?_zipWith]
 cases l[i]? <;> cases m[i]? <;> rfl
def Xs {α:Type}(j:Str) (lo hi:Bc) (f:Int×Int->α):(xl j lo hi).map f=if j = "" then none else if j = "low" then lo.map f else hi.map f:=by
 unfold xl;split
 ·rfl
 ·split <;> rfl
def zdC {ws:Ak}{t:Int×Int}{pls vs:Al}{W:List Grp}{F s:SC}(C:ZK ws W F s) (hw:∀x∈ws,1<=x/\x<=1000) (p0:0<F.pb) (q0:0<F.sb) (t0:0<t.2) (a6:ws.length=F.trs.length) (h0:F.trs.map (ptT F.pb F.sb t)=pls.zip vs) (lp:pls.length=vs.length) (lv:vs.length=F.trs.length)
  (G:∀g∈W,g.1<=g.2.1/\g.2.1<vs.length/\∃pl,(∀i,inG g i->pls[i]?=some pl)/\∀u,xl g.2.2 F.lo F.hi=some u->(ptT F.pb F.sb t u).1=pl) (D:W.Pairwise λg O=>g.2.1<O.1) :
  ∃I,I.length=vs.length/\s.trs.length=F.trs.length/\0<s.pb/\0<s.sb/\s.trs.map (ptT s.pb s.sb t)=pls.zip I/\s.lo.map (ptT s.pb s.sb t)=F.lo.map (ptT F.pb F.sb t)/\s.hi.map (ptT s.pb s.sb t)=F.hi.map (ptT F.pb F.sb t) ∧
   (∀g∈W,vJ (xJ ws g) (xJ vs g) ((xl g.2.2 F.lo F.hi).map λl=>(ptT F.pb F.sb t l).2) (xJ I g))/\∀i,(∀g∈W,¬inG g i)->I[i]?=vs[i]?:=by
 induction C with
 |nil s=>exact⟨vs,rfl,rfl,p0,q0,h0,rfl,rfl,λg m=>(by cases m),λ_ _=>rfl⟩
 |@snoc W g F s s' h r ih =>
  obtain⟨I,l1,l2,pp,qq,hz,Y,a2,hd,hn⟩:=ih p0 q0 a6 h0 lv (λO m=>G O (wL _ m)) (wI.mp D).1
  obtain⟨S,hb,pl,a3,a7⟩:=G g (ww _ (wO.mpr rfl))
  have dj:∀O∈W,O.2.1<g.1:=λO m=>(wI.mp D).2.2 O m g (wO.mpr rfl)
  have ew:∀{α:Type}(k:Rat×Rat->α),(xl g.2.2 s.lo s.hi).map (λu=>k (ptT s.pb s.sb t u))=(xl g.2.2 F.lo F.hi).map (λu=>k (ptT F.pb F.sb t u)):=λ{α} k=>by
   have e1:∀o:Bc,(o.map λu=>k (ptT s.pb s.sb t u))=(o.map (ptT s.pb s.sb t)).map k:=λo=>by rw[WE];rfl
   have e2:∀o:Bc,(o.map λu=>k (ptT F.pb F.sb t u))=(o.map (ptT F.pb F.sb t)).map k:=λo=>by rw[WE];rfl
   rw[Xs,Xs,e1,e1,e2,e2,Y,a2]
  obtain⟨p1,s1,hl,a5,a1,ss,U,a8,hT⟩:=zlX (t:=t) (pl:=pl) (g:=g) hw pp qq t0 r S ∅ ∅ (λl ml=>by
   obtain⟨j,hj⟩:=yT ml
   rw[yS]at hj
   split at hj
   ·rw[yk]at hj
    have e:=congrArg (·[g.1+j]?) hz
    simp only[we,hj,ZI,a3 (g.1+j) ⟨by lia,by lia⟩,Wo]at e
    split at e
    ·rename_i a b e1 e2
     cases e1
     have:=Option.some.inj e
     rw[this]
    ·cases e
   ·cases hj) (λu eu=>by
    have e:=ew (λz=>z.1)
    rw[eu]at e
    cases e0:xl g.2.2 F.lo F.hi with
    |none=>rw[e0]at e;cases e
    |some u0=>rw[e0]at e;have:=Option.some.inj e;dsimp only at this;rw[this];exact a7 u0 e0)
  have V:g.2.1<I.length:=by lia
  refine⟨Qe I ss g,by rw[VR S V U,l1],by rw[hl,l2],p1,s1,?_,a5.trans Y,a1.trans a2,λO m=>?_,λi a4=>?_⟩
  ·rw[hT,hz]
   refine yq λi=>?_
   have:=vv (l:=pls.zip I) (ss:=ss.map λv=>(pl,v)) S (by rw[uA];lia) (by rw[wk];exact U) i
   rw[show (pls.zip I).take g.1++ss.map (λv=>(pl,v))++(pls.zip I).drop (g.2.1+1)=Qe (pls.zip I) (ss.map λv=>(pl,v)) g from rfl,this,ZI,ZI,vv S V U]
   by_cases c1:i<g.1
   ·rw[if_pos c1,if_pos c1]
   ·rw[if_neg c1,if_neg c1]
    by_cases c2:i<=g.2.1
    ·rw[if_pos c2,if_pos c2,a3 i ⟨by lia,c2⟩,we]
     cases ss[i-g.1]? <;> rfl
    ·rw[if_neg c2,if_neg c2]
  ·rcases wK.mp m with m | m
   ·have a9:=dj O m
    have e:xJ (Qe I ss g) O=xJ I O:=Qi λi hi=>by rw[vv S V U,if_pos (by have:=hi.2;lia)]
    rw[e];exact hd O m
   ·obtain rfl:=wO.mp m
    have e1:xJ (Qe I ss O) O=ss:=by
     refine yq λj=>?_
     rw[qQ]
     split
     ·rw[vv S V U,if_neg ∅,if_pos ∅,Ws]
     ·rw[w4 ∅]
    have e2:((s.trs.drop O.1).take (O.2.1+1-O.1)).map (λl=>(ptT s.pb s.sb t l).2)=xJ vs O:=by
     have e3:((s.trs.drop O.1).take (O.2.1+1-O.1)).map (λl=>(ptT s.pb s.sb t l).2)=(xJ (s.trs.map (ptT s.pb s.sb t)) O).map Prod.snd:=by
      rw[qF,wW];rfl
     rw[e3,hz,<-qF,List.map_snd_zip ∅]
     exact Qi λi hi=>hn i λg0 m0 z=>by have:=dj g0 m0;have:=z.2;have:=hi.1;lia
    have e4:xX ws O.1 O.2.1=xJ ws O:=X8 ws O.1 O.2.1
    rw[e1,<-e2,<-e4,<-ew (λz=>z.2)]
    exact a8
  ·have hg:=a4 g (ww _ (wO.mpr rfl))
   rw[vv S V U]
   have:=hn i λg0 m0=>a4 g0 (wL _ m0)
   by_cases c1:i<g.1
   ·rw[if_pos c1];exact this
   ·rw[if_neg c1,if_neg (λz=>hg ⟨by lia,z⟩)];exact this
def ziC {α:Type} [DecidableEq α] {ss:List α}{f:Nat->Nat->Option Grp}(j:∀a b g,f a b=some g->g.1=a/\g.2.1=b):∀n,(rlG ss f n).Pairwise (λg F=>g.2.1<F.1)/\∀g∈rlG ss f n,g.2.1<stG ss n
 |0=>⟨List.Pairwise.nil,λg (m:g∈([]:List Grp))=>nomatch m⟩
 |n+1=>by
  obtain⟨h1,h2⟩:=ziC (ss:=ss) j n
  have e1:rlG ss f (n+1)=if brk ss n=true then rlG ss f n++(f (stG ss n) n).toList else rlG ss f n:=rfl
  have e2:stG ss (n+1)=if brk ss n=true then n+1 else stG ss n:=rfl
  by_cases c:brk ss n=true
  ·rw[e1,e2,if_pos c,if_pos c]
   refine⟨wI.mpr ⟨h1,?_,λg m F G=>?_⟩,λg m=>?_⟩
   ·cases f (stG ss n) n with
    |none=>exact .nil
    |some g=>exact yE ..
   ·rw[(j _ _ F (uU.mp G)).1];exact h2 g m
   ·rcases wK.mp m with m | m
    ·have:=h2 g m;have:=xU ss n;lia
    ·have:=(j _ _ g (uU.mp m)).2;lia
  ·rw[e1,e2,if_neg c,if_neg c];exact⟨h1,h2⟩
def zik {cs:Bk}{lo hi:Wl}{a b:Nat}{g:Grp}(h:fL cs lo hi a b=some g):g=(a,b,xT lo hi (((cs.map zB.pl)[a]?).getD 0))/\(a<b\/vK cs lo hi a b=true):=by
 unfold fL at h
 split at h
 ·exact⟨(Option.some.inj h).symm,‹_›⟩
 ·cases h
def zeO (cs:Bk) (lo hi:Wl):(grL cs lo hi).Pairwise λg j=>g.2.1<j.1 :=
 (ziC (λa b g e=>by rw[(zik e).1];exact⟨rfl,rfl⟩) _).1
def zd7 {lo hi:Wl}{k:Rat}:∀u,qA (xT lo hi k) lo hi=some u->u.1=k:=by
 intro u e
 unfold xT at e
 have j:∀{l:Wl},atW l k=true->l=some u->u.1=k:=λ{l} h z=>by
  subst z;obtain⟨x,y⟩:=u;exact wF h
 split at e
 ·rename_i h;exact j h (by unfold qA at e;rw[if_pos rfl]at e;exact e)
 ·split at e
  ·rename_i h;exact j h (by unfold qA at e;rw[if_neg ⇑1,if_pos rfl]at e;exact e)
  ·unfold qA at e;rw[if_neg ⇑1,if_neg ⇑1]at e;cases e
def qS {cs:Bk}{lo hi:Wl}{g:Grp}(m:g∈grL cs lo hi):g.1<=g.2.1/\g.2.1<cs.length/\g.2.2=xT lo hi (((cs.map zB.pl)[g.1]?).getD 0)/\∃pl,(∀i,inG g i->(cs.map zB.pl)[i]?=some pl)/\∀u,qA g.2.2 lo hi=some u->u.1=pl:=by
 obtain⟨i,G,e⟩:=KQ.zag m
 obtain⟨rfl,_⟩:=zik e
 have I:=xU (cs.map zB.pl) i
 have F:i<(cs.map zB.pl).length:=by rw[wk];exact G
 obtain⟨pl,S⟩:∃pl,(cs.map zB.pl)[i]?=some pl:=⟨_,wj F⟩
 have U:=(QA F _ (wq _) I).trans S
 refine⟨I,G,rL,pl,λj O=>(QA F j O.1 O.2).trans S,?_⟩
 nofun
 rw[U]
 exact zd7
open KQ (vL qR vW TxQ)
abbrev AR:=Addr×Rat
def rfs (zs:List AR):Ba:=zs.map λz=>V.ref z.1
def BbI (i:Nat) (zs:List AR):Prop:=∀a b x y,a<b->zs.length-i<=b->zs[a]?=some x->zs[b]?=some y->x.2<=y.2
def BbJ (i k:Nat) (zs:List AR):Prop:=∀a b x y,a<b->(b=k\/zs.length-i<=b\/(zs.length-1-i<=b/\b<=k))->zs[a]?=some x->zs[b]?=some y->x.2<=y.2
def swp (zs:List AR) (k:Nat) (u v:AR):List AR:=(zs.set k v).set (k+1) u
def zhZ (zs:List AR) (k:Nat) (u v:AR):(swp zs k u v).length=zs.length:=by unfold swp;simp
def Vq {zs:List AR}{k:Nat}{u v:AR}(G:zs[k]?=some u) (F:zs[k+1]?=some v) (j:Nat):(swp zs k u v)[j]?=if j=k then some v else if j=k+1 then some u else zs[j]?:=by
 have h1:=(wn.mp F).1
 unfold swp
 rw[WC,WC,Wm]
 by_cases e1:j=k
 ·rw[if_pos e1,if_neg ∅,if_pos e1.symm,if_pos ∅]
 ·by_cases e2:j=k+1
  ·rw[if_pos e2.symm,if_pos ∅,if_neg e1,if_pos e2]
  ·rw[if_neg (Ne.symm e2),if_neg (Ne.symm e1),if_neg e1,if_neg e2]
def zf4 {zs:List AR}{k:Nat}{u v:AR}(G:zs[k]?=some u) (j:zs[k+1]?=some v):(swp zs k u v).Perm zs:=by
 obtain⟨F,rfl⟩:=wn.mp G
 obtain⟨h1,rfl⟩:=wn.mp j
 exact List.set_set_perm F h1
def zh0 {zs:List AR}{k:Nat}{u v:AR}:rfs (swp zs k u v)=((rfs zs).set k (V.ref v.1)).set (k+1) (V.ref u.1):=by unfold rfs swp;rw[Yz,Yz]
def zgu {i k:Nat}{zs:List AR}{u v:AR}(h:BbJ i k zs) (G:zs[k]?=some u) (O:zs[k+1]?=some v) (I:u.2<=v.2):BbJ i (k+1) zs:=by
 have F:∀a x,a<k+1->zs[a]?=some x->x.2<=v.2:=λa x S ex=>by
  by_cases e:a=k
  ·subst e;rw[G]at ex;cases ex;exact I
  ·exact YA (h a k x u ∅ (.inl rL) ex G) I
 intro a b x y ab U ex j
 by_cases e:b=k+1
 ·subst e;rw[O]at j;cases j;exact F a x ab ex
 ·exact h a b x y ab ∅ ex j
def zgv {i k:Nat}{zs:List AR}{u v:AR}(h:BbJ i k zs) (j:zs[k]?=some u) (G:zs[k+1]?=some v) (lt:v.2<u.2):BbJ i (k+1) (swp zs k u v):=by
 have V:k+1<zs.length-i:=by
  rcases WH (k+1) (zs.length-i)with z | z
  ·exact z
  ·have:=h k (k+1) u v ∅ (.inr (.inl z)) j G;grind
 have S:∀a x,a<k+1->(swp zs k u v)[a]?=some x->x.2<=u.2:=λa x W ex=>by
  rw[Vq j G]at ex
  by_cases e:a=k
  ·rw[if_pos e]at ex;cases ex;grind
  ·rw[if_neg e,if_neg ∅]at ex
   exact h a k x u ∅ (.inl rL) ex j
 intro a b x y ab U ex I
 rw[zhZ]at U
 by_cases e:b=k+1
 ·have O:=I
  rw[Vq j G,if_neg ∅,if_pos e]at O
  cases O
  exact S a x ∅ ex
 ·have F:zs.length-i<=b:=by lia
  rw[Vq j G,if_neg ∅,if_neg ∅]at I
  rw[Vq j G]at ex
  split at ex
  ·cases ex;exact h (k+1) b v y ∅ (.inr (.inl F)) G I
  ·split at ex
   ·cases ex;exact h k b u y ∅ (.inr (.inl F)) j I
   ·exact h a b x y ab (.inr (.inl F)) ex I
def zeq {i:Nat}{zs:List AR}(h:BbI i zs):BbJ i 0 zs:=λa b x y ab F ex j=>h a b x y ab ∅ ex j
def ziZ {i:Nat}{zs:List AR}(h:BbJ i (zs.length-1) zs):BbI (i+1) zs:=λa b x y ab F ex j=>by
 have:=(wn.mp j).1
 exact h a b x y ab ∅ ex j
def zgw (zs:List AR):BbI 0 zs:=λa b x y ab F ex j=>by
 have:=(wn.mp j).1
 lia
def zdx {zs:List AR}(h:BbI zs.length zs):zs.Pairwise (λx y=>x.2<=y.2) :=
 uZ.mpr λi j hi F G=>h i j _ _ G ∅ (wj hi) (wj F)
variable {P:Program}{w:World}{K:Fg}{mg:Aa}{base:Heap}
inductive zfX (vs:Ba)(H:Hp)(Q:VK)(_e3:XK):Prop
 |mk:∀a zs,(vs=[.ref a])->(H a=some (.lst (rfs zs)))->((∀z∈zs,zC H z.1 z.2/\Sz 4000 z.2))->(zs.length<=8)->(∀l zs' H',zk H H'->H' l=some (.lst (rfs zs'))->zs'.Perm zs->zs'.Pairwise (λx y=>x.2<=y.2)->Q (.ref l) H')->zfX vs H Q _e3
theorem ZP:zF ["ratios","found","turn","k"] ["ratios"] (zr ZC):=scq
theorem zjJ (D:Df K mg "_law_sorted" ZC ["ratios"] []) (T:TxQ K mg) (a7:⇑3 "_law_below" 1 ["a","b"] [] QT):⇑3 "_law_sorted" 2 ["ratios"] [] zfX:=by
 rcases r:D.calBq (k:=1) ZP with⟨a,zs,rfl,ha,hz,h8,k⟩
 have a6:xf 1 _:=hr
 refine⟨_,(zE (Bx.mk (psl (i:=1) ZP.nd (qj vM ⇑2 T.nList uL %[0|0])))
  (zE (Bx.mk (qD PassesOwn.never rfl (vi rfl T.nRange %[xk xt ⇑2 T.nLen PySem.boot_len %[1|0]|0]) (pgl (i:=2) ZP.nd) (zj (qD PassesOwn.never rfl (vi rfl T.nRange %[zD xS (xk xt ⇑2 T.nLen PySem.boot_len %[1|0]) zg|0]) (pgl (i:=3) ZP.nd) (zj (zZ (xv (zH a7 a6 %[xb zU (pv 1) (zD xc (pv 3) zg) (λ_ _=>rfl),xb zU (pv 1) (pv 3) (λ_ _=>rfl)|0]) λ_=>rfl) (zj (qf (xa %[xb zU (pv 1) (zD xc (pv 3) zg) (λ_ _=>rfl),xb zU (pv 1) (pv 3) (λ_ _=>rfl)|0]) (qu rfl (zP (Z7 (pv 1) (pv 3) vB) (zP (Z7 (pv 1) (zD xc (pv 3) zg) vB) xw))))) zQ))))))
  (Bx.mk (zj (zG (pv 1)))))),?_⟩
 try dsimp only[xi,Cx.nox]
 refine⟨00,a,00,.inl (.of ha),λl hl=>?_⟩
 have S1:=zk.upd (o:=.lst (rfs zs)) hl
 have S:upd H l (.lst (rfs zs)) l=some (.lst (rfs zs)):=zi
 generalize upd H l (.lst (rfs zs))=G1 at S1 S
 dsimp only[zM]
 refine zau ?_
 have a9:(rfs zs).length=zs.length:=by unfold rfs;rw[wk]
 refine⟨00,l,00,.inl (.of S),00,by lia,by lia,?_⟩
 have aR:∀{ys:List AR}{j:Nat}{z:AR},ys[j]?=some z->atI (rfs ys) (j:Int)=some (V.ref z.1):=λ{ys j z} e=>xG (by unfold rfs;rw[we,e];rfl)
 have U:∀ys:List AR,(rfs ys).length=ys.length:=λys=>by unfold rfs;rw[wk]
 refine vd (n:=((rfs zs).length:Int).toNat) (lo:=0) (λi σ G=>∃z2 z3 ys,σ=[Sr a,Sr l,z2,z3]/\zk H G/\G l=some (.lst (rfs ys))/\ys.Perm zs/\BbI i ys) ⟨_,_,zs,rL,S1,S,.refl _,zgw _⟩ ?_ ?_
 ·rintro i σ G hi I;rcases q:I with⟨z2,z3,ys,rfl,SG,O,pG,bG⟩
  have b0:ys.length=zs.length:=pG.length_eq
  refine⟨00,l,00,.inl (.of O),022,00,by have:=U ys;lia,by have:=U ys;lia,?_⟩
  refine vd (n:=(((rfs ys).length:Int)-1).toNat) (lo:=0) (λj σ G'=>∃z3 xs,σ=[Sr a,Sr l,some (.int (0+(i:Int))),z3]/\zk H G'/\G' l=some (.lst (rfs xs))/\xs.Perm zs/\BbJ i j xs) ⟨_,ys,rL,SG,O,pG,zeq bG⟩ ?_ ?_
  ·rintro j σ G2 hj I;rcases q:I with⟨y3,xs,rfl,W,F,p2,Y⟩
   have a4:xs.length=zs.length:=p2.length_eq
   have a8:j+1<xs.length:=by have:=U ys;lia
   obtain⟨u,eu⟩:∃u,xs[j]?=some u:=⟨_,wj ∅⟩
   obtain⟨v,ev⟩:∃v,xs[j+1]?=some v:=⟨_,wj a8⟩
   have hu:=hz u (p2.mem_iff.mp (wm eu))
   have hv:=hz v (p2.mem_iff.mp (wm ev))
   have a0:atI (rfs xs) (0+(j:Int))=some (V.ref u.1):=by rw[Int.zero_add];exact aR eu
   have a1:atI (rfs xs) (0+(j:Int)+1)=some (V.ref v.1):=by rw[show 0+(j:Int)+1=((j+1:Nat):Int) by lia];exact aR ev
   have i0:ixN (rfs xs).length (0+(j:Int))=some j:=by rw[Int.zero_add];exact KQ.VH (by have:=U xs;lia)
   have i1:ixN (rfs xs).length (0+(j:Int)+1)=some (j+1):=by rw[show 0+(j:Int)+1=((j+1:Nat):Int) by lia];exact KQ.VH (by have:=U xs;lia)
   dsimp only[zM]
   refine⟨01,022,l,032,.of F,a1,01,l,032,.of F,a0,v.1,u.1,v.2,u.2,rL,W _ _ hv.1,W _ _ hu.1,⟨hv.2,hu.2⟩,00,qp (λhc=>?_) (λhc=>?_)⟩
   ·have lt:v.2<u.2:=wF hc
    refine⟨01,022,l,032,.of F,a1,01,l,032,.of F,a0,⇑5,λtp a5=>?_⟩
    have s3:=zk.upd (o:=.tup [V.ref v.1,V.ref u.1]) a5
    have a2:upd G2 tp (.tup [V.ref v.1,V.ref u.1]) tp=some (.tup [V.ref v.1,V.ref u.1]):=zi
    generalize upd G2 tp (.tup [V.ref v.1,V.ref u.1])=G3 at s3 a2 ⊢
    have a3:=s3 _ _ F
    refine⟨tp,00,.of a2,rL,021,?_⟩
    refine⟨01,l,_,_,j,rL,rL,a3,i0,?_⟩
    refine⟨021,01,022,l,_,_,j+1,rfl,rfl,zi,by rw[Wm];exact i1,?_⟩
    refine⟨rL,_,swp xs j u v,rL,λb o e=>?_,?_,(zf4 eu ev).trans p2,zgv Y eu ev lt⟩
    ·have nb:b≠l:=zN e hl
     rw[zK nb,zK nb];exact s3 _ _ (W _ _ e)
    ·rw[zi,zh0]
   ·have le:u.2<=v.2:=by have:¬v.2<u.2:=λz=>hc (wo z);grind
    exact⟨_,xs,rL,W,F,p2,zgu Y eu ev le⟩
  ·rintro σ G2 I;rcases q:I with⟨y3,xs,rfl,W,F,p2,Y⟩
   have a4:xs.length=zs.length:=p2.length_eq
   rw[show (((rfs ys).length:Int)-1).toNat=xs.length-1 by have:=U ys;lia]at Y
   exact⟨_,_,xs,rL,W,F,p2,ziZ Y⟩
 ·rintro σ G I;rcases q:I with⟨z2,z3,ys,rfl,SG,O,pG,bG⟩
  rw[show ((rfs zs).length:Int).toNat=ys.length by have:=pG.length_eq;lia]at bG
  exact⟨00,k l ys G SG O pG (zdx bG)⟩
def JI (wl:Wl) (ws:Ak):Bool:=decide (wl=none)&&decide (ws.length=2)
def zbD (H:Hp) (zs:List AR):Prop:=∀z∈zs,zC H z.1 z.2
theorem zdr {H:Hp}:∀{ys:Ba}{qs:Al},ys.length=qs.length->(∀(i:Nat) (v:V),ys[i]?=some v->∃(p:Addr) (q:Rat),qs[i]?=some q/\v=V.ref p/\zC H p q)->∃zs:List AR,ys=rfs zs/\zs.map Prod.snd=qs/\zbD H zs
 |[],[],_,_=>⟨[],rfl,rfl,λ_ m=>by cases m⟩
 |[],_::_,h,_=>by simp at h
 |_::_,[],h,_=>by simp at h
 |y::ys,q::qs,h,k=>by
  obtain⟨p,G,e,rfl,F⟩:=k 0 y rfl
  cases e
  obtain⟨zs,e1,e2,j⟩:=zdr (H:=H) (ys:=ys) (qs:=qs) ↥h λi v e=>k (i+1) v ↥e
  refine⟨(p,q)::zs,by rw[e1];rfl,by rw[yw,e2],λz m=>?_⟩
  rcases wy.mp m with rfl | m
  ·exact F
  ·exact j z m
theorem zbD.same {H H':Hp}{zs:List AR}(h:zbD H zs) (s:zk H H'):zbD H' zs:=λz m=>s _ _ (h z m)
theorem zaf {H:Hp}{p:Addr}{n:Int}(h:H p=some (.tup [.int n,.int 1])):zC H p (n:Rat):=h
theorem zdj {n:Nat}{i:Int}(j:0<=i) (h1:i<2^n) (F:1<=n):Sz n (i:Rat):=⟨bdn j h1,by show (1:Int).natAbs<2^n;exact Nat.one_lt_two_pow ∅⟩
theorem zge {α:Type}{l:List α}(h:l.length=2):∃a b,l=[a,b]:=match l,h with | [a,b],_=>⟨a,b,rfl⟩
inductive zkf (vs:Ba)(H:Hp)(Q:VK)(_e3:XK):Prop
 |mk:∀r vw us bs wl,(vs=[.ref r,vw])->(H r=some (.tup us))->(zL H us bs)->(zT H vw wl)->(1<=bs.length)->(bs.length<=8)->((∀b∈bs,Sz 80 b.sp/\1<=b.wt/\b.wt<=1010))->((∀x y,wl=some (x,y)->Sz 80 y))->((JI wl (bs.map zB.wt)=false->qi (bs.map zB.wt)=false->∀H',zk H H'->Q .non H'))->((∀l zs H',zk H H'->H' l=some (.lst (rfs zs))->zbD H' zs->zs.length=bs.length->vJ (bs.map zB.wt) (bs.map zB.sp) (wl.map Prod.snd) (zs.map Prod.snd)->Q (.ref l) H'))->zkf vs H Q _e3
theorem JN:zF ["balls","wall","speeds","weights","push","twice"] ["balls","wall"] (zr Xh):=scq
theorem zlr (D:Df K mg "_law_dealt" Xh ["balls","wall"] []) (T:TxQ K mg) (cA:⇑3 "_law_add" 2 ["a","b"] [] (xY Sz2 (· + ·))) (cO:⇑3 "_law_off" 2 ["a","b"] [] (xY Sz2 (· - ·))) (c9:⇑3 "_law_by" 2 ["a","b"] [] (xY Sz2 (· * ·))) (i7:⇑3 "_law_part" 2 ["a","b"] [] (xY (λx y=>Sz2 x y/\y≠0) (· / ·)))
  (j4:⇑3 "_law_sorted" 2 ["ratios"] [] zfX):⇑3 "_law_dealt" 3 ["balls","wall"] [] zkf:=by
 rcases r:D.calBq (k:=2) JN with⟨r,vw,us,bs,wl,rfl,c0,hB,i2,n1,h8,hz,j7,kN,kL⟩
 have hu:=hr.units
 refine⟨_,(zE (Bx.mk (vo (i:=2) (NB:=["ball"]) (FR:=[]) (js:=[]) rfl rfl (λ_ _ h=>by cases h) .nil rfl ⇑0 rfl ⇑0 JN.nd rfl rfl ⇑2 (Zq (pv 0)) (by intro _ _ _;refine⟨?_,?_,?_⟩;(exact(pgl (i:=0) (show List.Nodup (["ball"]:Ad) by decide +kernel)));(exact xI);(exact(xb (qH (K:=K) rfl) (pv 0) zg (λ_ _=>rfl))))))
  (zE (Bx.mk (vo (i:=3) (NB:=["ball"]) (FR:=[]) (js:=[]) rfl rfl (λ_ _ h=>by cases h) .nil rfl ⇑0 rfl ⇑0 JN.nd rfl rfl ⇑2 (Zq (pv 0)) (by intro _ _ _;refine⟨?_,?_,?_⟩;(exact(pgl (i:=0) (show List.Nodup (["ball"]:Ad) by decide +kernel)));(exact xI);(exact(xb (qH (K:=K) rfl) (pv 0) zg (λ_ _=>rfl))))))
  (zE (Bx.mk (zZ (qk (zI qy (pv 1) zV (zJ _)) (x8 (zI qh (xk xt ⇑2 T.nLen PySem.boot_len %[0|0]) zg (zJ _)))).pt (zA (psl (i:=4) JN.nd (zH cA hr %[(zH c9 hr %[(xa %[xb zU (pv 3) zg (λ_ _=>rfl),zg|0]),xb zU (pv 2) zg (λ_ _=>rfl)|0]),(zH c9 hr %[(xa %[xb zU (pv 3) zg (λ_ _=>rfl),zg|0]),xb zU (pv 2) zg (λ_ _=>rfl)|0])|0])) (zA (Qz (i:=5) JN.nd rfl (Or.inr rfl) (zH i7 hr %[(zH c9 hr %[(xa %[zg,zg|0]),4|0]),(xa %[xk (zdB rfl) ⇑2 T.nSum PyProof.Rows.boot_sum %[3|0],zg|0])|0])) (zj (zG (Zj (NB:=["speed"]) (FR:=["twice"]) (js:=[5]) rfl rfl zev (.cons rfl rfl rfl ⟨_,rfl⟩ .nil) rfl ⇑0 rfl ⇑0 (xM (pv 2)) (by intro _ _ _;refine⟨?_,?_,?_⟩;(exact(pgl (i:=0) (show List.Nodup (["speed","twice"]:Ad) by decide +kernel)));(exact xI);(exact(zH cO hr %[1,0|0])))))))) zQ))
  (zE (Bx.mk (zZ (zI (zab hu) (pv 3) (zD zbZ (xF %[xb zU (pv 3) zg (λ_ _=>rfl)|0]) (xk xt ⇑2 T.nLen PySem.boot_len %[3|0])) (zJ _)) (zj (zG zV)) zQ))
  (zE (Bx.mk (zZ (zI xQ (pv 1) zV (zJ _)) (zj (vo (i:=2) (NB:=["speed"]) (FR:=["wall"]) (js:=[1]) rfl rfl (zew (a:="twice") (b:="wall") ⇑1) (.cons rfl rfl rfl ⟨_,rfl⟩ .nil) rfl ⇑0 rfl ⇑0 JN.nd rfl rfl ⇑2 (xM (pv 2)) (by intro _ _ _;refine⟨?_,?_,?_⟩;(exact(pgl (i:=0) (show List.Nodup (["speed","wall"]:Ad) by decide +kernel)));(exact xI);(exact(zH cO hr %[(zH cA hr %[xb (qH (K:=K) rfl) (pv 1) zg (λ_ _=>rfl),xb (qH (K:=K) rfl) (pv 1) zg (λ_ _=>rfl)|0]),0|0]))))) zQ))
  (Bx.mk (zj (zG (zH j4 hr %[2|0]))))))))),?_⟩
 try dsimp only[xi,Cx.nox]
 have l4:=hB.length
 refine⟨00,r,rL,⟨_,SqT.of c0⟩,λD1 i6=>?_⟩
 refine xR (js:=[]) (J:=Itt K r) (n:=1) (g:=zM 0) (te:=_) (xs:=us) (λi v G=>∃(b:zB) (p:Addr),bs[i]?=some b/\v=.ref p/\zC G p b.sp) (λ_ _ _ _ e ⟨b,p,h1,h2,h3⟩=>⟨b,p,h1,h2,e _ _ h3⟩) i6 (Xa c0) (xn ∅) ?_ ?_
 ·intro i x zs H7 Q' Y d5 s7 hk
  rcases q:(hB.same s7).get Y with⟨ab,pb,qb,b,eb,rfl,g1,g2,g3⟩
  obtain⟨O,rfl⟩:=ZR d5
  dsimp only[zM]
  exact⟨rL,00,ab,032,.of g1,rL,hk _ _ (zk.refl _) ⟨b,qb,eb,rL,g3⟩⟩
 intro y1 G1 s1 i4 f2 c7
 obtain⟨zs,rfl,d2,h5⟩:=zdr (H:=G1) (ys:=y1) (qs:=bs.map zB.sp) (by rw[wk];lia) λi v e=>by
  rcases q:c7 i v e with⟨b,p,e1,e2,e3⟩
  exact⟨p,b.sp,by rw[we,e1];rfl,e2,e3⟩
 dsimp only[zM]
 have c8:=s1 _ _ c0
 have i3:=hB.same s1
 refine⟨00,r,rL,⟨_,SqT.of c8⟩,λD2 k9=>?_⟩
 refine xR (js:=[]) (J:=Itt K r) (n:=1) (g:=zM 0) (te:=_) (xs:=us) (λi v _=>∃b:zB,bs[i]?=some b/\v=.int b.wt) (λ_ _ _ _ _ z=>z) k9 (Xa c8) (xn ∅) ?_ ?_
 ·intro i x zs H7 Q' Y d5 s7 hk
  rcases q:(i3.same s7).get Y with⟨ab,pb,qb,b,eb,rfl,g1,g2,g3⟩
  obtain⟨O,rfl⟩:=ZR d5
  dsimp only[zM]
  exact⟨rL,00,ab,032,.of g1,rL,hk _ _ (zk.refl _) ⟨b,eb,rL⟩⟩
 intro y2 G2 s2 a5 g7 c4
 have e2:y2=(bs.map zB.wt).map V.int:=by
  refine yq λj=>?_
  rw[wW,we]
  cases ey:y2[j]? with
  |none =>
   have:y2.length<=j:=uY.mp ey
   rw[w4 ∅];rfl
  |some v=>obtain⟨b,e1,e2⟩:=c4 j v ey;rw[e1,e2];rfl
 subst e2
 obtain⟨W,eW⟩:∃W,W=bs.map zB.wt:=⟨_,rfl⟩
 rw[<-eW]at a5
 have k4:W.length=bs.length:=by rw[eW,wk]
 have d6:∀x∈W,1<=x/\x<=1010:=λx m=>by rw[eW]at m;obtain⟨b,mb,rfl⟩:=wx.mp m;exact(hz b mb).2
 have S2:=s1.trans s2
 have b8:=h5.same s2
 have a1:=s2 _ _ i4
 have i5:zs.length=bs.length:=by have:=congrArg List.length d2;simpa using this
 have b5:∀z∈zs,Sz 80 z.2:=λz m=>by
  have:z.2∈bs.map zB.sp:=by rw[<-d2];exact wx.mpr ⟨z,m,rfl⟩
  obtain⟨b,mb,e⟩:=wx.mp this
  rw[<-e];exact(hz b mb).1
 have a3:=i2.tups (zX.of S2)
 clear g7 c4 c7 f2
 dsimp only[zM]
 rw[<-eW]at kN kL
 rw[<-d2]at kL
 refine xr (λσ' G=>σ'=[Sr r,some vw,Sr D1,Sr D2,none,none]/\zk G2 G/\JI wl W=false) ?_ ?_
 rotate_left
 ·intro nx a2
  cases wl with
  |some u =>
   obtain⟨x,y⟩:=u
   rcases q:a3 with⟨aw,pw,qw,rfl,g1,g2,g3⟩
   refine⟨00,rL,00,xm (a2 _ _ ⟨rL,zk.refl _,rL⟩)⟩
  |none =>
   obtain rfl:vw=.non:=a3
   refine⟨00,rL,00,xp ?_⟩
   refine⟨00,r,00,.inr (.of (S2 _ _ c0)),rL,00,?_⟩
   refine qp (λhc=>?_) (λhc=>a2 _ _ ⟨rL,zk.refl _,?_⟩)
   ·have h2:bs.length=2:=by have:=wF hc;injection this with this;lia
    obtain⟨I,F,j6⟩:=zge (k4.trans h2)
    obtain⟨S,O,i1⟩:=zge (i5.trans h2)
    subst i1
    subst j6
    have b0:=d6 I (by simp)
    have b1:=d6 F (by simp)
    have q0:=b8 S (by simp)
    have q1:=b8 O (by simp)
    have y0:=b5 S (by simp)
    have y1:=b5 O (by simp)
    have f9:Sz 11 (I:Rat):=zdj ∅ ∅ ⇑1
    have e5:Sz 11 (F:Rat):=zdj ∅ ∅ ⇑1
    refine⟨00,D2,032,.of a5,rL,⇑5,λt1 k8=>?_⟩
    have s3:=zk.upd (o:=.tup [V.int I,.int 1]) k8
    have f3:zC (upd G2 t1 (.tup [V.int I,.int 1])) t1 (I:Rat):=zaf zi
    generalize upd G2 t1 (.tup [V.int I,.int 1])=G3 at s3 f3 ⊢
    refine⟨00,D1,032,.of (s3 _ _ a1),rL,t1,S.1,021,f3,s3 _ _ q0,⟨f9.md,y0.md⟩,λr1 G4 e4 h4=>?_⟩
    have S4:=s3.trans e4
    refine⟨00,D2,032,.of (S4 _ _ a5),rL,⇑5,λt2 j5=>?_⟩
    have s5:=zk.upd (o:=.tup [V.int F,.int 1]) j5
    have g8:zC (upd G4 t2 (.tup [V.int F,.int 1])) t2 (F:Rat):=zaf zi
    generalize upd G4 t2 (.tup [V.int F,.int 1])=G5 at s5 g8 ⊢
    have S5:=S4.trans s5
    refine⟨00,D1,032,.of (S5 _ _ a1),rL,t2,O.1,021,g8,S5 _ _ q1,⟨e5.md,y1.md⟩,λr2 G6 e6 h6=>?_⟩
    have g5:=f9.mul y0
    have d9:=e5.mul y1
    refine⟨r1,r2,021,e6 _ _ (s5 _ _ h4),h6,⟨g5.md,d9.md⟩,λr3 G7 e7 h7=>?_⟩
    have S7:=S5.trans (e6.trans e7)
    have f1:=g5.add d9
    dsimp only[zM]
    refine⟨⇑5,λt3 i8=>?_⟩
    have s8:=zk.upd (o:=.tup [V.int 2,.int 1]) i8
    have b9:zC (upd G7 t3 (.tup [V.int 2,.int 1])) t3 ((2:Int):Rat):=zaf zi
    generalize upd G7 t3 (.tup [V.int 2,.int 1])=G8 at s8 b9 ⊢
    have f4:Sz 2 ((2:Int):Rat):=zdj ⇑1 ⇑1 ⇑1
    refine⟨00,t3,r3,021,b9,s8 _ _ h7,⟨f4.md,f1.md⟩,λr4 G9 e9 h9=>?_⟩
    have S9:=S7.trans (s8.trans e9)
    refine⟨00,D2,[I,F],rL,.of (S9 _ _ a5),⇑5,λt4 g9=>?_⟩
    have c3:=zk.upd (o:=.tup [V.int ([I,F]:Ak).sum,.int 1]) g9
    have b2:zC (upd G9 t4 (.tup [V.int ([I,F]:Ak).sum,.int 1])) t4 ((([I,F]:Ak).sum:Int):Rat):=zaf zi
    have c5:([I,F]:Ak).sum=I+F:=by simp
    rw[c5]at c3 b2
    rw[c5]
    generalize upd G9 t4 (.tup [V.int (I+F),.int 1])=G10 at c3 b2 ⊢
    have g0:Sz 12 ((I+F:Int):Rat):=zdj ∅ ∅ ⇑1
    have d7:=f4.mul f1
    have d8:((I+F:Int):Rat)≠0:=ic0 ∅
    refine⟨r4,t4,021,c3 _ _ h9,b2,⟨⟨d7.md,g0.md⟩,d8⟩,λr5 i0 l0 d0=>?_⟩
    have f8:((2:Int):Rat)*((I:Rat)*S.2+(F:Rat)*O.2)/((I+F:Int):Rat)=twR I F S.2 O.2:=by
     unfold twR;push_cast;rfl
    have d0:zC i0 r5 (twR I F S.2 O.2):=by rw[<-f8];exact d0
    have f5:Sz 300 (twR I F S.2 O.2):=by rw[<-f8];exact(d7.div g0 d8).md
    have c1:=S9.trans (c3.trans l0)
    dsimp only[zM]
    refine⟨00,D1,rL,⟨_,.of (c1 _ _ a1)⟩,λD3 d4=>?_⟩
    refine xR (js:=[5]) (J:=Itl K D1) (g:=zM 0) (te:=_) (n:=1) (xs:=rfs [S,O]) (λi v G=>∃(p:Addr) (q:Rat),([twR I F S.2 O.2-S.2,twR I F S.2 O.2-O.2]:Al)[i]?=some q/\v=.ref p/\zC G p q) (λi v G G' e ⟨r,q,a,b,c⟩=>⟨r,q,a,b,e _ _ c⟩) d4 (xZ (c1 _ _ a1)) (xn (by show 2<=1000;decide)) ?_ ?_
    ·intro i x zz a4 Q' Y b4 U hQ
     obtain⟨j3,rfl⟩:=ZR b4
     obtain⟨z,rfl,hz,hs,hi⟩:∃z:AR,x=.ref z.1/\zC G2 z.1 z.2/\Sz 80 z.2/\([twR I F S.2 O.2-S.2,twR I F S.2 O.2-O.2]:Al)[i]?=some (twR I F S.2 O.2-z.2):=by
      match i,Y with
      |0,Y=>cases Y;exact⟨S,rfl,q0,y0,rfl⟩
      |1,Y=>cases Y;exact⟨O,rfl,q1,y1,rfl⟩
      |i+2,Y=>simp[rfs]at Y
     exact⟨rL,01,r5,z.1,021,U _ _ d0,U _ _ (c1 _ _ hz),⟨f5.md,hs.md⟩,λr9 G9 e9 d3=>hQ _ _ e9 ⟨r9,_,hi,rL,d3⟩⟩
    ·intro ys a4 U a7 a9 a6
     obtain⟨b6,rfl,b3,d1⟩:=zdr (H:=a4) (ys:=ys) (qs:=[twR I F S.2 O.2-S.2,twR I F S.2 O.2-O.2]) (by rw[a9];rfl) a6
     refine kL D3 b6 a4 (S2.trans (c1.trans U)) a7 d1 ?_ (.inl ⟨rL,I,F,S.2,O.2,rL,rL,b3⟩)
     have:=congrArg List.length b3
     simp at this;lia
   ·unfold JI
    have:¬W.length=2:=λz=>hc (wo (by rw[show us.length=2 by lia];rfl))
    simp[this]
 rintro σ' G3 ⟨rfl,s3,c2⟩
 have S3:=S2.trans s3
 have f6:=s3 _ _ a1
 have b7:=s3 _ _ a5
 have f0:=b8.same s3
 refine xr (λσ' G=>σ'=[Sr r,some vw,Sr D1,Sr D2,none,none]/\zk G3 G/\qi W=true) ?_ ?_
 rotate_left
 ·intro nx a2
  have e0:atI (W.map V.int) 0=some (.int (W.headD 0)):=KQ.zbj ∅
  refine⟨01,D2,032,.of b7,e0,zL1,λl2 j0=>?_⟩
  have s6:=zk.upd (o:=.lst [.int (W.headD 0)]) j0
  refine⟨00,D2,00,.inl (.of (s6 _ _ b7)),l2,022,zi,by (first | (simp;lia) | simp),by (first | (simp;lia) | simp),szl (by (first | (simp;lia) | simp)),λl3 k6=>?_⟩
  have s7:=zk.upd (o:=.lst ((List.replicate ((W.map V.int).length:Int).toNat [V.int (W.headD 0)]).flatten)) k6
  have er:(List.replicate ((W.map V.int).length:Int).toNat [V.int (W.headD 0)]).flatten=(List.replicate W.length (W.headD 0)).map V.int:=by
   rw[wk,yD,Vo,List.map_replicate]
  refine⟨wtD W,wtD (List.replicate W.length (W.headD 0)),.lst (s7 _ _ (s6 _ _ b7)) (zb2 _),.lst (by rw[zi,er]) (zb2 _),(ze0 _).shaped ⇑1,(ze0 _).shaped ⇑1,00,?_⟩
  rw[zjc,zfy ∅]
  cases hs:qi W with
  |true=>exact xm (a2 _ _ ⟨rfl,s6.trans s7,hs⟩)
  |false=>exact xp (kN c2 hs _ (S3.trans (s6.trans s7)))
 rintro σ' G4 ⟨rfl,s4,j8⟩
 have S4:=S3.trans s4
 have a8:=s4 _ _ f6
 have c6:=f0.same s4
 have g6:¬((wl.map Prod.snd)=none/\W.length=2):=λ⟨O,z2⟩=>by
  unfold JI at c2
  have:wl=none:=by cases wl with
   |none=>rfl
   |some u=>cases O
  rw[this,z2]at c2;simp at c2
 refine xr (λσ' G=>∃(l:Addr) (ys:List AR),σ'=[Sr r,some vw,Sr l,Sr D2,none,none]/\zk G4 G/\G l=some (.lst (rfs ys))/\(∀z∈ys,zC G z.1 z.2/\Sz 4000 z.2)/\ys.map Prod.snd=(zs.map Prod.snd).map (Z9 (wl.map Prod.snd))) ?_ ?_
 rotate_left
 ·intro nx a2
  cases wl with
  |none =>
   obtain rfl:vw=.non:=a3
   refine⟨00,rL,00,xm (a2 _ _ ⟨D1,zs,rL,zk.refl _,a8,λz m=>⟨c6 z m,(b5 z m).md⟩,?_⟩)⟩
   show _=(zs.map Prod.snd).map (λv=>v)
   rw[List.map_id']
  |some u =>
   obtain⟨x,y⟩:=u
   rcases q:a3 with⟨aw,pw,qw,rfl,g1,g2,g3⟩
   have zy:=j7 x y rfl
   refine⟨00,rL,00,xp ?_⟩
   refine⟨00,D1,rL,⟨_,.of a8⟩,λD3 d4=>?_⟩
   refine xR (js:=[1]) (J:=Itl K D1) (g:=zM 0) (te:=_) (n:=1) (xs:=rfs zs) (λi v G=>∃(p:Addr) (q:Rat),((zs.map Prod.snd).map (Z9 (some y)))[i]?=some q/\v=.ref p/\zC G p q) (λi v G G' e ⟨r,q,a,b,c⟩=>⟨r,q,a,b,e _ _ c⟩) d4 (xZ a8) (xn (by unfold rfs;rw[wk];lia)) ?_ ?_
   ·intro i x' zz a4 Q' Y b4 U hQ
    obtain⟨j3,rfl⟩:=ZR b4
    unfold rfs at Y
    rw[we]at Y
    cases ez:zs[i]? with
    |none=>rw[ez]at Y;cases Y
    |some z =>
     rw[ez]at Y;cases Y
     have mz:=wm ez
     have sA:=s3.trans (s4.trans U)
     refine⟨rL,?_⟩
     refine⟨00,aw,032,.of (sA _ _ g1),rL,00,aw,032,.of (sA _ _ g1),rL,qw,qw,021,sA _ _ g3,sA _ _ g3,⟨zy.md,zy.md⟩,λr8 G8 e8 b9=>?_⟩
     refine⟨00,r8,z.1,021,b9,e8 _ _ (U _ _ (c6 z mz)),⟨(zy.add zy).md,(b5 z mz).md⟩,λr9 G9 e9 d3=>hQ _ _ (e8.trans e9) ⟨r9,_,by rw[we,we,ez];rfl,rfl,?_⟩⟩
     have e:Z9 (some y) z.2=y+y-z.2:=by show 2*y-z.2=_;grind
     rw[e];exact d3
   ·intro ys a4 U a7 a9 a6
    obtain⟨b6,rfl,b3,d1⟩:=zdr (H:=a4) (ys:=ys) (qs:=(zs.map Prod.snd).map (Z9 (some y))) (by rw[a9];unfold rfs;simp) a6
    refine a2 _ _ ⟨D3,b6,rL,U,a7,λz m=>⟨d1 z m,?_⟩,b3⟩
    have:z.2∈(zs.map Prod.snd).map (Z9 (some y)):=by rw[<-b3];exact wx.mpr ⟨z,m,rfl⟩
    obtain⟨v,mv,e⟩:=wx.mp this
    obtain⟨z',k7,e'⟩:=wx.mp mv
    rw[<-e,<-e',show Z9 (some y) z'.2=y+y-z'.2 by show 2*y-z'.2=_;grind]
    exact(Sz.sub (zy.add zy) (b5 z' k7)).md
 rintro σ' G5 h0;rcases q:h0 with⟨l,ys,rfl,s5,i9,f7,g4⟩
 have l1:ys.length=zs.length:=by have:=congrArg List.length g4;simpa using this
 refine⟨00,l,ys,rfl,i9,f7,by lia,λl' b6 H' s' j9 pm ps=>?_⟩
 refine kL l' b6 H' (S4.trans (s5.trans s')) j9 (λz m=>s' _ _ (f7 z (pm.mem_iff.mp m)).1) (by have:=pm.length_eq;lia) (.inr ⟨g6,j8,?_,?_⟩)
 ·rw[<-g4];exact pm.map _
 ·rw[yi];exact ps
open KQ (vD Vg)
def zL.set' {H:Hp}{t p q:Addr}{b:zB}(F:H t=some (.tup [.ref p,.ref q,.int b.wt])) (G:zC H p b.pl) (j:zC H q b.sp):∀{vs:Ba}{bs:Bk}(n:Nat),zL H vs bs->zL H (vs.set n (.ref t)) (bs.set n b)
 |_,_,_,.nil=>.nil
 |_,_,0,.cons h1 h2 h3 h=>.cons F G j h
 |_,_,n+1,.cons h1 h2 h3 h=>.cons h1 h2 h3 (zL.set' F G j n h)
def nbB (bs:Bk) (a:Nat) (ss:Al) (j:Nat):zB:=⟨((bs[a+j]?).map zB.pl).getD 0,(ss[j]?).getD 0,((bs[a+j]?).map zB.wt).getD 0⟩
def VS (bs cs:Bk) (a:Nat) (ss:Al):Nat->Bk
 |0=>cs
 |j+1=>(VS bs cs a ss j).set (a+j) (nbB bs a ss j)
def Qf (bs cs:Bk) (a:Nat) (ss:Al):∀j,(VS bs cs a ss j).length=cs.length
 |0=>rfl
 |j+1=>by show (List.set _ _ _).length=_;rw[Wm,Qf]
def sgB (bs:Bk) (g:Bg):Bk:=(bs.drop g.1).take (g.2.1+1-g.1)
def zlY (bs:Bk) (lo hi:Wl) (g:Bg):Prop:=JI (qA g.2.2 lo hi) ((sgB bs g).map zB.wt)=false/\qi ((sgB bs g).map zB.wt)=false
def zay {α:Type}{l:List α}{i:Nat}{x:α}(h:l[i]?=some x):l.take (i+1)=l.take i++[x]:=by rw[yu,h];rfl
inductive LwC (bs:Bk) (lo hi:Wl):List (Bg)->Bk->Prop
 |nil:LwC bs lo hi [] bs
 |snoc {gs:List (Bg)}{cs:Bk}{g:Bg}{ss:Al}(h:LwC bs lo hi gs cs) (hl:ss.length=g.2.1+1-g.1) (d:vJ ((sgB bs g).map zB.wt) ((sgB bs g).map zB.sp) ((qA g.2.2 lo hi).map Prod.snd) ss):LwC bs lo hi (gs++[g]) (VS bs cs g.1 ss (g.2.1+1-g.1))
inductive zj7 (vs:Ba)(H:Hp)(Q:VK)(_e3:XK):Prop
 |mk:∀r wl g us bs v1 v2 lo hi gv gs,(vs=[.ref r,.ref wl,.ref g])->(H r=some (.tup us))->(zL H us bs)->(H wl=some (.tup [v1,v2]))->(zT H v1 lo)->(zT H v2 hi)->(H g=some (.lst gv))->(vD H gv gs)->(bs.length<=8)->((∀b∈bs,Sz 80 b.sp/\1<=b.wt/\b.wt<=1010))->((∀x y,lo=some (x,y)->Sz 80 y))->((∀x y,hi=some (x,y)->Sz 80 y))->((∀g∈gs,g.1<=g.2.1/\g.2.1<bs.length/\(g.2.2 = "low"\/g.2.2 = "high"\/g.2.2 = "")))->(((∃g∈gs,zlY bs lo hi g)->∀H',zk H H'->Q .non H'))->((∀t us' cs H',zk H H'->H' t=some (.tup us')->zL H' us' cs->LwC bs lo hi gs cs->Q (.ref t) H'))->zj7 vs H Q _e3
theorem Ve:zF ["row","walls","groups","found","first","last","where","wall","speeds","k"] ["row","walls","groups"] (zr Zw):=scq
theorem zlj (D:Df K mg "_law_behind" Zw ["row","walls","groups"] []) (T:TxQ K mg) (f4:⇑3 "_law_dealt" 3 ["balls","wall"] [] zkf):⇑3 "_law_behind" 4 ["row","walls","groups"] [] zj7:=by
 rcases r:D.calBq (k:=3) Ve with⟨r,wl,g,us,bs,v1,v2,lo,hi,gv,gs,rfl,b0,hB,e7,e0,d4,hg,b8,h8,hz,e4,g0,d7,kN,kT⟩
 have f6:=uN (Nat.add_le_add_left (show 1<=64 by decide) _) hr.units
 have g5:=hB.length
 refine⟨_,(zE (Bx.mk (psl (i:=3) Ve.nd (qj vM ⇑2 T.nList uL %[0|0])))
  (zE (Bx.mk (qD PassesOwn.never rfl (xM (pv 2)) (qu rfl (zP (pgl (i:=4) Ve.nd) (zP (pgl (i:=5) Ve.nd) (zP (pgl (i:=6) Ve.nd) xw)))) (zA (psl (i:=7) Ve.nd (zhf f6 (zhg (VQ qV (pxt (pv 1)) (VQ qV (pxt (pv 1)) (VQ qV zV zhl))) rfl rfl (by intro z;cases z) ⇑1) (pv 6) (λ_ _=>rfl))) (zA (psl (i:=8) Ve.nd (zH f4 hr %[x6 (XS.or Xm) (pv 0) (xH (pv 4)) (xH (zD xc (pv 5) zg)),7|0])) (zA (zZ (zI qy (pv 8) zV (zJ _)) (zj (zG zV)) zQ) (zj (qD PassesOwn.never rfl (zdY rfl T.nRange %[4,zD xc (pv 5) zg|0]) (pgl (i:=9) Ve.nd) (zj (qf (xa %[pxt (xb ve (pv 0) (pv 9) (λ_ _=>rfl)),xb zU (pv 8) (zD xS (pv 9) (pv 4)) (λ_ _=>rfl),pxt (xb ve (pv 0) (pv 9) (λ_ _=>rfl))|0]) (Z7 (pv 3) (pv 9) vB))))))))))
  (Bx.mk (zj (zG (qj qv ⇑2 T.nTuple yy %[3|0])))))),?_⟩
 try dsimp only[xi,Cx.nox]
 refine⟨00,r,00,.inr (.of b0),λl hl=>?_⟩
 have S1:=zk.upd (o:=.lst us) hl
 have c0:upd H l (.lst us) l=some (.lst us):=zi
 generalize upd H l (.lst us)=G1 at S1 c0
 dsimp only[zM]
 refine zau ?_
 refine⟨00,g,rL,⟨gv,.of (S1 _ _ hg)⟩,?_⟩
 refine Zg (xs:=gv) (λi σ G=>∃z vs cs,z.length=6/\σ=some (.ref r)::some (.ref wl)::some (.ref g)::some (.ref l)::z/\zk H G/\G l=some (.lst vs)/\zL G vs cs/\cs.length=bs.length/\LwC bs lo hi (gs.take i) cs) ⟨_,us,bs,rL,rL,S1,c0,hB.same S1,rL,.nil⟩ (λi σ G _ ⟨_,_,_,_,_,s,_⟩=>.of (s _ _ hg)) ?_ ?_
 ·rintro i x σ G hx S;rcases q:S with⟨z,vs,cs,d3,rfl,SG,b1,b3,d2,hC⟩
  rcases q:b8.2 i x hx with⟨gr,a9,ag,rfl,d9⟩
  obtain⟨a,b,W⟩:=gr
  obtain⟨e3,e2,c2⟩:=d7 _ (wm a9)
  dsimp only at e3 e2 c2
  match z,d3 with
  |[c4,c5,c6,c7,c8,c9],_ =>
  refine⟨ag,00,.of (SG _ _ d9),rL,021,021,022,?_⟩
  dsimp only[zM]
  refine xr (λσ' Y=>∃vw,σ'=[Sr r,Sr wl,Sr g,Sr l,some (.int (a:Int)),some (.int (b:Int)),some (.str W),some vw,c8,c9]/\zk G Y/\zT Y vw (qA W lo hi)) ?_ ?_
  rotate_left
  ·intro nx U
   intro pd b9
   have sD:=zk.upd (o:=.dK []) b9
   have a3:upd G pd (.dK []) pd=some (.dK []):=zi
   generalize upd G pd (.dK [])=Gd at sD a3 ⊢
   have c1:=sD _ _ (SG _ _ e7)
   refine⟨00,wl,032,.of c1,rfl,00,wl,032,.of c1,rfl,a3,[(Sum.inr "low",v1),(Sum.inr "high",v2),(Sum.inr "",.non)],rfl,by show 3<=15;decide,?_⟩
   have Tu:zX H (upd Gd pd (.dK (XC [] [(Sum.inr "low",v1),(Sum.inr "high",v2),(Sum.inr "",.non)]))):=λb' xs e=>by
    have e1:=sD _ _ (SG _ _ e)
    rw[zK (λz=>by rw[z,a3]at e1;cases e1)];exact e1
   have b2:zk G (upd Gd pd (.dK (XC [] [(Sum.inr "low",v1),(Sum.inr "high",v2),(Sum.inr "",.non)]))):=λb' o e=>by
    rw[zK (zN e b9)];exact sD _ _ e
   rcases c2 with rfl | rfl | rfl
   ·exact⟨00,pd,v1,rL,.inl ⟨_,Sum.inr "low",.inl zi,rL,rL⟩,U _ _ ⟨v1,rL,b2,e0.tups Tu⟩⟩
   ·exact⟨00,pd,v2,rL,.inl ⟨_,Sum.inr "high",.inl zi,rL,rL⟩,U _ _ ⟨v2,rL,b2,d4.tups Tu⟩⟩
   ·exact⟨00,pd,.non,rL,.inl ⟨_,Sum.inr "",.inl zi,rL,rL⟩,U _ _ ⟨.non,rL,b2,rL⟩⟩
  rintro σ' G2 ⟨vw,rfl,s2,d5⟩
  have S2:=SG.trans s2
  have d0:=s2 _ _ b1
  have d1:=b3.same s2
  refine xr (λσ' Y=>∃vx,σ'=[Sr r,Sr wl,Sr g,Sr l,some (.int (a:Int)),some (.int (b:Int)),some (.str W),some vw,some vx,c9]/\zk G2 Y/\((vx=.non/\zlY bs lo hi (a,b,W))\/∃(ls:Addr) (zs:List AR),vx=.ref ls/\Y ls=some (.lst (rfs zs))/\ls≠l/\zbD Y zs/\zs.length=b+1-a/\vJ ((sgB bs (a,b,W)).map zB.wt) ((sgB bs (a,b,W)).map zB.sp) ((qA W lo hi).map Prod.snd) (zs.map Prod.snd))) ?_ ?_
  rotate_left
  ·intro nx U
   refine⟨03,022,00,JY (S2 _ _ b0) λq G3 s3 hq=>?_⟩
   rw[X8]at hq
   have g6:(sgB bs (a,b,W)).length=b+1-a:=by unfold sgB;dsimp only;rw[wU,wV];lia
   have f0:zL G3 ((us.drop a).take (b+1-a)) (sgB bs (a,b,W)):=zL.take' _ (zL.drop' a (hB.same (S2.trans s3)))
   have e8:∀x y,qA W lo hi=some (x,y)->Sz 80 y:=λx y e=>by
    unfold qA at e
    split at e
    ·exact e4 x y e
    ·split at e
     ·exact g0 x y e
     ·cases e
   refine⟨00,q,vw,_,sgB bs (a,b,W),qA W lo hi,rfl,hq,f0,d5.tups (.of s3),by lia,by lia,λb' mb=>hz b' (w5 (w8 mb)),e8,λh1 h2 G4 s4=>?_,λls zs G4 s4 a5 a4 a7 hd=>?_⟩
   ·exact U _ _ ⟨.non,rL,s3.trans s4,.inl ⟨rL,h1,h2⟩⟩
   ·refine U _ _ ⟨.ref ls,rfl,s3.trans s4,.inr ⟨ls,zs,rfl,a5,λz=>?_,a4,by lia,hd⟩⟩
    have F:G4 l=some (.lst vs):=s4 _ _ (s3 _ _ d0)
    rw[<-z,a5]at F
    injection F with F
    injection F with F
    obtain⟨z0,b6⟩:∃z0,zs[0]?=some z0:=⟨_,wj ∅⟩
    obtain⟨a',p',q',b',_,e',f8,_⟩:=(d1.same (s3.trans s4)).get (i:=0) (v:=.ref z0.1) (by rw[<-F];unfold rfs;rw[we,b6];rfl)
    have:=a4 z0 (wm b6)
    cases e'
    unfold zC at this
    rw[f8]at this
    cases this
  rintro σ' G3 ⟨vx,rfl,s3,f1⟩
  have S3:=S2.trans s3
  rcases f1 with⟨rfl,d8⟩ | ⟨ls,zs,rfl,a5,e6,a4,a7,hd⟩
  ·exact⟨00,rL,00,xp (kN ⟨_,wm a9,d8⟩ _ S3)⟩
  refine⟨00,rL,00,xm ?_⟩
  refine Xq ?_
  have f3:=s3 _ _ d0
  have d6:=d1.same s3
  nofun
  refine⟨01,022,021,⟨by lia,by lia,by lia,by lia⟩,?_⟩
  refine vd (n:=((b:Int)+1-(a:Int)).toNat) (lo:=(a:Int)) (λj σ Y=>∃z9 I,σ=[Sr r,Sr wl,Sr g,Sr l,some (.int (a:Int)),some (.int (b:Int)),some (.str W),some vw,Sr ls,z9]/\zk H Y/\Y l=some (.lst I)/\Y ls=some (.lst (rfs zs))/\zbD Y zs/\zL Y I (VS bs cs a (zs.map Prod.snd) j)) ⟨_,vs,rL,S3,f3,a5,a4,d6⟩ ?_ ?_
  ·rintro j σ G4 hj S;rcases q:S with⟨z9,I,rfl,S4,F,a1,a2,a6⟩
   have f5:j<zs.length:=by lia
   have b7:a+j<us.length:=by lia
   obtain⟨z,ez⟩:∃z,zs[j]?=some z:=⟨_,wj f5⟩
   obtain⟨u,eu⟩:∃u,us[a+j]?=some u:=⟨_,wj b7⟩
   rcases q:(hB.same S4).get eu with⟨ab,pb,qb,O,f9,rfl,g1,g2,g3⟩
   have b5:atI us ((a:Int)+(j:Int))=some (V.ref ab):=by rw[show (a:Int)+(j:Int)=((a+j:Nat):Int) by lia];exact xG eu
   have e9:atI (rfs zs) ((a:Int)+(j:Int)-(a:Int))=some (V.ref z.1):=by rw[show (a:Int)+(j:Int)-(a:Int)=((j:Nat):Int) by lia];exact xG (by unfold rfs;rw[we,ez];rfl)
   have g4:I.length=bs.length:=by have:=a6.length;rw[Qf]at this;lia
   have f7:ixN I.length ((a:Int)+(j:Int))=some (a+j):=by rw[show (a:Int)+(j:Int)=((a+j:Nat):Int) by lia];exact KQ.VH ∅
   have a8:=S4 _ _ b0
   dsimp only[zM]
   refine⟨01,r,032,.of a8,b5,ab,032,.of g1,rL,?_⟩
   refine⟨02,022,ls,032,.of a1,e9,?_⟩
   refine⟨01,r,032,.of a8,b5,ab,032,.of g1,rL,zL3,λt ht=>?_⟩
   have s5:=zk.upd (o:=.tup [V.ref pb,V.ref z.1,V.int O.wt]) ht
   have b4:upd G4 t (.tup [V.ref pb,V.ref z.1,V.int O.wt]) t=some (.tup [V.ref pb,V.ref z.1,V.int O.wt]):=zi
   generalize upd G4 t (.tup [V.ref pb,V.ref z.1,V.int O.wt])=G5 at s5 b4 ⊢
   have c3:=s5 _ _ F
   refine⟨01,l,_,_,a+j,rL,rL,c3,f7,?_⟩
   have Tu:zX G5 (upd G5 l (.lst (I.set (a+j) (.ref t)))):=.upd c3
   have f2:=a2 z (wm ez)
   have e5:nbB bs a (zs.map Prod.snd) j=⟨O.pl,z.2,O.wt⟩:=by unfold nbB;rw[f9,we,ez];rfl
   refine⟨_,I.set (a+j) (.ref t),rL,λb' o e=>?_,zi,?_,λz' m=>Tu _ _ (s5 _ _ (a2 z' m)),?_⟩
   ·rw[zK (zN e hl)];exact s5 _ _ (S4 _ _ e)
   ·rw[zK e6];exact s5 _ _ a1
   ·show zL _ _ ((VS bs cs a (zs.map Prod.snd) j).set (a+j) (nbB bs a (zs.map Prod.snd) j))
    rw[e5]
    exact zL.set' (b:=⟨O.pl,z.2,O.wt⟩) (Tu _ _ b4) (Tu _ _ (s5 _ _ g2)) (Tu _ _ (s5 _ _ f2)) _ (((a6.same s5)).mono Tu)
  ·rintro σ G4 S;rcases q:S with⟨z9,I,rfl,S4,F,a1,a2,a6⟩
   refine⟨_,I,00,rfl,S4,F,a6,by rw[Qf];exact d2,?_⟩
   rw[zay a9,show ((b:Int)+1-(a:Int)).toNat=b+1-a by lia]
   exact .snoc hC (by rw[wk];exact a7) hd
 ·rintro σ G S;rcases q:S with⟨z,vs,cs,d3,rfl,SG,b1,b3,d2,hC⟩
  rw[wH (by have:=b8.1;lia)]at hC
  refine⟨00,l,vs,rL,.inl ⟨.of b1,λt ht=>?_⟩⟩
  have s2:=zk.upd (o:=.tup vs) ht
  exact kT t vs cs _ (SG.trans s2) zi (b3.same s2) hC
def Qu:∀(L:List ((Rat×Rat)×(Rat×Rat))) (f:Bj),(∀p∈L,p.2.2<p.1.2->∃m,L.foldl qo f=some m/\m<=mo p.1 p.2)/\(∀x,f=some x->∃m,L.foldl qo f=some m/\m<=x)/\(∀m,L.foldl qo f=some m->f=some m\/∃p∈L,p.2.2<p.1.2/\mo p.1 p.2=m)
 |[],f=>⟨λp m=>(nomatch m),λx e=>⟨x,e,Wd⟩,λm e=>.inl e⟩
 |p::L,f=>by
  obtain⟨h1,h2,O⟩:=Qu L (qo f p)
  have I:(p.2.2<p.1.2->∃y,qo f p=some y/\y<=mo p.1 p.2/\(∀x,f=some x->y<=x)/\(f=some y\/y=mo p.1 p.2))/\(¬p.2.2<p.1.2->qo f p=f):=by
   unfold qo
   refine⟨λc=>?_,λc=>if_neg c⟩
   rw[if_pos c]
   cases f with
   |none=>exact⟨00,Wd,λx e=>(nomatch e),.inr rfl⟩
   |some u =>
    nofun
    by_cases d:mo p.1 p.2<u
    ·rw[if_pos d];exact⟨00,Wd,λx e=>by cases e;exact uw d,.inr rfl⟩
    ·rw[if_neg d];exact⟨00,Rat.not_lt.mp d,λx e=>by cases e;exact Wd,.inl rfl⟩
  refine⟨λq F c=>?_,λx e=>?_,λm e=>?_⟩
  ·rcases wy.mp F with rfl | F
   ·obtain⟨y,e1,e2,_⟩:=I.1 c
    obtain⟨m,G,j⟩:=h2 y e1
    exact⟨m,G,YA j e2⟩
   ·exact h1 q F c
  ·by_cases c:p.2.2<p.1.2
   ·obtain⟨y,e1,_,e2,_⟩:=I.1 c
    obtain⟨m,G,j⟩:=h2 y e1
    exact⟨m,G,YA j (e2 x e)⟩
   ·exact h2 x ((I.2 c).trans e)
  ·rcases O m e with e1 | ⟨q,F,c,e2⟩
   ·by_cases c:p.2.2<p.1.2
    ·obtain⟨y,G,_,_,j⟩:=I.1 c
     rw[G]at e1;cases e1
     rcases j with j | j
     ·exact .inl j
     ·exact .inr ⟨p,wT,c,j.symm⟩
    ·rw[I.2 c]at e1;exact .inl e1
   ·exact .inr ⟨q,wR _ F,c,e2⟩
def zgm {α:Type}{L:List α}{x y:α}{i:Nat}(h1:L[i]?=some x) (h2:L[i+1]?=some y):(x,y)∈L.zip L.tail:=by
 refine wm (i:=i) ?_
 rw[ZI,h1,Wp,h2]
def zgq {α:Type}(ss:List α) (a b:Nat):Prop:=a<=b/\b<ss.length/\(∀j,a<=j->j<=b->ss[j]?=ss[b]?)/\(a=0\/ss[a-1]?≠ss[a]?)/\(b+1=ss.length\/ss[b+1]?≠ss[b]?)
section
variable {α:Type} [DecidableEq α] {ss:List α}
theorem Zm {i:Nat}:brk ss i=true↔i+1=ss.length\/ss[i+1]?≠ss[i]?:=by
 unfold brk
 rw[Bool.or_eq_true,wP,wP]
theorem zbo:∀i,stG ss i=0\/(0<stG ss i/\brk ss (stG ss i-1)=true)
 |0=>.inl rfl
 |i+1=>by
  have e:stG ss (i+1)=if brk ss i=true then i+1 else stG ss i:=rfl
  by_cases c:brk ss i=true
  ·rw[e,if_pos c];exact .inr ⟨by lia,c⟩
  ·rw[e,if_neg c];exact zbo i
theorem zai {i:Nat}(hi:i<ss.length) (F:brk ss i=true):zgq ss (stG ss i) i:=by
 have G:=xU ss i
 refine⟨G,hi,λj h1 h2=>QA hi j h1 h2,?_,Zm.mp F⟩
 rcases zbo (ss:=ss) i with e | ⟨p,e⟩
 ·exact .inl e
 ·rcases Zm.mp e with z | z
  ·lia
  ·rw[Nat.sub_add_cancel p]at z;exact .inr (λy=>z y.symm)
theorem zjz {a b:Nat}(h:zgq ss a b):brk ss b=true/\stG ss b=a:=by
 obtain⟨h1,h2,j,I,F⟩:=h
 refine⟨Zm.mpr F,?_⟩
 have G:stG ss a=a:=by
  cases a with
  |zero=>rfl
  |succ a =>
   have e:stG ss (a+1)=if brk ss a=true then a+1 else stG ss a:=rfl
   rw[e,if_pos (Zm.mpr (.inr (by
    rcases I with z | z
    ·lia
    ·exact λy=>z y.symm)))]
 have:∀k,a+k<=b->stG ss (a+k)=a:=λk=>by
  induction k with
  |zero=>intro _;exact G
  |succ k ih =>
   intro O
   have e:stG ss (a+k+1)=if brk ss (a+k)=true then a+k+1 else stG ss (a+k):=rfl
   rw[show a+(k+1)=a+k+1 by lia,e,if_neg,ih ∅]
   intro z
   rcases Zm.mp z with z | z
   ·lia
   ·exact z ((j (a+k+1) ∅ ∅).trans (j (a+k) ∅ ∅).symm)
 have:=this (b-a) ∅
 rwa [Wf h1]at this
theorem zfu {γ:Type}{f:Nat->Nat->Option γ}{g:γ}:∀{n:Nat},g∈rlG ss f n↔∃i,i<n/\brk ss i=true/\f (stG ss i) i=some g
 |0=>⟨λm=>(nomatch m),λ⟨i,h,_⟩=>absurd h ∅⟩
 |n+1=>by
  have e1:rlG ss f (n+1)=if brk ss n=true then rlG ss f n++(f (stG ss n) n).toList else rlG ss f n:=rfl
  have ih:=zfu (f:=f) (g:=g) (n:=n)
  rw[e1]
  constructor
  ·intro m
   by_cases c:brk ss n=true
   ·rw[if_pos c]at m
    rcases wK.mp m with m | m
    ·obtain⟨i,h1,h2⟩:=ih.mp m;exact⟨i,by lia,h2⟩
    ·exact⟨n,by lia,c,uU.mp m⟩
   ·rw[if_neg c]at m
    obtain⟨i,h1,h2⟩:=ih.mp m;exact⟨i,by lia,h2⟩
  ·rintro ⟨i,h1,h2,j⟩
   rcases WH i n with h | h
   ·have m:=ih.mpr ⟨i,h,h2,j⟩
    by_cases c:brk ss n=true
    ·rw[if_pos c];exact wL _ m
    ·rw[if_neg c];exact m
   ·obtain rfl:i=n:=by lia
    rw[if_pos h2];exact ww _ (uU.mpr j)
end
def zbL {cs:Bk}{lo hi:Wl}{g:Grp}:g∈grL cs lo hi↔∃a b,zgq (cs.map zB.pl) a b/\fL cs lo hi a b=some g:=by
 unfold grL
 rw[zfu]
 constructor
 ·rintro ⟨i,h1,h2,j⟩;exact⟨_,i,zai (by rw[wk];exact h1) h2,j⟩
 ·rintro ⟨a,b,r,h⟩
  obtain⟨h2,rfl⟩:=zjz r
  exact⟨b,by have:=r.2.1;rwa [wk]at this,h2,h⟩
def zb8 (lo hi:Wl) (k:Rat):xT lo hi k = "low"\/xT lo hi k = "high"\/xT lo hi k = "":=by
 unfold xT
 split
 ·exact .inl rL
 ·split
  ·exact .inr (.inl rL)
  ·exact .inr (.inr rL)
open KQ (zhP In XT chO laQ laP)
structure RwH (H:Hp) (r wa:Addr) (bs:Bk) (lo hi:Wl):Prop where
 row:∃us,H r=some (.tup us)/\zL H us bs
 wal:∃v1 v2,H wa=some (.tup [v1,v2])/\zT H v1 lo/\zT H v2 hi
def Vw {H H':Hp}(e:zX H H'):∀{us:Ba}{bs:Bk},zL H us bs->zL H' us bs
 |_,_,.nil=>.nil
 |_,_,.cons h1 h2 h3 t=>.cons (e _ _ h1) (e _ _ h2) (e _ _ h3) (Vw e t)
def RwH.keeps {H H':Hp}{r j:Addr}{bs:Bk}{lo hi:Wl}(h:RwH H r j bs lo hi) (e:zX H H'):RwH H' r j bs lo hi:=by
 obtain⟨⟨us,h1,h2⟩,O,G,I,S,F⟩:=h
 exact⟨⟨us,e _ _ h1,Vw e h2⟩,O,G,e _ _ I,S.tups e,F.tups e⟩
def zav {Tb:Addr}{q:Str}{p:Pos}{H H':Hp}(T:va Tb q p H) (s:StT Tb H H'):zX H H':=λb xs e=>s b _ e λz=>by
 obtain⟨ps,h,_⟩:=T;rw[z,h]at e;cases e
structure RwS (bs:Bk) (lo hi:Wl):Prop where
 n1:1<=bs.length
 n8:bs.length<=8
 z:TZ bs lo hi
 o:Ord bs lo hi
 w:∀c∈bs,1<=c.wt/\c.wt<=1000
def grM (bs:Bk) (lo hi:Wl) (m:Rat):List Grp:=grL (bs.map (zS m)) (zO m lo) (zO m hi)
structure CoR (bs:Bk) (lo hi:Wl) (m:Rat) (ds:Bk):Prop where
 so:qI (tl bs lo hi)=some m
 sh:xP lo hi≠some m
 be:zbB (bs.map (zS m)) (zO m lo) (zO m hi) (grM bs lo hi m) ds
def CoR.uniq {bs ds j:Bk}{lo hi:Wl}{m F:Rat}(h:CoR bs lo hi m ds) (k:CoR bs lo hi F j):m=F/\ds=j:=by
 obtain rfl:m=F:=Option.some.inj (h.so.symm.trans k.so)
 exact⟨rL,h.be.uniq k.be⟩
def zgp (bs:Bk) (lo hi:Wl):Prop:=∃m,qI (tl bs lo hi)=some m/\(xP lo hi=some m\/∃g∈grM bs lo hi m,∀ss,¬vJ (xJ ((bs.map (zS m)).map zB.wt) g) (xJ ((bs.map (zS m)).map zB.sp) g) ((qA g.2.2 (zO m lo) (zO m hi)).map Prod.snd) ss)
def CoR.fit {bs ds:Bk}{lo hi:Wl}{m:Rat}(h:CoR bs lo hi m ds):¬zgp bs lo hi:=by
 rintro ⟨j,e,k⟩
 obtain rfl:m=j:=Option.some.inj (h.so.symm.trans e)
 rcases k with k | ⟨g,mg,k⟩
 ·exact h.sh k
 ·exact k _ (h.be.gr g mg)
def ziD {H:Hp}:∀{us:Ba}{bs:Bk},XW H us (bs.map bl)->zL H us bs
 |[],[],_=>.nil
 |[],_::_,h=>by have:=h.1;simp at this
 |_::_,[],h=>by have:=h.1;simp at this
 |u::us,b::bs,h=>by
  obtain⟨F,e,a,p,q,rfl,h1,h2,j⟩:=h.2 0 u rfl
  cases e
  exact .cons h1 h2 j (ziD ⟨by have:=h.1;simpa using this,λi v e=>by obtain⟨b,e1,e2⟩:=h.2 (i+1) v ↥e;exact⟨b,↥e1,e2⟩⟩)
def zcV {H:Hp}{v:V}{l:Wl}(h:KQ.Ji H v l):zT H v l:=by
 cases l with
 |none=>exact h
 |some u=>obtain⟨x,y⟩:=u;obtain⟨a,p,q,e,G,F,j⟩:=h;exact⟨a,p,q,e,G,F,j⟩
def zhn {F j:Int}{t:Int×Int}{x y m:Rat}(S:0<F) (W:0<j) (O:0<t.2) (V:(x.den:Int) ∣ F) (G:(y.den:Int) ∣ j) (U:vt (Rat.divInt j F) t=m):ptT F j t (trB F j (x,y))=(x+y*m,y):=by
 have k1:=Jc S O V G U
 have e2:(((trB F j (x,y)).2:Int):Rat)=y*j:=byq G
 unfold ptT
 have I:F*t.2≠0:=yl ∅ ∅
 rw[dq I,dq (show j≠0 by lia),k1,e2]
 have h1:=ic0 I
 have h2:=ic0 (show j≠0 by lia)
 push_cast at h1 ⊢
 exact YF (by dsimp only;grind) (by dsimp only;grind)
def zbA:∀cs:Bk,cs.map (λb=>(b.pl,b.sp))=(cs.map zB.pl).zip (cs.map zB.sp)
 |[]=>rfl
 |c::cs=>by show _::cs.map _=_::(cs.map zB.pl).zip (cs.map zB.sp);rw[zbA cs]
def wS (cs:Bk) (vs:Al):Bk:=(cs.zip vs).map λz=>⟨z.1.pl,z.2,z.1.wt⟩
def ziQ {cs:Bk}{vs:Al}(h:vs.length=cs.length):(wS cs vs).map zB.sp=vs:=by
 unfold wS
 rw[wW,show (zB.sp ∘ λz:zB×Rat=>(⟨z.1.pl,z.2,z.1.wt⟩:zB))=Prod.snd from rfl,List.map_snd_zip ∅]
def zmr {cs:Bk}{vs:Al}(h:vs.length=cs.length):(wS cs vs).map (λb=>(b.pl,b.wt))=cs.map λb=>(b.pl,b.wt):=by
 unfold wS
 rw[wW,show ((λb:zB=>(b.pl,b.wt)) ∘ λz:zB×Rat=>(⟨z.1.pl,z.2,z.1.wt⟩:zB))=(λb:zB=>(b.pl,b.wt)) ∘ Prod.fst from rfl,<-wW,List.map_fst_zip ∅]
def zaO {bs:Bk}{lo hi:Wl}{t:Int×Int}{m:Rat}{pre:List Grp}{S:SC}(Z:RwS bs lo hi) (B:Bot bs lo hi) (ht:0<t.2) (hm:vt (tkO (bs.map bl) lo hi) t=m) (hp:∃O,grM bs lo hi m=pre++O) (C:ZK ((bs.map bl).map KQ.Bl.wt) pre (S0 (bs.map bl) lo hi) S) :
  ∃ds,(S.trs.zip ((bs.map bl).map KQ.Bl.wt)).map (λz=>blT S.pb S.sb t z.1 z.2)=ds.map bl/\S.lo.map (ptT S.pb S.sb t)=zO m lo/\S.hi.map (ptT S.pb S.sb t)=zO m hi/\zbB (bs.map (zS m)) (zO m lo) (zO m hi) pre ds:=by
 obtain⟨O,F⟩:=hp
 have a2:(bs.map bl).map KQ.Bl.wt=bs.map zB.wt:=by rw[wW];rfl
 rw[a2]at C ⊢
 have W:∀u∈tl bs lo hi,ptT (S0 (bs.map bl) lo hi).pb (S0 (bs.map bl) lo hi).sb t (trB (S0 (bs.map bl) lo hi).pb (S0 (bs.map bl) lo hi).sb u)=(u.1+u.2*m,u.2):=λu mu=>by
  obtain⟨x,y⟩:=u
  obtain⟨d1,d2⟩:=B.dv _ mu
  exact zhn B.p0 B.s0 ht d1 d2 hm
 have mB:∀c∈bs,(c.pl,c.sp)∈tl bs lo hi:=λc mc=>by unfold tl;exact wL _ (ww _ (wx.mpr ⟨c,mc,rfl⟩))
 have I:(S0 (bs.map bl) lo hi).trs=bs.map λc=>trB (pbO (bs.map bl) lo hi) (sbO (bs.map bl) lo hi) (c.pl,c.sp):=zaz bs lo hi
 have G:(S0 (bs.map bl) lo hi).trs.length=bs.length:=by rw[I,wk]
 obtain⟨cs,j⟩:∃cs,cs=bs.map (zS m):=⟨_,rfl⟩
 have a5:cs.length=bs.length:=by rw[j,wk]
 have eT:(S0 (bs.map bl) lo hi).trs.map (ptT (S0 (bs.map bl) lo hi).pb (S0 (bs.map bl) lo hi).sb t)=(cs.map zB.pl).zip (cs.map zB.sp):=by
  rw[<-zbA,j,I,wW,wW]
  exact We λc mc=>W _ (mB c mc)
 have mL:∀u,lo=some u->u∈tl bs lo hi:=λu e=>by unfold tl;rw[e];simp[xK]
 have mH:∀u,hi=some u->u∈tl bs lo hi:=λu e=>by unfold tl;rw[e];simp[xK]
 have eW:∀{l:Wl},(∀u,l=some u->u∈tl bs lo hi)->(l.map (trB (pbO (bs.map bl) lo hi) (sbO (bs.map bl) lo hi))).map (ptT (S0 (bs.map bl) lo hi).pb (S0 (bs.map bl) lo hi).sb t)=zO m l:=λ{l} V=>by
  cases l with
  |none=>rfl
  |some u=>exact congrArg some (W u (V u rfl))
 have eS:∀g∈pre,(xl g.2.2 (S0 (bs.map bl) lo hi).lo (S0 (bs.map bl) lo hi).hi).map (ptT (S0 (bs.map bl) lo hi).pb (S0 (bs.map bl) lo hi).sb t)=qA g.2.2 (zO m lo) (zO m hi):=λg mg=>by
  obtain⟨_,_,h3,_⟩:=qS (show g∈grL (bs.map (zS m)) (zO m lo) (zO m hi)from show g∈grM bs lo hi m from by rw[F];exact wL _ mg)
  rw[Xs]
  have e1:=eW mL;have e2:=eW mH
  rw[show (S0 (bs.map bl) lo hi).lo=lo.map (trB (pbO (bs.map bl) lo hi) (sbO (bs.map bl) lo hi))from rfl,show (S0 (bs.map bl) lo hi).hi=hi.map (trB (pbO (bs.map bl) lo hi) (sbO (bs.map bl) lo hi))from rfl,e1,e2]
  have:=zb8 (zO m lo) (zO m hi) (((bs.map (zS m)).map zB.pl)[g.1]?.getD 0)
  rw[<-h3]at this
  rcases this with z | z | z <;> rw[z] <;> rfl
 obtain⟨Y,V,a7,_,_,hz,a1,a6,hd,hn⟩:=zdC (t:=t) (pls:=cs.map zB.pl) (vs:=cs.map zB.sp) C (λx mx=>by obtain⟨c,mc,rfl⟩:=wx.mp mx;exact Z.w c mc) B.p0 B.s0 ht (by rw[wk,G]) eT (by rw[wk,wk]) (by rw[wk,G,a5]) (λg mg=>by
  have a4:g∈grL (bs.map (zS m)) (zO m lo) (zO m hi):=by
   have:g∈grM bs lo hi m:=by rw[F];exact wL _ mg
   exact this
  obtain⟨h1,h2,_,pl,h3,h4⟩:=qS a4
  rw[<-j]at h2 h3
  refine⟨h1,by rw[wk];exact h2,pl,h3,λu eu=>?_⟩
  have:=eS g mg
  rw[eu]at this
  exact h4 _ this.symm) (by
  have:=zeO (bs.map (zS m)) (zO m lo) (zO m hi)
  have hs:grL (bs.map (zS m)) (zO m lo) (zO m hi)=pre++O:=F
  rw[hs]at this
  exact(wI.mp this).1)
 rw[wk]at V
 refine⟨wS cs Y,?_,a1.trans (eW mL),a6.trans (eW mH),?_⟩
 ·refine yq λi=>?_
  have e:=congrArg (·[i]?) hz
  simp only[we,ZI]at e
  unfold wS
  rw[wW,we,we,ZI,ZI,we]
  cases h1:S.trs[i]? with
  |none =>
   have:cs.length<=i:=by have:=uY.mp h1;lia
   rw[w4 this];rfl
  |some x =>
   have U:i<cs.length:=by have:=(wn.mp h1).1;lia
   obtain⟨c,ec⟩:∃c,cs[i]?=some c:=⟨_,wj U⟩
   obtain⟨v,ev⟩:∃v,Y[i]?=some v:=⟨_,wj ∅⟩
   obtain⟨b,eb⟩:∃c,bs[i]?=some c:=⟨_,wj ∅⟩
   have a3:c=zS m b:=by rw[j,we,eb]at ec;exact(Option.some.inj ec).symm
   rw[h1,ec,ev]at e
   have e:=Option.some.inj e
   rw[ec,ev,eb]
   show some (blT S.pb S.sb t x b.wt)=some (bl ⟨c.pl,v,c.wt⟩)
   unfold blT bl
   rw[e,a3];rfl
 ·rw[<-j]
  refine⟨zmr V,λg mg=>?_,λi U=>?_⟩
  ·have:=hd g mg
   rw[ziQ V]
   have e:(xl g.2.2 (S0 (bs.map bl) lo hi).lo (S0 (bs.map bl) lo hi).hi).map (λl=>(ptT (S0 (bs.map bl) lo hi).pb (S0 (bs.map bl) lo hi).sb t l).2)=(qA g.2.2 (zO m lo) (zO m hi)).map Prod.snd:=by
    rw[<-eS g mg,WE];rfl
   rw[e]at this
   have ew:cs.map zB.wt=bs.map zB.wt:=by rw[j,wW];rfl
   rw[ew];exact this
  ·rw[ziQ V];exact hn i U
section
variable {P:Program}{w:World}{K:Fg}{mg:Aa}{base:Heap}{C CS CT Tb:Addr}
inductive zfP (CS:Addr) (CT:Addr) (Tb:Addr) (vs:Ba) (H:Hp) (Q:VK) (E:XK):Prop
 |mk:∀r wa bs lo hi,(vs=[.ref r,.ref wa])->(RwH H r wa bs lo hi)->(RwS bs lo hi)->(va Tb laQ laP H)->((∀H',zk H H'->qI (tl bs lo hi)=none->Q .non H'))->((∀p mm r' wa' m ds H',StT Tb H H'->va Tb laQ laP H'->CoR bs lo hi m ds->H' p=some (.tup [.ref mm,.ref r',.ref wa'])->zC H' mm m->RwH H' r' wa' ds (zO m lo) (zO m hi)->Q (.ref p) H'))->((∀C dx H',StT Tb H H'->va Tb laQ laP H'->(C=CS\/C=CT)->zgp bs lo hi->E (.ref C) (some dx) H'))->zfP CS CT Tb vs H Q E
theorem zjA (c:XU P w K mg base "behind" 6 ["row","walls"] [] (zhP C CS CT Tb)):XU P w K mg base "behind" 6 ["row","walls"] [] (zfP CS CT Tb):=by
 refine c.imp λvs H Q E h=>?_
 rcases q:h with⟨r,wa,bs,lo,hi,rfl,⟨⟨us,hr,hB⟩,v1,v2,hw,h1,h2⟩,Z,T1,k1,k2,k3⟩
 have I:=zlb hr hB hw h1 h2 Z.n8 Z.z
 have B:=bot Z.n8 Z.z
 have R:=zhO B
 have a6:KQ.BdS 4200 (S0 (bs.map bl) lo hi):=by
  refine⟨B.pz.md,B.sz.md,B.p0,B.s0,λt mt=>?_,λl e=>?_,λl e=>?_⟩
  ·have:=I.bd t (wL _ (ww _ mt))
   exact⟨this.1.md,this.2.md⟩
  ·have e':lo.map (trB (pbO (bs.map bl) lo hi) (sbO (bs.map bl) lo hi))=some l:=e
   have:=I.bd l (wL _ (wL _ (by rw[e'];simp[KQ.zdX])))
   exact⟨this.1.md,this.2.md⟩
  ·have e':hi.map (trB (pbO (bs.map bl) lo hi) (sbO (bs.map bl) lo hi))=some l:=e
   have:=I.bd l (ww _ (by rw[e'];simp[KQ.zdX]))
   exact⟨this.1.md,this.2.md⟩
 have O:∀{t:Int×Int},XT (chO (bs.map bl) lo hi)=some t->∃m,qI (tl bs lo hi)=some m/\0<t.2/\vt (tkO (bs.map bl) lo hi) t=m/\KQ.gsO (bs.map bl) lo hi t=grM bs lo hi m:=λ{t} e=>by
  rcases R with⟨e1,_⟩ | ⟨t',m',e1,e2,pt,j⟩
  ·rw[e]at e1;cases e1
  ·rw[e]at e1;cases e1
   exact⟨m',e2,pt,j,zk4 B Z.o pt j (vk Z.o e2)⟩
 refine⟨r,wa,bs.map bl,lo,hi,rL,I,T1,λb mb=>?_,a6,?_,?_,?_,?_⟩
 ·obtain⟨c,mc,rfl⟩:=wx.mp mb;exact Z.w c mc
 ·intro H2 s2 e
  rcases R with⟨_,e2⟩ | ⟨t,m',e1,_⟩
  ·exact k1 H2 s2 e2
  ·rw[e]at e1;cases e1
 ·intro t S p mm r' a4 a5 w1 w2 H2 e sh ch st tb hp hm a8 F W V Y
  rcases q:O e with⟨m,es,pt,j,eg⟩
  rw[eg]at ch
  rw[j]at hm sh
  obtain⟨ds,e1,e2,e3,hb⟩:=zaO Z B pt j ⟨[],by rw[yz]⟩ ch
  rw[e1]at F;rw[e2]at V;rw[e3]at Y
  exact k2 p mm r' a4 m ds H2 st tb ⟨es,sh,hb⟩ hp hm ⟨⟨a5,a8,ziD F⟩,w1,w2,W,zcV V,zcV Y⟩
 ·intro t p dx H2 s2 e j _ _
  rcases q:O e with⟨m,es,_,a3,_⟩
  rw[a3]at j
  exact k3 CS dx H2 (.of s2) (T1.same s2) (.inl rL) ⟨m,es,.inl j⟩
 ·intro t S pre g a1 p dx H2 e _ G ch rf st tb _ _
  rcases q:O e with⟨m,es,pt,j,eg⟩
  rw[eg]at G
  rcases q:zaO Z B pt j ⟨g::a1,G⟩ ch with⟨ds,_,e2,e3,hb⟩
  have mg:g∈grM bs lo hi m:=by rw[G];exact ww _ wT
  refine k3 CT dx H2 st tb (.inr rL) ⟨m,es,.inr ⟨g,mg,λss hd=>?_⟩⟩
  have a2:(bs.map bl).map KQ.Bl.wt=(bs.map (zS m)).map zB.wt:=by rw[wW,wW];rfl
  rw[a2]at rf
  obtain⟨U,r2⟩:=rf
  have r2:qi (xX ((bs.map (zS m)).map zB.wt) g.1 g.2.1)=false:=r2
  have U:KQ.vP (xl g.2.2 S.lo S.hi) (xX ((bs.map (zS m)).map zB.wt) g.1 g.2.1)=false:=U
  rw[show xX ((bs.map (zS m)).map zB.wt) g.1 g.2.1=xJ ((bs.map (zS m)).map zB.wt) g from X8 _ _ _]at U r2
  rcases hd with⟨z,w0,w1,s0,s1,ew,_⟩ | ⟨_,z,_⟩
  ·have a7:xl g.2.2 S.lo S.hi=none:=by
    have z:=Wy.mp z
    obtain⟨_,_,h3,_⟩:=qS mg
    have s3:=zb8 (zO m lo) (zO m hi) (((bs.map (zS m)).map zB.pl)[g.1]?.getD 0)
    rw[<-h3]at s3
    have:(xl g.2.2 S.lo S.hi).map (ptT S.pb S.sb t)=none:=by
     rw[Xs,e2,e3]
     rcases s3 with y | y | y <;> rw[y]at z ⊢ <;> exact z
    exact Wy.mp this
   unfold KQ.vP at U
   rw[a7,ew]at U
   simp at U
  ·rw[z]at r2;cases r2
end
end KT
namespace K3
open PySem L2 KM KK
structure Tx3 (K:Fg) (mg:Aa) (tb tw:Tok) (aN:Addr):Prop where
 nAll:mg "all" = none
 nZip:mg "zip" = none
 mb:mg "MOST_BALLS" = some (.int 8 tb)
 mw:mg "MOST_WEIGHT" = some (.int 1000 tw)
 tt:PySem.W.kitOne K (.type "tuple") (.type "tuple")=some true
 bb:PySem.W.kitOne K (.type "bool") (.type "bool")=some true
def _root_.KK.zT.same {H H':Hp}{v:V}{l:Wl}(h:zT H v l) (e:zk H H'):zT H' v l:=by
 cases l with
 |none=>exact h
 |some z=>obtain⟨a,p,q,e1,e2,j,F⟩:=h;exact⟨a,p,q,e1,e _ _ e2,j.same e,F.same e⟩
def WSz (l:Wl):Prop:=∀x y,l=some (x,y)->Sz 4000 x/\Sz 4000 y
def wgood:Wl->Wl->Bool
 |some l,some h=>decide (l.1<h.1)
 |_,_=>true
def fol (x y x' y':Rat):Bool:=if x=x' then decide (y<y')else decide (x<x')
def Two (H:Hp) (v:V) (x y:Rat):Prop:=∃a p q r,v=.ref a/\H a=some (.tup (.ref p::.ref q::r))/\zC H p x/\zC H q y/\(r=[]\/∃n,r=[.int n])
def Two.same {H H':Hp}{v:V}{x y:Rat}(h:Two H v x y) (e:zk H H'):Two H' v x y:=by
 obtain⟨a,p,q,r,e1,e2,F,G,j⟩:=h;exact⟨a,p,q,r,e1,e _ _ e2,F.same e,G.same e,j⟩
def _root_.KK.zT.two {H:Hp}{v:V}{x y:Rat}(h:zT H v (some (x,y))):Two H v x y:=by
 obtain⟨a,p,q,e1,e2,j,F⟩:=h;exact⟨a,p,q,[],e1,e2,j,F,.inl rfl⟩
def zgF (x y F j:Rat):PyData.eqv (.tuple [.tuple [.int x.num,.int (x.den:Int)],.tuple [.int y.num,.int (y.den:Int)]]) (.tuple [.tuple [.int F.num,.int (F.den:Int)],.tuple [.int j.num,.int (j.den:Int)]])=(decide (x=F)&&decide (y=j)):=by
 have e1:=XA x F
 have e2:=XA y j
 simp only[PyData.eqv,PyData.eqvAll,Bool.and_true]at e1 e2 ⊢
 rw[e1,e2]
def iteD {c:Prop} [Decidable c] {A B:Prop}(e:¬c) (h:B):if decide c=true then A else B:=by
 rw[wG e];exact xm h
section
variable {P:Program}{w:World}{K:Fg}{mg:Aa}{base:Heap}{tb tw:Tok}{aN:Addr}
inductive zea (vs:Ba)(H:Hp)(Q:VK)(_e3:XK):Prop
 |mk:∀p xs n,(vs=[.ref p,.int n])->(H p=some (.tup xs))->(Q (.bl (decide (V.int (xs.length:Nat)=V.int n))) H)->zea vs H Q _e3
theorem zfG:zF ["thing","many"] ["thing","many"] (zr XE):=scq
theorem ok_tu (D:Df K mg "is_tuple" XE ["thing","many"] []) (T:TxB K mg) (F:Tx3 K mg tb tw aN):⇑3 "is_tuple" 1 ["thing","many"] [] zea:=by
 rcases r:D.calq (k:=0) zfG with⟨p,xs,n,rfl,j,k⟩
 refine⟨_,(zj (zG (qT (xk vY ⇑2 T.nIs uk %[0,Vm (v:=.ty "tuple") (u:=.type "tuple") ⇑2 T.nTuple yy rL|0]) (qU (xW qh (xk xt ⇑2 T.nLen PySem.boot_len %[0|0]) (pv 1) (zJ _)))))),?_⟩
 try dsimp only[xi,Cx.nox]
 exact⟨00,_,_,_,true,rL,.tup j,F.tt,true,rL,xp ⟨00,p,00,.inr (SqT.of j),00,rL,k⟩⟩
inductive zhS (vs:Ba)(H:Hp)(Q:VK)(_e3:XK):Prop
 |mk:∀p x,(vs=[.ref p])->(zC H p x)->(Q (.bl true) H)->zhS vs H Q _e3
theorem zgL (x:Rat):(Int.gcd (if x.num<0 then -x.num else x.num) (x.den:Int):Int)=1:=by
 rw[v7]
 have:=x.reduced
 show ((Nat.gcd x.num.natAbs x.den:Nat):Int)=1
 rw[this];rfl
theorem zb7:zF ["thing","top","bottom"] ["thing"] (zr XD):=scq
theorem ok_ir (D:Df K mg "is_ratio" XD ["thing"] []) (T:TxB K mg) (F:⇑3 "is_tuple" 1 ["thing","many"] [] zea) (G:⇑3 "is_whole" 1 ["thing"] [] Xp) (O:⇑3 "greatest_divisor" 1 ["one","other"] [] JR) :
  ⇑3 "is_ratio" 2 ["thing"] [] zhS:=by
 refine D.calq (k:=1) zb7 (λf cdv A outer s H vs Q E j h=>?_)
 rcases q:h with⟨p,x,rfl,I,k⟩
 refine⟨_,(zA (zZ (qE (xv (zH F j %[0,zg|0]) λ_=>rL)) (zj (zG ZL)) zQ)
  (zA (qf (pv 0) (qu rfl (zP (pgl (i:=1) zb7.nd) (zP (pgl (i:=2) zb7.nd) xw))))
  (zA (zZ ((vQ (qE (xv (zH G j %[1|0]) λ_=>rfl)) (vQ (qE (xv (zH G j %[2|0]) λ_=>rfl)) (vG (zI Z6 (pv 2) zg (zJ _)))))).pt (zj (zG ZL)) zQ)
  (zj (zG (xW qh (zH O j %[xk ZY ⇑2 T.nAbs uv %[1|0],2|0]) zg (zJ _))))))),?_⟩
 try dsimp only[xi,Cx.nox]
 refine⟨00,p,021,I,00,xm ?_⟩
 refine⟨00,p,00,SqT.of I,rL,021,022,?_⟩
 refine⟨01,true,rL,xm ⟨01,true,rL,xm ?_⟩⟩
 refine⟨00,022,00,iteD (by have:=den_pos x;lia) ?_⟩
 refine⟨02,021,(by rw[v7];lia),∅,rfl,?_⟩
 show Q (.bl (decide (V.int (Int.gcd (if x.num<0 then -x.num else x.num) (x.den:Int):Int)=V.int 1))) H
 rw[zgL,wo rfl];exact k
inductive QT (vs:Ba)(H:Hp)(Q:VK)(_e3:XK):Prop
 |mk:∀p q x y,(vs=[.ref p,.ref q])->(zC H p x)->(zC H q y)->(Sz2 x y)->(Q (.bl (decide (x<y))) H)->QT vs H Q _e3
theorem zl6:zF ["one","other"] ["one","other"] (zr QL):=scq
theorem zjq (x y:Rat):decide (x.num*y.den<y.num*x.den)=decide (x<y):=by
 rw[yH,wP,wP];exact Z4 x y
theorem ok_lt (D:Df K mg "less" QL ["one","other"] []):⇑3 "less" 1 ["one","other"] [] QT:=by
 rcases r:D.calq (k:=0) zl6 with⟨p,q,x,y,rfl,G,I,⟨S,O⟩,k⟩
 have F:=Bd4 S
 have j:=Bd4 O
 refine⟨_,zj (zG (xW Z6 (zD zR (pxt (pv 0)) (pxt (pv 1))) (zD zR (pxt (pv 1)) (pxt (pv 0))) (zJ _))),?_⟩
 refine⟨00,p,032,.of G,at0 ..,00,q,032,.of I,at1 ..,022,⟨F.1,j.2⟩,00,q,032,.of I,at0 ..,00,p,032,.of G,at1 ..,022,⟨j.1,F.2⟩,022,?_⟩
 show Q (.bl (decide (x.num*y.den<y.num*x.den))) H
 rw[zjq];exact k
inductive zkx (vs:Ba)(H:Hp)(Q:VK)(_e3:XK):Prop
 |mk:∀v l,(vs=[v])->(zT H v l)->(Q (.bl true) H)->zkx vs H Q _e3
theorem zd4:zF ["thing"] ["thing"] (zr QD):=scq
theorem ok_wa (D:Df K mg "is_wall" QD ["thing"] []) (O:⇑3 "is_tuple" 1 ["thing","many"] [] zea) (F:⇑3 "is_ratio" 2 ["thing"] [] zhS):⇑3 "is_wall" 3 ["thing"] [] zkx:=by
 refine D.calq (k:=2) zd4 (λf cdv A outer s H vs Q E j h=>?_)
 rcases q:h with⟨v,l,rfl,hw,k⟩
 have G:xf 1 _:=j.md
 refine⟨_,(zA (zZ (zI qy (pv 0) zV (zJ _)) (zj (zG ZL)) zQ)
  (zj (zG (qT (zH O G %[0,zg|0]) (qT (zH F j %[pxt (pv 0)|0]) (qU (zH F j %[pxt (pv 0)|0]))))))),?_⟩
 try dsimp only[xi,Cx.nox]
 cases l with
 |none =>
  obtain rfl:v=.non:=hw
  exact⟨00,rL,00,xp k⟩
 |some z =>
  obtain⟨x,y⟩:=z
  rcases q:hw with⟨a,p,q,rfl,I,S,U⟩
  refine⟨00,rL,00,xm ?_⟩
  refine⟨00,a,021,I,true,rL,xp ?_⟩
  refine⟨00,a,032,.of I,rL,p,x,rL,S,true,rL,xp ?_⟩
  exact⟨00,a,032,.of I,rL,q,y,rL,U,k⟩
inductive zkz (vs:Ba)(H:Hp)(Q:VK)(_e3:XK):Prop
 |mk:∀a v1 v2 l1 l2,(vs=[.ref a])->(H a=some (.tup [v1,v2]))->(zT H v1 l1)->(zT H v2 l2)->(Q (.bl true) H)->zkz vs H Q _e3
theorem zhA:zF ["thing"] ["thing"] (zr vT):=scq
theorem ok_wp (D:Df K mg "is_wall_pair" vT ["thing"] []) (O:⇑3 "is_tuple" 1 ["thing","many"] [] zea) (F:⇑3 "is_wall" 3 ["thing"] [] zkx):⇑3 "is_wall_pair" 4 ["thing"] [] zkz:=by
 refine D.calq (k:=3) zhA (λf cdv A outer s H vs Q E j h=>?_)
 rcases q:h with⟨a,W,S,U,V,rfl,I,h1,h2,k⟩
 have G:xf 1 _:=j.md
 refine⟨_,(zj (zG (qT (zH O G %[0,zg|0]) (qT (zH F j %[pxt (pv 0)|0]) (qU (zH F j %[pxt (pv 0)|0])))))),?_⟩
 try dsimp only[xi,Cx.nox]
 refine⟨00,a,021,I,true,rL,xp ?_⟩
 refine⟨00,a,032,.of I,rL,W,U,rL,h1,true,rL,xp ?_⟩
 exact⟨00,a,032,.of I,rL,S,V,rL,h2,k⟩
inductive spWg (vs:Ba)(H:Hp)(Q:VK)(_e3:XK):Prop
 |mk:∀a v1 v2 l1 l2,(vs=[.ref a])->(H a=some (.tup [v1,v2]))->(zT H v1 l1)->(zT H v2 l2)->(WSz l1)->(WSz l2)->(Q (.bl (wgood l1 l2)) H)->spWg vs H Q _e3
theorem V7:zF ["thing","low","high"] ["thing"] (zr ZE):=scq
theorem ok_wg (D:Df K mg "walls_good" ZE ["thing"] []) (F:⇑3 "is_wall_pair" 4 ["thing"] [] zkz) (I:⇑3 "less" 1 ["one","other"] [] QT):⇑3 "walls_good" 5 ["thing"] [] spWg:=by
 rcases r:D.calq (k:=4) V7 with⟨a,Y,V,S,W,rfl,U,h1,h2,z1,z2,k⟩
 have G:xf 1 _:=hr.md
 refine⟨_,(zA (zZ (qE (xv (zH F hr %[0|0]) λ_=>rL)) (zj (zG ZL)) zQ)
  (zA (qf (pv 0) (qu rfl (zP (pgl (i:=1) V7.nd) (zP (pgl (i:=2) V7.nd) xw))))
  (zj (zG (za8 (xW qy (pv 1) zV (zJ _)) (za8 (xW qy (pv 2) zV (zJ _)) (qU (zH I G %[pxt (pv 1),pxt (pv 2)|0])))))))),?_⟩
 try dsimp only[xi,Cx.nox]
 refine⟨00,a,Y,V,S,W,rL,U,h1,h2,true,rL,xm ?_⟩
 refine⟨00,a,00,SqT.of U,rL,021,022,?_⟩
 cases S with
 |none =>
  obtain rfl:Y=.non:=h1
  exact⟨00,rL,true,rL,xp k⟩
 |some l =>
  obtain⟨x,y⟩:=l
  rcases q:h1 with⟨b,p,q,rfl,hb,hp,hq⟩
  refine⟨00,rL,false,rL,xm ?_⟩
  cases W with
  |none =>
   obtain rfl:V=.non:=h2
   exact⟨00,rL,true,rL,xp k⟩
  |some l' =>
   obtain⟨x',y'⟩:=l'
   rcases q:h2 with⟨b',p',q',rfl,O,j,a1⟩
   refine⟨00,rL,false,rL,xm ?_⟩
   refine⟨00,b,032,.of hb,rL,00,b',032,.of O,rL,p,p',x,x',rL,hp,j,⟨(z1 _ _ rL).1.md,(z2 _ _ rL).1.md⟩,k⟩
inductive zj5 (vs:Ba)(H:Hp)(Q:VK)(_e3:XK):Prop
 |mk:∀a p q x y n,(vs=[.ref a])->(H a=some (.tup [.ref p,.ref q,.int n]))->(zC H p x)->(zC H q y)->(Q (.bl true) H)->zj5 vs H Q _e3
theorem zfA:zF ["thing"] ["thing"] (zr vS):=scq
theorem ok_bf (D:Df K mg "is_ball_form" vS ["thing"] []) (O:⇑3 "is_tuple" 1 ["thing","many"] [] zea) (F:⇑3 "is_ratio" 2 ["thing"] [] zhS) (S:⇑3 "is_whole" 1 ["thing"] [] Xp):⇑3 "is_ball_form" 3 ["thing"] [] zj5:=by
 refine D.calq (k:=2) zfA (λf cdv A outer s H vs Q E j h=>?_)
 rcases q:h with⟨a,p,q,x,y,n,rfl,I,U,V,k⟩
 have G:xf 1 _:=j.md
 refine⟨_,(zj (zG (qT (zH O G %[0,zg|0]) (qT (zH F j %[pxt (pv 0)|0]) (qT (zH F j %[pxt (pv 0)|0]) (qU (zH S G %[pxt (pv 0)|0]))))))),?_⟩
 try dsimp only[xi,Cx.nox]
 refine⟨00,a,021,I,true,rL,xp ?_⟩
 refine⟨00,a,032,.of I,rL,p,x,rL,U,true,rL,xp ?_⟩
 refine⟨00,a,032,.of I,rL,q,y,rL,V,true,rL,xp ?_⟩
 exact⟨00,a,032,.of I,rL,n,rL,k⟩
inductive zkk (vs:Ba)(H:Hp)(Q:VK)(_e3:XK):Prop
 |mk:∀n,(vs=[.int n])->(1<=n)->(n<=1000)->(Q (.bl true) H)->zkk vs H Q _e3
theorem zl4:zF ["thing"] ["thing"] (zr Xd):=scq
theorem ok_iw (D:Df K mg "is_weight" Xd ["thing"] []) (F:Tx3 K mg tb tw aN) (G:⇑3 "is_whole" 1 ["thing"] [] Xp):⇑3 "is_weight" 2 ["thing"] [] zkk:=by
 rcases r:D.calq (k:=1) zl4 with⟨n,rfl,I,j,k⟩
 refine⟨_,(zj (zG (qT (zH G hr %[0|0]) (qU (zfh zcO zcO zg (pv 0) (zcQ (v:=.int 1000) ⇑2 F.mw ⟨_,rL⟩)))))),?_⟩
 try dsimp only[xi,Cx.nox]
 refine⟨00,n,rL,true,rL,xp ⟨00,022,00,?_⟩⟩
 rw[wo I]
 refine xp ⟨_,_,rL,rL,?_⟩
 show Q (.bl (decide (n<=1000))) H
 rw[wo j];exact k
inductive zj3 (vs:Ba)(H:Hp)(Q:VK)(_e3:XK):Prop
 |mk:∀a p q x y n,(vs=[.ref a])->(H a=some (.tup [.ref p,.ref q,.int n]))->(zC H p x)->(zC H q y)->(1<=n)->(n<=1000)->(Q (.bl true) H)->zj3 vs H Q _e3
theorem zhw:zF ["thing"] ["thing"] (zr QC):=scq
theorem ok_ba (D:Df K mg "is_ball" QC ["thing"] []) (F:⇑3 "is_ball_form" 3 ["thing"] [] zj5) (G:⇑3 "is_weight" 2 ["thing"] [] zkk):⇑3 "is_ball" 4 ["thing"] [] zj3:=by
 rcases r:D.calq (k:=3) zhw with⟨a,p,q,x,y,n,rfl,I,S,U,V,O,k⟩
 have j:xf 2 _:=hr.md
 refine⟨_,(zj (zG (qT (zH F hr %[0|0]) (qU (zH G j %[pxt (pv 0)|0]))))),?_⟩
 try dsimp only[xi,Cx.nox]
 exact⟨00,a,p,q,x,y,n,rL,I,S,U,true,rL,xp ⟨00,a,032,.of I,rL,n,rL,V,O,k⟩⟩
inductive Jm (vs:Ba)(H:Hp)(Q:VK)(_e3:XK):Prop
 |mk:∀v u x y x' y',(vs=[v,u])->(Two H v x y)->(Two H u x' y')->((Sz 4000 x/\Sz 4000 y/\Sz 4000 x'/\Sz 4000 y'))->(Q (.bl (fol x y x' y')) H)->Jm vs H Q _e3
theorem zjX:zF ["left","right"] ["left","right"] (zr QB):=scq
theorem ok_fo (D:Df K mg "follows" QB ["left","right"] []) (I:⇑3 "less" 1 ["one","other"] [] QT):⇑3 "follows" 2 ["left","right"] [] Jm:=by
 refine D.calq (k:=1) zjX (λf cdv A outer s H vs Q E j h=>?_)
 rcases q:h with⟨v,u,x,y,S,y',rfl,⟨a,p,q,r,rfl,W,hp,hq,_⟩,⟨a',p',q',r',rfl,F,G,O,_⟩,⟨zx,zy,U,V⟩,k⟩
 have hu:=j.units
 refine⟨_,(zA (zZ (zI (vh hu) (pxt (pv 0)) (pxt (pv 1)) (zJ _)) (zj (zG (zH I j %[pxt (pv 0),pxt (pv 1)|0]))) zQ)
  (zj (zG (zH I j %[pxt (pv 0),pxt (pv 1)|0])))),?_⟩
 try dsimp only[xi,Cx.nox]
 refine⟨00,a,032,.of W,zgr ..,00,a',032,.of F,zgr ..,_,_,hp.rd,G.rd,xy _,xy _,?_⟩
 rw[XA]
 refine⟨00,qp (λh=>?_) (λh=>?_)⟩
 ·have Y:x=S:=wF h
  refine⟨00,a,032,.of W,zkS ..,00,a',032,.of F,zkS ..,q,q',y,y',rL,hq,O,⟨zy.md,V.md⟩,?_⟩
  unfold fol at k;rw[if_pos Y]at k;exact k
 ·have Y:¬x=S:=λz=>h (wo z)
  refine⟨00,a,032,.of W,zgr ..,00,a',032,.of F,zgr ..,p,p',x,S,rL,hp,G,⟨zx.md,U.md⟩,?_⟩
  unfold fol at k;rw[if_neg Y]at k;exact k
inductive zhT (vs:Ba)(H:Hp)(Q:VK)(_e3:XK):Prop
 |mk:∀v u x y x' y',(vs=[v,u])->(Two H v x y)->(Two H u x' y')->((Sz 4000 x/\Sz 4000 y/\Sz 4000 x'/\Sz 4000 y'))->(∀H',zk H H'->Q (.bl ((decide (x=x')&&decide (y=y')) || fol x y x' y')) H')->zhT vs H Q _e3
theorem zdp {H:Hp}{v:V}{x y:Rat}{Q:VK}(h:Two H v x y) (k:∀a p q H',zk H H'->H' a=some (.tup [.ref p,.ref q])->zC H' p x->zC H' q y->Q (.ref a) H'):zhq K v none (some 2) H Q\/zjS K v none (some 2) H Q:=by
 obtain⟨a,p,q,r,rfl,F,G,I,hr⟩:=h
 rcases hr with rfl | ⟨n,rfl⟩
 ·exact .inr ⟨a,_,rL,.of F,⟨rL,rL⟩,k a p q H (zk.refl _) F G I⟩
 ·refine .inl ⟨a,_,rfl,.of F,(by intro z;have O:HT.sIx 3 3 (some 2)=3:=z.2;revert O;decide),λl j=>k l p q _ (zk.upd j) zi (G.same (zk.upd j)) (I.same (zk.upd j))⟩
theorem zhB:zF ["left","right"] ["left","right"] (zr Zv):=scq
theorem ok_ks (D:Df K mg "keeps_side" Zv ["left","right"] []) (I:⇑3 "follows" 2 ["left","right"] [] Jm):⇑3 "keeps_side" 3 ["left","right"] [] zhT:=by
 rcases r:D.calq (k:=2) zhB with⟨v,u,x,y,U,V,rfl,W,j,Y,k⟩
 have hu:=hr.units
 refine⟨_,(zj (zG (za8 (xW (vh hu) (x6 (XS.or Xm) (pv 0) v4 (xH zg)) (x6 (XS.or Xm) (pv 1) v4 (xH zg)) (zJ _)) (qU (zH I hr %[0,1|0]))))),?_⟩
 try dsimp only[xi,Cx.nox]
 refine⟨01,zdp W λa p q H1 e1 ha hp hq=>?_⟩
 refine⟨01,zdp (j.same e1) λa' p' q' H2 e2 O S G=>?_⟩
 refine⟨_,_,.tup (e2 _ _ ha) (.cons (hp.same e2).rd (.cons (hq.same e2).rd .nil)),.tup O (.cons S.rd (.cons G.rd .nil)),rL,rL,?_⟩
 rw[zgF]
 have F:=e1.trans e2
 cases hc:(decide (x=U)&&decide (y=V))with
 |true =>
  have:=k H2 F
  rw[hc,Bool.true_or]at this
  exact⟨true,rL,xp this⟩
 |false =>
  have:=k H2 F
  rw[hc,Wn]at this
  exact⟨false,rL,xm ⟨01,v,u,x,y,U,V,rL,W.same F,j.same F,Y,this⟩⟩
end
def zay {α:Type}{l:List α}{i:Nat}{x:α}(h:l[i]?=some x):l.take (i+1)=l.take i++[x]:=by rw[yu,h];rfl
def ln1 {σ:St}(h:σ.length=1):∃a,σ=[a]:=by
 match σ,h with
 |[a],_=>exact⟨a,rfl⟩
def ln2 {σ:St}(h:σ.length=2):∃a b,σ=[a,b]:=by
 match σ,h with
 |[a,b],_=>exact⟨a,b,rfl⟩
def zgH (z:zB×zB):Bool:=fol z.1.pl z.1.sp z.2.pl z.2.sp
def ordB (bs:Bk):Bool:=(bs.zip bs.tail).all zgH
def BSz (bs:Bk):Prop:=∀b∈bs,Sz 4000 b.pl/\Sz 4000 b.sp
def XX {H:Hp}{a p q:Addr}{b:zB}(h:H a=some (.tup [.ref p,.ref q,.int b.wt])) (F:zC H p b.pl) (j:zC H q b.sp):Two H (.ref a) b.pl b.sp:=⟨a,p,q,_,rfl,h,F,j,.inr ⟨_,rfl⟩⟩
def zl0 {n:Nat}(h:1<=n):HT.sIx n 0 (some 1)=1:=by
 show HT.sIx n 0 (some ((1:Nat):Int))=1
 rw[HT.sIx_nat];lia
def cut1 {us:Ba}(h:us≠[]):qB us (some 1) none=us.drop 1:=by
 have j:1<=us.length:=by cases us with | nil=>exact absurd rfl h | cons=>simp
 unfold qB
 rw[zl0 j,HT.sIx_none]
 rw[wH (by rw[wV];lia)]
section
variable {P:Program}{w:World}{K:Fg}{mg:Aa}{base:Heap}{tb tw:Tok}{aN:Addr}
theorem zex {σ:St}{H:Hp}{Q:VK}{r:Addr}{us:Ba}{bs:Bk}(hσ:σ[0]?=some (some (.ref r))) (hr:H r=some (.tup us)) (hB:zL H us bs) (a2:bs≠[]) (a7:bs.length<=8) (hz:BSz bs)
  (k:∀D H',zk H H'->H' D=some (.lst (((bs.zip bs.tail).map zgH).map V.bl))->Q (.ref D) H') :
  Ql 2 (zk8 K (xN (xB 0) (xN (tSl (zhq K) (xB 0) (ziN (tC (.int 1))) zdk) Xn))) (Xt K 2 (xL (zM 0) (xL (zM 1) Qa))) (λ_ H Q=>Q true H) (vV Jm [] E0 (xN (xB 0) (xN (xB 1) Xn))) σ H Q:=by
 have hl:=hB.length
 have U:us≠[]:=by rintro rfl;simp at hl;exact a2 (Wr.mp hl.symm)
 have a4:1<=us.length:=by cases us with | nil=>exact absurd rfl U | cons=>simp
 refine⟨_,hσ,_,hσ,00,r,us,rL,.of hr,?_,λl W=>?_⟩
 ·intro z
  have z1:HT.sIx us.length 0 (some 1)=0:=z.1
  rw[zl0 a4]at z1
  cases z1
 rw[cut1 U]
 have F:=zk.upd (o:=.tup (us.drop 1)) W _ _ hr
 refine⟨r,l,rL,⟨_,.of F⟩,⟨_,.of zi⟩,λD hD=>?_⟩
 generalize hH1:upd H l (.tup (us.drop 1))=H1 at F hD
 have e1:zk H H1:=by rw[<-hH1];exact zk.upd W
 have I:H1 l=some (.tup (us.drop 1)):=by rw[<-hH1];exact zi
 have S:=hB.same e1
 have hN:(bs.zip bs.tail).length=us.length-1:=by rw[uA,List.length_tail,hl];lia
 refine X0 (J:=Itz K r l) (g:=Xt K 2 (xL (zM 0) (xL (zM 1) Qa))) (tt:=λ_ H Q=>Q true H) (te:=vV Jm [] E0 (xN (xB 0) (xN (xB 1) Xn))) (Q:=Q) (N:=us.length-1) (n:=2) (λi H2 ys=>zk H1 H2/\ys=(((bs.zip bs.tail).map zgH).map V.bl).take i) ⟨zk.upd hD,rL⟩ (λi H2 ys hi ⟨j,_⟩=>?_) (λH2 ys ⟨j,_⟩=>?_) ?_ ?_
 ·exact⟨us,us.drop 1,us[i]'∅,us[i+1]'∅,.of (j _ _ F),.of (j _ _ I),wj _,by rw[yk,Yv 1 i];exact wj _⟩
 ·exact⟨us,us.drop 1,.of (j _ _ F),.of (j _ _ I),.inr (by rw[wV];exact wq _)⟩
 ·rintro i x zs H2 H3 ys Nx a6 hi a3 ⟨T,x1,y1,rfl,hT,rfl,f1,f2⟩ ⟨j,rfl⟩ G
  obtain⟨z1,z2,rfl⟩:=ln2 a3
  have g1:=f1 us (.of (j _ _ F))
  have g2:=f2 (us.drop 1) (.of (j _ _ I))
  rw[yk,Yv 1 i]at g2
  obtain⟨a,p,q,b,eb,rfl,ha,hp,hq⟩:=S.get g1
  obtain⟨a',p',q',c,ec,rfl,a5,Y,a1⟩:=S.get g2
  have O:zk H1 (upd H2 T (.tup [.ref a,.ref a'])):=j.trans (zk.upd hT)
  refine⟨T,00,.of zi,rL,021,022,xp ?_⟩
  have mb:=wm eb
  have mc:=wm ec
  refine⟨01,_,_,b.pl,b.sp,c.pl,c.sp,rL,(XX (O _ _ ha) (hp.same O) (hq.same O)),(XX (O _ _ a5) (Y.same O) (a1.same O)),⟨(hz b mb).1,(hz b mb).2,(hz c mc).1,(hz c mc).2⟩,?_⟩
  refine⟨by rw[zK (zN G hT)];exact G,?_,a6 _ _ ⟨zal hD j (zk.upd hT),?_⟩⟩
  ·rw[wU];exact xn ∅
  ·have ez:(bs.zip bs.tail)[i]?=some (b,c):=by
    have:bs.tail[i]?=some c:=by rw[Wp];exact ec
    rw[yY];exact⟨eb,this⟩
   rw[zay (x:=V.bl (zgH (b,c))) (by rw[we,we,ez];rfl)];rfl
 ·rintro H2 ys ⟨j,rfl⟩ G
  rw[wH (by rw[wk,wk,hN];exact wq _)]at G
  exact k D H2 (e1.trans j) G
theorem all_map (f:α->Bool) (l:List α):(l.map f).all id=l.all f:=by rw[List.all_map];rfl
inductive zkm (vs:Ba)(H:Hp)(Q:VK)(_e3:XK):Prop
 |mk:∀r us bs,(vs=[.ref r])->(H r=some (.tup us))->(zL H us bs)->(bs≠[])->(bs.length<=8)->(BSz bs)->(∀H',zk H H'->Q (.bl (ordB bs)) H')->zkm vs H Q _e3
theorem zjZ:zF ["row"] ["row"] (zr Zu):=scq
theorem ok_od (D:Df K mg "is_ordered" Zu ["row"] []) (O:Tx3 K mg tb tw aN) (G:⇑3 "follows" 2 ["left","right"] [] Jm):⇑3 "is_ordered" 3 ["row"] [] zkm:=by
 rcases r:D.calq (k:=2) zjZ with⟨r,us,bs,rfl,I,S,F,j,hz,k⟩
 refine⟨_,(zj (zG (xk (Vx rfl) ⇑2 O.nAll ⇑0 %[(vn (NB:=["left","right"]) rfl ⇑0 ⇑0 rfl ⇑0 (zjP ⇑2 O.nZip %[0,x6 XS (pv 0) (xH zg) v4|0]) (by intro _ _ _;refine⟨?_,?_,?_⟩;(exact(vN (K:=K) (n:=2) rfl rfl (zP (pgl (i:=0) (show List.Nodup (["left","right"]:Ad) by decide +kernel)) (zP (pgl (i:=1) (show List.Nodup (["left","right"]:Ad) by decide +kernel)) xw))));(exact xI);(exact(zH G hr %[0,1|0]))))|0]))),?_⟩
 try dsimp only[xi,Cx.nox]
 unfold zaw tCB xN
 refine zex (K:=K) rL I S F j hz λD H' e U=>⟨D,_,rL,SqL.of U,?_⟩
 rw[all_map];exact k H' e
def loB (l:Wl) (b:zB):Bool:=match l with | none=>true | some (x,y)=>(decide (x=b.pl)&&decide (y=b.sp)) || fol x y b.pl b.sp
def hiB (l:Wl) (c:zB):Bool:=match l with | none=>true | some (x,y)=>(decide (c.pl=x)&&decide (c.sp=y)) || fol c.pl c.sp x y
def btwB (l h:Wl) (b c:zB):Bool:=loB l b&&hiB h c
inductive zj4 (vs:Ba)(H:Hp)(Q:VK)(_e3:XK):Prop
 |mk:∀a v1 v2 l1 l2 r us bs b cs c,(vs=[.ref a,.ref r])->(H a=some (.tup [v1,v2]))->(zT H v1 l1)->(zT H v2 l2)->(WSz l1)->(WSz l2)->(H r=some (.tup us))->(zL H us bs)->(bs[0]?=some b)->(bs=cs++[c])->(BSz bs)->(∀H',zk H H'->Q (.bl (btwB l1 l2 b c)) H')->zj4 vs H Q _e3
theorem zam:zF ["walls","row","low","high"] ["walls","row"] (zr Zt):=scq
theorem ok_be (D:Df K mg "is_between" Zt ["walls","row"] []) (I:⇑3 "keeps_side" 3 ["left","right"] [] zhT):⇑3 "is_between" 4 ["walls","row"] [] zj4:=by
 rcases r:D.calq (k:=3) zam with⟨a,v1,v2,l1,l2,r,us,bs,b,cs,c,rfl,ha,h1,h2,z1,z2,O,Y,eb,G,hz,k⟩
 refine⟨_,(zA (qf (pv 0) (qu rL (zP (pgl (i:=2) zam.nd) (zP (pgl (i:=3) zam.nd) xw))))
  (zA (zZ ((qk (zI xQ (pv 2) zV (zJ _)) (x8 (qE (xv (zH I hr %[2,pxt (pv 1)|0]) λ_=>rfl))))).pt (zj (zG ZL)) zQ)
  (zj (zG (za8 (xW qy (pv 3) zV (zJ _)) (qU (zH I hr %[xb ve (pv 1) (Qc ZH zg) (λ_ _=>rfl),3|0]))))))),?_⟩
 try dsimp only[xi,Cx.nox]
 refine⟨00,a,00,SqT.of ha,rL,021,022,?_⟩
 have mb:b∈bs:=wm eb
 have mc:c∈bs:=by rw[G];simp
 obtain⟨b0,eu⟩:∃v,us[0]?=some v:=by
  have:0<us.length:=by rw[Y.length,G];simp
  exact⟨us[0],wj this⟩
 rcases q:Y.get eu with⟨ab,pb,qb,b',e1,rfl,a6,a4,a7⟩
 rw[eb]at e1;cases e1
 rcases q:(G ▸ Y:zL H us (cs++[c])).last with⟨b1,ac,pc,qc,a9,a3,S,a8⟩
 have i0:atI us 0=some (.ref ab):=xG (j:=0) eu
 have i1:atI us (-1)=some (.ref ac):=by rw[a9];exact Vv _ _
 have hi:∀(H1:Hp) (σ:St),zk H H1->σ[1]?=some (some (.ref r))->σ[3]?=some (some v2)->(∀H',zk H H'->Q (.bl (hiB l2 c)) H') →
   zaw (zmm (tOp (λx y H Q=>y=.non/\Q (.bl (decide (x=.non))) H) (xB 3) (tC .non)) (vV zhT [] E0 (xN (tOp (ZV K) (xB 1) (tUn (rU λi=>V.int (-i)) (tC (.int 1)))) (xN (xB 3) Xn)))) { nx:=λ_ H'=>Q .non H',rt:=Q } σ H1:=λH1 σ F s1 U kk=>by
  cases l2 with
  |none =>
   obtain rfl:v2=.non:=h2
   exact⟨_,U,rL,true,rL,xp (kk H1 F)⟩
  |some z =>
   obtain⟨x,y⟩:=z
   have W:=h2
   rcases q:W with⟨a2,p2,q2,rfl,_⟩
   exact⟨_,U,rL,false,rL,xm ⟨_,s1,00,r,us,-1,00,rL,.of (F _ _ O),i1,_,U,_,_,c.pl,c.sp,x,y,rL,XX (F _ _ a3) (S.same F) (a8.same F),(h2.same F).two,⟨(hz c mc).1,(hz c mc).2,(z2 _ _ rL).1,(z2 _ _ rL).2⟩,λH2 e4=>kk H2 (F.trans e4)⟩⟩
 cases l1 with
 |none =>
  obtain rfl:v1=.non:=h1
  refine⟨00,rL,false,rL,xm (xm ?_)⟩
  exact hi H _ (zk.refl _) rfl rfl λH' e=>by have:=k H' e;unfold btwB loB at this;rw[WO]at this;exact this
 |some z =>
  obtain⟨x,y⟩:=z
  have a5:=h1
  rcases q:a5 with⟨a1,p1,q1,rfl,_⟩
  refine⟨00,rL,true,rL,xp ?_⟩
  refine⟨01,r,us,0,00,rL,.of O,i0,_,_,x,y,b.pl,b.sp,rL,h1.two,XX a6 a4 a7,⟨(z1 _ _ rL).1,(z1 _ _ rL).2,(hz b mb).1,(hz b mb).2⟩,λH2 e2=>?_⟩
  have k2:=k H2 e2
  unfold btwB loB at k2
  cases hc:((decide (x=b.pl)&&decide (y=b.sp)) || fol x y b.pl b.sp)with
  |true =>
   refine⟨true,rL,xm ?_⟩
   exact hi H2 _ e2 rfl rfl λH' e=>by have:=k H' e;unfold btwB loB at this;simp only[hc,WO]at this;exact this
  |false =>
   simp only[hc,Ya]at k2
   exact⟨false,rL,xp k2⟩
theorem zbJ {σ:St}{H:Hp}{Q:VK}{j:Nat}{sp:Sp}{r:Addr}{us:Ba}{bs:Bk}(hσ:σ[j]?=some (some (.ref r))) (hr:H r=some (.tup us)) (U:zL H us bs) (Y:bs.length<=8)
  (S:∀(H1:Hp) (v:V) (b:zB) (Q:VK),zk H H1->b∈bs->(∃a p q,v=.ref a/\H1 a=some (.tup [.ref p,.ref q,.int b.wt])/\zC H1 p b.pl/\zC H1 q b.sp)->Q (.bl true) H1->sp [v] H1 Q E0)
  (k:∀D H',zk H H'->H' D=some (.lst ((List.replicate bs.length true).map V.bl))->Q (.ref D) H') :
  Ql 1 (zeR K (xB j)) (zM 0) (λ_ H Q=>Q true H) (vV sp [] E0 (xN (xB 0) Xn)) σ H Q:=by
 refine⟨_,hσ,r,rL,⟨_,SqT.of hr⟩,λD W=>?_⟩
 have hl:=U.length
 refine X0 (J:=Itt K r) (g:=zM 0) (tt:=λ_ H Q=>Q true H) (te:=vV sp [] E0 (xN (xB 0) Xn)) (Q:=Q) (N:=us.length) (n:=1) (λi H2 ys=>zk H H2/\ys=(List.replicate i true).map V.bl) ⟨zk.upd W,rL⟩ (λi H2 ys hi ⟨F,_⟩=>?_) (λH2 ys ⟨F,_⟩=>?_) ?_ ?_
 ·exact⟨us,us[i],.of (F _ _ hr),wj hi⟩
 ·exact⟨us,.of (F _ _ hr),wq _⟩
 ·rintro i x zs H2 H3 ys Nx O hi I ⟨rfl,f1⟩ ⟨F,rfl⟩ G
  obtain⟨z1,rfl⟩:=ln1 I
  obtain⟨a,p,q,b,eb,rfl,ha,hp,hq⟩:=U.get (f1 us (.of (F _ _ hr)))
  dsimp only[zM]
  try rw[if_pos rfl]
  refine⟨00,?_⟩
  refine S H3 (.ref a) b _ F (wm eb) ⟨a,p,q,rL,F _ _ ha,hp.same F,hq.same F⟩ ?_
  refine⟨G,?_,O _ _ ⟨zal W F (zk.refl _),?_⟩⟩
  ·rw[wk,uq];exact xn ∅
  ·rw[List.replicate_succ',yK];rfl
 ·rintro H2 ys ⟨F,rfl⟩ G
  rw[hl]at G
  exact k D H2 F G
theorem zem (n:Nat):(List.replicate n true).all id=true:=by simp
def rowB (l h:Wl) (bs:Bk) (b c:zB):Bool:=wgood l h&&(ordB bs&&btwB l h b c)
inductive spIs (vs:Ba)(H:Hp)(Q:VK)(_e3:XK):Prop
 |mk:∀a v1 v2 l1 l2 r us bs b cs c,(vs=[.ref a,.ref r])->(H a=some (.tup [v1,v2]))->(zT H v1 l1)->(zT H v2 l2)->(WSz l1)->(WSz l2)->(H r=some (.tup us))->(zL H us bs)->(bs[0]?=some b)->(bs=cs++[c])->(BSz bs)->(bs.length<=8)->((∀b∈bs,1<=b.wt/\b.wt<=1000))->(∀H',zk H H'->Q (.bl (rowB l1 l2 bs b c)) H')->spIs vs H Q _e3
theorem zfF:zF ["walls","thing"] ["walls","thing"] (zr VU):=scq
theorem ok_is (D:Df K mg "is_row" VU ["walls","thing"] []) (T:TxB K mg) (T3:Tx3 K mg tb tw aN) (a1:⇑3 "walls_good" 5 ["thing"] [] spWg) (a3:⇑3 "is_ball" 4 ["thing"] [] zj3) (a5:⇑3 "is_ordered" 3 ["row"] [] zkm)
  (a4:⇑3 "is_between" 4 ["walls","row"] [] zj4):⇑3 "is_row" 6 ["walls","thing"] [] spIs:=by
 refine D.calq (k:=5) zfF (λf cdv A outer s H vs Q E S h=>?_)
 rcases q:h with⟨a,v1,v2,l1,l2,r,us,bs,b,cs,c,rfl,ha,h1,h2,z1,z2,G,Y,eb,O,hz,I,V,k⟩
 have a6:xf 3 _:=S.md
 have W:xf 4 _:=S.md
 have a2:bs≠[]:=by rw[O];simp
 have hl:=Y.length
 have a7:1<=bs.length:=by rw[O];simp
 refine⟨_,(zA (zZ ((vQ (qE (xv (zH a1 S %[0|0]) λ_=>rL)) (vG (qE (xv (xk vY ⇑2 T.nIs uk %[1,Vm (v:=.ty "tuple") (u:=.type "tuple") ⇑2 T.nTuple yy rL|0]) λ_=>rL))))).pt (zj (zG ZL)) zQ)
  (zA (zZ ((vQ (qE (zfo zcO zcO zg (xk xt ⇑2 T.nLen PySem.boot_len %[1|0]) (zcQ (v:=.int 8) ⇑2 T3.mb ⟨_,rfl⟩))) (vG (qE (xv (xk (Vx rfl) ⇑2 T3.nAll ⇑0 %[(vn (NB:=["ball"]) rfl ⇑0 ⇑0 rfl ⇑0 (Zq (pv 1)) (by intro _ _ _;refine⟨?_,?_,?_⟩;(exact(pgl (i:=0) (show List.Nodup (["ball"]:Ad) by decide +kernel)));(exact xI);(exact(zH a3 W %[0|0]))))|0]) λ_=>rfl))))).pt (zj (zG ZL)) zQ)
  (zj (zG (qT (zH a5 a6 %[1|0]) (qU (zH a4 W %[0,1|0]))))))),?_⟩
 try dsimp only[xi,Cx.nox]
 refine⟨00,a,v1,v2,l1,l2,rL,ha,h1,h2,z1,z2,?_⟩
 have U:=k
 unfold rowB at U
 cases hg:wgood l1 l2 with
 |false =>
  simp only[hg,Ya]at U
  exact⟨false,rL,xp (xp (U H (zk.refl _)))⟩
 |true =>
  simp only[hg,WO]at U
  refine⟨true,rL,xm ?_⟩
  refine⟨00,_,_,_,true,rL,.tup G,T3.tt,true,rL,xm ?_⟩
  refine⟨00,r,00,.inr (SqT.of G),022,00,?_⟩
  rw[wo (show (1:Int)<=(us.length:Int) by lia)]
  refine xp ⟨_,_,rL,rL,_,rL,?_⟩
  rw[wo (show (us.length:Int)<=8 by lia)]
  refine xm ?_
  unfold zmk tCB xN
  refine zbJ (K:=K) (j:=1) rL G Y I (λH1 v b Q e mb ⟨a,p,q,e1,e2,e3,e4⟩ q'=>?_) λDD H2 e2 hD=>⟨DD,_,rL,SqL.of hD,?_⟩
  ·subst e1
   exact⟨a,p,q,b.pl,b.sp,b.wt,rL,e2,e3,e4,(V b mb).1,(V b mb).2,q'⟩
  ·rw[zem]
   refine⟨true,rL,xm ?_⟩
   refine⟨00,r,us,bs,rL,e2 _ _ G,Y.same e2,a2,I,hz,λH3 e3=>?_⟩
   have F:=e2.trans e3
   cases ho:ordB bs with
   |false =>
    have:=U H3 F
    simp only[ho,Ya]at this
    exact⟨false,rL,xm this⟩
   |true =>
    refine⟨true,rL,xp ⟨01,a,v1,v2,l1,l2,r,us,bs,b,cs,c,rL,F _ _ ha,h1.same F,h2.same F,z1,z2,F _ _ G,Y.same F,eb,O,hz,λH4 e4=>?_⟩⟩
    have:=U H4 (F.trans e4)
    simp only[ho,WO]at this
    exact this
end
end K3
namespace KK
open PySem L2 KM
variable {P:Program}{w:World}{K:Fg}{mg:Aa}{base:Heap}
theorem zez {K:Fg}{a D:Addr}{xs:Ba}{n:Nat}{g:TG}{tt:TT}{te:TE}{Q:VK}{H:Hp}(G:Nat->Hp->Ba->Prop) (h0:G 0 (upd H D (.lst [])) []) (hl:∀i H ys,i<=xs.length->G i H ys->SqT K H a xs)
  (hs:∀i x I H ys (Y:Hp->Ba->Prop),(∀H ys,G (i+1) H ys->Y H ys)->xs[i]?=some x->I.length=n->G i H ys->H D=some (.lst ys)->g x I H λU H4=>tt U H4 λb F=>if b=true then te U F (λv S=>S D=some (.lst ys)/\ys.length<sizeLine/\Y (upd S D (.lst (ys++[v]))) (ys++[v]))
   else F D=some (.lst ys)/\Y F ys) (hd:∀H ys,G xs.length H ys->H D=some (.lst ys)->Q (.ref D) H) :
  ∃W:Nat->Nat->Hp->Ba->Prop,(∃m,W 0 m (upd H D (.lst [])) []) ∧
   ∀i m H2 ys,W i m H2 ys->H2 D=some (.lst ys)->((Itt K a).stop i H2/\Q (.ref D) H2) ∨
    ((Itt K a).go i H2/\∀I x H3,I.length=n->(Itt K a).yld i H2 x H3->g x I H3 λU H4=>tt U H4 λb F=>if b=true then te U F (λv S=>S D=some (.lst ys)/\ys.length<sizeLine/\∃j,j<m/\W (i+1) j (upd S D (.lst (ys++[v]))) (ys++[v]))
     else F D=some (.lst ys)/\∃j,j<m/\W (i+1) j F ys):=by
 refine⟨λi m H ys=>m=xs.length-i/\i<=xs.length/\G i H ys,⟨xs.length,by simp,yo _,h0⟩,?_⟩
 rintro i m H2 ys ⟨rfl,hi,p⟩ hD
 have q:=hl i H2 ys hi p
 by_cases hlt:i<xs.length
 ·refine .inr ⟨⟨xs,xs[i],q,by simp[hlt]⟩,λI x H3 hB y=>?_⟩
  obtain⟨e,y⟩:=y
  subst e
  exact hs i x I _ ys (λH' O=>∃j,j<xs.length-i/\(j=xs.length-(i+1)/\i+1<=xs.length/\G (i+1) H' O)) (λH' O z=>⟨xs.length-(i+1),by lia,rfl,hlt,z⟩) (y xs q) hB p hD
 ·have e:i=xs.length:=by lia
  subst e
  exact .inl ⟨⟨xs,q,wq _⟩,hd H2 ys p hD⟩
inductive qa (H:Hp):Ba->Al->Prop
 |nil:qa H [] []
 |cons {a:Addr}{q:Rat}{vs:Ba}{qs:Al}:zC H a q->qa H vs qs->qa H (.ref a::vs) (q::qs)
theorem qa.mono {H H':Hp}(m:∀b xs,H b=some (.tup xs)->H' b=some (.tup xs)):∀{vs:Ba}{qs:Al},qa H vs qs->qa H' vs qs
 |_,_,.nil=>.nil
 |_,_,.cons h t=>.cons (m _ _ h) (qa.mono m t)
theorem qa.length {H:Hp}:∀{vs:Ba}{qs:Al},qa H vs qs->vs.length=qs.length
 |_,_,.nil=>rfl
 |_,_,.cons _ t=>by rw[wJ,wJ,qa.length t]
theorem qa.snoc {H:Hp}{a:Addr}{q:Rat}(k:zC H a q):∀{vs:Ba}{qs:Al},qa H vs qs->qa H (vs++[.ref a]) (qs++[q])
 |_,_,.nil=>.cons k .nil
 |_,_,.cons h t=>.cons h (qa.snoc k t)
theorem qa.get {H:Hp}:∀{vs:Ba}{qs:Al}{i:Nat}{v:V},qa H vs qs->vs[i]?=some v->∃(a:Addr) (q:Rat),qs[i]?=some q/\v=.ref a/\zC H a q
 |_,_,_,_,.nil,e=>by simp at e
 |_,_,0,_,.cons h _,e=>by simp at e;subst e;exact⟨022,h⟩
 |_,_,i+1,v,.cons _ t,e=>by
  obtain⟨a,q,e1,r⟩:=qa.get (i:=i) t ↥e
  exact⟨a,q,↥e1,r⟩
theorem QW {α:Type}{l:List α}{i:Nat}{x:α}(h:l[i]?=some x):l.take (i+1)=l.take i++[x]:=by rw[yu,h];rfl
theorem zh2:Sz 5 0:=⟨(by show (0:Int).natAbs<2^5;decide),(by show ((1:Nat):Int).natAbs<2^5;decide)⟩
structure Okb (bs:Bk):Prop where
 len:bs.length<=8
 sz:∀b∈bs,Sz 4000 b.pl/\Sz 195 b.sp
 wt:∀b∈bs,1<=b.wt/\b.wt<=1000
theorem zcl {n:Int}(h:1<=n/\n<=1000):Bd 10 n:=uN (show n.natAbs<=1000 by omega) ⇑1
theorem len3 {σ:St}(h:σ.length=3):∃a b c,σ=[a,b,c]:=by
 match σ,h with
 |[a,b,c],_=>exact⟨a,b,c,rfl⟩
inductive zdd (K:Fg) (vs:Ba)(H:Hp)(Q:VK)(_e3:XK):Prop
 |mk:∀(a:Addr) (us:Ba) (qs:Al),(vs=[.ref a])->(H a=some (.lst us))->(qa H us qs)->(qs.length<=8)->((∀q∈qs,Sz 400 q))->(∀p H',zk H H'->zC H' p (qs.foldl (· + ·) 0)->Sz 4000 (qs.foldl (· + ·) 0)->Q (.ref p) H')->zdd K vs H Q _e3
theorem zap:zF ["parts","total","part"] ["parts"] (zr V0):=scq
theorem zjK (D:Df K mg "sum_of" V0 ["parts"] []) (U:⇑3 "ratio" 2 ["top","bottom"] [.int 1] qm) (cP:⇑3 "plus" 3 ["one","other"] [] (xY Sz2 (· + ·))):⇑3 "sum_of" 4 ["parts"] [] (zdd K):=by
 rcases r:D.cal (k:=3) zap (λvs H Q E h=>by obtain⟨a,us,qs,rfl,_⟩:=h;rfl) with⟨a,us,qs,rfl,ha,hR,a1,W,k⟩
 have O:xf 2 _:=hr.md
 refine⟨_,(zA (psl (i:=1) zap.nd (zH U O %[zg|0]))
  (zA (qD PassesOwn.never rfl (xM (pv 0)) (pgl (i:=2) zap.nd) (zj (psl (i:=1) zap.nd (zH cP hr %[1,2|0]))))
  (zj (zG (pv 1))))),?_⟩
 try dsimp only[xi,Cx.nox]
 refine⟨0,1,rfl,by decide,Bd.mono (m:=1) (by show (1:Int).natAbs<2^1;decide) ⇑1,λp0 H1 e1 h1=>?_⟩
 have e0:Rat.divInt 0 1=0:=rfl
 rw[e0]at h1
 refine⟨00,a,rL,⟨_,SqL.of (e1 _ _ ha)⟩,Zg (xs:=us) (λi σ H2=>∃(pt:Addr) (z:Bh),σ=[Sr a,Sr pt,z]/\zk H H2/\zC H2 pt ((qs.take i).foldl (· + ·) 0)/\Sz (5+401*i) ((qs.take i).foldl (· + ·) 0)) ⟨p0,none,rL,e1,h1,zh2⟩
  (λi σ H2 _ ⟨_,_,_,I,_⟩=>SqL.of (I _ _ ha)) ?_ ?_⟩
 ·rintro i x σ H2 hi G;rcases q:G with⟨pt,z,rfl,I,F,j⟩
  have a2:i<us.length:=(wn.mp hi).1
  have Y:=hR.length
  rcases q:hR.get hi with⟨b,q,S,rfl,hb⟩
  have sq:Sz 400 q:=W q (wm S)
  refine⟨01,pt,b,_,q,rL,F,hb.same I,⟨j.mono ∅,sq.md⟩,λr H3 e3 h3=>?_⟩
  refine⟨r,00,I.trans e3,?_,?_⟩
  ·rw[QW S,uR];exact h3
  ·rw[QW S,uR];exact(j.add sq).mono ∅
 ·rintro σ H2 G;rcases q:G with⟨pt,z,rfl,I,F,j⟩
  have Y:=hR.length
  rw[wH ∅]at F j
  exact⟨00,k pt H2 I F (j.mono ∅)⟩
theorem JB {te:TE}{σ:St}{H:Hp}{Q:VK}{r:Addr}{us:Ba}{bs:Bk}(g:zB->Rat) (hσ:σ[0]?=some (some (.ref r))) (hr:H r=some (.tup us)) (hB:zL H us bs) (a1:bs.length<=8)
  (he:∀(b:zB) (p q:Addr) (O:Hp) (Q':VK),b∈bs->zC O p b.pl->zC O q b.sp->(∀v I,zk O I->zC I v (g b)->Q' (.ref v) I)->te [some (.ref p),some (.ref q),some (.int b.wt)] O Q')
  (k:∀D ys H',zk H H'->H' D=some (.lst ys)->qa H' ys (bs.map g)->Q (.ref D) H') :
  Ql 3 (zeR K (xB 0)) (Xt K 3 (xL (zM 0) (xL (zM 1) (xL (zM 2) Qa)))) (λ_ H Q=>Q true H) te σ H Q:=by
 refine⟨_,hσ,r,rL,⟨_,SqT.of hr⟩,λD hD=>?_⟩
 have hl:=hB.length
 refine zez (K:=K) (a:=r) (n:=3) (g:=Xt K 3 (xL (zM 0) (xL (zM 1) (xL (zM 2) Qa)))) (tt:=λ_ H Q=>Q true H) (te:=te) (Q:=Q) (xs:=us) (λi H2 ys=>zk H H2/\qa H2 ys ((bs.take i).map g)/\ys.length=i) ⟨zk.upd hD,.nil,rL⟩ (λi H2 ys _ ⟨G,_⟩=>SqT.of (G _ _ hr)) ?_ ?_
 ·rintro i x σB H2 ys Nx hN hx W ⟨G,U,Y⟩ F
  obtain⟨a,p,q,b,eb,rfl,ha,hp,hq⟩:=hB.get hx
  obtain⟨z1,z2,z3,rfl⟩:=len3 W
  refine⟨a,00,SqT.of (G _ _ ha),rL,021,021,022,?_⟩
  refine xp (he b p q H2 _ (wm eb) (hp.same G) (hq.same G) λv I S h6=>⟨S _ _ F,?_,hN _ _ ⟨?_,?_,?_⟩⟩)
  ·have:i<us.length:=(wn.mp hx).1
   exact xn ∅
  ·intro c o e
   rw[zK (zN e hD)];exact S _ _ (G _ _ e)
  ·have j:∀c xs,I c=some (.tup xs)->upd I D (.lst (ys++[.ref v])) c=some (.tup xs):=λc xs e=>by
    rw[zK (ziq e (S _ _ F) (by intro z;cases z))];exact e
   rw[QW eb,yK]
   exact qa.snoc (j _ _ h6) ((U.mono λc xs e=>S _ _ e).mono j)
  ·rw[wC,Y];rfl
 ·rintro H2 ys ⟨G,U,_⟩ F
  rw[wH ∅]at U
  exact k D ys H2 G F U
theorem zcw (f:zB->Rat) (bs:Bk):(bs.map λb=>(b.wt:Rat)*f b).foldl (· + ·) 0=ws f bs:=by rw[List.foldl_map];rfl
inductive Ja (f:zB->Rat) (vs:Ba)(H:Hp)(Q:VK)(_e3:XK):Prop
 |mk:∀(r:Addr) (us:Ba) (bs:Bk),(vs=[.ref r])->(H r=some (.tup us))->(zL H us bs)->(Okb bs)->(∀p H',zk H H'->zC H' p (ws f bs)->Sz 4000 (ws f bs)->Q (.ref p) H')->Ja f vs H Q _e3
theorem bd1:Bd 8900 1:=Bd.mono (m:=1) (by show (1:Int).natAbs<2^1;decide) ⇑1
theorem zhI:zF ["row"] ["row"] (zr QM):=scq
theorem zg8 (D:Df K mg "push_of" QM ["row"] []) (O:⇑3 "ratio" 2 ["top","bottom"] [.int 1] qm) (cT:⇑3 "times" 3 ["one","other"] [] (xY Sz2 (· * ·))) (I:⇑3 "sum_of" 4 ["parts"] [] (zdd K)) :
  ⇑3 "push_of" 5 ["row"] [] (Ja zB.sp):=by
 rcases r:D.cal (k:=4) zhI (λvs H Q E h=>by obtain⟨a,us,qs,rfl,_⟩:=h;rfl) with⟨r,us,bs,rfl,S,hB,ok,k⟩
 have F:xf 2 _:=hr.md
 have U:xf 3 _:=hr.md
 refine⟨_,(zj (zG (zH I hr %[(vn (NB:=["place","speed","weight"]) rfl ⇑0 ⇑0 rfl ⇑0 (Zq (pv 0)) (by intro _ _ _;refine⟨?_,?_,?_⟩;(exact(vN (K:=K) (n:=3) rfl rfl (zP (pgl (i:=0) (show List.Nodup (["place","speed","weight"]:Ad) by decide +kernel)) (zP (pgl (i:=1) (show List.Nodup (["place","speed","weight"]:Ad) by decide +kernel)) (zP (pgl (i:=2) (show List.Nodup (["place","speed","weight"]:Ad) by decide +kernel)) xw)))));(exact xI);(exact(zH cT U %[zH O F %[2|0],1|0]))))|0]))),?_⟩
 try dsimp only[xi,Cx.nox]
 unfold zaw vV xN
 show Ql 3 (zeR K (xB 0)) (Xt K 3 (xL (zM 0) (xL (zM 1) (xL (zM 2) Qa)))) (λ_ H Q=>Q true H) _ [some (.ref r)] H _
 refine JB (λb=>(b.wt:Rat)*b.sp) ⇑2 S hB ok.len (λb p q H5 Q' j hp G hk=>?_) (λDa ys H' s' hy hR=>?_)
 ·refine⟨00,b.wt,1,rfl,by decide,bd1,λpw H6 V W=>?_⟩
  rw[zfa]at W
  refine⟨00,pw,q,021,W,G.same V,⟨(Sz.int (zcl (ok.wt b j)) ⇑1).md,(ok.sz b j).2.md⟩,λv H7 e7 h7=>hk v H7 (V.trans e7) h7⟩
 ·refine⟨Da,ys,00,hy,hR,by rw[wk];exact ok.len,λq G=>?_,λp H2 e2 h2 Y=>?_⟩
  ·obtain⟨b,j,rfl⟩:=wx.mp G
   exact((Sz.int (zcl (ok.wt b j)) ⇑1).mul (ok.sz b j).2).md
  ·rw[zcw]at h2 Y
   exact k p H2 (s'.trans e2) h2 Y
theorem zd3:zF ["row"] ["row"] (zr Xb):=scq
theorem zdW (D:Df K mg "energy_of" Xb ["row"] []) (U:⇑3 "ratio" 2 ["top","bottom"] [.int 1] qm) (W:⇑3 "times" 3 ["one","other"] [] (xY Sz2 (· * ·))) (S:⇑3 "sum_of" 4 ["parts"] [] (zdd K)) :
  ⇑3 "energy_of" 5 ["row"] [] (Ja λb=>b.sp*b.sp):=by
 rcases r:D.cal (k:=4) zd3 (λvs H Q E h=>by obtain⟨a,us,qs,rfl,_⟩:=h;rfl) with⟨r,us,bs,rfl,V,hB,ok,k⟩
 have I:xf 2 _:=hr.md
 have F:xf 3 _:=hr.md
 refine⟨_,(zj (zG (zH S hr %[(vn (NB:=["place","speed","weight"]) rfl ⇑0 ⇑0 rfl ⇑0 (Zq (pv 0)) (by intro _ _ _;refine⟨?_,?_,?_⟩;(exact(vN (K:=K) (n:=3) rfl rfl (zP (pgl (i:=0) (show List.Nodup (["place","speed","weight"]:Ad) by decide +kernel)) (zP (pgl (i:=1) (show List.Nodup (["place","speed","weight"]:Ad) by decide +kernel)) (zP (pgl (i:=2) (show List.Nodup (["place","speed","weight"]:Ad) by decide +kernel)) xw)))));(exact xI);(exact(zH W F %[zH U I %[2|0],(zH W F %[1,1|0])|0]))))|0]))),?_⟩
 try dsimp only[xi,Cx.nox]
 unfold zaw vV xN
 show Ql 3 (zeR K (xB 0)) (Xt K 3 (xL (zM 0) (xL (zM 1) (xL (zM 2) Qa)))) (λ_ H Q=>Q true H) _ [some (.ref r)] H _
 refine JB (λb=>(b.wt:Rat)*(b.sp*b.sp)) ⇑2 V hB ok.len (λb p q H5 Q' j hp G hk=>?_) (λDa ys H' s' hy hR=>?_)
 ·refine⟨00,b.wt,1,rfl,by decide,bd1,λpw H6 O h6=>?_⟩
  rw[zfa]at h6
  have sz:=(ok.sz b j).2
  refine⟨01,q,q,021,G.same O,G.same O,⟨sz.md,sz.md⟩,λv H7 Y h7=>?_⟩
  refine⟨pw,v,021,h6.same Y,h7,⟨(Sz.int (zcl (ok.wt b j)) ⇑1).md,(sz.mul sz).md⟩,λv H8 e8 h8=>hk v H8 (O.trans (Y.trans e8)) h8⟩
 ·refine⟨Da,ys,00,hy,hR,by rw[wk];exact ok.len,λq G=>?_,λp H2 e2 h2 z2=>?_⟩
  ·obtain⟨b,j,rfl⟩:=wx.mp G
   have sz:=(ok.sz b j).2
   exact((Sz.int (zcl (ok.wt b j)) ⇑1).mul (sz.mul sz)).md
  ·rw[zcw]at h2 z2
   exact k p H2 (s'.trans e2) h2 z2
end KK
namespace KT
open PySem L2 KM KK
open KQ (xK xP qi stG rlG brk xU)
def Z8 {α:Type}{R:α->α->Prop}{L:List α}:L.Pairwise R↔∀(i j:Nat) (x y:α),i<j->L[i]?=some x->L[j]?=some y->R x y:=by
 rw[uZ]
 constructor
 ·intro h i j x y F e1 e2
  obtain⟨h1,rfl⟩:=wn.mp e1
  obtain⟨h2,rfl⟩:=wn.mp e2
  exact h i j h1 h2 F
 ·intro h i j h1 h2 F
  exact h i j _ _ F (wj h1) (wj h2)
def zfp {α:Type}{R:α->α->Prop}(j:∀a b c,R a b->R b c->R a c):∀{L:List α},(∀i a b,L[i]?=some a->L[i+1]?=some b->R a b)->L.Pairwise R
 |[],_=>.nil
 |[a],_=>yE ..
 |a::b::l,h=>by
  have ih:=zfp j (L:=b::l) λi x y e1 e2=>h (i+1) x y ↥e1 ↥e2
  refine yB.mpr ⟨λc mc=>?_,ih⟩
  rcases wy.mp mc with rfl | mc
  ·exact h 0 a c rL rL
  ·exact j _ _ _ (h 0 a b rL rL) ((yB.mp ih).1 c mc)
def plM (m:Rat) (t:Rat×Rat):Rat:=t.1+t.2*m
def zgc {bs:Bk}{lo hi:Wl}{m:Rat}(O:Ord bs lo hi) (e:qI (tl bs lo hi)=some m):(tl bs lo hi).Pairwise λa b=>plM m a<=plM m b:=by
 have U:=vk O e
 refine zfp (R:=λa b=>plM m a<=plM m b) (λa b c=>YA) λi a b G F=>?_
 unfold plM
 by_cases c:b.2<a.2
 ·obtain⟨I,V,j⟩:=(Qu ((tl bs lo hi).zip (tl bs lo hi).tail) none).1 (a,b) (zgm G F) c
  obtain rfl:I=m:=Option.some.inj (V.symm.trans e)
  have hd:0<a.2-b.2:=by grind
  have j:I<=(b.1-a.1)/(a.2-b.2):=j
  have h2:=yn j (uw hd)
  rw[W9 (by grind)]at h2
  grind
 ·have S:=Z8.mp O.pw i (i+1) a b ∅ G F
  have:=yn (show a.2<=b.2 by grind) (uw U)
  rcases S with h | ⟨h,_⟩
  ·have h:a.1<b.1:=h;grind
  ·have h:a.1=b.1:=h;grind
def zkA {a b:zB}{m:Rat}(h:ZU a b) (j:0<m) (e:a.pl+a.sp*m=b.pl+b.sp*m):b.sp<a.sp:=by
 rcases h with h | ⟨h1,h2⟩
 ·rcases Classical.em (b.sp<a.sp)with z | z
  ·exact z
  ·have:=yn (show a.sp<=b.sp by grind) (uw j);grind
 ·have:=ym h2 j;grind
def zah {α:Type} [DecidableEq α] {ss:List α}:∀k i,ss.length-i=k->i<ss.length->∃b,i<=b/\b<ss.length/\brk ss b=true/\stG ss b=stG ss i
 |0,i,e,hi=>absurd e ∅
 |k+1,i,e,hi=>by
  by_cases c:brk ss i=true
  ·exact⟨i,wq _,hi,c,rL⟩
  ·have G:i+1≠ss.length:=λz=>c (Zm.mpr (.inl z))
   obtain⟨b,h1,h2,j,F⟩:=zah (ss:=ss) k (i+1) ∅ ∅
   refine⟨b,by lia,h2,j,F.trans ?_⟩
   have e:stG ss (i+1)=if brk ss i=true then i+1 else stG ss i:=rfl
   rw[e,if_neg c]
def zfz {ss:Al}(mono:ss.Pairwise (·<=·)){i j:Nat}{x:Rat}(ij:i<j) (e1:ss[i]?=some x) (e2:ss[j]?=some x):∃b,zgq ss (stG ss b) b/\stG ss b<=i/\j<=b:=by
 have hj:=(wn.mp e2).1
 obtain⟨b,h1,h2,S,V⟩:=zah (ss:=ss) _ i rfl ∅
 refine⟨b,zai h2 S,by rw[V];exact xU _ _,?_⟩
 rcases WH b j with z | z
 ·exfalso
  have O:∀(p q:Nat) (y z:Rat),p<=q->ss[p]?=some y->ss[q]?=some z->y<=z:=λp q y z W U F=>by
   rcases WH p q with c | c
   ·exact Z8.mp mono p q y z c U F
   ·obtain rfl:p=q:=by lia
    rw[U]at F;cases F;exact Wd
  obtain⟨y,G⟩:∃y,ss[b]?=some y:=⟨_,wj h2⟩
  obtain⟨w,I⟩:∃y,ss[b+1]?=some y:=⟨_,wj ∅⟩
  have a1:=O i b x y h1 e1 G
  have a2:=O b (b+1) y w ∅ G I
  have Y:=O (b+1) j w x ∅ I e2
  rcases Zm.mp S with f | f
  ·lia
  ·refine f ?_
   rw[G,I];congr 1;grind
 ·exact z
def rise {ss:Al}(h:ss.Pairwise (·<=·)) (n:ss.Nodup):ss.Pairwise (· < ·) :=
 (h.and n).imp λ{a b} ⟨h1,h2⟩=>by
  show a<b;grind
def zdF {ws:Ak}{vs ss:Al}{I:Bj}(h:vJ ws vs I ss) (G:vs.Pairwise (· > ·)):ss.Pairwise (· < ·):=by
 rcases h with⟨_,a,b,F,j,rfl,rfl,rfl⟩ | ⟨_,_,S,ps⟩
 ·have:F>j:=(yB.mp G).1 j (by simp)
  refine yB.mpr ⟨λx O=>?_,yE ..⟩
  rw[wO.mp O];show twR a b F j-F<twR a b F j-j;grind
 ·refine rise ps (S.nodup_iff.mpr ?_)
  refine(yi.mpr (G.imp λ{a b} g=>?_))
  unfold Z9
  cases I with
  |none=>show a≠b;grind
  |some z=>show 2*z-a≠2*z-b;grind
def zgD {ws:Ak}{vs ss:Al}{z:Rat}(h:vJ ws vs (some z) ss) (I:∀v∈vs,v<=z):∀s∈ss,z<=s:=by
 rcases h with⟨e,_⟩ | ⟨_,_,F,_⟩
 ·cases e
 ·intro s G
  obtain⟨v,j,rfl⟩:=wx.mp (F.mem_iff.mp G)
  have:=I v j
  show z<=2*z-v;grind
def zgC {ws:Ak}{vs ss:Al}{z:Rat}(h:vJ ws vs (some z) ss) (I:∀v∈vs,z<=v):∀s∈ss,s<=z:=by
 rcases h with⟨e,_⟩ | ⟨_,_,F,_⟩
 ·cases e
 ·intro s G
  obtain⟨v,j,rfl⟩:=wx.mp (F.mem_iff.mp G)
  have:=I v j
  show 2*z-v<=z;grind
def zjN {bs:Bk}(h:bs.Pairwise ZU):K3.ordB bs=true:=by
 unfold K3.ordB
 rw[Wa]
 rintro ⟨b,c⟩ m
 obtain⟨i,e1,e2⟩:=za0 m
 show K3.fol b.pl b.sp c.pl c.sp=true
 unfold K3.fol
 rcases Z8.mp h i (i+1) b c ∅ e1 e2 with z | ⟨j,F⟩
 ·rw[if_neg (by grind)];exact wo z
 ·rw[if_pos j];exact wo F
def zeM {x y j F:Rat}(h:x<j):K3.fol x y j F=true:=by
 unfold K3.fol;rw[if_neg (by grind)];exact wo h
def zeL {x y j:Rat}(h:y<j):K3.fol x y x j=true:=by
 unfold K3.fol;rw[if_pos rfl];exact wo h
section
variable {bs ds:Bk}{lo hi:Wl}{m:Rat}
theorem zlS (O:Ord bs lo hi) (e:qI (tl bs lo hi)=some m):((bs.map (zS m)).map zB.pl).Pairwise (·<=·):=by
 have h:=zgc O e
 unfold tl at h
 have h:=(wI.mp (wI.mp h).1).2.1
 rw[wW]
 have h2:=yi.mp h
 exact yi.mpr h2
theorem zio (O:Ord bs lo hi) (e:qI (tl bs lo hi)=some m){x y:Rat}(F:lo=some (x,y)){b:zB}(j:b∈bs):x+y*m<=b.pl+b.sp*m:=by
 have h:=zgc O e
 unfold tl at h
 rw[F]at h
 exact(wI.mp (wI.mp h).1).2.2 (x,y) (by simp[xK]) (b.pl,b.sp) (wx.mpr ⟨b,j,rfl⟩)
theorem zin (O:Ord bs lo hi) (e:qI (tl bs lo hi)=some m){x y:Rat}(F:hi=some (x,y)){b:zB}(j:b∈bs):b.pl+b.sp*m<=x+y*m:=by
 have h:=zgc O e
 unfold tl at h
 rw[F]at h
 exact(wI.mp h).2.2 (b.pl,b.sp) (ww _ (wx.mpr ⟨b,j,rfl⟩)) (x,y) (by simp[xK])
theorem VB (h:CoR bs lo hi m ds){i:Nat}{d:zB}(e:ds[i]?=some d):∃b,bs[i]?=some b/\d.pl=b.pl+b.sp*m/\d.wt=b.wt:=by
 have e1:=congrArg (·[i]?) h.be.pw
 simp only[we,e,Wo]at e1
 cases eb:bs[i]? with
 |none=>rw[eb]at e1;cases e1
 |some c =>
  rw[eb]at e1
  have e1:(d.pl,d.wt)=(c.pl+c.sp*m,c.wt):=Option.some.inj e1
  exact⟨c,rL,congrArg Prod.fst e1,congrArg Prod.snd e1⟩
theorem zhJ (O:Ord bs lo hi) (e:qI (tl bs lo hi)=some m) (V:bs.Pairwise ZU){g:Grp}(mg:g∈grM bs lo hi m):(xJ ((bs.map (zS m)).map zB.sp) g).Pairwise (· > ·):=by
 obtain⟨h1,h2,_,pl,G,_⟩:=qS (show g∈grL _ _ _ from mg)
 rw[Z8]
 intro p q x y Y F j
 rw[qQ]at F j
 split at F
 ·split at j
  ·have k1:=G (g.1+p) ⟨by lia,by lia⟩
   have k2:=G (g.1+q) ⟨by lia,by lia⟩
   simp only[we]at F j k1 k2
   cases e1:bs[g.1+p]? with
   |none=>rw[e1]at F;cases F
   |some a =>
    cases e2:bs[g.1+q]? with
    |none=>rw[e2]at j;cases j
    |some b =>
     rw[e1]at F k1;rw[e2]at j k2
     have S:a.sp=x:=Option.some.inj F
     have I:b.sp=y:=Option.some.inj j
     have W:a.pl+a.sp*m=pl:=Option.some.inj k1
     have U:b.pl+b.sp*m=pl:=Option.some.inj k2
     have:=zkA (Z8.mp V _ _ a b ∅ e1 e2) (vk O e) (W.trans U.symm)
     rw[<-S,<-I];exact this
  ·cases j
 ·cases F
theorem zi9 (O:Ord bs lo hi) (Y:bs.Pairwise ZU) (h:CoR bs lo hi m ds):ds.Pairwise ZU:=by
 rw[Z8]
 intro i j x y S ex G
 obtain⟨a,ea,pa,_⟩:=VB h ex
 obtain⟨b,V,W,_⟩:=VB h G
 have mono:=zlS O h.so
 have I:((bs.map (zS m)).map zB.pl)[i]?=some x.pl:=by rw[we,we,ea,pa];rfl
 have F:((bs.map (zS m)).map zB.pl)[j]?=some y.pl:=by rw[we,we,V,W];rfl
 have le:=Z8.mp mono i j _ _ S I F
 by_cases c:x.pl=y.pl
 ·refine .inr ⟨c,?_⟩
  rw[<-c]at F
  obtain⟨q,hr,h1,h2⟩:=zfz mono S I F
  have U:fL (bs.map (zS m)) (zO m lo) (zO m hi) (stG ((bs.map (zS m)).map zB.pl) q) q=some (stG ((bs.map (zS m)).map zB.pl) q,q,xT (zO m lo) (zO m hi) ((((bs.map (zS m)).map zB.pl)[stG ((bs.map (zS m)).map zB.pl) q]?).getD 0)):=by
   unfold fL;rw[if_pos (.inl (by omega))]
  have mg:_∈grM bs lo hi m:=zbL.mpr ⟨_,_,hr,U⟩
  have rs:=zdF (h.be.gr _ mg) (zhJ O h.so Y mg)
  generalize stG ((bs.map (zS m)).map zB.pl) q=p at *
  refine Z8.mp rs (i-p) (j-p) x.sp y.sp (by omega) ?_ ?_
  ·rw[qQ ,if_pos (by dsimp only;omega)]
   nofun
   rw[Wf h1,we,ex];rfl
  ·rw[qQ,if_pos (by dsimp only;omega)]
   nofun
   rw[show p+(j-p)=j by omega,we,G];rfl
 ·exact .inl (by grind)
theorem zf0 (O:Ord bs lo hi) (I:0<m){x y:Rat}(G:lo=some (x,y)){b:zB}(F:b∈bs) (e:x+y*m=b.pl+b.sp*m):b.sp<=y:=by
 have j:=O.lo G F
 rcases Classical.em (b.sp<=y)with z | z
 ·exact z
 ·have:=ym (show y<b.sp by grind) I
  rcases j with h | ⟨h,_⟩
  ·have h:x<b.pl:=h;grind
  ·have h:x=b.pl:=h;grind
theorem zfZ (O:Ord bs lo hi) (I:0<m){x y:Rat}(G:hi=some (x,y)){b:zB}(F:b∈bs) (e:b.pl+b.sp*m=x+y*m):y<=b.sp:=by
 have j:=O.hi G F
 rcases Classical.em (y<=b.sp)with z | z
 ·exact z
 ·have:=ym (show b.sp<y by grind) I
  rcases j with h | ⟨h,_⟩
  ·have h:b.pl<x:=h;grind
  ·have h:b.pl=x:=h;grind
theorem zfN {g:Grp}{v:Rat}(G:v∈xJ ((bs.map (zS m)).map zB.sp) g):∃i b,inG g i/\bs[i]?=some b/\b.sp=v:=by
 obtain⟨j,F⟩:=yT G
 rw[qQ]at F
 split at F
 ·simp only[we]at F
  cases e:bs[g.1+j]? with
  |none=>rw[e]at F;cases F
  |some b=>rw[e]at F;exact⟨g.1+j,b,⟨by omega,by omega⟩,e,Option.some.inj F⟩
 ·cases F
theorem zaI {l:Wl}{x y k:Rat}(e:l=some (x,y)) (h:x+y*m=k):atW (zO m l) k=true:=by
 subst e;exact wo h
theorem zkU (O:Ord bs lo hi) (h:CoR bs lo hi m ds){x y:Rat}(F:lo=some (x,y)){b d:zB}(V:bs[0]?=some b) (ed:ds[0]?=some d) (e:x+y*m=b.pl+b.sp*m):y<=d.sp:=by
 have pm:=vk O h.so
 have k0:((bs.map (zS m)).map zB.pl)[0]?=some (b.pl+b.sp*m):=by rw[we,we,V];rfl
 have ha:=zaI (m:=m) F e
 have hw:∀g∈grM bs lo hi m,inG g 0->qA g.2.2 (zO m lo) (zO m hi)=some (x+y*m,y)/\∀v∈xJ ((bs.map (zS m)).map zB.sp) g,v<=y:=λg mg j=>by
  obtain⟨_,_,I,pl,G,_⟩:=qS (show g∈grL _ _ _ from mg)
  have g0:g.1=0:=by have:=j.1;lia
  have e1:pl=b.pl+b.sp*m:=by have:=G 0 j;rw[k0]at this;exact(Option.some.inj this).symm
  rw[g0,k0]at I
  rw[I]
  refine⟨?_,λv mv=>?_⟩
  ·show qA (xT (zO m lo) (zO m hi) (b.pl+b.sp*m)) _ _=_
   rw[zc7 ha]
   unfold qA;rw[if_pos rfl,F];rfl
  ·obtain⟨i,c,Y,ec,rfl⟩:=zfN mv
   have:=G i Y
   rw[we,we,ec]at this
   have:c.pl+c.sp*m=pl:=Option.some.inj this
   exact zf0 O pm F (wm ec) (by rw[this,e1];exact e)
 by_cases c:∃g∈grM bs lo hi m,inG g 0
 ·obtain⟨g,mg,j⟩:=c
  obtain⟨w1,w2⟩:=hw g mg j
  have hd:=h.be.gr g mg
  rw[w1]at hd
  refine zgD hd w2 d.sp (wm (i:=0-g.1) ?_)
  rw[vU j,we,ed];rfl
 ·have S:=h.be.no 0 λg mg z=>c ⟨g,mg,z⟩
  rw[we,we,we,ed,V]at S
  have S:d.sp=b.sp:=Option.some.inj S
  rw[S]
  rcases Classical.em (b.sp<y)with z | z
  ·exfalso
   have W:0<((bs.map (zS m)).map zB.pl).length:=(wn.mp k0).1
   obtain⟨q,_,h2,I,G⟩:=zah (ss:=(bs.map (zS m)).map zB.pl) _ 0 rfl W
   have hr:=zai h2 I
   have e0:stG ((bs.map (zS m)).map zB.pl) q=0:=G
   rw[e0]at hr
   obtain⟨cq,eq⟩:∃c,(bs.map (zS m))[q]?=some c:=⟨_,wj (by rw[wk]at h2;exact h2)⟩
   have U:(bs.map (zS m))[0]?=some (zS m b):=by rw[we,V];rfl
   have j:vK (bs.map (zS m)) (zO m lo) (zO m hi) 0 q=true:=by
    rw[J4 U eq,if_pos (show atW (zO m lo) (zS m b).pl=true from ha),F]
    exact wo z
   have hf:fL (bs.map (zS m)) (zO m lo) (zO m hi) 0 q=some (0,q,xT (zO m lo) (zO m hi) ((((bs.map (zS m)).map zB.pl)[0]?).getD 0)):=by
    unfold fL;rw[if_pos (.inr j)]
   exact c ⟨_,zbL.mpr ⟨0,q,hr,hf⟩,⟨wq _,yo _⟩⟩
  ·grind
theorem zkT (O:Ord bs lo hi) (h:CoR bs lo hi m ds){x y:Rat}(G:hi=some (x,y)) (nl:∀k,¬(atW (zO m lo) k=true/\atW (zO m hi) k=true)){b d:zB}{n:Nat}(hn:n+1=bs.length) (eb:bs[n]?=some b) (ed:ds[n]?=some d) (e:b.pl+b.sp*m=x+y*m):d.sp<=y:=by
 have pm:=vk O h.so
 have k0:((bs.map (zS m)).map zB.pl)[n]?=some (b.pl+b.sp*m):=by rw[we,we,eb];rfl
 have Y:=zaI (m:=m) G e.symm
 have hb:atW (zO m lo) (b.pl+b.sp*m)=false:=by
  cases z:atW (zO m lo) (b.pl+b.sp*m)with
  |false=>rfl
  |true=>exact absurd ⟨z,Y⟩ (nl _)
 have V:xT (zO m lo) (zO m hi) (b.pl+b.sp*m) = "high":=by rw[zaq hb,if_pos Y]
 have hw:∀g∈grM bs lo hi m,inG g n->qA g.2.2 (zO m lo) (zO m hi)=some (x+y*m,y)/\∀v∈xJ ((bs.map (zS m)).map zB.sp) g,y<=v:=λg mg F=>by
  obtain⟨h1,_,U,pl,I,_⟩:=qS (show g∈grL _ _ _ from mg)
  have e1:pl=b.pl+b.sp*m:=by have:=I n F;rw[k0]at this;exact(Option.some.inj this).symm
  have S:=I g.1 ⟨wq _,h1⟩
  rw[S,e1]at U
  rw[U]
  refine⟨?_,λv mv=>?_⟩
  ·show qA (xT (zO m lo) (zO m hi) (b.pl+b.sp*m)) _ _=_
   rw[V]
   unfold qA;rw[if_neg ⇑1,if_pos rfl,G];rfl
  ·obtain⟨i,c,a3,ec,rfl⟩:=zfN mv
   have:=I i a3
   rw[we,we,ec]at this
   have:c.pl+c.sp*m=pl:=Option.some.inj this
   exact zfZ O pm G (wm ec) (by rw[this,e1];exact e)
 by_cases c:∃g∈grM bs lo hi m,inG g n
 ·obtain⟨g,mg,F⟩:=c
  obtain⟨w1,w2⟩:=hw g mg F
  have hd:=h.be.gr g mg
  rw[w1]at hd
  refine zgC hd w2 d.sp (wm (i:=n-g.1) ?_)
  rw[vU F,we,ed];rfl
 ·have j:=h.be.no n λg mg z=>c ⟨g,mg,z⟩
  rw[we,we,we,ed,eb]at j
  have j:d.sp=b.sp:=Option.some.inj j
  rw[j]
  rcases Classical.em (y<b.sp)with z | z
  ·exfalso
   have a2:n<((bs.map (zS m)).map zB.pl).length:=(wn.mp k0).1
   obtain⟨q,h1,h2,U,I⟩:=zah (ss:=(bs.map (zS m)).map zB.pl) _ n rfl a2
   have hr:=zai h2 U
   have hq:q=n:=by rw[wk,wk]at h2;lia
   subst hq
   have sl:=xU ((bs.map (zS m)).map zB.pl) q
   obtain⟨ca,S⟩:∃c,(bs.map (zS m))[stG ((bs.map (zS m)).map zB.pl) q]?=some c:=⟨_,wj (by rw[wk]at h2;lia)⟩
   have a1:(bs.map (zS m))[q]?=some (zS m b):=by rw[we,eb];rfl
   have W:ca.pl=b.pl+b.sp*m:=by
    have:=hr.2.2.1 _ (wq _) sl
    rw[k0,we,S]at this
    exact Option.some.inj this
   have F:vK (bs.map (zS m)) (zO m lo) (zO m hi) (stG ((bs.map (zS m)).map zB.pl) q) q=true:=by
    rw[J4 S a1,W,if_neg (by rw[hb];decide),if_pos Y,G]
    exact wo z
   have hf:fL (bs.map (zS m)) (zO m lo) (zO m hi) (stG ((bs.map (zS m)).map zB.pl) q) q=some (stG ((bs.map (zS m)).map zB.pl) q,q,xT (zO m lo) (zO m hi) ((((bs.map (zS m)).map zB.pl)[stG ((bs.map (zS m)).map zB.pl) q]?).getD 0)):=by
    unfold fL;rw[if_pos (.inr F)]
   exact c ⟨_,zbL.mpr ⟨_,q,hr,hf⟩,⟨sl,wq _⟩⟩
  ·grind
theorem zcI (O:Ord bs lo hi) (h:CoR bs lo hi m ds):∀k,¬(atW (zO m lo) k=true/\atW (zO m hi) k=true):=λk ⟨h1,h2⟩=>h.sh <| (zbk O (vk O h.so)).mpr <| by
 cases lo with
 |none=>cases h1
 |some l =>
  cases hi with
  |none=>cases h2
  |some r=>exact⟨l.1,l.2,r.1,r.2,rfl,rfl,(wF h1).trans (wF h2).symm⟩
theorem zb3 (O:Ord bs lo hi) (pw:bs.Pairwise ZU) (n1:1<=bs.length) (h:CoR bs lo hi m ds):∃b cs c,ds[0]?=some b/\ds=cs++[c]/\K3.wgood (zO m lo) (zO m hi)=true/\K3.rowB (zO m lo) (zO m hi) ds b c=true:=by
 have W:ds.length=bs.length:=by have:=congrArg List.length h.be.pw;simpa using this
 have S:ds≠[]:=λz=>by rw[z]at W;simp at W;lia
 obtain⟨G,I⟩:∃d,ds[0]?=some d:=⟨_,wj ∅⟩
 obtain⟨j,U⟩:∃d,ds[bs.length-1]?=some d:=⟨_,wj ∅⟩
 have el:ds=ds.dropLast++[j]:=by
  have:=(WP S).symm
  rw[List.getLast_eq_getElem]at this
  have e2:ds[ds.length-1]'∅=j:=by
   have:=(wn.mp U).2
   rw[<-this];congr 1;lia
  rw[e2]at this;exact this
 have hg:K3.wgood (zO m lo) (zO m hi)=true:=by
  cases lo with
  |none=>rfl
  |some l =>
   cases hi with
   |none=>rfl
   |some r =>
    obtain⟨b,F⟩:∃d,bs[0]?=some d:=⟨_,wj ∅⟩
    have Y:=zio O h.so (x:=l.1) (y:=l.2) rfl (wm F)
    have a2:=zin O h.so (x:=r.1) (y:=r.2) rfl (wm F)
    refine wo (show l.1+l.2*m<r.1+r.2*m from ?_)
    by_cases c:l.1+l.2*m=r.1+r.2*m
    ·exact absurd ⟨wo rL,wo c.symm⟩ (zcI O h (l.1+l.2*m))
    ·grind
 refine⟨G,ds.dropLast,j,I,el,hg,?_⟩
 have h1:K3.loB (zO m lo) G=true:=by
  cases elo:lo with
  |none=>rfl
  |some l =>
   obtain⟨b,F,V,_⟩:=VB h I
   have Y:=zio O h.so (x:=l.1) (y:=l.2) elo (wm F)
   show ((decide (l.1+l.2*m=G.pl)&&decide (l.2=G.sp)) || K3.fol (l.1+l.2*m) l.2 G.pl G.sp)=true
   by_cases c:l.1+l.2*m=G.pl
   ·have:=zkU O h (x:=l.1) (y:=l.2) elo F I (c.trans V)
    by_cases c2:l.2=G.sp
    ·rw[wo c,wo c2];rfl
    ·rw[<-c,zeL (by grind),W8]
   ·rw[zeM (by grind),W8]
 have h2:K3.hiB (zO m hi) j=true:=by
  cases ehi:hi with
  |none=>rfl
  |some l =>
   obtain⟨b,F,V,_⟩:=VB h U
   have Y:=zin O h.so (x:=l.1) (y:=l.2) ehi (wm F)
   show ((decide (j.pl=l.1+l.2*m)&&decide (j.sp=l.2)) || K3.fol j.pl j.sp (l.1+l.2*m) l.2)=true
   by_cases c:j.pl=l.1+l.2*m
   ·have:=zkT O h (x:=l.1) (y:=l.2) ehi (zcI O h) ∅ F U (V.symm.trans c)
    by_cases c2:j.sp=l.2
    ·rw[wo c,wo c2];rfl
    ·rw[c,zeL (by grind),W8]
   ·rw[zeM (by grind),W8]
 unfold K3.rowB K3.btwB
 rw[hg,zjN (zi9 O pw h),h1,h2];rfl
end
def Jd:∀(I:List Grp){A B:Al},A.length=B.length->I.Pairwise (λg j=>g.2.1<j.1)->(∀g∈I,g.1<=g.2.1/\g.2.1<A.length/\(xJ A g).sum=(xJ B g).sum)->(∀i,(∀g∈I,¬inG g i)->A[i]?=B[i]?)->A.sum=B.sum
 |[],A,B,_,_,_,h=>by rw[yq λi=>h i λg m=>(nomatch m)]
 |g::I,A,B,hl,hp,hg,h=>by
  obtain⟨S,F,W⟩:=hg g wT
  have U:(xJ B g).length=g.2.1+1-g.1:=Qj ∅
  have V:(xJ A g).length=g.2.1+1-g.1:=Qj F
  have Y:A=Qe A (xJ A g) g:=yq λi=>by
   rw[vv S F V]
   by_cases c1:i<g.1
   ·rw[if_pos c1]
   ·rw[if_neg c1]
    by_cases c2:i<=g.2.1
    ·rw[if_pos c2,vU ⟨by lia,c2⟩]
    ·rw[if_neg c2]
  have e1:A.sum=(Qe A (xJ B g) g).sum:=by
   have:(Qe A (xJ A g) g).sum=(Qe A (xJ B g) g).sum:=by
    unfold Qe
    rw[WX,WX,WX,WX,W]
   rw[<-this,<-Y]
  rw[e1]
  have O:=yB.mp hp
  refine Jd I (by rw[VR S F U];exact hl) O.2 (λj G=>?_) λi hi=>?_
  ·obtain⟨k1,k2,k3⟩:=hg j (wR _ G)
   have lt:=O.1 j G
   have:xJ (Qe A (xJ B g) g) j=xJ A j:=Qi λi hi=>by
    rw[vv S F U,if_neg (by have:=hi.1;lia),if_neg (by have:=hi.1;lia)]
   exact⟨k1,by rw[VR S F U];exact k2,by rw[this];exact k3⟩
  ·rw[vv S F U]
   by_cases c:inG g i
   ·rw[if_neg (by have:=c.1;lia),if_pos c.2,vU c]
   ·have:=h i λj G=>by
     rcases wy.mp G with rfl | G
     ·exact c
     ·exact hi j G
    by_cases c1:i<g.1
    ·rw[if_pos c1];exact this
    ·rw[if_neg c1,if_neg (λz=>c ⟨by lia,z⟩)];exact this
def Jg {α:Type}(F:Int->Rat->Rat) (f:α->Int) (g:α->Rat):∀l:List α,List.zipWith F (l.map f) (l.map g)=l.map λx=>F (f x) (g x)
 |[]=>rfl
 |x::l=>by show F (f x) (g x)::List.zipWith F (l.map f) (l.map g)=_;rw[Jg F f g l];rfl
def Zl {F:Int->Rat->Rat}{c:Int}:∀{ws:Ak}{vs:Al},(∀x∈ws,x=c)->ws.length=vs.length->List.zipWith F ws vs=vs.map (F c)
 |[],[],_,_=>rfl
 |[],_::_,_,h=>by simp at h
 |_::_,[],_,h=>by simp at h
 |w::ws,v::vs,h,hl=>by
  show F w v::List.zipWith F ws vs=F c v::vs.map (F c)
  rw[h w wT,Zl (λx m=>h x (wR _ m)) ↥hl]
def zba {l m:Al}(h:l.Perm m):l.sum=m.sum:=by
 induction h with
 |nil=>rfl
 |cons x _ ih=>rw[uV,uV,ih]
 |swap x y l=>rw[uV,uV,uV,uV];grind
 |trans _ _ h1 h2=>exact h1.trans h2
def fP (w:Int) (v:Rat):Rat:=(w:Rat)*v
def fE (w:Int) (v:Rat):Rat:=(w:Rat)*(v*v)
def zaQ {ws:Ak}{vs ss:Al}(h:vJ ws vs none ss) (hw:∀x∈ws,1<=x) (I:ws.length=vs.length):(List.zipWith fP ws vs).sum=(List.zipWith fP ws ss).sum/\(List.zipWith fE ws vs).sum=(List.zipWith fE ws ss).sum:=by
 rcases h with⟨_,a,b,F,j,rfl,rfl,rfl⟩ | ⟨_,h1,G,_⟩
 ·have Y:=hw a (by simp)
  have V:=hw b (by simp)
  have W:(a:Rat)+(b:Rat)≠0:=by
   have:=ic0 (a:=a+b) ∅
   push_cast at this;exact this
  have S:((a:Rat)+b)*twR a b F j=2*(a*F+b*j):=by unfold twR;grind
  generalize twR a b F j=t at *
  simp only[List.zipWith_cons_cons,List.zipWith_nil_left,uV,List.sum_nil]
  unfold fP fE
  constructor
  ·grind
  ·have e:(a:Rat)*((t-F)*(t-F))+(b*((t-j)*(t-j))+0)=(((a:Rat)+b)*t)*t-2*t*(a*F+b*j)+(a*(F*F)+b*(j*j)):=by grind
   rw[e,S];grind
 ·have G:ss.Perm vs:=by
   have:vs.map (Z9 none)=vs:=by rw[show Z9 none=id from rfl,List.map_id]
   rw[this]at G;exact G
  have O:∀x∈ws,x=ws.headD 0:=λx U=>by
   unfold qi at h1
   rw[Wa]at h1
   exact wF (h1 x U)
  rw[Zl O I,Zl O I,Zl O (I.trans G.length_eq.symm),Zl O (I.trans G.length_eq.symm)]
  exact⟨zba (G.symm.map _),zba (G.symm.map _)⟩
def zgx {bs ds:Bk}{lo hi:Wl}{m:Rat}(hw:∀c∈bs,1<=c.wt) (h:CoR bs lo hi m ds) (I:∀g∈grM bs lo hi m,g.2.2 = ""):(bs.map λc=>fP c.wt c.sp).sum=(ds.map λc=>fP c.wt c.sp).sum/\(bs.map λc=>fE c.wt c.sp).sum=(ds.map λc=>fE c.wt c.sp).sum:=by
 have el:ds.length=bs.length:=by have:=congrArg List.length h.be.pw;simpa using this
 have U:ds.map zB.wt=bs.map zB.wt:=by
  have:=congrArg (List.map Prod.snd) h.be.pw
  simp only[wW]at this
  exact this
 have G:∀F:Int->Rat->Rat,(∀{ws:Ak}{vs ss:Al},vJ ws vs none ss->(∀x∈ws,1<=x)->ws.length=vs.length->(List.zipWith F ws vs).sum=(List.zipWith F ws ss).sum)->(bs.map λc=>F c.wt c.sp).sum=(ds.map λc=>F c.wt c.sp).sum:=λF hF=>by
  refine Jd (grM bs lo hi m) (by rw[wk,wk,el]) (zeO _ _ _) (λg mg=>?_) λi S=>?_
  ·obtain⟨h1,h2,_⟩:=qS (show g∈grL _ _ _ from mg)
   rw[wk]at h2
   refine⟨h1,by rw[wk];exact h2,?_⟩
   have hd:=h.be.gr g mg
   rw[I g mg]at hd
   have hd:vJ (xJ (bs.map zB.wt) g) (xJ (bs.map zB.sp) g) none (xJ (ds.map zB.sp) g):=by
    have e1:(bs.map (zS m)).map zB.wt=bs.map zB.wt:=by rw[wW];rfl
    have e2:(bs.map (zS m)).map zB.sp=bs.map zB.sp:=by rw[wW];rfl
    rw[e1,e2]at hd;exact hd
   have e3:=hF hd (λx W=>by
    obtain⟨c,mc,rfl⟩:=wx.mp (w5 (w8 W))
    exact hw c mc) (by rw[Qj (by rw[wk];exact h2),Qj (by rw[wk];exact h2)])
   have Y:xJ (bs.map λc=>F c.wt c.sp) g=List.zipWith F (xJ (bs.map zB.wt) g) (xJ (bs.map zB.sp) g):=by
    rw[qF,qF,qF,Jg]
   have V:xJ (ds.map λc=>F c.wt c.sp) g=List.zipWith F (xJ (bs.map zB.wt) g) (xJ (ds.map zB.sp) g):=by
    rw[<-U,qF,qF,qF,Jg]
   rw[Y,V];exact e3
  ·have O:=h.be.no i S
   have j:=congrArg (·[i]?) U
   simp only[we]at O j ⊢
   cases e1:ds[i]? with
   |none=>cases e2:bs[i]? with
    |none=>rfl
    |some b=>rw[e1,e2]at j;cases j
   |some d=>cases e2:bs[i]? with
    |none=>rw[e1,e2]at j;cases j
    |some b =>
     rw[e1,e2]at O j
     have g1:d.sp=b.sp:=Option.some.inj O
     have g2:d.wt=b.wt:=Option.some.inj j
     simp only[Wo]
     rw[g1,g2]
 exact⟨G fP λa b c=>(zaQ a b c).1,G fE λa b c=>(zaQ a b c).2⟩
def zaB (f:zB->Rat) (bs:Bk):ws f bs=(bs.map λb=>(b.wt:Rat)*f b).sum:=by
 induction bs with
 |nil=>rfl
 |cons b bs ih=>rw[zia,ih];rfl
def zbc {bs cs:Bk}{a:Nat}{ss:Al}:∀{j:Nat},a+j<=cs.length->∀i,(VS bs cs a ss j)[i]?=if a<=i/\i<a+j then some (nbB bs a ss (i-a))else cs[i]?
 |0,_,i=>by rw[if_neg ∅];rfl
 |j+1,h,i=>by
  show ((VS bs cs a ss j).set (a+j) (nbB bs a ss j))[i]?=_
  rw[WC,Qf]
  by_cases e:a+j=i
  ·subst e
   rw[if_pos rfl,if_pos ∅,if_pos ∅,Ws]
  ·rw[if_neg e,zbc ∅ i]
   by_cases c:a<=i/\i<a+j
   ·rw[if_pos c,if_pos ∅]
   ·rw[if_neg c,if_neg ∅]
def zjv {bs:Bk}{a i:Nat}{ss:Al}{b:zB}{v:Rat}(h:a<=i) (j:bs[i]?=some b) (F:ss[i-a]?=some v):nbB bs a ss (i-a)=⟨b.pl,v,b.wt⟩:=by
 unfold nbB
 rw[Wf h,j,F];rfl
def zgS {cs:Bk}{lo hi:Wl}{G:List Grp}{ds:Bk}(h:LwC cs lo hi G ds) (V:G.Pairwise λg F=>g.2.1<F.1) (Y:∀g∈G,g.1<=g.2.1/\g.2.1<cs.length):zbB cs lo hi G ds:=by
 induction h with
 |nil=>exact⟨rfl,λg m=>(nomatch m),λ_ _=>rfl⟩
 |@snoc G ds g ss h hl d ih =>
  have ih:=ih (wI.mp V).1 λF m=>Y F (wL _ m)
  obtain⟨h1,h2⟩:=Y g (ww _ (wO.mpr rfl))
  have dj:∀F∈G,F.2.1<g.1:=λF m=>(wI.mp V).2.2 F m g (wO.mpr rfl)
  have el:ds.length=cs.length:=by have:=congrArg List.length ih.pw;simpa using this
  have pg:=λi=>zbc (bs:=cs) (cs:=ds) (a:=g.1) (ss:=ss) (j:=g.2.1+1-g.1) (by omega) i
  have S:∀i,inG g i->∃b v,cs[i]?=some b/\ss[i-g.1]?=some v/\(VS cs ds g.1 ss (g.2.1+1-g.1))[i]?=some ⟨b.pl,v,b.wt⟩:=λi hi=>by
   obtain⟨b,W⟩:∃b,cs[i]?=some b:=⟨_,wj (by have:=hi.2;omega)⟩
   obtain⟨v,U⟩:∃v,ss[i-g.1]?=some v:=⟨_,wj (by have:=hi.1;have:=hi.2;omega)⟩
   refine⟨b,v,W,U,?_⟩
   rw[pg,if_pos ⟨hi.1,by have:=hi.1;have:=hi.2;omega⟩,zjv hi.1 W U]
  have I:∀i,¬inG g i->(VS cs ds g.1 ss (g.2.1+1-g.1))[i]?=ds[i]?:=λi hi=>by
   rw[pg,if_neg (λz=>hi ⟨z.1,by omega⟩)]
  refine⟨yq λi=>?_,λF m=>?_,λi hi=>?_⟩
  ·rw[we,we]
   by_cases c:inG g i
   ·obtain⟨b,v,e1,_,O⟩:=S i c
    rw[O,e1];rfl
   ·rw[I i c,<-we,ih.pw,we]
  ·rcases wK.mp m with m | m
   ·have lt:=dj F m
    have:xJ ((VS cs ds g.1 ss (g.2.1+1-g.1)).map zB.sp) F=xJ (ds.map zB.sp) F:=Qi λi hi=>by
     rw[we,we,I i (λz=>by have:=z.1;have:=hi.2;omega)]
    rw[this];exact ih.gr F m
   ·obtain rfl:=wO.mp m
    have:xJ ((VS cs ds F.1 ss (F.2.1+1-F.1)).map zB.sp) F=ss:=yq λj=>by
     rw[qQ]
     split
     ·obtain⟨b,v,_,e2,O⟩:=S (F.1+j) ⟨by omega,by omega⟩
      rw[Ws]at e2
      rw[we,O,e2];rfl
     ·rw[w4 (by omega)]
    rw[this,qF,qF]
    exact d
  ·have hn:=ih.no i λF m=>hi F (wL _ m)
   rw[we,I i (hi g (ww _ (wO.mpr rfl))),<-we];exact hn
def zdb {L:List (Rat×Rat)}{m:Rat}(h:qI L=some m) (z:∀t∈L,Sz 320 t.1/\Sz 80 t.2):Sz 802 m:=by
 rcases(Qu _ none).2.2 m h with e | ⟨p,G,c,rfl⟩
 ·cases e
 ·have y:=uz G
  have j:=z _ y.1
  have F:=z _ (WN y.2)
  unfold mo
  exact(Sz.div (Sz.sub F.1 j.1) (Sz.sub j.2 F.2) (by grind)).md
def zgE {ws:Ak}{vs ss:Al}{V:Bj}(h:vJ ws vs V ss) (hw:∀x∈ws,1<=x/\x<=1000) (O:∀v∈vs,Sz 80 v) (hz:∀z,V=some z->Sz 80 z):∀s∈ss,Sz 195 s:=by
 rcases h with⟨_,a,b,G,F,rfl,rfl,rfl⟩ | ⟨_,_,pm,_⟩
 ·have wa:=hw a (by simp)
  have wb:=hw b (by simp)
  have W:=O G (by simp)
  have Y:=O F (by simp)
  have I:∀{x:Int}(n:Nat),x.natAbs<2^n->1<=n->Sz n (x:Rat):=λ{x} n h h1=>Sz.int h h1
  have zd:Sz 10 ((a-b:Int):Rat):=I 10 ∅ ⇑1
  have U:Sz 10 ((b-a:Int):Rat):=I 10 ∅ ⇑1
  have za:Sz 11 ((2*a:Int):Rat):=I 11 ∅ ⇑1
  have zb:Sz 11 ((2*b:Int):Rat):=I 11 ∅ ⇑1
  have zs:Sz 11 ((a+b:Int):Rat):=I 11 ∅ ⇑1
  have j:((a+b:Int):Rat)≠0:=ic0 ∅
  have e0:twR a b G F-G=(((a-b:Int):Rat)*G+((2*b:Int):Rat)*F)/((a+b:Int):Rat):=by unfold twR;push_cast at j ⊢;grind
  have e1:twR a b G F-F=(((b-a:Int):Rat)*F+((2*a:Int):Rat)*G)/((a+b:Int):Rat):=by unfold twR;push_cast at j ⊢;grind
  intro s S
  simp only[wy,wZ,or_false]at S
  rcases S with rfl | rfl
  ·rw[e0];exact(Sz.div ((zd.mul W).add (zb.mul Y)) zs j).md
  ·rw[e1];exact(Sz.div ((U.mul Y).add (za.mul W)) zs j).md
 ·intro s S
  obtain⟨v,mv,rfl⟩:=wx.mp (pm.mem_iff.mp S)
  cases V with
  |none=>exact(O v mv).md
  |some z =>
   have zz:=hz z rfl
   show Sz 195 (2*z-v)
   have z2:Sz 2 2:=⟨show (2:Int).natAbs<2^2 by decide,show (1:Int).natAbs<2^2 by decide⟩
   exact(Sz.sub (z2.mul zz) (O v mv)).md
structure RwZ (bs:Bk) (lo hi:Wl):Prop extends RwS bs lo hi where
 pw:bs.Pairwise ZU
def RwZ.b {bs:Bk}{lo hi:Wl}(h:RwZ bs lo hi){c:zB}(m:c∈bs):Sz 320 c.pl/\Sz 80 c.sp:=h.z (c.pl,c.sp) (by unfold tl;exact wL _ (ww _ (wx.mpr ⟨c,m,rfl⟩)))
def RwZ.l {bs:Bk}{lo hi:Wl}(h:RwZ bs lo hi){t:Rat×Rat}(m:lo=some t):Sz 320 t.1/\Sz 80 t.2:=h.z t (by unfold tl;rw[m];simp[xK])
def RwZ.h {bs:Bk}{lo hi:Wl}(h:RwZ bs lo hi){t:Rat×Rat}(m:hi=some t):Sz 320 t.1/\Sz 80 t.2:=h.z t (by unfold tl;rw[m];simp[xK])
def LZ (l:Wl):Prop:=∀t,l=some t->Sz 1300 t.1/\Sz 80 t.2
def v6 {l:Wl}{m:Rat}(j:Sz 802 m) (z:∀t,l=some t->Sz 320 t.1/\Sz 80 t.2):LZ (zO m l):=λt e=>by
 cases l with
 |none=>cases e
 |some u =>
  have:=z u rfl
  obtain rfl:=Option.some.inj e
  exact⟨(this.1.add (this.2.mul j)).md,this.2.md⟩
def zgh {s:Str}{lo hi:Wl}{t:Rat×Rat}(h:qA s lo hi=some t):lo=some t\/hi=some t:=by
 unfold qA at h
 split at h
 ·exact .inl h
 ·split at h
  ·exact .inr h
  ·cases h
def CoR.sz {m:Rat}{bs ds:Bk}{lo hi:Wl}(Z:RwZ bs lo hi) (h:CoR bs lo hi m ds):Sz 802 m/\(∀d∈ds,Sz 1300 d.pl/\Sz 195 d.sp/\1<=d.wt/\d.wt<=1000)/\LZ (zO m lo)/\LZ (zO m hi):=by
 have j:=zdb h.so Z.z
 refine⟨j,λd md=>?_,v6 j λt e=>Z.l e,v6 j λt e=>Z.h e⟩
 obtain⟨i,O⟩:=yT md
 obtain⟨c,U,e1,e2⟩:=VB h O
 have mc:=wm U
 have F:=Z.b mc
 refine⟨by rw[e1];exact(F.1.add (F.2.mul j)).md,?_,by rw[e2];exact Z.w c mc⟩
 by_cases cg:∃g∈grM bs lo hi m,inG g i
 ·obtain⟨g,mg,I⟩:=cg
  have hd:=h.be.gr g mg
  refine zgE hd (λx mx=>?_) (λv V=>?_) (λz W=>?_) d.sp ?_
  ·obtain⟨c',mc,rfl⟩:=wx.mp (w5 (w8 mx))
   obtain⟨S,G,rfl⟩:=wx.mp mc
   exact Z.w S G
  ·obtain⟨c',mc,rfl⟩:=wx.mp (w5 (w8 V))
   obtain⟨S,G,rfl⟩:=wx.mp mc
   exact(Z.b G).2
  ·obtain⟨t,Y,rfl⟩:=uJ.mp W
   rcases zgh Y with y | y
   ·exact(v6 j (λt e=>Z.l e) t y).2
   ·exact(v6 j (λt e=>Z.h e) t y).2
  ·refine wm (i:=i-g.1) ?_
   rw[vU I,we,O];rfl
 ·have:=h.be.no i λg mg z=>cg ⟨g,mg,z⟩
  rw[we,we,we,O,U]at this
  have:d.sp=c.sp:=Option.some.inj this
  rw[this];exact F.2.md
open KQ (vL qR vW TxQ vm vD Vg laQ laP)
def zeo (b:zB):PyData:=.tuple [rD b.pl,rD b.sp,.int b.wt]
def zaK {H:Hp}:∀{us:Ba}{bs:Bk},zL H us bs->Qp H us (bs.map zeo)
 |_,_,.nil=>.nil
 |_,_,.cons h1 h2 h3 t=>.cons (.tup h1 (.cons (Zr h2) (.cons (Zr h3) (.cons (.int _) .nil)))) (zaK t)
def zeX (b:zB):Lay 2 (zeo b):=Lay.tup λd m=>by
 simp only[wy,wZ,or_false]at m
 rcases m with rfl | rfl | rfl
 ·exact .rat _
 ·exact .rat _
 ·exact(Lay.int _).md
def zi0 (m:Rat) (cs:Bk) (lo hi:Wl):PyData:=.tuple [rD m,.tuple (cs.map zeo),wsD lo hi]
def zcB (m:Rat) (cs:Bk) (lo hi:Wl):Lay 4 (zi0 m cs lo hi):=Lay.tup λd h=>by
 simp only[wy,wZ,or_false]at h
 rcases h with rfl | rfl | rfl
 ·exact(Lay.rat _).md
 ·exact Lay.tup λd h=>by obtain⟨b,_,rfl⟩:=wx.mp h;exact zeX b
 ·exact zjo _ _
def zbG {H:Hp}{p F r j:Addr}{m:Rat}{cs:Bk}{lo hi:Wl}(I:H p=some (.tup [.ref F,.ref r,.ref j])) (O:zC H F m) (S:RwH H r j cs lo hi):RdD H (.ref p) (zi0 m cs lo hi):=by
 obtain⟨⟨us,h1,h2⟩,Y,W,U,V,G⟩:=S
 exact .tup I (.cons (Zr O) (.cons (.tup h1 (zaK h2)) (.cons (.tup U (.cons (ziR V) (.cons (ziR G) .nil))) .nil)))
inductive Out (bs:Bk) (lo hi:Wl) (H:Hp):V->Prop
 |non (h:qI (tl bs lo hi)=none):Out bs lo hi H .non
 |ref {p:Addr}(h:zgp bs lo hi) (hp:H p=some (.tup [])):Out bs lo hi H (.ref p)
 |told {m:Rat}{ds:Bk}{p mm r wa:Addr}(h:CoR bs lo hi m ds) (hp:H p=some (.tup [.ref mm,.ref r,.ref wa])) (hm:zC H mm m) (hR:RwH H r wa ds (zO m lo) (zO m hi)):Out bs lo hi H (.ref p)
def Out.keeps {bs:Bk}{lo hi:Wl}{H H':Hp}{v:V}(h:Out bs lo hi H v) (e:zX H H'):Out bs lo hi H' v:=by
 cases h with
 |non h=>exact .non h
 |ref h hp=>exact .ref h (e _ _ hp)
 |told h hp hm hR=>exact .told h (e _ _ hp) (e _ _ hm) (hR.keeps e)
def zft {bs:Bk}{lo hi:Wl}(h:zgp bs lo hi):qI (tl bs lo hi)≠none:=λz=>by
 obtain⟨m,e,_⟩:=h;rw[z]at e;cases e
def Out.rd {bs:Bk}{lo hi:Wl}{H:Hp}{v u:V}(h:Out bs lo hi H v) (k:Out bs lo hi H u):∃d,RdD H v d/\RdD H u d/\Lay 4 d:=by
 cases h with
 |non h =>
  cases k with
  |non=>exact⟨.none,.non,.non,Lay.non.md⟩
  |ref k=>exact absurd h (zft k)
  |told k=>have:=k.so;rw[h]at this;cases this
 |ref h hp =>
  cases k with
  |non k=>exact absurd k (zft h)
  |ref k kp=>exact⟨.tuple [],.tup hp .nil,.tup kp .nil,Lay.tup (n:=3) λd m=>(nomatch m)⟩
  |told k=>exact absurd h k.fit
 |told h hp hm hR =>
  cases k with
  |non k=>have:=h.so;rw[k]at this;cases this
  |ref k=>exact absurd k h.fit
  |told k kp km kR =>
   obtain⟨rfl,rfl⟩:=h.uniq k
   exact⟨_,zbG hp hm hR,zbG kp km kR,zcB _ _ _ _⟩
section
variable {P:Program}{w:World}{K:Fg}{mg:Aa}{base:Heap}{C CS CT Tb:Addr}
inductive zj2 (Tb:Addr) (vs:Ba)(H:Hp)(Q:VK)(_e3:XK):Prop
 |mk:∀r wa bs lo hi,(vs=[.ref r,.ref wa])->(RwH H r wa bs lo hi)->(RwS bs lo hi)->(va Tb laQ laP H)->(∀v H',StT Tb H H'->va Tb laQ laP H'->Out bs lo hi H' v->Q v H')->zj2 Tb vs H Q _e3
theorem zcX:zF ["row","walls","found"] ["row","walls"] (zr Xe):=scq
theorem zlf (D:Df K mg "_law_asked" Xe ["row","walls"] []) (mS:mg "Shut" = some (.ref CS)) (mT:mg "Together" = some (.ref CT)) (hx:∀F,F=CS\/F=CT->YD K (.ref F) [.ref CS,.ref CT]=some true) (S:XU P w K mg base "behind" 6 ["row","walls"] [] (zfP CS CT Tb)):⇑3 "_law_asked" 7 ["row","walls"] [] (zj2 Tb):=by
 refine D.calq (k:=6) zcX (λf0 cdv A outer s H vs Q E hr h=>?_)
 rcases q:h with⟨r,wa,bs,lo,hi,rfl,hR,Z,T,k⟩
 refine⟨_,(zA (psl (i:=2) zcX.nd (xa zf)) (zA (zhm rL rL mS mT hx (λpz W J hJ=>(zj (psl (i:=2) zcX.nd (zfi S hr hJ %[0,1|0])))) (λpz a oe d vs Y a3 a1=>(zj (psl (i:=2) zcX.nd (xa zf))))) (zj (zG (pv 2))))),?_⟩
 try dsimp only[xi,Cx.nox]
 refine⟨zL0,λp0 I=>?_⟩
 have j:=zk.upd (o:=.tup []) I
 have O:=T.same j
 generalize upd H p0 (.tup [])=H0 at j O
 refine⟨01,r,wa,bs,lo,hi,rL,hR.keeps (.of j),Z,O,?_,?_,?_⟩
 ·intro H2 U e
  exact⟨00,k .non H2 (.of (j.trans U)) (O.same U) (.non e)⟩
 ·intro p mm r' a2 m ds H2 st tb Y h1 h2 h3
  exact⟨00,k (.ref p) H2 ((StT.of j).trans st) tb (.told Y h1 h2 h3)⟩
 ·intro F dx H2 st tb hC G
  refine⟨F,rL,hC,zL0,λp hp=>?_⟩
  have V:=zk.upd (o:=.tup []) hp
  exact⟨00,k (.ref p) _ ((StT.of j).trans (st.trans (.of V))) (tb.same V) (.ref G zi)⟩
inductive zkh (vs:Ba)(H:Hp)(Q:VK)(_e3:XK):Prop
 |mk:∀r wa mm bs lo hi m,(vs=[.ref r,.ref wa,.ref mm])->(RwH H r wa bs lo hi)->(RwZ bs lo hi)->(zC H mm m)->(qI (tl bs lo hi)=some m)->(∀v H',zk H H'->Out bs lo hi H' v->Q v H')->zkh vs H Q _e3
theorem zc0:zF ["row","walls","moment","there","standing","due"] ["row","walls","moment"] (zr QG):=scq
theorem zlt (D:Df K mg "_law_due" QG ["row","walls","moment"] []) (b0:⇑3 "_law_on" 3 ["things","t"] [] zhV) (c2:⇑3 "_law_groups" 2 ["row","walls"] [] zhU) (c0:⇑3 "_law_behind" 4 ["row","walls","groups"] [] zj7):⇑3 "_law_due" 5 ["row","walls","moment"] [] zkh:=by
 rcases r:D.calBq (k:=4) zc0 with⟨r,wa,mm,bs,lo,hi,m,rfl,hR,Z,hm,O,k⟩
 have hu:=hr.units
 have b6:xf 2 _:=hr.md
 have a7:xf 3 _:=hr.md
 have zm:=zdb O Z.z
 have pm:=vk Z.o O
 rcases q:hR with⟨⟨us,b4,hB⟩,v1,v2,a8,a4,a3⟩
 refine⟨_,(zE (Bx.mk (psl (i:=3) zc0.nd (zH b0 a7 %[0,2|0])))
  (zE (Bx.mk (psl (i:=4) zc0.nd (zH b0 a7 %[1,2|0])))
  (zE (Bx.mk (zZ (qk (zI xQ (pxt (pv 1)) zV (zJ _)) (qk (zI xQ (pxt (pv 1)) zV (zJ _)) (x8 (zI (vh hu) (pxt (pxt (pv 4))) (pxt (pxt (pv 4))) (zJ _))))).pt (zj (zG (xa zf))) zQ))
  (zE (Bx.mk (psl (i:=5) zc0.nd (zH c0 hr %[3,4,(zH c2 b6 %[3,4|0])|0])))
  (zE (Bx.mk (zZ (zI qy (pv 5) zV (zJ _)) (zj (zG (xa zf))) zQ))
  (Bx.mk (zj (zG (xa %[2,5,4|0]))))))))),?_⟩
 try dsimp only[xi,Cx.nox]
 refine⟨01,r,mm,us,_,m,rfl,b4,Jr hB,by rw[wk];exact Z.n8,λn mn=>?_,hm,zm.md,λpt a5 H1 s1 c5 hO=>?_⟩
 ·obtain⟨b,mb,rfl⟩:=wx.mp mn
  exact⟨by simp,λt e=>by cases e;exact Z.b mb⟩
 have b9:=Qx hO
 refine⟨01,wa,mm,[v1,v2],_,m,rfl,s1 _ _ a8,zeg (a4.tups (.of s1)) (a3.tups (.of s1)),by simp,λn mn=>?_,s1 _ _ hm,zm.md,λps a6 H2 s2 I a2=>?_⟩
 ·simp only[wy,wZ,or_false]at mn
  rcases mn with rfl | rfl
  ·exact⟨by simp,λt e=>Z.l e⟩
  ·exact⟨by simp,λt e=>Z.h e⟩
 have c1:a6.length=2:=a2.1
 match a6,c1 with
 |[w1,w2],_ =>
 have F:zT H2 w1 (zO m lo):=za7 (a2.2 0 w1 _ rfl rfl)
 have G:zT H2 w2 (zO m hi):=za7 (a2.2 1 w2 _ rfl rfl)
 have S2:=s1.trans s2
 have j:=S2 _ _ a8
 have W:=a4.tups (zX.of S2)
 have Y:=a3.tups (zX.of S2)
 have b3:zC H2 mm m:=S2 _ _ hm
 have a9:=b9.same s2
 have V:=s2 _ _ c5
 dsimp only[zM]
 refine VF (λH'=>H'=H2) (ziI lo hi m) (λQ' q=>?_) (λhc H3 e3=>?_) (λhc H3 e3=>?_)
 ·cases lo with
  |none =>
   obtain rfl:v1=.non:=W
   exact⟨00,wa,032,.of j,rL,rL,00,xm (q _ rL)⟩
  |some u =>
   obtain⟨x,y⟩:=u
   rcases q:W with⟨aw,pw,qw,rfl,g1,g2,g3⟩
   refine⟨00,wa,032,.of j,rL,rL,00,xp ?_⟩
   cases hi with
   |none =>
    obtain rfl:v2=.non:=Y
    exact⟨00,wa,032,.of j,rL,rL,00,xm (q _ rL)⟩
   |some u' =>
    obtain⟨x',y'⟩:=u'
    rcases q:Y with⟨d2,c8,c9,rfl,d3,d1,d0⟩
    refine⟨00,wa,032,.of j,rL,rL,00,xp ?_⟩
    rcases q:F with⟨b1,p1,q1,rfl,i1,i2,i3⟩
    rcases q:G with⟨b2,p2,q2,rfl,j1,j2,j3⟩
    refine⟨00,ps,032,.of I,rL,b1,032,.of i1,rL,00,ps,032,.of I,rL,b2,032,.of j1,rL,?_⟩
    refine⟨_,_,zC.rd i2,zC.rd j2,xy _,xy _,00,?_⟩
    rw[zaS]
    exact q _ rL
 ·subst e3
  refine⟨zL0,λtp S=>?_⟩
  exact k _ _ (S2.trans (zk.upd S)) (.ref ⟨m,O,.inl ((JQ Z.o pm).mpr hc)⟩ zi)
 ·subst e3
  have c6:xP lo hi≠some m:=λz=>by rw[(JQ Z.o pm).mp z]at hc;cases hc
  refine Xq ?_
  nofun
  have c3:CZ (bs.map (zS m)) (zO m lo) (zO m hi):=by
   have b5:∀{x y:Rat},Sz 320 x->Sz 80 y->Sz 2000 (x+y*m):=λhx hy=>(hx.add (hy.mul zm)).md
   refine⟨λb mb=>?_,λx y e=>?_,λx y e=>?_⟩
   ·obtain⟨c,mc,rfl⟩:=wx.mp mb
    exact⟨b5 (Z.b mc).1 (Z.b mc).2,(Z.b mc).2⟩
   ·have:=v6 zm (λt e=>Z.l e) _ e;exact⟨this.1.md,this.2⟩
   ·have:=v6 zm (λt e=>Z.h e) _ e;exact⟨this.1.md,this.2⟩
  refine⟨03,pt,ps,a5,_,w1,w2,021,V,a9,by rw[wk];exact Z.n8,I,F,G,c3,λGl gs H4 s4 _ c7 b8=>?_⟩
  have a1:∀g∈grM bs lo hi m,g.1<=g.2.1/\g.2.1<(bs.map (zS m)).length/\(g.2.2 = "low"\/g.2.2 = "high"\/g.2.2 = ""):=λg mg=>by
   obtain⟨h1,h2,h3,_⟩:=qS (show g∈grL _ _ _ from mg)
   exact⟨h1,h2,by rw[h3];exact zb8 ..⟩
  refine⟨pt,ps,Gl,a5,bs.map (zS m),w1,w2,zO m lo,zO m hi,gs,grM bs lo hi m,rfl,s4 _ _ V,a9.same s4,s4 _ _ I,F.tups (.of s4),G.tups (.of s4),c7,b8,by rw[wk];exact Z.n8,λb mb=>?_,λx y e=>(v6 zm (λt e=>Z.l e) _ e).2,λx y e=>(v6 zm (λt e=>Z.h e) _ e).2,a1,λ⟨g,mg,hrf⟩ H5 s5=>?_,λt b7 cs H5 s5 ht c4 hl=>?_⟩
  ·obtain⟨c,mc,rfl⟩:=wx.mp mb
   have:=Z.w c mc
   exact⟨(Z.b mc).2,this.1,Int.le_trans this.2 ⇑1⟩
  ·dsimp only[zM]
   refine⟨00,rL,00,xp ?_⟩
   refine⟨zL0,λtp S=>?_⟩
   refine k _ _ (S2.trans (s4.trans (s5.trans (zk.upd S)))) (.ref ⟨m,O,.inr ⟨g,mg,λss hd=>?_⟩⟩ zi)
   obtain⟨f1,f2⟩:=hrf
   have e1:(sgB (bs.map (zS m)) g).map zB.wt=xJ ((bs.map (zS m)).map zB.wt) g:=(qF zB.wt _ g).symm
   rw[e1]at f1 f2
   rcases hd with⟨z,a,b,s0,s1,ew,_⟩ | ⟨_,z,_⟩
   ·unfold JI at f1
    rw[Wy.mp z,ew]at f1
    simp at f1
   ·rw[z]at f2;cases f2
  ·dsimp only[zM]
   refine⟨00,rL,00,xm (Xq ?_)⟩
   refine⟨02,zL3,λtp S=>?_⟩
   have s6:=zk.upd (o:=.tup [.ref mm,.ref t,.ref ps]) S
   have U:=s4.trans (s5.trans s6)
   have hb:zbB (bs.map (zS m)) (zO m lo) (zO m hi) (grM bs lo hi m) cs:=zgS hl (zeO _ _ _) λg mg=>⟨(a1 g mg).1,(a1 g mg).2.1⟩
   exact k _ _ (S2.trans U) (.told ⟨O,c6,hb⟩ zi (U _ _ b3) ⟨⟨b7,s6 _ _ ht,c4.same s6⟩,w1,w2,U _ _ I,F.tups (.of U),G.tups (.of U)⟩)
end
def zeI (x:Rat):PyData.eqv (rD x) (rD x)=true:=(Lay.rat x).self
def qX (gs:List Grp):Ad:=(gs.filter λg=>!decide (V.str g.2.2=V.str "")).map λg=>g.2.2
def zdi {H:Hp}:∀(l:Ad),Qp H (l.map V.str) (l.map PyData.str)
 |[]=>.nil
 |x::l=>.cons (.str x) (zdi l)
def zh8 {j:List Grp}{i:Nat}{g:Grp}(e:j[i]?=some g):qX (j.take (i+1))=qX (j.take i)++(if(!decide (V.str g.2.2=V.str ""))=true then [g.2.2]else []):=by
 unfold qX
 rw[yu,e,yG,yK]
 congr 1
 by_cases c:(!decide (V.str g.2.2=V.str ""))=true
 ·rw[if_pos c]
  show ([g].filter _).map _=_
  rw[uG (p:=λg:Grp=>!decide (V.str g.2.2=V.str "")) c];rfl
 ·rw[if_neg c]
  show ([g].filter _).map _=_
  rw[List.filter_cons_of_neg (p:=λg:Grp=>!decide (V.str g.2.2=V.str "")) c];rfl
def zms {j:List Grp}(h:qX j=[]):∀g∈j,g.2.2 = "":=λg mg=>by
 unfold qX at h
 rw[List.map_eq_nil_iff,List.filter_eq_nil_iff]at h
 have:=h g mg
 simp only[Bool.not_eq_true',decide_eq_false_iff_not,Classical.not_not]at this
 injection this
def zeY (lo hi:Wl) (k:Rat):PyData.canLay0 (.str (xT lo hi k))=true:=by
 unfold xT
 split
 ·decide +kernel
 ·split <;> decide +kernel
def zkK {bs:Bk}{lo hi:Wl}{m:Rat}:Lay 1 (.list ((qX (grM bs lo hi m)).map PyData.str)):=Lay.lst λd md=>by
 obtain⟨x,j,rfl⟩:=wx.mp md
 unfold qX at j
 obtain⟨g,mg,rfl⟩:=wx.mp j
 obtain⟨_,_,F,_⟩:=qS (show g∈grL _ _ _ from(Ys.mp mg).1)
 rw[F];exact Lay.str (zeY _ _ _)
def zld {σ:St}(h:σ.length=3):∃a b c,σ=[a,b,c]:=by
 match σ,h with
 |[a,b,c],_=>exact⟨a,b,c,rfl⟩
section
variable {P:Program}{w:World}{K:Fg}{mg:Aa}{base:Heap}{C CS CT Tb:Addr}
theorem zgz {σ:St}{Y:Hp}{Q:VK}{Gl:Addr}{I:Ba}{S:List Grp}(hσ:σ[3]?=some (some (.ref Gl))) (G:Y Gl=some (.lst I)) (W:vD Y I S) (a3:S.length<=8)
  (k:∀D H',zk Y H'->H' D=some (.lst ((qX S).map V.str))->Q (.ref D) H') :
  Ql 3 (zcx K (xB 3)) (Xt K 3 (xL (zM 0) (xL (zM 1) (xL (zM 2) Qa)))) (zbq (tOp rNe (xB 2) (tC (V.str "")))) (xB 2) σ Y Q:=by
 have hl:=W.1
 refine⟨_,hσ,Gl,rL,⟨_,SqL.of G⟩,λDc U=>?_⟩
 refine X0 (J:=Itl K Gl) (N:=I.length) (n:=3) (g:=Xt K 3 (xL (zM 0) (xL (zM 1) (xL (zM 2) Qa)))) (tt:=zbq (tOp rNe (xB 2) (tC (V.str "")))) (te:=xB 2) (Q:=Q) (λi O ys=>zk Y O/\ys=(qX (S.take i)).map V.str) ⟨zk.upd U,rL⟩ (λi O ys hi ⟨F,_⟩=>?_) (λO ys ⟨F,_⟩=>?_) ?_ ?_
 ·exact⟨I,I[i],.of (F _ _ G),wj hi⟩
 ·exact⟨I,.of (F _ _ G),wq _⟩
 ·rintro i x zs O H5 ys Nx a1 hi a2 ⟨rfl,f1⟩ ⟨F,rfl⟩ j
  obtain⟨z1,z2,z3,rfl⟩:=zld a2
  have hx:=f1 I (.of (F _ _ G))
  obtain⟨g,eg,a,rfl,ha⟩:=W.2 i x hx
  have ey:(qX (S.take i)).length<=8:=by
   unfold qX;rw[wk]
   refine wY (uu _ _) ?_
   rw[wU];lia
  refine⟨a,00,.of (F _ _ ha),rL,021,021,022,?_⟩
  refine⟨00,rL,00,?_⟩
  have sn:=zh8 eg
  by_cases c:(!decide (V.str g.2.2=V.str ""))=true
  ·rw[if_pos c]at sn
   nofun
   rw[if_pos c]
   refine⟨00,j,xn (by rw[wk];lia),a1 _ _ ⟨zal U F (zk.refl _),by rw[sn,yK];rfl⟩⟩
  ·rw[if_neg c]at sn
   nofun
   rw[if_neg c]
   exact⟨j,a1 _ _ ⟨F,by rw[sn,yz]⟩⟩
 ·rintro O ys ⟨F,rfl⟩ j
  rw[wH ∅]at j
  exact k Dc O F j
theorem ziY {r:R2}{tb:TE}{g:TG}{u:TS}{D:vq}{σ:St}{Y:Hp}{Gl:Addr}{I:Ba}{S:List Grp}(hσ:σ[3]?=some (some (.ref Gl))) (G:Y Gl=some (.lst I)) (W:vD Y I S) (a3:S.length<=8)
  (k:∀D' H',zk Y H'->H' D'=some (.lst ((qX S).map V.str))->tb σ H' λy H2=>r (.ref D') y H2 λx H4=>g x σ H4 (u D)) :
  Jo (zca (tOp r (Ql 3 (zcx K (xB 3)) (Xt K 3 (xL (zM 0) (xL (zM 1) (xL (zM 2) Qa)))) (zbq (tOp rNe (xB 2) (tC (V.str "")))) (xB 2)) tb) g) u D σ Y :=
 zgz (Q:=λx H1=>tb σ H1 λy H2=>r x y H2 λx H4=>g x σ H4 (u D)) hσ G W a3 k
inductive zkl (vs:Ba)(H:Hp)(Q:VK)(_e3:XK):Prop
 |mk:∀r wa pf mm mq r' wa' bs lo hi m ds,(vs=[.ref r,.ref pf,.ref mq])->(RwH H r wa bs lo hi)->(RwZ bs lo hi)->(CoR bs lo hi m ds)->(H pf=some (.tup [.ref mm,.ref r',.ref wa']))->(zC H mq m)->(RwH H r' wa' ds (zO m lo) (zO m hi))->(∀H',zk H H'->Q (.bl true) H')->zkl vs H Q _e3
theorem zfH:zF ["row","found","moment","groups","inside"] ["row","found","moment"] (zr XH):=scq
theorem zlx (D:Df K mg "_law_kept" XH ["row","found","moment"] []) (c5:⇑3 "walls_good" 5 ["thing"] [] K3.spWg) (d0:⇑3 "is_row" 6 ["walls","thing"] [] K3.spIs) (d3:⇑3 "_law_on" 3 ["things","t"] [] zhV) (c7:⇑3 "_law_groups" 2 ["row","walls"] [] zhU)
  (a7:⇑3 "push_of" 5 ["row"] [] (Ja zB.sp)) (b2:⇑3 "energy_of" 5 ["row"] [] (Ja λb=>b.sp*b.sp)):⇑3 "_law_kept" 7 ["row","found","moment"] [] zkl:=by
 rcases r:D.calBq (k:=6) zfH with⟨r,wa,pf,mm,mq,r',a3,bs,lo,hi,m,ds,rfl,hR,Z,S,G,hm,d4,k⟩
 have hu:=hr.units
 have b9:xf 2 _:=hr.md
 have c4:xf 3 _:=hr.md
 have O:xf 5 _:=hr.md
 obtain⟨zm,j,zl,zh⟩:=S.sz Z
 rcases q:zb3 Z.o Z.pw Z.n1 S with⟨b0,cs,c0,e0,d5,b7,a6⟩
 rcases q:hR with⟨⟨us,a5,hB⟩,v1,v2,d9,d8,d7⟩
 rcases q:d4 with⟨⟨a1,W,a9⟩,w1,w2,I,a4,a2⟩
 have dl:ds.length=bs.length:=by have:=congrArg List.length S.be.pw;simpa using this
 have b1:K3.WSz (zO m lo):=λx y e=>⟨(zl _ e).1.md,(zl _ e).2.md⟩
 have b4:K3.WSz (zO m hi):=λx y e=>⟨(zh _ e).1.md,(zh _ e).2.md⟩
 refine⟨_,(zE (Bx.mk (zZ (vQ (qE (xv (zH c5 O %[pxt (pv 1)|0]) λ_=>rL)) (vG (qE (xv (zH d0 hr %[pxt (pv 1),pxt (pv 1)|0]) λ_=>rL)))).pt (zj (zG ZL)) zQ))
  (zE (Bx.mk (psl (i:=3) zfH.nd (zH c7 b9 %[(zH d3 c4 %[0,2|0]),pxt (pv 1)|0])))
  (zE (Bx.mk (psl (i:=4) zfH.nd (xW (vh hu) (vn (NB:=["first","last","where"]) rfl ⇑0 ⇑0 rfl ⇑0 (xM (pv 3)) (by intro _ _ _;refine⟨?_,?_,?_⟩;(exact(vN (K:=K) (n:=3) rfl rfl (zP (pgl (i:=0) (show List.Nodup (["first","last","where"]:Ad) by decide +kernel)) (zP (pgl (i:=1) (show List.Nodup (["first","last","where"]:Ad) by decide +kernel)) (zP (pgl (i:=2) (show List.Nodup (["first","last","where"]:Ad) by decide +kernel)) xw)))));(exact(Vn (zI zcP (pv 2) qV (zJ _))));(exact(pv 2)))) (xF zf) (zJ _))))
  (Bx.mk (zj (zG (za8 (zfk (pv 4)) (qU (qT (xW (vh hu) (zH a7 O %[pxt (pv 1)|0]) (zH a7 O %[0|0]) (zJ _)) (qU (xW (vh hu) (zH b2 O %[pxt (pv 1)|0]) (zH b2 O %[0|0]) (zJ _)))))))))))),?_⟩
 try dsimp only[xi,Cx.nox]
 refine⟨00,pf,032,.of G,rL,a3,w1,w2,021,I,a4,a2,b1,b4,00,?_⟩
 rw[b7]
 refine xm ?_
 refine⟨00,pf,032,.of G,rfl,00,pf,032,.of G,rfl,a3,w1,w2,_,_,r',a1,ds,b0,cs,c0,rfl,I,a4,a2,b1,b4,W,a9,e0,d5,λd md=>⟨(j d md).1.md,(j d md).2.1.md⟩,by rw[dl];exact Z.n8,λd md=>(j d md).2.2,λH1 s1=>?_⟩
 rw[a6]
 refine⟨00,xm (Xq ?_)⟩
 nofun
 refine⟨01,r,mq,us,_,m,rfl,s1 _ _ a5,Jr (hB.same s1),by rw[wk];exact Z.n8,λn mn=>?_,s1 _ _ hm,zm.md,λpt c3 H2 s2 d2 hO=>?_⟩
 ·obtain⟨b,mb,rfl⟩:=wx.mp mn
  exact⟨by simp,λt e=>by cases e;exact Z.b mb⟩
 have c9:=Qx hO
 have S2:=s1.trans s2
 have c8:CZ (bs.map (zS m)) (zO m lo) (zO m hi):=by
  refine⟨λb mb=>?_,λx y e=>⟨(zl _ e).1.md,(zl _ e).2⟩,λx y e=>⟨(zh _ e).1.md,(zh _ e).2⟩⟩
  obtain⟨c,mc,rfl⟩:=wx.mp mb
  exact⟨((Z.b mc).1.add ((Z.b mc).2.mul zm)).md,(Z.b mc).2⟩
 refine⟨00,pf,032,.of (S2 _ _ G),rfl,pt,a3,c3,_,w1,w2,021,d2,c9,by rw[wk];exact Z.n8,S2 _ _ I,a4.tups (.of S2),a2.tups (.of S2),c8,λGl gv H3 s3 _ d6 c1=>?_⟩
 have S3:=S2.trans s3
 dsimp only[zM]
 have Y:=S3 _ _ G
 have V:=S3 _ _ a5
 have F:=S3 _ _ W
 have a8:=hB.same S3
 have U:=a9.same S3
 have b5:Okb ds:=⟨by rw[dl];exact Z.n8,λd md=>⟨(j d md).1.md,(j d md).2.1⟩,λd md=>(j d md).2.2⟩
 have b3:Okb bs:=⟨Z.n8,λd md=>⟨(Z.b md).1.md,(Z.b md).2.md⟩,λd md=>Z.w d md⟩
 have c2:(grL (bs.map (zS m)) (zO m lo) (zO m hi)).length<=8:=by
  have b8:∀n,(rlG ((bs.map (zS m)).map zB.pl) (fL (bs.map (zS m)) (zO m lo) (zO m hi)) n).length<=n:=λn=>by
   induction n with
   |zero=>exact wq _
   |succ n ih =>
    have e1:rlG ((bs.map (zS m)).map zB.pl) (fL (bs.map (zS m)) (zO m lo) (zO m hi)) (n+1)=if brk ((bs.map (zS m)).map zB.pl) n=true then rlG _ (fL (bs.map (zS m)) (zO m lo) (zO m hi)) n++(fL (bs.map (zS m)) (zO m lo) (zO m hi) (stG ((bs.map (zS m)).map zB.pl) n) n).toList else rlG _ (fL (bs.map (zS m)) (zO m lo) (zO m hi)) n:=rfl
    rw[e1]
    split
    ·rw[wC]
     have:∀o:Option Grp,o.toList.length<=1:=λo=>by cases o <;> simp
     have:=this (fL (bs.map (zS m)) (zO m lo) (zO m hi) (stG ((bs.map (zS m)).map zB.pl) n) n)
     lia
    ·lia
  unfold grL
  exact wY (b8 _) (by rw[wk];exact Z.n8)
 refine ziY rL d6 c1 c2 λDc H4 s4 d1=>?_
 refine⟨zL0,λl2 c6=>?_⟩
 have s5:=zk.upd (o:=.lst []) c6
 have L:=zkK (bs:=bs) (lo:=lo) (hi:=hi) (m:=m)
 refine⟨.list ((qX (grM bs lo hi m)).map PyData.str),.list [],.lst (s5 _ _ d1) (zdi _),.lst zi .nil,L.shaped ⇑1,rL,?_⟩
 have S5:=s4.trans s5
 have b6:∀H',zk H3 H'->Q (.bl true) H':=λH' s=>k H' (S3.trans s)
 generalize upd H4 l2 (.lst [])=H5 at S5
 dsimp only[zM]
 refine⟨02,?_⟩
 cases hw:qX (grM bs lo hi m)with
 |cons x l=>exact xp (b6 _ S5)
 |nil =>
  refine xm ?_
  obtain⟨f1,f2⟩:=zgx (λc mc=>(Z.w c mc).1) S (zms hw)
  have g1:ws zB.sp ds=ws zB.sp bs:=by rw[zaB,zaB];exact f1.symm
  have g2:ws (λb=>b.sp*b.sp) ds=ws (λb=>b.sp*b.sp) bs:=by rw[zaB,zaB];exact f2.symm
  refine⟨00,pf,032,.of (S5 _ _ Y),rL,r',a1,ds,rL,S5 _ _ F,U.same S5,b5,λp1 H6 s6 h1 _=>?_⟩
  have S6:=S5.trans s6
  refine⟨00,r,us,bs,rL,S6 _ _ V,a8.same S6,b3,λp2 H7 s7 h2 _=>?_⟩
  rw[g1]at h1
  have S7:=S6.trans s7
  refine⟨_,_,Zr (s7 _ _ h1),Zr h2,(Lay.rat _).shaped ⇑1,(Lay.rat _).shaped ⇑1,?_⟩
  rw[zeI]
  refine⟨true,rL,xp ?_⟩
  refine⟨00,pf,032,.of (S7 _ _ Y),rL,r',a1,ds,rL,S7 _ _ F,U.same S7,b5,λp3 H8 s8 h3 _=>?_⟩
  have S8:=S7.trans s8
  refine⟨00,r,us,bs,rL,S8 _ _ V,a8.same S8,b3,λp4 H9 s9 h4 _=>?_⟩
  rw[g2]at h3
  refine⟨_,_,Zr (s9 _ _ h3),Zr h4,(Lay.rat _).shaped ⇑1,(Lay.rat _).shaped ⇑1,?_⟩
  rw[zeI]
  exact b6 _ (S8.trans s9)
end
end KT
namespace L2
open PySem PySem.Spec PyProof.Rows
section
variable {X:Cx}
inductive zfr (K:Fg) (x:V) (y:V) (H:Hp) (Q:VK):Prop
 |mk:∀l b xs zs,(x=.ref l)->(y=.ref b)->(SqL K H l xs)->(SqL K H b zs)->(xs.length+zs.length<=sizeLine)->(∀p,H p=none->Q (.ref p) (upd H p (.lst (xs++zs))))->zfr K x y H Q
def zlT (K:Fg):R2:=λx y H Q=>zfr K x y H Q
theorem zg9:OpR X (binaryOp .Add) (zlT X.K):=by
 intro pz s σ H x y v u Q I rx ry h
 obtain⟨l,b,xs,zs,rfl,rfl,hH,hB,hz,q⟩:=h
 cases rx
 cases ry
 obtain⟨G,r,pl,z⟩:=I.list hH
 obtain⟨j,r2,V,z2⟩:=I.list hB
 have e1:=r.length
 have e2:=r2.length
 obtain⟨⟨cls,dd,data,sl⟩,n,ho,hc,a4,hd⟩:=pl
 obtain⟨⟨a3,a1,Y,W⟩,n2,O,S,a2,U⟩:=V
 simp only at hc hd S U
 subst hc hd S U
 refine concat_meets ⟨_,ho,rfl⟩ ⟨_,O,rfl⟩ noFill_list_add seq_list_add PySem.F.slot_list_add PySem.F.entry_list_add (PySem.F.args_list_add_2 _ _) (list_addW l b G.toArray j.toArray n n2 dd a1 sl W (by simp only[wz];lia)) ⟨ho,O,?_⟩
 have ea:G.toArray++j.toArray=(G++j).toArray:=by simp
 rw[ea]
 exact⟨.ref _,_,I.lnew (t':=s.toks) (r.append r2) (by rw[wC];lia),rfl,q _ I.fresh⟩
end
end L2
namespace KT
open PySem L2 KM KK
open KQ (vL qR vW TxQ xK xP vm stG rlG brk vD Vg xU laQ laP qi)
def zec {j G F:Hp}{p:Addr}(s:zk j G) (I:j p=none) (t:xo p G F):zk j F:=λb o e=>t.keep b o (s b o e) (zN e I)
def zkB {K:Fg}{Tb:Addr}{H G:Hp}{a:Addr}{xs:Ba}(h:SqL K H a xs) (T:va Tb laQ laP H) (st:StT Tb H G):SqL K G a xs:=by
 obtain⟨ps,j,_⟩:=T
 rcases h with(h | ⟨o,h⟩) | h
 ·exact .inl (.inl (st _ _ h λz=>by rw[z,j]at h;cases h))
 ·exact .inl (.inr ⟨o,st _ _ h λz=>by rw[z,j]at h;cases h⟩)
 ·exact .inr h
def StZ (p:Addr) (H:Hp) (Q:VK):Prop:=∀t r wa bs lo hi H',xo p H H'->H' t=some (.tup [.ref r,.ref wa])->RwH H' r wa bs lo hi->RwZ bs lo hi->Q (.ref t) H'
def zfx {bs:Bk}{lo hi:Wl}(G:Qn bs) (B:Box bs lo hi) (h1:1<=bs.length) (j:bs.length<=8):RwZ bs lo hi:=⟨⟨h1,j,ziP G.sz B.z1 B.z2,zjM G B h1,G.wt⟩,G.pw⟩
section
variable {P:Program}{w:World}{K:Fg}{mg:Aa}{base:Heap}{C CS CT Tb:Addr}
inductive zkg (vs:Ba)(H:Hp)(Q:VK)(_e3:XK):Prop
 |mk:∀(p:Addr),(vs=[.ref p])->(vE H p)->(StZ p H Q)->zkg vs H Q _e3
theorem zfC:zF ["pool","way","row"] ["pool"] (zr Xi):=scq
theorem zls (D:Df K mg "_law_drawn" Xi ["pool"] []) (cN:⇑3 "_law_next" 1 ["pool","base"] [] qN) (a4:⇑3 "_law_focused" 4 ["pool","alike"] [] Jm) (a5:⇑3 "_law_double" 4 ["pool"] [] zkd) (a6:⇑3 "_law_row" 4 ["pool","most"] [] zfV) (a7:⇑3 "_law_box" 4 ["pool","row"] [] zj8):⇑3 "_law_drawn" 5 ["pool"] [] zkg:=by
 refine D.calBq (k:=4) zfC (λf cdv A outer s H vs Q E hr h=>?_)
 obtain⟨p,rfl,hP,k⟩:=h
 have V:xf 1 _:=hr.md
 refine⟨_,(zE (Bx.mk (psl (i:=1) zfC.nd (zH cN V %[0,zg|0])))
  (zE (Bx.mk (zZ (zI qh (pv 1) zg (zJ _)) (zj (zG (zH a5 hr %[0|0]))) zQ))
  (zE (Bx.mk (zZ (zI qh (pv 1) zg (zJ _)) (zj (zG (zH a4 hr %[0,xW qh (zH cN V %[0,zg|0]) zg (zJ _)|0]))) zQ))
  (zE (Bx.mk (psl (i:=2) zfC.nd (zH a6 hr %[0,zg|0])))
  (Bx.mk (zj (zG (xa %[2,(zH a7 hr %[0,2|0])|0])))))))),?_⟩
 try dsimp only[xi,Cx.nox]
 refine⟨00,p,00,by decide,by decide,hP,λd G1 a1 b1 t1=>?_⟩
 dsimp only[zM]
 refine⟨00,rL,00,qp (λh=>?_) (λh=>Xq ?_)⟩
 ·refine⟨00,p,rL,t1.pool,?_⟩
  intro t r ws us bs v1 Y U l2 G3 S ht hr O W j G F hz ho h1 hw a3
  exact k t r ws bs U l2 G3 (t1.trans S) ht ⟨⟨us,hr,O⟩,v1,Y,j,G,F⟩ ⟨⟨h1,W,hz,ho,hw⟩,a3⟩
 nofun
 refine⟨00,rL,00,qp (λh=>?_) (λh=>Xq ?_)⟩
 ·refine⟨01,p,00,by decide,by decide,t1.pool,λd2 G2 _ _ t2=>⟨rfl,p,00,t2.pool,?_⟩⟩
  intro t r ws us bs v1 Y U l2 G3 S ht hr O hG h1 W j G F I
  exact k t r ws bs U l2 G3 (t1.trans (t2.trans S)) ht ⟨⟨us,hr,O⟩,v1,Y,j,G,F⟩ (zfx hG I h1 W)
 nofun
 refine⟨00,p,00,by decide,by decide,t1.pool,λr us bs G2 t2 hr O hG h1 W=>?_⟩
 dsimp only[zM]
 refine⟨02,p,r,us,bs,rL,hr,O,hG,h1,t2.pool,λws v1 Y U l2 G3 S j G F I=>⟨⇑5,λtt a8=>?_⟩⟩
 have a2:=zY t2.pool S
 have s:=zk.upd (o:=.tup [.ref r,.ref ws]) a8
 exact k tt r ws bs U l2 _ ((t1.trans (t2.trans S)).same s) zi ⟨⟨us,s _ _ (a2 _ _ hr),(O.mono a2).same s⟩,v1,Y,s _ _ j,G.tups (.of s),F.tups (.of s)⟩ (zfx hG I h1 W)
inductive zbm (Tb:Addr) (K:Fg) (vs:Ba)(H:Hp)(Q:VK)(_e3:XK):Prop
 |mk:∀(a:Addr) (ns:Ak),(vs=[.ref a])->(SqL K H a (ns.map V.int))->(ns.length<=63)->(va Tb laQ laP H)->(∀H',Q (.bl true) H')->zbm Tb K vs H Q _e3
theorem ZF:zF ["script","k","pool","row","walls","moment","due","found"] ["script"] (zr s_law):=scq
theorem zjD {fl:Addr}{b8:FuncData}(D:Fun K "law" "law" s_law fl b8) (T:TxQ K mg) (cC:⇑3 "_law_cell" 1 ["script","k"] [] (zas K)) (cD:⇑3 "_law_left" 1 ["cell"] [] zfQ) (e2:⇑3 "_law_drawn" 5 ["pool"] [] zkg) (e3:⇑3 "_law_soonest" 4 ["row","walls"] [] zkv)
  (d7:⇑3 "_law_due" 5 ["row","walls","moment"] [] zkh) (b6:⇑3 "_law_asked" 7 ["row","walls"] [] (zj2 Tb)) (d4:⇑3 "_law_kept" 7 ["row","found","moment"] [] zkl):vC P w K mg base CX0 8 fl b8 ["script"] (zbm Tb K):=by
 refine D.ok (k:=7) ZF (λvs H Q E h=>by obtain⟨a,us,rfl,_⟩:=h;rfl) (λcdv A outer s H vs Q E hr h=>?_)
 rcases q:h with⟨a,ns,rfl,hS,e7,TH,k⟩
 have b9:xf 1 _:=hr.md
 have c9:xf 4 _:=hr.md
 have c5:xf 5 _:=hr.md
 have a7:=hr
 have hu:=hr.units
 refine⟨_,(zA (qD PassesOwn.never rL (vi rL T.nRange %[(zD xc zg (xk (zdA rL) ⇑2 T.nMin PyProof.Rows.boot_min %[xk xt ⇑2 T.nLen PySem.boot_len %[0|0],zg|0]))|0]) (pgl (i:=1) ZF.nd) (JW (zE (Bx.mk (psl (i:=2) ZF.nd (zH cD b9 %[(zH cC b9 %[zD zg9 (xF %[zg|0]) (pv 0),1|0])|0])))
  (zE (Bx.mk (qf (zH e2 c5 %[2|0]) (qu rfl (zP (pgl (i:=3) ZF.nd) (zP (pgl (i:=4) ZF.nd) xw)))))
  (zE (Bx.mk (psl (i:=5) ZF.nd (zH e3 c9 %[3,4|0])))
  (zE (Bx.mk (psl (i:=6) ZF.nd zV))
  (zE (Bx.mk (zZ (zI xQ (pv 5) zV (zJ _)) (zj (psl (i:=6) ZF.nd (zH d7 c5 %[3,4,5|0]))) zQ))
  (zE (Bx.mk (psl (i:=7) ZF.nd (zH b6 a7 %[3,4|0])))
  (zE (Bx.mk (zZ (vQ (zI (zab hu) (pv 7) (pv 6) (zJ _)) (vG (zI (zab hu) (zH b6 a7 %[3,4|0]) (pv 6) (zJ _)))).pt (zj (zG ZL)) zQ))
  (Bx.mk (zj (zZ (qk (zI xQ (pv 6) zV (zJ _)) (qk (zI (zab hu) (pv 6) (xa zf) (zJ _)) (x8 (qE (xv (zH d4 a7 %[3,7,5|0]) λ_=>rfl))))).pt (zj (zG ZL)) zQ)))))))))))) (zj (zG ZL))),?_⟩
 try dsimp only[xi,Cx.nox]
 refine⟨00,a,00,.inl hS,021,022,00,?_⟩
 obtain⟨mx,em⟩:∃m:Int,m=(1:Int)+(if(40:Int)<((ns.map V.int).length:Int)then 40 else((ns.map V.int).length:Int)):=⟨_,rfl⟩
 have m0:0<=mx/\mx<=41:=by
  rw[em];split <;> lia
 rw[<-em]
 refine⟨by lia,by lia,?_⟩
 refine vd (n:=mx.toNat) (lo:=0) (λi σ G=>∃z,z.length=7/\σ=some (.ref a)::z/\StT Tb H G/\va Tb laQ laP G) ⟨_,rL,rL,StT.refl,TH⟩ ?_ ?_
 ·rintro i σ G0 hi c6;rcases q:c6 with⟨z,hz,rfl,S0,TG⟩
  match z,hz with
  |[z1,z2,z3,z4,z5,z6,z7],_ =>
  have d8:SqL K G0 a (ns.map V.int):=zkB hS TH S0
  refine⟨zL1,λp0 a5=>?_⟩
  refine⟨00,p0,a,022,SqL.of zi,(zk.upd a5).seq d8,szl (by simp only[wk,wJ,um];lia),λp1 b4=>?_⟩
  have S1:=(zk.upd (o:=.lst [.int 0]) a5).trans (zk.upd (o:=.lst ([.int 0]++ns.map V.int)) b4)
  have e1:upd (upd G0 p0 (.lst [.int 0])) p1 (.lst ([.int 0]++ns.map V.int)) p1=some (.lst ((0::ns).map V.int)):=zi
  generalize upd (upd G0 p0 (.lst [.int 0])) p1 (.lst ([.int 0]++ns.map V.int))=G1 at S1 e1
  refine⟨00,p1,0::ns,00,SqL.of e1,by lia,λc=>?_⟩
  refine⟨c,rL,λp G2 hp s2 hP=>?_⟩
  have d2:G0 p=none:=by
   cases e:G0 p with
   |none=>rfl
   |some o=>rw[S1 _ _ e]at hp;cases hp
  have S2:=S1.trans s2
  refine⟨00,p,rL,hP,?_⟩
  intro t r wa bs lo hi G3 T3 ht hR Z
  refine⟨t,00,.of ht,rL,021,022,?_⟩
  have S3:=zec S2 d2 T3
  have e6:=TG.same S3
  clear ht S2 T3 S1 s2 hP e1 a5 b4
  dsimp only[zM]
  have e5:=hR
  rcases q:e5 with⟨⟨us,d1,hB⟩,v1,v2,e0,d3,c8⟩
  refine⟨01,r,wa,us,v1,v2,bs,lo,hi,rL,d1,hB,e0,d3,c8,Z.n8,Z.z,λmv G4 s4 Y e8=>?_⟩
  dsimp only[zM]
  have c3:=hR.keeps (.of s4)
  refine xr (λσ' G=>σ'=[Sr a,some (.int (0+(i:Int))),Sr p,Sr r,Sr wa,some mv,some .non,z7]/\G=G4) ?_ (λnx I=>I _ _ ⟨rL,rL⟩)
  rintro _ _ ⟨rfl,e⟩
  rw[e]
  clear e
  refine xr (λσ' G=>∃a2,σ'=[Sr a,some (.int (0+(i:Int))),Sr p,Sr r,Sr wa,some mv,some a2,z7]/\zk G4 G/\Out bs lo hi G a2) ?_ ?_
  rotate_left
  ·intro nx I
   refine⟨00,rL,00,?_⟩
   cases es:qI (tl bs lo hi)with
   |none =>
    rw[es]at Y
    obtain rfl:mv=.non:=Y
    exact xm (I _ _ ⟨.non,rL,zk.refl _,.non es⟩)
   |some m =>
    rw[es]at Y
    obtain⟨am,rfl,b1⟩:=Y
    refine xp ?_
    refine⟨02,r,wa,am,bs,lo,hi,m,rL,c3,Z,b1,es,λv H' s ho=>I _ _ ⟨v,rL,s,ho⟩⟩
  rintro _ G5 ⟨a2,rfl,s5,c1⟩
  have c0:=c3.keeps (.of s5)
  have b5:=(e6.same s4).same s5
  refine⟨01,r,wa,bs,lo,hi,rL,c0,Z.toRwS,b5,λa9 G6 b7 b0 F=>?_⟩
  have a6:=zav b5 b7
  have j:=c1.keeps a6
  have c4:=c0.keeps a6
  have a4:=Y.same s5
  dsimp only[zM]
  obtain⟨d,d5,d0,L⟩:=F.rd j
  refine xr (λσ' G=>σ'=[Sr a,some (.int (0+(i:Int))),Sr p,Sr r,Sr wa,some mv,some a2,some a9]/\StT Tb G6 G/\va Tb laQ laP G) ?_ ?_
  rotate_left
  ·intro nx I
   refine⟨01,d,d,d5,d0,L.shaped ⇑1,L.shaped ⇑1,00,?_⟩
   rw[L.self]
   refine xm ?_
   refine⟨01,r,wa,bs,lo,hi,rL,c4,Z.toRwS,b0,λd9 G7 S W a1=>?_⟩
   obtain⟨d',d6,c7,L'⟩:=a1.rd (j.keeps (zav b0 S))
   refine⟨00,d',d',d6,c7,L'.shaped ⇑1,L'.shaped ⇑1,00,?_⟩
   rw[L'.self]
   exact xm (I _ _ ⟨rL,S,W⟩)
  rintro _ G7 ⟨rfl,S,W⟩
  have a3:=zav b0 S
  have b3:∀G',StT Tb G7 G'->StT Tb H G':=λG' st=>S0.trans ((StT.of S3).trans ((StT.of s4).trans ((StT.of s5).trans (b7.trans (S.trans st)))))
  have a8:=j.keeps a3
  have U:=F.keeps a3
  have e4:=c4.keeps a3
  cases a8 with
  |non e=>exact⟨00,rfl,00,xm ⟨00,rfl,b3 _ StT.refl,W⟩⟩
  |ref hrf hp =>
   refine⟨00,rL,00,xp ?_⟩
   refine⟨00,zL0,λpe b2=>?_⟩
   have O:=zk.upd (o:=.tup []) b2
   refine⟨.tuple [],.tuple [],.tup (O _ _ hp) .nil,.tup zi .nil,rL,rL,00,?_⟩
   rw[show PyData.eqv (.tuple []) (.tuple [])=true from rfl]
   exact xm (xm ⟨_,rL,rL,b3 _ (.of O),W.same O⟩)
  |told hco hp hm hRd =>
   rename_i m ds pd md rd wd
   refine⟨00,rL,00,xp ?_⟩
   refine⟨00,zL0,λpe b2=>?_⟩
   have O:=zk.upd (o:=.tup []) b2
   have L2:=zcB m ds (zO m lo) (zO m hi)
   refine⟨_,.tuple [],zbG (O _ _ hp) (O _ _ hm) (hRd.keeps (.of O)),.tup zi .nil,L2.shaped ⇑1,rL,00,?_⟩
   rw[show PyData.eqv (zi0 m ds (zO m lo) (zO m hi)) (.tuple [])=false from rfl]
   refine xp ?_
   cases U with
   |non e=>have:=hco.so;rw[e]at this;cases this
   |ref hrf _=>exact absurd hrf hco.fit
   |told kco kp km kR =>
    obtain⟨rfl,rfl⟩:=hco.uniq kco
    rename_i pf mf rf wf
    rw[hco.so]at a4
    obtain⟨am,rfl,b1⟩:=a4
    have c2:zC G7 am m:=a3 _ _ (a6 _ _ b1)
    refine⟨02,r,wa,pf,mf,am,rf,wf,bs,lo,hi,m,ds,rL,e4.keeps (.of O),Z,hco,O _ _ kp,O _ _ c2,kR.keeps (.of O),λG8 s9=>?_⟩
    exact⟨00,xm ⟨00,rL,b3 _ (.of (O.trans s9)),W.same (O.trans s9)⟩⟩
 ·rintro σ G ⟨z,hz,rfl,_⟩
  exact k G
end
open PySem.W
def xKB (K:Frag) (C:Addr):Bool:=findIn K (.ref C) "__getattribute__" == some (some (.builtin "BaseException.__getattribute__"))&&findIn K (.ref C) "__getattr__" == some none&&subIn K (.ref C) (.type "BaseException") == some true&&mroIn K C (.type "object") == some true&&hasDictIn K C &&
 findIn K (.ref C) "__class__" == some (some (.builtin "object.__class__"))&&specialIn K (.builtin "object.__class__") "__get__" == some (some (.builtin "getset_descriptor.__get__"))&&takesIn K (.builtin "object.__class__") == some true
def ziS {K:Frag}{C:Addr}(h:xKB K C=true):ExcK K C:=by
 simp only[xKB,uf,beq_iff_eq]at h
 obtain⟨⟨⟨⟨⟨⟨⟨h1,h2⟩,G⟩,S⟩,F⟩,I⟩,j⟩,O⟩:=h
 exact⟨h1,h2,G,S,F,I,j,O⟩
def zbW {K:Frag}{h:Heap}{N:Addr}{m:Aa}{x:Str}{v:Value}(X:K.In h) (G:h.Ns N m) (e:nsIn K N x=some (some v)):m x=some v:=by
 obtain⟨U,O,S,I,F,_,j⟩:=G
 unfold nsIn at e
 split at e
 case h_2=>cases e
 case h_1 c d es' n' sl q =>
  have z:=X _ _ q
  rw[I]at z
  cases z
  cases F
  split at e
  case h_1 en he =>
   cases e
   rw[<-j]
   unfold nsFind findBy
   rw[<-Array.find?_toList,he];rfl
  case h_2=>split at e <;> cases e
def zdq (K:Frag) (C f:Addr):Bool:=match K.lookup C with
 |some ⟨.type "type",_,.cls cd,sl⟩=>(match cd.mro,sl.toList with
  |.ref C'::bm,[_,_,_,_,some (.builtin n),_]=>C' == C&&n == "ValueError.__new__"&&!cd.hasDel&&tailIn K zbt bm&&nsOkIn K cd.ns&&nsIn K cd.ns "__init__" == some (some (.ref f))&&cd.hasDict&&Vb (.ref C'::bm)
  |_,_=>false)
 |_=>false
def zgj {K:Frag}{h:Heap}{C f:Addr}(X:K.In h) (q:zdq K C f=true) (hf:∃oI,h.get? f=some oI/\oI.cls=.type "function") (kp:keepIn K (.ref C)=true):XMk K h C f/\XB h C/\∃cd,clsIn K C=some cd/\cd.hasDict=true/\Vb cd.mro=true:=by
 unfold zdq at q
 split at q
 case h_2=>cases q
 case h_1 dd cd sl ho =>
  split at q
  case h_2=>cases q
  case h_1 C' bm k0 k1 k2 k3 n k5 hm hs =>
   have W:clsIn K C=some cd:=by unfold clsIn;rw[ho]
   obtain⟨V,O,a1,G,I,a3,S,j,U,F,a2⟩:=cd
   obtain⟨a4⟩:=sl
   simp only at hm hs q
   subst hm;subst hs
   simp only[uf,beq_iff_eq,Bool.not_eq_true']at q
   obtain⟨⟨⟨⟨⟨⟨⟨eC,en⟩,ed⟩,Y⟩,eo⟩,ei⟩,eh⟩,ov⟩:=q
   subst eC;subst en;subst ed;subst eh
   refine⟨⟨⟨V,I,G,O,bm,true,S,j,U,F,dd,k0,k1,k2,k3,k5,_,X _ _ ho,.of_isNs (isNs_of_in X eo),?_,tail_of_in X Y⟩,hf,kp⟩,⟨V,I,G,O,bm,true,S,j,U,F,dd,k0,k1,k2,k3,k5,_,X _ _ ho,tail_of_in X Y⟩,_,W,rL,ov⟩
   exact zbW X (.of_isNs (isNs_of_in X eo)) ei
def DD (K:Fg) (x:Str) (st:Stmt):Prop:=∃(f:Addr) (oc:Value) (od an:Option Addr) (sl:Array (Option Value)) (kV dc pm cd ct:Value),
 PySem.W.nsIn K mainGlobals x=some (some (.ref f))/\K.lookup f=some ⟨oc,od,.func (PySem.W.fnOf x x (xC st) (xj st) (zr st) .none kV dc pm an cd ct),sl⟩/\PySem.W.codeIn K cd x=true/\PySem.W.keepIn K (.ref f)=true
section
variable {K:Fg}{x:Str}{st:Stmt}
theorem zkZ {f:Addr}{I:Value}{od O:Option Addr}{F:Array (Option Value)}{kV j G cd ct:Value}(a:PySem.W.nsIn K mainGlobals x=some (some (.ref f))) (l:K.lookup f=some ⟨I,od,.func (PySem.W.fnOf x x (xC st) (xj st) (zr st) .none kV j G O cd ct),F⟩) (c:PySem.W.codeIn K cd x=true) (k:PySem.W.keepIn K (.ref f)=true):DD K x st :=
 ⟨f,I,od,O,F,kV,j,G,cd,ct,a,l,c,k⟩
variable {h:Heap}{mg:Aa}{ps:Ad}
theorem DD.df (d:DD K x st) (X:K.In h) (G:h.Ns mainGlobals mg) (O:∀(kV F I cd ct:Value) (j:Option Addr) (us:Ac),us.length=ps.length->bindArgs (PySem.W.fnOf x x (xC st) (xj st) (zr st) .none kV F I j cd ct) ⟨us,[]⟩=pure (ps.zip us)):Df K mg x st ps []:=by
 obtain⟨f,U,od,j,S,kV,F,I,cd,ct,a,l,c,k⟩:=d
 exact zk0 l c k (yZ X G a) (O kV F I cd ct j)
theorem lsc {n:Nat}{us:Ac}(e:us.length=n+1):∃a t,us=a::t/\t.length=n:=by
 cases us with
 |nil=>cases e
 |cons a t=>exact⟨a,t,rfl,Nat.succ.inj e⟩
theorem lsn {us:Ac}(e:us.length=0):us=[]:=Wr.mp e
theorem DD.df1 {p:Str}(d:DD K x st) (X:K.In h) (G:h.Ns mainGlobals mg) (S:∀(kV F I cd ct:Value) (j:Option Addr) a,bindArgs (PySem.W.fnOf x x (xC st) (xj st) (zr st) .none kV F I j cd ct) ⟨[a],[]⟩=pure ([p].zip [a]):=by intros;rfl):Df K mg x st [p] [] :=
 d.df X G λkV F I cd ct j us O=>by
  obtain⟨a,us,rfl,h1⟩:=lsc O
  cases lsn h1
  exact S kV F I cd ct j a
theorem DD.df2 {p q:Str}(d:DD K x st) (X:K.In h) (G:h.Ns mainGlobals mg) (S:∀(kV F I cd ct:Value) (j:Option Addr) a b,bindArgs (PySem.W.fnOf x x (xC st) (xj st) (zr st) .none kV F I j cd ct) ⟨[a,b],[]⟩=pure ([p,q].zip [a,b]):=by intros;rfl):Df K mg x st [p,q] [] :=
 d.df X G λkV F I cd ct j us O=>by
  obtain⟨a,us,rfl,h1⟩:=lsc O
  obtain⟨b,us,rfl,h2⟩:=lsc h1
  cases lsn h2
  exact S kV F I cd ct j a b
theorem DD.df3 {p q r:Str}(d:DD K x st) (X:K.In h) (G:h.Ns mainGlobals mg) (U:∀(kV F I cd ct:Value) (j:Option Addr) a b c,bindArgs (PySem.W.fnOf x x (xC st) (xj st) (zr st) .none kV F I j cd ct) ⟨[a,b,c],[]⟩=pure ([p,q,r].zip [a,b,c]):=by intros;rfl):Df K mg x st [p,q,r] [] :=
 d.df X G λkV F I cd ct j us O=>by
  obtain⟨a,us,rfl,h1⟩:=lsc O
  obtain⟨b,us,rfl,h2⟩:=lsc h1
  obtain⟨c,us,rfl,S⟩:=lsc h2
  cases lsn S
  exact U kV F I cd ct j a b c
theorem DD.df5 {p q r s t:Str}(d:DD K x st) (X:K.In h) (G:h.Ns mainGlobals mg) (Y:∀(kV F I cd ct:Value) (j:Option Addr) a b c e f,bindArgs (PySem.W.fnOf x x (xC st) (xj st) (zr st) .none kV F I j cd ct) ⟨[a,b,c,e,f],[]⟩=pure ([p,q,r,s,t].zip [a,b,c,e,f]):=by intros;rfl):Df K mg x st [p,q,r,s,t] [] :=
 d.df X G λkV F I cd ct j us S=>by
  obtain⟨a,us,rfl,h1⟩:=lsc S
  obtain⟨b,us,rfl,h2⟩:=lsc h1
  obtain⟨c,us,rfl,U⟩:=lsc h2
  obtain⟨e,us,rfl,V⟩:=lsc U
  obtain⟨f,us,rfl,O⟩:=lsc V
  cases lsn O
  exact Y kV F I cd ct j a b c e f
end
end KT
namespace PySem.W.Fast
def tw10015568423555390776:=0
def tw10093385345659621135:=0
def tw10120165403141463283:=0
def tw10236357986999330286:=0
def tw10286123240535975396:=0
def tw10326158202222524654:=0
def tw1045701667629386411:=0
def tw1050198908656719547:=0
def tw10520094776687703430:=0
def tw10582701701178253936:=0
def tw10798040107850481793:=0
def tw10837364336780554104:=0
def tw1093065813138340125:=0
def tw10953516834734686386:=0
def tw10978401597124539479:=0
def tw1099045093480953782:=0
def tw11003946928865363401:=0
def tw11054721865048822712:=0
def tw11154272377786875307:=0
def tw11239862281253208471:=0
def tw11273605580434385330:=0
def tw11355162109510843542:=0
def tw11506456485020958735:=0
def tw11584240748646841846:=0
def tw11601552855884395931:=0
def tw11627177374008495910:=0
def tw1167172441636280919:=0
def tw11677221163738478347:=0
def tw11702243806729159556:=0
def tw11792714952071305452:=0
def tw11943564629157307791:=0
def tw11966816226257294027:=0
def tw12014370366889170810:=0
def tw12110661711854380084:=0
def tw1212373455070204484:=0
def tw12144942262771337508:=0
def tw12165574282120198050:=0
def tw12370614165902412166:=0
def tw12422900235111714266:=0
def tw12431608380484510417:=0
def tw12610553205047070749:=0
def tw12655336616424613614:=0
def tw12695728438351426182:=0
def tw12777007297841630297:=0
def tw12882073798144442017:=0
def tw12970709657176934822:=0
def tw12976677572965466055:=0
def tw13044829715981414430:=0
def tw13046064616868886500:=0
def tw13156917880750096043:=0
def tw13184994504546694337:=0
def tw13206513995591005048:=0
def tw13254779141927939045:=0
def tw13546905429181152965:=0
def tw13583738292417427552:=0
def tw13686037504876700344:=0
def tw13759543500877150908:=0
def tw13783841264920028021:=0
def tw13902080090133519313:=0
def tw14056134335402372693:=0
def tw14063462505809996039:=0
def tw14067768157622727586:=0
def tw14138585044702017938:=0
def tw14191981284415970655:=0
def tw14386792346510815177:=0
def tw14410021748238368100:=0
def tw14540831187798221694:=0
def tw14599644799156281535:=0
def tw1468924730875535677:=0
def tw14798511866216321497:=0
def tw14801326877231188160:=0
def tw14824030089423782699:=0
def tw1484649304068120759:=0
def tw14929832631788913978:=0
def tw14992115881862305659:=0
def tw15017333009152424144:=0
def tw15130685580207116422:=0
def tw15222328628797261002:=0
def tw15392522253876740733:=0
def tw15496106479353056284:=0
def tw15500458429080799941:=0
def tw15542399655995738566:=0
def tw15628646773627816328:=0
def tw15721281578336610107:=0
def tw15825447441066451109:=0
def tw15886074579472458942:=0
def tw16169232345167943564:=0
def tw16246017532566089067:=0
def tw1630733352352948518:=0
def tw16318502078651988961:=0
def tw16322561796325528620:=0
def tw1633478813658332484:=0
def tw16351120980084378190:=0
def tw16354975940425335063:=0
def tw16380594064905777253:=0
def tw16441630531583157726:=0
def tw16519097597239840035:=0
def tw16550933086417890861:=0
def tw16685395805071832523:=0
def tw16693926205344849685:=0
def tw16839459723400065198:=0
def tw1684204224746676537:=0
def tw16842969893448825216:=0
def tw16981765176194310982:=0
def tw16985627150497655866:=0
def tw17008415016108610867:=0
def tw17016627555484781139:=0
def tw17031731204065936450:=0
def tw17274260417761432677:=0
def tw17498778915848419522:=0
def tw17567681738642398548:=0
def tw17572681097154578351:=0
def tw17610671013332519240:=0
def tw17627136125051028807:=0
def tw1773217478222775060:=0
def tw17740456553949017998:=0
def tw17859002393269553499:=0
def tw17893812722339657927:=0
def tw17998016166736634944:=0
def tw18037824249312526272:=0
def tw18043578931781488711:=0
def tw18068058700029798464:=0
def tw18069790808019333899:=0
def tw18123137335131222406:=0
def tw18129837941906212554:=0
def tw18132489795835322117:=0
def tw18165033493326128184:=0
def tw18166839032369145452:=0
def tw18170588107360014610:=0
def tw18226666123215371414:=0
def tw18277359165274140185:=0
def tw18285742684928282452:=0
def tw18369656292624730645:=0
def tw1916126801818617187:=0
def tw1932297416870483859:=0
def tw2099229917351442676:=0
def tw2173449004468511448:=0
def tw237945798484003131:=0
def tw2396291254429286661:=0
def tw2472746783237992254:=0
def tw2492447457609236842:=0
def tw2526508015844333480:=0
def tw2553480955085095579:=0
def tw2648466541907037313:=0
def tw2803410771954220374:=0
def tw2835229685059306497:=0
def tw2852600256670401242:=0
def tw2870726646199322231:=0
def tw2987768455998508388:=0
def tw3038780988238209174:=0
def tw3092760859011695254:=0
def tw3156992457721409998:=0
def tw3193487694972832779:=0
def tw3274226016132006313:=0
def tw3315763364936348838:=0
def tw3332221868464153768:=0
def tw3458975309840790843:=0
def tw3474973061166048511:=0
def tw355696250070605928:=0
def tw3604105485155378561:=0
def tw3896614046206370525:=0
def tw3984559744268170363:=0
def tw4000044396264570270:=0
def tw4126563293012573946:=0
def tw413926093324827484:=0
def tw414556387900460998:=0
def tw4161545922846653729:=0
def tw4258589366531284877:=0
def tw4303600695109174855:=0
def tw4349596565813600160:=0
def tw435537413799028761:=0
def tw4408513845977782354:=0
def tw4428084414961989644:=0
def tw4463821002891602591:=0
def tw4479212927651022645:=0
def tw4538617188161355812:=0
def tw4556024605488849922:=0
def tw4557642953352149072:=0
def tw4592078000543850200:=0
def tw468948569631386453:=0
def tw4714837081049768035:=0
def tw474319159626786180:=0
def tw4818473386449790226:=0
def tw4899123943525598377:=0
def tw5058582168840772349:=0
def tw5074563360379073208:=0
def tw50766461344377548:=0
def tw5140178209133446047:=0
def tw521176301341263023:=0
def tw5235859603407281887:=0
def tw5250408842910756935:=0
def tw5263870713964142917:=0
def tw5329120655599560630:=0
def tw5403298358074520447:=0
def tw5610227693175111314:=0
def tw5632183284900698120:=0
def tw5671406130493358647:=0
def tw5695086277143893855:=0
def tw576487168424174084:=0
def tw602621292896451295:=0
def tw6080663275628976792:=0
def tw6087495253132558302:=0
def tw6101275187398570846:=0
def tw6112888919575006366:=0
def tw6127258066695878221:=0
def tw6165455180875028882:=0
def tw6223356915694512516:=0
def tw6262947111305111798:=0
def tw6300049410215447745:=0
def tw6372430484221289831:=0
def tw6382715284647883958:=0
def tw6432830926334753865:=0
def tw6455601580566587109:=0
def tw6530702660032436081:=0
def tw6658812592823625349:=0
def tw6773189347027803001:=0
def tw6836629656291385677:=0
def tw688565896688287940:=0
def tw6909983437153912727:=0
def tw6976337988683223274:=0
def tw698410935455082923:=0
def tw7106180787311942471:=0
def tw7177244157810124672:=0
def tw7237017573282754531:=0
def tw7241390583657635563:=0
def tw7365916810262083673:=0
def tw7372280542017550169:=0
def tw7395926532603838038:=0
def tw7396934555631202032:=0
def tw7423805083593547922:=0
def tw7435064089526448850:=0
def tw743584204798210940:=0
def tw7483927354089636456:=0
def tw7573458717312479102:=0
def tw7813380023147508126:=0
def tw7840691430307595427:=0
def tw7873495246062829235:=0
def tw7906490478915760231:=0
def tw7927497057097857987:=0
def tw8016435641298362450:=0
def tw8065264615529237182:=0
def tw8176232561081476527:=0
def tw8177660161284553031:=0
def tw8375573357304182605:=0
def tw8376734328705587140:=0
def tw8388570514794223442:=0
def tw8420353273879530672:=0
def tw8669504417346960198:=0
def tw8670244927048716023:=0
def tw8866283055379756081:=0
def tw8946833194915840683:=0
def tw9004937043872425788:=0
def tw900948696042746833:=0
def tw9062948613709519585:=0
def tw9109632649043485030:=0
def tw9187055020558373029:=0
def tw9188484814687724970:=0
def tw9228743928029098374:=0
def tw9248476235523819271:=0
def tw9289804927787284931:=0
def tw9301004419126901454:=0
def tw9464474835275490034:=0
def tw9513814013245843340:=0
def tw9639614539638245869:=0
def tw9679517404571687654:=0
def tw9680669801077309315:=0
def tw9722285984795422979:=0
def tw9759509597031181420:=0
def tw9785169239378492204:=0
def tw981865073858457256:=0
end PySem.W.Fast
namespace KT
open PySem L2 KM KK
def zjm (K:Fg):PySem.W.kitOne K (.type "int") (.type "int")=some true:=by
 unfold PySem.W.kitOne;rw[if_pos (by decide +kernel)]
def zjl (K:Fg):PySem.W.kitOne K (.type "int") (.type "bool")=some false:=by
 with_unfolding_all rfl
def zjn (K:Fg):PySem.W.kitOne K (.type "tuple") (.type "tuple")=some true:=by
 unfold PySem.W.kitOne;rw[if_pos (by decide +kernel)]
def zjk (K:Fg):PySem.W.kitOne K (.type "bool") (.type "bool")=some true:=by
 unfold PySem.W.kitOne;rw[if_pos (by decide +kernel)]
def ziX {l:PySem.W.OpenLaw}{w:World}{K:Fg}{h:Heap}{mg:Aa}{fa cde Tb:Addr}(X:K.In h) (G:h.Ns mainGlobals mg) (hfa:mg "law" = some (.ref fa))
  (a0:DD K "is_whole" XF)
  (a1:DD K "is_tuple" XE)
  (a2:DD K "greatest_divisor" qM)
  (a3:DD K "is_ratio" XD)
  {f4:Addr}{od4 an4:Option Addr}{sl4:Array (Option Value)}{oc4 kV4 dc4 pm4 cd4 ct4:Value}{Td4:Addr}{ocd4:Value}{odd4:Option Addr}{tkd4:Tok}{nd4:Nat}{sld4:Array (Option Value)}
  (a4:PySem.W.nsIn K mainGlobals "ratio" = some (some (.ref f4))) (l4:K.lookup f4=some ⟨oc4,od4,.func (PySem.W.fnOf "ratio" "ratio" (xC ZD) (xj ZD) (zr ZD) (.ref Td4) kV4 dc4 pm4 an4 cd4 ct4),sl4⟩) (c4:PySem.W.codeIn K cd4 "ratio" = true) (k4:PySem.W.keepIn K (.ref f4)=true)
  (ld4:K.lookup Td4=some ⟨ocd4,odd4,.seq #[.int 1 tkd4] nd4,sld4⟩)
  (a5:DD K "plus" zb6)
  (a6:DD K "minus" zaj)
  (a7:DD K "times" zak)
  (a8:DD K "over" zb4)
  (a9:DD K "less" QL)
  (a10:DD K "sum_of" V0)
  (a11:DD K "least_multiple" vj)
  (a12:DD K "common_bottom" vH)
  (a13:DD K "track_of" XR)
  (a14:DD K "moment_of" Xj)
  (a15:DD K "shut_moment" Ze)
  (a16:DD K "soonest" QQ)
  (a17:DD K "spot_at" QR)
  (a18:DD K "side_at" QP)
  (a19:DD K "groups_at" Xc)
  (a20:DD K "wall_of" QS)
  (a21:DD K "came_to_wall" vR)
  (a22:DD K "rebound" QN)
  {f23:Addr}{od23 an23:Option Addr}{sl23:Array (Option Value)}{oc23 kV23 dc23 pm23 ct23:Value}
  (a23:PySem.W.nsIn K mainGlobals "deal" = some (some (.ref f23))) (l23:K.lookup f23=some ⟨oc23,od23,.func (PySem.W.fnOf "deal" "deal" (xC Zs) (xj Zs) (zr Zs) .none kV23 dc23 pm23 an23 (.ref cde) ct23),sl23⟩) (c23:PySem.W.codeIn K (.ref cde) "deal" = true) (k23:PySem.W.keepIn K (.ref f23)=true)
  (a24:DD K "part" zb5)
  (a25:DD K "refine" VZ)
  (a26:DD K "refined" QO)
  (a27:DD K "place_and_speed" qW)
  (a28:DD K "placed" VY)
  (a29:DD K "first_ticks" v9)
  (a30:DD K "behind" VT)
  (a31:DD K "is_wall" QD)
  (a32:DD K "is_wall_pair" vT)
  (a33:DD K "walls_good" ZE)
  (a34:DD K "is_ball_form" vS)
  (a35:DD K "is_weight" Xd)
  (a36:DD K "is_ball" QC)
  (a37:DD K "follows" QB)
  (a38:DD K "is_ordered" Zu)
  (a39:DD K "keeps_side" Zv)
  (a40:DD K "is_between" Zt)
  (a41:DD K "is_row" VU)
  (a42:DD K "push_of" QM)
  (a43:DD K "energy_of" Xb)
  (a44:DD K "_law_cell" XG)
  (a45:DD K "_law_left" XI)
  (a46:DD K "_law_next" XL)
  (a47:DD K "_law_wide" XQ)
  (a48:DD K "_law_low" QI)
  (a49:DD K "_law_add" QE)
  (a50:DD K "_law_off" QJ)
  (a51:DD K "_law_by" VW)
  (a52:DD K "_law_part" XN)
  (a53:DD K "_law_below" Xf)
  (a54:DD K "_law_ratio" vz)
  (a55:DD K "_law_speed" vA)
  (a56:DD K "_law_gap" QH)
  (a57:DD K "_law_weights" Zd)
  (a58:DD K "_law_row" QK)
  (a59:DD K "_law_bound" Xg)
  (a60:DD K "_law_box" QF)
  (a61:DD K "_law_bundle" Zx)
  (a62:DD K "_law_focused" Zb)
  (a63:DD K "_law_double" Zy)
  (a64:DD K "_law_on" VX)
  (a65:DD K "_law_closing" Za)
  (a66:DD K "_law_soonest" Zc)
  (a67:DD K "_law_groups" ZA)
  (a68:DD K "_law_sorted" ZC)
  (a69:DD K "_law_dealt" Xh)
  (a70:DD K "_law_behind" Zw)
  (a71:DD K "_law_drawn" Xi)
  (a72:DD K "_law_asked" Xe)
  (a73:DD K "_law_due" QG)
  (a74:DD K "_law_kept" XH)
  {f75:Addr}{od75 an75:Option Addr}{sl75:Array (Option Value)}{oc75 kV75 dc75 pm75 cd75 ct75:Value}
  (a75:PySem.W.nsIn K mainGlobals "law" = some (some (.ref f75))) (l75:K.lookup f75=some ⟨oc75,od75,.func (PySem.W.fnOf "law" "law" (xC s_law) (xj s_law) (zr s_law) .none kV75 dc75 pm75 an75 cd75 ct75),sl75⟩) (c75:PySem.W.codeIn K cd75 "law" = true) (k75:PySem.W.keepIn K (.ref f75)=true)
  (j0:PySem.W.nsIn K mainGlobals "isinstance" = some none)
  (j1:PySem.W.nsIn K mainGlobals "int" = some none)
  (j2:PySem.W.nsIn K mainGlobals "bool" = some none)
  (j3:PySem.W.nsIn K mainGlobals "abs" = some none)
  (j4:PySem.W.nsIn K mainGlobals "len" = some none)
  (j5:PySem.W.nsIn K mainGlobals "max" = some none)
  (j6:PySem.W.nsIn K mainGlobals "min" = some none)
  (j7:PySem.W.nsIn K mainGlobals "range" = some none)
  (j8:PySem.W.nsIn K mainGlobals "tuple" = some none)
  (j9:PySem.W.nsIn K mainGlobals "sum" = some none)
  (ja:PySem.W.nsIn K mainGlobals "zip" = some none)
  (jb:PySem.W.nsIn K mainGlobals "list" = some none)
  (jc:PySem.W.nsIn K mainGlobals "enumerate" = some none)
  (jd:PySem.W.nsIn K mainGlobals "sorted" = some none)
  (je:PySem.W.nsIn K mainGlobals "all" = some none)
  {jf:Addr}(jg:PySem.W.nsIn K mainGlobals "ClackError" = some (some (.ref jf)))
  {jh:Addr}(ji:PySem.W.nsIn K mainGlobals "Shut" = some (some (.ref jh)))
  {jj:Addr}(jk:PySem.W.nsIn K mainGlobals "Course" = some (some (.ref jj)))
  {jl:Addr}(jm:PySem.W.nsIn K mainGlobals "Together" = some (some (.ref jl)))
  (jn:PySem.W.keepIn K (.ref jh)=true)
  {jo:Addr}{jp jq:Option Addr}{jr:Array (Option Value)}{js jt ju jv jw:Value}(jx:PySem.W.findIn K (.ref jh) "__init__" = some (some (.ref jo)))
  (jy:K.lookup jo=some ⟨.type "function",jp,.func (PySem.W.fnOf "__init__" "Shut.__init__" (xC qP) (xj qP) (zr qP) .none js jt ju jq jv jw),jr⟩) (jz:PySem.W.codeIn K jv "Shut.__init__" = true) (jA:PySem.W.keepIn K (.ref jo)=true)
  (jB:PySem.W.findIn K (.ref jh) "__setattr__" = some (some (.builtin "object.__setattr__")))
  (jC:PySem.W.keepIn K (.ref jj)=true)
  {jD:Addr}{jE jF:Option Addr}{jG:Array (Option Value)}{jH jI jJ jK jL:Value}(jM:PySem.W.findIn K (.ref jj) "__init__" = some (some (.ref jD)))
  (jN:K.lookup jD=some ⟨.type "function",jE,.func (PySem.W.fnOf "__init__" "Course.__init__" (xC qx) (xj qx) (zr qx) .none jH jI jJ jF jK jL),jG⟩) (jO:PySem.W.codeIn K jK "Course.__init__" = true) (jP:PySem.W.keepIn K (.ref jD)=true)
  (jQ:PySem.W.findIn K (.ref jj) "__setattr__" = some (some (.builtin "object.__setattr__")))
  (jR:PySem.W.keepIn K (.ref jl)=true)
  {jS:Addr}{jT jU:Option Addr}{jV:Array (Option Value)}{jW jX jY jZ y0:Value}(y1:PySem.W.findIn K (.ref jl) "__init__" = some (some (.ref jS)))
  (y2:K.lookup jS=some ⟨.type "function",jT,.func (PySem.W.fnOf "__init__" "Together.__init__" (xC x0) (xj x0) (zr x0) .none jW jX jY jU jZ y0),jV⟩) (y3:PySem.W.codeIn K jZ "Together.__init__" = true) (y4:PySem.W.keepIn K (.ref jS)=true)
  (y5:PySem.W.findIn K (.ref jl) "__setattr__" = some (some (.builtin "object.__setattr__")))
  (xm_Shut:zdq K jh jo=true)
  (na_Shut:PySem.W.findIn K (.ref jh) "moment" = some none)
  (xm_Together:zdq K jl jS=true)
  (na_Together:PySem.W.findIn K (.ref jl) "moment" = some none)
  (xkT:xKB K jl=true)
  (hdl:PySem.W.codeHdIn K cde Tb=true)
  (hxS:YD K (.ref jh) [.ref jh,.ref jl]=some true)
  (hxT:YD K (.ref jl) [.ref jh,.ref jl]=some true)
  (xkS:xKB K jh=true)
  (exS:PySem.W.exmOne K (.ref jh) (.ref jh)=some true)
  (mkC:PySem.W.makesIn K jj=true)
  (ifC:PySem.W.isFn K (.ref jD)=true)
  (pgC:PySem.W.plainGet K jj Str.empty=true)
  (hdC:PySem.W.hasDictIn K jj=true)
  (poC:PySem.W.plainOver K jj=true)
  (y6:PySem.W.findIn K (.ref jj) "place_bottom" = some none)
  (y7:PySem.W.findIn K (.ref jj) "speed_bottom" = some none)
  (y8:PySem.W.findIn K (.ref jj) "tick" = some none)
  (y9:PySem.W.findIn K (.ref jj) "weights" = some none)
  (ya:PySem.W.findIn K (.ref jj) "tracks" = some none)
  (yb:PySem.W.findIn K (.ref jj) "low" = some none)
  (yc:PySem.W.findIn K (.ref jj) "high" = some none)
  (ur:PySem.W.readsIn K jf (.type "type")=true) (ug:PySem.W.specialIn K (.ref jf) "__getattribute__" = some (some (.builtin "type.__getattribute__"))) (ui:PySem.W.findCls K (.ref jf) (.type "type") "__init__" = some (.val (.builtin "ValueError.__init__")))
  {yd:Tok}(ye:PySem.W.nsIn K mainGlobals "MOST_BALLS" = some (some (.int 8 yd)))
  {yf:Tok}(yg:PySem.W.nsIn K mainGlobals "MOST_WEIGHT" = some (some (.int 1000 yf))) :
  ∃fd:FuncData,(∀(s:Shared) (v:Value),BindsTo s fd ⟨[v],[]⟩ [("script",v)])/\∀base:Heap,K.In base->base.Ns mainGlobals mg->base.BuiltinsAt mg Tb->vC l.prog w K mg base CX0 8 fa fd ["script"] (zbm Tb K):=by
 have e:=hfa.symm.trans (yZ X G a75)
 cases e
 have d_ratio:Df K mg "ratio" ZD ["top","bottom"] []:=⟨⟨f4,_,_,_,_,_,_,_,_,_,_,[],l4,c4,k4,yZ X G a4,.nil,λs us KX hl=>match us,hl with | [_,_],_=>.of_defaults rfl (KX _ _ ld4) rfl rfl rfl⟩⟩
 have dd_ratio:Df K mg "ratio" ZD ["top","bottom"] [.int 1]:=⟨⟨f4,_,_,_,_,_,_,_,_,_,_,[.int 1 tkd4],l4,c4,k4,yZ X G a4,.cons ⟨_,rfl⟩ .nil,λs us KX hl=>have hl2:us.length=1:=↥hl;match us,hl2 with | [_],_=>.of_defaults rfl (KX _ _ ld4) rfl rfl rfl⟩⟩
 have d_less:Df K mg "less" QL ["one","other"] []:=a9.df2 X G
 have d_deal:DfC K mg "deal" Zs ["course","first","last","wall"] cde Tb:=⟨⟨f23,_,_,_,_,_,_,_,_,_,l23,c23,k23,yZ X G a23,.all λus hl=>match us,hl with | [_,_,_,_],_=>rfl⟩,hdl⟩
 have d_law_ratio:Df K mg "_law_ratio" vz ["pool","size"] []:=a54.df2 X G
 have d_law_speed:Df K mg "_law_speed" vA ["pool"] []:=a55.df1 X G
 have T:TxB K mg:=⟨zjm K,zjl K,wX X G j0,wX X G j1,wX X G j2,wX X G j3,wX X G j4,wX X G j5,wX X G j6,wX X G j7,wX X G j8,wX X G j9⟩
 have F:=J3 (st:=s_law) l75 c75 k75
 refine⟨PySem.W.fnOf "law" "law" (xC s_law) (xj s_law) (zr s_law) .none kV75 dc75 pm75 an75 cd75 ct75,λs v=>.of_eq rL,λbase hKb hGb hBB=>?_⟩
 obtain⟨X11,B11,cd11,hc11,hh11,ho11⟩:=zgj hKb xm_Shut ⟨_,hKb _ _ jy,rfl⟩ jn
 have mC:=yZ X G jg
 have mS:=yZ X G ji
 have mCo:=yZ X G jk
 have U:XUp K jf (.type "type"):=⟨ur,ug,ui⟩
 have ZS:=ziS xkS
 have S11:zel K jh cd11:=⟨hc11,hh11,ho11,ZS.ob,jB⟩
 have FU11:=J3 (st:=qP) jy jz jA
 have F11:=KQ.zgZ (P:=l.prog) (w:=w) FU11 U mC B11 S11 na_Shut
 have BI11:=FU11.binds (ps:=["self","moment"]) λ_ _ _ _ _ _ us hl=>match us,hl with | [_,_],_=>rfl
 obtain⟨X12,B12,cd12,hc12,hh12,ho12⟩:=zgj hKb xm_Together ⟨_,hKb _ _ y2,rfl⟩ jR
 have mT:=yZ X G jm
 have ZT:=ziS xkT
 have S12:zel K jl cd12:=⟨hc12,hh12,ho12,ZT.ob,y5⟩
 have FU12:=J3 (st:=x0) y2 y3 y4
 have F12:=KQ.zg0 (P:=l.prog) (w:=w) FU12 U mC B12 S12 na_Together
 have BI12:=FU12.binds (ps:=["self","moment"]) λ_ _ _ _ _ _ us hl=>match us,hl with | [_,_],_=>rfl
 have FUC:=J3 (st:=qx) jN jO jP
 have BIC:=FUC.binds (ps:=["self","row","walls"]) λ_ _ _ _ _ _ us hl=>match us,hl with | [_,_,_],_=>rfl
 have TC:KQ.TCo K jj:=⟨⟨pgC,hdC,poC,jQ⟩,y6,y7,y8,y9,ya,yb,yc⟩
 have M:Mk K jj jD:=⟨mkC,jM,ifC,jC⟩
 have nE:=wX X G jc
 have TQ:KQ.TxQ K mg:=⟨T,wX X G jb,wX X G ja⟩
 have cW:=zff (P:=l.prog) (w:=w) (base:=base) (a0.df1 X G) T
 have cG:=zjC (P:=l.prog) (w:=w) (base:=base) (a2.df2 X G)
 have cR:=za5 d_ratio T cW cG
 have cM:=KQ.zfc (a6.df2 X G) cR
 have cO:=zg6 (a8.df2 X G) cR
 have cLs:=KQ.zg3 (P:=l.prog) (w:=w) (base:=base) d_less
 have cLcm:=KQ.zjF (a11.df1 X G) cG
 have cB:=KQ.zll (a12.df1 X G) cLcm
 have cTr:=KQ.zlN (P:=l.prog) (w:=w) (base:=base) (a13.df2 X G) TC
 have Fi:=KQ.zlm FUC TQ TC cB cR cTr
 have cMo:=KQ.zlz (a14.df2 X G) TC cR
 have cSh:=KQ.zlJ (a15.df1 X G) cLs cM cO
 have cSo:=KQ.zlM (a16.df1 X G) TQ TC cLs
 have cFT:=KQ.zlu (a29.df2 X G) TC cSo cSh cMo X11 F11 mS BI11
 have cSpo:=KQ.zfd (P:=l.prog) (w:=w) (base:=base) (a17.df2 X G)
 have cSi:=KQ.zlK (a18.df3 X G) TC cSpo
 have cWo:=KQ.zlQ (P:=l.prog) (w:=w) (base:=base) (a20.df2 X G) TC
 have cCw:=KQ.zlo (a21.df2 X G) TQ TC cWo
 have cGr:=KQ.zlw (a19.df2 X G) TQ nE TC cSpo cSi cCw
 have cRf:=KQ.zlH (P:=l.prog) (w:=w) (base:=base) (a26.df2 X G)
 have cRe:=KQ.zlG (a25.df2 X G) TC cRf
 have cPa:=KQ.zlB (a24.df2 X G) TC cG cRe
 have cDe:=KQ.zlq (P:=l.prog) (w:=w) (base:=base) d_deal TC (wX X G jd) hBB
 have cRb:=KQ.zlF (a22.df3 X G) TC TQ (wX X G je) cWo cPa cDe cMo X12 F12 mT BI12
 have cPs:=KQ.zlD (a27.df3 X G) TC cR cSpo
 have cPl:=KQ.zlC (a28.df2 X G) TQ TC cPs
 have cBh:=KQ.zlg (a30.df2 X G) M Fi mCo BIC cFT cMo cGr cRb cPl
 have cBeR:=zjA cBh
 have T3:K3.Tx3 K mg yd yf 0:=⟨wX X G je,wX X G ja,yZ X G ye,yZ X G yg,zjn K,zjk K⟩
 have cTu:=K3.ok_tu (P:=l.prog) (w:=w) (base:=base) (a1.df2 X G) T T3
 have cIr:=K3.ok_ir (a3.df1 X G) T cTu cW cG
 have cLt3:=K3.ok_lt (P:=l.prog) (w:=w) (base:=base) d_less
 have cWa:=K3.ok_wa (a31.df1 X G) cTu cIr
 have cWp:=K3.ok_wp (a32.df1 X G) cTu cWa
 have cWg:=K3.ok_wg (a33.df1 X G) cWp cLt3
 have cBfm:=K3.ok_bf (a34.df1 X G) cTu cIr cW
 have cIw:=K3.ok_iw (a35.df1 X G) T3 cW
 have cBa:=K3.ok_ba (a36.df1 X G) cBfm cIw
 have cFol:=K3.ok_fo (a37.df2 X G) cLt3
 have cKs:=K3.ok_ks (a39.df2 X G) cFol
 have cOd:=K3.ok_od (a38.df1 X G) T3 cFol
 have cBe:=K3.ok_be (a40.df2 X G) cKs
 have cIs:=K3.ok_is (a41.df2 X G) T T3 cWg cBa cOd cBe
 have cRd:=za5 dd_ratio T cW cG
 have cP:=zg7 (a5.df2 X G) cR
 have cTi:=zfe (a7.df2 X G) cR
 have cSu:=KK.zjK (a10.df1 X G) cRd cP
 have cPu:=KK.zg8 (a42.df1 X G) cRd cTi cSu
 have cEn:=KK.zdW (a43.df1 X G) cRd cTi cSu
 have cC:=zgY (P:=l.prog) (w:=w) (base:=base) (a44.df2 X G) T
 have cD:=zjB (P:=l.prog) (w:=w) (base:=base) (a45.df1 X G) T
 have cN:=zg5 (P:=l.prog) (w:=w) (base:=base) (a46.df2 X G)
 have cWi:=zlP (a47.df2 X G) T cN
 have cL:=zjG (P:=l.prog) (w:=w) (base:=base) (a48.df2 X G) T
 have cA:=zg1 (a49.df2 X G) cL
 have cOf:=zg4 (a50.df2 X G) cL
 have cBy:=zjE (a51.df2 X G) cL
 have cPt:=zfb (a52.df2 X G) cL
 have cBl:=zg2 (P:=l.prog) (w:=w) (base:=base) (a53.df2 X G)
 have cRa:=zlE d_law_ratio cN cWi cL
 have cRaB:=zjH d_law_ratio cN cWi cL
 have cSp:=KK.zfd d_law_speed cN cL
 have cSpB:=zjI d_law_speed cN cL
 have cGa:=zlv (a56.df1 X G) cN cL
 have cWe:=zlO (a57.df2 X G) T cN
 have cRo:=zlI (a58.df2 X G) T cN cWe cRa cSp cGa cA cBl
 have cBo:=zlh (a59.df3 X G) cN cSp cGa cA cBy cBl
 have cBx:=zlk (a60.df2 X G) cBo cA
 have cBu:=zli (a61.df5 X G) T ⟨nE⟩ cN cSpB cL cA cOf cBy
 have cFo:=ok_fo (a62.df2 X G) T cN cRa cL cBu
 have cDb:=zlp (a63.df1 X G) cN cRaB cL cA cBu
 have cDr:=KT.zls (a71.df1 X G) cN cFo cDb cRo cBx
 have cCl:=zln (a65.df2 X G) cBl cOf cPt
 have cSn:=zlL (a66.df2 X G) TQ cBl cCl
 have cOn:=zlA (a64.df2 X G) TQ cA cBy
 have cLg:=zly (a67.df2 X G) TQ cBl
 have cSr:=zjJ (a68.df1 X G) TQ cBl
 have cDl:=zlr (a69.df2 X G) TQ cA cOf cBy cPt cSr
 have cBv:=zlj (a70.df3 X G) TQ cDl
 have cDu:=KT.zlt (a73.df3 X G) cOn cLg cBv
 have cAs:=KT.zlf (a72.df2 X G) mS mT (λ_ z=>by rcases z with rfl | rfl;exact hxS;exact hxT) cBeR
 have cKp:=KT.zlx (a74.df3 X G) cWg cIs cOn cLg cPu cEn
 exact KT.zjD F TQ cC cD cDr cSn cDu cAs cKp
def walk {l:PySem.W.OpenLaw}{q:Program}{loose:Ad}{XP:(Aa)->Heap->Prop}{YP:World->Heap->Prop}{d:DefRec}{K:Params->Fg}{cde Tb:Addr}(hn:l.most=some 63) (hdf:d.params.defaults=[])
  (hY:∀(w:World) (h:Heap),YP w h->(K w.params).In h/\h.get? Tb=some (PySem.W.tabObj #[])) (hKT:∀w:World,(K w.params).lookup Tb=none) (hC:∀w:World,PySem.W.codeHdIn (K w.params) cde Tb=true)
  (F:∀(w:World) (mg:Aa) (fa:Addr) (h:Heap),(K w.params).In h->h.Ns mainGlobals mg->mg d.name=some (.ref fa) →
   ∃fd:FuncData,(∀(s:Shared) (u:Value),BindsTo s fd ⟨[u],[]⟩ [("script",u)])/\∀base:Heap,(K w.params).In base->base.Ns mainGlobals mg->base.BuiltinsAt mg Tb->vC l.prog w (K w.params) mg base CX0 8 fa fd ["script"] (zbm Tb (K w.params))) :
  PySem.W.WalkO q loose XP YP l.row.toRowW d [] (λf vs=>PySem.call f vs) :=
 L2.zgg (n:=63) (k:=8) (x:="script") (CX:=λ_=>CX0) (sp:=λw=>zbm Tb (K w.params)) hn (by decide) hdf ⟨rfl,by decide,by decide⟩ hY hKT hC F (λ_ _ a ns hl hT hS=>⟨a,ns,rfl,hS,hl,⟨#[],hT,trivial,.inl rfl⟩,λ_=>rfl⟩) λ_ _ _ _ _ z=>z
end KT
open PySem PySem.W PyProof.Rows
set_option maxRecDepth 100000 in
set_option maxHeartbeats 0 in
theorem PySem.Challenge.cw_clackrow_k11_speeds_behind_holds : PySem.Challenge.rw_clackrow_k11_speeds_behind.Holds := by
 w_on;o_law;k_head;(case hw=>w_witness2)
 k_fill
 refine KT.walk (l:=PySem.Challenge.rw_clackrow_k11_speeds_behind) (cde:=252) (Tb:=250) rL rL (λw h Y=>⟨PySem.W.km_in_of Y,PySem.W.km_tabs_of Y _ (wT ..)⟩) ?hKT ?hC ?F
 case hKT=>intro w;kernel_rfl
 case hC=>intro w;kernel_rfl
 case F =>
  intro w mg fa h KX G hmg
  refine' KT.ziX (cde:=252) (Tb:=250) KX G hmg ..
  all_goals (try (first | (refine' KT.zkZ ?_ ?_ ?_ ?_ <;> try k_is) | k_is | k_exc | kernel_rfl))
