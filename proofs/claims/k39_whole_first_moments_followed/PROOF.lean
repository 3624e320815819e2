import PyProof.Rows.All
import Wide.All
import OpenK.AllK
import Wide.FinOn
import Lean
import PyProof.EqAt
import PyProof.EqKinds
import PyProof.TupleCall
import PyProof.CompFree
import PyProof.Rows.SumAny
import PyProof.ZipIter
import PyProof.ConsumeWalk
import PySem.Challenge.RW_clackrow_k39_whole_first_moments_followe
import KE.KSortTup
import KE.KDictSum
import PyProof.Sound
import KE.KLam
import PyProof.WalkInts
import PyProof.Rows.SeqCalls
import PyProof.Draws
import KE.KDictLaws
import KE.KDictList
import PyProof.Rows.SortShell
import PyProof.Rows.SortWalk
import PyProof.DictTruth
import KE.KDictOf
import PyProof.AttrMissHeap
import PyProof.WalksS
import PyProof.Walks
import PyProof.Seq
import PyProof.ListNew
import PyProof.CollectWalk
import PyProof.Rows.Range3
import KE.KSortAsk
import PyProof.SetScanFacts
import PyProof.SetKind
import PyProof.Rows.SetFrom
import PyProof.LongRange
import KE.KTryMore
set_option hygiene false
local macro_rules|`(tactic|nofun)=>`(tactic|try dsimp only)
local macro_rules|`(↥$x)=>`(by simpa using $x)
local macro_rules|`(∅)=>`(by lia)
local macro_rules|`(⇑$n:num)=>match n.getNat with|0=>`(by decide +kernel)|1=>`(by decide)|2=>`(by rfl)|3=>`(Cal P w K mg base)|4=>`(Cal1 P w K mg base)|_=>`(by show 2<=sizeLine;decide)
local macro_rules|`(%[$xs,*|$_])=>do
 let mut r<-`(zd)
 for x in xs.getElems.reverse do
  let y<-if x.raw.isNatLit?.isSome then `(pv $x) else pure x
  r<-`(za $y $r)
 return r
local macro_rules|`(⟨$xs,*⟩)=>do
 let mut r:Array Lean.Term:=#[]
 let mut c:=false
 for x in xs.getElems do
  let s:=if x.raw.isNatLit?.isSome then x.raw[0].getAtomVal else ""
  if s.length>1&&s.startsWith "0" then
   c:=true
   let n:=s.toNat!
   if s.length==2 then
    for _ in [0:n+1] do r:=r++#[<-`(_),<-`(rfl)]
   else
    for _ in [0:n/10] do r:=r.push (<-`(_))
    for _ in [0:n%10] do r:=r.push (<-`(rfl))
  else r:=r.push x
 if c then `(⟨$r,*⟩) else Lean.Macro.throwUnsupported
local macro_rules|`(tactic|rcases $h:ident:$e with $p)=>if h.getId==`q then `(tactic|(refine hid (λ_ Zz=>?_);rcases $e:term with $p;refine Zz ?_;clear Zz)) else if h.getId==`r then `(tactic|(refine $e (λf cdv A outer s H vs Q E hr h=>?_);rcases q:h with $p)) else Lean.Macro.throwUnsupported
local macro_rules|`(tactic|rcases $h:ident:$e)=>if h.getId==`s then `(tactic|(refine zJ $e ?_ ?_;rotate_left)) else Lean.Macro.throwUnsupported
local macro_rules|`(tactic|exists $x,*)=>if x.getElems.size==1 then `(tactic|(refine ⟨_,$(x.getElems[0]!),?_⟩;try dsimp only[xh,Cx.nox])) else do let y<-`(?_);let z:=x.getElems.push y;`(tactic|refine ⟨$z,*⟩)
set_option Elab.async false
set_option linter.all false
set_option maxRecDepth 100000
set_option maxHeartbeats 8000000
section
open PySem PySem.Spec PyProof.Rows
abbrev Fg:=PySem.W.Frag
def zL0:0<=sizeLine:=by decide
def zL1:1<=sizeLine:=by decide
def zL2:2<=sizeLine:=by decide
def zL3:3<=sizeLine:=by decide
def zL4:4<=sizeLine:=by decide
def zL8:8<=sizeLine:=by decide
def wc:=@List.length_map
def we:=@wpAny_bind
def wf:=@Rat.intCast_mul
def wg:=@Heap.get?_push_of_some
def wj:=@List.mem_map
def wm:=@decide_eq_true
def wn:=@Nat.le_refl
def wo:=@List.getElem?_map
def wq:=@wpAny_pure
def wu:=@List.mem_cons
def wv:=@Rat.intCast_pos
def ww:=@of_decide_eq_true
def wx:=@decide_eq_false
def wy:=@List.map_congr_left
def wB:=@List.length_cons
def wC:=@Rat.mul_le_mul_of_nonneg_right
def wD:=@Int.fdiv_eq_ediv_of_nonneg
def wE:=@Heap.lt_size
def wF:=@List.mem_cons_self
def wG:=@List.map_map
def wH:=@List.getElem?_eq_getElem
def wI:=@Rat.intCast_le_intCast
def wJ:=@Heap.get?_push_size
def wK:=@List.size_toArray
def wL:=@Array.getElem?_eq_getElem
def wN:=@Rat.divInt_eq_div
def wO:=@Array.length_toList
def wP:=@Int.mul_pos
def wQ:=@Rat.intCast_add
def wR:=@Array.getElem?_toList
def wT:=@List.mem_cons_of_mem
def wU:=@List.mem_of_getElem?
def wV:=@List.getElem?_append_right
def wW:=@Nat.ne_of_lt
def wX:=@List.length_append
def wY:=@Rat.num_divInt_den
def wZ:=@Array.getElem?_eq_some_iff
def w4:=@List.getElem?_eq_some_iff
def w5:=@List.mem_singleton
def w8:=@Nat.lt_of_lt_of_le
def ya:=@List.mem_append
def yb:=@Nat.zero_le
def yc:=@Rat.le_of_lt
def yd:=@List.getElem?_append_left
def ye:=@Bool.false_ne_true
def yf:=@Int.mul_ediv_cancel_left
def yg:=@Rat.mul_pos
def yh:=@PySem.W.mg_none_of
def yj:=@List.mem_append_right
def yk:=@List.length_take
def ym:=@Heap.get?_update_other
def yn:=@List.map_cons
def yo:=@List.append_assoc
def yp:=@Rat.intCast_sub
def yq:=@Rat.intCast_neg
def yr:=@List.take_length
def yt:=@Int.ne_of_gt
def yu:=@Int.le_trans
def yv:=@Int.mul_le_mul_of_nonneg_right
def yx:=@List.map_append
def yA:=@Int.lt_or_le
def yB:=@Array.toList_append
def yC:=@List.take_add_one
def yD:=@Int.emod_nonneg
def yE:=@Int.emod_lt_of_pos
def yF:=@Nat.le_trans
def yG:=@Rat.divInt_mul_divInt
def yH:=@List.getElem?_eq_none
def yI:=@PyProof.Rows.boot_abs
def yJ:=@PySem.F.plainAttrs_list
def yK:=@Rat.mul_le_mul_of_nonneg_left
def yL:=@decide_eq_true_eq
def yM:=@Int.le_of_lt
def yN:=@PyProof.Rows.callWith_type1
def yO:=@List.append_nil
def yP:=@Heap.get?_update_self
def yQ:=@List.take_append_drop
def yR:=@Int.mul_lt_mul_of_pos_right
def yS:=@Rat.intCast_inj
def yT:=@Rat.zero_mul
def yU:=@List.length_range
def yV:=@wpAny_holding
def yW:=@Nat.eq_zero_or_pos
def yX:=@Int.mul_comm
def yY:=@Rat.intCast_lt_intCast
def yZ:=@List.mem_filter
def ua:=@PySem.W.kia_one
def uc:=@List.pairwise_iff_getElem
def ue:=@List.mem_of_find?_eq_some
def uf:=@List.length_singleton
def ug:=@List.pairwise_map
def uh:=@Rat.divInt_eq_divInt_iff
def ui:=@PySem.F.slot_list_append
def uj:=@PySem.F.type_list_append
def uo:=@wpAny_mono
def ur:=@Int.mul_nonpos_of_nonneg_of_nonpos
def ut:=@List.filter_append
def uu:=@List.length_eq_zero_iff
def uw:=@Int.gcd_pos_of_ne_zero_left
def ux:=@Rat.mul_lt_mul_of_pos_right
def uy:=@wpAny_Call_Name_kw
def uz:=@Int.gcd_dvd_left
def uA:=@wpAny_call_entry
def uB:=@Array.getElem?_eq_none
def uC:=@wpAny_truthy_bool
def uD:=@Nat.lt_irrefl
def uE:=@List.nodup_cons
def uF:=@List.foldl_cons
def uG:=@Rat.div_mul_cancel
def uH:=@List.countP_cons
def uI:=@Int.fdiv_eq_ediv_of_dvd
def uJ:=@List.getElem?_cons_succ
def uK:=@PyProof.Rows.boot_isinstance
def uL:=@List.ext_getElem?
def uM:=@wpAny_newObj_type
def uN:=@List.find?_cons
def uO:=@Array.perm_iff_toList_perm
def uP:=@Rat.mul_lt_mul_of_pos_left
def uQ:=@Array.toList_inj
def uR:=@List.length_replicate
def uS:=@Int.natAbs_dvd_natAbs
def uT:=@List.length_filter_le
def uU:=@Int.emod_add_mul_ediv
def uV:=@List.countP_mono_left
def uW:=@Rat.intCast_nonneg
def uX:=@Rat.mul_div_cancel
def uY:=@Int.one_mul
def uZ:=@Int.le_refl
def u6:=@Rat.mul_nonneg
def u7:=@Rat.divInt_mul_right
def u8:=@Bool.eq_iff_iff
def u9:=@Int.mul_ne_zero
def Wa:=@Nat.lt_succ_of_lt
def Wc:=@PyProof.Rows.boot_sorted
def Wd:=@List.countP_map
def We:=@wpAny_passesOwn
def Wf:=@wpAny_setState_of
def Wg:=@Int.eq_ofNat_of_zero_le
def Wh:=@PyProof.Rows.boot_tuple
def Wi:=@wpAny_setEntries_of
def Wj:=@List.mem_range
def Wk:=@Int.mul_nonneg
def Wm:=@Int.not_lt
def Wn:=@Array.getElem?_extract
def Wo:=@Bool.false_eq_true
def Wp:=@Rat.div_def
def Wq:=@Nat.sub_self
def Wr:=@List.mem_iff_getElem?
def Ws:=@List.perm_append_comm
def Wu:=@Rat.le_refl
def Wv:=@Int.gcd_dvd_right
def Ww:=@Int.dvd_trans
def Wx:=@PySem.W.mg_of
def Wy:=@Int.ediv_pos_of_pos_of_dvd
def Wz:=@List.mem_append_left
def WB:=@Heap.size_push
def WC:=@List.take_zero
def WD:=@PySem.F.plain_extend_loop
def WE:=@Nat.ne_of_gt
def WF:=@List.getElem?_take_of_lt
def WG:=@Int.mul_nonpos_of_nonpos_of_nonneg
def WH:=@Array.append_assoc
def WJ:=@List.getElem?_replicate
def WK:=@Nat.lt_of_le_of_lt
def WL:=@List.zip_cons_cons
def WM:=@List.nil_append
def WN:=@List.getElem?_drop
def WO:=@Nat.eq_or_lt_of_le
def WP:=@Int.ediv_nonneg
def WQ:=@Int.mul_assoc
def WR:=@List.find?_eq_none
def WS:=@wpAny_newList
def WT:=@PyProof.Rows.boot_list
def WU:=@PySem.F.slot_list_iadd
def WV:=@Rat.one_mul
def WW:=@List.filter_congr
def WX:=@Nat.le_of_eq
def WY:=@PyProof.Rows.callWith_builtin1
def WZ:=@Int.gcd_comm
def W1:=@List.getElem?_toArray
def W2:=@PyProof.Rows.boot_max
def W4:=@Int.mul_ediv_add_emod
def W5:=@List.find?_eq_some_iff_getElem
def W6:=@Nat.lt_succ_self
def W7:=@Bool.and_eq_true
def W8:=@List.mem_reverse
def W9:=@Int.ediv_le_self
def Ya:=@Array.toList_reverse
def Yb:=@Int.gcd_pos_of_ne_zero_right
def Yc:=@List.any_cons
def Yd:=@PySem.F.slot_dict_setdefault
def Ye:=@PySem.F.type_dict_setdefault
def Yf:=@wpAny_attempt
def Yg:=@wpAny_rule
def Yh:=@List.filterMap_cons
def Yi:=@Int.dvd_of_mul_dvd_mul_left
def Yj:=@Rat.num_intCast
def Yk:=@List.getElem_of_mem
def Yl:=@List.filter_map
def Ym:=@wpAny_execs_nil
def Yn:=@wpAny_updateSeq
def Yo:=@PySem.F.excBase_ValueError
def Yp:=@Int.le_of_mul_le_mul_right
def Yq:=@Nat.le_of_lt
def Yr:=@List.mem_filterMap
def Ys:=@PySem.W.callWith_K
def Yt:=@Nat.lt_or_ge
def Yu:=@Int.dvd_refl
def Yv:=@List.getElem?_take
def Yw:=@wpAny_setField_rec
def Yx:=@List.extract_eq_take_drop
def Yy:=@Int.mul_neg_of_neg_of_pos
def Yz:=@Int.eq_of_mul_eq_mul_left
def YA:=@Int.mul_le_mul
def YB:=@wpAny_fieldsOf
def YC:=@Int.gcd_dvd_natAbs_right
def YD:=@Array.toList_push
def YE:=@List.foldl_append
def YF:=@Int.mul_left_comm
def YG:=@List.nodup_append
def YH:=@wpAny_pyIter_list
def YI:=@wpAny_comprehension_free
def YJ:=@Int.mul_one
def YK:=@Nat.le_of_dvd
def YL:=@Bool.false_or
def YM:=@Bool.true_and
def YN:=@Rat.inv_pos
def YO:=@wpAny_standAt
def YQ:=@List.all_eq_true
def YR:=@Option.getD_some
def YS:=@List.length_drop
def YT:=@wpAny_askSetting
def YU:=@List.of_mem_zip
def YV:=@List.map_nil
def YW:=@List.length_nil
def YX:=@Nat.zero_add
def YY:=@List.find?_some
def YZ:=@Nat.le_antisymm
def Y0:=@Int.mul_dvd_mul
def Y1:=@Rat.mul_comm
def Y2:=@Rat.den_intCast
def Y3:=@Rat.add_zero
def Y4:=@Rat.mul_eq_zero
def Y5:=@wpAny_typeOf
def Y6:=@Rat.num_nonneg
def Y7:=@List.nodup_nil
def Y8:=@Int.natAbs_mul
def Y9:=@List.foldl_nil
def Ua:=@wpAny_setField
def Ub:=@wpAny_newTuple
def Uc:=@List.map_id
def Ud:=@Nat.mul_add
def Ue:=@Rat.neg_num
def Uf:=@wpAny_field
def Ug:=@wpAny_of_eq
def Uh:=@wpAny_load
def Ui:=@wpAny_call
end
def rL {α:Sort _}{a:α}:a=a:=rfl
namespace L2
open PySem PySem.Spec PyProof.Rows
abbrev Key:=Sum Int Str
def JC:Key->Value->Bool
 |.inl k,v=>Value.isInt k v
 |.inr x,v=>Value.isStrOf x v
def keyH (w:World):Key->Int
 |.inl k=>hashInt k
 |.inr x=>hashStr w x
def xQ:∀{k:Key}{v:Value},JC k v=true->(∃i t,k=Sum.inl i/\v=Value.int i t)\/(∃x t,k=Sum.inr x/\v=Value.str x t)
 |.inl i,v,h=>by
  obtain⟨t,e⟩:=Value.isInt_shape (k:=i) (v:=v) h
  exact .inl ⟨i,t,rL,e⟩
 |.inr x,v,h=>by
  obtain⟨t,e⟩:=Value.isStrOf_shape (x:=x) (v:=v) h
  exact .inr ⟨x,t,rL,e⟩
def zdA (i:Int) (t:Tok):JC (.inl i) (.int i t)=true:=by simp[JC,Value.isInt]
def zdB (x:Str) (t:Tok):JC (.inr x) (.str x t)=true:=by simp[JC,Value.isStrOf]
def ziO (a b:Int):decide ((Sum.inl a:Key)=Sum.inl b)=(a == b):=by
 by_cases e:a=b
 ·subst e;simp
 ·have h:¬(Sum.inl a:Key)=Sum.inl b:=λq=>e (Sum.inl.inj q)
  rw[wx h]
  exact(beq_eq_false_iff_ne.mpr e).symm
def ziR (a b:Str):decide ((Sum.inr a:Key)=Sum.inr b)=decide (a=b):=by
 by_cases e:a=b
 ·subst e;simp
 ·have h:¬(Sum.inr a:Key)=Sum.inr b:=λq=>e (Sum.inr.inj q)
  rw[wx h,wx e]
def ziP (a:Int) (b:Str):decide ((Sum.inl a:Key)=Sum.inr b)=false:=wx (λq=>nomatch q)
def ziQ (a:Str) (b:Int):decide ((Sum.inr a:Key)=Sum.inl b)=false:=wx (λq=>nomatch q)
def qf (prog:Program) (w:World):PySem.KeyKind prog w Key where
 is:=JC
 hash:=keyH w
 inj:=λv a b ha hb=>by
  rcases xQ ha with⟨i,t,rfl,rfl⟩ | ⟨x,t,rfl,rfl⟩
  ·rcases xQ hb with⟨j,u,rfl,e⟩ | ⟨y,u,rfl,e⟩
   ·injection e with e1 _;rw[e1]
   ·exact nomatch e
  ·rcases xQ hb with⟨j,u,rfl,e⟩ | ⟨y,u,rfl,e⟩
   ·exact nomatch e
   ·injection e with e1 _;rw[e1]
 byValue:=λk v h=>by
  rcases xQ h with⟨i,t,rfl,rfl⟩ | ⟨x,t,rfl,rfl⟩ <;> rfl
 pyHash:=λhv h=>by
  rcases xQ hv with⟨i,t,rfl,rfl⟩ | ⟨x,t,rfl,rfl⟩
  ·exact wpAny_pyHash_int h
  ·exact wpAny_pyHash_str h
 eqBool:=λhu hv h=>by
  rcases xQ hu with⟨i,t,rfl,rfl⟩ | ⟨x,t,rfl,rfl⟩
  ·rcases xQ hv with⟨j,u,rfl,rfl⟩ | ⟨y,u,rfl,rfl⟩
   ·rw[ziO]at h;exact wpAny_eqBool_int h
   ·rw[ziP]at h;exact SeqAt.EqAt.int_str i t y u _ _ _ _ h
  ·rcases xQ hv with⟨j,u,rfl,rfl⟩ | ⟨y,u,rfl,rfl⟩
   ·rw[ziQ]at h;exact SeqAt.EqAt.str_int x t j u _ _ _ _ h
   ·rw[ziR]at h;exact wpAny_eqBool_str h
 «strs»:=λk x t v h=>by
  rcases xQ h with⟨i,u,rfl,e⟩ | ⟨y,u,rfl,e⟩
  ·exact nomatch e
  ·injection e with e1 _
   subst e1
   cases v <;> rfl
def za2 (prog:Program) (w:World) (i:Int) (t:Tok):(qf prog w).is (.inl i) (.int i t)=true:=zdA i t
def za3 (prog:Program) (w:World) (x:Str) (t:Tok):(qf prog w).is (.inr x) (.str x t)=true:=zdB x t
inductive V where
 |non | bl (b:Bool) | int (i:Int) | str (x:Str) | byt (b:Array UInt8) | flt (b:UInt64) | ref (a:Addr) | ty (n:String)
 deriving DecidableEq
def xn:V->Value->Prop
 |.non,u=>u=Value.none
 |.bl b,u=>u=Value.bool b
 |.int i,u=>∃t,u=Value.int i t
 |.str x,u=>∃t,u=Value.str x t
 |.byt b,u=>∃t,u=Value.bytes b t
 |.flt b,u=>∃t,u=Value.float b t
 |.ref a,u=>u=Value.ref a
 |.ty n,u=>u=Value.type n
abbrev xa:List V->List Value->Prop:=Paired xn
def xa.length {xs:List V}{us:List Value}(r:xa xs us):xs.length=us.length:=Paired.length r
def xa.get:∀{xs:List V}{us:List Value}{i:Nat}{x:V},xa xs us->xs[i]?=some x->∃u,us[i]?=some u/\xn x u
 |_,_,_,_,.nil,e=>by simp at e
 |_,_,0,_,.cons r _,e=>by simp at e;subst e;exact⟨00,r⟩
 |_,_,i+1,x,.cons _ t,e=>by
  obtain⟨u,h1,h2⟩:=xa.get (i:=i) (x:=x) t ↥e
  exact⟨u,↥h1,h2⟩
def xa.set {x:V}{u:Value}(r:xn x u):∀{xs:List V}{us:List Value}(i:Nat),xa xs us->xa (xs.set i x) (us.set i u)
 |_,_,_,.nil=>.nil
 |_,_,0,.cons _ t=>.cons r t
 |_,_,i+1,.cons q t=>.cons q (xa.set r i t)
def xa.append:∀{xs ys:List V}{us ws:List Value},xa xs us->xa ys ws->xa (xs++ys) (us++ws)
 |_,_,_,_,.nil,s=>s
 |_,_,_,_,.cons r t,s=>.cons r (xa.append t s)
def xa.take:∀{xs:List V}{us:List Value}(n:Nat),xa xs us->xa (xs.take n) (us.take n)
 |_,_,0,_=>.nil
 |_,_,_+1,.nil=>.nil
 |_,_,n+1,.cons r t=>.cons r (xa.take n t)
def xa.drop:∀{xs:List V}{us:List Value}(n:Nat),xa xs us->xa (xs.drop n) (us.drop n)
 |_,_,0,r=>r
 |_,_,_+1,.nil=>.nil
 |_,_,n+1,.cons _ t=>xa.drop n t
def VF:Option V->Option Value->Prop
 |some v,some u=>xn v u
 |none,none=>True
 |_,_=>False
def KV {κ:Type}:List (κ×V)->List (κ×Value)->Prop:=Paired λ(p:κ×V) (q:κ×Value)=>p.1=q.1/\xn p.2 q.2
def kV:Key->V
 |.inl i=>.int i
 |.inr x=>.str x
inductive HO where
 |lst (xs:List V)
 |tup (xs:List V)
 |dK (kvs:List (Key×V)) | dT (kvs:List (List Key×V))
 |set (S:Int->Bool) (n:Nat)
 |ins (C dx:Addr) (fs:List (Str×V))
 |own (x:Addr)
 |xd (fs:List (Str×V))
 |met (f x:Addr)
 |rng (lo hi:Int)
 |frz (o:Obj) (u:HO)
 |tbl (ps:Array Value)
 |ext (φ:Heap->Prop)
abbrev Hp:=Addr->Option HO
def upd (H:Hp) (a:Addr) (o:HO):Hp:=λb=>if b=a then some o else H b
def zj {H:Hp}{a:Addr}{o:HO}:upd H a o a=some o:=by unfold upd;rw[if_pos rfl]
def zV {H:Hp}{a b:Addr}{o:HO}(h:b≠a):upd H a o b=H b:=by unfold upd;rw[if_neg h]
def zkH {H:Hp}{a b:Addr}{o u:HO}(h:H a=some o) (h':H b=some u) (d:o≠u):a≠b:=by
 intro e;subst e;rw[h]at h';exact d (Option.some.inj h')
def zZ {H:Hp}{a b:Addr}{o:HO}(h:H a=some o) (h':H b=none):a≠b:=by
 intro e;subst e;rw[h]at h';cases h'
section
variable (P:Program) (w:World)
def xJ (H:Hp) (h:Heap) (a:Addr):HO->Prop
 |.lst xs=>xs.length<=sizeLine/\∃(its:List Value) (n:Nat),xa xs its/\h.get? a=some { cls:=.type "list",data:=.seq its.toArray n }
 |.tup xs=>xs.length<=sizeLine/\∃its:List Value,xa xs its/\IsTup h a its.toArray
 |.dK kvs=>kvs.length<=sizeLine/\(a == sysModules)=false/\∃vs,KV kvs vs/\h.DictOf (qf P w) a vs
 |.dT kvs=>kvs.length<=sizeLine/\(a == sysModules)=false/\∃xs:List (List Key×Addr×Value),
   Paired (λ(p:List Key×V) (q:List Key×Addr×Value)=>p.1=q.1/\H q.2.1=some (.tup (p.1.map kV))/\xn p.2 q.2.2) kvs xs ∧
   ∃o es ep,h.get? a=some o/\o.ExactDict/\o.data=.dict es ep/\es.toList=xs.map (entryOfKey (tupleKind (qf P w)))/\(xs.map (·.1)).Nodup
 |.set S n=>h.SetOf (intKind P w) a S n
 |.ins C dx fs=>H dx=some (.own a)/\fs.length<=1000/\dx≠a/\h.get? a=some (PySem.W.instObj C dx) ∧
   ∃mA,h.Ns1 dx mA/\(∀f,VF (fs.lookup f) (mA f))/\PySem.Within mA (fs.map (·.1))
 |.own _=>∃o,h.get? a=some o
 |.xd fs=>∃mA,h.Ns1 a mA/\∀f,VF (fs.lookup f) (mA f)
 |.rng lo hi=>∃t u v,h.get? a=some { cls:=.type "range",data:=.fields #[.int lo t,.int hi u,.int 1 v] }
 |.frz o u=>h.get? a=some o/\xJ H h a u
 |.tbl ps=>h.get? a=some { cls:=.none,data:=.fields ps }
 |.met f x=>h.get? a=some (PySem.W.methodObj (.ref f) (.ref x))
 |.ext φ=>φ h/\(∃o,h.get? a=some o)/\∀h1 h2:Heap,φ h1->(∀o,h1.get? a=some o->h2.get? a=some o)->φ h2
def HOk (H:Hp) (h:Heap):Prop:=∀a o,H a=some o->xJ P w H h a o
end
section
variable {P:Program}{w:World}{H H':Hp}{h h':Heap}{a:Addr}{o:HO}
theorem xJ.lt (x:xJ P w H h a o):a<h.objs.size:=by
 cases o with
 |lst xs=>obtain⟨_,_,_,_,e⟩:=x;exact wE e
 |tup xs=>obtain⟨_,_,_,p⟩:=x;exact p.lt
 |dK kvs=>obtain⟨_,_,_,_,o,_,_,e,_⟩:=x;exact wE e
 |dT kvs=>obtain⟨_,_,_,_,o,_,_,e,_⟩:=x;exact wE e
 |set S n=>obtain⟨o,_,_,_,e,_⟩:=x;exact wE e
 |ins C dx fs=>obtain⟨_,_,_,e,_⟩:=x;exact wE e
 |own y=>obtain⟨_,e⟩:=x;exact wE e
 |xd fs=>obtain⟨_,⟨_,_,_,e,_⟩,_⟩:=x;exact wE e
 |rng lo hi=>obtain⟨_,_,_,e⟩:=x;exact wE e
 |frz ob u=>obtain⟨e,_⟩:=x;exact wE e
 |tbl ps=>exact wE (show h.get? a=some _ from x)
 |met f y=>exact wE (show h.get? a=some _ from x)
 |ext φ=>obtain⟨_,⟨_,e⟩,_⟩:=x;exact wE e
theorem Paired.mapP {α β:Type}{F G:α->β->Prop}:∀{I:List α}{O:List β},Paired F I O->(∀a b,F a b->G a b)->Paired G I O
 |_,_,.nil,_=>.nil
 |_,_,.cons r t,f=>.cons (f _ _ r) (Paired.mapP t f)
theorem xJ.stay (x:xJ P w H h a o) (k:∀b u,(b=a\/H b=some (.own a))->h.get? b=some u->h'.get? b=some u)
  (U:∀b,H b=some (.own a)->H' b=some (.own a)) (O:∀b xs,H b=some (.tup xs)->H' b=some (.tup xs)):xJ P w H' h' a o:=by
 induction o with
 |lst xs=>obtain⟨z,G,n,r,e⟩:=x;exact⟨z,G,n,r,k _ _ (.inl rfl) e⟩
 |tup xs=>obtain⟨z,G,r,F,e,c⟩:=x;exact⟨z,G,r,F,k _ _ (.inl rfl) e,c⟩
 |dK kvs=>obtain⟨z,y,vs,r,F,es,ep,e,c⟩:=x;exact⟨z,y,vs,r,F,es,ep,k _ _ (.inl rfl) e,c⟩
 |dT kvs =>
  obtain⟨z,y,xs,r,F,es,ep,e,c⟩:=x
  exact⟨z,y,xs,Paired.mapP r λp q z=>⟨z.1,O _ _ z.2.1,z.2.2⟩,F,es,ep,k _ _ (.inl rL) e,c⟩
 |set S n=>obtain⟨F,es,ep,t,e,c⟩:=x;exact⟨F,es,ep,t,k _ _ (.inl rfl) e,c⟩
 |ins C dx fs =>
  obtain⟨d,z,ne,e,mA,⟨I,es,ep,e2,c⟩,r⟩:=x
  exact⟨U _ d,z,ne,k _ _ (.inl rL) e,mA,⟨I,es,ep,k _ _ (.inr d) e2,c⟩,r⟩
 |own y=>obtain⟨F,e⟩:=x;exact⟨F,k _ _ (.inl rfl) e⟩
 |xd fs=>obtain⟨mA,⟨I,es,ep,e,c⟩,r⟩:=x;exact⟨mA,⟨I,es,ep,k _ _ (.inl rfl) e,c⟩,r⟩
 |rng lo hi=>obtain⟨t,u,v,e⟩:=x;exact⟨t,u,v,k _ _ (.inl rfl) e⟩
 |frz F u ih=>obtain⟨e,q⟩:=x;exact⟨k _ _ (.inl rfl) e,ih q⟩
 |tbl ps =>
  have e:h.get? a=some { cls:=.none,data:=.fields ps }:=x
  show h'.get? a=some { cls:=.none,data:=.fields ps }
  exact k a _ (.inl rL) e
 |met f y =>
  have e:h.get? a=some (PySem.W.methodObj (.ref f) (.ref y)):=x
  show h'.get? a=some (PySem.W.methodObj (.ref f) (.ref y))
  exact k a _ (.inl rL) e
 |ext φ=>obtain⟨p,⟨o,e⟩,st⟩:=x;exact⟨st _ _ p λo q=>k _ _ (.inl rfl) q,⟨o,k _ _ (.inl rfl) e⟩,st⟩
theorem HOk.lt (x:HOk P w H h) (e:H a=some o):a<h.objs.size:=(x a o e).lt
theorem HOk.fresh (x:HOk P w H h) (e:h.objs.size<=a):H a=none:=by
 cases q:H a with
 |none=>rfl
 |some u=>exact absurd (w8 (x.lt q) e) (uD _)
theorem HOk.kept (x:HOk P w H h) (k:∀b u,h.get? b=some u->h'.get? b=some u):HOk P w H h':=λa o e =>
 (x a o e).stay (λb u _ q=>k b u q) (λ_ q=>q) λ_ _ q=>q
theorem HOk.laid (x:HOk P w H h) (k:∀b u,h.get? b=some u->h'.get? b=some u) (G:h.objs.size<=a) (new:xJ P w (upd H a o) h' a o):HOk P w (upd H a o) h':=λb u e=>by
 have F:=x.fresh G
 by_cases hb:b=a
 ·subst hb;rw[zj]at e;cases e;exact new
 ·rw[zV hb]at e
  exact(x b u e).stay (λc v _ q=>k c v q) (λc q=>by rw[zV (zZ q F)];exact q) λc xs q=>by rw[zV (zZ q F)];exact q
end
def Rd (H:Hp) (a:Addr) (u:HO):Prop:=H a=some u\/∃o,H a=some (.frz o u)
def Rd.ok {P:Program}{w:World}{H:Hp}{h:Heap}{a:Addr}{u:HO}(r:Rd H a u) (x:HOk P w H h):xJ P w H h a u:=by
 rcases r with r | ⟨o,r⟩
 ·exact x a u r
 ·obtain⟨_,q⟩:=x a _ r
  exact q
def Mut:Option HO->Prop
 |some (.lst _)=>True
 |some (.dK _)=>True
 |some (.dT _)=>True
 |some (.set _ _)=>True
 |some (.ins _ _ _)=>True
 |some (.ext _)=>True
 |_=>False
section
variable {P:Program}{w:World}{H:Hp}{h h':Heap}{x e:Addr}{o':HO}
theorem HOk.write (ok:HOk P w H h) (I:Mut (H x)) (U:e=x\/H e=some (.own x)) (k:∀b u,b≠e->h.get? b=some u->h'.get? b=some u) (S:∃u,h'.get? e=some u)
  (new:xJ P w (upd H x o') h' x o'):HOk P w (upd H x o') h':=λb u q=>by
 have F:∀c y,H c=some (.own y)->c≠x:=λc y r z=>by subst z;rw[r]at I;exact I
 have G:∀c xs,H c=some (.tup xs)->c≠x:=λc xs r z=>by subst z;rw[r]at I;exact I
 by_cases hb:b=x
 ·subst hb;rw[zj]at q;cases q;exact new
 ·rw[zV hb]at q
  by_cases hbe:b=e
  ·have V:H b=some (.own x):=by
    rcases U with z | z
    ·exact absurd (hbe.trans z) hb
    ·rw[hbe];exact z
   rw[q]at V;cases V
   obtain⟨v,W⟩:=S
   exact⟨v,by rw[hbe];exact W⟩
  ·refine(ok b u q).stay (λc v O r=>k c v ?_ r) (λc r=>by rw[zV (F c b r)];exact r) λc xs r=>by rw[zV (G c xs r)];exact r
   rcases O with rfl | O
   ·exact hbe
   ·rintro rfl
    rcases U with z | z
    ·exact F c b O z
    ·rw[O]at z;cases z;exact hb rfl
end
structure Un (fs ex:List Addr) (H H':Hp) (h h':Heap):Prop where
 keep:∀b o,h.get? b=some o->H b=none->b∉fs->b∉ex->h'.get? b=some o
 slot:∀b o,h.get? b=some o->H b=none->b∈fs->b∉ex->∃sl,h'.get? b=some { o with slots:=sl }
 free:∀b o,h.get? b=some o->H b=none->b∉ex->H' b=none
 there:∀b o,h.get? b=some o->b∉ex->∃o',h'.get? b=some o'
 tups:∀b xs,H b=some (.tup xs)->H' b=some (.tup xs)
 frzs:∀b o u,H b=some (.frz o u)->H' b=some (.frz o u)
 tbls:∀b ps,H b=some (.tbl ps)->∃more,H' b=some (.tbl (ps++more))
section
variable {fs fs' ex ex':List Addr}{H H1 H2:Hp}{h h1 h2 h':Heap}{a x e:Addr}{o:HO}
theorem Un.any (u:Un fs ex H H1 h h1){b:Addr}{F:Obj}(q:h.get? b=some F) (n:H b=none) (G:b∉ex):∃I,h1.get? b=some { F with slots:=I }:=by
 by_cases hb:b∈fs
 ·exact u.slot b F q n hb G
 ·exact⟨F.slots,u.keep b F q n hb G⟩
theorem Un.kept (k:∀b u,h.get? b=some u->h'.get? b=some u):Un fs ex H H h h' :=
 ⟨λb F q _ _ _=>k b F q,λb F q _ _ _=>⟨F.slots,k b F q⟩,λ_ _ _ n _=>n,λb F q _=>⟨F,k b F q⟩,λ_ _ q=>q,λ_ _ _ q=>q,λ_ ps q=>⟨#[],by rw[q];simp⟩⟩
theorem Un.refl:Un fs ex H H h h:=Un.kept λ_ _ q=>q
theorem Un.laid (k:∀b u,h.get? b=some u->h'.get? b=some u) (G:h.objs.size<=a) (F:H a=none):Un fs ex H (upd H a o) h h' where
 keep:=λb u q _ _ _=>k b u q
 slot:=λb u q _ _ _=>⟨u.slots,k b u q⟩
 free:=λb u q n _=>by rw[zV (wW (w8 (wE q) G))];exact n
 there:=λb u q _=>⟨u,k b u q⟩
 tups:=λb xs q=>by rw[zV (zZ q F)];exact q
 frzs:=λb u xs q=>by rw[zV (zZ q F)];exact q
 tbls:=λb ps q=>⟨#[],by rw[zV (zZ q F),q];simp⟩
theorem Un.write (F:Mut (H x)) (U:e=x\/H e=some (.own x)) (k:∀b u,b≠e->h.get? b=some u->h'.get? b=some u) (G:∃u,h'.get? e=some u):Un fs ex H (upd H x o) h h':=by
 have S:∀b,H b=none->b≠x:=λb n z=>by subst z;rw[n]at F;exact F
 have O:∀b,H b=none->b≠e:=λb n z=>by
  subst z
  rcases U with r | r
  ·exact S b n r
  ·rw[n]at r;cases r
 have I:∀b u,H b=some u->¬Mut (some u)->b≠x:=λb u q nm z=>by subst z;rw[q]at F;exact nm F
 refine⟨λb u q n _ _=>k b u (O b n) q,λb u q n _ _=>⟨u.slots,k b u (O b n) q⟩,λb u q n _=>by rw[zV (S b n)];exact n,λb u q _=>?_,
  λb xs q=>by rw[zV (I b _ q λz=>z)];exact q,λb u xs q=>by rw[zV (I b _ q λz=>z)];exact q,λb ps q=>⟨#[],by rw[zV (I b _ q λz=>z),q];simp⟩⟩
 by_cases hbe:b=e
 ·subst hbe;exact G
 ·exact⟨u,k b u hbe q⟩
end
def trk (h:Heap) (H:Hp):List Addr:=(List.range h.objs.size).filter λa=>(H a).isSome
def zad (h:Heap) (H:Hp):Heap:=PySem.W.hideAll h (trk h H)
def zdx (h:Heap) (H:Hp):(zad h H).objs.size=h.objs.size:=PySem.W.hideAll_size _ _
def zeQ {h:Heap}{H:Hp}{b:Addr}{o:Obj}(e:h.get? b=some o) (n:H b=none):(zad h H).get? b=some o :=
 PySem.W.hideAll_get _ e λF=>by
  have q:(H b).isSome=true:=(yZ.mp F).2
  rw[n]at q;simp at q
def zg9 {h:Heap}{H:Hp}{b:Addr}{o:Obj}(e:(zad h H).get? b=some o):h.get? b=some o/\H b=none:=by
 have F:h.get? b=some o:=PySem.W.of_hideAll (trk h H) e
 refine⟨F,?_⟩
 cases q:H b with
 |none=>rfl
 |some x =>
  have G:b∈trk h H:=yZ.mpr ⟨Wj.mpr (wE F),by simp[q]⟩
  have z:(zad h H).get? b=none:=PySem.W.hideAll_none (trk h H) G
  rw[z]at e;cases e
structure Mod (K:Fg) (mg:Str->Option Value) (base:Heap):Prop where
 kin:K.In base
 glob:base.Ns mainGlobals mg
 blt:∃mb,base.Ns builtinsNs mb/\∀x:Str,x≠"__name__"->mb x=bootBuiltins x
 nolimit:base.NoLimit
structure Cx where
 prog:Program
 w:World
 K:Fg
 mg:Str->Option Value
 base:Heap
 A:Around
 N:List Str
 s₀:Shared
 H₀:Hp
 env:Env
 outer:List Env
 stack:List Env
 ex:List Addr
 fn:Str->Bool
 calm:Bool
 pn:List (Addr×Obj)
 xe:Value->Shared->Prop
def frs (l:List Env):List Addr:=l.filterMap (·.frame)
abbrev Cx.fs (X:Cx):List Addr:=frs X.outer
def Vis (sc:Scope) (x:Str):Prop:=sc.names.lookup x=some .local ∨ sc.names.lookup x=some .cell\/sc.names.lookup x=some .free
def Loc (sc:Scope) (x:Str):Prop:=sc.names.lookup x=some .local ∨ sc.names.lookup x=some .cell
def Look (env:Env) (h:Heap) (m:Str->Option Value) (x:Str) (u:Value):Prop :=
 (env.kindOf x=some .local ∧ m x=some u)\/((env.kindOf x=some .cell\/env.kindOf x=some .free)/\∃c,env.cells.lookup x=some c/\h.IsCell c (some u))
structure Cx.Ok (X:Cx):Prop where
 mod:Mod X.K X.mg X.base
 kind:X.env.scope.kind=.function
 glob:X.env.globals=mainGlobals
 blt:X.env.builtins=builtinsNs
 above:X.s₀.heap.objs.size<=X.env.locals
 inj:∀x y c,X.env.cells.lookup x=some c->X.env.cells.lookup y=some c->x=y
 has:∀x,(X.env.kindOf x=some .cell\/X.env.kindOf x=some .free)->∃c,X.env.cells.lookup x=some c
 cab:∀x c,X.fn x=true->X.env.cells.lookup x=some c->X.s₀.heap.objs.size<=c
 hd:X.calm=true->X.A.handled=none
 frames:X.A.frames=some X.stack
 stk:X.stack=X.outer\/(X.stack=X.env::X.outer/\X.env.frame=some X.env.locals)
 exf:∀b∈X.ex,b≠X.env.locals/\∀x c,X.env.cells.lookup x=some c->c≠b
 bs:∀b o,X.base.get? b=some o->X.s₀.heap.get? b=some o/\X.H₀ b=none
 bsz:X.base.objs.size<=X.s₀.heap.objs.size
 noex:∀b o,X.base.get? b=some o->b∉X.ex
 exfs:∀b∈X.ex,b∉X.fs
 funs:X.s₀.heap.FunFrames X.base X.outer
 frf:∀b∈X.fs,X.H₀ b=none
structure Inv (X:Cx) (pz:List (Addr×Obj)) (σ:List (Option V)) (H:Hp) (s:Shared):Prop where
 ok:X.Ok
 os:s.os=X.s₀.os
 bare:AllBare s.gens
 base:Un X.fs X.ex X.H₀ H X.s₀.heap s.heap
 loc:∃m,s.heap.Ns X.env.locals m/\∀(i:Nat) (x:Str) (v:V),X.N[i]?=some x->σ[i]?=some (some v)->Vis X.env.scope x->∃u,xn v u/\Look X.env s.heap m x u
 cell:∀x c,X.env.cells.lookup x=some c->∃v,s.heap.IsCell c v
 free:H X.env.locals=none
 freeC:∀x c,X.env.cells.lookup x=some c->H c=none
 pin:∀p∈X.pn++pz,s.heap.get? p.1=some p.2/\H p.1=none/\p.1≠X.env.locals/\p.1∉X.fs/\∀v,p.2.data≠.cell v
 hok:HOk X.prog X.w H s.heap
 len:σ.length=X.N.length
section
variable {X:Cx}{pz:List (Addr×Obj)}{σ:List (Option V)}{H H':Hp}{s:Shared}{h':Heap}
theorem Cx.Ok.nofr (ok:X.Ok){b:Addr}{o:Obj}(e:X.base.get? b=some o):b∉X.fs:=λF=>by
 have:=(ok.funs.mem F).1
 rw[e]at this;cases this
theorem Inv.bs (I:Inv X pz σ H s):∀b o,X.base.get? b=some o->s.heap.get? b=some o/\H b=none:=λb o e =>
 ⟨I.base.keep b o (I.ok.bs b o e).1 (I.ok.bs b o e).2 (I.ok.nofr e) (I.ok.noex b o e),I.base.free b o (I.ok.bs b o e).1 (I.ok.bs b o e).2 (I.ok.noex b o e)⟩
theorem Inv.bk (I:Inv X pz σ H s):∀b o,X.base.get? b=some o->s.heap.get? b=some o:=λb o e=>(I.bs b o e).1
theorem Inv.mod (I:Inv X pz σ H s):Mod X.K X.mg X.base:=I.ok.mod
theorem Inv.kIn (I:Inv X pz σ H s):X.K.In s.heap:=I.ok.mod.kin.keeps I.bk
theorem Inv.lt (I:Inv X pz σ H s):X.env.locals<s.heap.objs.size:=let ⟨_,hn,_⟩:=I.loc;hn.lt
theorem Inv.sz (I:Inv X pz σ H s):X.s₀.heap.objs.size<=s.heap.objs.size:=yF I.ok.above (Yq I.lt)
theorem Inv.nofs (I:Inv X pz σ H s){a:Addr}(h:s.heap.objs.size<=a):a∉X.fs:=λF=>by
 obtain⟨_,o,G,_⟩:=I.ok.funs.mem F
 exact absurd (w8 (wE G) (yF I.sz h)) (uD _)
theorem Inv.cne (I:Inv X pz σ H s):∀x c,X.env.cells.lookup x=some c->c≠X.env.locals:=λx c e z=>by
 obtain⟨v,o,O,hd⟩:=I.cell x c e
 obtain⟨m,⟨o',es,ep,G,F,_⟩,_⟩:=I.loc
 rw[z,G]at O;cases O;rw[F]at hd;cases hd
theorem Inv.funs (I:Inv X pz σ H s):s.heap.FunFrames X.base X.outer:=by
 have all:∀(l:List Env),(∀b∈frs l,b∈X.fs)->X.s₀.heap.FunFrames X.base l->s.heap.FunFrames X.base l:=by
  intro l
  induction l with
  |nil=>intro _ _;trivial
  |cons env r ih =>
   intro hs hl
   obtain⟨hk,⟨L,o,hf,hn,ho,hd⟩,hr⟩:=hl
   have hL:L∈X.fs:=hs L (by unfold frs;rw[Yh,hf];exact wF)
   obtain⟨sl,e⟩:=I.base.slot L o ho (I.ok.frf L hL) hL λz=>I.ok.exfs L z hL
   exact⟨hk,⟨L,_,hf,hn,e,hd⟩,ih (λb hb=>hs b (by unfold frs;rw[Yh,hf];exact wT _ hb)) hr⟩
 exact all X.outer (λ_ hb=>hb) I.ok.funs
theorem Inv.stack (I:Inv X pz σ H s):s.heap.FunFrames X.base X.stack:=by
 rcases I.ok.stk with e | ⟨e,hf⟩
 ·rw[e];exact I.funs
 ·rw[e]
  obtain⟨m,hn,_⟩:=I.loc
  refine .cons (by rw[I.ok.kind];decide) hf hn ?_ I.funs
  exact Heap.get?_none_of_le (yF I.ok.bsz I.ok.above)
theorem Inv.stkSub (I:Inv X pz σ H s):∀b∈frs X.stack,b∈X.env.locals::X.fs:=λb hb=>by
 rcases I.ok.stk with e | ⟨e,hf⟩
 ·rw[e]at hb;exact wT _ hb
 ·rw[e]at hb
  unfold frs at hb
  rw[Yh,hf]at hb
  exact hb
theorem Inv.stkFree (I:Inv X pz σ H s):∀b∈frs X.stack,H b=none:=λb hb=>by
 rcases wu.mp (I.stkSub b hb)with e | hb
 ·rw[e];exact I.free
 ·obtain⟨_,o,ho,_⟩:=I.ok.funs.mem hb
  exact I.base.free b o ho (I.ok.frf b hb) λz=>I.ok.exfs b z hb
theorem Inv.step {g':Array GenState}{t':Nat}{d':Drawn}{ch:List Addr}(I:Inv X pz σ H s)
  (hch:∀b∈ch,(b∈X.ex\/X.s₀.heap.objs.size<=b)/\b≠X.env.locals/\(∀x c,X.env.cells.lookup x=some c->c≠b)/\∀p∈X.pn++pz,p.1≠b)
  (keep:∀b o,b≠X.env.locals->b∉X.fs->b∉ch->s.heap.get? b=some o->H b=none->h'.get? b=some o)
  (slot:∀b o,b≠X.env.locals->b∈X.fs->b∉ch->s.heap.get? b=some o->H b=none->∃sl,h'.get? b=some { o with slots:=sl }) (free:∀b o,b∉ch->s.heap.get? b=some o->H b=none->H' b=none)
  (there:∀b o,b∉ch->s.heap.get? b=some o->∃o',h'.get? b=some o')
  (tups:∀b xs,H b=some (.tup xs)->H' b=some (.tup xs)) (frzs:∀b o u,H b=some (.frz o u)->H' b=some (.frz o u)) (tbls:∀b ps,H b=some (.tbl ps)->∃more,H' b=some (.tbl (ps++more)))
  (ns:∀m,s.heap.Ns X.env.locals m->h'.Ns X.env.locals m) (hok:HOk X.prog X.w H' h') (hg:AllBare g') :
  Inv X pz σ H' { s with heap:=h',gens:=g',drawn:=d',toks:=t' }:=by
 have neL:∀b o,X.s₀.heap.get? b=some o->b≠X.env.locals:=λb o e=>wW (w8 (wE e) I.ok.above)
 have neC:∀b o,X.s₀.heap.get? b=some o->b∉X.ex->b∉ch:=λb o e hx hb=>by
  rcases(hch b hb).1 with z | z
  ·exact hx z
  ·exact absurd (w8 (wE e) z) (uD _)
 have cellK:∀x c,X.env.cells.lookup x=some c->∀v,s.heap.IsCell c v->h'.IsCell c v:=λx c e v ⟨o,ho,hd⟩=>by
  have nch:c∉ch:=λz=>(hch c z).2.2.1 x c e rfl
  by_cases hc:c∈X.fs
  ·obtain⟨sl,q⟩:=slot c o (I.cne x c e) hc nch ho (I.freeC x c e)
   exact⟨_,q,hd⟩
  ·exact⟨o,keep c o (I.cne x c e) hc nch ho (I.freeC x c e),hd⟩
 refine⟨I.ok,I.os,hg,⟨λb o e n hb hx=>?_,λb o e n hb hx=>?_,λb o e n hx=>?_,λb o e hx=>?_,λb xs e=>tups b xs (I.base.tups b xs e),λb o xs e=>frzs b o xs (I.base.frzs b o xs e),λb ps e=>?_⟩,?_,λx c e=>?_,?_,λx c e=>?_,λp hp=>?_,hok,I.len⟩
 ·exact keep b o (neL b o e) hb (neC b o e hx) (I.base.keep b o e n hb hx) (I.base.free b o e n hx)
 ·obtain⟨sl,e1⟩:=I.base.slot b o e n hb hx
  obtain⟨sl',e2⟩:=slot b _ (neL b o e) hb (neC b o e hx) e1 (I.base.free b o e n hx)
  exact⟨sl',e2⟩
 ·obtain⟨o',e1⟩:=I.base.there b o e hx
  exact free b o' (neC b o e hx) e1 (I.base.free b o e n hx)
 ·obtain⟨o',e1⟩:=I.base.there b o e hx
  exact there b o' (neC b o e hx) e1
 ·obtain⟨m1,e1⟩:=I.base.tbls b ps e
  obtain⟨m2,e2⟩:=tbls b _ e1
  exact⟨m1++m2,by rw[e2,WH]⟩
 ·obtain⟨m,hn,hl⟩:=I.loc
  refine⟨m,ns m hn,λi x v e1 e2 e3=>?_⟩
  obtain⟨u,r,l⟩:=hl i x v e1 e2 e3
  exists u,r
  rcases l with l | ⟨k,c,e,z⟩
  ·exact .inl l
  ·exact .inr ⟨k,c,e,cellK x c e _ z⟩
 ·obtain⟨v,z⟩:=I.cell x c e
  exact⟨v,cellK x c e v z⟩
 ·obtain⟨m,⟨o,_,_,ho,_⟩,_⟩:=I.loc
  exact free _ o (λz=>(hch _ z).2.1 rL) ho I.free
 ·obtain⟨v,o,ho,hd⟩:=I.cell x c e
  exact free c o (λz=>(hch c z).2.2.1 x c e rL) ho (I.freeC x c e)
 ·obtain⟨e,n,ne,nf,d⟩:=I.pin p hp
  have nch:p.1∉ch:=λz=>(hch p.1 z).2.2.2 p hp rfl
  exact⟨keep p.1 p.2 ne nf nch e n,free p.1 p.2 nch e n,ne,nf,d⟩
theorem Inv.un {t':Nat}(I:Inv X pz σ H s) (u:Un X.fs [] H H' s.heap h') (hok:HOk X.prog X.w H' h'):Inv X pz σ H' { s with heap:=h',toks:=t' }:=by
 obtain⟨m,⟨o,es,ep,ho,r⟩,_⟩:=id I.loc
 obtain⟨sl,hL⟩:=u.any ho I.free (by simp)
 exact I.step (g':=s.gens) (d':=s.drawn) (ch:=[]) (λ_ z=>nomatch z) (λb o _ hb _ e n=>u.keep b o e n hb (by simp)) (λb o _ hb _ e n=>u.slot b o e n hb (by simp)) (λb o _ e n=>u.free b o e n (by simp)) (λb o _ e=>u.there b o e (by simp)) u.tups u.frzs u.tbls (λm' hm=>by
  obtain⟨o',es',ep',ho',r'⟩:=hm
  rw[ho]at ho';cases ho'
  exact⟨_,es',ep',hL,r'⟩) hok I.bare
theorem Inv.call {g':Array GenState}{t':Nat}{d':Drawn}{ch:List Addr}(I:Inv X pz σ H s) (u:Un (frs X.stack) ch H H' s.heap h') (hok:HOk X.prog X.w H' h') (hg:AllBare g')
  (hch:∀b∈ch,(b∈X.ex\/X.s₀.heap.objs.size<=b)/\b≠X.env.locals/\(∀x c,X.env.cells.lookup x=some c->c≠b)/\∀p∈X.pn++pz,p.1≠b) :
  Inv X pz σ H' { s with heap:=h',gens:=g',drawn:=d',toks:=t' }:=by
 obtain⟨m,⟨o,es,ep,ho,r⟩,_⟩:=id I.loc
 obtain⟨sl,hL⟩:=u.any ho I.free λz=>(hch _ z).2.1 rfl
 exact I.step (ch:=ch) hch (λb o hL hb hc e n=>u.keep b o e n (λz=>(wu.mp (I.stkSub b z)).elim hL hb) hc) (λb o _ _ hc e n=>u.any e n hc) (λb o hc e n=>u.free b o e n hc) (λb o hc e=>u.there b o e hc) u.tups u.frzs u.tbls (λm' hm=>by
  obtain⟨o',es',ep',ho',r'⟩:=hm
  rw[ho]at ho';cases ho'
  exact⟨_,es',ep',hL,r'⟩) hok hg
theorem Inv.turned {t':Nat}{it:Addr}(I:Inv X pz σ H s) (k:∀b o,b≠it->s.heap.get? b=some o->h'.get? b=some o) (hn:H it=none) (hL:it≠X.env.locals)
  (h1:it∈X.ex\/X.s₀.heap.objs.size<=it) (h2:∀x c,X.env.cells.lookup x=some c->c≠it) (h3:∀p∈X.pn++pz,p.1≠it):Inv X pz σ H { s with heap:=h',toks:=t' }:=by
 have nit:∀b u,H b=some u->b≠it:=λb u e z=>by rw[z,hn]at e;cases e
 refine I.step (g':=s.gens) (d':=s.drawn) (ch:=[it]) (λb hb=>?_) (λb o _ _ hc e _=>k b o (λz=>hc (by simp[z])) e) (λb o _ _ hc e _=>⟨o.slots,k b o (λz=>hc (by simp[z])) e⟩) (λ_ _ _ _ n=>n)
  (λb o hc e=>⟨o,k b o (λz=>hc (by simp[z])) e⟩) (λ_ _ e=>e) (λ_ _ _ e=>e) (λb ps e=>⟨#[],by rw[e];simp⟩) (λm hm=>?_) (λb u e=>?_) I.bare
 ·have e:b=it:=↥hb
  subst e
  exact⟨h1,hL,h2,h3⟩
 ·obtain⟨o,es,ep,ho,r⟩:=hm
  exact⟨o,es,ep,k _ o (Ne.symm hL) ho,r⟩
 ·refine(I.hok b u e).stay (λc v hc q=>k c v ?_ q) (λ_ q=>q) λ_ _ q=>q
  rcases hc with z | z
  ·rw[z];exact nit b u e
  ·exact nit c _ z
theorem Inv.tok (I:Inv X pz σ H s) (t:Nat):Inv X pz σ H { s with toks:=t }:=I.un (h':=s.heap) (t':=t) Un.refl I.hok
theorem Inv.kept {t':Nat}(I:Inv X pz σ H s) (k:∀b u,s.heap.get? b=some u->h'.get? b=some u):Inv X pz σ H { s with heap:=h',toks:=t' }:=I.un (Un.kept k) (I.hok.kept k)
theorem Inv.laid {a:Addr}{o:HO}{t':Nat}(I:Inv X pz σ H s) (k:∀b u,s.heap.get? b=some u->h'.get? b=some u) (hp:s.heap.objs.size<=a) (new:xJ X.prog X.w (upd H a o) h' a o) :
  Inv X pz σ (upd H a o) { s with heap:=h',toks:=t' }:=I.un (Un.laid k hp (I.hok.fresh hp)) (I.hok.laid k hp new)
theorem Inv.write {x e:Addr}{o:HO}{t':Nat}(I:Inv X pz σ H s) (mu:Mut (H x)) (he:e=x\/H e=some (.own x)) (k:∀b u,b≠e->s.heap.get? b=some u->h'.get? b=some u) (heo:∃u,h'.get? e=some u)
  (new:xJ X.prog X.w (upd H x o) h' x o):Inv X pz σ (upd H x o) { s with heap:=h',toks:=t' }:=I.un (Un.write mu he k heo) (I.hok.write mu he k heo new)
theorem Inv.pins_of {pz':List (Addr×Obj)} (I:Inv X pz σ H s) (h:∀p∈pz',s.heap.get? p.1=some p.2/\H p.1=none/\p.1≠X.env.locals/\p.1∉X.fs/\∀v,p.2.data≠.cell v):Inv X pz' σ H s :=
 ⟨I.ok,I.os,I.bare,I.base,I.loc,I.cell,I.free,I.freeC,λp hp=>(ya.mp hp).elim (λz=>I.pin p (Wz _ z)) (h p),I.hok,I.len⟩
theorem za6 {N:List Str}(hN:N.Nodup){i j:Nat}{x:Str}(a:N[i]?=some x) (b:N[j]?=some x):i=j:=by
 obtain⟨h1,e1⟩:=w4.mp a
 obtain⟨h2,e2⟩:=w4.mp b
 exact(List.getElem_inj hN).mp (e1.trans e2.symm)
theorem JQ {M:Model}{A:Around}{E:Value->Shared->Prop}{i:Nat}{x:Str}{v:V}{u:Value}{Q:Unit->Shared->Prop}(I:Inv X pz σ H s) (hN:X.N.Nodup) (hi:X.N[i]?=some x) (hx:Loc X.env.scope x) (r:xn v u)
  (h:∀s',Inv X pz (σ.set i (some v)) H s'->(∃a,Heap.SameBut a s.heap s'.heap/\(a=X.env.locals\/X.env.cells.lookup x=some a))->Q () s') (hf:X.fn x=true\/X.env.scope.names.lookup x=some .local := by first | exact .inl rfl | exact .inr rfl | assumption):wpAny M A (storeName X.env x u) Q E s:=by
 obtain⟨m,hn,hl⟩:=id I.loc
 have hcls:(X.env.scope.kind == .class || (X.env.scope.kind == .module&&X.env.locals != X.env.globals))=false:=by rw[I.ok.kind];rfl
 have hiσ:i<σ.length:=by rw[I.len];exact(w4.mp hi).1
 have cne:=I.cne
 have tracked:∀{a:Addr}{h':Heap},(∃o,s.heap.get? a=some o/\H a=none)->Heap.SameBut a s.heap h'->HOk X.prog X.w H h':=λ{a h'} ha hs b ob e=>by
  obtain⟨_,_,hfree⟩:=ha
  refine(I.hok b ob e).stay (λc w' hc q=>(hs.2 c ?_).trans q) (λ_ q=>q) λ_ _ q=>q
  rintro rfl
  rcases hc with rfl | hc
  ·rw[hfree]at e;cases e
  ·rw[hfree]at hc;cases hc
 rcases hx with hk | hk
 ·refine wpAny_storeName_local hk hn (λh' hn' hs=>?_) hcls
  obtain⟨oL,_,_,hoL,_⟩:=id hn
  refine h _ ⟨I.ok,I.os,I.bare,⟨λb o e n hb hx=>?_,λb o e n hb hx=>?_,I.base.free,λb o e hx=>?_,I.base.tups,I.base.frzs,I.base.tbls⟩,⟨_,hn',λj y v' e1 e2 e3=>?_⟩,λy c e=>?_,I.free,I.freeC,λp hp=>?_,tracked ⟨oL,hoL,I.free⟩ hs,↥I.len⟩ ⟨_,hs,.inl rfl⟩
  ·exact(hs.2 b (wW (w8 (wE e) I.ok.above))).trans (I.base.keep b o e n hb hx)
  ·obtain⟨sl,e1⟩:=I.base.slot b o e n hb hx
   exact⟨sl,(hs.2 b (wW (w8 (wE e) I.ok.above))).trans e1⟩
  ·obtain⟨o',e1⟩:=I.base.there b o e hx
   exact⟨o',(hs.2 b (wW (w8 (wE e) I.ok.above))).trans e1⟩
  ·by_cases hj:j=i
   ·subst hj
    rw[hi]at e1;cases e1
    rw[List.getElem?_set_self hiσ]at e2
    cases e2
    exact⟨u,r,.inl ⟨hk,by simp⟩⟩
   ·rw[List.getElem?_set_ne (Ne.symm hj)]at e2
    obtain⟨u',r',q⟩:=hl j y v' e1 e2 e3
    exists u',r'
    rcases q with⟨k,e⟩ | ⟨k,c,e,z⟩
    ·refine .inl ⟨k,?_⟩
     have:y≠x:=λe=>hj (za6 hN e1 (e ▸ hi))
     simp[this,e]
    ·exact .inr ⟨k,c,e,z.sameBut hs (cne y c e)⟩
  ·obtain⟨w',z⟩:=I.cell y c e
   exact⟨w',z.sameBut hs (cne y c e)⟩
  ·obtain⟨e,n,ne,nf,d⟩:=I.pin p hp
   exact⟨(hs.2 p.1 ne).trans e,n,ne,nf,d⟩
 ·have hfn:X.fn x=true:=by
   rcases hf with z | z
   ·exact z
   ·rw[z]at hk;cases hk
  obtain⟨c,hc⟩:=I.ok.has x (.inl hk)
  obtain⟨w',z⟩:=I.cell x c hc
  refine wpAny_storeName_cell I.ok.kind hk hc z (λh' hc' hs=>?_)
  obtain⟨oc,hoc,hocd⟩:=id z
  refine h { s with heap:=h' } ⟨I.ok,I.os,I.bare,⟨λb o e n hb hx=>?_,λb o e n hb hx=>?_,I.base.free,λb o e hx=>?_,I.base.tups,I.base.frzs,I.base.tbls⟩,⟨m,hn.sameBut hs (Ne.symm (cne x c hc)),λj y v' e1 e2 e3=>?_⟩,λy c' e=>?_,I.free,I.freeC,λp hp=>?_,tracked ⟨oc,hoc,I.freeC x c hc⟩ hs,↥I.len⟩ ⟨c,hs,.inr hc⟩
  ·exact(hs.2 b (wW (w8 (wE e) (I.ok.cab x c hfn hc)))).trans (I.base.keep b o e n hb hx)
  ·obtain⟨sl,e1⟩:=I.base.slot b o e n hb hx
   exact⟨sl,(hs.2 b (wW (w8 (wE e) (I.ok.cab x c hfn hc)))).trans e1⟩
  ·obtain⟨o',e1⟩:=I.base.there b o e hx
   exact⟨o',(hs.2 b (wW (w8 (wE e) (I.ok.cab x c hfn hc)))).trans e1⟩
  ·by_cases hj:j=i
   ·subst hj
    rw[hi]at e1;cases e1
    rw[List.getElem?_set_self hiσ]at e2
    cases e2
    exact⟨u,r,.inr ⟨.inl hk,c,hc,hc'⟩⟩
   ·rw[List.getElem?_set_ne (Ne.symm hj)]at e2
    obtain⟨u',r',q⟩:=hl j y v' e1 e2 e3
    exists u',r'
    rcases q with q | ⟨k,c',e,z'⟩
    ·exact .inl q
    ·refine .inr ⟨k,c',e,z'.sameBut hs ?_⟩
     rintro rfl
     exact hj (za6 hN e1 (I.ok.inj _ _ _ e hc ▸ hi))
  ·by_cases hcc:c'=c
   ·subst hcc;exact⟨_,hc'⟩
   ·obtain⟨w2,z2⟩:=I.cell y c' e
    exact⟨w2,z2.sameBut hs hcc⟩
  ·obtain⟨e,n,ne,nf,d⟩:=I.pin p hp
   refine⟨(hs.2 p.1 ?_).trans e,n,ne,nf,d⟩
   intro q
   rw[q,hoc]at e
   have q':oc=p.2:=Option.some.inj e
   exact d w' (by rw[<-q'];exact hocd)
theorem Xi {M:Model}{A:Around}{E:Value->Shared->Prop}{i:Nat}{x:Str}{v:V}{u:Value}{Q:Unit->Shared->Prop}(I:Inv X pz σ H s) (hN:X.N.Nodup) (hi:X.N[i]?=some x) (hx:Loc X.env.scope x) (r:xn v u)
  (h:∀s',Inv X pz (σ.set i (some v)) H s'->Q () s') (hf:X.fn x=true\/X.env.scope.names.lookup x=some .local := by first | exact .inl rfl | exact .inr rfl | assumption):wpAny M A (storeName X.env x u) Q E s :=
 JQ I hN hi hx r (λs' I' _=>h s' I') hf
theorem Inv.call' {s':Shared}{ch:List Addr}(I:Inv X pz σ H s) (ho:s'.os=s.os) (u:Un (frs X.stack) ch H H' s.heap s'.heap) (hok:HOk X.prog X.w H' s'.heap) (hg:AllBare s'.gens)
  (hch:∀b∈ch,(b∈X.ex\/X.s₀.heap.objs.size<=b)/\b≠X.env.locals/\(∀x c,X.env.cells.lookup x=some c->c≠b)/\∀p∈X.pn++pz,p.1≠b):Inv X pz σ H' s':=by
 obtain⟨h',g',d',t',o'⟩:=s'
 have e:o'=s.os:=ho
 subst e
 exact I.call (g':=g') (t':=t') (d':=d') u hok hg hch
end
abbrev XK:=Value->Option Addr->Hp->Prop
abbrev St:=List (Option V)
abbrev Sr (a:Addr):Option V:=some (.ref a)
abbrev Si (i:Int):Option V:=some (.int i)
abbrev VK:=V->Hp->Prop
abbrev TE:=St->Hp->VK->Prop
abbrev TT:=St->Hp->(Bool->Hp->Prop)->Prop
abbrev TA:=St->Hp->(List V->Hp->Prop)->Prop
structure ZU where
 nx:St->Hp->Prop
 rt:VK
 bk:St->Hp->Prop:=λ_ _=>False
 ct:St->Hp->Prop:=λ_ _=>False
abbrev TS:=ZU->St->Hp->Prop
def EP (X:Cx) (pz:List (Addr×Obj)) (σ:St) (Q:VK) (u:Value) (s':Shared):Prop:=∃v H',Inv X pz σ H' s'/\xn v u/\Q v H'
def TP (X:Cx) (pz:List (Addr×Obj)) (σ:St) (Q:Bool->Hp->Prop) (b:Bool) (s':Shared):Prop:=∃H',Inv X pz σ H' s'/\Q b H'
def AP (X:Cx) (pz:List (Addr×Obj)) (σ:St) (Q:List V->Hp->Prop) (us:List Value) (s':Shared):Prop:=∃vs H',Inv X pz σ H' s'/\xa vs us/\Q vs H'
def SP (X:Cx) (pz:List (Addr×Obj)) (D:ZU) (f:Flow) (s':Shared):Prop :=
 match f with
 |.next=>∃σ' H',Inv X pz σ' H' s'/\D.nx σ' H'
 |.brk=>∃σ' H',Inv X pz σ' H' s'/\D.bk σ' H'
 |.cont=>∃σ' H',Inv X pz σ' H' s'/\D.ct σ' H'
 |.ret u=>∃v σ' H',Inv X pz σ' H' s'/\xn v u/\D.rt v H'
def PE (X:Cx) (e:Expr) (t:TE):Prop :=
 ∀(pz:List (Addr×Obj)) (s:Shared) (σ:St) (H:Hp) (Q:VK),Inv X pz σ H s->t σ H Q->wpAny (model X.prog X.w) X.A (eval e X.env) (EP X pz σ Q) X.xe s
def PT (X:Cx) (e:Expr) (t:TT):Prop :=
 ∀(pz:List (Addr×Obj)) (s:Shared) (σ:St) (H:Hp) (Q:Bool->Hp->Prop),Inv X pz σ H s->t σ H Q->wpAny (model X.prog X.w) X.A (isTrue e X.env (eval e X.env)) (TP X pz σ Q) X.xe s
def PW (X:Cx) (e:Expr) (t:TT):Prop :=
 ∀(whole:Sem Value) (pz:List (Addr×Obj)) (s:Shared) (σ:St) (H:Hp) (Q:Bool->Hp->Prop),Inv X pz σ H s->t σ H Q->wpAny (model X.prog X.w) X.A (isTrue e X.env whole) (TP X pz σ Q) X.xe s
def PW.pt {X:Cx}{e:Expr}{t:TT}(h:PW X e t):PT X e t:=h _
def PA (X:Cx) (es:List Expr) (t:TA):Prop :=
 ∀(pos:Pos) (pz:List (Addr×Obj)) (s:Shared) (σ:St) (H:Hp) (Q:List V->Hp->Prop),Inv X pz σ H s->t σ H Q->wpAny (model X.prog X.w) X.A (spliced (backTo pos (starEach es X.env))) (AP X pz σ Q) X.xe s
def PS (X:Cx) (st:Stmt) (t:TS):Prop :=
 ∀(pz:List (Addr×Obj)) (s:Shared) (σ:St) (H:Hp) (D:ZU),Inv X pz σ H s->t D σ H->wpAny (model X.prog X.w) X.A (exec st X.env) (SP X pz D) X.xe s
def PSs (X:Cx) (st:List Stmt) (t:TS):Prop :=
 ∀(pz:List (Addr×Obj)) (s:Shared) (σ:St) (H:Hp) (D:ZU),Inv X pz σ H s->t D σ H->wpAny (model X.prog X.w) X.A (execs st X.env) (SP X pz D) X.xe s
def thn {α:Type}{t:Sem α}{Q Q':α->Shared->Prop}{M:Model}{A:Around}{E:Value->Shared->Prop}{s:Shared}(h:wpAny M A t Q E s) (hQ:∀a s,Q a s->Q' a s):wpAny M A t Q' E s:=uo h hQ λ_ _ x=>x
section
variable {X:Cx}
inductive ziw (i:Nat) (σ:St) (H:Hp) (Q:VK):Prop
 |mk:∀v,(σ[i]?=some (some v))->(Q v H)->ziw i σ H Q
def xy (i:Nat):TE:=λσ H Q=>ziw i σ H Q
def tC (v:V):TE:=λ_ H Q=>Q v H
theorem zju {i:Nat}{x:Str}{pos:Pos}(hN:X.N[i]?=some x) (hv:Vis X.env.scope x) (hd:(x == ("__debug__":Str))=false:=by decide) (hcd:(x == ("__classdict__":Str))=false:=by decide):PE X (.Name x pos) (xy i):=by
 intro pz s σ H Q I h
 obtain⟨v,e,h⟩:=h
 obtain⟨m,hn,hl⟩:=I.loc
 obtain⟨u,r,l⟩:=hl i x v hN e hv
 have fin:EP X pz σ Q u s:=⟨v,H,I,r,h⟩
 rcases l with⟨hk,hm⟩ | ⟨hk,c,hc,hcell⟩
 ·exact wpAny_Name (wpAny_loadName_local I.ok.kind hk hn hm fin) hd
 ·rcases hk with hk | hk
  ·exact wpAny_Name (wpAny_loadName_cell I.ok.kind hk hc hcell fin) hd
  ·exact wpAny_Name (wpAny_loadName_free I.ok.kind hk hc hcell fin hcd) hd
theorem zh {i j pos}:PE X (.Constant (.int i) j pos) (tC (.int i)):=λ_ _ _ H _ I h=>wpAny_Constant_int ⟨.int i,H,I.tok _,⟨_,rfl⟩,h⟩
theorem jW {b j pos}:PE X (.Constant (.bool b) j pos) (tC (.bl b)):=λ_ _ _ H _ I h=>Constant_bool ⟨.bl b,H,I,rfl,h⟩
theorem xC {j pos}:PE X (.Constant .none j pos) (tC .non):=λ_ _ _ H _ I h=>Constant_none ⟨.non,H,I,rfl,h⟩
theorem Zc {x j pos}:PE X (.Constant (.str x) j pos) (tC (.str x)):=λ_ _ _ H _ I h=>Calls.Constant_str ⟨.str x,H,I.tok _,⟨_,rfl⟩,h⟩
def Gl (X:Cx) (x:Str):Prop:=X.env.kindOf x=some .globalImplicit
theorem Qx {E:Value->Shared->Prop}{pz:List (Addr×Obj)}{s:Shared}{σ:St}{H:Hp}{x:Str}{u:Value}{pos:Pos}{Q:Value->Shared->Prop}(I:Inv X pz σ H s) (hg:Gl X x) (hm:X.mg x=some u) (h:Q u s)
  (hd:(x == ("__debug__":Str))=false:=by decide):wpAny (model X.prog X.w) X.A (eval (.Name x pos) X.env) Q E s :=
 Calls.Name_function_global I.ok.kind hg (Calls.loadGlobal_global (by rw[I.ok.glob];exact I.mod.glob.keeps I.bk) hm h) hd
theorem ZC {E:Value->Shared->Prop}{pz:List (Addr×Obj)}{s:Shared}{σ:St}{H:Hp}{x:Str}{u:Value}{pos:Pos}{Q:Value->Shared->Prop}(I:Inv X pz σ H s) (hg:Gl X x) (hm:X.mg x=none) (hv:bootBuiltins x=some u) (h:Q u s)
  (hn:x≠"__name__":=by decide) (hd:(x == ("__debug__":Str))=false:=by decide):wpAny (model X.prog X.w) X.A (eval (.Name x pos) X.env) Q E s:=by
 obtain⟨mb,h1,h2⟩:=I.mod.blt
 exact Calls.Name_function_global I.ok.kind hg (Calls.loadGlobal_builtin (by rw[I.ok.glob];exact I.mod.glob.keeps I.bk) hm (by rw[I.ok.blt];exact h1.keeps I.bk) ((h2 x hn).trans hv) h) hd
theorem zan {x:Str}{v:V}{u:Value}{pos:Pos}(hg:Gl X x) (hm:X.mg x=some u) (r:xn v u) (hd:(x == ("__debug__":Str))=false:=by decide):PE X (.Name x pos) (tC v) :=
 λ_ _ _ H _ I h=>Qx I hg hm ⟨v,H,I,r,h⟩ hd
theorem Vs {x:Str}{v:V}{u:Value}{pos:Pos}(hg:Gl X x) (hm:X.mg x=none) (hv:bootBuiltins x=some u) (r:xn v u) (hn:x≠"__name__":=by decide) (hd:(x == ("__debug__":Str))=false:=by decide):PE X (.Name x pos) (tC v) :=
 λ_ _ _ H _ I h=>ZC I hg hm hv ⟨v,H,I,r,h⟩ hn hd
variable {a b:Expr}{ta tb:TE}{pos:Pos}
variable {tA tB':TT}{rest:List Expr}
def tAnd (t u:TT):TT:=λσ H Q=>t σ H λc H1=>if c=true then u σ H1 Q else Q false H1
def tOr (t u:TT):TT:=λσ H Q=>t σ H λc H1=>if c=true then Q true H1 else u σ H1 Q
def tNot (t:TT):TT:=λσ H Q=>t σ H λc H1=>Q (!c) H1
theorem qL (ha:PT X a tA):PW X (.BoolOp .And [a] pos) tA:=by
 intro wh pz s σ H Q I h
 refine isTrue_and (thn (ha pz s σ H Q I h) λc s1 e=>?_)
 cases c with
 |true=>exact isTrue_and_nil e
 |false=>exact e
theorem XT (ha:PT X a tA):PW X (.BoolOp .Or [a] pos) tA:=by
 intro wh pz s σ H Q I h
 refine isTrue_or (thn (ha pz s σ H Q I h) λc s1 e=>?_)
 cases c with
 |false=>exact isTrue_or_nil e
 |true=>exact e
theorem vR (ha:PT X a tA) (hb:PW X (.BoolOp .And (b::rest) pos) tB'):PW X (.BoolOp .And (a::b::rest) pos) (tAnd tA tB'):=by
 intro wh pz s σ H Q I h
 refine isTrue_and (thn (ha pz s σ H _ I h) λc s1 ⟨H1,I1,q1⟩=>?_)
 cases c with
 |true=>exact hb wh pz s1 σ H1 Q I1 q1
 |false=>exact⟨H1,I1,q1⟩
theorem QA (ha:PT X a tA) (hb:PW X (.BoolOp .Or (b::rest) pos) tB'):PW X (.BoolOp .Or (a::b::rest) pos) (tOr tA tB'):=by
 intro wh pz s σ H Q I h
 refine isTrue_or (thn (ha pz s σ H _ I h) λc s1 ⟨H1,I1,q1⟩=>?_)
 cases c with
 |true=>exact⟨H1,I1,q1⟩
 |false=>exact hb wh pz s1 σ H1 Q I1 q1
theorem ZH (ha:PT X a tA):PT X (.UnaryOp .Not a pos) (tNot tA):=by
 intro pz s σ H Q I h
 exact isTrue_not (ha pz s σ H (λc H1=>Q (!c) H1) I h)
inductive zgb (tb:TE) (σ:St) (Q:VK) (x:V) (H1:Hp):Prop
 |mk:∀c,(x=.bl c)->(if c=true then tb σ H1 Q else Q (.bl false) H1)->zgb tb σ Q x H1
def zlr (ta tb:TE):TE:=λσ H Q=>ta σ H λx H1=>zgb tb σ Q x H1
inductive ziu (tb:TE) (σ:St) (Q:VK) (x:V) (H1:Hp):Prop
 |mk:∀c,(x=.bl c)->(if c=true then Q (.bl true) H1 else tb σ H1 Q)->ziu tb σ Q x H1
def zkb (ta tb:TE):TE:=λσ H Q=>ta σ H λx H1=>ziu tb σ Q x H1
inductive zgf (Q:VK) (x:V) (H1:Hp):Prop
 |mk:∀c,(x=.bl c)->(Q (.bl (!c)) H1)->zgf Q x H1
def zlw (ta:TE):TE:=λσ H Q=>ta σ H λx H1=>zgf Q x H1
theorem vQ {op}{t:TE}(h:PE X a t):PE X (.BoolOp op [a] pos) t:=λpz s σ H Q I hw=>BoolOp_one (h pz s σ H Q I hw)
theorem qA (ha:PE X a ta) (hb:PE X (.BoolOp .And (b::rest) pos) tb):PE X (.BoolOp .And (a::b::rest) pos) (zlr ta tb):=by
 intro pz s σ H Q I h
 refine BoolOp_and (thn (ha pz s σ H _ I h) λv s1 ⟨x,H1,I1,r1,q1⟩=>?_)
 obtain⟨c,rfl,q1⟩:=q1
 cases r1
 refine uC ?_
 cases c with
 |true=>exact hb pz s1 σ H1 Q I1 q1
 |false=>exact⟨.bl false,H1,I1,rfl,q1⟩
theorem zla (ha:PE X a ta) (hb:PE X (.BoolOp .Or (b::rest) pos) tb):PE X (.BoolOp .Or (a::b::rest) pos) (zkb ta tb):=by
 intro pz s σ H Q I h
 refine BoolOp_or (thn (ha pz s σ H _ I h) λv s1 ⟨x,H1,I1,r1,q1⟩=>?_)
 obtain⟨c,rfl,q1⟩:=q1
 cases r1
 refine uC ?_
 cases c with
 |false=>exact hb pz s1 σ H1 Q I1 q1
 |true=>exact⟨.bl true,H1,I1,rfl,q1⟩
theorem zjt (ha:PE X a ta):PE X (.UnaryOp .Not a pos) (zlw ta):=by
 intro pz s σ H Q I h
 refine UnaryOp_ (thn (ha pz s σ H _ I h) λv s1 ⟨x,H1,I1,r1,q1⟩=>?_)
 obtain⟨c,rfl,q1⟩:=q1
 cases r1
 exact not_of (uC ⟨.bl (!c),H1,I1,rL,q1⟩)
def tIf (t:TT) (ta tb:TE):TE:=λσ H Q=>t σ H λc H1=>if c=true then ta σ H1 Q else tb σ H1 Q
theorem Qz {c:Expr}(hc:PT X c tA) (ha:PE X a ta) (hb:PE X b tb):PE X (.IfExp c a b pos) (tIf tA ta tb):=by
 intro pz s σ H Q I h
 refine wpAny_IfExp (thn (hc pz s σ H _ I h) λd s1 ⟨H1,I1,q1⟩=>?_)
 cases d with
 |true=>exact ha pz s1 σ H1 Q I1 q1
 |false=>exact hb pz s1 σ H1 Q I1 q1
end
def SqL (K:Fg) (H:Hp) (a:Addr) (xs:List V):Prop :=
 Rd H a (.lst xs) ∨
  ∃(o:Obj) (its:Array Value) (n:Nat),K.lookup a=some o/\o.cls=.type "list"/\o.dict=none/\o.data=.seq its n/\its.size<=sizeLine/\xa xs its.toList
def SqT (K:Fg) (H:Hp) (a:Addr) (xs:List V):Prop :=
 Rd H a (.tup xs) ∨
  ∃(o:Obj) (its:Array Value) (n:Nat),K.lookup a=some o/\o.cls=.type "tuple"/\o.data=.seq its n/\its.size<=sizeLine/\xa xs its.toList
def absV:Value->Option V
 |.none=>some .non
 |.bool b=>some (.bl b)
 |.int i _=>some (.int i)
 |.str x _=>some (.str x)
 |.bytes b _=>some (.byt b)
 |.float b _=>some (.flt b)
 |.ref a=>some (.ref a)
 |.type n=>some (.ty n)
 |_=>none
def xn.abs {x:V}{u:Value}(r:xn x u):absV u=some x:=by
 cases x with
 |non=>cases r;rfl
 |bl _=>cases r;rfl
 |int _=>obtain⟨t,rfl⟩:=r;rfl
 |str _=>obtain⟨t,rfl⟩:=r;rfl
 |byt _=>obtain⟨t,rfl⟩:=r;rfl
 |flt _=>obtain⟨t,rfl⟩:=r;rfl
 |ref _=>cases r;rfl
 |ty _=>cases r;rfl
def xn.inj {x y:V}{u:Value}(r:xn x u) (q:xn y u):x=y:=Option.some.inj (r.abs.symm.trans q.abs)
def xa.inj:∀{xs ys:List V}{us:List Value},xa xs us->xa ys us->xs=ys
 |_,_,_,.nil,.nil=>rfl
 |_,_,_,.cons r t,.cons r' t'=>by rw[r.inj r',xa.inj t t']
section
variable {X:Cx}{pz:List (Addr×Obj)}{σ:St}{H:Hp}{s:Shared}{a:Addr}{xs ys:List V}
theorem SqL.of {K:Fg}(h:H a=some (.lst xs)):SqL K H a xs:=.inl (.inl h)
theorem SqT.of {K:Fg}(h:H a=some (.tup xs)):SqT K H a xs:=.inl (.inl h)
theorem Inv.list (I:Inv X pz σ H s) (h:SqL X.K H a xs):∃its:List Value,xa xs its/\PlainL s.heap a its.toArray/\xs.length<=sizeLine:=by
 rcases h with h | ⟨o,its,n,hk,hc,hd,hs,hz,r⟩
 ·obtain⟨z,its,n,r,e⟩:=h.ok I.hok
  exact⟨its,r,⟨_,n,e,rL,rL,rL⟩,z⟩
 ·exists its.toList,r,⟨o,n,I.kIn a o hk,hc,hd,↥hs⟩
  have e:=r.length
  simp only[wO]at e
  lia
theorem Inv.tuple (I:Inv X pz σ H s) (h:SqT X.K H a xs):∃its:List Value,xa xs its/\IsTup s.heap a its.toArray/\xs.length<=sizeLine:=by
 rcases h with h | ⟨o,its,n,hk,hc,hs,hz,r⟩
 ·obtain⟨z,its,r,p⟩:=h.ok I.hok
  exact⟨its,r,p,z⟩
 ·exists its.toList,r,⟨o,I.kIn a o hk,hc,n,↥hs⟩
  have e:=r.length
  simp only[wO]at e
  lia
theorem Inv.list_inj (I:Inv X pz σ H s) (h:SqL X.K H a xs) (h':SqL X.K H a ys):xs=ys:=by
 obtain⟨its,r,⟨o,n,e,_,_,d⟩,_⟩:=I.list h
 obtain⟨its',r',⟨o',n',e',_,_,d'⟩,_⟩:=I.list h'
 rw[e]at e';cases e'
 rw[d]at d'
 injection d' with d1 _
 have:its=its':=by simpa using congrArg Array.toList d1
 subst this
 exact r.inj r'
theorem Inv.tuple_inj (I:Inv X pz σ H s) (h:SqT X.K H a xs) (h':SqT X.K H a ys):xs=ys:=by
 obtain⟨its,r,⟨o,e,_,n,d⟩,_⟩:=I.tuple h
 obtain⟨its',r',⟨o',e',_,n',d'⟩,_⟩:=I.tuple h'
 rw[e]at e';cases e'
 rw[d]at d'
 injection d' with d1 _
 have:its=its':=by simpa using congrArg Array.toList d1
 subst this
 exact r.inj r'
end
abbrev Cx.wish (X:Cx) (E:Value->Shared->Prop):Cx:={ X with xe:=E }
abbrev Cx.nox (X:Cx):Cx:=X.wish λ_ _=>False
def Cx.Ok.wish {X:Cx}(ok:X.Ok) (E:Value->Shared->Prop):(X.wish E).Ok :=
 ⟨ok.mod,ok.kind,ok.glob,ok.blt,ok.above,ok.inj,ok.has,ok.cab,ok.hd,ok.frames,ok.stk,ok.exf,ok.bs,ok.bsz,ok.noex,ok.exfs,ok.funs,ok.frf⟩
def Cx.Ok.unwish {X:Cx}{E:Value->Shared->Prop}(ok:(X.wish E).Ok):X.Ok :=
 ⟨ok.mod,ok.kind,ok.glob,ok.blt,ok.above,ok.inj,ok.has,ok.cab,ok.hd,ok.frames,ok.stk,ok.exf,ok.bs,ok.bsz,ok.noex,ok.exfs,ok.funs,ok.frf⟩
section
variable {X:Cx}{pz:List (Addr×Obj)}{σ:St}{H:Hp}{s:Shared}{E:Value->Shared->Prop}
theorem Inv.wish (I:Inv X pz σ H s) (E:Value->Shared->Prop):Inv (X.wish E) pz σ H s:=⟨I.ok.wish E,I.os,I.bare,I.base,I.loc,I.cell,I.free,I.freeC,I.pin,I.hok,I.len⟩
theorem Inv.unwish (I:Inv (X.wish E) pz σ H s):Inv X pz σ H s:=⟨I.ok.unwish,I.os,I.bare,I.base,I.loc,I.cell,I.free,I.freeC,I.pin,I.hok,I.len⟩
theorem SP.unwish {D:ZU}{f:Flow}{s':Shared}(h:SP (X.wish E) pz D f s'):SP X pz D f s':=by
 cases f with
 |next=>obtain⟨σ',H',I,q⟩:=h;exact⟨σ',H',I.unwish,q⟩
 |brk=>obtain⟨σ',H',I,q⟩:=h;exact⟨σ',H',I.unwish,q⟩
 |cont=>obtain⟨σ',H',I,q⟩:=h;exact⟨σ',H',I.unwish,q⟩
 |ret u=>obtain⟨v,σ',H',I,r,q⟩:=h;exact⟨v,σ',H',I.unwish,r,q⟩
theorem PSs.nox {st:List Stmt}{t:TS}(h:PSs X.nox st t):PSs X st t:=λpz s σ H D I hw =>
 uo (h pz s σ H D (I.wish _) hw) (λ_ _ q=>q.unwish) λ_ _ z=>False.elim z
end
section
variable {X:Cx}{st:Stmt}{rest:List Stmt}{t u:TS}{e:Expr}{te:TE}{pos:Pos}
def zit:TS:=λD σ H=>D.nx σ H
def zbt (t u:TS):TS:=λD σ H=>t { D with nx:=u D } σ H
theorem zT:PSs X [] zit:=λ_ _ σ H _ I h=>Ym ⟨σ,H,I,h⟩
theorem ze (h1:PS X st t) (h2:PSs X rest u):PSs X (st::rest) (zbt t u):=by
 intro pz s σ H D I h
 refine wpAny_execs_cons (thn (h1 pz s σ H { D with nx:=u D } I h) λf s1 q=>?_)
 cases f with
 |next =>
  obtain⟨σ',H',I',q⟩:=q
  exact h2 pz s1 σ' H' D I' q
 |ret v=>exact q
 |brk=>exact q
 |cont=>exact q
theorem zo (h1:PS X st t):PSs X [st] t:=by
 intro pz s σ H D I h
 refine wpAny_execs_cons (thn (h1 pz s σ H D I h) λf s1 q=>?_)
 cases f with
 |next=>exact Ym q
 |ret v=>exact q
 |brk=>exact q
 |cont=>exact q
theorem Inv.quiet {pz:List (Addr×Obj)}{σ:St}{H:Hp}{s:Shared}(I:Inv X pz σ H s):interactive X.env=false:=by simp[interactive,I.ok.kind]
def zlt (te:TE):TS:=λD σ H=>te σ H λ_ H1=>D.nx σ H1
theorem qi (he:PE X e te) (hs:swapsWith e none pos.line X.env=pure false:=by rfl):PS X (.Expr e pos) (zlt te):=by
 intro pz s σ H D I h
 exact wpAny_Expr_any (thn (he pz s σ H _ I h) λv s1 ⟨x,H1,I1,r1,q1⟩=>⟨σ,H1,I1,q1⟩) I.quiet hs
def zgg (te:TE):TS:=λD σ H=>te σ H D.rt
theorem zE (he:PE X e te):PS X (.Return (some e) pos) (zgg te):=by
 intro pz s σ H D I h
 exact wpAny_Return_some (thn (he pz s σ H _ I h) λv s1 ⟨x,H1,I1,r1,q1⟩=>⟨x,σ,H1,I1,r1,q1⟩)
def tIfS (c:TT) (t u:TS):TS:=λD σ H=>c σ H λb H1=>if b=true then t D σ H1 else u D σ H1
theorem xf {c:Expr}{a b:List Stmt}{tc:TT}(hc:PT X c tc) (ha:PSs X a t) (hb:PSs X b u):PS X (.If c a b pos) (tIfS tc t u):=by
 intro pz s σ H D I h
 refine wpAny_If (thn (hc pz s σ H _ I h) λd s1 ⟨H1,I1,q1⟩=>?_)
 cases d with
 |true=>exact ha pz s1 σ H1 D I1 q1
 |false=>exact hb pz s1 σ H1 D I1 q1
def zge:TS:=λ_ _ _=>False
theorem zfu:PS X st zge:=λ_ _ _ _ _ _ h=>h.elim
theorem Zs {sts:List Stmt}:PSs X sts zge:=λ_ _ _ _ _ _ h=>h.elim
end
abbrev TG:=V->St->Hp->(St->Hp->Prop)->Prop
abbrev TGs:=List V->St->Hp->(St->Hp->Prop)->Prop
def PG (X:Cx) (target:Expr) (t:TG):Prop :=
 ∀(pz:List (Addr×Obj)) (s:Shared) (σ:St) (H:Hp) (v:V) (u:Value) (Q:St->Hp->Prop),Inv X pz σ H s->xn v u->t v σ H Q →
  wpAny (model X.prog X.w) X.A (assign target X.env u) (λ_ s'=>∃σ' H',Inv X pz σ' H' s'/\Q σ' H') X.xe s
def PGs (X:Cx) (ts:List Expr) (t:TGs):Prop :=
 ∀(pz:List (Addr×Obj)) (s:Shared) (σ:St) (H:Hp) (vs:List V) (us:List Value) (Q:St->Hp->Prop),Inv X pz σ H s->xa vs us->t vs σ H Q →
  wpAny (model X.prog X.w) X.A (assignInOrder ((assignEach ts X.env).map (·.2)) us) (λ_ s'=>∃σ' H',Inv X pz σ' H' s'/\Q σ' H') X.xe s
abbrev ziA:=V->V->V->Hp->(Hp->Prop)->Prop
def zkt (X:Cx) (t:ziA):Prop :=
 ∀(pz:List (Addr×Obj)) (s:Shared) (σ:St) (H:Hp) (o i v:V) (ov iv u:Value) (Q:Hp->Prop),Inv X pz σ H s->xn o ov->xn i iv->xn v u->t o i v H Q →
  wpAny (model X.prog X.w) X.A (setItem ov iv u) (λ_ s'=>∃H',Inv X pz σ H' s'/\Q H') X.xe s
abbrev TIp:=V->V->Hp->VK->Prop
def PIp (X:Cx) (op:Operator) (t:TIp):Prop :=
 ∀(pz:List (Addr×Obj)) (s:Shared) (σ:St) (H:Hp) (x y:V) (v u:Value) (Q:VK),Inv X pz σ H s->xn x v->xn y u->t x y H Q →
  wpAny (model X.prog X.w) X.A (inplaceOp op v u) (EP X pz σ Q) X.xe s
section
variable {X:Cx}{pos:Pos}
def zG (i:Nat):TG:=λv σ H Q=>Q (σ.set i (some v)) H
theorem Vt {i:Nat}{x:Str}(hN:X.N.Nodup) (hi:X.N[i]?=some x) (hx:Loc X.env.scope x) (hf:X.fn x=true\/X.env.scope.names.lookup x=some .local := by first | exact .inl rfl | exact .inr rfl | assumption):PG X (.Name x pos) (zG i):=by
 intro pz s σ H v u Q I r h
 exact wpAny_assign_Name (Xi I hN hi hx r (λs' I'=>⟨_,H,I',h⟩) hf)
theorem pgl {i:Nat}{x:Str}{pos:Pos}(hN:X.N.Nodup) (hi:X.N[i]?=some x:=by rfl) (hx:Loc X.env.scope x:=by exact Or.inl rfl) (hf:X.fn x=true\/X.env.scope.names.lookup x=some .local := by first | exact .inl rfl | exact .inr rfl | assumption):PG X (.Name x pos) (zG i):=Vt hN hi hx hf
def zbR:TGs:=λvs σ H Q=>vs=[]/\Q σ H
def Zm (t:TG) (u:TGs):TGs:=λvs σ H Q=>∃v r,vs=v::r/\t v σ H λσ' H'=>u r σ' H' Q
theorem xO:PGs X [] zbR:=by
 intro pz s σ H vs us Q I r h
 obtain⟨e,h⟩:=h
 subst e
 cases r
 exact assignInOrder_nil ⟨σ,H,I,h⟩
theorem zP {e:Expr}{es:List Expr}{t:TG}{u:TGs}(h1:PG X e t) (h2:PGs X es u)
  (hs:(assignEach (e::es) X.env).map (·.2)=assign e X.env::(assignEach es X.env).map (·.2):=by rfl):PGs X (e::es) (Zm t u):=by
 intro pz s σ H vs us Q I r h
 obtain⟨v,vr,e1,h⟩:=h
 subst e1
 cases r with
 |cons r rr =>
  rw[hs]
  refine assignInOrder_cons (thn (h1 pz s σ H _ _ _ I r h) λ_ s1 ⟨σ1,H1,I1,q1⟩=>?_)
  exact h2 pz s1 σ1 H1 _ _ Q I1 rr q1
def zaT (K:Fg) (n:Nat) (t:TGs):TG:=λv σ H Q=>∃a xs,v=.ref a/\SqT K H a xs/\xs.length=n/\t xs σ H Q
theorem qZ {es:List Expr}{k:Nat}{t:TGs}{n:Nat}(hc:X.calm=true) (h:PGs X es t)
  (hn:(assignEach es X.env).length=n:=by rfl) (hst:(assignEach es X.env).findIdx? (·.1)=none:=by rfl):PG X (.Tuple es k pos) (zaT X.K n t):=by
 intro pz s σ H v u Q I r hw
 obtain⟨a,xs,e1,hq,hl,hw⟩:=hw
 subst e1
 cases r
 obtain⟨its,rv,ht,hz⟩:=I.tuple hq
 refine assign_Tuple_tuple (I.ok.hd hc) ht (by simp[hn,<-hl,rv.length]) hst λh' hx=>?_
 have I1:Inv X pz σ H { s with heap:=h' }:=I.kept (t':=s.toks) λb o e=>hx b o (wW (wE e)) e
 exact h pz _ σ H xs _ Q I1 ↥rv hw
def gSub (to ti:TE) (t:ziA):TG:=λv σ H Q=>to σ H λo H1=>ti σ H1 λi H2=>t o i v H2 λH3=>Q σ H3
theorem zfq {o i:Expr}{to ti:TE}{t:ziA}(ho:PE X o to) (hi:PE X i ti) (hs:zkt X t)
  (ha:∀v,assign (.Subscript o i pos) X.env v=(do
   let ov <-holding [v] (eval o X.env)
   let iv <-holding [v,ov] (eval i X.env)
   standAt pos
   holding [v,ov,iv] (setItem ov iv v)
   release [v,ov,iv] []):=by intro _;rfl):PG X (.Subscript o i pos) (gSub to ti t):=by
 intro pz s σ H v u Q I r h
 rw[ha]
 refine we (yV (thn (ho pz s σ H _ I h) λov s1 ⟨x,H1,I1,r1,q1⟩=>?_))
 refine we (yV (thn (hi pz s1 σ H1 _ I1 q1) λiv s2 ⟨y,H2,I2,r2,q2⟩=>?_))
 refine we (YO (we (yV (thn (hs pz s2 σ H2 x y v ov iv u _ I2 r1 r2 r q2) λ_ s3 ⟨H3,I3,q3⟩=>?_))))
 exact wpAny_release ⟨σ,H3,I3,q3⟩
def zcj (te:TE) (g:TG):TS:=λD σ H=>te σ H λx H1=>g x σ H1 D.nx
theorem Ze {tg e:Expr}{te:TE}{g:TG}(he:PE X e te) (hg:PG X tg g) (hs:swapsWithSole [tg] e pos.line X.env=pure false:=by rfl) (hw:swappedStores [tg] e X.env=pure none:=by rfl)
  (h1:(assignEach [tg] X.env).map (·.2)=[assign tg X.env]:=by rfl):PS X (.Assign [tg] e pos) (zcj te g):=by
 intro pz s σ H D I h
 refine wpAny_Assign_stores (thn (he pz s σ H _ I h) λv s1 ⟨x,H1,I1,r1,q1⟩=>?_) hs hw
 rw[h1]
 exact thn (hg pz s1 σ H1 x v _ I1 r1 q1) λ_ s2 q=>q
theorem ZF {i:Nat}{x:Str}{e:Expr}{te:TE}{pos':Pos}(hN:X.N.Nodup) (hi:X.N[i]?=some x) (hx:Loc X.env.scope x) (he:PE X e te) (hs:swapsWith e (some (.Name x pos')) pos.line X.env=pure false:=by rfl) (hf:X.fn x=true\/X.env.scope.names.lookup x=some .local := by first | exact .inl rfl | exact .inr rfl | assumption) :
  PS X (.Assign [.Name x pos'] e pos) (zcj te (zG i)):=by
 intro pz s σ H D I h
 refine wpAny_Assign_Name (thn (he pz s σ H _ I h) λv s1 ⟨y,H1,I1,r1,q1⟩=>?_) hs
 exact Xi I1 hN hi hx r1 (λs2 I2=>⟨_,H1,I2,q1⟩) hf
theorem psl {i:Nat}{x:Str}{e:Expr}{te:TE}{pos pos':Pos}(hN:X.N.Nodup) (he:PE X e te) (hi:X.N[i]?=some x:=by rfl) (hx:Loc X.env.scope x:=by exact Or.inl rfl) (hs:swapsWith e (some (.Name x pos')) pos.line X.env=pure false:=by rfl) (hf:X.fn x=true\/X.env.scope.names.lookup x=some .local := by first | exact .inl rfl | exact .inr rfl | assumption) :
  PS X (.Assign [.Name x pos'] e pos) (zcj te (zG i)):=ZF hN hi hx he hs hf
def tPar (i j:Nat) (ta:TA):TS:=λD σ H=>ta σ H λvs H1=>∃v w,vs=[v,w]/\D.nx ((σ.set i (some v)).set j (some w)) H1
theorem XS {i j:Nat}{x y:Str}{a b:Expr}{ta:TA}{px py pt:Pos} {kt k2 pt2} (hc:X.calm=true) (hN:X.N.Nodup) (hi:X.N[i]?=some x) (hj:X.N[j]?=some y) (hij:i≠j)
  (hx:X.env.scope.names.lookup x=some .local) (hy:X.env.scope.names.lookup y=some .local) (ha:PA X [a,b] ta)
  (hw:swappedStores [.Tuple [.Name x px,.Name y py] kt pt] (.Tuple [a,b] k2 pt2) X.env=pure (some [x,y]))
  (hs:swapsWithSole [.Tuple [.Name x px,.Name y py] kt pt] (.Tuple [a,b] k2 pt2) pos.line X.env=pure false:=by rfl) :
  PS X (.Assign [.Tuple [.Name x px,.Name y py] kt pt] (.Tuple [a,b] k2 pt2) pos) (tPar i j ta):=by
 intro pz s σ H D I h
 rw[exec_Assign_arm]
 refine we (YO ?_)
 rw[hs]
 refine we (wq ?_)
 rw[if_neg ⇑1]
 refine we (Tuple_ (thn (ha _ pz s σ H _ I h) λus s1 ⟨vs,H1,I1,r1,q1⟩=>?_))
 obtain⟨v,w,e1,q1⟩:=q1
 subst e1
 obtain⟨u1,u2,rfl,rv,rw'⟩:∃u1 u2,us=[u1,u2]/\xn v u1/\xn w u2:=by
  cases r1 with
  |cons p q =>
   cases q with
   |cons p' q' =>
    cases q'
    exact⟨021,p,p'⟩
 refine uM ?_ (⇑5)
 have I2:Inv X pz σ H1 { s1 with heap:=s1.heap.push { cls:=.type "tuple",data:=.seq [u1,u2].toArray } }:=I1.kept (t':=s1.toks) λb o e=>wg _ e
 rw[hw]
 refine we (wq ?_)
 show wpAny (model X.prog X.w) X.A (do rule "assign.swapped-stores";let items <-unpackItems (.ref s1.heap.objs.size) 2 none;assignInOrder [λv=>bindName X.env y v,λv=>bindName X.env x v] items.reverse;pure Flow.next) _ _ _
 refine we (Yg (we (unpackItems_tuple (items:=#[u1,u2]) (I.ok.hd hc) (IsTup.new s1.heap _) λh' hx'=>?_)))
 have I3:=I2.kept (h':=h') (t':=s1.toks) λb o e=>hx' b o (wW (wE e)) e
 show wpAny _ _ (assignInOrder [λv=>bindName X.env y v,λv=>bindName X.env x v] [u2,u1] >>= λ_=>pure Flow.next) _ _ _
 refine we (assignInOrder_cons (wpAny_bindName (Xi I3 hN hj (.inl hy) rw' (λs2 I4=>?_) (.inr hy))))
 refine assignInOrder_cons (wpAny_bindName (Xi I4 hN hi (.inl hx) rv (λs3 I5=>assignInOrder_nil (wq ?_)) (.inr hx)))
 rw[List.set_comm _ _ (Ne.symm hij)]at I5
 exact⟨_,H1,I5,q1⟩
def tAug (i:Nat) (te:TE) (ti:TIp):TS:=λD σ H=>∃x,σ[i]?=some (some x)/\te σ H λy H1=>ti x y H1 λz H2=>D.nx (σ.set i (some z)) H2
theorem zjx {i:Nat}{x:Str}{e:Expr}{te:TE}{op:Operator}{ti:TIp}{pos':Pos}(hN:X.N.Nodup) (hi:X.N[i]?=some x) (hx:Loc X.env.scope x) (he:PE X e te) (ho:PIp X op ti) (hf:X.fn x=true\/X.env.scope.names.lookup x=some .local := by first | exact .inl rfl | exact .inr rfl | assumption) :
  PS X (.AugAssign (.Name x pos') op e pos) (tAug i te ti):=by
 intro pz s σ H D I h
 obtain⟨v,e1,h⟩:=h
 obtain⟨m,hn,hl⟩:=I.loc
 have vis:Vis X.env.scope x:=by rcases hx with k | k;exact .inl k;exact .inr (.inl k)
 obtain⟨u,r,l⟩:=hl i x v hi e1 vis
 refine wpAny_AugAssign_Name ?_
 have go:wpAny (model X.prog X.w) X.A (eval e X.env) (λw s₂=>wpAny (model X.prog X.w) X.A (inplaceOp op u w) (λr s₃=>wpAny (model X.prog X.w) X.A (storeName X.env x r) (λ_=>SP X pz D .next) X.xe s₃) X.xe s₂) X.xe s:=by
  refine thn (he pz s σ H _ I h) λw s1 ⟨y,H1,I1,r1,q1⟩=>?_
  refine thn (ho pz s1 σ H1 v y u w _ I1 r r1 q1) λz s2 ⟨zv,H2,I2,r2,q2⟩=>?_
  exact Xi I2 hN hi hx r2 (λs3 I3=>⟨_,H2,I3,q2⟩) hf
 rcases l with⟨hk,hm⟩ | ⟨hk,c,hc,hcell⟩
 ·exact wpAny_loadName_local I.ok.kind hk hn hm go
 ·rcases hk with hk | hk
  ·exact wpAny_loadName_cell I.ok.kind hk hc hcell go
  ·rcases hx with k | k
   ·have:X.env.scope.names.lookup x=some .free:=hk
    rw[k]at this;cases this
   ·have:X.env.scope.names.lookup x=some .free:=hk
    rw[k]at this;cases this
def zgi (c:TT) (tb:TS):TS:=λD σ H=>∃W:Nat->St->Hp->Prop,(∃m,W m σ H)/\∀m σ H,W m σ H →
 c σ H λb H1=>if b=true then ∃N:St->Hp->Prop,(∀σ' H',N σ' H'->∃m',m'<m/\W m' σ' H')/\tb { D with nx:=N,ct:=N,bk:=D.nx } σ H1 else D.nx σ H1
theorem zbb {c:Expr}{body:List Stmt}{tc:TT}{tb:TS}(hp:PassesOwn (model X.prog X.w) X.A X.env X.xe) (hc:PT X c tc) (hb:PSs X body tb):PS X (.While c body [] pos) (zgi tc tb):=by
 intro pz s σ H D I h
 obtain⟨W,⟨m0,w0⟩,turn⟩:=h
 refine wpAny_While (codeAny_whileLoop (λn s'=>∃σ' H',Inv X pz σ' H' s'/\W n σ' H') ?_ m0 ⟨σ,H,I,w0⟩)
 rintro n s1 ⟨σ1,H1,I1,w1⟩
 refine We hp (thn (hc pz s1 σ1 H1 _ I1 (turn n σ1 H1 w1)) λb s2 ⟨H2,I2,q2⟩=>?_)
 cases b with
 |true =>
  obtain⟨N,hN,q2⟩:=q2
  rw[if_pos rfl]
  refine We hp (thn (hb pz s2 σ1 H2 _ I2 q2) λf s3 q3=>?_)
  cases f with
  |next =>
   obtain⟨σ3,H3,I3,n3⟩:=q3
   obtain⟨m',hm,w3⟩:=hN σ3 H3 n3
   exact⟨m',hm,σ3,H3,I3,w3⟩
  |cont =>
   obtain⟨σ3,H3,I3,n3⟩:=q3
   obtain⟨m',hm,w3⟩:=hN σ3 H3 n3
   exact⟨m',hm,σ3,H3,I3,w3⟩
  |brk=>exact q3
  |ret v=>exact q3
 |false =>
  rw[if_neg ye]
  exact Ym ⟨σ1,H2,I2,q2⟩
end
structure It where
 go:Nat->Hp->Prop
 yld:Nat->Hp->V->Hp->Prop
 stop:Nat->Hp->Prop
def VD (X:Cx) (pz:List (Addr×Obj)) (H:Hp) (b:Addr):Prop :=
 H b=none/\b≠X.env.locals/\b∉X.fs/\(b∈X.ex\/X.s₀.heap.objs.size<=b)/\(∀x c,X.env.cells.lookup x=some c->c≠b)/\∀p∈X.pn++pz,p.1≠b
def Inv.fpOk {X:Cx}{pz:List (Addr×Obj)}{σ:St}{H H':Hp}{s:Shared}{b:Addr}(I:Inv X pz σ H s) (hb:s.heap.objs.size<=b) (hn:H' b=none):VD X pz H' b:=by
 refine⟨hn,WE (w8 I.lt hb),I.nofs hb,.inr (yF I.sz hb),λx c e z=>?_,λp hp z=>?_⟩
 ·obtain⟨v,q⟩:=I.cell x c e
  exact absurd (w8 q.lt (by rw[z];exact hb)) (uD _)
 ·exact absurd (w8 (wE (I.pin p hp).1) (by rw[z];exact hb)) (uD _)
structure zgu (P:Program) (w:World) (K:Fg) (tg:Expr) (J:It) (fp:List Addr) (it:Addr) (tn:Nat->Heap->Prop):Prop where
 mem:it∈fp
 obj:∀i h,tn i h->∀b∈fp,∃o,h.get? b=some o/\∀v,o.data≠.cell v
 keep:∀i h h',tn i h->(∀b∈fp,∀o,h.get? b=some o->h'.get? b=some o)->tn i h'
 item:∀(X:Cx),X.prog=P->X.w=w->X.K=K->X.calm=true->∀(i:Nat) (pz:List (Addr×Obj)) (s:Shared) (σ:St) (H:Hp) (E:Value->Shared->Prop),Inv X pz σ H s->(∀b∈fp,VD X pz H b)->tn i s.heap->J.go i H →
  wpAny (model P w) X.A (pyNext (.ref it)) (λr s1=>∃u,r=some u ∧
   wpAny (model P w) X.A (letOwnedTupleGo tg (.ref it) u) (λ_ s2=>∃x H',Inv X pz σ H' s2/\xn x u/\J.yld i H x H'/\tn (i+1) s2.heap/\∀b∈fp,H' b=none) E s1) E s
 done:∀(X:Cx),X.prog=P->X.w=w->X.K=K->X.calm=true->∀(i:Nat) (pz:List (Addr×Obj)) (s:Shared) (σ:St) (H:Hp) (E:Value->Shared->Prop),Inv X pz σ H s->(∀b∈fp,VD X pz H b)->tn i s.heap->J.stop i H →
  wpAny (model P w) X.A (pyNext (.ref it)) (λr s1=>r=none/\Inv X pz σ H s1) E s
 self:∀(A:Around) (i:Nat) (s:Shared) (Q:Value->Shared->Prop) (E:Value->Shared->Prop),tn i s.heap->Q (.ref it) s->wpAny (model P w) A (pyIter (.ref it)) Q E s
abbrev TI:=St->Hp->(It->Hp->Prop)->Prop
def PIE (X:Cx) (pz:List (Addr×Obj)) (σ:St) (tg:Expr) (R:It->Hp->Prop) (itv:Value) (s2:Shared):Prop :=
 ∃(it:Addr) (fp:List Addr) (tn:Nat->Heap->Prop) (J:It) (H':Hp),itv=.ref it/\Inv X pz σ H' s2/\zgu X.prog X.w X.K tg J fp it tn/\tn 0 s2.heap/\(∀b∈fp,VD X pz H' b)/\R J H'
def PI (X:Cx) (tg iter:Expr) (wi:TI):Prop :=
 ∀(pz:List (Addr×Obj)) (s:Shared) (σ:St) (H:Hp) (R:It->Hp->Prop),Inv X pz σ H s->wi σ H R →
  wpAny (model X.prog X.w) X.A (eval iter X.env) (λv s1=>wpAny (model X.prog X.w) X.A (pyIter v) (PIE X pz σ tg R) X.xe s1) X.xe s
def zeO {M:Model}{A:Around}{E:Value->Shared->Prop}{s:Shared}{tg:Expr}{it:Addr}{u:Value}{o:Obj}{n:String}{vs:Array Value}{Q:Unit->Shared->Prop}(ho:s.heap.get? it=some o) (hc:o.cls=.type n) (hd:o.data=.fields vs)
  (hn:["enumerate","zip","dict_itemiterator","dict_reverseitemiterator","odict_iterator","itertools.zip_longest","itertools.pairwise"].contains n=false) (hQ:Q () s):wpAny M A (letOwnedTupleGo tg (.ref it) u) Q E s:=by
 unfold letOwnedTupleGo
 cases tg <;> first
  |exact wq hQ
  | (cases u <;> first
    |exact wq hQ
    | (refine we (Uh ho ?_)
       rw[hc,hd]
       show wpAny M A (if(["enumerate","zip","dict_itemiterator","dict_reverseitemiterator","odict_iterator","itertools.zip_longest","itertools.pairwise"].contains n&&vs[0]? == some (rawInt _))=true then _ else _) Q E s
       rw[if_neg (by intro h;rw[hn,Bool.false_and]at h;cases h)]
       exact wq hQ))
def Itl (K:Fg) (a:Addr):It :=
 ⟨λi H=>∃xs x,SqL K H a xs/\xs[i]?=some x,λi H x H'=>H'=H/\∀xs,SqL K H a xs->xs[i]?=some x,λi H=>∃xs,SqL K H a xs/\xs.length<=i⟩
def Itt (K:Fg) (a:Addr):It :=
 ⟨λi H=>∃xs x,SqT K H a xs/\xs[i]?=some x,λi H x H'=>H'=H/\∀xs,SqT K H a xs->xs[i]?=some x,λi H=>∃xs,SqT K H a xs/\xs.length<=i⟩
def Itr (lo:Int) (n:Nat):It:=⟨λi _=>i<n,λi H x H'=>H'=H/\x=.int (lo+i),λi _=>n<=i⟩
def zd9 {P:Program}{w:World}{K:Fg}{tg:Expr}(a it:Addr):zgu P w K tg (Itl K a) [it] it (λi h=>h.IsListIter it a i) where
 mem:=by simp
 obj:=λi h st b hb=>by
  have e:b=it:=↥hb
  subst e
  obtain⟨o,e,c,d⟩:=st
  exact⟨o,e,λv z=>by rw[d]at z;cases z⟩
 keep:=λi h h' st k=>st.at λo e=>k it (by simp) o e
 item:=by
  intro X hP hw hK hc i pz s σ H E I hf st hg
  subst hP hw hK
  obtain⟨xs,x,hq,hx⟩:=hg
  obtain⟨its,rv,p,hz⟩:=I.list hq
  obtain⟨u,hu,ru⟩:=rv.get hx
  obtain⟨f0,f1,f2,f3,f4,f5⟩:=hf it (by simp)
  refine wpAny_pyNext_list_item st p.isList (x:=u) ↥hu λh' st' sb=>?_
  have I1:Inv X pz σ H { s with heap:=h' }:=I.turned (t':=s.toks) (λb o hb e=>(sb.2 b hb).trans e) f0 f1 f3 f4 f5
  obtain⟨o,e,c,d⟩:=id st'
  exact⟨u,rfl,zeO (s:={ s with heap:=h' }) e c d ⇑1 ⟨x,H,I1,ru,⟨rfl,λys hy=>by rw[I.list_inj hy hq];exact hx⟩,st',λb hb=>(hf b hb).1⟩⟩
 done:=by
  intro X hP hw hK hc i pz s σ H E I hf st hg
  subst hP hw hK
  obtain⟨xs,hq,hx⟩:=hg
  obtain⟨its,rv,p,hz⟩:=I.list hq
  obtain⟨f0,f1,f2,f3,f4,f5⟩:=hf it (by simp)
  have hl:=rv.length
  exact wpAny_pyNext_list_end (I.ok.hd hc) st p.isList (by simp;lia) λh' eb=>⟨rfl,I.turned (t':=s.toks) (λb o hb e=>eb b o hb e) f0 f1 f3 f4 f5⟩
 self:=λ_ _ _ _ _ st h=>wpAny_pyIter_listiter st h
def zcl {P:Program}{w:World}{K:Fg}{tg:Expr}(a it:Addr):zgu P w K tg (Itt K a) [it] it (λi h=>h.IsTupleIter it a i) where
 mem:=by simp
 obj:=λi h st b hb=>by
  have e:b=it:=↥hb
  subst e
  obtain⟨o,e,c,d⟩:=st
  exact⟨o,e,λv z=>by rw[d]at z;cases z⟩
 keep:=λi h h' st k=>st.at λo e=>k it (by simp) o e
 item:=by
  intro X hP hw hK hc i pz s σ H E I hf st hg
  subst hP hw hK
  obtain⟨xs,x,hq,hx⟩:=hg
  obtain⟨its,rv,p,hz⟩:=I.tuple hq
  obtain⟨u,hu,ru⟩:=rv.get hx
  obtain⟨f0,f1,f2,f3,f4,f5⟩:=hf it (by simp)
  refine wpAny_pyNext_tuple_item st (show s.heap.IsTuple a its.toArray from p) (x:=u) ↥hu λh' st' sb=>?_
  have I1:Inv X pz σ H { s with heap:=h' }:=I.turned (t':=s.toks) (λb o hb e=>(sb.2 b hb).trans e) f0 f1 f3 f4 f5
  obtain⟨o,e,c,d⟩:=id st'
  exact⟨u,rfl,zeO (s:={ s with heap:=h' }) e c d ⇑1 ⟨x,H,I1,ru,⟨rfl,λys hy=>by rw[I.tuple_inj hy hq];exact hx⟩,st',λb hb=>(hf b hb).1⟩⟩
 done:=by
  intro X hP hw hK hc i pz s σ H E I hf st hg
  subst hP hw hK
  obtain⟨xs,hq,hx⟩:=hg
  obtain⟨its,rv,p,hz⟩:=I.tuple hq
  obtain⟨f0,f1,f2,f3,f4,f5⟩:=hf it (by simp)
  have hl:=rv.length
  exact wpAny_pyNext_tuple_end (I.ok.hd hc) st (show s.heap.IsTuple a its.toArray from p) (by simp;lia) λh' eb=>⟨rfl,I.turned (t':=s.toks) (λb o hb e=>eb b o hb e) f0 f1 f3 f4 f5⟩
 self:=λ_ _ _ _ _ st h=>wpAny_pyIter_tupleiter st h
def zck {P:Program}{w:World}{K:Fg}{tg:Expr}(it:Addr) (lo:Int) (n:Nat):zgu P w K tg (Itr lo n) [it] it (λi h=>IsRangeIter h it (lo+(i:Nat)*1) ((n:Int)-(i:Nat)) 1) where
 mem:=by simp
 obj:=λi h st b hb=>by
  have e:b=it:=↥hb
  subst e
  exact⟨_,st,λv z=>by
   have z':Data.fields _=Data.cell v:=z
   cases z'⟩
 keep:=λi h h' st k=>k it (by simp) _ st
 item:=by
  intro X hP hw hK hc i pz s σ H E I hf st hg
  subst hP hw hK
  obtain⟨f0,f1,f2,f3,f4,f5⟩:=hf it (by simp)
  have W:=Walks.range (prog:=X.prog) (w:=X.w) (I.ok.hd hc) it lo 1 n
  refine W.item i s _ _ hg st λv h' tk hv st' kk=>?_
  obtain⟨t,rfl⟩:=hv
  have I1:Inv X pz σ H { s with heap:=h',toks:=tk }:=I.turned (λb o hb e=>kk b o ↥hb e) f0 f1 f3 f4 f5
  refine⟨00,zeO (s:={ s with heap:=h',toks:=tk }) (n:="range_iterator") st' rfl rfl ⇑1 ⟨.int (lo+i),H,I1,⟨t,?_⟩,⟨rfl,rfl⟩,st',λb hb=>(hf b hb).1⟩⟩
  rw[YJ]
 done:=by
  intro X hP hw hK hc i pz s σ H E I hf st hg
  subst hP hw hK
  obtain⟨f0,f1,f2,f3,f4,f5⟩:=hf it (by simp)
  exact wpAny_pyNext_range_end (I.ok.hd hc) st (by have:n<=i:=hg;lia) λh' eb=>⟨rfl,I.turned (t':=s.toks) (λb o hb e=>eb b o hb e) f0 f1 f3 f4 f5⟩
 self:=λ_ _ _ _ _ st h=>wpAny_pyIter_rangeiter st h
section
variable {X:Cx}{tg:Expr}
def zh8 (K:Fg) (tl:TE):TI:=λσ H R=>tl σ H λx H1=>∃a,x=.ref a/\(∃xs,SqL K H1 a xs)/\R (Itl K a) H1
def zgR (K:Fg) (tl:TE):TI:=λσ H R=>tl σ H λx H1=>∃a,x=.ref a/\(∃xs,SqT K H1 a xs)/\R (Itt K a) H1
theorem xg {l:Expr}{tl:TE}(hl:PE X l tl):PI X tg l (zh8 X.K tl):=by
 intro pz s σ H R I h
 refine thn (hl pz s σ H _ I h) λv s1 ⟨x,H1,I1,r1,q1⟩=>?_
 obtain⟨a,e,⟨xs,hq⟩,q⟩:=q1
 subst e
 cases r1
 obtain⟨its,rv,p,hz⟩:=I1.list hq
 refine YH p.isList ?_
 refine⟨s1.heap.objs.size,[s1.heap.objs.size],_,_,H1,rL,I1.kept (t':=s1.toks) λb o e=>wg _ e,zd9 a _,⟨_,wJ _ rL,rL,rL⟩,λb hb=>?_,q⟩
 have e:b=s1.heap.objs.size:=↥hb
 subst e
 exact I1.fpOk (wn _) (I1.hok.fresh (wn _))
theorem QS {l:Expr}{tl:TE}(hl:PE X l tl):PI X tg l (zgR X.K tl):=by
 intro pz s σ H R I h
 refine thn (hl pz s σ H _ I h) λv s1 ⟨x,H1,I1,r1,q1⟩=>?_
 obtain⟨a,e,⟨xs,hq⟩,q⟩:=q1
 subst e
 cases r1
 obtain⟨its,rv,p,hz⟩:=I1.tuple hq
 refine wpAny_pyIter_tuple (show s1.heap.IsTuple a its.toArray from p) ?_
 refine⟨s1.heap.objs.size,[s1.heap.objs.size],_,_,H1,rL,I1.kept (t':=s1.toks) λb o e=>wg _ e,zcl a _,⟨_,wJ _ rL,rL,rL⟩,λb hb=>?_,q⟩
 have e:b=s1.heap.objs.size:=↥hb
 subst e
 exact I1.fpOk (wn _) (I1.hok.fresh (wn _))
theorem zbe {pz:List (Addr×Obj)}{σ:St}{H:Hp}{s:Shared}{R:It->Hp->Prop}{E:Value->Shared->Prop}{lo hi:Int}{t u v:Tok}{tk:Nat}(I:Inv X pz σ H s) (h1 : -(2^62)<=lo) (h2:lo<2^62) (h3 : -(2^62)<=hi) (h4:hi<2^62)
  (q:R (Itr lo (hi-lo).toNat) H):wpAny (model X.prog X.w) X.A (pyIter (.ref s.heap.objs.size)) (PIE X pz σ tg R) E { s with heap:=s.heap.push { cls:=.type "range",data:=.fields #[.int lo t,.int hi u,.int 1 v] },toks:=tk }:=by
 refine wpAny_pyIter_range (IsRange.new ..) (small_one h1 h2 h3 h4) ?_
 have I1:Inv X pz σ H { s with heap:=s.heap.push { cls:=.type "range",data:=.fields #[.int lo t,.int hi u,.int 1 v] },toks:=tk }:=I.kept λb o e=>wg _ e
 refine⟨(s.heap.push { cls:=.type "range",data:=.fields #[.int lo t,.int hi u,.int 1 v] }).objs.size,[(s.heap.push { cls:=.type "range",data:=.fields #[.int lo t,.int hi u,.int 1 v] }).objs.size],_,_,H,rL,
  I1.kept (t':=tk) λb o e=>wg _ e,zck _ lo (hi-lo).toNat,?_,λb hb=>?_,q⟩
 ·have e1:lo+((0:Nat):Int)*1=lo:=by simp
  have e2:(((hi-lo).toNat:Nat):Int)-((0:Nat):Int)=Builtin.Range.rangeSize lo hi 1:=by rw[rangeSize_one];split <;> lia
  show IsRangeIter _ _ (lo+((0:Nat):Int)*1) ((((hi-lo).toNat:Nat):Int)-((0:Nat):Int)) 1
  rw[e1,e2]
  exact wJ _ rL
 ·have e:b=(s.heap.push { cls:=.type "range",data:=.fields #[.int lo t,.int hi u,.int 1 v] }).objs.size:=↥hb
  subst e
  exact I1.fpOk (wn _) (I1.hok.fresh (wn _))
def zkB (ta:TA):TI:=λσ H R=>ta σ H λvs H1=>∃j:Int,vs=[.int j] ∧ -(2^62)<=j/\j<2^62/\R (Itr 0 j.toNat) H1
def zkC (ta:TA):TI:=λσ H R=>ta σ H λvs H1=>∃i j:Int,vs=[.int i,.int j]/\(-(2^62)<=i/\i<2^62 ∧ -(2^62)<=j/\j<2^62)/\R (Itr i (j-i).toNat) H1
theorem Zr {a:Expr}{ta:TA}{p pos:Pos}(O:Gl X "range") (U:X.mg "range" = none) (S:PA X [a] ta) (hs:starEach [a] X.env=[(false,eval a X.env)]:=by rfl):PI X tg (.Call (.Name "range" p) [a] [] pos) (zkB ta):=by
 intro pz s σ H R I h
 refine Call_ (ZC I O U boot_range (yN (thn (S pos pz s σ H _ I h) λus V ⟨vs,H1,I1,r1,F⟩=>?_) hs rL))
 obtain⟨j,e,F,G,q⟩:=F
 subst e
 cases r1 with
 |cons r rr =>
  cases rr
  obtain⟨t,rfl⟩:=r
  exact call_range_1 (zbe I1 ∅ ∅ F G ↥q)
theorem zdV {a b:Expr}{ta:TA}{p pos:Pos}(U:Gl X "range") (Y:X.mg "range" = none) (W:PA X [a,b] ta) (hs:starEach [a,b] X.env=[(false,eval a X.env),(false,eval b X.env)]:=by rfl) (F:starEach [b] X.env=[(false,eval b X.env)]:=by rfl) :
  PI X tg (.Call (.Name "range" p) [a,b] [] pos) (zkC ta):=by
 intro pz s σ H R I h
 refine Call_ (ZC I U Y boot_range (yN (thn (W pos pz s σ H _ I h) λus s1 ⟨vs,H1,I1,r1,G⟩=>?_) (by rw[hs,F]) (by rw[F];rfl)))
 obtain⟨i,j,e,⟨G,S,O,V⟩,q⟩:=G
 subst e
 cases r1 with
 |cons r rr =>
  cases rr with
  |cons r' rr =>
   cases rr
   obtain⟨t,rfl⟩:=r
   obtain⟨t',rfl⟩:=r'
   exact call_range_2 (zbe I1 G S O V q)
def tFor (wi:TI) (g:TG) (tb:TS):TS:=λD σ H=>wi σ H λJ H1=>∃W:Nat->Nat->St->Hp->Prop,(∃m,W 0 m σ H1)/\∀i m σ H,W i m σ H →
 (J.stop i H/\D.nx σ H)\/(J.go i H/\∃N:St->Hp->Prop,(∀σ' H',N σ' H'->∃m',m'<m/\W (i+1) m' σ' H')/\∀x H',J.yld i H x H'->g x σ H' λσ2 H2=>tb { D with nx:=N,ct:=N,bk:=D.nx } σ2 H2)
def QT (fp:List Addr) (h:Heap):List (Addr×Obj):=fp.filterMap λb=>(h.get? b).map λo=>(b,o)
theorem qX {F:List Addr}{h:Heap}{b:Addr}{o:Obj}(G:b∈F) (e:h.get? b=some o):(b,o)∈QT F h:=Yr.mpr ⟨b,G,by rw[e];rfl⟩
theorem zdS {F:List Addr}{h:Heap}{p:Addr×Obj}(G:p∈QT F h):p.1∈F/\h.get? p.1=some p.2:=by
 obtain⟨b,I,e⟩:=Yr.mp G
 cases q:h.get? b with
 |none=>rw[q]at e;cases e
 |some o =>
  rw[q]at e
  have O:(b,o)=p:=Option.some.inj e
  subst O
  exact⟨I,q⟩
theorem Inv.pinned {pz:List (Addr×Obj)}{σ:St}{H:Hp}{s:Shared}{F:List Addr}(I:Inv X pz σ H s) (V:∀b∈F,VD X pz H b) (W:∀b∈F,∃o,s.heap.get? b=some o/\∀v,o.data≠.cell v):Inv X (pz++QT F s.heap) σ H s :=
 I.pins_of λp U=>(ya.mp U).elim (λz=>I.pin p (yj _ z)) λz=>by
  obtain⟨G,e⟩:=zdS z
  obtain⟨S,f1,f2,_⟩:=V p.1 G
  obtain⟨o,O,d⟩:=W p.1 G
  rw[e]at O;cases O
  exact⟨e,S,f1,f2,d⟩
theorem Inv.unpinned {pz pl:List (Addr×Obj)}{σ:St}{H:Hp}{s:Shared}(I:Inv X (pz++pl) σ H s):Inv X pz σ H s:=I.pins_of λp F=>I.pin p (yj _ (Wz _ F))
theorem va {iter:Expr}{a1:List Stmt}{wi:TI}{g:TG}{tb:TS}{pos:Pos}(hp:PassesOwn (model X.prog X.w) X.A X.env X.xe) (hc:X.calm=true) (hi:PI X tg iter wi) (hg:PG X tg g) (O:PSs X a1 tb)
  (hs:∀x,foldedSetIterable iter X.env x=pure x:=by intro _;rfl):PS X (.For tg iter a1 [] pos) (tFor wi g tb):=by
 intro pz s σ H D I h
 refine wpAny_For (thn (hi pz s σ H _ I h) λv s1 h1=>thn h1 λa7 s2 h2=>?_) hs
 obtain⟨it,fp,tn,J,H2,e,I2,T,a5,f2,W,⟨m0,w0⟩,a4⟩:=h2
 subst e
 have F:∀{H':Hp},(∀b∈fp,H' b=none)->∀b∈fp,VD X pz H' b:=λhn b O=>⟨hn b O,(f2 b O).2⟩
 refine codeAny_forLoop_any (λn s'=>∃i σ' H',Inv X pz σ' H' s'/\tn i s'.heap/\(∀b∈fp,H' b=none)/\W i n σ' H') ?_ m0 ⟨0,σ,H2,I2,a5,λb O=>(f2 b O).1,w0⟩
 rintro n s3 ⟨i,σ3,H3,I3,a2,a3,w3⟩
 rcases a4 i n σ3 H3 w3 with⟨stop,qn⟩ | ⟨go,N,hN,step⟩
 ·refine We hp (thn (T.done X rL rL rL hc i pz s3 σ3 H3 X.xe I3 (F a3) a2 stop) λr s4 ⟨hr,I4⟩=>?_)
  subst hr
  exact Ym ⟨σ3,H3,I4,qn⟩
 ·refine We hp (thn (T.item X rL rL rL hc i pz s3 σ3 H3 X.xe I3 (F a3) a2 go) λr s4 ⟨u,hr,h4⟩=>?_)
  subst hr
  refine We hp (thn h4 λ_ s5 ⟨x,H5,I5,r5,y5,st5,fr5⟩=>?_)
  have a6:=I5.pinned (F fr5) (T.obj _ _ st5)
  refine We hp (thn (hg _ s5 σ3 H5 x u _ a6 r5 (step x H5 y5)) λ_ s6 ⟨σ6,H6,I6,q6⟩=>?_)
  refine We hp (thn (O _ s6 σ6 H6 _ I6 q6) λf s7 Y=>?_)
  have V:∀{U:St}{S:Hp},Inv X (pz++QT fp s5.heap) U S s7->N U S->∃m,m<n/\∃i σ' H',Inv X pz σ' H' s7/\tn i s7.heap/\(∀b∈fp,H' b=none)/\W i m σ' H':=λ{U S} G n7=>by
   obtain⟨m',hm,w7⟩:=hN U S n7
   refine⟨m',hm,i+1,U,S,G.unpinned,T.keep _ _ _ st5 λb O o e=>(G.pin (b,o) (yj _ (yj _ (qX O e)))).1,λb O=>?_,w7⟩
   obtain⟨o,e,d⟩:=T.obj _ _ st5 b O
   exact(G.pin (b,o) (yj _ (yj _ (qX O e)))).2.1
  cases f with
  |next=>obtain⟨U,S,G,n7⟩:=Y;exact V G n7
  |cont=>obtain⟨U,S,G,n7⟩:=Y;exact V G n7
  |brk=>obtain⟨U,S,G,Y⟩:=Y;exact⟨U,S,G.unpinned,Y⟩
  |ret v=>obtain⟨x7,U,S,G,r7,Y⟩:=Y;exact⟨x7,U,S,G.unpinned,r7,Y⟩
end
def vt {K:Fg}{a:Addr}{xs:List V}{g:TG}{tb:TS}{D:ZU}{σ:St}{H:Hp}(F:Nat->St->Hp->Prop) (S:F 0 σ H) (U:∀i σ H,i<=xs.length->F i σ H->SqL K H a xs)
  (hs:∀i x σ H,xs[i]?=some x->F i σ H->g x σ H λI H2=>tb { D with nx:=F (i+1),ct:=F (i+1),bk:=D.nx } I H2) (hd:∀σ H,F xs.length σ H->D.nx σ H) :
  ∃W:Nat->Nat->St->Hp->Prop,(∃m,W 0 m σ H)/\∀i m σ H,W i m σ H →
   ((Itl K a).stop i H/\D.nx σ H)\/((Itl K a).go i H/\∃N:St->Hp->Prop,(∀G H',N G H'->∃O,O<m/\W (i+1) O G H')/\∀x H',(Itl K a).yld i H x H'->g x σ H' λI H2=>tb { D with nx:=N,ct:=N,bk:=D.nx } I H2):=by
 exists λi m σ H=>m=xs.length-i/\i<=xs.length/\F i σ H,⟨xs.length,by simp,yb _,S⟩
 rintro i m σ H ⟨rfl,hi,p⟩
 have q:=U i σ H hi p
 by_cases hlt:i<xs.length
 ·refine .inr ⟨⟨xs,xs[i],q,by simp[hlt]⟩,F (i+1),λG H' Y=>⟨xs.length-(i+1),by lia,rfl,hlt,Y⟩,λx H' y=>?_⟩
  obtain⟨e,y⟩:=y
  subst e
  exact hs i x σ _ (y xs q) p
 ·have e:i=xs.length:=by lia
  subst e
  exact .inl ⟨⟨xs,q,wn _⟩,hd σ H p⟩
def Jy {lo:Int}{n:Nat}{g:TG}{tb:TS}{D:ZU}{σ:St}{H:Hp}(F:Nat->St->Hp->Prop) (S:F 0 σ H)
  (hs:∀i σ H,i<n->F i σ H->g (.int (lo+i)) σ H λI H2=>tb { D with nx:=F (i+1),ct:=F (i+1),bk:=D.nx } I H2) (hd:∀σ H,F n σ H->D.nx σ H) :
  ∃W:Nat->Nat->St->Hp->Prop,(∃m,W 0 m σ H)/\∀i m σ H,W i m σ H →
   ((Itr lo n).stop i H/\D.nx σ H)\/((Itr lo n).go i H/\∃N:St->Hp->Prop,(∀G H',N G H'->∃O,O<m/\W (i+1) O G H')/\∀x H',(Itr lo n).yld i H x H'->g x σ H' λI H2=>tb { D with nx:=N,ct:=N,bk:=D.nx } I H2):=by
 exists λi m σ H=>m=n-i/\i<=n/\F i σ H,⟨n,by simp,yb _,S⟩
 rintro i m σ H ⟨rfl,hi,p⟩
 by_cases hlt:i<n
 ·refine .inr ⟨hlt,F (i+1),λG H' U=>⟨n-(i+1),by lia,rfl,hlt,U⟩,λx H' y=>?_⟩
  obtain⟨e,y⟩:=y
  subst e y
  exact hs i σ _ hlt p
 ·have e:i=n:=by lia
  subst e
  exact .inl ⟨wn _,hd σ H p⟩
def zbC {c:TT}{tb:TS}{D:ZU}{σ:St}{H:Hp}(G:St->Hp->Prop) (μ:St->Hp->Nat) (O:G σ H)
  (hs:∀σ H,G σ H->c σ H λb H1=>if b=true then tb { D with nx:=λF H'=>G F H'/\μ F H'<μ σ H,ct:=λF H'=>G F H'/\μ F H'<μ σ H,bk:=D.nx } σ H1 else D.nx σ H1)
  (mono:∀σ H Q I,(∀b H1,Q b H1->I b H1)->c σ H Q->c σ H I):zgi c tb D σ H:=by
 exists λm σ H=>m=μ σ H/\G σ H,⟨00,O⟩
 rintro m σ H ⟨rfl,p⟩
 refine mono σ H _ _ (λb H1 q=>?_) (hs σ H p)
 cases b with
 |true=>exact⟨_,λF H' ⟨S,l⟩=>⟨_,l,rfl,S⟩,q⟩
 |false=>exact q
abbrev R2:=V->V->Hp->VK->Prop
def OpR (X:Cx) (f:Value->Value->Sem Value) (r:R2):Prop :=
 ∀(pz:List (Addr×Obj)) (s:Shared) (σ:St) (H:Hp) (x y:V) (v u:Value) (Q:VK),Inv X pz σ H s->xn x v->xn y u->r x y H Q →
  wpAny (model X.prog X.w) X.A (f v u) (EP X pz σ Q) X.xe s
def UnR (X:Cx) (f:Value->Sem Value) (r:V->Hp->VK->Prop):Prop :=
 ∀(pz:List (Addr×Obj)) (s:Shared) (σ:St) (H:Hp) (x:V) (v:Value) (Q:VK),Inv X pz σ H s->xn x v->r x H Q →
  wpAny (model X.prog X.w) X.A (f v) (EP X pz σ Q) X.xe s
def vD (X:Cx) (f:Value) (r:List V->Hp->VK->Prop):Prop :=
 ∀(pz:List (Addr×Obj)) (s:Shared) (σ:St) (H:Hp) (xs:List V) (us:List Value) (Q:VK),Inv X pz σ H s->xa xs us->r xs H Q →
  wpAny (model X.prog X.w) X.A (call f us) (EP X pz σ Q) X.xe s
def TruR (X:Cx) (r:V->Hp->(Bool->Hp->Prop)->Prop):Prop :=
 ∀(pz:List (Addr×Obj)) (s:Shared) (σ:St) (H:Hp) (x:V) (v:Value) (Q:Bool->Hp->Prop),Inv X pz σ H s->xn x v->r x H Q →
  wpAny (model X.prog X.w) X.A (truthy v) (TP X pz σ Q) X.xe s
def tOp (r:R2) (ta tb:TE):TE:=λσ H Q=>ta σ H λx H1=>tb σ H1 λy H2=>r x y H2 Q
def tUn (r:V->Hp->VK->Prop) (ta:TE):TE:=λσ H Q=>ta σ H λx H1=>r x H1 Q
inductive rIQ (C:Int->Int->Prop) (g:Int->Int->V) (x:V) (y:V) (H:Hp) (Q:VK):Prop
 |mk:∀i j,(x=.int i)->(y=.int j)->(C i j)->(Q (g i j) H)->rIQ C g x y H Q
def rI (C:Int->Int->Prop) (g:Int->Int->V):R2:=λx y H Q=>rIQ C g x y H Q
inductive zlc (g:Int->Int->V) (x:V) (y:V) (H:Hp) (Q:VK):Prop
 |mk:∀i j,(x=.int i)->(y=.int j)->(Q (g i j) H)->zlc g x y H Q
def rI0 (g:Int->Int->V):R2:=λx y H Q=>zlc g x y H Q
def rU (g:Int->V):V->Hp->VK->Prop:=λx H Q=>∃i,x=.int i/\Q (g i) H
section
variable {X:Cx}{a b c:Expr}{ta tb tc:TE}{pos:Pos}
theorem ziE (U:PE X a ta) (G:PE X b tb){pz:List (Addr×Obj)}{s:Shared}{σ:St}{H:Hp}{R:V->V->Hp->Prop}(I:Inv X pz σ H s)
  (h:ta σ H λx H1=>tb σ H1 λy H2=>R x y H2){Q:Value->Shared->Prop}{f:Value->Value->Sem Value}
  (O:∀v u F x y H2,Inv X pz σ H2 F->xn x v->xn y u->R x y H2->wpAny (model X.prog X.w) X.A (f v u) Q X.xe F) :
  wpAny (model X.prog X.w) X.A (eval a X.env) (λv S=>wpAny (model X.prog X.w) X.A (eval b X.env) (λu Y=>wpAny (model X.prog X.w) X.A (f v u) Q X.xe Y) X.xe S) X.xe s:=by
 refine thn (U pz s σ H _ I h) λv W ⟨x,H1,I1,r1,q1⟩=>?_
 refine thn (G pz W σ H1 _ I1 q1) λu F ⟨y,H2,I2,r2,q2⟩=>?_
 exact O v u F x y H2 I2 r1 r2 q2
theorem zy {F:Operator}{r:R2}(W:OpR X (binaryOp F) r) (U:PE X a ta) (G:PE X b tb):PE X (.BinOp a F b pos) (tOp r ta tb):=by
 intro pz s σ H Q I h
 exact wpAny_BinOp (ziE U G I h λv u S x y H2 O Y V q=>W pz S σ H2 x y v u Q O Y V q)
theorem jX {F:UnaryOp}{r:V->Hp->VK->Prop}(O:UnR X (unaryOp F) r) (G:PE X a ta):PE X (.UnaryOp F a pos) (tUn r ta):=by
 intro pz s σ H Q I h
 exact UnaryOp_ (thn (G pz s σ H _ I h) λv S ⟨x,H1,I1,r1,q1⟩=>O pz S σ H1 x v Q I1 r1 q1)
theorem opI {f:Value->Value->Sem Value}{C:Int->Int->Prop}{g:Int->Int->Int}
  (rule:∀(i j:Int) (t u:Tok) (s:Shared) (Q:Value->Shared->Prop) (E:Value->Shared->Prop),C i j->Q (.int (g i j) s.toks) { s with toks:=s.toks+1 }->wpAny (model X.prog X.w) X.A (f (.int i t) (.int j u)) Q E s) :
  OpR X f (rI C λi j=>.int (g i j)):=by
 intro pz s σ H x y v u Q I rx ry h
 obtain⟨i,j,rfl,rfl,hc,q⟩:=h
 obtain⟨t,rfl⟩:=rx
 obtain⟨t',rfl⟩:=ry
 exact rule i j t t' s _ _ hc ⟨.int (g i j),H,I.tok _,⟨_,rL⟩,q⟩
theorem zk7 {f:Value->Value->Sem Value}{g:Int->Int->Int}
  (rule:∀(i j:Int) (t u:Tok) (s:Shared) (Q:Value->Shared->Prop) (E:Value->Shared->Prop),Q (.int (g i j) s.toks) { s with toks:=s.toks+1 }->wpAny (model X.prog X.w) X.A (f (.int i t) (.int j u)) Q E s) :
  OpR X f (rI0 λi j=>.int (g i j)):=by
 intro pz s σ H x y v u Q I rx ry h
 obtain⟨i,j,rfl,rfl,q⟩:=h
 obtain⟨t,rfl⟩:=rx
 obtain⟨t',rfl⟩:=ry
 exact rule i j t t' s _ _ ⟨.int (g i j),H,I.tok _,⟨_,rL⟩,q⟩
theorem zhk {f:Value->Value->Sem Value}{g:Int->Int->Bool}
  (F:∀(i j:Int) (t u:Tok) (s:Shared) (Q:Value->Shared->Prop) (E:Value->Shared->Prop),Q (.bool (g i j)) s->wpAny (model X.prog X.w) X.A (f (.int i t) (.int j u)) Q E s) :
  OpR X f (rI0 λi j=>.bl (g i j)):=by
 intro pz s σ H x y v u Q I S O h
 obtain⟨i,j,rfl,rfl,q⟩:=h
 obtain⟨t,rfl⟩:=S
 obtain⟨G,rfl⟩:=O
 exact F i j t G s _ _ ⟨.bl (g i j),H,I,rL,q⟩
def CDiv (i j:Int):Prop:=0<j/\j<1073741824
def CPow (i j:Int):Prop:=0<=j/\j<=1000000/\i.natAbs<2^64
def ziy (i j:Int):Prop:=(-(2^64)<i/\i<2^64)\/(-(2^64)<j/\j<2^64)
theorem ziy.ok {i j:Int}(h:ziy i j):IntMulOk i j:=by
 rcases h with⟨h1,h2⟩ | ⟨h1,h2⟩
 ·exact .of_left (intBits_le_64 h1 h2)
 ·exact .of_right (intBits_le_64 h1 h2)
theorem xr:OpR X (binaryOp .Add) (rI0 λi j=>.int (i+j)):=zk7 λ_ _ _ _ _ _ _ q=>add_int q
theorem qo:OpR X (binaryOp .Sub) (rI0 λi j=>.int (i-j)):=zk7 λ_ _ _ _ _ _ _ q=>sub_int q
theorem XO:OpR X (binaryOp .Mult) (rI ziy λi j=>.int (i*j)):=opI λ_ _ _ _ _ _ _ F q=>mul_int q F.ok
theorem zcR:OpR X (binaryOp .FloorDiv) (rI CDiv λi j=>.int (i/j)):=opI λi j _ _ _ _ _ hc q=>by
 have h1:(0:Int)<j:=hc.1
 have h2:j<1073741824:=hc.2
 exact floordiv_int (by omega) (by rw[wD i (by omega)];exact q) (.inl (PyProof.noPylong_small (by omega)))
theorem vO:OpR X (binaryOp .Mod) (rI (λ_ j=>0<j) λi j=>.int (i % j)):=opI λi j _ _ _ _ _ hc q=>by
 exact mod_int' ∅ (by rw[Int.fmod_eq_emod_of_nonneg i ∅];exact q)
theorem VW:OpR X (binaryOp .Pow) (rI CPow λi j=>.int (i^j.toNat)):=opI λ_ _ _ _ _ _ _ hc q=>pow_int_small hc.1 hc.2.1 hc.2.2 q
theorem unI {f:Value->Sem Value}{g:Int->Int}
  (rule:∀(i:Int) (t:Tok) (s:Shared) (Q:Value->Shared->Prop) (E:Value->Shared->Prop),Q (.int (g i) s.toks) { s with toks:=s.toks+1 }->wpAny (model X.prog X.w) X.A (f (.int i t)) Q E s) :
  UnR X f (rU λi=>.int (g i)):=by
 intro pz s σ H x v Q I rx h
 obtain⟨i,rfl,q⟩:=h
 obtain⟨t,rfl⟩:=rx
 exact rule i t s _ _ ⟨.int (g i),H,I.tok _,⟨_,rL⟩,q⟩
theorem qS:UnR X (unaryOp .USub) (rU λi=>.int (-i)):=unI λ_ _ _ _ _ q=>neg_int q
end
def zlo:V->V->Bool
 |.non,.non=>true | .non,.int _=>true | .int _,.non=>true | .non,.bl _=>true | .bl _,.non=>true | .non,.str _=>true | .str _,.non=>true
 |.int _,.int _=>true | .bl _,.bl _=>true | .str _,.str _=>true | .byt _,.byt _=>true
 |.int _,.str _=>true | .str _,.int _=>true | .bl _,.str _=>true | .str _,.bl _=>true
 |_,_=>false
def rEq:R2:=λx y H Q=>zlo x y=true/\Q (.bl (decide (x=y))) H
def rNe:R2:=λx y H Q=>zlo x y=true/\Q (.bl (!decide (x=y))) H
def zcx {i j:Int}:decide (V.int i=V.int j)=(i == j):=by
 rw[u8]
 simp
def zeq {i j:Bool}:decide (V.bl i=V.bl j)=(i == j):=by
 rw[u8]
 simp
def zcy {i j:Str}:decide (V.str i=V.str j)=(i == j):=by
 rw[u8]
 simp
def zcw {i j:Array UInt8}:decide (V.byt i=V.byt j)=(i.toList == j.toList):=by
 rw[u8]
 cases i
 cases j
 simp
section
variable {X:Cx}{a b c:Expr}{ta tb tc:TE}{pos:Pos}
theorem xk {pz:List (Addr×Obj)}{σ:St}{H:Hp}{s:Shared}{Q:VK}{k k':Bool}(I:Inv X pz σ H s) (q:Q (.bl k) H) (e:k=k'):EP X pz σ Q (.bool k') s:=by
 subst e
 exact⟨.bl k,H,I,rL,q⟩
theorem ZP:OpR X (compareOp .Eq) rEq:=by
 intro pz s σ H x y v u Q I rx ry h
 obtain⟨hs,q⟩:=h
 cases x with
 |non =>
  cases rx
  cases y with
  |non=>cases ry;exact PySem.EqNone.eq_none_none (xk I q (by simp))
  |bl j=>cases ry;exact PySem.EqNone.eq_none_bool (xk I q (by simp))
  |int j=>obtain⟨t',rfl⟩:=ry;exact PySem.EqNone.eq_none_int (xk I q (by simp))
  |str j=>obtain⟨t',rfl⟩:=ry;exact PySem.EqNone.eq_none_str (xk I q (by simp))
  |_=>exact absurd (show false=true from hs) ye
 |bl i =>
  cases rx
  cases y with
  |non=>cases ry;exact PySem.EqNone.eq_bool_none (xk I q (by simp))
  |bl j=>cases ry;exact eq_bool (xk I q zeq)
  |str j=>obtain⟨t',rfl⟩:=ry;exact PySem.EqMixed.eq_bool_str (xk I q (by simp))
  |_=>exact absurd (show false=true from hs) ye
 |int i =>
  obtain⟨t,rfl⟩:=rx
  cases y with
  |non=>cases ry;exact PySem.EqNone.eq_int_none (xk I q (by simp))
  |int j=>obtain⟨t',rfl⟩:=ry;exact eq_int (xk I q zcx)
  |str j=>obtain⟨t',rfl⟩:=ry;exact PySem.EqMixed.eq_int_str (xk I q (by simp))
  |_=>exact absurd (show false=true from hs) ye
 |str i =>
  obtain⟨t,rfl⟩:=rx
  cases y with
  |non=>cases ry;exact PySem.EqNone.eq_str_none (xk I q (by simp))
  |bl j=>cases ry;exact PySem.EqMixed.eq_str_bool (xk I q (by simp))
  |int j=>obtain⟨t',rfl⟩:=ry;exact PySem.EqMixed.eq_str_int (xk I q (by simp))
  |str j=>obtain⟨t',rfl⟩:=ry;exact eq_str (xk I q zcy)
  |_=>exact absurd (show false=true from hs) ye
 |byt i =>
  obtain⟨t,rfl⟩:=rx
  cases y with
  |byt j=>obtain⟨t',rfl⟩:=ry;exact PySem.W.eq_bytes (xk I q zcw)
  |_=>exact absurd (show false=true from hs) ye
 |_=>cases y <;> exact absurd (show false=true from hs) ye
theorem zk9:OpR X (compareOp .NotEq) rNe:=by
 intro pz s σ H x y v u Q I rx ry h
 obtain⟨hs,q⟩:=h
 cases x with
 |non =>
  cases rx
  cases y with
  |non=>cases ry;exact PySem.EqNone.ne_none_none (xk I q (by simp))
  |bl j=>cases ry;exact PySem.EqNone.ne_none_bool (xk I q (by simp))
  |int j=>obtain⟨t',rfl⟩:=ry;exact PySem.EqNone.ne_none_int (xk I q (by simp))
  |str j=>obtain⟨t',rfl⟩:=ry;exact PySem.EqNone.ne_none_str (xk I q (by simp))
  |_=>exact absurd (show false=true from hs) ye
 |bl i =>
  cases rx
  cases y with
  |non=>cases ry;exact PySem.EqNone.ne_bool_none (xk I q (by simp))
  |bl j=>cases ry;exact ne_bool (xk I q (congrArg not zeq))
  |str j=>obtain⟨t',rfl⟩:=ry;exact PySem.EqMixed.ne_bool_str (xk I q (by simp))
  |_=>exact absurd (show false=true from hs) ye
 |int i =>
  obtain⟨t,rfl⟩:=rx
  cases y with
  |non=>cases ry;exact PySem.EqNone.ne_int_none (xk I q (by simp))
  |int j=>obtain⟨t',rfl⟩:=ry;exact ne_int (xk I q (congrArg not zcx))
  |str j=>obtain⟨t',rfl⟩:=ry;exact PySem.EqMixed.ne_int_str (xk I q (by simp))
  |_=>exact absurd (show false=true from hs) ye
 |str i =>
  obtain⟨t,rfl⟩:=rx
  cases y with
  |non=>cases ry;exact PySem.EqNone.ne_str_none (xk I q (by simp))
  |bl j=>cases ry;exact PySem.EqMixed.ne_str_bool (xk I q (by simp))
  |int j=>obtain⟨t',rfl⟩:=ry;exact PySem.EqMixed.ne_str_int (xk I q (by simp))
  |str j=>obtain⟨t',rfl⟩:=ry;exact ne_str (xk I q (congrArg not zcy))
  |_=>exact absurd (show false=true from hs) ye
 |byt i =>
  obtain⟨t,rfl⟩:=rx
  cases y with
  |byt j=>obtain⟨t',rfl⟩:=ry;exact PySem.W.ne_bytes (xk I q (congrArg not zcw))
  |_=>exact absurd (show false=true from hs) ye
 |_=>cases y <;> exact absurd (show false=true from hs) ye
theorem Zo:OpR X (compareOp .Lt) (rI0 λi j=>.bl (decide (i<j))):=zhk λ_ _ _ _ _ _ _ q=>lt_int q
theorem zic:OpR X (compareOp .LtE) (rI0 λi j=>.bl (decide (i<=j))):=zhk λ_ _ _ _ _ _ _ q=>le_int q
theorem XB:OpR X (compareOp .Gt) (rI0 λi j=>.bl (decide (j<i))):=zhk λ_ _ _ _ _ _ _ q=>gt_int q
theorem zk8:OpR X (compareOp .GtE) (rI0 λi j=>.bl (decide (j<=i))):=zhk λ_ _ _ _ _ _ _ q=>ge_int q
theorem qY:OpR X (compareOp .Is) (λx y H Q=>y=.non/\Q (.bl (decide (x=.non))) H):=by
 intro pz s σ H x y v u Q I rx ry h
 obtain⟨rfl,q⟩:=h
 cases ry
 refine is_none_gen (xk I q ?_)
 cases x <;> first
  | (cases rx;rfl)
  | (obtain⟨t,rfl⟩:=rx;rfl)
theorem ZD:OpR X (compareOp .IsNot) (λx y H Q=>y=.non/\Q (.bl (!decide (x=.non))) H):=by
 intro pz s σ H x y v u Q I rx ry h
 obtain⟨rfl,q⟩:=h
 cases ry
 refine isnot_none_gen (xk I q ?_)
 cases x <;> first
  | (cases rx;rfl)
  | (obtain⟨t,rfl⟩:=rx;rfl)
theorem zH (b:Expr){op:CmpOp}(h:op≠.In:=by decide) (h2:op≠.NotIn:=by decide):behindInMarks op b=false:=by
 have e1:(op == CmpOp.In)=false:=by cases op <;> first | rfl | exact absurd rfl h
 have e2:(op == CmpOp.NotIn)=false:=by cases op <;> first | rfl | exact absurd rfl h2
 cases b <;> simp[behindInMarks,e1,e2]
theorem qz {op:CmpOp}{r:R2}(ho:OpR X (compareOp op) r) (ha:PE X a ta) (hb:PE X b tb) (hm:behindInMarks op b=false):PE X (.Compare a [op] [b] pos) (tOp r ta tb):=by
 intro pz s σ H Q I h
 exact wpAny_Compare1 (ziE ha hb I h λv u s2 x y H2 I2 rx ry q=>ho pz s2 σ H2 x y v u Q I2 rx ry q) hm
def ziv (t:TE):TT:=λσ H Q=>t σ H λx H'=>∃k,x=.bl k/\Q k H'
theorem zF {op:CmpOp}{r:R2}(ho:OpR X (compareOp op) r) (ha:PE X a ta) (hb:PE X b tb) (hm:behindInMarks op b=false):PT X (.Compare a [op] [b] pos) (ziv (tOp r ta tb)):=by
 intro pz s σ H Q I h
 refine wpAny_isTrue_Compare1 (thn (ha pz s σ H _ I h) λv s1 ⟨x,H1,I1,r1,q1⟩=>thn (hb pz s1 σ H1 _ I1 q1) λu s2 ⟨y,H2,I2,r2,q2⟩ =>
  thn (ho pz s2 σ H2 x y v u _ I2 r1 r2 q2) λc s3 ⟨z,H3,I3,r3,k,e,q3⟩=>?_) hm
 subst e
 cases r3
 exact uC ⟨H3,I3,q3⟩
def zgc (r r':R2) (ta tb tc:TE):TE:=λσ H Q=>ta σ H λx H1=>tb σ H1 λy H2=>r x y H2 λz H3=>∃k,z=.bl k ∧
 (if k=true then tc σ H3 λw' H4=>r' y w' H4 Q else Q (.bl false) H3)
theorem zfm {op op':CmpOp}{r r':R2}(ho:OpR X (compareOp op) r) (ho':OpR X (compareOp op') r') (ha:PE X a ta) (hb:PE X b tb) (hc:PE X c tc)
  (hm:lastMarks [op,op'] [b,c]=false:=by with_unfolding_all rfl):PE X (.Compare a [op,op'] [b,c] pos) (zgc r r' ta tb tc):=by
 intro pz s σ H Q I h
 refine Compare_chain (thn (ha pz s σ H _ I h) λv s1 ⟨x,H1,I1,r1,q1⟩=>chain_link (thn (hb pz s1 σ H1 _ I1 q1) λu s2 ⟨y,H2,I2,r2,q2⟩ =>
  thn (ho pz s2 σ H2 x y v u _ I2 r1 r2 q2) λd s3 ⟨z,H3,I3,r3,k,e,q3⟩=>?_)) hm
 subst e
 cases r3
 refine uC ?_
 cases k with
 |false=>exact ite_ff ⟨.bl false,H3,I3,rfl,q3⟩
 |true=>exact ite_tt (chain_last (thn (hc pz s3 σ H3 _ I3 q3) λw' s4 ⟨z',H4,I4,r4,q4⟩=>ho' pz s4 σ H4 y z' u w' Q I4 r2 r4 q4))
theorem zfw {op op':CmpOp}{r r':R2}(ho:OpR X (compareOp op) r) (ho':OpR X (compareOp op') r') (ha:PE X a ta) (hb:PE X b tb) (hc:PE X c tc)
  (hm:lastMarks [op,op'] [b,c]=false:=by with_unfolding_all rfl):PT X (.Compare a [op,op'] [b,c] pos) (ziv (zgc r r' ta tb tc)):=by
 intro pz s σ H Q I h
 refine isTrue_chain (thn (ha pz s σ H _ I h) λv s1 ⟨x,H1,I1,r1,q1⟩=>test_link (thn (hb pz s1 σ H1 _ I1 q1) λu s2 ⟨y,H2,I2,r2,q2⟩ =>
  thn (ho pz s2 σ H2 x y v u _ I2 r1 r2 q2) λd s3 ⟨z,H3,I3,r3,k,e,q3⟩=>?_)) hm
 subst e
 cases r3
 refine uC ?_
 cases k with
 |false =>
  obtain⟨k',e',q'⟩:=q3
  cases e'
  exact ite_ff ⟨H3,I3,q'⟩
 |true =>
  refine ite_tt (test_last (thn (hc pz s3 σ H3 _ I3 q3) λw' s4 ⟨z',H4,I4,r4,q4⟩=>thn (ho' pz s4 σ H4 y z' u w' _ I4 r2 r4 q4) λd' s5 ⟨z2,H5,I5,r5,k2,e2,q5⟩=>?_))
  subst e2
  cases r5
  exact uC ⟨H5,I5,q5⟩
def zef (K:Fg) (x:V) (H:Hp) (k:Bool):Prop :=
 match x with
 |.non=>k=false
 |.bl b=>k=b
 |.int i=>k=(i != 0)
 |.str y=>y.length<=sizeLine/\k=((y.length:Int) != 0)
 |.byt y=>y.size<=sizeLine/\k=((y.size:Int) != 0)
 |.ref p=>(∃xs,SqL K H p xs/\k = !xs.isEmpty)\/(∃xs,SqT K H p xs/\k = !xs.isEmpty)\/∃kvs,H p=some (.dK kvs)/\k = !kvs.isEmpty
 |_=>False
theorem zbT {κ:Type}{kvs:List (κ×V)}{vs:List (κ×Value)} (r:KV kvs vs):(!vs.isEmpty) = !kvs.isEmpty:=by
 cases r <;> rfl
theorem VQ {xs:List V}{its:List Value}(r:xa xs its):(!its.toArray.isEmpty) = !xs.isEmpty:=by
 cases r <;> simp
theorem zag:(sizeLine:Nat)<2^63:=by rw[sizeLine_eq];decide
theorem zkj:TruR X (λx H Q=>∃k,zef X.K x H k/\Q k H):=by
 intro pz s σ H x v Q I rx h
 obtain⟨k,e,q⟩:=h
 have hs:sizeLine=16777216:=sizeLine_eq
 cases x with
 |non =>
  cases rx
  have e':k=false:=e
  subst e'
  exact truthy_none ⟨H,I,q⟩
 |bl b =>
  cases rx
  have e':k=b:=e
  subst e'
  exact uC ⟨H,I,q⟩
 |int i =>
  obtain⟨t,rfl⟩:=rx
  have e':k=(i != 0):=e
  subst e'
  exact PySem.P.truthy_int ⟨H,I,q⟩
 |str y =>
  obtain⟨t,rfl⟩:=rx
  obtain⟨hy,e'⟩:y.length<=sizeLine/\k=((y.length:Int) != 0):=e
  subst e'
  exact PySem.P.truthy_str ∅ ⟨H,I.tok _,q⟩
 |byt y =>
  obtain⟨t,rfl⟩:=rx
  obtain⟨hy,e'⟩:y.size<=sizeLine/\k=((y.size:Int) != 0):=e
  subst e'
  exact PySem.W.truthy_bytes ∅ ⟨H,I.tok _,q⟩
 |ref p =>
  cases rx
  have e':(∃xs,SqL X.K H p xs/\k = !xs.isEmpty)\/(∃xs,SqT X.K H p xs/\k = !xs.isEmpty)\/∃kvs,H p=some (.dK kvs)/\k = !kvs.isEmpty:=e
  rcases e' with⟨xs,hx,e'⟩ | ⟨xs,hx,e'⟩ | ⟨kvs,hx,e'⟩
  ·subst e'
   obtain⟨its,r,pl,hz⟩:=I.list hx
   have hlen:=r.length
   exact wpAny_truthy_list pl.isList (by simp only[wK];lia) ⟨H,I.tok _,by rw[VQ r];exact q⟩
  ·subst e'
   obtain⟨its,r,pl,hz⟩:=I.tuple hx
   have hlen:=r.length
   exact truthy_tuple pl (by simp only[wK];lia) ⟨H,I.tok _,by rw[VQ r];exact q⟩
  ·subst e'
   obtain⟨hz,hS,vs,r,m⟩:kvs.length<=sizeLine/\(p == sysModules)=false/\∃vs,KV kvs vs/\s.heap.DictOf (qf X.prog X.w) p vs:=I.hok p _ hx
   have hlen:kvs.length=vs.length:=Paired.length r
   exact wpAny_truthy_dict hS m ∅ ⟨H,I.tok _,by rw[zbT r];exact q⟩
 |_=>exact(show False from e).elim
theorem xS (ha:PE X a ta) (he:∀whole,isTrue a X.env whole=(do let v <-whole;standAt a.pos;holding [v] (truthy v))) :
  PT X a (λσ H Q=>ta σ H λx H'=>∃k,zef X.K x H' k/\Q k H'):=by
 intro pz s σ H Q I h
 exact isTrue_plain (thn (ha pz s σ H _ I h) λv s1 ⟨x,H1,I1,r1,q1⟩=>zkj pz s1 σ H1 x v Q I1 r1 q1) (he _)
theorem ZR {x:V}{us:List Value}(r:xa [x] us):∃u,us=[u]/\xn x u:=by
 cases r with
 |cons r1 r2=>cases r2;exact⟨00,r1⟩
theorem zdj {x y:V}{us:List Value}(r:xa [x,y] us):∃u w',us=[u,w']/\xn x u/\xn y w':=by
 cases r with
 |cons r1 r2 =>
  cases r2 with
  |cons r3 r4=>cases r4;exact⟨021,r1,r3⟩
theorem qH:vD X (.builtin "abs") (λxs H Q=>∃i,xs=[.int i]/\Q (.int (if i<0 then -i else i)) H):=by
 intro pz s σ H xs us Q I r h
 obtain⟨i,rfl,q⟩:=h
 obtain⟨u,rfl,t,rfl⟩:=ZR r
 exact call_abs_int λu tk=>⟨.int (if i<0 then -i else i),H,I.tok _,⟨_,rL⟩,q⟩
theorem Js (hc:X.calm=true):vD X (.builtin "max") (λxs H Q=>∃i j,xs=[.int i,.int j]/\Q (.int (if j>i then j else i)) H):=by
 intro pz s σ H xs us Q I r h
 obtain⟨i,j,rfl,q⟩:=h
 obtain⟨u,w',rfl,⟨t,rfl⟩,⟨t',rfl⟩⟩:=zdj r
 refine max_two_ints (I.ok.hd hc) λh' tk k=>⟨_,H,I.kept k,?_,q⟩
 by_cases hj:j>i
 ·rw[if_pos hj,if_pos hj];exact⟨_,rfl⟩
 ·rw[if_neg hj,if_neg hj];exact⟨_,rfl⟩
theorem zdo (hc:X.calm=true):vD X (.builtin "min") (λxs H Q=>∃i j,xs=[.int i,.int j]/\Q (.int (if j<i then j else i)) H):=by
 intro pz s σ H xs us Q I r h
 obtain⟨i,j,rfl,q⟩:=h
 obtain⟨u,w',rfl,⟨t,rfl⟩,⟨t',rfl⟩⟩:=zdj r
 refine min_two_ints (I.ok.hd hc) λh' tk k=>⟨_,H,I.kept k,?_,q⟩
 by_cases hj:j<i
 ·rw[if_pos hj,if_pos hj];exact⟨_,rfl⟩
 ·rw[if_neg hj,if_neg hj];exact⟨_,rfl⟩
theorem zdl:vD X (.type "int") (λxs H Q=>(∃i,xs=[.int i]/\Q (.int i) H)\/∃k,xs=[.bl k]/\Q (.int (if k then 1 else 0)) H):=by
 intro pz s σ H xs us Q I r h
 rcases h with⟨i,rfl,q⟩ | ⟨k,rfl,q⟩
 ·obtain⟨u,rfl,t,rfl⟩:=ZR r
  exact call_int_int ⟨.int i,H,I,⟨_,rL⟩,q⟩
 ·obtain⟨u,rfl,r1⟩:=ZR r
  cases r1
  exact call_int_bool ⟨.int (if k then 1 else 0),H,I.tok _,⟨_,rL⟩,q⟩
end
structure zdk (h:Heap) (x dx C:Addr) (mA:Str->Option Value):Prop where
 obj:h.get? x=some (PySem.W.instObj C dx)
 ns:h.Ns1 dx mA
 ne:dx≠x
def zdJ {h:Heap}{dx:Addr}{mA:Str->Option Value}(n:h.Ns1 dx mA):∃od,h.get? dx=some od/\∀name,PySem.W.lookIn name od=some (mA name):=by
 obtain⟨o,es,ep,ho,hd,hk,_,hm⟩:=n
 refine⟨o,ho,λname=>?_⟩
 have e:=hm name
 unfold nsFind findBy at e
 rw[<-Array.find?_toList]at e
 unfold PySem.W.lookIn
 rw[hd]
 nofun
 split
 ·rename_i y q
  rw[q]at e
  exact congrArg some e
 ·rename_i q
  rw[q]at e
  have a:es.toList.any (·.refKey)=false:=by
   rw[List.any_eq_false]
   intro y hy
   obtain⟨z,t,hkey⟩:=hk y (Array.mem_toList_iff.mp hy)
   simp[DictEntry.refKey,hkey]
  have a':¬es.toList.any (·.refKey)=true:=by rw[a];exact ye
  rw[if_neg a']
  exact congrArg some e
def zdk.look {h:Heap}{x dx C:Addr}{mA:Str->Option Value}(I:zdk h x dx C mA):∃od,PySem.W.InstAt h x (PySem.W.instObj C dx) C (some od)/\∀name,PySem.W.lookIn name od=some (mA name) :=
 let ⟨od,ho,hl⟩:=zdJ I.ns
 ⟨od,⟨I.obj,rfl,rfl,ho⟩,hl⟩
section
variable {prog:Program}{w:World}{A:Around}{E:Value->Shared->Prop}{s:Shared}{K:Fg}{x dx C f:Addr}{mA:Str->Option Value}{name:Str}{v:Value}
theorem zgQ {expr:Bool}{Q:Value->Shared->Prop}(X:K.In s.heap) (I:zdk s.heap x dx C mA) (hg:PySem.W.plainGet K C name=true) (hh:PySem.W.hasDictIn K C=true)
  (ha:PySem.W.findIn K (.ref C) name=some none) (hv:mA name=some v) (hv':PySem.W.handedIn v=true) (h:Q v { s with toks:=s.toks+1 }) :
  wpAny (model prog w) A (getAttr (.ref x) name expr) Q E s:=by
 obtain⟨od,J,hl⟩:=I.look
 exact PySem.W.get_value X J (PySem.W.plainGet_of hg).1 (PySem.W.findObj_own hh ha rfl (by rw[hl,hv])) hv' h
theorem zhI {ns:List Str}{Q:Unit->Shared->Prop}(X:K.In s.heap) (I:zdk s.heap x dx C mA)
  (hs:PySem.W.findIn K (.ref C) "__setattr__" = some (some (.builtin "object.__setattr__"))) (hp:PySem.W.plainOver K C=true) (ht:PySem.W.takerIn K C name=some none) (hh:PySem.W.hasDictIn K C=true)
  (hw:PySem.Within mA ns) (hsz:ns.length<=sizeLine)
  (h:∀h',zdk h' x dx C (λy=>if y=name then some v else mA y)->Heap.SameBut dx s.heap h'->Q () { s with heap:=h',toks:=s.toks+2 }) :
  wpAny (model prog w) A (setAttr (.ref x) name v) Q E s:=by
 obtain⟨od,J,hl⟩:=I.look
 refine PySem.W.set_plain X J hs (PySem.W.osa_open (s:={ s with toks:=s.toks+1 }) (r:=none) X J hp ht λb=>?_)
 obtain⟨cd,hc,hd'⟩:=PySem.W.any_some hh
 have hx:s.heap.get? x=some ⟨.ref C,some dx,.plain,#[]⟩:=I.obj
 refine we (wq (we (we (wpAny_loadPart hx (we (PySem.W.Looks.here (s:={ s with toks:=s.toks+1 }) (PySem.W.looks_clsIn X hc) ?_))))))
 rw[hd']
 refine wq (a:=some dx) (we (wq (we ?_)))
 refine wpAny_nsSet1 (s:={ s with toks:=s.toks+1 }) I.ns λh' hn2 hs2=>?_
 obtain⟨oD,esD,epD,hoD,hdD,hcD⟩:=hn2.count (PySem.Within.cons name v hw)
 refine we (wpAny_lookBehind hoD (by rw[hdD];exact pastItsLine_dict (yF hcD (by rw[wB];lia))) ?_)
 exact wq (h _ ⟨(hs2.2 _ (Ne.symm I.ne)).trans I.obj,hn2,I.ne⟩ hs2)
theorem ze7 {R:Result->Shared->Prop}{vs:List Value}{kw:List (Str×Value)} (X:K.In s.heap) (hm:PySem.W.makesIn K C=true)
  (hi:PySem.W.findIn K (.ref C) "__init__" = some (some (.ref f))) (hf:PySem.W.typeIn K (.ref f)=some (.type "function"))
  (h:codeAny (model prog w) (A.under (.builtin "type.__call__" ⟨.ref C::vs,kw⟩)) (.call (.ref f) ⟨.ref (s.heap.objs.size+1)::vs,kw⟩) (PySem.W.InitBack (s.heap.objs.size+1) R)
   { s with heap:=(s.heap.push PySem.W.emptyDict).push (PySem.W.instObj C s.heap.objs.size) }) :
  codeAny (model prog w) A (.call (.ref C) ⟨vs,kw⟩) R s:=by
 obtain⟨hh,g,d,t,os⟩:=s
 exact PySem.W.make_core (PySem.W.makes_of X hm) (PySem.W.looks_findIn X hi) (λself=>PySem.W.bind_fn X self hf) (.inl rL) h
end
def x6 (f:Str) (v:V):List (Str×V)->List (Str×V)
 |[]=>[(f,v)]
 | (g,x)::r=>if g=f then(g,v)::r else(g,x)::x6 f v r
def xv (f g:Str) (v:V):∀fs:List (Str×V),(x6 f v fs).lookup g=if g=f then some v else fs.lookup g
 |[]=>by
  show List.lookup g [(f,v)]=_
  by_cases h:g=f
  ·have hb:(g == f)=true:=beq_iff_eq.mpr h
   simp only[List.lookup,hb,if_pos h]
  ·have hb:(g == f)=false:=beq_eq_false_iff_ne.mpr h
   simp only[List.lookup,hb,if_neg h]
 | (k,x)::r=>by
  have ih:=xv f g v r
  rw[show x6 f v ((k,x)::r)=(if k=f then(k,v)::r else(k,x)::x6 f v r)from rfl]
  by_cases hk:k=f
  ·rw[if_pos hk]
   by_cases h:g=k
   ·have hb:(g == k)=true:=beq_iff_eq.mpr h
    simp only[List.lookup,hb,if_pos (h.trans hk)]
   ·have hb:(g == k)=false:=beq_eq_false_iff_ne.mpr h
    simp only[List.lookup,hb,if_neg (λe:g=f=>h (e.trans hk.symm))]
  ·rw[if_neg hk]
   by_cases h:g=k
   ·have hb:(g == k)=true:=beq_iff_eq.mpr h
    simp only[List.lookup,hb,if_neg (λe:g=f=>hk (h.symm.trans e))]
   ·have hb:(g == k)=false:=beq_eq_false_iff_ne.mpr h
    simp only[List.lookup,hb]
    exact ih
def QO (f:Str) (v:V):∀fs:List (Str×V),f∈(x6 f v fs).map (·.1)/\∀g,g∈fs.map (·.1)->g∈(x6 f v fs).map (·.1)
 |[]=>⟨by simp[x6],λg h=>by simp at h⟩
 | (k,x)::r=>by
  obtain⟨i1,i2⟩:=QO f v r
  rw[show x6 f v ((k,x)::r)=(if k=f then(k,v)::r else(k,x)::x6 f v r)from rfl]
  by_cases hk:k=f
  ·rw[if_pos hk]
   subst hk
   exact⟨by simp,λg h=>↥h⟩
  ·rw[if_neg hk]
   refine⟨?_,λg h=>?_⟩
   ·rw[yn]
    exact wT _ i1
   ·rw[yn]at h ⊢
    rcases wu.mp h with e | e
    ·exact wu.mpr (.inl e)
    ·exact wT _ (i2 g e)
def Vg (f:Str) (v:V):∀fs:List (Str×V),(x6 f v fs).length<=fs.length+1
 |[]=>by simp[x6]
 | (k,x)::r=>by
  have ih:=Vg f v r
  rw[show x6 f v ((k,x)::r)=(if k=f then(k,v)::r else(k,x)::x6 f v r)from rfl]
  by_cases hk:k=f
  ·rw[if_pos hk,wB,wB];lia
  ·rw[if_neg hk,wB,wB];lia
def VF.some_of {v:V}{o:Option Value}(r:VF (some v) o):∃u,o=some u/\xn v u:=by
 cases o with
 |none=>exact(show False from r).elim
 |some u=>exact⟨u,rfl,r⟩
def zdw {v:V}{u:Value}(r:xn v u):PySem.W.handedIn u=true:=by
 cases v with
 |non=>cases(show u=Value.none from r);rfl
 |bl b=>cases(show u=Value.bool b from r);rfl
 |int i=>obtain⟨t,e⟩:=(show ∃t,u=Value.int i t from r);cases e;rfl
 |str x=>obtain⟨t,e⟩:=(show ∃t,u=Value.str x t from r);cases e;rfl
 |byt b=>obtain⟨t,e⟩:=(show ∃t,u=Value.bytes b t from r);cases e;rfl
 |flt b=>obtain⟨t,e⟩:=(show ∃t,u=Value.float b t from r);cases e;rfl
 |ref a=>cases(show u=Value.ref a from r);rfl
 |ty n=>cases(show u=Value.type n from r);rfl
section
variable {P:Program}{w:World}{H H':Hp}{h h':Heap}{a C dx:Addr}{fs fs':List (Str×V)}
theorem Qu (hok:HOk P w H h) (e:H a=some (.ins C dx fs)):∃mA,zdk h a dx C mA/\(∀f,VF (fs.lookup f) (mA f))/\PySem.Within mA (fs.map (·.1))/\fs.length<=1000/\H dx=some (.own a):=by
 obtain⟨d,z,ne,ob,mA,n,r,q⟩:=(show xJ P w H h a (.ins C dx fs)from hok a _ e)
 exact⟨mA,⟨ob,n,ne⟩,r,q,z,d⟩
end
structure Cls (K:Fg) (C:Addr):Prop where
 pg:PySem.W.plainGet K C Str.empty=true
 hd:PySem.W.hasDictIn K C=true
 po:PySem.W.plainOver K C=true
 sa:PySem.W.findIn K (.ref C) "__setattr__" = some (some (.builtin "object.__setattr__"))
def Cls.get {K:Fg}{C:Addr}(c:Cls K C) (f:Str):PySem.W.plainGet K C f=true:=c.pg
def qm (K:Fg) (C:Addr) (f:Str):Prop:=PySem.W.findIn K (.ref C) f=some none
def qm.taker {K:Fg}{C:Addr}{f:Str}(n:qm K C f):PySem.W.takerIn K C f=some none:=by
 unfold PySem.W.takerIn
 rw[show PySem.W.findIn K (.ref C) f=some none from n]
 rfl
section
variable {X:Cx}{pz:List (Addr×Obj)}{σ:St}{H:Hp}{s:Shared}{a C dx:Addr}{fs:List (Str×V)}{f:Str}{v:V}{A:Around}{E:Value->Shared->Prop}
theorem VP {b:Bool}{Q:Value->Shared->Prop}(I:Inv X pz σ H s) (e:H a=some (.ins C dx fs)) (c:Cls X.K C) (n:qm X.K C f) (l:fs.lookup f=some v)
  (h:∀u s',Inv X pz σ H s'->xn v u->Q u s'):wpAny (model X.prog X.w) A (getAttr (.ref a) f b) Q E s:=by
 obtain⟨mA,O,r,_,_,_⟩:=Qu I.hok e
 obtain⟨u,hu,ru⟩:=VF.some_of (v:=v) (o:=mA f) (by rw[<-l];exact r f)
 exact zgQ I.kIn O (c.get f) c.hd n hu (zdw ru) (h u _ (I.tok _) ru)
theorem Ja {y:V}{u:Value}{Q:Unit->Shared->Prop}(I:Inv X pz σ H s) (e:H a=some (.ins C dx fs)) (c:Cls X.K C) (n:qm X.K C f) (hl:fs.length<1000) (ry:xn y u)
  (h:∀s',Inv X pz σ (upd H a (.ins C dx (x6 f y fs))) s'->Q () s'):wpAny (model X.prog X.w) A (setAttr (.ref a) f u) Q E s:=by
 obtain⟨mA,O,r,wi,_,ho⟩:=Qu I.hok e
 have hz:(fs.map (·.1)).length<=sizeLine:=by rw[wc,sizeLine_eq];lia
 refine zhI I.kIn O c.sa c.po n.taker c.hd wi hz λh' O' sb=>h _ ?_
 have hd:∃o,h'.get? dx=some o:=let ⟨o,_,_,e',_⟩:=O'.ns;⟨o,e'⟩
 refine I.write (x:=a) (e:=dx) (by rw[e];exact True.intro) (.inr ho) (λb q hb z=>(sb.2 b hb).trans z) hd ?_
 refine⟨by rw[zV O.ne];exact ho,?_,O.ne,O'.obj,_,O'.ns,λg=>?_,λg hg=>?_⟩
 ·have:=Vg f y fs;lia
 ·show VF ((x6 f y fs).lookup g) (if g=f then some u else mA g)
  rw[xv]
  by_cases q:g=f
  ·rw[if_pos q,if_pos q];exact ry
  ·rw[if_neg q,if_neg q];exact r g
 ·by_cases q:g=f
  ·rw[q];exact(QO f y fs).1
  ·refine(QO f y fs).2 g (wi g λz=>hg ?_)
   show (if g=f then some u else mA g)=none
   rw[if_neg q];exact z
theorem Inv.made (I:Inv X pz σ H s):Inv X pz σ (upd (upd H s.heap.objs.size (.own (s.heap.objs.size+1))) (s.heap.objs.size+1) (.ins C s.heap.objs.size []))
  { s with heap:=(s.heap.push PySem.W.emptyDict).push (PySem.W.instObj C s.heap.objs.size) }:=by
 have e1:(s.heap.push PySem.W.emptyDict).get? s.heap.objs.size=some PySem.W.emptyDict:=wJ s.heap rfl
 have e2:((s.heap.push PySem.W.emptyDict).push (PySem.W.instObj C s.heap.objs.size)).get? (s.heap.objs.size+1)=some (PySem.W.instObj C s.heap.objs.size):=by
  have:=wJ (s.heap.push PySem.W.emptyDict) (o:=PySem.W.instObj C s.heap.objs.size) rfl
  rwa [WB]at this
 have e3:(s.heap.push PySem.W.emptyDict).Ns s.heap.objs.size (λ_=>none):=⟨PySem.W.emptyDict,#[],_,e1,rfl,(λe he=>absurd he (by simp)),λ_=>rfl⟩
 have I1:=I.laid (a:=s.heap.objs.size) (o:=.own (s.heap.objs.size+1)) (h':=s.heap.push PySem.W.emptyDict) (t':=s.toks) (λb u q=>wg _ q) (wn _) ⟨_,e1⟩
 refine I1.laid (a:=s.heap.objs.size+1) (o:=.ins C s.heap.objs.size []) (t':=s.toks) (λb u q=>wg _ q) (WX (WB _ _)) ?_
 have ne:s.heap.objs.size≠s.heap.objs.size+1:=wW (W6 _)
 refine⟨by rw[zV ne,zj],yb _,ne,e2,λ_=>none,(Heap.Ns1.of_empty e3).at λo q=>wg _ q,λ_=>True.intro,λy hy=>absurd rfl hy⟩
theorem zgC {prog:Program}{w:World}{env:Env}{e:Expr}{f:Str}{pos:Pos}{s:Shared}{Q:Value->Shared->Prop}(hb:attributeBase e f env (eval e env)=eval e env)
  (h:wpAny (model prog w) A (eval e env) (λo s₁=>wpAny (model prog w) A (getAttr o f true) Q E s₁) E s):wpAny (model prog w) A (eval (.Attribute e f pos) env) Q E s :=
 Attribute_any_ h (by rw[arm_eval_Attribute,hb])
end
inductive zis (K:Fg) (f:Str) (Q:VK) (x:V) (H1:Hp):Prop
 |mk:∀a C dx fs v,(x=.ref a)->(H1 a=some (.ins C dx fs))->(Cls K C)->(qm K C f)->(fs.lookup f=some v)->(Q v H1)->zis K f Q x H1
def zlu (K:Fg) (ta:TE) (f:Str):TE:=λσ H Q=>ta σ H λx H1=>zis K f Q x H1
def zjE (K:Fg) (ta tv:TE) (f:Str):TS:=λD σ H=>tv σ H λy H1=>ta σ H1 λx H2=>∃a C dx fs,x=.ref a/\H2 a=some (.ins C dx fs)/\Cls K C/\qm K C f/\fs.length<1000 ∧
 D.nx σ (upd H2 a (.ins C dx (x6 f y fs)))
def zkq (X:Cx) (op:Operator) (rd:V->V->Hp->VK->Prop):Prop :=
 ∀(pz:List (Addr×Obj)) (s:Shared) (σ:St) (H:Hp) (x y:V) (u v:Value) (Q:VK),Inv X pz σ H s->xn x u->xn y v->rd x y H Q->wpAny (model X.prog X.w) X.A (inplaceOp op u v) (EP X pz σ Q) X.xe s
def zhz (K:Fg) (ta tv:TE) (rd:V->V->Hp->VK->Prop) (f:Str):TS:=λD σ H=>ta σ H λx H1=>∃a C dx fs v,x=.ref a/\H1 a=some (.ins C dx fs)/\Cls K C/\qm K C f/\fs.lookup f=some v ∧
 tv σ H1 λy H2=>rd v y H2 λz H3=>∃dx' fs',H3 a=some (.ins C dx' fs')/\fs'.length<1000/\D.nx σ (upd H3 a (.ins C dx' (x6 f z fs')))
section
variable {X:Cx}{o e value:Expr}{f:Str}{pos pos' tpos:Pos}{ta tv:TE}
theorem xt (he:PE X e ta) (hb:attributeBase e f X.env (eval e X.env)=eval e X.env):PE X (.Attribute e f pos) (zlu X.K ta f):=by
 intro pz s σ H Q I h
 refine zgC hb (thn (he pz s σ H _ I h) λu s1 ⟨x,H1,I1,rx,a,C,dx,fs,v,ex,ea,c,n,l,q⟩=>?_)
 subst ex
 obtain rfl:u=Value.ref a:=rx
 exact VP I1 ea c n l λu' s2 I2 ru=>⟨v,H1,I2,ru,q⟩
theorem Zf (ha:PE X o ta) (hv:PE X value tv) (hs:swapsWith value (some (.Attribute o f pos')) pos.line X.env=pure false):PS X (.Assign [.Attribute o f pos'] value pos) (zjE X.K ta tv f):=by
 intro pz s σ H D I h
 refine plainObj_wpAny_Assign_Attribute (thn (hv pz s σ H _ I h) λu s1 ⟨y,H1,I1,ry,q⟩=>thn (ha pz s1 σ H1 _ I1 q) λov s2 ⟨x,H2,I2,rx,a,C,dx,fs,ex,ea,c,n,l,q2⟩=>?_) hs
 subst ex
 obtain rfl:ov=Value.ref a:=rx
 exact Ja I2 ea c n l ry λs3 I3=>⟨σ,_,I3,q2⟩
theorem JL {op:Operator}{rd:V->V->Hp->VK->Prop}(ha:PE X o ta) (hv:PE X value tv) (hop:zkq X op rd):PS X (.AugAssign (.Attribute o f tpos) op value pos) (zhz X.K ta tv rd f):=by
 intro pz s σ H D I h
 refine wpAny_AugAssign_AttributeAny (thn (ha pz s σ H _ I h) λov s1 ⟨x,H1,I1,rx,a,C,dx,fs,v,ex,ea,c,n,l,q⟩=>?_)
 subst ex
 obtain rfl:ov=Value.ref a:=rx
 refine VP I1 ea c n l λu s2 I2 ru=>thn (hv pz s2 σ H1 _ I2 q) λw3 s3 ⟨y,H2,I3,ry,q3⟩=>thn (hop pz s3 σ H2 v y u w3 _ I3 ru ry q3) λw4 s4 ⟨z,H3,I4,rz,dx',fs',ea',l',q4⟩=>?_
 exact Ja I4 ea' c n l' rz λs5 I5=>⟨σ,_,I5,q4⟩
end
section
variable {X:Cx}{pz:List (Addr×Obj)}{σ:St}{H:Hp}{s:Shared}{A:Around}{E:Value->Shared->Prop}{Q:Value->Shared->Prop}{c:Value}{b:Bool}
inductive QI (K:Fg) (H:Hp):V->Value->Prop where
 |non:QI K H .non (.type "NoneType")
 |bl (x:Bool):QI K H (.bl x) (.type "bool")
 |int (i:Int):QI K H (.int i) (.type "int")
 |str (x:Str):QI K H (.str x) (.type "str")
 |flt (x:UInt64):QI K H (.flt x) (.type "float")
 |lst {a:Addr}{xs:List V}(e:H a=some (.lst xs)):QI K H (.ref a) (.type "list")
 |frz {a:Addr}{o:Obj}{xs:List V}(e:H a=some (.frz o (.lst xs))):QI K H (.ref a) (.type "list")
 |tup {a:Addr}{xs:List V}(e:H a=some (.tup xs)):QI K H (.ref a) (.type "tuple")
 |dK {a:Addr}{kvs:List (Key×V)} (e:H a=some (.dK kvs)):QI K H (.ref a) (.type "dict")
 |dT {a:Addr}{kvs:List (List Key×V)} (e:H a=some (.dT kvs)):QI K H (.ref a) (.type "dict")
 |ins {a C dx:Addr}{fs:List (Str×V)} (e:H a=some (.ins C dx fs)) (cl:Cls K C) (ha:PySem.W.findIn K (.ref C) "__class__" = some (some (.builtin "object.__class__")))
   (hn:PySem.W.specialIn K (.builtin "object.__class__") "__get__" = some (some (.builtin "getset_descriptor.__get__"))) (htk:PySem.W.takesIn K (.builtin "object.__class__")=some true)
   (hm:PySem.W.mroIn K C (.type "object")=some true):QI K H (.ref a) (.ref C)
theorem zdz {x:V}{u t:Value}(I:Inv X pz σ H s) (rx:xn x u) (ty:QI X.K H x t) (e:PySem.W.kitOne X.K t c=some b) (h:∀tk,Q (.bool b) { s with toks:=tk }) :
  wpAny (model X.prog X.w) A (call (.builtin "isinstance") [u,c]) Q E s:=by
 cases ty with
 |non=>cases(show u=Value.none from rx);exact ua PySem.W.kitx_none I.kIn True.intro e (λz=>nomatch z) h
 |bl y=>cases(show u=Value.bool y from rx);exact ua PySem.W.kitx_bool I.kIn True.intro e (λz=>nomatch z) h
 |int i=>obtain⟨t,q⟩:=(show ∃t,u=Value.int i t from rx);cases q;exact ua PySem.W.kitx_int I.kIn True.intro e (λz=>nomatch z) h
 |str y=>obtain⟨t,q⟩:=(show ∃t,u=Value.str y t from rx);cases q;exact ua PySem.W.kitx_str I.kIn True.intro e (λz=>nomatch z) h
 |flt y=>obtain⟨t,q⟩:=(show ∃t,u=Value.float y t from rx);cases q;exact ua PySem.W.kitx_float I.kIn True.intro e (λz=>nomatch z) h
 |@lst a xs ea =>
  cases(show u=Value.ref a from rx)
  obtain⟨_,_,n,_,h1⟩:=(show xJ X.prog X.w H s.heap a (.lst xs)from I.hok a _ ea)
  exact ua PySem.W.kitx_list I.kIn ⟨_,h1,rL⟩ e (λz=>nomatch z) h
 |@frz a ob xs ea =>
  cases(show u=Value.ref a from rx)
  obtain⟨_,_,_,n,_,h1⟩:=(show xJ X.prog X.w H s.heap a (.frz ob (.lst xs))from I.hok a _ ea)
  exact ua PySem.W.kitx_list I.kIn ⟨_,h1,rL⟩ e (λz=>nomatch z) h
 |@tup a xs ea =>
  cases(show u=Value.ref a from rx)
  obtain⟨_,_,_,p⟩:=(show xJ X.prog X.w H s.heap a (.tup xs)from I.hok a _ ea)
  obtain⟨o,h1,h2,_⟩:=p
  exact ua PySem.W.kitx_tuple I.kIn ⟨o,h1,h2⟩ e (λz=>nomatch z) h
 |@dK a kvs ea =>
  cases(show u=Value.ref a from rx)
  obtain⟨_,_,vs,_,p⟩:=(show xJ X.prog X.w H s.heap a (.dK kvs)from I.hok a _ ea)
  obtain⟨o,es,ep,h1,h2,_⟩:=p
  exact ua PySem.W.kitx_dict I.kIn ⟨o,h1,h2.1⟩ e (λz=>nomatch z) h
 |@dT a kvs ea =>
  cases(show u=Value.ref a from rx)
  obtain⟨_,_,xs,_,o,es,ep,h1,h2,_⟩:=(show xJ X.prog X.w H s.heap a (.dT kvs)from I.hok a _ ea)
  exact ua PySem.W.kitx_dict I.kIn ⟨o,h1,h2.1⟩ e (λz=>nomatch z) h
 |@ins a C dx fs ea cl ha hn htk hm =>
  cases(show u=Value.ref a from rx)
  obtain⟨mA,O,_⟩:=Qu I.hok ea
  obtain⟨od,J,_⟩:=O.look
  exact ua (PySem.W.kitx_own (cl.get _) cl.hd ha hn htk hm) I.kIn J e (λz=>nomatch z) h
end
structure xc (k:Nat) (A:Around):Prop where
 hd:A.handled=none
 dp:A.depth+3*k+5<recursionLimit
 un:A.units+16*k+200<cLine
def xc.mono {j k:Nat}{A:Around}(r:xc k A) (h:j<=k):xc j A:=⟨r.hd,by have:=r.dp;lia,by have:=r.un;lia⟩
def xc.md {j k:Nat}{A:Around}(r:xc k A) (h:j<=k:=by decide):xc j A:=r.mono h
def xc.deeper {k:Nat}{A:Around}(r:xc (k+1) A) (env:Env):xc k (A.deeper env) :=
 ⟨r.hd,by have:=r.dp;show A.depth+1+3*k+5<_;lia,by have:=r.un;show A.units+3+16*k+200<_;lia⟩
def zb1 {A:Around}{C:Addr}{us:List Value}{kw:List (Str×Value)}:(A.under (.builtin "type.__call__" ⟨.ref C::us,kw⟩)).depth=A.depth+1:=by
 first | rfl | simp[Around.under,Code.weight,Code.isCreation,Code.isGuard,Code.isCaller,Code.frames,Code.isFrame,guardIds]
def zb2 {A:Around}{C:Addr}{us:List Value}{kw:List (Str×Value)}:(A.under (.builtin "type.__call__" ⟨.ref C::us,kw⟩)).units=A.units+1:=by
 first | rfl | simp[Around.under,Code.cUnits,Code.frames,Code.isFrame]
def xc.make {k:Nat}{A:Around}(r:xc (k+1) A) (C:Addr) (us:List Value) (kw:List (Str×Value)):xc k (A.under (.builtin "type.__call__" ⟨.ref C::us,kw⟩)) :=
 ⟨r.hd,by have:=r.dp;rw[zb1];lia,by have:=r.un;rw[zb2];lia⟩
def xc.depth {k:Nat}{A:Around}(r:xc k A):A.depth<recursionLimit:=by have:=r.dp;lia
def xc.units {k:Nat}{A:Around}(r:xc k A):A.units+64<cLine:=by have:=r.un;lia
def Zu:TA:=λ_ H Q=>Q [] H
def qc (ta:TE) (tr:TA):TA:=λσ H Q=>ta σ H λx H1=>tr σ H1 λxs H2=>Q (x::xs) H2
section
variable {X:Cx}{e:Expr}{es:List Expr}{te:TE}{t:TA}{pos:Pos}
theorem zd:PA X [] Zu:=λ_ _ _ _ H Q I h=>Calls.spliced_nil ⟨[],H,I,.nil,h⟩
theorem za (ha:PE X e te) (hr:PA X es t) (hs:starEach (e::es) X.env=(false,eval e X.env)::starEach es X.env:=by rfl):PA X (e::es) (qc te t):=by
 intro pos pz s σ H Q I h
 rw[hs]
 show wpAny _ _ (spliced ((false,eval e X.env)::backTo pos (starEach es X.env))) _ _ s
 refine Calls.spliced_cons (thn (ha pz s σ H _ I h) λu s1 ⟨x,H1,I1,r1,q1⟩=>?_)
 exact thn (hr pos pz s1 σ H1 _ I1 q1) λus s2 ⟨xs,H2,I2,r2,q2⟩=>⟨x::xs,H2,I2,.cons r1 r2,q2⟩
def zkd (t:TA):TE:=λσ H Q=>t σ H λxs H1=>xs.length<=sizeLine/\∀p,H1 p=none->Q (.ref p) (upd H1 p (.tup xs))
def tLst (t:TA):TE:=λσ H Q=>t σ H λxs H1=>xs.length<=sizeLine/\∀p,H1 p=none->Q (.ref p) (upd H1 p (.lst xs))
theorem zX {x1} (h:PA X es t):PE X (.Tuple es x1 pos) (zkd t):=by
 intro pz s σ H Q I hq
 refine wpAny_Tuple_spliced (thn (h pos pz s σ H _ I hq) λus s1 ⟨xs,H1,I1,r,z,q⟩=>⟨by rw[<-r.length];exact z,?_⟩)
 have hf:H1 s1.heap.objs.size=none:=I1.hok.fresh (wn _)
 refine⟨.ref s1.heap.objs.size,upd H1 s1.heap.objs.size (.tup xs),I1.laid (t':=s1.toks) (λb u e=>wg _ e) (wn _) ?_,rL,q _ hf⟩
 exact⟨z,us,r,⟨_,wJ _ rL,rL,_,rL⟩⟩
theorem qp (h:PA X es t):PE X (.List es pos) (tLst t):=by
 intro pz s σ H Q I hq
 refine wpAny_List_spliced (thn (h pos pz s σ H _ I hq) λus s1 ⟨xs,H1,I1,r,z,q⟩=>⟨by rw[<-r.length];exact z,?_⟩)
 have hf:H1 s1.heap.objs.size=none:=I1.hok.fresh (wn _)
 refine⟨.ref s1.heap.objs.size,upd H1 s1.heap.objs.size (.lst xs),I1.laid (t':=s1.toks) (λb u e=>wg _ e) (wn _) ?_,rL,q _ hf⟩
 exact⟨z,us,0,r,wJ _ rL⟩
end
abbrev Sp:=List V->Hp->VK->XK->Prop
abbrev CXT:=List Env->Hp->Shared->XK->Value->Shared->Prop
structure zbE (P:Program) (w:World) (K:Fg) (mg:Str->Option Value) (base:Heap) (A:Around) (outer:List Env) (s:Shared) (H:Hp):Prop where
 frames:A.frames=some outer
 mod:Mod K mg base
 bs:∀b o,base.get? b=some o->s.heap.get? b=some o/\H b=none
 bsz:base.objs.size<=s.heap.objs.size
 funs:s.heap.FunFrames base outer
 frf:∀b∈frs outer,H b=none
 hok:HOk P w H s.heap
 bare:AllBare s.gens
def CE (outer:List Env) (P:Program) (w:World) (H:Hp) (s:Shared) (Q:VK) (u:Value) (s':Shared):Prop :=
 ∃v H',s'.os=s.os/\AllBare s'.gens/\Un (frs outer) [] H H' s.heap s'.heap/\HOk P w H' s'.heap/\xn v u/\Q v H'
def CR (CX:CXT) (outer:List Env) (P:Program) (w:World) (H:Hp) (s:Shared) (Q:VK) (E:XK) (r:Result) (s':Shared):Prop :=
 match r with
 |.ok (.ret u)=>CE outer P w H s Q u s'
 |.ok _=>False
 |.error e=>CX outer H s E e s'
structure Zw (P:Program) (w:World) (K:Fg) (mg:Str->Option Value) (base:Heap) (CX:CXT) (k:Nat) (f:Addr) (fd:FuncData) (ps:List Str) (sp:Sp):Prop where
 len:∀vs H Q E,sp vs H Q E->vs.length=ps.length
 run:∀(A:Around) (outer:List Env) (s:Shared) (H:Hp) (args:Args) (us:List Value) (vs:List V) (Q:VK) (E:XK),xc k A->zbE P w K mg base A outer s H->BindsTo s fd args (ps.zip us)->xa vs us->sp vs H Q E →
  codeAny (model P w) A (.call (.ref f) args) (CR CX outer P w H s Q E) s
def zbE.make {P:Program}{w:World}{K:Fg}{mg:Str->Option Value}{base:Heap}{A:Around}{outer:List Env}{s:Shared}{H:Hp}(e:zbE P w K mg base A outer s H) (C:Addr) (us:List Value) (kw:List (Str×Value)) :
  zbE P w K mg base (A.under (.builtin "type.__call__" ⟨.ref C::us,kw⟩)) outer s H:=⟨by first | exact e.frames | (simpa [Around.under,Code.envs,Code.isFrame,pushEnvs]using e.frames),e.mod,e.bs,e.bsz,e.funs,e.frf,e.hok,e.bare⟩
section
variable {X:Cx}{pz:List (Addr×Obj)}{σ:St}{H:Hp}{s s':Shared}
theorem Inv.env0 (I:Inv X pz σ H s):zbE X.prog X.w X.K X.mg X.base X.A X.stack s H :=
 ⟨I.ok.frames,I.ok.mod,I.bs,yF I.ok.bsz I.sz,I.stack,I.stkFree,I.hok,I.bare⟩
theorem Inv.after {Q:VK}{u:Value}(I:Inv X pz σ H s) (h:CE X.stack X.prog X.w H s Q u s'):EP X pz σ Q u s':=by
 obtain⟨v,H',os,bare,un,hok,r,q⟩:=h
 obtain⟨hh,g,d,t,os'⟩:=s'
 obtain rfl:os'=s.os:=os
 exact⟨v,H',I.call (h':=hh) (g':=g) (d':=d) (t':=t) (ch:=[]) un hok bare (λb z=>absurd z (by simp)),r,q⟩
end
def ZQ (sp:Sp) (dvs:List V) (E:XK) (t:TA):TE:=λσ H Q=>t σ H λvs H1=>sp (vs++dvs) H1 Q E
def zlv (C:Addr) (sp:Sp) (dvs:List V) (E:XK) (t:TA):TE:=λσ H Q=>t σ H λvs H1=>∀x dx,H1 x=none->H1 dx=none->dx≠x →
 sp (.ref x::(vs++dvs)) (upd (upd H1 dx (.own x)) x (.ins C dx [])) (λv H2=>v=.non/\Q (.ref x) H2) E
def v6 (K:Fg) (fd:FuncData) (ps:List Str) (ds:List Value):Prop :=
 ∀(s:Shared) (us:List Value),K.In s.heap->(us++ds).length=ps.length->BindsTo s fd ⟨us,[]⟩ (ps.zip (us++ds))
def v6.all {K:Fg}{fd:FuncData}{ps:List Str}(h:∀us:List Value,us.length=ps.length->bindArgs fd ⟨us,[]⟩=pure (ps.zip us)):v6 K fd ps []:=λs us _ F=>by
 rw[yO]at F ⊢
 exact .of_eq (h us F)
def VE (CX:CXT) (X:Cx) (E:XK):Prop:=∀(pz:List (Addr×Obj)) (σ:St) (H:Hp) (s:Shared) (e:Value) (s':Shared),Inv X pz σ H s->CX X.stack H s E e s'->X.xe e s'
section
variable {X:Cx}{CX:CXT}{k:Nat}{f C:Addr}{fd:FuncData}{ps:List Str}{sp:Sp}{dvs:List V}{ds:List Value}{E:XK}{x m:Str}{p pos apos:Pos}{e o:Expr}{es:List Expr}{ta:TE}{t:TA}
theorem zjD {pz:List (Addr×Obj)}{σ:St}{H:Hp}{s:Shared}{Q:VK}{us:List Value}{vs:List V}(F:Zw X.prog X.w X.K X.mg X.base CX k f fd ps sp) (hr:xc k X.A) (S:v6 X.K fd ps ds) (hd:xa dvs ds) (W:VE CX X E)
  (I:Inv X pz σ H s) (r:xa vs us) (h:sp (vs++dvs) H Q E):wpAny (model X.prog X.w) X.A (call (.ref f) us) (EP X pz σ Q) X.xe s:=by
 have O:xa (vs++dvs) (us++ds):=r.append hd
 have U:(us++ds).length=ps.length:=by rw[<-O.length];exact F.len _ _ _ _ h
 refine Ui (codeAny_mono (F.run X.A X.stack s H ⟨us,[]⟩ (us++ds) (vs++dvs) Q E hr I.env0 (S s us I.kIn U) O h) λr s' G=>?_)
 cases r with
 |error e=>exact W pz σ H s e s' I G
 |ok fl =>
  cases fl with
  |ret u=>exact I.after G
  |next=>exact False.elim G
  |brk=>exact False.elim G
  |cont=>exact False.elim G
theorem zho (F:Zw X.prog X.w X.K X.mg X.base CX k f fd ps sp) (hr:xc k X.A) (Y:Gl X x) (hm:X.mg x=some (.ref f)) (U:PySem.W.keepIn X.K (.ref f)=true) (V:v6 X.K fd ps ds) (hd:xa dvs ds) (hx:VE CX X E)
  (ha:PA X (e::es) t) (O:(x == ("__debug__":Str))=false:=by decide) (S:starEach (e::es) X.env=(false,eval e X.env)::starEach es X.env:=by rfl) (G:(backTo pos (starEach es X.env)).any (·.1)=false:=by rfl) :
  PE X (.Call (.Name x p) (e::es) [] pos) (ZQ sp dvs E t):=by
 intro pz s σ H Q I h
 refine uy (Qx I Y hm ?_ O)
 refine Ys (h₀:=X.base) I.ok.mod.kin U (thn (ha pos pz s σ H _ I h) λus s1 ⟨vs,H1,I1,r,q⟩=>⟨I1.kIn,?_⟩) S G
 exact zjD F hr V hd hx I1 r q
structure Mk (K:Fg) (C f:Addr):Prop where
 makes:PySem.W.makesIn K C=true
 init:PySem.W.findIn K (.ref C) "__init__" = some (some (.ref f))
 fn:PySem.W.isFn K (.ref f)=true
 kp:PySem.W.keepIn K (.ref C)=true
theorem zfG {pz:List (Addr×Obj)}{σ:St}{H:Hp}{s:Shared}{Q:VK}{us:List Value}{vs:List V}(M:Mk X.K C f) (F:Zw X.prog X.w X.K X.mg X.base CX k f fd ps sp) (hr:xc (k+1) X.A) (hb:v6 X.K fd ps ds) (hd:xa dvs ds)
  (hx:VE CX X E) (I:Inv X pz σ H s) (r:xa vs us)
  (h:∀x dx,H x=none->H dx=none->dx≠x->sp (.ref x::(vs++dvs)) (upd (upd H dx (.own x)) x (.ins C dx [])) (λv H2=>v=.non/\Q (.ref x) H2) E) :
  wpAny (model X.prog X.w) X.A (call (.ref C) us) (EP X pz σ Q) X.xe s:=by
 have S:=h (s.heap.objs.size+1) s.heap.objs.size (I.hok.fresh (Nat.le_succ _)) (I.hok.fresh (wn _)) (wW (W6 _))
 have O:=Inv.made (C:=C) I
 have U:xa (V.ref (s.heap.objs.size+1)::(vs++dvs)) (Value.ref (s.heap.objs.size+1)::(us++ds)):=.cons rfl (r.append hd)
 have hl:(Value.ref (s.heap.objs.size+1)::us++ds).length=ps.length:=by
  have e:=U.length
  rw[F.len _ _ _ _ S]at e
  exact e.symm
 refine Ui (ze7 (f:=f) I.kIn M.makes M.init (beq_iff_eq.mp M.fn) (codeAny_mono (F.run _ X.stack _ _ ⟨Value.ref (s.heap.objs.size+1)::us,[]⟩ (Value.ref (s.heap.objs.size+1)::(us++ds)) _ _ E (hr.make C us [])
  (O.env0.make C us []) (hb _ (Value.ref (s.heap.objs.size+1)::us) O.kIn hl) U S) λr s' G=>?_))
 cases r with
 |error e=>exact hx pz σ _ _ e s' O G
 |ok fl =>
  cases fl with
  |ret u =>
   obtain⟨v,H',I3,Y,W,q3⟩:=O.after G
   subst W
   exact⟨Y,⟨V.ref (s.heap.objs.size+1),H',I3,rL,q3⟩⟩
  |next=>exact False.elim G
  |brk=>exact False.elim G
  |cont=>exact False.elim G
theorem zao (M:Mk X.K C f) (F:Zw X.prog X.w X.K X.mg X.base CX k f fd ps sp) (hr:xc (k+1) X.A) (hg:Gl X x) (hm:X.mg x=some (.ref C)) (hb:v6 X.K fd ps ds) (hd:xa dvs ds) (hx:VE CX X E)
  (ha:PA X (e::es) t) (hdb:(x == ("__debug__":Str))=false:=by decide) (he:starEach (e::es) X.env=(false,eval e X.env)::starEach es X.env:=by rfl) (hpl:(backTo pos (starEach es X.env)).any (·.1)=false:=by rfl) :
  PE X (.Call (.Name x p) (e::es) [] pos) (zlv C sp dvs E t):=by
 intro pz s σ H Q I h
 refine uy (Qx I hg hm ?_ hdb)
 refine Ys (h₀:=X.base) I.ok.mod.kin M.kp (thn (ha pos pz s σ H _ I h) λus s1 ⟨vs,H1,I1,r,q⟩=>⟨I1.kIn,?_⟩) he hpl
 exact zfG M F hr hb hd hx I1 r q
end
structure zC (N P:List Str) (sc:Scope):Prop where
 kind:sc.kind=.function
 co:sc.isCoroutine=false
 gen:sc.isGenerator=false
 nd:N.Nodup
 pre:N.take P.length=P
 par:∀x∈P,sc.names.lookup x=some .local ∨ sc.names.lookup x=some .cell
 nofree:∀y∈sc.names,y.2≠.free
def scq {N P:List Str}{sc:Scope}(a:sc.kind=.function:=by rfl) (b:sc.isCoroutine=false:=by rfl) (c:sc.isGenerator=false:=by rfl) (d:N.Nodup:=by decide +kernel) (e:N.take P.length=P:=by rfl) (f:∀x∈P,sc.names.lookup x=some .local ∨ sc.names.lookup x=some .cell:=by decide +kernel) (g:∀y∈sc.names,y.2≠.free:=by decide +kernel):zC N P sc:=⟨a,b,c,d,e,f,g⟩
def Jr {kindOf:Str->Option NameKind}{x:Str}:∀{binds:List (Str×Value)}{m:Str->Option Value},(∀v,(x,v)∉binds)->bindL kindOf binds m x=m x
 |[],_,_=>rfl
 | (n,v)::r,m,h=>by
  unfold bindL
  rw[Jr λw hw=>h w (wT _ hw)]
  split
  ·have:x≠n:=by rintro rfl;exact h v wF
   simp[this]
  ·rfl
def Jp {kindOf:Str->Option NameKind}{x:Str}:∀{binds:List (Str×Value)}{m:Str->Option Value},(∀v,(x,v)∉binds)->bindC kindOf binds m x=m x
 |[],_,_=>rfl
 | (n,v)::r,m,h=>by
  unfold bindC
  rw[Jp λw hw=>h w (wT _ hw)]
  split
  ·rfl
  ·have:x≠n:=by rintro rfl;exact h v wF
   simp[this]
def Jq {kindOf:Str->Option NameKind}{x:Str}{v:Value}:∀{P:List Str}{vs:List Value}{i:Nat}{m:Str->Option Value},P.Nodup->P[i]?=some x->vs[i]?=some v->kindOf x=some .local →
  bindL kindOf (P.zip vs) m x=some v
 |[],_,_,_,_,h,_,_=>by simp at h
 |_::_,[],_,_,_,_,h,_=>by simp at h
 |p::P,w::vs,0,m,nd,h1,h2,hk=>by
  simp at h1 h2;subst h1;subst h2
  show bindL kindOf ((p,w)::P.zip vs) m p=_
  unfold bindL
  rw[Jr λv hv=>(uE.mp nd).1 (YU hv).1,if_pos hk]
  simp
 |p::P,w::vs,i+1,m,nd,h1,h2,hk=>by
  show bindL kindOf ((p,w)::P.zip vs) m x=_
  unfold bindL
  exact Jq (i:=i) (uE.mp nd).2 ↥h1 ↥h2 hk
def Jo {kindOf:Str->Option NameKind}{x:Str}{v:Value}:∀{P:List Str}{vs:List Value}{i:Nat}{m:Str->Option Value},P.Nodup->P[i]?=some x->vs[i]?=some v->kindOf x≠some .local →
  bindC kindOf (P.zip vs) m x=some v
 |[],_,_,_,_,h,_,_=>by simp at h
 |_::_,[],_,_,_,_,h,_=>by simp at h
 |p::P,w::vs,0,m,nd,h1,h2,hk=>by
  simp at h1 h2;subst h1;subst h2
  show bindC kindOf ((p,w)::P.zip vs) m p=_
  unfold bindC
  rw[Jp λv hv=>(uE.mp nd).1 (YU hv).1,if_neg hk]
  simp
 |p::P,w::vs,i+1,m,nd,h1,h2,hk=>by
  show bindC kindOf ((p,w)::P.zip vs) m x=_
  unfold bindC
  exact Jo (i:=i) (uE.mp nd).2 ↥h1 ↥h2 hk
def vV (N:List Str) (vs:List V):St:=vs.map some++List.replicate (N.length-vs.length) none
def xh (CX:CXT) (P:Program) (w:World) (K:Fg) (mg:Str->Option Value) (base:Heap) (N:List Str) (qual:Str) (scope:Scope) (f:Addr) (cd:Value) (A:Around) (outer:List Env) (s:Shared) (H:Hp) (E:XK):Cx where
 prog:=P
 w:=w
 K:=K
 mg:=mg
 base:=base
 A:=A.deeper (envOfC qual scope s.heap.objs.size f cd)
 N:=N
 s₀:=s
 H₀:=H
 env:=envOfC qual scope s.heap.objs.size f cd
 outer:=outer
 stack:=envOfC qual scope s.heap.objs.size f cd::outer
 ex:=[]
 calm:=true
 fn:=λ_=>true
 pn:=[]
 xe:=λe s'=>wpAny (model P w) (A.deeper (envOfC qual scope s.heap.objs.size f cd)) (leaving (envOfC qual scope s.heap.objs.size f cd) e) (λ_ s''=>CX outer H s E e s'') (λe' s''=>CX outer H s E e' s'') s'
def zaJ {sc:Scope}{n:Nat}{x:Str}(h:sc.names.lookup x=some .cell):∃c,(cellsFrom n sc.names []).lookup x=some c:=by
 have q:=PySem.W.cellsFrom_some sc.names n [] (.inl h)
 exact Option.isSome_iff_exists.mp q
def zdy {CX:CXT}{P:Program}{w:World}{K:Fg}{mg:Str->Option Value}{base:Heap}{N ps:List Str}{qual:Str}{scope:Scope}{f:Addr}{cd:Value}{A:Around}{outer:List Env}{s s1:Shared}{H:Hp}{E:XK}{us:List Value}{vs:List V}
  (S:zC N ps scope) (hd:A.handled=none) (e0:zbE P w K mg base A outer s H) (hl:vs.length=ps.length) (r:xa vs us)
  (x:InCallC s s.heap.objs.size (bindL (envOfC qual scope s.heap.objs.size f cd).kindOf (ps.zip us) λ_=>none) (cellsFrom (s.heap.objs.size+1) scope.names []) (bindC (envOfC qual scope s.heap.objs.size f cd).kindOf (ps.zip us) λ_=>none) s1) :
  Inv (xh CX P w K mg base N qual scope f cd A outer s H E) [] (vV N vs) H s1:=by
 have hpl:ps.length<=N.length:=by have:=congrArg List.length S.pre;rw[yk]at this;lia
 obtain⟨h1,tk,rfl,hk⟩:=x.done
 have noA:∀b:Addr,b∉(xh CX P w K mg base N qual scope f cd A outer s H E).ex:=λb z=>absurd (show b∈([]:List Addr)from z) (by simp)
 refine⟨⟨e0.mod,S.kind,rL,rL,wn _,λy z c h1 h2=>?_,λy hy=>?_,λy c _ h=>?_,λ_=>hd,Around.frames_deeper e0.frames,.inr ⟨rL,rL⟩,λb z=>absurd z (noA b),e0.bs,e0.bsz,λb _ _=>noA b,λb z=>absurd z (noA b),e0.funs,e0.frf⟩,
  rfl,e0.bare,Un.kept hk,⟨_,x.toInCall.ns,λi y v h1 h2 h3=>?_⟩,λy c h=>⟨_,x.cell y c h⟩,e0.hok.fresh (wn _),λy c h=>?_,λp hp=>absurd (show p∈([]:List (Addr×Obj))from hp) (by simp),e0.hok.kept hk,?_⟩
 ·exact name_of_addr x.apart (PySem.mem_of_lookup h1) (PySem.mem_of_lookup h2)
 ·have hy:scope.names.lookup y=some .cell\/scope.names.lookup y=some .free:=hy
  rcases hy with hy | hy
  ·exact zaJ hy
  ·exact absurd rL (S.nofree _ (PySem.mem_of_lookup hy))
 ·exact Yq (x.above y c (PySem.mem_of_lookup h))
 ·have hi:i<vs.length:=by
   unfold vV at h2
   by_cases hi:i<vs.length
   ·exact hi
   ·rw[wV ↥hi]at h2
    rw[WJ]at h2
    split at h2 <;> cases h2
  have ha:vs[i]?=some v:=by
   unfold vV at h2
   rw[yd ↥hi,wo]at h2
   cases e:vs[i]? with
   |none=>rw[e]at h2;cases h2
   |some a=>rw[e]at h2;cases h2;rfl
  obtain⟨u,hu,rv⟩:=r.get ha
  have hp:ps[i]?=some y:=by
   rw[<-S.pre,WF ∅];exact h1
  have ndP:ps.Nodup:=by rw[<-S.pre];exact S.nd.sublist (List.take_sublist _ _)
  exists u,rv
  rcases S.par y (wU hp)with k | k
  ·exact .inl ⟨k,Jq ndP hp hu k⟩
  ·obtain⟨c,e⟩:=zaJ (n:=s.heap.objs.size+1) k
   refine .inr ⟨.inl k,c,e,?_⟩
   have q:=x.cell y c e
   rw[Jo ndP hp hu (by show scope.names.lookup y≠_;rw[k];decide)]at q
   exact q
 ·exact e0.hok.fresh (Yq (x.above y c (PySem.mem_of_lookup h)))
 ·unfold vV
  show _=N.length
  rw[wX,wc,uR]
  lia
def zeH {CX:CXT}{P:Program}{w:World}{K:Fg}{mg:Str->Option Value}{base:Heap}{k:Nat}{f:Addr}{name qual:Str}{params:Arguments}{body:List Stmt}{scope:Scope}{dV kV doc pm cdv ct oc:Value}{an od:Option Addr}
  {osl:Array (Option Value)}{N ps:List Str}{sp:Sp}(lk:K.lookup f=some ⟨oc,od,.func (PySem.W.fnOf name qual params body scope dV kV doc pm an cdv ct),osl⟩) (hcd:PySem.W.codeIn K cdv qual=true) (S:zC N ps scope)
  (len:∀vs H Q E,sp vs H Q E->vs.length=ps.length)
  (hbody:∀(A:Around) (outer:List Env) (s:Shared) (H:Hp) (vs:List V) (Q:VK) (E:XK),xc k (A.deeper (envOfC qual scope s.heap.objs.size f cdv))->sp vs H Q E →
   ∃t,PSs (xh CX P w K mg base N qual scope f cdv A outer s H E) body t/\t { nx:=λ_ H'=>Q .non H',rt:=Q } (vV N vs) H) :
  Zw P w K mg base CX (k+1) f (PySem.W.fnOf name qual params body scope dV kV doc pm an cdv ct) ps sp:=by
 refine⟨len,λA outer s H args us vs Q E hr e0 hb r hsp=>?_⟩
 have hl:=len _ _ _ _ hsp
 have KX:K.In s.heap:=e0.mod.kin.keeps λb o e=>(e0.bs b o e).1
 have lim:s.heap.NoLimit:=e0.mod.nolimit.keeps λb o e=>(e0.bs b o e).1
 have hkind:∀y∈ps.zip us,scope.names.lookup y.1=some .local ∨ (scope.names.lookup y.1=some .cell/\((cellsFrom (s.heap.objs.size+1) scope.names []).lookup y.1).isSome=true):=λ⟨n,v⟩ hy=>by
  rcases S.par n (YU hy).1 with q | q
  ·exact .inl q
  ·exact .inr ⟨q,PySem.W.cellsFrom_some _ _ _ (.inl q)⟩
 refine codeAny_call_function hr.depth (KX _ _ lk) rL S.co S.gen rL (PySem.W.codeRec_of KX hcd) (hb _ _ _ _ ?_)
 refine wpAny_newFunctionEnv_cells S.kind hkind λenv he s1 x=>?_
 subst he
 refine⟨lim.keeps x.toInCall.keep,codeAny_func ?_⟩
 obtain⟨t,ht,hq⟩:=hbody A outer s H vs Q E (hr.deeper _) hsp
 have I:Inv (xh CX P w K mg base N qual scope f cdv A outer s H E) [] (vV N vs) H s1:=zdy S hr.hd e0 hl r x
 refine uo (ht [] s1 (vV N vs) H _ I hq) (λfl s' hs=>?_) λe s' hs=>hs
 have fin:∀{σ':St}{H':Hp}{v:V}{u:Value},Inv (xh CX P w K mg base N qual scope f cdv A outer s H E) [] σ' H' s'->xn v u->Q v H'->CE outer P w H s Q u s' :=
  λ{σ' H' v u} J rv q=>⟨v,H',J.os,J.bare,J.base,J.hok,rv,q⟩
 cases fl with
 |ret u =>
  obtain⟨v,σ',H',J,rv,q⟩:=hs
  exact fin J rv q
 |next =>
  obtain⟨σ',H',J,q⟩:=hs
  exact fin (v:=V.non) (u:=Value.none) J rL q
 |brk =>
  obtain⟨_,_,_,q⟩:=hs
  exact False.elim q
 |cont =>
  obtain⟨_,_,_,q⟩:=hs
  exact False.elim q
section
variable {X:Cx}{x:Str}{p pos:Pos}{e:Expr}{es:List Expr}{t:TA}{id T:String}{r:List V->Hp->VK->Prop}
def tCB (r:List V->Hp->VK->Prop) (t:TA):TE:=λσ H Q=>t σ H λvs H1=>r vs H1 Q
theorem zO (hc:vD X (.builtin id) r) (hg:Gl X x) (hm:X.mg x=none) (hv:bootBuiltins x=some (.builtin id)) (ha:PA X (e::es) t) (hn:x≠"__name__":=by decide) (hdb:(x == ("__debug__":Str))=false:=by decide)
  (he:starEach (e::es) X.env=(false,eval e X.env)::starEach es X.env:=by rfl) (hpl:(backTo pos (starEach es X.env)).any (·.1)=false:=by rfl):PE X (.Call (.Name x p) (e::es) [] pos) (tCB r t):=by
 intro pz s σ H Q I h
 refine uy (ZC I hg hm hv ?_ hn hdb)
 exact WY (thn (ha pos pz s σ H _ I h) λus s1 ⟨vs,H1,I1,r1,q1⟩=>hc pz s1 σ H1 vs us Q I1 r1 q1) he hpl
theorem Zp (hc:vD X (.type T) r) (hg:Gl X x) (hm:X.mg x=none) (hv:bootBuiltins x=some (.type T)) (ha:PA X (e::es) t) (hn:x≠"__name__":=by decide) (hdb:(x == ("__debug__":Str))=false:=by decide)
  (he:starEach (e::es) X.env=(false,eval e X.env)::starEach es X.env:=by rfl) (hpl:(backTo pos (starEach es X.env)).any (·.1)=false:=by rfl):PE X (.Call (.Name x p) (e::es) [] pos) (tCB r t):=by
 intro pz s σ H Q I h
 refine uy (ZC I hg hm hv ?_ hn hdb)
 exact yN (thn (ha pos pz s σ H _ I h) λus s1 ⟨vs,H1,I1,r1,q1⟩=>hc pz s1 σ H1 vs us Q I1 r1 q1) he hpl
end
end L2
namespace HT
open PySem PyProof.Rows
end HT
namespace L2
open PySem PySem.Spec PyProof.Rows
def ZB {ns:List Int}:∀{us:List Value},xa (ns.map V.int) us->IntsAre us ns:=by
 induction ns with
 |nil=>intro us r;rw[YV]at r;cases r;exact .nil
 |cons n ns ih =>
  intro us r
  rw[yn]at r
  cases r with
  |cons r1 r2 =>
   obtain⟨t,e⟩:=r1
   subst e
   exact .cons n t (ih r2)
def ixN (n:Nat) (i:Int):Option Nat:=if 0<=i then(if i<n then some i.toNat else none)else if -(n:Int)<=i then some (i+n).toNat else none
def atI {α:Type}(xs:List α) (i:Int):Option α:=(ixN xs.length i).bind λj=>xs[j]?
def zcG {n:Nat}{i:Int}{j:Nat}(h:ixN n i=some j):seqIndex? i n=some j/\j<n ∧ -(n:Int)<=i/\i<n:=by
 unfold ixN at h
 by_cases h0:0<=i
 ·rw[if_pos h0]at h
  by_cases h1:i<n
  ·rw[if_pos h1]at h
   have e:i.toNat=j:=Option.some.inj h
   exact⟨by rw[seqIndex_of h0 h1,e],by lia,by lia,h1⟩
  ·rw[if_neg h1]at h;cases h
 ·rw[if_neg h0]at h
  by_cases h1 : -(n:Int)<=i
  ·rw[if_pos h1]at h
   have e:(i+n).toNat=j:=Option.some.inj h
   exact⟨by rw[seqIndex_neg ∅ h1,e],by lia,h1,by lia⟩
  ·rw[if_neg h1]at h;cases h
def zcq {α:Type}{xs:List α}{i:Int}{v:α}(h:atI xs i=some v):∃j,seqIndex? i xs.length=some j/\xs[j]?=some v/\j<xs.length ∧ -(xs.length:Int)<=i/\i<xs.length:=by
 unfold atI at h
 cases e:ixN xs.length i with
 |none=>rw[e]at h;cases h
 |some j =>
  rw[e]at h
  obtain⟨h1,h2,h3,h4⟩:=zcG e
  exact⟨j,h1,h,h2,h3,h4⟩
def Qk {α:Type}{xs:List α}{j:Nat}{v:α}(h:xs[j]?=some v):atI xs (j:Int)=some v:=by
 have hj:j<xs.length:=(w4.mp h).1
 have e:ixN xs.length (j:Int)=some j:=by
  unfold ixN
  rw[if_pos ∅,if_pos ∅];simp
 unfold atI;rw[e];exact h
def zgt (b:Expr):Prop:=∀o i,subscripted b false o i=operate [o,i] (getItem o i)
def IxR (X:Cx) (r:R2):Prop :=
 ∀(value slice:Expr) (pz:List (Addr×Obj)) (s:Shared) (σ:St) (H:Hp) (x y:V) (v u:Value) (Q:VK),Inv X pz σ H s->xn x v->xn y u->r x y H Q →
  subscripted slice false v u=operate [v,u] (getItem v u)->wpAny (model X.prog X.w) X.A (subscriptTail value slice v u) (EP X pz σ Q) X.xe s
def MtR (X:Cx) (id:String) (r:V->List V->Hp->VK->Prop):Prop :=
 ∀(pz:List (Addr×Obj)) (s:Shared) (σ:St) (H:Hp) (x:V) (xs:List V) (v:Value) (us:List Value) (Q:VK),Inv X pz σ H s->xn x v->xa xs us->r x xs H Q →
  wpAny (model X.prog X.w) X.A (call (.builtin id) (v::us)) (EP X pz σ Q) X.xe s
section
variable {X:Cx}{a b:Expr}{ta tb:TE}{pos:Pos}
theorem qa {r:R2}(hr:IxR X r) (ha:PE X a ta) (hb:PE X b tb) (hs:zgt b):PE X (.Subscript a b pos) (tOp r ta tb):=by
 intro pz s σ H Q I h
 exact Subscript_ (ziE ha hb I h λv u s2 x y H2 I2 rx ry q=>hr a b pz s2 σ H2 x y v u Q I2 rx ry q (hs _ _))
inductive zii (K:Fg) (x:V) (y:V) (H:Hp) (Q:VK):Prop
 |mk:∀p xs i v,(x=.ref p)->(y=.int i)->(SqL K H p xs)->(atI xs i=some v)->(Q v H)->zii K x y H Q
def rIxL (K:Fg):R2:=λx y H Q=>zii K x y H Q
inductive zij (K:Fg) (x:V) (y:V) (H:Hp) (Q:VK):Prop
 |mk:∀p xs i v,(x=.ref p)->(y=.int i)->(SqT K H p xs)->(atI xs i=some v)->(Q v H)->zij K x y H Q
def vG (K:Fg):R2:=λx y H Q=>zij K x y H Q
theorem qy:IxR X (rIxL X.K):=by
 intro value slice pz s σ H x y v u Q I rx ry h hs
 obtain⟨p,xs,i,z,rfl,rfl,hq,he,q⟩:=h
 cases rx
 obtain⟨t,rfl⟩:=ry
 obtain⟨its,r,pl,hz⟩:=I.list hq
 obtain⟨j,h1,h2,h3,h4,h5⟩:=zcq he
 obtain⟨w,ew,rw'⟩:=r.get h2
 have hl:=r.length
 have hn:=zag
 have fin:EP X pz σ Q w s:=⟨z,H,I,rw',q⟩
 by_cases h0:0<=i
 ·have hj:i.toNat=j:=by
   rw[seqIndex_of h0 h5]at h1
   exact Option.some.inj h1
  exact item_listR pl.isList h0 ∅ (by rw[hj];simpa using ew) fin hs
 ·have hj:(i+(its.toArray.size:Int)).toNat=j:=by
   rw[seqIndex_neg ∅ h4]at h1
   rw[wK,<-hl]
   exact Option.some.inj h1
  exact subscriptTail_builtinR (x:=w) pl.isList.typeIs slot_list_getitem.lookup
   (wpAny_getItem_list_neg (Q:=λr s'=>r=w/\EP X pz σ Q r s') pl.isList ∅ (by rw[wK] <;> lia) ∅ (by rw[hj];simpa using ew) ⟨rfl,fin⟩) hs
theorem XI:IxR X (vG X.K):=by
 intro value slice pz s σ H x y v u Q I rx ry h hs
 obtain⟨p,xs,i,z,rfl,rfl,hq,he,q⟩:=h
 cases rx
 obtain⟨t,rfl⟩:=ry
 obtain⟨its,r,pl,hz⟩:=I.tuple hq
 obtain⟨j,h1,h2,h3,h4,h5⟩:=zcq he
 obtain⟨w,ew,rw'⟩:=r.get h2
 have hl:=r.length
 have hn:=zag
 have fin:EP X pz σ Q w s:=⟨z,H,I,rw',q⟩
 exact subscriptTail_builtinR (x:=w) pl.typeIs slot_tuple_getitem.lookup
  (getItem_tuple (j:=j) (Q:=λr s'=>r=w/\EP X pz σ Q r s') pl ∅ ∅ (by rw[wK,<-hl];exact h1) ↥ew ⟨rfl,fin⟩) hs
theorem pxt {a:Expr}{ta:TE}{i:Int}{j:_}{p q:Pos}(ha:PE X a ta):PE X (.Subscript a (.Constant (.int i) j p) q) (tOp (vG X.K) ta (tC (.int i))):=qa XI ha zh (λ_ _=>rfl)
theorem zb3 (its:List Value) (n j:Nat) (u:Value):Obj.mapSeq (·.setIfInBounds j u) { cls:=.type "list",data:=.seq its.toArray n } = { cls:=.type "list",data:=.seq (its.set j u).toArray n }:=by
 simp[Obj.mapSeq]
theorem Inv.lst {pz:List (Addr×Obj)}{σ:St}{H:Hp}{s:Shared}{p:Addr}{xs:List V}(I:Inv X pz σ H s) (h:H p=some (.lst xs)) :
  ∃(its:List Value) (n:Nat),xa xs its/\s.heap.get? p=some { cls:=.type "list",data:=.seq its.toArray n }/\xs.length<=sizeLine:=by
 obtain⟨z,its,n,r,e⟩:=I.hok p _ h
 exact⟨its,n,r,e,z⟩
theorem Inv.lstUpd {pz:List (Addr×Obj)}{σ:St}{H:Hp}{s:Shared}{p:Addr}{xs ys:List V}{its its':List Value}{n n':Nat}{f:Obj->Obj}(I:Inv X pz σ H s) (h:H p=some (.lst xs))
  (ho:s.heap.get? p=some { cls:=.type "list",data:=.seq its.toArray n }) (hf:f { cls:=.type "list",data:=.seq its.toArray n } = { cls:=.type "list",data:=.seq its'.toArray n' }) (r:xa ys its') (hz:ys.length<=sizeLine) (t:Nat) :
  Inv X pz σ (upd H p (.lst ys)) { s with heap:=s.heap.update p f,toks:=t }:=by
 have e:(s.heap.update p f).get? p=some { cls:=.type "list",data:=.seq its'.toArray n' }:=by
  rw[yP f ho (by rw[hf] <;> rfl),hf]
 refine I.write (x:=p) (e:=p) (by rw[h];trivial) (.inl rfl) (λb u hb q=>(ym _ _ (Ne.symm hb)).trans q) ⟨_,e⟩ ?_
 exact⟨hz,its',n',r,e⟩
def zle:V->V->V->Hp->(Hp->Prop)->Prop:=λo i v H Q=>∃p xs k j,o=.ref p/\i=.int k/\H p=some (.lst xs)/\ixN xs.length k=some j/\Q (upd H p (.lst (xs.set j v)))
theorem zbk:zkt X zle:=by
 intro pz s σ H o i v ov iv u Q I ro ri rv h
 obtain⟨p,xs,k,j,rfl,rfl,hp,hj,q⟩:=h
 cases ro
 obtain⟨t,rfl⟩:=ri
 obtain⟨its,n,r,ho,hz⟩:=I.lst hp
 obtain⟨h1,h2,h3,h4⟩:=zcG hj
 have hl:=r.length
 have hn:=zag
 have I':Inv X pz σ (upd H p (.lst (xs.set j v))) { s with heap:=s.heap.update p (Obj.mapSeq (·.setIfInBounds j u)) } :=
  I.lstUpd hp ho (zb3 its n j u) (r.set rv j) (by rw[List.length_set];exact hz) s.toks
 by_cases h0:0<=k
 ·have hk:k.toNat=j:=by
   rw[seqIndex_of h0 h4]at h1
   exact Option.some.inj h1
  exact PySem.W.ki_setAt ho h0 ∅ (by rw[wK,<-hl];exact h4) (by rw[hk];exact⟨_,I',q⟩)
 ·have hk:(k+(its.toArray.size:Int)).toNat=j:=by
   rw[seqIndex_neg ∅ h3]at h1
   rw[wK,<-hl]
   exact Option.some.inj h1
  exact PySem.W.ki_setBack ho ∅ (by rw[wK,<-hl];exact h3) ∅ (by rw[hk];exact⟨_,I',q⟩)
theorem xp:vD X (.builtin "len") (λxs H Q=>∃p ys,xs=[.ref p]/\(SqL X.K H p ys\/SqT X.K H p ys)/\Q (.int ys.length) H):=by
 intro pz s σ H xs us Q I r h
 obtain⟨p,ys,rfl,hq,q⟩:=h
 obtain⟨u,rfl,rx⟩:=ZR r
 cases rx
 have hn:=zag
 rcases hq with hq | hq
 ·obtain⟨its,r',pl,hz⟩:=I.list hq
  have hlen:=r'.length
  exact Calls.call_len_list pl.isList (by simp only[wK] <;> lia) ⟨.int ys.length,H,I.tok _,⟨s.toks+1,by rw[wK,hlen]⟩,q⟩
 ·obtain⟨its,r',pl,hz⟩:=I.tuple hq
  have hlen:=r'.length
  exact len_tuple pl (by simp only[wK] <;> lia) ⟨.int ys.length,H,I.tok _,⟨s.toks+1,by rw[wK,hlen]⟩,q⟩
theorem Qm:vD X (.type "list") (λxs H Q=>∃p ys,xs=[.ref p]/\(SqL X.K H p ys\/SqT X.K H p ys)/\∀l,H l=none->Q (.ref l) (upd H l (.lst ys))):=by
 intro pz s σ H xs us Q I r h
 obtain⟨p,ys,rfl,hq,q⟩:=h
 obtain⟨u,rfl,rx⟩:=ZR r
 cases rx
 have fin:∀(its:List Value),xa ys its->ys.length<=sizeLine->∀(h':Heap) (c':Nat),(∀b o',s.heap.get? b=some o'->h'.get? b=some o') →
   h'.get? s.heap.objs.size=some { cls:=.type "list",dict:=none,data:=.seq its.toArray c',slots:=#[] }->EP X pz σ Q (.ref s.heap.objs.size) { s with heap:=h' }:=λits r' hz h' c' kp e =>
  ⟨.ref s.heap.objs.size,_,I.laid (t':=s.toks) kp (wn _) (show xJ X.prog X.w _ h' _ (.lst ys)from⟨hz,its,c',r',e⟩),rfl,q _ (I.hok.fresh (wn _))⟩
 rcases hq with hq | hq
 ·obtain⟨its,r',pl,hz⟩:=I.list hq
  have hlen:=r'.length
  obtain⟨o,ho,hc,n,hd⟩:=pl.isList
  exact call_list_seq p (.inl rfl) ho hc hd (λh' c' kp e=>fin its r' hz h' c' kp e) (by simp only[wK] <;> lia)
 ·obtain⟨its,r',pl,hz⟩:=I.tuple hq
  have hlen:=r'.length
  obtain⟨o,ho,hc,n,hd⟩:=pl
  exact call_list_seq p (.inr rfl) ho hc hd (λh' c' kp e=>fin its r' hz h' c' kp e) (by simp only[wK] <;> lia)
theorem XA:vD X (.type "tuple") (λxs H Q=>∃p ys,xs=[.ref p]/\((SqL X.K H p ys/\∀l,H l=none->Q (.ref l) (upd H l (.tup ys)))\/(SqT X.K H p ys/\Q (.ref p) H))):=by
 intro pz s σ H xs us Q I r h
 obtain⟨p,ys,rfl,h⟩:=h
 obtain⟨u,rfl,rx⟩:=ZR r
 cases rx
 rcases h with⟨hq,q⟩ | ⟨hq,q⟩
 ·obtain⟨its,r',pl,hz⟩:=I.list hq
  have hlen:=r'.length
  refine call_tuple_list pl.isList (λh' kp=>?_) (by simp only[wK] <;> lia)
  have I1:Inv X pz σ H { s with heap:=h' }:=I.kept (t':=s.toks) kp
  have I2:Inv X pz σ (upd H h'.objs.size (.tup ys)) { s with heap:=h'.push { cls:=.type "tuple",data:=.seq its.toArray } } :=
   I1.laid (t':=s.toks) (λb o e=>wg _ e) (wn _) (show xJ X.prog X.w _ _ _ (.tup ys)from⟨hz,its,r',IsTup.new _ _⟩)
  exact⟨.ref h'.objs.size,_,I2,rL,q _ (I1.hok.fresh (wn _))⟩
 ·obtain⟨its,r',pl,hz⟩:=I.tuple hq
  exact call_tuple_same pl ⟨.ref p,H,I,rL,q⟩
def tyV (K:Fg) (T:String) (x:V) (H:Hp):Prop:=match x with
 |.str _=>T = "str"
 |.int _=>T = "int"
 |.ref p=>(T = "list"/\∃xs,SqL K H p xs)\/(T = "tuple"/\∃o,K.lookup p=some o/\o.cls=.type "tuple"/\o.dict=none) ∨
   (T = "dict"/\((∃kvs,H p=some (.dK kvs))\/∃kvs,H p=some (.dT kvs)))\/(T = "set"/\∃S n,H p=some (.set S n))
 |_=>False
theorem zkk {pz:List (Addr×Obj)}{σ:St}{H:Hp}{s:Shared}{T:String}{x:V}{v:Value}(I:Inv X pz σ H s) (r:xn x v) (ty:tyV X.K T x H) :
  s.TypeIs v T/\∀a,v=.ref a->∃G,s.heap.get? a=some G/\G.dict=none:=by
 cases x with
 |str z =>
  obtain⟨t,rfl⟩:=r
  cases(show T = "str" from ty)
  exact⟨typeIs_str s z t,λ_ e=>nomatch e⟩
 |int i =>
  obtain⟨t,rfl⟩:=r
  cases(show T = "int" from ty)
  exact⟨typeIs_int s i t,λ_ e=>nomatch e⟩
 |ref p =>
  cases r
  rcases ty with⟨rfl,xs,O⟩ | ⟨rfl,o,F,W,hd⟩ | ⟨rfl,F⟩ | ⟨rfl,S,n,F⟩
  ·obtain⟨U,_,pl,_⟩:=I.list O
   refine⟨pl.isList.typeIs,λa e=>?_⟩
   cases e
   obtain⟨o,n,e,c,hd,_⟩:=pl
   exact⟨o,e,hd⟩
  ·refine⟨⟨o,I.kIn p o F,W⟩,λa e=>?_⟩
   cases e
   exact⟨o,I.kIn _ o F,hd⟩
  ·have z:∃o,s.heap.get? p=some o/\o.ExactDict:=by
    rcases F with⟨kvs,F⟩ | ⟨kvs,F⟩
    ·obtain⟨_,_,_,_,o,_,_,e,ex,_⟩:=I.hok p _ F
     exact⟨o,e,ex⟩
    ·obtain⟨_,_,_,_,o,_,_,e,ex,_⟩:=I.hok p _ F
     exact⟨o,e,ex⟩
   obtain⟨o,e,ex⟩:=z
   refine⟨⟨o,e,ex.1⟩,λa e2=>?_⟩
   cases e2
   exact⟨o,e,ex.2.1⟩
  ·obtain⟨o,_,_,_,e,ex,_⟩:=I.hok p _ F
   refine⟨⟨o,e,ex.1⟩,λa e2=>?_⟩
   cases e2
   exact⟨o,e,ex.2.1⟩
 |_=>exact False.elim ty
def tBM (K:Fg) (T:String) (r:V->List V->Hp->VK->Prop) (to:TE) (t:TA):TE:=λσ H Q=>to σ H λx H1=>tyV K T x H1/\t σ H1 λxs H2=>r x xs H2 Q
variable {o e:Expr}{es:List Expr}{to:TE}{t:TA}{name:Str}{apos cpos:Pos}{T id:String}{r:V->List V->Hp->VK->Prop}
theorem XC (pa:PlainAttrs T) (slot:Slot T name id) (U:typeOf (.builtin id)=pure (.type "method_descriptor")) (hm:MtR X id r) (ho:PE X o to) (Y:PA X (e::es) t)
  (O:attributeBase o name X.env (eval o X.env)=eval o X.env:=by rfl)
  (S:((backTo cpos (starEach (e::es) X.env)).all (λx=>!x.1)&&(backToKw cpos (keywordEach [] X.env)).all (λx=>x.1.isSome)
   && decide ((e::es).length+([]:List Keyword).length+(if([]:List Keyword).isEmpty then 0 else 1)<30))=true:=by rfl)
  (G:(apos.endLine == cpos.line)=true:=by rfl) (hs:starEach (e::es) X.env=(false,eval e X.env)::starEach es X.env:=by rfl) (F:(backTo cpos (starEach es X.env)).any (·.1)=false:=by rfl) :
  PE X (.Call (.Attribute o name apos) (e::es) [] cpos) (tBM X.K T r to t):=by
 intro pz s σ H Q I h
 refine wpAny_Call_method_late O S G rL (thn (ho pz s σ H _ I h) λv s1 ⟨x,H1,I1,r1,ty,q1⟩=>?_)
 obtain⟨h1,h2⟩:=zkk I1 r1 ty
 exists T,id,pa,slot,U,h1,h2
 have V:=Y cpos pz s1 σ H1 _ I1 q1
 rw[hs]at V ⊢
 refine Calls.callWith_builtin (by show (false || (backTo cpos (starEach es X.env)).any (·.1))=false;rw[F] <;> rfl) (Calls.evalArgs_plain ?_)
 exact thn V λus W ⟨vs,H2,I2,r2,q2⟩=>hm pz W σ H2 x vs v us Q I2 r1 r2 q2
end
def MtM (X:Cx) (id:String) (r:V->List V->Hp->VK->Prop):Prop :=
 ∀(pz:List (Addr×Obj)) (s:Shared) (σ:St) (H:Hp) (x:V) (xs:List V) (v:Value) (us:List Value) (Q:VK),Inv X pz σ H s->xn x v->xa xs us->r x xs H Q →
  wpAny (model X.prog X.w) X.A (call (.builtin id) (v::us)) (EP X pz σ Q) X.xe s
def xa.one:∀{x:V}{us:List Value},xa [x] us->∃u,us=[u]/\xn x u
 |_,_,.cons r .nil=>⟨_,rfl,r⟩
def xa.two:∀{x y:V}{us:List Value},xa [x,y] us->∃u v,us=[u,v]/\xn x u/\xn y v
 |_,_,_,.cons r (.cons q .nil)=>⟨_,_,rfl,r,q⟩
section
variable {X:Cx}{pz:List (Addr×Obj)}{σ:St}{H:Hp}{s:Shared}{l b:Addr}{xs ys zs:List V}
theorem Inv.lset {its its':List Value}{n:Nat}{f:Array Value->Array Value}{t':Nat}(I:Inv X pz σ H s) (hH:H l=some (.lst xs))
  (e:s.heap.get? l=some { cls:=.type "list",data:=.seq its.toArray n }) (hf:f its.toArray=its'.toArray) (hv:xa ys its') (hz:ys.length<=sizeLine) :
  Inv X pz σ (upd H l (.lst ys)) { s with heap:=s.heap.update l (Obj.mapSeq f),toks:=t' }:=by
 have q:=PySem.IsL.update e f
 rw[hf]at q
 refine I.write (x:=l) (e:=l) (by rw[hH];exact trivial) (.inl rfl) (λb' u hb hu=>(ym s.heap (Obj.mapSeq f) (Ne.symm hb)).trans hu) ⟨_,q⟩ ?_
 exact⟨hz,its',_,hv,q⟩
theorem Inv.lnew {its:List Value}{t':Nat}(I:Inv X pz σ H s) (hv:xa ys its) (hz:ys.length<=sizeLine) :
  Inv X pz σ (upd H s.heap.objs.size (.lst ys)) { s with heap:=s.heap.push { cls:=.type "list",data:=.seq its.toArray },toks:=t' } :=
 I.laid (λ_ _ q=>wg _ q) (wn _) ⟨hz,its,0,hv,wJ _ rfl⟩
theorem Inv.fresh (I:Inv X pz σ H s):H s.heap.objs.size=none:=I.hok.fresh (wn _)
theorem Inv.lstM (I:Inv X pz σ H s) (hH:H l=some (.lst xs)):xs.length<=sizeLine/\∃(its:List Value) (n:Nat),xa xs its/\xs.length=its.length/\s.heap.get? l=some { cls:=.type "list",data:=.seq its.toArray n }:=by
 obtain⟨z,its,n,r,e⟩:=I.hok l _ hH
 exact⟨z,its,n,r,r.length,e⟩
theorem zfe {n:Nat}(h:n<=sizeLine):Builtin.List.listTooLong n=false:=by
 unfold Builtin.List.listTooLong
 exact wx ∅
end
section
variable {X:Cx}
def zhr:V->List V->Hp->VK->Prop:=λx vs H Q=>∃l xs y,x=.ref l/\vs=[y]/\H l=some (.lst xs)/\xs.length<sizeLine/\Q .non (upd H l (.lst (xs++[y])))
theorem qE:MtM X "list.append" zhr:=by
 intro pz s σ H x vs v us Q I rx rv h
 obtain⟨l,xs,y,rfl,rfl,hH,hz,q⟩:=h
 cases rx
 obtain⟨u,rfl,ru⟩:=rv.one
 obtain⟨z,its,n,r,hl,e⟩:=I.lstM hH
 refine call_meets F.slot_list_append ⟨_,e,rfl⟩ F.entry_list_append (F.args_list_append_2 _ _) (PySem.list_append l its.toArray n u (by rw[wK];lia)) ⟨e,?_⟩
 refine⟨.non,_,I.lset (its':=its++[u]) hH e (by simp) (r.append (.cons ru .nil)) ?_,rfl,q⟩
 rw[wX,uf]
 lia
inductive zif (x:V) (y:V) (H:Hp) (Q:VK):Prop
 |mk:∀l b xs zs,(x=.ref l)->(y=.ref b)->(H l=some (.lst xs))->(H b=some (.lst zs))->(xs.length+zs.length<=sizeLine)->(∀p,H p=none->Q (.ref p) (upd H p (.lst (xs++zs))))->zif x y H Q
def rCat:R2:=λx y H Q=>zif x y H Q
theorem zfk:OpR X (binaryOp .Add) rCat:=by
 intro pz s σ H x y v u Q I rx ry h
 obtain⟨l,b,xs,zs,rfl,rfl,hH,hB,hz,q⟩:=h
 cases rx
 cases ry
 obtain⟨z,its,n,r,hl,e⟩:=I.lstM hH
 obtain⟨z2,its2,n2,r2,hl2,e2⟩:=I.lstM hB
 refine PySem.P.add_list e e2 ?_ (by rw[wK,wK];lia)
 have ea:its.toArray++its2.toArray=(its++its2).toArray:=by simp
 rw[ea]
 exact⟨.ref _,_,I.lnew (t':=s.toks) (r.append r2) (by rw[wX];lia),rfl,q _ I.fresh⟩
end
end L2
namespace Att
open PySem PySem.W PySem.Calls PyProof.Rows
def Vj {P:Params}{h:Heap}:∀(ns:List Int) (vs:List Value),WellAll P h vs (ns.map WData.int)->IntsAre vs ns:=by
 intro ns
 induction ns with
 |nil =>
  intro vs w
  rw[YV]at w
  cases w
  exact .nil
 |cons n ns ih =>
  intro vs w
  rw[yn]at w
  cases w with
  |cons a b =>
   cases a
   exact .cons _ _ (ih _ b)
def zd0 {l:OpenLaw}{n:Nat}(Y:l.most=some n){P:Params}{h:Heap}{args:List WData}{vals:List Value}
  (F:l.row.toRowW.claim.pre args=true) (S:WellAll P h vals args) :
  ∃a vs ns,vals=[Value.ref a]/\args=[WData.list (ns.map WData.int)]/\h.get? a=some { cls:=.type "list",data:=.seq vs.toArray }/\IntsAre vs ns/\ns.length<=n:=by
 have U:WShape.hasAll [] args [.list .int]=true:=(pre_splitW F).1
 have V:l.pre.holds [] { args:=args }=true:=(pre_splitW F).2
 obtain⟨d,r,rfl,h1,h2⟩:=hasAllW_cons U
 obtain rfl:=hasAllW_nil h2
 obtain⟨xs,rfl,W⟩:=hasW_list h1
 obtain⟨ns,rfl⟩:=items_int W
 have G:ns.length<=n:=by
  unfold OpenLaw.pre at V
  have O:(WTm.not (.lt (.lit (.int (n:Int))) (.len (.arg 0)))).holds [] { args:=[.list (ns.map .int)] }=true:=by
   have O:=(holds_andW V).1
   rw[Y]at O
   exact O
  have I:=condW_of O (w_not (w_lt w_lit (w_len_list (w_arg rfl))))
  rw[wc]at I
  refine Nat.le_of_not_lt λq=>?_
  have q':(n:Int)<((ns.length:Nat):Int):=by omega
  first
   | (rw[wm q']at I;exact absurd I ⇑1)
   | (simp at I;omega)
 cases S with
 |cons w1 w2 =>
  cases w2
  cases w1 with
  |list ho hall=>exact⟨_,_,ns,rfl,rfl,ho,Vj ns _ hall,G⟩
def zdX (l:OpenLaw) (args:List WData):l.row.toRowW.claim.post args (.bool true) args=true :=
 postW_of (r:=l.row.toRowW) (X:=(true == true))
  (show WShape.has [] (.bool true) .bool=true by first | rfl | decide | simp[WShape.has,WShape.arms,WShape.armsAll])
  (show (WTm.eq .res (.lit (.bool true))).value [] { args:=args,res:=some (.bool true),after:=args }=some (.bool (true == true))from w_eq_bool (w_res rfl) w_lit) rfl
def attach_call {l:OpenLaw}{n:Nat}{q:Program}{F:List Str}{XP:(Str->Option Value)->Heap->Prop}{YP:World->Heap->Prop}{d:DefRec}
  (hn:l.most=some n) (a2:d.params.defaults=[])
  (call:∀(w:World) (s₀ I:Shared) (mg mb:Str->Option Value) (fa:Addr) (o:Obj) (pm cd O:Value) (a:Addr) (vs:List Value) (ns:List Int),
   Ground q F [] XP w s₀ mg mb I.heap->YP w I.heap →
   I.heap.get? fa=some o->o.data=.func (docDef d.name d.params d.body d.scope pm cd O)->I.heap.CodeRec cd d.name->mg d.name=some (.ref fa) →
   I.heap.get? a=some { cls:=.type "list",data:=.seq vs.toArray }->IntsAre vs ns->ns.length<=n->I.gens = #[] →
   codeAny (model l.prog w) callerA (.call (.ref fa) ⟨[.ref a],[]⟩) (λr s'=>r=.ok (.ret (.bool true))/\OldK I.heap s'.heap/\s'.os=I.os/\AllBare s'.gens) I) :
  WalkO q F XP YP l.row.toRowW d [] (λf vs=>PySem.call f vs):=by
 intro w s₀ I mg mb G Y fa o pm cd O dV kV ho hd a3 hD a4 hg args vals as V a5 a7 a1 a6
 obtain rfl:dV=.none:=Dflts.none hD a2
 obtain rfl:kV=.none:=Dflts.noKw hD
 obtain⟨a,vs,ns,rfl,rfl,W,S,U⟩:=zd0 hn V a1
 refine enter_call (codeAny_mono (call w s₀ I mg mb fa o pm cd O a vs ns G Y ho (fd_plain hd) a3 a4 W S U hg) λr s' hq=>?_)
 obtain⟨rfl,h2,h3,h4⟩:=hq
 exact⟨.inl ⟨.bool true,.bool true,[],rL,λ_=>rL,.bool true,zdX l _,λ_=>⟨List.Pairwise.nil,λ_ hm=>(nomatch hm)⟩⟩,h2,h3,h4⟩
end Att
namespace L2
open PySem PySem.Spec PyProof.Rows
def vL:∀{vs:List Value}{ns:List Int},IntsAre vs ns->xa (ns.map V.int) vs
 |_,_,.nil=>.nil
 |_,_,.cons n t h=>.cons ⟨t,rfl⟩ (vL h)
def ziz (H:Hp):Prop:=∀b,H b=none\/∃o xs,H b=some (.frz o (.lst xs))
def zeX {P:Program}{w:World}{K:Fg}{mg mb:Str->Option Value}{CX:CXT}{k:Nat}{fa a:Addr}{fd:FuncData}{x:Str}{sp:Sp}{G:Shared}{vs:List Value}{ns:List Int}
  (KX:K.In G.heap) (a5:G.heap.Ns mainGlobals mg) (O:G.heap.Ns builtinsNs mb) (a8:∀x:Str,x≠"__name__"->mb x=bootBuiltins x) (a3:G.heap.NoLimit) (hg:G.gens = #[])
  (ha:G.heap.get? a=some { cls:=.type "list",data:=.seq vs.toArray }) (hi:IntsAre vs ns) (hl:ns.length<=sizeLine) (hr:xc k callerA)
  (F:∀base:Heap,K.In base->base.Ns mainGlobals mg->Zw P w K mg base CX k fa fd [x] sp) (Y:∀(s:Shared) (u:Value),BindsTo s fd ⟨[u],[]⟩ [(x,u)])
  (a6:∀H:Hp,ziz H->SqL K H a (ns.map V.int)->sp [.ref a] H (λv _=>v=.bl true) λ_ _ _=>False)
  (a7:∀H e s',CX [] H G (λ_ _ _=>False) e s'->False) :
  codeAny (model P w) callerA (.call (.ref fa) ⟨[.ref a],[]⟩) (λr s'=>r=.ok (.ret (.bool true))/\OldK G.heap s'.heap/\s'.os=G.os/\AllBare s'.gens) G:=by
 have rv:=vL hi
 have a2:=hi.length
 have U:∀H:Hp,ziz H->SqL K H a (ns.map V.int)->HOk P w H G.heap->(∀b,H b≠none->b=a)->(H a≠none->K.lookup a=none) →
   codeAny (model P w) callerA (.call (.ref fa) ⟨[.ref a],[]⟩) (λr s'=>r=.ok (.ret (.bool true))/\OldK G.heap s'.heap/\s'.os=G.os/\AllBare s'.gens) G:=by
  intro H hO hS hok hA hK
  have I:∀{b:Addr}{o:Obj},G.heap.get? b=some o->H b=none->(zad G.heap H).get? b=some o:=λe n=>zeQ e n
  have a9:∀{b:Addr}{o:Obj}{es:Array DictEntry}{ep:Nat},G.heap.get? b=some o->o.data=.dict es ep->H b=none:=λ{b o es ep} e d=>by
   cases q:H b with
   |none=>rfl
   |some u =>
    have e':b=a:=hA b (by rw[q];simp)
    subst e'
    rw[ha]at e;cases e
    have d':Data.seq vs.toArray _=Data.dict es ep:=d
    cases d'
  have S:∀{b:Addr}{m:Str->Option Value},G.heap.Ns b m->(zad G.heap H).Ns b m:=λ{b m} ⟨o,es,ep,e,d,r⟩=>⟨o,es,ep,I e (a9 e d),d,r⟩
  have a1:K.In (zad G.heap H):=λb o e=>I (KX b o e) (by
   cases q:H b with
   |none=>rfl
   |some u =>
    have e':b=a:=hA b (by rw[q];simp)
    subst e'
    rw[hK (by rw[q];simp)]at e;cases e)
  have hM:Mod K mg (zad G.heap H):=⟨a1,S a5,⟨mb,S O,a8⟩,let ⟨mc,h1,h2⟩:=a3;⟨mc,S h1,h2⟩⟩
  have e0:zbE P w K mg (zad G.heap H) callerA [] G H:=⟨rfl,hM,λb o e=>zg9 e,WX (zdx _ _),trivial,λb O=>absurd (show b∈([]:List Addr)from O) (by simp),hok,.of_eq hg⟩
  refine codeAny_mono ((F _ a1 (S a5)).run callerA [] G H ⟨[.ref a],[]⟩ [.ref a] [.ref a] _ _ hr e0 (Y G (.ref a)) (.cons rL .nil) (a6 H hO hS)) λr s' h=>?_
  cases r with
  |error e=>exact(a7 H e s' h).elim
  |ok fl =>
   cases fl with
   |next=>exact False.elim h
   |brk=>exact False.elim h
   |cont=>exact False.elim h
   |ret u =>
    obtain⟨v,H',os,bare,un,a4,r',q⟩:=h
    have q':v=.bl true:=q
    subst q'
    obtain rfl:u=Value.bool true:=r'
    refine⟨rL,OldK.of_keep λb o e=>?_,os,bare⟩
    cases q:H b with
    |none=>exact un.keep b o e q (by intro z;exact absurd (show b∈([]:List Addr)from z) (by simp)) (by simp)
    |some u =>
     rcases hO b with z | ⟨ob,xs,z⟩
     ·rw[q]at z;cases z
     ·have z2:=un.frzs b ob _ z
      obtain⟨e1,_⟩:=hok b _ z
      obtain⟨e2,_⟩:=a4 b _ z2
      rw[e]at e1;cases e1
      exact e2
 cases hk:K.lookup a with
 |some o =>
  have e:=KX a o hk
  rw[ha]at e
  cases e
  refine U (λ_=>none) (λ_=>.inl rfl) (.inr ⟨_,vs.toArray,_,hk,rfl,rfl,rfl,by rw[wK,a2];exact hl,↥rv⟩) (λb u z=>by have z':(none:Option HO)=some u:=z;cases z') (λb z=>absurd rfl z) λz=>absurd rfl z
 |none =>
  refine U (λb=>if b=a then some (.frz { cls:=.type "list",data:=.seq vs.toArray } (.lst (ns.map V.int)))else none) (λb=>?_) (.inl (.inr ⟨{ cls:=.type "list",data:=.seq vs.toArray },if_pos rL⟩)) (λb u z=>?_) (λb z=>?_) λ_=>hk
  ·by_cases O:b=a
   ·exact .inr ⟨_,_,if_pos O⟩
   ·exact .inl (if_neg O)
  ·by_cases O:b=a
   ·have z':=(if_pos O).symm.trans z
    cases z'
    subst O
    exact⟨ha,by rw[wc];exact hl,vs,_,rv,ha⟩
   ·have z':=(if_neg O).symm.trans z
    cases z'
  ·by_cases O:b=a
   ·exact O
   ·exact absurd (if_neg O) z
def zhZ {l:PySem.W.OpenLaw}{n k:Nat}{q:Program}{O:List Str}{XP:(Str->Option Value)->Heap->Prop}{YP:World->Heap->Prop}{d:DefRec}{K:Params->Fg}{CX:World->CXT}{sp:World->Sp}{x:Str}
  (hn:l.most=some n) (a3:n<=sizeLine) (a2:d.params.defaults=[]) (hr:xc k callerA)
  (hY:∀(w:World) (h:Heap),YP w h->(K w.params).In h)
  (F:∀(w:World) (mg:Str->Option Value) (fa:Addr) (h:Heap),(K w.params).In h->h.Ns mainGlobals mg->mg d.name=some (.ref fa) →
   ∃fd:FuncData,(∀(s:Shared) (u:Value),BindsTo s fd ⟨[u],[]⟩ [(x,u)]) ∧
    ∀base:Heap,(K w.params).In base->base.Ns mainGlobals mg->Zw l.prog w (K w.params) mg base (CX w) k fa fd [x] (sp w))
  (a1:∀(w:World) (H:Hp) (a:Addr) (ns:List Int),ns.length<=n->ziz H->SqL (K w.params) H a (ns.map V.int)->sp w [.ref a] H (λv _=>v=.bl true) λ_ _ _=>False)
  (a4:∀(w:World) (H:Hp) (s:Shared) (e:Value) (s':Shared),CX w [] H s (λ_ _ _=>False) e s'->False) :
  PySem.W.WalkO q O XP YP l.row.toRowW d [] (λf vs=>PySem.call f vs):=by
 refine Att.attach_call hn a2 λw s₀ s₁ mg mb fa o pm cd a6 a vs ns G Y ho hd a7 a5 U S I hg=>?_
 have KX:=hY w _ Y
 obtain⟨fd,hb,hF⟩:=F w mg fa _ KX G.T.g a5
 exact zeX KX G.T.g G.T.b G.T.builtins G.T.nolimit hg U S (yF I a3) hr hF hb (λH hO hS=>a1 w H a ns I hO hS) λH e s'=>a4 w H s₁ e s'
def zgS (s:Stmt) (j:Nat):Stmt:=match s with
 |.ClassDef _ _ _ body _ _ _ _ _ _ _=>body.getD j (.Pass ⟨0,0,0,0⟩)
 |_=>.Pass ⟨0,0,0,0⟩
def xD (s:Stmt):Arguments:=match s with
 |.FunctionDef _ a _ _ _ _ _ _ _ _=>a
 |_=>{ posonlyargs:=[],args:=[],vararg:=none,kwonlyargs:=[],kw_defaults:=[],kwarg:=none,defaults:=[] }
def xb (s:Stmt):List Stmt:=match s with
 |.FunctionDef _ _ b _ _ _ _ _ _ _=>b
 |_=>[]
def zi (s:Stmt):Scope:=match s with
 |.FunctionDef _ _ _ _ _ _ sc _ _ _=>sc
 |_=>{ kind:=.function,names:=[],isGenerator:=false,isCoroutine:=false }
abbrev CX0:CXT:=λ_ _ _ _ _ _=>False
abbrev E0:XK:=λ_ _ _=>False
def zcT {X:Cx}:VE CX0 X E0:=λ_ _ _ _ _ _ _ h=>h.elim
structure Fun (K:Fg) (x qual:Str) (st:Stmt) (f:Addr) (fd:FuncData):Prop where
 ex:∃(oc:Value) (od:Option Addr) (kV doc pm:Value) (an:Option Addr) (cdv ct:Value) (osl:Array (Option Value)),
  fd=PySem.W.fnOf x qual (xD st) (xb st) (zi st) .none kV doc pm an cdv ct/\K.lookup f=some ⟨oc,od,.func fd,osl⟩/\PySem.W.codeIn K cdv qual=true
 kp:PySem.W.keepIn K (.ref f)=true
section
variable {P:Program}{w:World}{K:Fg}{mg:Str->Option Value}{base:Heap}
theorem Fun.ok {x qual:Str}{st:Stmt}{f:Addr}{fd:FuncData}{N ps:List Str}{k:Nat}{sp:Sp}(F:Fun K x qual st f fd) (S:zC N ps (zi st)) (len:∀vs H Q E,sp vs H Q E->vs.length=ps.length)
  (G:∀(cdv:Value) (A:Around) (outer:List Env) (s:Shared) (H:Hp) (vs:List V) (Q:VK) (E:XK),xc k (A.deeper (envOfC qual (zi st) s.heap.objs.size f cdv))->sp vs H Q E →
   ∃t,PSs (xh CX0 P w K mg base N qual (zi st) f cdv A outer s H E).nox (xb st) t/\t { nx:=λ_ H'=>Q .non H',rt:=Q } (vV N vs) H):Zw P w K mg base CX0 (k+1) f fd ps sp:=by
 obtain⟨oc,od,kV,U,pm,an,cdv,ct,W,rfl,Y,I⟩:=F.ex
 refine zeH Y I S len λA outer s H vs Q E hr O=>?_
 obtain⟨t,h,q⟩:=G cdv A outer s H vs Q E hr O
 exact⟨t,h.nox,q⟩
theorem Fun.okq {x qual:Str}{st:Stmt}{f:Addr}{fd:FuncData}{N ps:List Str}{k:Nat}{sp:Sp}(F:Fun K x qual st f fd) (S:zC N ps (zi st))
  (G:∀(cdv:Value) (A:Around) (outer:List Env) (s:Shared) (H:Hp) (vs:List V) (Q:VK) (E:XK),xc k (A.deeper (envOfC qual (zi st) s.heap.objs.size f cdv))->sp vs H Q E →
   ∃t,PSs (xh CX0 P w K mg base N qual (zi st) f cdv A outer s H E).nox (xb st) t/\t { nx:=λ_ H'=>Q .non H',rt:=Q } (vV N vs) H) (len:∀vs H Q E,sp vs H Q E->vs.length=ps.length:=by intro _ _ _ _ h;repeat (first | (cases h;subst_vars;rfl) | (obtain⟨rfl,_⟩:=h;rfl) | (obtain⟨_,h⟩:=h))):Zw P w K mg base CX0 (k+1) f fd ps sp:=F.ok S len G
theorem Fun.binds {x qual:Str}{st:Stmt}{f:Addr}{fd:FuncData}{ps:List Str}(F:Fun K x qual st f fd)
  (h:∀(kV G O:Value) (I:Option Addr) (cdv ct:Value) (us:List Value),us.length=ps.length->bindArgs (PySem.W.fnOf x qual (xD st) (xb st) (zi st) .none kV G O I cdv ct) ⟨us,[]⟩=pure (ps.zip us)):v6 K fd ps []:=by
 obtain⟨oc,V,kV,G,O,I,cdv,ct,S,rfl,Y,U⟩:=F.ex
 exact .all (h kV G O I cdv ct)
theorem zeL {x qual:Str}{st:Stmt}{f:Addr}{U:Value}{S I:Option Addr}{G:Array (Option Value)}{kV F O cdv ct:Value}(l:K.lookup f=some ⟨U,S,.func (PySem.W.fnOf x qual (xD st) (xb st) (zi st) .none kV F O I cdv ct),G⟩)
  (c:PySem.W.codeIn K cdv qual=true) (k:PySem.W.keepIn K (.ref f)=true):Fun K x qual st f (PySem.W.fnOf x qual (xD st) (xb st) (zi st) .none kV F O I cdv ct):=⟨⟨U,S,kV,F,O,I,cdv,ct,G,rfl,l,c⟩,k⟩
end
def vJ {n:Nat}(h:n<=1000):n<sizeLine:=WK h ⇑1
section
variable {X:Cx}
theorem pv (i:Nat){x:Str}{pos:Pos}(G:X.N[i]?=some x:=by rfl) (I:Vis X.env.scope x:=by first | exact Or.inl rfl | exact Or.inr (Or.inl rfl) | exact Or.inr (Or.inr rfl)) (hd:(x == ("__debug__":Str))=false:=by decide)
  (F:(x == ("__classdict__":Str))=false:=by decide):PE X (.Name x pos) (xy i):=zju G I hd F
end
def hid {A:Prop}(h:∀P:Prop,(A->P)->P):A:=h A id
def xi {A B:Prop}(h:B):if false=true then A else B:=by
 rw[if_neg ye]
 exact h
def xM {A B:Prop}(h:A):if true=true then A else B:=by
 rw[if_pos rfl]
 exact h
def vu {c A B:Prop} [Decidable c] (h1:c->A) (h2:¬c->B):if c then A else B:=by
 by_cases h:c
 ·rw[if_pos h]
  exact h1 h
 ·rw[if_neg h]
  exact h2 h
def zq (H H':Hp):Prop:=∀b o,H b=some o->H' b=some o
def zq.refl (H:Hp):zq H H:=λ_ _ h=>h
def zq.trans {H H1 H2:Hp}(a:zq H H1) (b:zq H1 H2):zq H H2:=λc o h=>b c o (a c o h)
def zq.seq {K:Fg}{H H':Hp}{a:Addr}{xs:List V}(e:zq H H') (h:SqL K H a xs):SqL K H' a xs:=by
 rcases h with(h | ⟨o,h⟩) | h
 ·exact .inl (.inl (e _ _ h))
 ·exact .inl (.inr ⟨o,e _ _ h⟩)
 ·exact .inr h
section
variable {prog:Program}{w:World}{A:Around}{R:Result->Shared->Prop}{s:Shared}
theorem Qn {elt F iter:Expr}{ifs:List Expr}{scope:Scope}{pos:Pos}{it G:Value}{env:Env}(I:Nat->Shared->Prop)
  (S:∀n s,I n s->wpAny (model prog w) A (pyNext it) (λr U=>match r with
   |none=>R (.ok .next) U
   |some v=>wpAny (model prog w) A (letOwnedTupleGo F it v) (λ_ s₀=>wpAny (model prog w) A (assign F env v) (λ_ s₂ =>
     wpAny (model prog w) A (forIn ifs true λc r=>if r=true then do let ok <-isTrue c env (eval c env);pure (ForInStep.yield ok)else pure (ForInStep.yield r)) (λok V =>
      if ok=true then wpAny (model prog w) A (eval elt env) (λx W =>
       wpAny (model prog w) A (call (.builtin "list.append") [G,x]) (λ_ s₅=>∃m,m<n/\I m s₅) (λ_ _=>False) W) (λ_ _=>False) V
      else ∃m,m<n/\I m V) (λ_ _=>False) s₂) (λ_ _=>False) s₀) (λ_ _=>False) U) (λ_ _=>False) s)
  (n:Nat) (h:I n s) :
  codeAny (model prog w) A (.compLoop (.ListComp elt [⟨F,iter,ifs,0⟩] scope pos) 0 it G env) R s:=by
 refine codeAny_loop rL I (λn s hI=>?_) n h
 show wpAny _ A ((compTurn (.ListComp elt [⟨F,iter,ifs,0⟩] scope pos) 0 it G env).onRaise (λx=>do noteFrame x env;theTreesLotGoes x)) _ _ s
 refine wpAny_noted ?_
 rw[compTurn_list]
 have O:∀{X:Prop},∀(e:Value) (s':Shared),(λ_ _=>False:Value->Shared->Prop) e s'->X:=λ_ _ z=>False.elim z
 refine we (YO (we (uo (S n s hI) (λr U Y=>?_) λe s'=>O e s')))
 cases r with
 |none=>exact wq Y
 |some v =>
  refine we (uo Y (λ_ s₀ h₀=>?_) λe s'=>O e s')
  refine we (uo h₀ (λ_ s₂ h₂=>we (uo h₂ (λok V h₃=>?_) λe s'=>O e s')) λe s'=>O e s')
  cases ok with
  |false=>exact wq ⟨rfl,h₃⟩
  |true =>
   exact we (we (uo h₃ (λx W h₄=>we (uo h₄ (λ_ s₅ h₅=>wq (wq ⟨rL,h₅⟩)) λe s'=>O e s')) λe s'=>O e s'))
end
def qU (X:Cx) (NB:List Str) (scope:Scope) (s3:Shared) (H3:Hp) (fp:List Addr):Cx :=
 { X with N:=NB,s₀:=s3,H₀:=H3,env:=compEnv scope s3.heap.objs.size X.env,outer:=X.stack,stack:=X.stack,ex:=fp,fn:=λ_=>true,pn:=[],xe:=λ_ _=>False }
def PTs (X:Cx) (ifs:List Expr) (t:TT):Prop :=
 ∀(pz:List (Addr×Obj)) (s:Shared) (σ:St) (H:Hp) (Q:Bool->Hp->Prop),Inv X pz σ H s->t σ H Q →
  wpAny (model X.prog X.w) X.A (forIn ifs true λc r=>if r=true then do let ok <-isTrue c X.env (eval c X.env);pure (ForInStep.yield ok)else pure (ForInStep.yield r)) (TP X pz σ Q) X.xe s
def xE {X:Cx}:PTs X [] (λ_ H Q=>Q true H):=λ_ _ _ H _ I h=>wpAny_tests_nil ⟨H,I,h⟩
def Vw {X:Cx}{c:Expr}{t:TT}(h:PT X c t):PTs X [c] t:=λpz s σ H Q I q=>wpAny_tests_one (h pz s σ H Q I q)
def zdb (n:Nat) (wi:TI) (g:TG) (tt:TT) (te:TE):TE:=λσ H Q=>wi σ H λJ H1=>∀D,H1 D=none->∃W:Nat->Nat->Hp->List V->Prop,(∃m,W 0 m (upd H1 D (.lst [])) []) ∧
 ∀i m H2 ys,W i m H2 ys->H2 D=some (.lst ys)->(J.stop i H2/\Q (.ref D) H2) ∨
  (J.go i H2/\∀σB x H3,σB.length=n->J.yld i H2 x H3->g x σB H3 λσ4 H4=>tt σ4 H4 λb H5=>if b=true then te σ4 H5 (λv H6=>H6 D=some (.lst ys)/\ys.length<sizeLine/\∃m',m'<m/\W (i+1) m' (upd H6 D (.lst (ys++[v]))) (ys++[v]))
   else H5 D=some (.lst ys)/\∃m',m'<m/\W (i+1) m' H5 ys)
def vF {X:Cx}{elt tg iter:Expr}{ifs:List Expr}{scope:Scope}{pos:Pos}{NB:List Str}{wi:TI}{g:TG}{tt:TT}{te:TE}
  (hc:X.calm=true) (hfree:∀x∈scope.names,x.2≠.free) (hcell:∀x∈scope.names,x.2≠.cell) (hkind:scope.kind=.function) (hnames:∀x∈scope.names,x.2=.local → scope.names.lookup x.1=some .local)
  (hi:PI X tg iter wi) (hb:∀s3 H3 fp,PG (qU X NB scope s3 H3 fp) tg g/\PTs (qU X NB scope s3 H3 fp) ifs tt/\PE (qU X NB scope s3 H3 fp) elt te)
  (hs:∀x,foldedSetIterable iter X.env x=pure x:=by intro _;rfl) :
  PE X (.ListComp elt [⟨tg,iter,ifs,0⟩] scope pos) (zdb NB.length wi g tt te):=by
 intro pz s σ H Q I h
 refine wpAny_ListComp hfree hkind hnames (thn (hi pz s σ H _ I h) λv s1 h1=>thn h1 λitv s2 h2=>?_) hs
 obtain⟨it,fp,tn,J,H2,e,I2,T,st2,f2,q2⟩:=h2
 subst e
 have hf2:H2 s2.heap.objs.size=none:=I2.hok.fresh (wn _)
 obtain⟨W,⟨m0,w0⟩,turn⟩:=q2 _ hf2
 refine uM (hd:=by size_fits) ?_
 have I3:Inv X pz σ (upd H2 s2.heap.objs.size (.lst [])) { s2 with heap:=s2.heap.push { cls:=.type "list",dict:=none,data:=.seq ([]:List Value).toArray } } :=
  I2.laid (t':=s2.toks) (λb u e=>wg _ e) (wn _) ⟨by decide,[],0,.nil,wJ _ rfl⟩
 generalize hD:s2.heap.objs.size=D at *
 generalize hs3:({ s2 with heap:=s2.heap.push { cls:=.type "list",dict:=none,data:=.seq ([]:List Value).toArray } }:Shared)=s3 at *
 generalize hH3:upd H2 D (.lst [])=H3 at *
 have h3D:H3 D=some (.lst []):=by rw[<-hH3];exact zj
 have fpD:∀b∈fp,b≠D:=λb hb=>by
  obtain⟨o,e,_⟩:=T.obj _ _ st2 b hb
  rw[<-hD];exact wW (wE e)
 have k23:∀b u,s2.heap.get? b=some u->s3.heap.get? b=some u:=λb u e=>by rw[<-hs3];exact wg _ e
 have st3:tn 0 s3.heap:=T.keep _ _ _ st2 λb _ o e=>k23 b o e
 have f3:∀b∈fp,VD X pz H3 b:=λb hb=>⟨by rw[<-hH3,zV (fpD b hb)];exact(f2 b hb).1,(f2 b hb).2⟩
 refine wpAny_newFunctionEnv hcell (by intro y hy;simp at hy) (λh4 hns4 hsb4=>?_) hkind
 have k34:∀b u,s3.heap.get? b=some u->h4.get? b=some u:=λb u e=>hsb4.extBut b u (wW (wE e)) (wg _ e)
 have okB:(qU X NB scope s3 H3 fp).Ok:=by
  refine⟨I3.ok.mod,hkind,I3.ok.glob,I3.ok.blt,wn _,λx y c e _=>?_,λx e=>?_,λx c _ e=>?_,I3.ok.hd,I3.ok.frames,.inl rL,λb hb=>⟨?_,λx c e=>?_⟩,I3.bs,yF I3.ok.bsz I3.sz,λb o e hb=>?_,λb hb z=>?_,I3.stack,I3.stkFree⟩
  ·exact absurd (show ([]:List (Str×Addr)).lookup x=some c from e) (by simp)
  ·have e':scope.names.lookup x=some .cell\/scope.names.lookup x=some .free:=e
   rcases e' with e' | e'
   ·exact absurd rL (hcell _ (PySem.mem_of_lookup e'))
   ·exact absurd rL (hfree _ (PySem.mem_of_lookup e'))
  ·exact absurd (show ([]:List (Str×Addr)).lookup x=some c from e) (by simp)
  ·obtain⟨o,e,_⟩:=T.obj _ _ st3 b hb
   exact wW (wE e)
  ·exact absurd (show ([]:List (Str×Addr)).lookup x=some c from e) (by simp)
  ·obtain⟨_,_,_,z,_⟩:=f3 b hb
   rcases z with z | z
   ·exact I3.ok.noex b o e z
   ·exact absurd (w8 (wE e) (yF I3.ok.bsz z)) (uD _)
  ·obtain⟨_,z1,z2,_⟩:=f3 b hb
   rcases wu.mp (I3.stkSub b z)with e | e
   ·exact z1 e
   ·exact z2 e
 have IB:Inv (qU X NB scope s3 H3 fp) [] (List.replicate NB.length none) H3 { s3 with heap:=h4,toks:=s3.toks+([]:List (Str×Value)).length }:=by
  refine⟨okB,rfl,I3.bare,Un.kept k34,⟨_,hns4,λi x v _ e _=>?_⟩,λx c e=>?_,I3.hok.fresh (wn _),λx c e=>?_,λp hp=>?_,I3.hok.kept k34,by simp[qU]⟩
  ·rw[WJ]at e
   split at e <;> cases e
  ·exact absurd (show ([]:List (Str×Addr)).lookup x=some c from e) (by simp)
  ·exact absurd (show ([]:List (Str×Addr)).lookup x=some c from e) (by simp)
  ·exact absurd (show p∈([]:List (Addr×Obj))from hp) (by simp)
 have st4:tn 0 h4:=T.keep _ _ _ st3 λb _ o e=>k34 b o e
 have C_ne:∀b∈fp,b≠s3.heap.objs.size:=λb hb=>(okB.exf b hb).1
 have stat:∀{H':Hp},(∀b∈fp,H' b=none)->∀b∈fp,VD (qU X NB scope s3 H3 fp) [] H' b:=λhn b hb =>
  ⟨hn b hb,C_ne b hb,okB.exfs b hb,.inl hb,λx c e=>absurd (show ([]:List (Str×Addr)).lookup x=some c from e) (by simp),λp hp=>absurd (show p∈([]:List (Addr×Obj))from hp) (by simp)⟩
 obtain⟨hg,ht,he⟩:=hb s3 H3 fp
 have fin:∀{σ':St}{H':Hp}{s':Shared},Inv (qU X NB scope s3 H3 fp) [] σ' H' s'->Q (.ref D) H' →
   ∃m,s'.heap.Ns s3.heap.objs.size m/\∀h',Heap.SameBut s3.heap.objs.size s'.heap h'->EP X pz σ Q (.ref D) { s' with heap:=h' }:=λ{σ' H' s'} J q=>by
  obtain⟨m,hm,_⟩:=J.loc
  refine⟨m,hm,λh' sb=>⟨.ref D,H',?_,rL,q⟩⟩
  have neC:∀b o,s3.heap.get? b=some o->b≠s3.heap.objs.size:=λb o e=>wW (wE e)
  have hfr:H' s3.heap.objs.size=none:=J.free
  have up:∀b o,b≠s3.heap.objs.size->s'.heap.get? b=some o->h'.get? b=some o:=λb o hb e=>(sb.2 b hb).trans e
  have hok':HOk X.prog X.w H' h':=λb ob e=>(J.hok b ob e).stay (λc w' hc q=>up c w' (by
   rintro rfl
   rcases hc with rfl | hc
   ·rw[hfr]at e;cases e
   ·rw[hfr]at hc;cases hc) q) (λ_ q=>q) λ_ _ q=>q
  have u:Un (frs X.stack) fp H3 H' s3.heap h' :=
   ⟨λb o e n hb hx=>up b o (neC b o e) (J.base.keep b o e n hb hx),λb o e n hb hx=>by
    obtain⟨sl,e'⟩:=J.base.slot b o e n hb hx
    exact⟨sl,up b _ (neC b o e) e'⟩,J.base.free,λb o e hx=>by
    obtain⟨o',e'⟩:=J.base.there b o e hx
    exact⟨o',up b _ (neC b o e) e'⟩,J.base.tups,J.base.frzs,J.base.tbls⟩
  refine I3.call' (s':={ s' with heap:=h' }) (ch:=fp) J.os u hok' J.bare λb hb=>?_
  obtain⟨z0,z1,z2,z3,z4,z5⟩:=f3 b hb
  exact⟨z3,z1,z4,z5⟩
 have loop:∀s5:Shared,s5 = { s3 with heap:=h4,toks:=s3.toks+([]:List (Str×Value)).length } →
   codeAny (model X.prog X.w) X.A (.compLoop (.ListComp elt [⟨tg,iter,ifs,0⟩] scope pos) 0 (.ref it) (.ref D) (compEnv scope s3.heap.objs.size X.env))
    (λr s'=>∃m,s'.heap.Ns s3.heap.objs.size m/\∀h',Heap.SameBut s3.heap.objs.size s'.heap h' →
     match r with | .ok _=>EP X pz σ Q (.ref D) { s' with heap:=h' } | .error x=>wpAny (model X.prog X.w) X.A (passOn "comprehension.variables-let-go" x (compEnv scope s3.heap.objs.size X.env)) (EP X pz σ Q) X.xe { s' with heap:=h' }) s5:=by
  rintro s5 rfl
  refine Qn (λn s'=>∃i σ' H' ys,Inv (qU X NB scope s3 H3 fp) [] σ' H' s'/\tn i s'.heap/\(∀b∈fp,H' b=none)/\H' D=some (.lst ys)/\W i n H' ys) ?_ m0
   ⟨0,_,H3,[],IB,st4,λb hb=>(f3 b hb).1,h3D,by rw[<-hH3]at *;exact w0⟩
  rintro n s6 ⟨i,σ6,H6,ys,I6,st6,fr6,hD6,w6⟩
  rcases turn i n H6 ys w6 hD6 with⟨stop,qn⟩ | ⟨go,step⟩
  ·refine thn (T.done (qU X NB scope s3 H3 fp) rL rL rL hc i [] s6 σ6 H6 _ I6 (stat fr6) st6 stop) λr s7 ⟨hr,I7⟩=>?_
   subst hr
   exact fin I7 qn
  ·refine thn (T.item (qU X NB scope s3 H3 fp) rL rL rL hc i [] s6 σ6 H6 _ I6 (stat fr6) st6 go) λr s7 ⟨u,hr,h7⟩=>?_
   subst hr
   refine thn h7 λ_ s8 ⟨x,H8,I8,r8,y8,st8,fr8⟩=>?_
   have I8':=I8.pinned (stat fr8) (T.obj _ _ st8)
   have again:∀{σ9:St}{H9:Hp}{s9:Shared}{zs:List V}{m':Nat},Inv (qU X NB scope s3 H3 fp) ([]++QT fp s8.heap) σ9 H9 s9->H9 D=some (.lst zs)->m'<n->W (i+1) m' H9 zs →
     ∃m,m<n/\∃i σ' H' ys,Inv (qU X NB scope s3 H3 fp) [] σ' H' s9/\tn i s9.heap/\(∀b∈fp,H' b=none)/\H' D=some (.lst ys)/\W i m H' ys:=λ{σ9 H9 s9 zs m'} I9 hz hm w9=>by
    refine⟨m',hm,i+1,σ9,H9,zs,I9.unpinned,T.keep _ _ _ st8 λb hb o e=>(I9.pin (b,o) (yj _ (yj _ (qX hb e)))).1,λb hb=>?_,hz,w9⟩
    obtain⟨o,e,d⟩:=T.obj _ _ st8 b hb
    exact(I9.pin (b,o) (yj _ (yj _ (qX hb e)))).2.1
   refine thn (hg _ s8 σ6 H8 x u _ I8' r8 (step σ6 x H8 I6.len y8)) λ_ s9 ⟨σ9,H9,I9,q9⟩=>?_
   refine thn (ht _ s9 σ9 H9 _ I9 q9) λok s10 ⟨H10,I10,q10⟩=>?_
   cases ok with
   |false =>
    rw[if_neg ⇑1]at q10 ⊢
    obtain⟨hz,m',hm,w'⟩:=q10
    exact again I10 hz hm w'
   |true =>
    rw[if_pos rfl]at q10 ⊢
    refine thn (he _ s10 σ9 H10 _ I10 q10) λy s11 ⟨v,H11,I11,r11,hz,hlen,m',hm,w'⟩=>?_
    refine thn (qE _ s11 σ9 H11 (.ref D) [v] (.ref D) [y] (λ_ H12=>H12=upd H11 D (.lst (ys++[v]))) I11 rL (.cons r11 .nil) ⟨D,ys,v,rL,rL,hz,hlen,rL⟩) λ_ s12 ⟨_,H12,I12,_,e12⟩=>?_
    subst e12
    exact again I12 zj hm w'
 exact codeAny_compStart_list (loop _ rL) (T.self X.A 0 _ _ _ st4 (loop _ rL))
mutual
inductive RdD (H:Hp):V->PyData->Prop
 |non:RdD H .non .none
 |bl (b:Bool):RdD H (.bl b) (.bool b)
 |int (i:Int):RdD H (.int i) (.int i)
 |str (x:Str):RdD H (.str x) (.str x)
 |tup {a:Addr}{xs:List V}{ds:List PyData}:H a=some (.tup xs)->Zx H xs ds->RdD H (.ref a) (.tuple ds)
 |lst {a:Addr}{xs:List V}{ds:List PyData}:H a=some (.lst xs)->Zx H xs ds->RdD H (.ref a) (.list ds)
inductive Zx (H:Hp):List V->List PyData->Prop
 |nil:Zx H [] []
 |cons {x:V}{d:PyData}{xs:List V}{ds:List PyData}:RdD H x d->Zx H xs ds->Zx H (x::xs) (d::ds)
end
section
variable {X:Cx}{pz:List (Addr×Obj)}{σ:St}{H:Hp}{s:Shared}
mutual
theorem RdD.reads (I:Inv X pz σ H s):∀{x:V}{d:PyData},RdD H x d->∀{u:Value},xn x u->∃O,Reads s.heap u d O
 |_,_,.non,u,r=>by cases(show u=Value.none from r);exact⟨_,.none⟩
 |_,_,.bl b,u,r=>by cases(show u=Value.bool b from r);exact⟨_,.bool b⟩
 |_,_,.int i,u,r=>by obtain⟨t,e⟩:=(show ∃t,u=Value.int i t from r);subst e;exact⟨_,.int i t⟩
 |_,_,.str x,u,r=>by obtain⟨t,e⟩:=(show ∃t,u=Value.str x t from r);subst e;exact⟨_,.str x t⟩
 |_,_,@RdD.tup _ a xs ds e h,u,r=>by
  cases(show u=Value.ref a from r)
  obtain⟨_,G,F,o,h1,h2,n,U⟩:=(show xJ X.prog X.w H s.heap a (.tup xs)from I.hok a _ e)
  obtain⟨O,S⟩:=Zx.reads I h F
  exact⟨_,.tuple h1 h2 U ↥S⟩
 |_,_,@RdD.lst _ a xs ds e h,u,r=>by
  cases(show u=Value.ref a from r)
  obtain⟨_,G,n,F,h1⟩:=(show xJ X.prog X.w H s.heap a (.lst xs)from I.hok a _ e)
  obtain⟨O,S⟩:=Zx.reads I h F
  exact⟨_,.list h1 rfl rfl ↥S⟩
theorem Zx.reads (I:Inv X pz σ H s):∀{xs:List V}{ds:List PyData},Zx H xs ds->∀{us:List Value},xa xs us->∃O,ReadsAll s.heap us ds O
 |_,_,.nil,us,r=>by cases r;exact⟨_,.nil⟩
 |_,_,.cons h t,us,r=>by
  cases r with
  |cons r1 r2 =>
   obtain⟨S,F⟩:=RdD.reads I h r1
   obtain⟨U,G⟩:=Zx.reads I t r2
   exact⟨_,.cons F G⟩
end
end
inductive zig (x:V) (y:V) (H:Hp) (Q:VK):Prop
 |mk:∀d e,(RdD H x d)->(RdD H y e)->(SeqAt.shaped d=true)->(SeqAt.shaped e=true)->(Q (.bl (PyData.eqv d e)) H)->zig x y H Q
def zjy:R2:=λx y H Q=>zig x y H Q
inductive zik (x:V) (y:V) (H:Hp) (Q:VK):Prop
 |mk:∀d e,(RdD H x d)->(RdD H y e)->(SeqAt.shaped d=true)->(SeqAt.shaped e=true)->(Q (.bl (!PyData.eqv d e)) H)->zik x y H Q
def zld:R2:=λx y H Q=>zik x y H Q
section
variable {X:Cx}
theorem XN (W:X.A.units+64<cLine):OpR X (compareOp .Eq) zjy:=by
 intro pz s σ H x y v u Q I Y V h
 obtain⟨d,e,hd,F,U,S,q⟩:=h
 obtain⟨as,O⟩:=hd.reads I Y
 obtain⟨bs,G⟩:=F.reads I V
 exact eq_dataH O G U S W ⟨.bl _,H,I,rL,q⟩
theorem XQ (W:X.A.units+64<cLine):OpR X (compareOp .NotEq) zld:=by
 intro pz s σ H x y v u Q I Y V h
 obtain⟨d,e,hd,F,U,S,q⟩:=h
 obtain⟨as,O⟩:=hd.reads I Y
 obtain⟨bs,G⟩:=F.reads I V
 exact ne_dataH O G U S W ⟨.bl _,H,I,rL,q⟩
def Bd (n:Nat) (i:Int):Prop:=i.natAbs<2^n
theorem Bd.mono {m n:Nat}{i:Int}(h:Bd m i) (l:m<=n):Bd n i:=w8 h (Nat.pow_le_pow_right ⇑1 l)
theorem Bd.md {m n:Nat}{i:Int}(h:Bd m i) (l:m<=n:=by decide):Bd n i:=h.mono l
theorem Bd.bits {n:Nat}{i:Int}(h:Bd n i):Builtin.Int.intBits i<=n:=intBits_le_iff.mpr h
theorem Bd.of_bits {n:Nat}{i:Int}(h:Builtin.Int.intBits i<=n):Bd n i:=intBits_le_iff.mp h
theorem Bd.mul {m n:Nat}{i j:Int}(h:Bd m i) (k:Bd n j):Bd (m+n) (i*j):=.of_bits (intBits_mul_le h.bits k.bits)
theorem Bd.add {m n:Nat}{i j:Int}(h:Bd m i) (k:Bd n j):Bd (max m n+1) (i+j):=.of_bits (intBits_add_le h.bits k.bits)
theorem Bd.neg {n:Nat}{i:Int}(h:Bd n i):Bd n (-i):=by unfold Bd;rw[Int.natAbs_neg];exact h
theorem Bd.sub {m n:Nat}{i j:Int}(h:Bd m i) (k:Bd n j):Bd (max m n+1) (i-j):=by rw[Int.sub_eq_add_neg];exact h.add k.neg
def VC (i j:Int):Prop:=Bd 1000000 i/\Bd 1000000 j
theorem zK:OpR X (binaryOp .Mult) (rI VC λi j=>.int (i*j)):=opI λ_ _ _ _ _ _ _ F q=>mul_int q (IntMulOk.of_le F.1.bits F.2.bits ⇑1)
def zaG (i j:Int):Prop:=j≠0/\Bd 8900 j
theorem xF:OpR X (binaryOp .FloorDiv) (rI zaG λi j=>.int (i.fdiv j)):=opI λ_ j _ _ _ _ _ F q=>floordiv_int F.1 q (.inl (PyProof.noPylong_of_log2 (by
 have h1:j.natAbs≠0:=λz=>F.1 (Int.natAbs_eq_zero.mp z)
 have h2:j.natAbs<2^9000:=w8 F.2 (Nat.pow_le_pow_right ⇑1 ⇑1)
 exact(Nat.log2_lt h1).mpr h2)))
theorem jS:vD X (.builtin "isinstance") (λxs H Q=>∃x t n b,xs=[x,.ty n]/\QI X.K H x t/\PySem.W.kitOne X.K t (.type n)=some b/\Q (.bl b) H):=by
 intro pz s σ H xs us Q I r h
 obtain⟨x,t,n,b,rfl,ty,e,q⟩:=h
 obtain⟨u,F,rfl,G,O⟩:=zdj r
 cases(show F=Value.type n from O)
 exact zdz I G ty e λtk=>⟨.bl b,H,I.tok tk,rL,q⟩
end
end L2
namespace HT
open PySem PySem.Spec PyProof.Rows L2
end HT
namespace L2
open PySem PySem.Spec PyProof.Rows
end L2
namespace KM
def zaV {a b:Int}(G:0<=a) (F:0<b):Int.gcd b (a % b)=Int.gcd a b:=by
 obtain⟨m,rfl⟩:=Wg G
 obtain⟨n,rfl⟩:=Wg (yM F)
 rw[<-Int.natCast_emod,WZ (m:Int)]
 show Nat.gcd n (m % n)=Nat.gcd n m
 rw[Nat.gcd_comm n (m % n)]
 exact(Nat.gcd_rec n m).symm
def qI (q:Rat):(q.den:Int)≠0:=by have:=q.den_nz;lia
def den_pos (q:Rat):(0:Int)<q.den:=by have:=q.den_nz;omega
def dv (t b:Int):Int:=if b<0 then -(Int.gcd t b:Int)else(Int.gcd t b:Int)
def zgN {t b:Int}(F:b≠0):0<Int.gcd t b:=Yb _ F
def zh7 {t b:Int}(F:b≠0):dv t b≠0:=by
 have:=zgN (t:=t) F
 unfold dv;split <;> omega
def ziG {t b:Int}:(dv t b).natAbs=Int.gcd t b:=by
 unfold dv;split <;> lia
def zh6 {t b:Int}(F:b≠0):(dv t b).natAbs<=b.natAbs:=by
 rw[ziG];exact YK ∅ (YC t b)
def zbP {t b:Int}(F:b≠0):t.fdiv (dv t b)=(Rat.divInt t b).num:=by
 rw[Rat.num_divInt,WZ b t]
 have h1:((Int.gcd t b:Nat):Int) ∣ t:=uz ..
 unfold dv
 split
 ·rename_i h
  rw[uI (Int.neg_dvd.mpr h1),Int.ediv_neg,Int.sign_eq_neg_one_of_neg h]
  rw[show (-1*t)=-t by lia,Int.neg_ediv_of_dvd h1]
 ·rename_i h
  rw[uI h1,Int.sign_eq_one_of_pos ∅,uY]
def zeu {t b:Int}(F:b≠0):b.fdiv (dv t b)=((Rat.divInt t b).den:Int):=by
 rw[Rat.den_divInt,if_neg F,WZ b t]
 have h1:((Int.gcd t b:Nat):Int) ∣ b:=Wv ..
 have h2:Int.gcd t b ∣ b.natAbs:=YC t b
 unfold dv
 split
 ·rename_i h
  rw[uI (Int.neg_dvd.mpr h1),Int.ediv_neg]
  rw[Int.natCast_ediv,show ((b.natAbs:Nat):Int)=-b by lia,Int.neg_ediv_of_dvd h1]
 ·rename_i h
  rw[uI h1,Int.natCast_ediv,show ((b.natAbs:Nat):Int)=b by lia]
def zb8 {t b:Int}(G:b≠0):(Rat.divInt t b).num.natAbs<=t.natAbs:=by
 rw[<-zbP G]
 have:t.fdiv (dv t b) ∣ t:=by
  have h1:dv t b ∣ t:=by
   unfold dv;split
   ·exact Int.neg_dvd.mpr (uz ..)
   ·exact uz ..
  obtain⟨c,F⟩:=h1
  rw[uI ⟨c,F⟩]
  refine⟨dv t b,?_⟩
  exact(Int.ediv_mul_cancel ⟨c,F⟩).symm
 by_cases h0:t=0
 ·subst h0;simp
 ·exact YK ∅ (uS.mpr this)
def QK {t b:Int}(F:b≠0):(Rat.divInt t b).den<=b.natAbs:=by
 rw[Rat.den_divInt,if_neg F];exact Nat.div_le_self _ _
def zcW (a b:Rat):Rat.divInt (a.num*b.den+b.num*a.den) (a.den*b.den)=a+b:=by
 rw[Rat.add_def',<-Rat.divInt_ofNat];simp
def zbu (a b:Rat):Rat.divInt (a.num*b.num) (a.den*b.den)=a*b:=by
 rw[Rat.mul_def',<-Rat.divInt_ofNat];simp
def zcS (a b:Rat):Rat.divInt (a.num*b.den) (a.den*b.num)=a/b:=by
 rw[Wp,Rat.inv_def,<-yG,wY]
def vv (a b:Rat):a.num*b.den<b.num*a.den↔a<b:=(Rat.lt_iff a b).symm
def zff (n:Int):Rat.divInt n 1=(n:Rat):=by simpa using wY (n:Rat)
structure Zv where
 pl:Rat
 sp:Rat
 wt:Int
end KM
namespace L2
open PySem PySem.Spec PyProof.Rows
structure Cal (P:Program) (w:World) (K:Fg) (mg:Str->Option Value) (base:Heap) (x:Str) (k:Nat) (ps:List Str) (dvs:List V) (sp:Sp):Prop where
 ex:∃f fd ds,Zw P w K mg base CX0 k f fd ps sp/\mg x=some (.ref f)/\PySem.W.keepIn K (.ref f)=true/\v6 K fd ps ds/\xa dvs ds
def zD {X:Cx}{x:Str}{k:Nat}{ps:List Str}{dvs:List V}{sp:Sp}{p pos:Pos}{e:Expr}{es:List Expr}{t:TA}
  (c:Cal X.prog X.w X.K X.mg X.base x k ps dvs sp) (hr:xc k X.A) (Y:PA X (e::es) t) (W:Gl X x:=by rfl) (I:(x == ("__debug__":Str))=false:=by decide)
  (O:starEach (e::es) X.env=(false,eval e X.env)::starEach es X.env:=by rfl) (G:(backTo pos (starEach es X.env)).any (·.1)=false:=by rfl) :
  PE X (.Call (.Name x p) (e::es) [] pos) (ZQ sp dvs E0 t):=by
 obtain⟨f,fd,ds,F,hm,S,U,hd⟩:=c.ex
 exact zho F hr W hm S U hd zcT Y I O G
structure Df (K:Fg) (mg:Str->Option Value) (x:Str) (st:Stmt) (ps:List Str) (dvs:List V):Prop where
 ex:∃(f:Addr) (oc:Value) (od:Option Addr) (dV kV doc pm:Value) (an:Option Addr) (cdv ct:Value) (osl:Array (Option Value)) (ds:List Value),
  K.lookup f=some ⟨oc,od,.func (PySem.W.fnOf x x (xD st) (xb st) (zi st) dV kV doc pm an cdv ct),osl⟩/\PySem.W.codeIn K cdv x=true/\PySem.W.keepIn K (.ref f)=true/\mg x=some (.ref f) ∧
  xa dvs ds/\v6 K (PySem.W.fnOf x x (xD st) (xb st) (zi st) dV kV doc pm an cdv ct) ps ds
section
variable {P:Program}{w:World}{K:Fg}{mg:Str->Option Value}{base:Heap}
theorem Df.cal {x:Str}{st:Stmt}{N ps:List Str}{dvs:List V}{k:Nat}{sp:Sp}(D:Df K mg x st ps dvs) (S:zC N ps (zi st)) (len:∀vs H Q E,sp vs H Q E->vs.length=ps.length)
  (F:∀(f:Addr) (cdv:Value) (A:Around) (outer:List Env) (s:Shared) (H:Hp) (vs:List V) (Q:VK) (E:XK),xc k (A.deeper (envOfC x (zi st) s.heap.objs.size f cdv))->sp vs H Q E →
   ∃t,PSs (xh CX0 P w K mg base N x (zi st) f cdv A outer s H E).nox (xb st) t/\t { nx:=λ_ H'=>Q .non H',rt:=Q } (vV N vs) H):⇑3 x (k+1) ps dvs sp:=by
 obtain⟨f,oc,od,dV,kV,U,pm,an,cdv,ct,W,ds,lk,G,O,hm,Y,hb⟩:=D.ex
 refine⟨⟨f,_,ds,zeH lk G S len λA outer s H vs Q E hr I=>?_,hm,O,hb,Y⟩⟩
 obtain⟨t,h,q⟩:=F f cdv A outer s H vs Q E hr I
 exact⟨t,h.nox,q⟩
theorem Df.calq {x:Str}{st:Stmt}{N ps:List Str}{dvs:List V}{k:Nat}{sp:Sp}(D:Df K mg x st ps dvs) (S:zC N ps (zi st))
  (F:∀(f:Addr) (cdv:Value) (A:Around) (outer:List Env) (s:Shared) (H:Hp) (vs:List V) (Q:VK) (E:XK),xc k (A.deeper (envOfC x (zi st) s.heap.objs.size f cdv))->sp vs H Q E →
   ∃t,PSs (xh CX0 P w K mg base N x (zi st) f cdv A outer s H E).nox (xb st) t/\t { nx:=λ_ H'=>Q .non H',rt:=Q } (vV N vs) H) (len:∀vs H Q E,sp vs H Q E->vs.length=ps.length:=by intro _ _ _ _ h;repeat (first | (cases h;subst_vars;rfl) | (obtain⟨rfl,_⟩:=h;rfl) | (obtain⟨_,h⟩:=h))):⇑3 x (k+1) ps dvs sp:=D.cal S len F
theorem zky {x:Str}{st:Stmt}{ps:List Str}{f:Addr}{V:Value}{U O:Option Addr}{G:Array (Option Value)}{I kV F S cdv ct:Value}
  (l:K.lookup f=some ⟨V,U,.func (PySem.W.fnOf x x (xD st) (xb st) (zi st) I kV F S O cdv ct),G⟩) (c:PySem.W.codeIn K cdv x=true) (k:PySem.W.keepIn K (.ref f)=true) (m:mg x=some (.ref f))
  (Y:∀us:List Value,us.length=ps.length->bindArgs (PySem.W.fnOf x x (xD st) (xb st) (zi st) I kV F S O cdv ct) ⟨us,[]⟩=pure (ps.zip us)):Df K mg x st ps [] :=
 ⟨⟨f,V,U,I,kV,F,S,O,cdv,ct,G,[],l,c,k,m,.nil,.all Y⟩⟩
end
def rp (q:Rat):List V:=[.int q.num,.int (q.den:Int)]
def zu (H:Hp) (p:Addr) (q:Rat):Prop:=H p=some (.tup (rp q))
def zu.same {H H':Hp}{p:Addr}{q:Rat}(h:zu H p q) (e:zq H H'):zu H' p q:=e _ _ h
def Sz (n:Nat) (q:Rat):Prop:=Bd n q.num/\Bd n (q.den:Int)
def Sz.mono {m n:Nat}{q:Rat}(h:Sz m q) (l:m<=n):Sz n q:=⟨h.1.mono l,h.2.mono l⟩
def Sz.md {m n:Nat}{q:Rat}(h:Sz m q) (l:m<=n:=by decide):Sz n q:=h.mono l
def Bd.of_le {n:Nat}{i j:Int}(h:i.natAbs<=j.natAbs) (b:Bd n j):Bd n i:=WK h b
def Sz.divInt {n:Nat}{t b:Int}(F:b≠0) (h1:Bd n t) (h2:Bd n b):Sz n (Rat.divInt t b) :=
 ⟨h1.of_le (KM.zb8 F),h2.of_le (by have:=KM.QK (t:=t) F;omega)⟩
def Sz.add {m n:Nat}{x y:Rat}(h:Sz m x) (k:Sz n y):Sz (m+n+1) (x+y):=by
 rw[<-KM.zcW]
 refine .divInt (u9 (KM.qI x) (KM.qI y)) ?_ ((h.2.mul k.2).mono ∅)
 exact((h.1.mul k.2).add (k.1.mul h.2)).mono ∅
def Sz.mul {m n:Nat}{x y:Rat}(h:Sz m x) (k:Sz n y):Sz (m+n) (x*y):=by
 rw[<-KM.zbu]
 exact .divInt (u9 (KM.qI x) (KM.qI y)) (h.1.mul k.1) (h.2.mul k.2)
def zd1 (q:Rat):SeqAt.shaped (.tuple [.int q.num,.int (q.den:Int)])=true:=rfl
def zu.rd {H:Hp}{p:Addr}{q:Rat}(h:zu H p q):RdD H (.ref p) (.tuple [.int q.num,.int (q.den:Int)]):=.tup h (.cons (.int _) (.cons (.int _) .nil))
def zey (x y:Rat):PyData.eqv (.tuple [.int x.num,.int (x.den:Int)]) (.tuple [.int y.num,.int (y.den:Int)])=decide (x=y):=by
 simp only[PyData.eqv,PyData.eqvAll,Bool.and_true]
 rw[u8]
 simp only[W7,beq_iff_eq,yL]
 constructor
 ·rintro ⟨h1,h2⟩;exact Rat.ext h1 ∅
 ·rintro rfl;exact⟨rfl,rfl⟩
inductive vw  (vs:List V) (H:Hp) (Q:VK) (_e3:XK):Prop
 |mk:∀t b,(vs=[.int t,.int b])->(b≠0)->(Bd 8900 b)->(∀p H',zq H H'->zu H' p (Rat.divInt t b)->Q (.ref p) H')->vw vs H Q _e3
inductive qQ (C:Rat->Rat->Prop) (f:Rat->Rat->Rat) (vs:List V) (H:Hp) (Q:VK) (_e3:XK):Prop
 |mk:∀p q x y,(vs=[.ref p,.ref q])->(zu H p x)->(zu H q y)->(C x y)->(∀r H',zq H H'->zu H' r (f x y)->Q (.ref r) H')->qQ C f vs H Q _e3
def Sz2 (x y:Rat):Prop:=Sz 4000 x/\Sz 4000 y
def at0 {α:Type}(a b:α):atI [a,b] 0=some a:=rfl
def at1 {α:Type}(a b:α):atI [a,b] 1=some b:=rfl
def zq.upd {H:Hp}{p:Addr}{o:HO}(h:H p=none):zq H (upd H p o):=λb u e=>by rw[zV (zZ e h)];exact e
def TrX (h B:Heap) (e:Addr) (cls a0:Value) (dct:Option Addr) (fl:Value):Prop :=
 ∃oe vs T oT ts,h.get? e=some oe/\oe.cls=cls/\oe.dict=dct/\oe.data=.fields vs/\vs[0]?=some a0/\vs[1]?=some (.ref T)/\B.get? T=none/\T≠e/\h.get? T=some oT/\oT.data=.fields ts/\ts[3]?=some fl
def zdL (o:Obj) (f:Array Value->Array Value):(Obj.mapFields f o).dict=o.dict:=by
 unfold Obj.mapFields;split <;> rfl
section
variable {M:Model}{A:Around}{E:Value->Shared->Prop}{s:Shared}{B:Heap}{env:Env}{outer l:List Env}{L e:Addr}{oe:Obj}{vs:Array Value}{a0 cls fl:Value}{dct:Option Addr}{Q:Unit->Shared->Prop}
theorem zcA {head:Value}{hadNext:Bool}(hfr:A.frames=some (env::outer)) (hl:s.heap.FunFrames B (env::outer)) (hf:env.frame=some L) (he:s.heap.get? e=some oe) (hB:B.StaysIn s.heap) (hn:B.get? e=none) (hd:oe.data=.fields vs) (hz:1<vs.size) (h0:vs[0]?=some a0)
  (q:∀h',B.StaysIn h'->h'.FunFrames B (env::outer)->TrX h' B e oe.cls a0 oe.dict (rawInt L)->s.heap.UpToSlots h'->Q () { s with heap:=h' }) :
  wpAny M A (do let a <-frameOf env;let pl <-entryPlaceOf L hadNext;let b <-EntryCells.newEntry head a .none (rawInt L) .none pl;setField (.ref e) 1 b) Q E s:=by
 have nf:e∉(env::outer).filterMap (·.frame):=λm=>by
  obtain⟨_,o,ho,hnf⟩:=hl.mem m
  rw[he]at ho;cases ho;exact hnf vs hd
 refine we (wpAny_frameOf_fun hfr hl hf λg1 k1=>we (wpAny_entryPlaceOf λpl hpl=>?_))
 unfold EntryCells.newEntry newFields
 have e1:g1.get? e=some oe:=(k1.2.1 e nf).trans he
 have B1:B.StaysIn g1:=λb o z=>(k1.2.1 b λm=>by rw[(hl.mem m).1]at z;cases z).trans (hB b o z)
 have fr:g1.objs.size≠e:=WE (wE e1)
 have d3:=Obj.data_mapFields hd (·.setIfInBounds 1 (Value.ref g1.objs.size))
 refine we (uM (Ua (wg _ e1) hd hz (q _ (λb o z=>?_) (hl.of_keeps λb o hb nn=>?_) ?_ λb o hb nn=>?_)) (hpl.sizeOk5 _ _ _ _ _))
 ·have ne:e≠b:=λr=>by rw[<-r,hn]at z;cases z
  rw[ym _ _ ne]
  exact wg _ (B1 b o z)
 ·obtain⟨sl,z⟩:=k1.2.2 b o hb
  have ne:e≠b:=λr=>by rw[<-r,he]at hb;cases hb;exact nn vs hd
  exact⟨{ o with slots:=sl },by rw[ym _ _ ne];exact wg _ z,rfl⟩
 ·exists _,_,g1.objs.size,_,_,yP _ (wg _ e1) (Obj.isFreed_of_fields d3),Obj.cls_mapFields _ _,zdL _ _,d3,?_,by simp[hz],B1.fresh,fr,(ym _ _ (Ne.symm fr)).trans (wJ g1 rfl),rfl
  ·rw[Array.getElem?_setIfInBounds_ne ⇑1];exact h0
  ·first | (simp;done) | (rcases hpl with rfl | ⟨_,_,_,_,_,_,_,rfl⟩ <;> simp)
 ·obtain⟨sl,z⟩:=k1.2.2 b o hb
  have ne:e≠b:=λr=>by rw[<-r,he]at hb;cases hb;exact nn vs hd
  exact⟨sl,by rw[ym _ _ ne];exact wg _ z⟩
theorem zb7 (F:A.frames=some (env::outer)) (V:s.heap.FunFrames B (env::outer)) (I:env.frame=some L) (G:s.heap.get? e=some oe) (U:B.StaysIn s.heap) (O:B.get? e=none) (hd:oe.data=.fields vs) (h1:vs[1]?=some .none) (S:vs[0]?=some a0)
  (q:∀h',B.StaysIn h'->h'.FunFrames B (env::outer)->TrX h' B e oe.cls a0 oe.dict (rawInt L)->s.heap.UpToSlots h'->Q () { s with heap:=h' }):wpAny M A (noteFrame (.ref e) env) Q E s:=by
 unfold noteFrame
 simp only[I]
 refine we (Uf G hd h1 ?_)
 rw[if_neg ⇑1]
 exact zcA F V I G U O hd (wZ.mp h1).1 S q
theorem zdR (S:A.frames=some (env::outer)) (hl:s.heap.FunFrames B (env::outer)) (V:env.frame=some L) (ht:TrX s.heap B e cls a0 dct .none) (hB:B.StaysIn s.heap) (hn:B.get? e=none)
  (q:∀h',B.StaysIn h'->h'.FunFrames B (env::outer)->TrX h' B e cls a0 dct (rawInt L)->s.heap.UpToSlots h'->Q () { s with heap:=h' }):wpAny M A (noteFrame (.ref e) env) Q E s:=by
 obtain⟨oe,vs,T,oT,ts,Y,rfl,rfl,hd,h0,h1,nT,Te,O,I,U⟩:=ht
 unfold noteFrame
 simp only[V]
 refine we (Uf Y hd h1 ?_)
 rw[if_pos (show (Value.ref T != Value.none)=true from by simp)]
 refine we (Uf O I U ?_)
 rw[if_neg (show ¬((Value.none == rawInt L)=true)from by simp[rawInt])]
 have G:∀b,b≠T->(s.heap.update T (Obj.mapFields (·.setIfInBounds 3 Value.none))).get? b=s.heap.get? b:=λb F=>ym _ _ (Ne.symm F)
 have W:∀b o,s.heap.get? b=some o->(∀vs,o.data≠.fields vs)->b≠T:=λb o F nn r=>by rw[r,O]at F;cases F;exact nn ts I
 refine we (Ua O I (wZ.mp U).1 (zcA S (hl.of_keeps λb o F nn=>⟨o,(G b (W b o F nn)).trans F,rfl⟩) V ((G e (Ne.symm Te)).trans Y) (λb o z=>(G b λr=>by rw[r,nT]at z;cases z).trans (hB b o z)) hn hd (wZ.mp h1).1 h0 λh' x1 x2 x3 x4=>q h' x1 x2 x3 λb o F nn=>x4 b o ((G b (W b o F nn)).trans F) nn))
theorem zeF (hB:B.StaysIn s.heap) (hl:s.heap.FunFrames B l) (ht:TrX s.heap B e cls a0 dct fl)
  (q:∀h',B.StaysIn h'->h'.FunFrames B l->TrX h' B e cls a0 dct .none->s.heap.UpToSlots h'->Q () { s with heap:=h' }):wpAny M A (setFlight (.ref e) none) Q E s:=by
 obtain⟨oe,vs,T,oT,ts,V,hc,S,hd,h0,h1,Y,W,O,I,h3⟩:=ht
 have z3:3<ts.size:=(wZ.mp h3).1
 have G:∀b,b≠T->(s.heap.update T (Obj.mapFields (·.setIfInBounds 3 ((none:Option Addr).elim Value.none λf=>rawInt f)))).get? b=s.heap.get? b:=λb F=>ym _ _ (Ne.symm F)
 have U:∀b o,s.heap.get? b=some o->(∀vs,o.data≠.fields vs)->b≠T:=λb o F nn r=>by rw[r,O]at F;cases F;exact nn ts I
 unfold setFlight
 refine we (Uf V hd h1 ?_)
 rw[if_pos (show (Value.ref T != Value.none)=true from by simp)]
 exact Ua O I z3 (q _ (λb o z=>(G b λr=>by rw[r,Y]at z;cases z).trans (hB b o z)) (hl.of_keeps λb o F nn=>⟨o,(G b (U b o F nn)).trans F,rfl⟩)
  ⟨oe,vs,T,_,_,(G e (Ne.symm W)).trans V,hc,S,hd,h0,h1,Y,W,yP _ O (Obj.isFreed_of_fields (Obj.data_mapFields I _)),Obj.data_mapFields I _,by simp[z3]⟩ λb o F nn=>⟨o.slots,(G b (U b o F nn)).trans F⟩)
end
def FlX (B:Heap) (l:List Env) (e:Addr) (cls a0:Value) (dct:Option Addr) (h:Heap):Prop:=B.StaysIn h/\B.get? e=none/\h.FunFrames B l/\TrX h B e cls a0 dct .none
def HeX (B:Heap) (l:List Env) (e:Addr) (cls a0:Value) (dct:Option Addr) (h:Heap):Prop:=B.StaysIn h/\B.get? e=none/\h.FunFrames B l/\∃fl,TrX h B e cls a0 dct fl
section
variable {M:Model}{A:Around}{E:Value->Shared->Prop}{s:Shared}{B h:Heap}{env:Env}{outer l:List Env}{L e:Addr}{a0 cls:Value}{dct:Option Addr}{Q:Unit->Shared->Prop}
theorem zg1 (F:A.frames=some (env::outer)) (O:env.frame=some L) (x:FlX B (env::outer) e cls a0 dct s.heap) (q:∀h',HeX B (env::outer) e cls a0 dct h'->s.heap.UpToSlots h'->Q () { s with heap:=h' }):wpAny M A (noteFrame (.ref e) env) Q E s :=
 zdR F x.2.2.1 O x.2.2.2 x.1 x.2.1 λh' G S U I=>q h' ⟨G,x.2.1,S,_,U⟩ I
theorem zcI (x:HeX B l e cls a0 dct s.heap) (q:∀h',FlX B l e cls a0 dct h'->s.heap.UpToSlots h'->Q () { s with heap:=h' }):wpAny M A (setFlight (.ref e) none) Q E s:=by
 obtain⟨I,S,V,fl,O⟩:=x
 exact zeF I V O λh' W F G U=>q h' ⟨W,S,F,G⟩ U
theorem ze0 (F:A.frames=some (env::outer)) (S:env.frame=some L) (x:FlX B (env::outer) e cls a0 dct s.heap) (q:∀h',FlX B outer e cls a0 dct h'->s.heap.UpToSlots h'->Q () { s with heap:=h' }):wpAny M A (leaving env (.ref e)) Q E s:=by
 unfold leaving
 refine we (zg1 F S x λh' y up=>zcI (s:={ s with heap:=h' }) y λh2 z G=>?_)
 obtain⟨I,V,⟨_,_,U⟩,O⟩:=z
 exact q h2 ⟨I,V,U,O⟩ (up.trans G)
theorem zbY {args:List Value}(G:A.frames=some (env::outer)) (hf:env.frame=some L) (S:B.StaysIn h) (hl:h.FunFrames B (env::outer)) (F:Heap.MadeExcOf h s.heap e cls args)
  (q:∀h' t,FlX B outer e cls (.ref t) none h'->s.heap.UpToSlots h'->Q () { s with heap:=h' }):wpAny M A (leaving env (.ref e)) Q E s:=by
 obtain⟨t,U,_,_⟩:=F.there
 have O:B.get? e=none:=by
  cases z:B.get? e with
  |none=>rfl
  |some o=>have:=S e o z;rw[F.new]at this;cases this
 unfold leaving
 refine we (zb7 (a0:=.ref t) G (hl.of_keeps λb o V _=>⟨o,F.keeps b o V,rL⟩) hf U (λb o z=>F.keeps b o (S b o z)) O rL rL rL λh' W x2 x3 x4=>?_)
 refine zcI (s:={ s with heap:=h' }) ⟨W,O,x2,_,x3⟩ λh2 z I=>?_
 obtain⟨z1,z2,⟨_,_,z3⟩,Y⟩:=z
 exact q h2 t ⟨z1,z2,z3,Y⟩ (x4.trans I)
end
structure Fly (P:Program) (w:World) (l:List Env) (H:Hp) (s:Shared) (C:Addr) (H':Hp) (a:Addr) (s':Shared) (B:Heap) (a0:Value) (dct:Option Addr):Prop where
 os:s'.os=s.os
 bare:AllBare s'.gens
 un:Un (frs l) [] H H' s.heap s'.heap
 hok:HOk P w H' s'.heap
 fly:FlX B l a (.ref C) a0 dct s'.heap
 kb:∀b o,s.heap.get? b=some o->b∉frs l->(∃o',B.get? b=some o')/\(H b=none->B.get? b=some o)
 kt:∀b u,H' b=some u->∃o,B.get? b=some o
abbrev CX1 (P:Program) (w:World):CXT:=λouter H s E e s'=>∃a C H' B a0 dct,e=.ref a/\Fly P w outer H s C H' a s' B a0 dct/\E (.ref C) dct H'
section
variable {P:Program}{w:World}{H H':Hp}{h h' B:Heap}{a:Addr}{o:HO}
theorem xJ.obj (x:xJ P w H h a o):∃u,h.get? a=some u:=by
 cases o with
 |lst xs=>obtain⟨_,_,_,_,e⟩:=x;exact⟨_,e⟩
 |tup xs=>obtain⟨_,_,_,F,e,_⟩:=x;exact⟨_,e⟩
 |dK kvs=>obtain⟨_,_,_,_,o,_,_,e,_⟩:=x;exact⟨_,e⟩
 |dT kvs=>obtain⟨_,_,_,_,o,_,_,e,_⟩:=x;exact⟨_,e⟩
 |set S n=>obtain⟨o,_,_,_,e,_⟩:=x;exact⟨_,e⟩
 |ins C dx fs=>obtain⟨_,_,_,e,_⟩:=x;exact⟨_,e⟩
 |own y=>obtain⟨_,e⟩:=x;exact⟨_,e⟩
 |xd fs=>obtain⟨_,⟨_,_,_,e,_⟩,_⟩:=x;exact⟨_,e⟩
 |rng lo hi=>obtain⟨_,_,_,e⟩:=x;exact⟨_,e⟩
 |frz F u=>obtain⟨e,_⟩:=x;exact⟨_,e⟩
 |tbl ps=>exact⟨_,(show h.get? a=some _ from x)⟩
 |met f y=>exact⟨_,(show h.get? a=some _ from x)⟩
 |ext φ=>obtain⟨_,⟨_,e⟩,_⟩:=x;exact⟨_,e⟩
theorem ziK (x:HOk P w H h) (k1:B.StaysIn h) (k2:B.StaysIn h') (kt:∀b u,H b=some u->∃o,B.get? b=some o):HOk P w H h':=λa o e =>
 (x a o e).stay (λb u G q=>by
  have O:∃v,H b=some v:=by
   rcases G with rfl | G
   ·exact⟨_,e⟩
   ·exact⟨_,G⟩
  obtain⟨v,S⟩:=O
  obtain⟨I,F⟩:=kt b v S
  rw[k1 b I F]at q;cases q;exact k2 b _ F) (λ_ q=>q) λ_ _ q=>q
end
section
variable {X:Cx}{pz:List (Addr×Obj)}{σ:St}{H H':Hp}{s:Shared}
theorem Inv.notfr (I:Inv X pz σ H s){b:Addr}{o:Obj}(e:X.s₀.heap.get? b=some o) (F:b∉X.fs):b∉frs X.stack:=λz=>by
 rcases wu.mp (I.stkSub b z)with r | r
 ·exact absurd (w8 (wE e) I.ok.above) (by rw[r];exact uD _)
 ·exact F r
theorem zeG {g:Array GenState}{d:Drawn}{t:Nat}{C a:Addr}{B h1 h':Heap}{a0:Value}{dct:Option Addr}(I:Inv X pz σ H s) (O:X.ex=[]) (W:∀b∈X.fs,b∈frs X.stack) (u:Un (frs X.stack) [] H H' s.heap h1)
  (kb:∀b o,s.heap.get? b=some o->b∉frs X.stack->(∃o',B.get? b=some o')/\(H b=none->B.get? b=some o)) (kt:∀b u,H' b=some u->∃o,B.get? b=some o)
  (hok:HOk X.prog X.w H' h1) (k1:B.StaysIn h1) (V:h1.FunFrames B X.stack) (up:h1.UpToSlots h') (fl:FlX B X.outer a (.ref C) a0 dct h') (hg:AllBare g) :
  Fly X.prog X.w X.outer X.H₀ X.s₀ C H' a { s with heap:=h',gens:=g,drawn:=d,toks:=t } B a0 dct where
 os:=I.os
 bare:=hg
 un:={
  keep:=λb o q n G S=>by
   have F:b∉X.ex:=by rw[O];exact S
   exact fl.1 b o ((kb b o (I.base.keep b o q n G F) (I.notfr q G)).2 (I.base.free b o q n F))
  slot:=λb o q n G S=>by
   have F:b∉X.ex:=by rw[O];exact S
   obtain⟨sl,e⟩:=I.base.slot b o q n G F
   obtain⟨a1,e1⟩:=u.slot b _ e (I.base.free b o q n F) (W b G) S
   obtain⟨_,o',U,hd⟩:=V.mem (W b G)
   have z:=U.symm.trans e1
   cases z
   obtain⟨Y,e2⟩:=up b _ e1 hd
   exact⟨Y,e2⟩
  free:=λb o q n S=>by
   have F:b∉X.ex:=by rw[O];exact S
   obtain⟨o',e⟩:=I.base.there b o q F
   exact u.free b o' e (I.base.free b o q n F) S
  there:=λb o q S=>by
   have F:b∉X.ex:=by rw[O];exact S
   by_cases G:b∈X.fs
   ·obtain⟨_,o',U,_⟩:=fl.2.2.1.mem G
    exact⟨o',U⟩
   ·obtain⟨o',e⟩:=I.base.there b o q F
    obtain⟨o2,e2⟩:=(kb b o' e (I.notfr q G)).1
    exact⟨o2,fl.1 b o2 e2⟩
  tups:=λb xs q=>u.tups b xs (I.base.tups b xs q)
  frzs:=λb o xs q=>u.frzs b o xs (I.base.frzs b o xs q)
  tbls:=λb ps q=>by
   obtain⟨m1,e1⟩:=I.base.tbls b ps q
   obtain⟨m2,e2⟩:=u.tbls b _ e1
   exact⟨m1++m2,by rw[e2,WH]⟩ }
 hok:=ziK hok k1 fl.1 kt
 fly:=fl
 kb:=λb o q G=>by
  have F:b∉X.ex:=by rw[O];exact List.not_mem_nil
  obtain⟨o',e⟩:=I.base.there b o q F
  have z:=kb b o' e (I.notfr q G)
  exact⟨z.1,λn=>(kb b o (I.base.keep b o q n G F) (I.notfr q G)).2 (I.base.free b o q n F)⟩
 kt:=kt
end
abbrev XJ:=Addr->Option Addr->St->Hp->Prop
def zea (X:Cx) (J:XJ):Prop:=∀(pz:List (Addr×Obj)) (σ:St) (H:Hp) (s:Shared) (a C:Addr) (H':Hp) (s':Shared) (B:Heap) (a0:Value) (dct:Option Addr),
 Inv X pz σ H s->Fly X.prog X.w X.stack H s C H' a s' B a0 dct->J C dct σ H'->X.xe (.ref a) s'
def zaF (X:Cx) (J:XJ):Prop:=∀(pz:List (Addr×Obj)) (σ:St) (H:Hp) (s:Shared) (h':Heap) (a C:Addr) (us:List Value),
 Inv X pz σ H s->Heap.MadeExcOf s.heap h' a (.ref C) us->J C none σ H->X.xe (.ref a) { s with heap:=h' }
def EJ (E:XK):XJ:=λC d _ H'=>E (.ref C) d H'
section
variable {P:Program}{w:World}{K:Fg}{mg:Str->Option Value}{base:Heap}{N:List Str}{qual:Str}{scope:Scope}{f:Addr}{cd:Value}{A:Around}{outer:List Env}{s:Shared}{H:Hp}{E:XK}
theorem QJ:zea (xh (CX1 P w) P w K mg base N qual scope f cd A outer s H E) (EJ E):=by
 intro pz σ H1 S a C H' s' B a0 dct I F q
 obtain⟨U,g,d,t,G⟩:=s'
 have e:G=S.os:=F.os
 subst e
 refine ze0 (L:=s.heap.objs.size) I.ok.frames rL F.fly λh' fl up=>?_
 refine⟨a,C,H',B,a0,dct,rL,?_,q⟩
 have z:=zeG (g:=g) (d:=d) (t:=t) I rfl (λb O=>wT _ O) F.un F.kb F.kt F.hok F.fly.1 F.fly.2.2.1 up fl F.bare
 exact z
theorem JY:zaF (xh (CX1 P w) P w K mg base N qual scope f cd A outer s H E) (EJ E):=by
 intro pz σ H1 F h1 a C us I U q
 have G:∀b o,F.heap.get? b=some o->b∉frs (xh (CX1 P w) P w K mg base N qual scope f cd A outer s H E).stack →
   (PySem.W.hideAll F.heap (frs (xh (CX1 P w) P w K mg base N qual scope f cd A outer s H E).stack)).get? b=some o:=λb o e n=>PySem.W.hideAll_get _ e n
 have O:(PySem.W.hideAll F.heap (frs (xh (CX1 P w) P w K mg base N qual scope f cd A outer s H E).stack)).StaysIn F.heap:=λb o q=>PySem.W.of_hideAll _ q
 have S:F.heap.FunFrames (PySem.W.hideAll F.heap (frs (xh (CX1 P w) P w K mg base N qual scope f cd A outer s H E).stack)) (xh (CX1 P w) P w K mg base N qual scope f cd A outer s H E).stack :=
  PySem.W.funFrames_hide I.stack λenv Y b V=>Yr.mpr ⟨env,Y,V⟩
 refine zbY (L:=s.heap.objs.size) (h:=F.heap) (s:={ F with heap:=h1 }) I.ok.frames rfl O S U λh' t fl up=>?_
 have z:=zeG (g:=F.gens) (d:=F.drawn) (t:=F.toks) (h1:=h1) I rfl (λb V=>wT _ V) (Un.kept U.keeps) (λb o e n=>⟨⟨o,G b o e n⟩,λ_=>G b o e n⟩)
  (λb u e=>by
   obtain⟨o,ho⟩:=(I.hok b u e).obj
   exact⟨o,G b o ho λz=>by rw[I.stkFree b z]at e;cases e⟩) (I.hok.kept U.keeps) (λb o e=>U.keeps b o (O b o e)) (S.of_keeps λb o e _=>⟨o,U.keeps b o e,rfl⟩) up fl I.bare
 exact⟨a,C,H1,031,z,q⟩
end
def zj9 (sp:Sp) (dvs:List V) (J:XJ) (t:TA):TE:=λσ H Q=>t σ H λvs H1=>sp (vs++dvs) H1 Q λc d H'=>∃C,c=.ref C/\J C d σ H'
structure Qh (P:Program) (w:World) (K:Fg) (mg:Str->Option Value) (base:Heap) (x:Str) (k:Nat) (ps:List Str) (dvs:List V) (sp:Sp):Prop where
 ex:∃f fd ds,Zw P w K mg base (CX1 P w) k f fd ps sp/\mg x=some (.ref f)/\PySem.W.keepIn K (.ref f)=true/\v6 K fd ps ds/\xa dvs ds
section
variable {X:Cx}{k:Nat}{f:Addr}{fd:FuncData}{ps:List Str}{sp:Sp}{dvs:List V}{ds:List Value}{J:XJ}{x:Str}{p pos:Pos}{e:Expr}{es:List Expr}{t:TA}
theorem zhy {pz:List (Addr×Obj)}{σ:St}{H:Hp}{s:Shared}{Q:VK}{us:List Value}{vs:List V}(F:Zw X.prog X.w X.K X.mg X.base (CX1 X.prog X.w) k f fd ps sp) (hr:xc k X.A) (S:v6 X.K fd ps ds) (hd:xa dvs ds) (Y:zea X J)
  (I:Inv X pz σ H s) (r:xa vs us) (h:sp (vs++dvs) H Q λc d H'=>∃C,c=.ref C/\J C d σ H'):wpAny (model X.prog X.w) X.A (call (.ref f) us) (EP X pz σ Q) X.xe s:=by
 have O:xa (vs++dvs) (us++ds):=r.append hd
 have W:(us++ds).length=ps.length:=by rw[<-O.length];exact F.len _ _ _ _ h
 refine Ui (codeAny_mono (F.run X.A X.stack s H ⟨us,[]⟩ (us++ds) (vs++dvs) Q _ hr I.env0 (S s us I.kIn W) O h) λr s' G=>?_)
 cases r with
 |error e =>
  obtain⟨a,C,H',B,a0,dct,rfl,F,C',U,q⟩:=G
  cases U
  exact Y pz σ H s a C H' s' B a0 dct I F q
 |ok fl =>
  cases fl with
  |ret u=>exact I.after G
  |next=>exact False.elim G
  |brk=>exact False.elim G
  |cont=>exact False.elim G
theorem zfn (c:Qh X.prog X.w X.K X.mg X.base x k ps dvs sp) (hr:xc k X.A) (hx:zea X J) (ha:PA X (e::es) t) (Y:Gl X x:=by rfl) (O:(x == ("__debug__":Str))=false:=by decide)
  (S:starEach (e::es) X.env=(false,eval e X.env)::starEach es X.env:=by rfl) (G:(backTo pos (starEach es X.env)).any (·.1)=false:=by rfl) :
  PE X (.Call (.Name x p) (e::es) [] pos) (zj9 sp dvs J t):=by
 obtain⟨f,fd,ds,F,hm,U,V,hd⟩:=c.ex
 intro pz s σ H Q I h
 refine uy (Qx I Y hm ?_ O)
 refine Ys (h₀:=X.base) I.ok.mod.kin U (thn (ha pos pz s σ H _ I h) λus s1 ⟨vs,H1,I1,r,q⟩=>⟨I1.kIn,?_⟩) S G
 exact zhy F hr V hd hx I1 r q
end
section
variable {P:Program}{w:World}{K:Fg}{mg:Str->Option Value}{base:Heap}
theorem Df.cal1 {x:Str}{st:Stmt}{N ps:List Str}{dvs:List V}{k:Nat}{sp:Sp}(D:Df K mg x st ps dvs) (S:zC N ps (zi st)) (len:∀vs H Q E,sp vs H Q E->vs.length=ps.length)
  (F:∀(f:Addr) (cdv:Value) (A:Around) (outer:List Env) (s:Shared) (H:Hp) (vs:List V) (Q:VK) (E:XK),xc k (A.deeper (envOfC x (zi st) s.heap.objs.size f cdv))->sp vs H Q E →
   ∃t,PSs (xh (CX1 P w) P w K mg base N x (zi st) f cdv A outer s H E) (xb st) t/\t { nx:=λ_ H'=>Q .non H',rt:=Q } (vV N vs) H):Qh P w K mg base x (k+1) ps dvs sp:=by
 obtain⟨f,oc,od,dV,kV,U,pm,an,cdv,ct,W,ds,lk,G,O,hm,Y,hb⟩:=D.ex
 exact⟨⟨f,_,ds,zeH lk G S len λA outer s H vs Q E hr I=>F f cdv A outer s H vs Q E hr I,hm,O,hb,Y⟩⟩
theorem Df.cal1q {x:Str}{st:Stmt}{N ps:List Str}{dvs:List V}{k:Nat}{sp:Sp}(D:Df K mg x st ps dvs) (S:zC N ps (zi st))
  (F:∀(f:Addr) (cdv:Value) (A:Around) (outer:List Env) (s:Shared) (H:Hp) (vs:List V) (Q:VK) (E:XK),xc k (A.deeper (envOfC x (zi st) s.heap.objs.size f cdv))->sp vs H Q E →
   ∃t,PSs (xh (CX1 P w) P w K mg base N x (zi st) f cdv A outer s H E) (xb st) t/\t { nx:=λ_ H'=>Q .non H',rt:=Q } (vV N vs) H) (len:∀vs H Q E,sp vs H Q E->vs.length=ps.length:=by intro _ _ _ _ h;repeat (first | (cases h;subst_vars;rfl) | (obtain⟨rfl,_⟩:=h;rfl) | (obtain⟨_,h⟩:=h))):Qh P w K mg base x (k+1) ps dvs sp:=D.cal1 S len F
end
def zkc (C:Addr) (J:XJ) (t:TA):TS:=λ_ σ H=>t σ H λvs H1=>vs.length<=sizeLine/\J C none σ H1
section
variable {X:Cx}{J:XJ}{x:Str}{C:Addr}{bmB bmN:List Value}{newId Bn inN B nid initId:String}{np cpos pos:Pos}{e:Expr}{es:List Expr}{t:TA}
theorem zfv (O:OwnCls x C bmB newId X.mg X.base) (Y:ExcBaseFacts Bn newId inN bmN) (S:bmB.contains (.type Bn)=true) (U:ExcBaseFacts B nid initId bmB) (hh:X.A.handled=none) (V:zaF X J) (ha:PA X (e::es) t)
  (hg:Gl X x:=by rfl) (hd:(x == ("__debug__":Str))=false:=by decide)
  (W:starEach (e::es) X.env=(false,eval e X.env)::starEach es X.env:=by rfl) (F:(backTo cpos (starEach (e::es) X.env)).any (·.1)=false:=by rfl) :
  PS X (.Raise (some (.Call (.Name x np) (e::es) [] cpos)) none pos) (zkc C J t):=by
 intro pz s σ H D I h
 obtain⟨tl,N,nm,q,bs,hdct,sn,sub,ab,col,dd,k0,k1,k2,k3,k5,mN,hC,hN,G,T⟩:=O.obj
 refine wpAny_Raise_call_subU (C:=C) (N:=N) (bm:=tl) (nm:=nm) (q:=q) (bs:=bs) (hdct:=hdct) (sn:=sn) (sub:=sub) (ab:=ab) (col:=col) (dd:=dd) (k0:=k0) (k1:=k1) (k2:=k2) (k3:=k3) (k5:=k5) Y S U (mN:=mN) (T.hasType U.hasBase) hh F G (Qx I hg O.bound ⟨rL,?_⟩ hd)
 have hw:=ha cpos pz s σ H _ I h
 rw[W]at hw ⊢
 exact Calls.evalArgs_plain (uo hw (λvs s2 ⟨ws,H1,I1,r,z,q⟩=>⟨rfl,by rw[<-r.length];exact z,I1.bk _ _ hC,hN.keeps I1.bk,T.keeps I1.bk,λh' e hm=>V pz σ H1 s2 h' e C vs I1 hm q⟩) λ_ _ y=>y)
end
open PySem.W
def qF (σ:St) (js:List Nat):St:=js.map λj=>(σ[j]?).getD none
inductive Qi (X:Cx) (scope:Scope) (cl:List (Str×Addr)):List Str->List Nat->Prop
 |nil:Qi X scope cl [] []
 |cons {x:Str}{j:Nat}{r:List Str}{js:List Nat}:X.N[j]?=some x->X.env.kindOf x=some .cell->(relabel scope X.env).names.lookup x=some .cell->(∃c,cl.lookup x=some c)->Qi X scope cl r js->Qi X scope cl (x::r) (j::js)
section
variable {X:Cx}{scope:Scope}{cl:List (Str×Addr)}
theorem Qi.length:∀{r:List Str}{js:List Nat},Qi X scope cl r js->r.length=js.length
 |_,_,.nil=>rfl
 |_,_,.cons _ _ _ _ t=>by rw[wB,wB,Qi.length t]
theorem Qi.get:∀{r:List Str}{js:List Nat}{k:Nat}{x:Str},Qi X scope cl r js->r[k]?=some x->∃j,js[k]?=some j/\X.N[j]?=some x/\X.env.kindOf x=some .cell/\(relabel scope X.env).names.lookup x=some .cell/\∃c,cl.lookup x=some c
 |_,_,_,_,.nil,e=>by simp at e
 |_,_,0,_,.cons h1 h2 h3 h4 _,e=>by
  simp at e;subst e
  exact⟨00,h1,h2,h3,h4⟩
 |_,_,k+1,x,.cons _ _ _ _ t,e=>by
  obtain⟨j,r⟩:=Qi.get (k:=k) t ↥e
  exact⟨j,↥r⟩
theorem Qi.has {r:List Str}{js:List Nat}(h:Qi X scope cl r js){x:Str}(G:x∈r):∃c,cl.lookup x=some c:=by
 obtain⟨k,F⟩:=List.getElem?_of_mem G
 obtain⟨_,_,_,_,_,z⟩:=h.get F
 exact z
end
def xN (X:Cx) (NB FR:List Str) (scope:Scope) (cl:List (Str×Addr)) (s3:Shared) (H3:Hp) (fp:List Addr):Cx :=
 { X with N:=NB++FR,s₀:=s3,H₀:=H3,env:=compEnvC scope cl s3.heap.objs.size X.env,outer:=X.stack,stack:=X.stack,ex:=fp,fn:=λ_=>false,pn:=[],xe:=λ_ _=>False }
def zaC (n:Nat) (js:List Nat) (wi:TI) (g:TG) (tt:TT) (te:TE):TE:=λσ H Q=>wi σ H λJ H1=>∀D,H1 D=none->∃W:Nat->Nat->Hp->List V->Prop,(∃m,W 0 m (upd H1 D (.lst [])) []) ∧
 ∀i m H2 ys,W i m H2 ys->H2 D=some (.lst ys)->(J.stop i H2/\Q (.ref D) H2) ∨
  (J.go i H2/\∀zs x H3,zs.length=n->J.yld i H2 x H3->g x (zs++qF σ js) H3 λσ4 H4=>σ4.drop n=qF σ js/\tt σ4 H4 λb H5 =>
   if b=true then te σ4 H5 (λv H6=>H6 D=some (.lst ys)/\ys.length<sizeLine/\∃m',m'<m/\W (i+1) m' (upd H6 D (.lst (ys++[v]))) (ys++[v]))
   else H5 D=some (.lst ys)/\∃m',m'<m/\W (i+1) m' H5 ys)
def zbf {scope:Scope}{env:Env}{FR:List Str}{x:Str}(h:(relabel scope env).names.all (λy=>!(y.2 == .cell || y.2 == .free) || FR.contains y.1)=true)
  (e:(relabel scope env).names.lookup x=some .cell\/(relabel scope env).names.lookup x=some .free):x∈FR:=by
 have key:∀k:NameKind,(k == .cell || k == .free)=true->(x,k)∈(relabel scope env).names->x∈FR:=λk F G=>by
  have z:=YQ.mp h _ G
  simp only[F,Bool.not_true,YL,List.contains_iff_mem]at z
  exact z
 rcases e with e | e
 ·exact key .cell rL (PySem.mem_of_lookup e)
 ·exact key .free rL (PySem.mem_of_lookup e)
def Jv {X:Cx}{elt tg iter:Expr}{ifs:List Expr}{scope:Scope}{cl:List (Str×Addr)}{pos:Pos}{NB FR:List Str}{js:List Nat}{wi:TI}{g:TG}{tt:TT}{te:TE}{Q:VK}{RR:Value->Addr->Result->Shared->Prop}
  {pz:List (Addr×Obj)}{s:Shared}{σ:St}{H:Hp}(hc:X.calm=true) (hcl:∀x c,cl.lookup x=some c->X.env.cells.lookup x=some c) (hcap:Qi X scope cl FR js)
  (hnm:(relabel scope X.env).names.all (λy=>!(y.2 == .cell || y.2 == .free) || FR.contains y.1)=true) (hcell:∀x∈scope.names,x.2≠.cell) (hkind:scope.kind=.function)
  (hi:PI X tg iter wi) (hb:∀s3 H3 fp,PG (xN X NB FR scope cl s3 H3 fp) tg g/\PTs (xN X NB FR scope cl s3 H3 fp) ifs tt/\PE (xN X NB FR scope cl s3 H3 fp) elt te)
  (I:Inv X pz σ H s) (h:zaC NB.length js wi g tt te σ H Q)
  (hRR:∀D C H' s',Inv X pz σ H' s'->VD X pz H' C->(∃m,s'.heap.Ns C m)->Q (.ref D) H'->RR (.ref D) C (.ok .next) s') :
  wpAny (model X.prog X.w) X.A (eval iter X.env) (λv s1=>wpAny (model X.prog X.w) X.A (pyIter v) (λit s2=>wpAny (model X.prog X.w) X.A (newList []) (λacc s3 =>
   wpAny (model X.prog X.w) X.A (newFunctionEnv scope X.env.globals cl [] X.env.qual none .none (some X.env)) (λcenv s4 =>
    codeAny (model X.prog X.w) X.A (.compStart (.ListComp elt [⟨tg,iter,ifs,0⟩] scope pos) 0 it acc { cenv with scope:=relabel scope X.env }) (RR acc cenv.locals) s4) X.xe s3) X.xe s2) X.xe s1) X.xe s:=by
 refine thn (hi pz s σ H _ I h) λv s1 h1=>thn h1 λitv s2 h2=>?_
 obtain⟨it,fp,tn,J,H2,e,I2,T,st2,f2,q2⟩:=h2
 subst e
 have hf2:H2 s2.heap.objs.size=none:=I2.hok.fresh (wn _)
 obtain⟨W,⟨m0,w0⟩,turn⟩:=q2 _ hf2
 refine uM (hd:=by size_fits) ?_
 have I3:Inv X pz σ (upd H2 s2.heap.objs.size (.lst [])) { s2 with heap:=s2.heap.push { cls:=.type "list",dict:=none,data:=.seq ([]:List Value).toArray } } :=
  I2.laid (t':=s2.toks) (λb u e=>wg _ e) (wn _) ⟨by decide,[],0,.nil,wJ _ rfl⟩
 generalize hD:s2.heap.objs.size=D at *
 generalize hs3:({ s2 with heap:=s2.heap.push { cls:=.type "list",dict:=none,data:=.seq ([]:List Value).toArray } }:Shared)=s3 at *
 generalize hH3:upd H2 D (.lst [])=H3 at *
 have h3D:H3 D=some (.lst []):=by rw[<-hH3];exact zj
 have fpD:∀b∈fp,b≠D:=λb hb=>by
  obtain⟨o,e,_⟩:=T.obj _ _ st2 b hb
  rw[<-hD];exact wW (wE e)
 have k23:∀b u,s2.heap.get? b=some u->s3.heap.get? b=some u:=λb u e=>by rw[<-hs3];exact wg _ e
 have st3:tn 0 s3.heap:=T.keep _ _ _ st2 λb _ o e=>k23 b o e
 have f3:∀b∈fp,VD X pz H3 b:=λb hb=>⟨by rw[<-hH3,zV (fpD b hb)];exact(f2 b hb).1,(f2 b hb).2⟩
 refine wpAny_newFunctionEnv hcell (by intro y hy;simp at hy) (λh4 hns4 hsb4=>?_) hkind
 have k34:∀b u,s3.heap.get? b=some u->h4.get? b=some u:=λb u e=>hsb4.extBut b u (wW (wE e)) (wg _ e)
 have okB:(xN X NB FR scope cl s3 H3 fp).Ok:=by
  refine⟨I3.ok.mod,hkind,I3.ok.glob,I3.ok.blt,wn _,λx y c e1 e2=>I3.ok.inj x y c (hcl _ _ e1) (hcl _ _ e2),λx e=>hcap.has (zbf hnm e),(λx c e=>nomatch e),I3.ok.hd,I3.ok.frames,.inl rL,λb hb=>⟨?_,λx c e=>?_⟩,I3.bs,yF I3.ok.bsz I3.sz,λb o e hb=>?_,λb hb z=>?_,I3.stack,I3.stkFree⟩
  ·obtain⟨o,e,_⟩:=T.obj _ _ st3 b hb
   exact wW (wE e)
  ·exact(f3 b hb).2.2.2.2.1 x c (hcl _ _ e)
  ·obtain⟨_,_,_,z,_⟩:=f3 b hb
   rcases z with z | z
   ·exact I3.ok.noex b o e z
   ·exact absurd (w8 (wE e) (yF I3.ok.bsz z)) (uD _)
  ·obtain⟨_,z1,z2,_⟩:=f3 b hb
   rcases wu.mp (I3.stkSub b z)with e | e
   ·exact z1 e
   ·exact z2 e
 have IB:Inv (xN X NB FR scope cl s3 H3 fp) [] (List.replicate NB.length none++qF σ js) H3 { s3 with heap:=h4,toks:=s3.toks+([]:List (Str×Value)).length }:=by
  exists okB,rfl,I3.bare,Un.kept k34,⟨_,hns4,λi x v e1 e2 e3=>?_⟩,λx c e=>?_,I3.hok.fresh (wn _),λx c e=>I3.freeC x c (hcl _ _ e),λp hp=>?_,I3.hok.kept k34
  ·by_cases hi:i<NB.length
   ·rw[yd ↥hi,WJ,if_pos hi]at e2
    cases e2
   ·have e1':FR[i-NB.length]?=some x:=by
     have z:(NB++FR)[i]?=some x:=e1
     rw[wV (by omega)]at z;exact z
    rw[wV (by simp;omega),uR]at e2
    obtain⟨j,hj,hN,hk,hb',c,hc'⟩:=hcap.get e1'
    have e2':σ[j]?=some (some v):=by
     unfold qF at e2
     rw[wo,hj]at e2
     simp only[Option.map_some,Option.some.injEq]at e2
     cases hσ:σ[j]? with
     |none=>rw[hσ]at e2;cases e2
     |some o=>rw[hσ]at e2;simp only[YR]at e2;rw[e2]
    obtain⟨m,hn,hl⟩:=I3.loc
    obtain⟨u,ru,lu⟩:=hl j x v hN e2' (.inr (.inl hk))
    refine⟨u,ru,.inr ⟨.inl hb',c,hc',?_⟩⟩
    rcases lu with⟨z,_⟩ | ⟨_,c',z,q⟩
    ·rw[hk]at z;cases z
    ·rw[hcl _ _ hc']at z;cases z
     obtain⟨o,ho,hd⟩:=q
     exact⟨o,k34 _ _ ho,hd⟩
  ·obtain⟨v,o,ho,hd⟩:=I3.cell x c (hcl _ _ e)
   exact⟨v,o,k34 _ _ ho,hd⟩
  ·exact absurd (show p∈([]:List (Addr×Obj))from hp) (by simp)
  ·show _=(NB++FR).length
   rw[wX,wX,uR,hcap.length]
   unfold qF;rw[wc]
 have st4:tn 0 h4:=T.keep _ _ _ st3 λb _ o e=>k34 b o e
 have stat:∀{H':Hp},(∀b∈fp,H' b=none)->∀b∈fp,VD (xN X NB FR scope cl s3 H3 fp) [] H' b:=λhn b hb =>
  ⟨hn b hb,(okB.exf b hb).1,okB.exfs b hb,.inl hb,λx c e=>(f3 b hb).2.2.2.2.1 x c (hcl _ _ e),λp hp=>absurd (show p∈([]:List (Addr×Obj))from hp) (by simp)⟩
 obtain⟨hg,ht,he⟩:=hb s3 H3 fp
 have fin:∀{σ':St}{H':Hp}{s':Shared},Inv (xN X NB FR scope cl s3 H3 fp) [] σ' H' s'->Q (.ref D) H'->RR (.ref D) s3.heap.objs.size (.ok .next) s':=λ{σ' H' s'} J q=>by
  have hm:∃m,s'.heap.Ns s3.heap.objs.size m:=by
   obtain⟨m,hm,_⟩:=J.loc
   exact⟨m,hm⟩
  refine hRR D _ H' s' (I3.call' (ch:=fp) J.os J.base J.hok J.bare λb hb=>?_) (I3.fpOk (wn _) J.free) hm q
  obtain⟨_,z1,z2,z3,z4,z5⟩:=f3 b hb
  exact⟨z3,z1,z4,z5⟩
 have loop:∀s5:Shared,s5 = { s3 with heap:=h4,toks:=s3.toks+([]:List (Str×Value)).length } →
   codeAny (model X.prog X.w) X.A (.compLoop (.ListComp elt [⟨tg,iter,ifs,0⟩] scope pos) 0 (.ref it) (.ref D) (compEnvC scope cl s3.heap.objs.size X.env)) (RR (.ref D) s3.heap.objs.size) s5:=by
  rintro s5 rfl
  refine Qn (λn s'=>∃i zs H' ys,zs.length=NB.length/\Inv (xN X NB FR scope cl s3 H3 fp) [] (zs++qF σ js) H' s'/\tn i s'.heap/\(∀b∈fp,H' b=none)/\H' D=some (.lst ys)/\W i n H' ys) ?_ m0
   ⟨0,_,H3,[],uR,IB,st4,λb hb=>(f3 b hb).1,h3D,by rw[<-hH3]at *;exact w0⟩
  rintro n s6 ⟨i,zs,H6,ys,hzs,I6,st6,fr6,hD6,w6⟩
  rcases turn i n H6 ys w6 hD6 with⟨stop,qn⟩ | ⟨go,step⟩
  ·refine thn (T.done (xN X NB FR scope cl s3 H3 fp) rL rL rL hc i [] s6 _ H6 _ I6 (stat fr6) st6 stop) λr s7 ⟨hr,I7⟩=>?_
   subst hr
   exact fin I7 qn
  ·refine thn (T.item (xN X NB FR scope cl s3 H3 fp) rL rL rL hc i [] s6 _ H6 _ I6 (stat fr6) st6 go) λr s7 ⟨u,hr,h7⟩=>?_
   subst hr
   refine thn h7 λ_ s8 ⟨x,H8,I8,r8,y8,st8,fr8⟩=>?_
   have I8':=I8.pinned (stat fr8) (T.obj _ _ st8)
   have again:∀{σ9:St}{H9:Hp}{s9:Shared}{ws:List V}{m':Nat},σ9.drop NB.length=qF σ js->Inv (xN X NB FR scope cl s3 H3 fp) ([]++QT fp s8.heap) σ9 H9 s9->H9 D=some (.lst ws)->m'<n->W (i+1) m' H9 ws →
     ∃m,m<n/\∃i zs H' ys,zs.length=NB.length/\Inv (xN X NB FR scope cl s3 H3 fp) [] (zs++qF σ js) H' s9/\tn i s9.heap/\(∀b∈fp,H' b=none)/\H' D=some (.lst ys)/\W i m H' ys:=λ{σ9 H9 s9 ws m'} hdr I9 hz hm w9=>by
    have hl:σ9.length=(NB++FR).length:=I9.len
    rw[wX]at hl
    refine⟨m',hm,i+1,σ9.take NB.length,H9,ws,by rw[yk];omega,?_,T.keep _ _ _ st8 λb hb o e=>(I9.pin (b,o) (yj _ (yj _ (qX hb e)))).1,λb hb=>?_,hz,w9⟩
    ·rw[<-hdr,yQ];exact I9.unpinned
    ·obtain⟨o,e,d⟩:=T.obj _ _ st8 b hb
     exact(I9.pin (b,o) (yj _ (yj _ (qX hb e)))).2.1
   refine thn (hg _ s8 _ H8 x u _ I8' r8 (step zs x H8 hzs y8)) λ_ s9 ⟨σ9,H9,I9,hdr,q9⟩=>?_
   refine thn (ht _ s9 σ9 H9 _ I9 q9) λok s10 ⟨H10,I10,q10⟩=>?_
   cases ok with
   |false =>
    rw[if_neg ⇑1]at q10 ⊢
    obtain⟨hz,m',hm,w'⟩:=q10
    exact again hdr I10 hz hm w'
   |true =>
    rw[if_pos rfl]at q10 ⊢
    refine thn (he _ s10 σ9 H10 _ I10 q10) λy s11 ⟨v,H11,I11,r11,hz,hlen,m',hm,w'⟩=>?_
    refine thn (qE _ s11 σ9 H11 (.ref D) [v] (.ref D) [y] (λ_ H12=>H12=upd H11 D (.lst (ys++[v]))) I11 rL (.cons r11 .nil) ⟨D,ys,v,rL,rL,hz,hlen,rL⟩) λ_ s12 ⟨_,H12,I12,_,e12⟩=>?_
    subst e12
    exact again hdr I12 zj hm w'
 exact codeAny_compStart_list (loop _ rL) (T.self X.A 0 _ _ _ st4 (loop _ rL))
section
variable {X:Cx}{elt tg iter:Expr}{ifs:List Expr}{scope:Scope}{cl:List (Str×Addr)}{pos spos py:Pos}{NB FR:List Str}{js:List Nat}{wi:TI}{g:TG}{tt:TT}{te:TE}
theorem qj (hc:X.calm=true) (hclos:closureFor scope X.env=pure cl) (hcl:∀x c,cl.lookup x=some c->X.env.cells.lookup x=some c) (hcap:Qi X scope cl FR js)
  (hnm:(relabel scope X.env).names.all (λy=>!(y.2 == .cell || y.2 == .free) || FR.contains y.1)=true) (hcell:∀x∈scope.names,x.2≠.cell) (hkind:scope.kind=.function) (hnames:∀x∈scope.names,x.2=.local → scope.names.lookup x.1=some .local)
  (hi:PI X tg iter wi) (hb:∀s3 H3 fp,PG (xN X NB FR scope cl s3 H3 fp) tg g/\PTs (xN X NB FR scope cl s3 H3 fp) ifs tt/\PE (xN X NB FR scope cl s3 H3 fp) elt te)
  (hs:∀x,foldedSetIterable iter X.env x=pure x:=by intro _;rfl) :
  PE X (.ListComp elt [⟨tg,iter,ifs,0⟩] scope pos) (zaC NB.length js wi g tt te):=by
 intro pz s σ H Q I h
 rw[eval_ListComp]
 refine YI (use:=none) rL hs hclos hkind hnames (Jv (RR:=λacc C=>compPost (model X.prog X.w) X.A X.xe none (EP X pz σ Q) acc C) hc hcl hcap hnm hcell hkind hi hb I h ?_)
 intro D C H' s' I' ⟨f0,f1,f2,f3,f4,f5⟩ ⟨m,hm⟩ q
 exact⟨m,hm,λh' sb=>⟨.ref D,H',I'.turned (t':=s'.toks) (λb o hb e=>(sb.2 b hb).trans e) f0 f1 f3 f4 f5,rL,q⟩⟩
theorem Vv {i:Nat}{y:Str}(hc:X.calm=true) (hclos:closureFor scope X.env=pure cl) (hcl:∀x c,cl.lookup x=some c->X.env.cells.lookup x=some c) (hcap:Qi X scope cl FR js)
  (hnm:(relabel scope X.env).names.all (λy=>!(y.2 == .cell || y.2 == .free) || FR.contains y.1)=true) (hcell:∀x∈scope.names,x.2≠.cell) (hkind:scope.kind=.function) (hnames:∀x∈scope.names,x.2=.local → scope.names.lookup x.1=some .local)
  (hN:X.N.Nodup) (hiN:X.N[i]?=some y) (hy:X.env.kindOf y=some .local) (hsw:swapsWith (.ListComp elt [⟨tg,iter,ifs,0⟩] scope pos) (some (.Name y py)) spos.line X.env=pure true)
  (hi:PI X tg iter wi) (hb:∀s3 H3 fp,PG (xN X NB FR scope cl s3 H3 fp) tg g/\PTs (xN X NB FR scope cl s3 H3 fp) ifs tt/\PE (xN X NB FR scope cl s3 H3 fp) elt te)
  (hs:∀x,foldedSetIterable iter X.env x=pure x:=by intro _;rfl) :
  PS X (.Assign [.Name y py] (.ListComp elt [⟨tg,iter,ifs,0⟩] scope pos) spos) (zcj (zaC NB.length js wi g tt te) (zG i)):=by
 intro pz s σ H D I h
 rw[exec_Assign_Name_used _ _ _ _ hsw]
 refine we (YO (we ?_))
 show wpAny _ _ (do let _ <-comprehension (.ListComp elt [⟨tg,iter,ifs,0⟩] scope pos) scope X.env _ (newList []) false (eval iter X.env) (some (assign (.Name y py) X.env))) _ _ s
 refine we (uo (YI (use:=some (assign (.Name y py) X.env)) (Q:=λ_ s'=>SP X pz D .next s') rL hs hclos hkind hnames
  (Jv (RR:=λacc C=>compPost (model X.prog X.w) X.A X.xe (some (assign (.Name y py) X.env)) (λ_ s'=>SP X pz D .next s') acc C) hc hcl hcap hnm hcell hkind hi hb I h ?_)) (λ_ s' hq=>wq (wq hq)) λ_ _ e=>e)
 intro DD C H' s' I' ⟨f0,f1,f2,f3,f4,f5⟩ ⟨m,hm⟩ q
 show wpAny _ _ (assign (.Name y py) X.env (.ref DD)) _ _ s'
 refine wpAny_assign_Name (JQ (v:=.ref DD) I' hN hiN (.inl hy) rL (λs'' I'' ⟨a,sa,ha⟩=>?_) (.inr hy))
 have hCa:C≠a:=by
  rcases ha with rfl | ha
  ·exact f1
  ·exact λz=>f4 y a ha z.symm
 exact⟨m,hm.sameBut sa hCa,λh' sb=>⟨_,H',I''.turned (t':=s''.toks) (λb o hb e=>(sb.2 b hb).trans e) f0 f1 f3 f4 f5,q⟩⟩
end
section
variable {X:Cx}
theorem zct:∀{bs:List Bool}{us:List Value}{i:Nat}{v:Value},xa (bs.map V.bl) us->us[i]?=some v->∃b,bs[i]?=some b/\v=.bool b
 |[],_,_,_,r,e=>by cases r;simp at e
 |b::bs,_,i,v,r,e=>by
  cases r with
  |cons h t =>
   cases i with
   |zero=>simp at e;subst e;exact⟨b,rfl,h⟩
   |succ i=>obtain⟨c,e1,e2⟩:=zct (i:=i) t ↥e;exact⟨c,↥e1,e2⟩
theorem Jl:∀(bs:List Bool) (k:Nat),((List.range' k bs.length).all λi=>(bs[i-k]?).getD true)=bs.all id
 |[],k=>rfl
 |b::bs,k=>by
  rw[wB,List.range'_succ,List.all_cons,List.all_cons]
  simp only[Wq,List.getElem?_cons_zero,YR,id]
  congr 1
  rw[<-Jl bs (k+1)]
  apply u8.mpr
  simp only[YQ,List.mem_range'_1]
  constructor
  ·intro h i hi
   have:=h i hi
   rw[show i-k=(i-(k+1))+1 by lia,uJ]at this;exact this
  ·intro h i hi
   rw[show i-k=(i-(k+1))+1 by lia,uJ];exact h i hi
theorem VI (hc:X.calm=true):vD X (.builtin "all") (λxs H Q=>∃(p:Addr) (bs:List Bool),xs=[.ref p]/\SqL X.K H p (bs.map V.bl)/\Q (.bl (bs.all id)) H):=by
 intro pz s σ H xs us Q I r h
 obtain⟨p,bs,rfl,W,q⟩:=h
 obtain⟨u,rfl,ru⟩:=ZR r
 cases ru
 obtain⟨G,S,pl,_⟩:=I.list W
 have O:p<s.heap.objs.size:=by obtain⟨o,n,e,_⟩:=pl;exact wE e
 have U:=S.length
 rw[wc]at U
 refine call_all_walk (YH pl.isList ⟨s.heap.objs.size,_,_,_,_,_,λi=>(bs[i]?).getD true,rL,Walks.list (A:=X.A.in1) (show X.A.in1.handled=none from I.ok.hd hc) s.heap.objs.size p (wW O) G.toArray,
  ⟨⟨_,wJ _ rfl,rfl,rfl⟩,pl.isList.push _⟩,λi v s' Q' E' Y F=>?_,λh' tk k=>⟨.bl (bs.all id),H,I.kept λb o e=>k b o (by simpa using wW (wE e)) (wg _ e),?_,q⟩⟩)
 ·obtain⟨b,e1,rfl⟩:=zct S ↥Y
  simp only[e1,YR]at F
  exact wq F
 ·have:=Jl bs 0
  simp only[Nat.sub_zero]at this
  rw[show G.toArray.size=bs.length by simp[U],List.range_eq_range',this];rfl
def zeb (K:Fg) (a:Addr) (i j:Int):Prop:=∃o t u n,K.lookup a=some o/\o.cls=.type "tuple"/\o.data=.seq #[.int i t,.int j u] n
inductive zih (K:Fg) (x:V) (y:V) (H:Hp) (Q:VK):Prop
 |mk:∀d a i j,(RdD H x d)->(y=.ref a)->(zeb K a i j)->(SeqAt.shaped d=true)->(Q (.bl (PyData.eqv d (.tuple [.int i,.int j]))) H)->zih K x y H Q
def zhs (K:Fg):R2:=λx y H Q=>zih K x y H Q
theorem zjq (Y:X.A.units+64<cLine):OpR X (compareOp .Eq) (zhs X.K):=by
 intro pz s σ H x y v u Q I rx W h
 obtain⟨d,a,i,j,hd,rfl,⟨o,F,G,n,O,h1,h2⟩,V,q⟩:=h
 obtain⟨as,U⟩:=hd.reads I rx
 cases(show u=Value.ref a from W)
 have S:Reads s.heap (.ref a) (.tuple [.int i,.int j]) _:=.tuple (I.kIn _ _ O) h1 h2 (.cons (.int i F) (.cons (.int j G) .nil))
 exact eq_dataH U S V rL Y ⟨.bl _,H,I,rL,q⟩
end
end L2
namespace HT
open PySem PyProof.Rows
end HT
namespace L2
open PySem PySem.Spec PyProof.Rows
section
variable {J:It}{D:Addr}{N n:Nat}{js:List Nat}{σ:St}{g:TG}{tt:TT}{te:TE}{Q:VK}{H:Hp}
theorem Vn (F:Nat->Hp->List V->Prop) (h0:F 0 (upd H D (.lst [])) []) (a1:∀i H ys,i<N->F i H ys->J.go i H) (a2:∀H ys,F N H ys->J.stop N H)
  (hs:∀i x zs H2 I ys (Nx:Hp->List V->Prop),(∀H ys,F (i+1) H ys->Nx H ys)->i<N->zs.length=n->J.yld i H2 x I->F i H2 ys->H2 D=some (.lst ys)->g x zs I λS H4=>tt S H4 λb O =>
   if b=true then te S O (λv Y=>Y D=some (.lst ys)/\ys.length<sizeLine/\Nx (upd Y D (.lst (ys++[v]))) (ys++[v]))else O D=some (.lst ys)/\Nx O ys)
  (hd:∀H ys,F N H ys->H D=some (.lst ys)->Q (.ref D) H) :
  ∃W:Nat->Nat->Hp->List V->Prop,(∃m,W 0 m (upd H D (.lst [])) [])/\∀i m H2 ys,W i m H2 ys->H2 D=some (.lst ys)->(J.stop i H2/\Q (.ref D) H2) ∨
   (J.go i H2/\∀σB x I,σB.length=n->J.yld i H2 x I->g x σB I λS H4=>tt S H4 λb O=>if b=true then te S O (λv Y=>Y D=some (.lst ys)/\ys.length<sizeLine/\∃G,G<m/\W (i+1) G (upd Y D (.lst (ys++[v]))) (ys++[v]))
    else O D=some (.lst ys)/\∃G,G<m/\W (i+1) G O ys):=by
 exists λi m H ys=>m=N-i/\i<=N/\F i H ys,⟨N,by simp,yb _,h0⟩
 rintro i m H2 ys ⟨rfl,hi,p⟩ hD
 by_cases hlt:i<N
 ·exact .inr ⟨a1 i H2 ys hlt p,λσB x I hB y=>hs i x σB H2 I ys (λH' U=>∃G,G<N-i/\(G=N-(i+1)/\i+1<=N/\F (i+1) H' U)) (λH' U z=>⟨N-(i+1),by lia,rfl,hlt,z⟩) hlt hB y p hD⟩
 ·obtain rfl:i=N:=by lia
  exact .inl ⟨a2 H2 ys p,hd H2 ys p hD⟩
theorem ZZ (F:Nat->Hp->List V->Prop) (h0:F 0 (upd H D (.lst [])) []) (a1:∀i H ys,i<N->F i H ys->J.go i H) (a2:∀H ys,F N H ys->J.stop N H)
  (hs:∀i x zs H2 I ys (Nx:Hp->List V->Prop),(∀H ys,F (i+1) H ys->Nx H ys)->i<N->zs.length=n->J.yld i H2 x I->F i H2 ys->H2 D=some (.lst ys)->g x (zs++qF σ js) I λO H4=>O.drop n=qF σ js/\tt O H4 λb S =>
   if b=true then te O S (λv Y=>Y D=some (.lst ys)/\ys.length<sizeLine/\Nx (upd Y D (.lst (ys++[v]))) (ys++[v]))else S D=some (.lst ys)/\Nx S ys)
  (hd:∀H ys,F N H ys->H D=some (.lst ys)->Q (.ref D) H) :
  ∃W:Nat->Nat->Hp->List V->Prop,(∃m,W 0 m (upd H D (.lst [])) [])/\∀i m H2 ys,W i m H2 ys->H2 D=some (.lst ys)->(J.stop i H2/\Q (.ref D) H2) ∨
   (J.go i H2/\∀zs x I,zs.length=n->J.yld i H2 x I->g x (zs++qF σ js) I λO H4=>O.drop n=qF σ js/\tt O H4 λb S=>if b=true then te O S (λv Y=>Y D=some (.lst ys)/\ys.length<sizeLine/\∃G,G<m/\W (i+1) G (upd Y D (.lst (ys++[v]))) (ys++[v]))
    else S D=some (.lst ys)/\∃G,G<m/\W (i+1) G S ys):=by
 exists λi m H ys=>m=N-i/\i<=N/\F i H ys,⟨N,by simp,yb _,h0⟩
 rintro i m H2 ys ⟨rfl,hi,p⟩ hD
 by_cases hlt:i<N
 ·exact .inr ⟨a1 i H2 ys hlt p,λσB x I hB y=>hs i x σB H2 I ys (λH' U=>∃G,G<N-i/\(G=N-(i+1)/\i+1<=N/\F (i+1) H' U)) (λH' U z=>⟨N-(i+1),by lia,rfl,hlt,z⟩) hlt hB y p hD⟩
 ·obtain rfl:i=N:=by lia
  exact .inl ⟨a2 H2 ys p,hd H2 ys p hD⟩
end
def zaq {H H2 F:Hp}{D:Addr}{o:HO}(G:H D=none) (e:zq H H2) (e2:zq H2 F):zq H (upd F D o):=λb u z=>by rw[zV (zZ z G)];exact e2 _ _ (e _ _ z)
mutual
def RdD.same {H H':Hp}(e:zq H H'):∀{v:V}{d:PyData},RdD H v d->RdD H' v d
 |_,_,.non=>.non
 |_,_,.bl b=>.bl b
 |_,_,.int i=>.int i
 |_,_,.str x=>.str x
 |_,_,.tup h r=>.tup (e _ _ h) (Zx.same e r)
 |_,_,.lst h r=>.lst (e _ _ h) (Zx.same e r)
def Zx.same {H H':Hp}(e:zq H H'):∀{vs:List V}{ds:List PyData},Zx H vs ds->Zx H' vs ds
 |_,_,.nil=>.nil
 |_,_,.cons h t=>.cons (RdD.same e h) (Zx.same e t)
end
def szl {n:Nat}(h:n<=1000):n<=sizeLine:=Yq (vJ h)
inductive Bx (p:Prop):Prop
 |mk (h:p):Bx p
section
variable {X:Cx}
theorem Ql {st:Stmt}{rest:List Stmt}{t u:TS}(h1:Bx (PS X st t)) (h2:Bx (PSs X rest u)):Bx (PSs X (st::rest) (zbt t u)):=by
 obtain⟨h1⟩:=h1;obtain⟨h2⟩:=h2;exact⟨ze h1 h2⟩
end
section
variable {P:Program}{w:World}{K:Fg}{mg:Str->Option Value}{base:Heap}
theorem Df.calB {x:Str}{st:Stmt}{N ps:List Str}{dvs:List V}{k:Nat}{sp:Sp}(D:Df K mg x st ps dvs) (S:zC N ps (zi st)) (len:∀vs H Q E,sp vs H Q E->vs.length=ps.length)
  (F:∀(f:Addr) (cdv:Value) (A:Around) (outer:List Env) (s:Shared) (H:Hp) (vs:List V) (Q:VK) (E:XK),xc k (A.deeper (envOfC x (zi st) s.heap.objs.size f cdv))->sp vs H Q E →
   ∃t,Bx (PSs (xh CX0 P w K mg base N x (zi st) f cdv A outer s H E).nox (xb st) t)/\t { nx:=λ_ H'=>Q .non H',rt:=Q } (vV N vs) H):⇑3 x (k+1) ps dvs sp :=
 D.cal S len λf cdv A outer s H vs Q E hr h=>by
  obtain⟨t,⟨p⟩,q⟩:=F f cdv A outer s H vs Q E hr h
  exact⟨t,p,q⟩
theorem Df.calBq {x:Str}{st:Stmt}{N ps:List Str}{dvs:List V}{k:Nat}{sp:Sp}(D:Df K mg x st ps dvs) (S:zC N ps (zi st))
  (F:∀(f:Addr) (cdv:Value) (A:Around) (outer:List Env) (s:Shared) (H:Hp) (vs:List V) (Q:VK) (E:XK),xc k (A.deeper (envOfC x (zi st) s.heap.objs.size f cdv))->sp vs H Q E →
   ∃t,Bx (PSs (xh CX0 P w K mg base N x (zi st) f cdv A outer s H E).nox (xb st) t)/\t { nx:=λ_ H'=>Q .non H',rt:=Q } (vV N vs) H) (len:∀vs H Q E,sp vs H Q E->vs.length=ps.length:=by intro _ _ _ _ h;repeat (first | (cases h;subst_vars;rfl) | (obtain⟨rfl,_⟩:=h;rfl) | (obtain⟨_,h⟩:=h))):⇑3 x (k+1) ps dvs sp:=D.calB S len F
end
abbrev zkl:List Value:=[.type "ValueError",.type "Exception",.type "BaseException",.type "object"]
open PySem.W
def xA (H H':Hp):Prop:=∀b xs,H b=some (.tup xs)->H' b=some (.tup xs)
def xA.of {H H':Hp}(h:zq H H'):xA H H':=λb xs e=>h b _ e
def xA.trans {H H1 H2:Hp}(a:xA H H1) (b:xA H1 H2):xA H H2:=λc xs e=>b c xs (a c xs e)
def xA.upd {H:Hp}{D:Addr}{ys:List V}{o:HO}(h:H D=some (.lst ys)):xA H (upd H D o):=λb xs e=>by rw[zV (λz=>by subst z;rw[h]at e;cases e)];exact e
structure zbF (J:It) (H:Hp) (xs:List V):Prop where
 go:∀i H',i<xs.length->zq H H'->J.go i H'
 stop:∀H',zq H H'->J.stop xs.length H'
 yld:∀i x H2 H3,zq H H2->J.yld i H2 x H3->H3=H2/\xs[i]?=some x
def xq {K:Fg}{H:Hp}{a:Addr}{xs:List V}(h:H a=some (.lst xs)):zbF (Itl K a) H xs :=
 ⟨λi H' hi s=>⟨xs,xs[i],.of (s _ _ h),by simp[hi]⟩,λH' s=>⟨xs,.of (s _ _ h),wn _⟩,λi x H2 F s y=>⟨y.1,y.2 xs (.of (s _ _ h))⟩⟩
def V5 {K:Fg}{H:Hp}{a:Addr}{xs:List V}(h:H a=some (.tup xs)):zbF (Itt K a) H xs :=
 ⟨λi H' hi s=>⟨xs,xs[i],.of (s _ _ h),by simp[hi]⟩,λH' s=>⟨xs,.of (s _ _ h),wn _⟩,λi x H2 F s y=>⟨y.1,y.2 xs (.of (s _ _ h))⟩⟩
section
variable {J:It}{D:Addr}{n:Nat}{js:List Nat}{σ:St}{g:TG}{te:TE}{Z:Hp->Prop}{H:Hp}{xs:List V}
theorem Zk (R:Nat->V->Hp->Prop) (hR:∀i v H H',xA H H'->R i v H->R i v H') (hD:H D=none) (hJ:zbF J H xs) (hl:xs.length<sizeLine)
  (hs:∀i x zs H2 Q',xs[i]?=some x->zs.length=n->zq H H2->(∀v F,zq H2 F->R i v F->Q' v F)->g x zs H2 λU Y=>te U Y Q')
  (k:∀ys H',zq H H'->H' D=some (.lst ys)->ys.length=xs.length->(∀i v,ys[i]?=some v->R i v H')->Z H') :
  ∃W:Nat->Nat->Hp->List V->Prop,(∃m,W 0 m (upd H D (.lst [])) [])/\∀i m H2 ys,W i m H2 ys->H2 D=some (.lst ys)->(J.stop i H2/\Z H2) ∨
   (J.go i H2/\∀σB x I,σB.length=n->J.yld i H2 x I->g x σB I λU Y=>(λ_ H Q=>Q true H:TT) U Y λb H5=>if b=true then te U H5 (λv F=>F D=some (.lst ys)/\ys.length<sizeLine/\∃G,G<m/\W (i+1) G (upd F D (.lst (ys++[v]))) (ys++[v]))
    else H5 D=some (.lst ys)/\∃G,G<m/\W (i+1) G H5 ys):=by
 refine Vn (Q:=λ_ H=>Z H) (tt:=λ_ H Q=>Q true H) (N:=xs.length) (λi H2 ys=>zq H H2/\ys.length=i/\∀j v,ys[j]?=some v->R j v H2) ⟨zq.upd hD,rfl,λj v e=>by simp at e⟩ (λi H2 ys hi p=>hJ.go i H2 hi p.1) (λH2 ys p=>hJ.stop H2 p.1) ?_ (λH2 ys p e=>k ys H2 p.1 e p.2.1 p.2.2)
 rintro i x zs H2 I ys Nx hN hi hz hy ⟨s2,a2,a1⟩ O
 obtain⟨rfl,hx⟩:=hJ.yld i x H2 I s2 hy
 refine hs i x zs I _ hx hz s2 λv F S r6=>⟨S _ _ O,by lia,hN _ _ ⟨λc o e=>?_,by simp[a2],λj u e=>?_⟩⟩
 ·rw[zV (zZ e hD)];exact S _ _ (s2 _ _ e)
 ·have T6:xA F (upd F D (.lst (ys++[v]))):=.upd (S _ _ O)
  by_cases hj:j<ys.length
  ·rw[yd hj]at e
   exact hR _ _ _ _ ((xA.of S).trans T6) (a1 j u e)
  ·rw[wV ∅]at e
   have:j-ys.length=0:=by
    rcases yW (j-ys.length)with z | z
    ·exact z
    ·rw[yH (by simp;lia)]at e;cases e
   rw[this]at e
   simp at e
   subst e
   rw[show j=i by lia]
   exact hR _ _ _ _ T6 r6
theorem xI (R:Nat->V->Hp->Prop) (hR:∀i v H H',xA H H'->R i v H->R i v H') (hD:H D=none) (hJ:zbF J H xs) (hl:xs.length<sizeLine)
  (hs:∀i x zs H2 Q',xs[i]?=some x->zs.length=n->zq H H2->(∀v F,zq H2 F->R i v F->Q' v F)->g x (zs++qF σ js) H2 λG Y=>G.drop n=qF σ js/\te G Y Q')
  (k:∀ys H',zq H H'->H' D=some (.lst ys)->ys.length=xs.length->(∀i v,ys[i]?=some v->R i v H')->Z H') :
  ∃W:Nat->Nat->Hp->List V->Prop,(∃m,W 0 m (upd H D (.lst [])) [])/\∀i m H2 ys,W i m H2 ys->H2 D=some (.lst ys)->(J.stop i H2/\Z H2) ∨
   (J.go i H2/\∀zs x O,zs.length=n->J.yld i H2 x O->g x (zs++qF σ js) O λG Y=>G.drop n=qF σ js/\(λ_ H Q=>Q true H:TT) G Y λb H5=>if b=true then te G H5 (λv F=>F D=some (.lst ys)/\ys.length<sizeLine/\∃I,I<m/\W (i+1) I (upd F D (.lst (ys++[v]))) (ys++[v]))
    else H5 D=some (.lst ys)/\∃I,I<m/\W (i+1) I H5 ys):=by
 refine ZZ (Q:=λ_ H=>Z H) (tt:=λ_ H Q=>Q true H) (N:=xs.length) (λi H2 ys=>zq H H2/\ys.length=i/\∀j v,ys[j]?=some v->R j v H2) ⟨zq.upd hD,rfl,λj v e=>by simp at e⟩ (λi H2 ys hi p=>hJ.go i H2 hi p.1) (λH2 ys p=>hJ.stop H2 p.1) ?_ (λH2 ys p e=>k ys H2 p.1 e p.2.1 p.2.2)
 rintro i x zs H2 O ys Nx hN hi hz hy ⟨s2,a2,a1⟩ S
 obtain⟨rfl,hx⟩:=hJ.yld i x H2 O s2 hy
 refine hs i x zs O _ hx hz s2 λv F U r6=>⟨U _ _ S,by lia,hN _ _ ⟨λc o e=>?_,by simp[a2],λj u e=>?_⟩⟩
 ·rw[zV (zZ e hD)];exact U _ _ (s2 _ _ e)
 ·have T6:xA F (upd F D (.lst (ys++[v]))):=.upd (U _ _ S)
  by_cases hj:j<ys.length
  ·rw[yd hj]at e
   exact hR _ _ _ _ ((xA.of U).trans T6) (a1 j u e)
  ·rw[wV ∅]at e
   have:j-ys.length=0:=by
    rcases yW (j-ys.length)with z | z
    ·exact z
    ·rw[yH (by simp;lia)]at e;cases e
   rw[this]at e
   simp at e
   subst e
   rw[show j=i by lia]
   exact hR _ _ _ _ T6 r6
end
section
variable {J:It}{D:Addr}{n:Nat}{σ:St}{g:TG}{tt:TT}{te:TE}{Z:Hp->Prop}{H:Hp}{xs:List V}
theorem zep (p:V->Bool) (hD:H D=none) (Y:zbF J H xs) (hl:xs.length<sizeLine)
  (hs:∀(i:Nat) (x:V) (zs:St) (H2:Hp) (A:VK) (B:Hp->Prop),xs[i]?=some x->zs.length=n->zq H H2->(p x=true->A x H2)->(p x=false->B H2)->g x zs H2 λS H4=>tt S H4 λb F=>if b=true then te S F A else B F)
  (k:∀H',zq H H'->H' D=some (.lst (xs.filter p))->Z H') :
  ∃W:Nat->Nat->Hp->List V->Prop,(∃m,W 0 m (upd H D (.lst [])) [])/\∀i m H2 ys,W i m H2 ys->H2 D=some (.lst ys)->(J.stop i H2/\Z H2) ∨
   (J.go i H2/\∀σB x G,σB.length=n->J.yld i H2 x G->g x σB G λS H4=>tt S H4 λb F=>if b=true then te S F (λv H6=>H6 D=some (.lst ys)/\ys.length<sizeLine/\∃O,O<m/\W (i+1) O (upd H6 D (.lst (ys++[v]))) (ys++[v]))
    else F D=some (.lst ys)/\∃O,O<m/\W (i+1) O F ys):=by
 refine Vn (Q:=λ_ H=>Z H) (tt:=tt) (N:=xs.length) (λi H2 ys=>zq H H2/\ys=(xs.take i).filter p) ⟨zq.upd hD,rfl⟩ (λi H2 ys hi p=>Y.go i H2 hi p.1) (λH2 ys p=>Y.stop H2 p.1) ?_ (λH2 ys q e=>k H2 q.1 (by rw[e,q.2,yr]))
 rintro i x zs H2 G ys Nx hN hi hz hy ⟨U,rfl⟩ I
 obtain⟨rfl,hx⟩:=Y.yld i x H2 G U hy
 have et:xs.take (i+1)=xs.take i++[x]:=by rw[yC,hx];rfl
 refine hs i x zs G _ _ hx hz U (λhp=>⟨I,?_,hN _ _ ⟨λc o e=>?_,?_⟩⟩) (λhp=>⟨I,hN _ _ ⟨U,?_⟩⟩)
 ·have:=uT p (xs.take i)
  have:=List.length_take_le i xs
  lia
 ·rw[zV (zZ e hD)];exact U _ _ e
 ·rw[et,ut];simp[hp]
 ·rw[et,ut];simp[hp]
end
end L2
namespace KM
def zbN (x s:Rat):(0:Int)<(x.den:Int)*s.den:=wP (den_pos x) (den_pos s)
def zbG (x:Rat){d:Int}(hd:d≠0):x=Rat.divInt (x.num*d) (x.den*d):=by rw[u7 hd,wY]
def xK {a b d:Int}(hd:0<d):Rat.divInt a d<Rat.divInt b d↔a<b:=by
 rw[wN,wN]
 have h:(0:Rat)<d:=wv.mpr hd
 rw[Rat.div_lt_iff h,uG (by grind)];exact yY
def VM {a b d:Int}(hd:d≠0):Rat.divInt a d-Rat.divInt b d=Rat.divInt (a-b) d:=by
 rw[Rat.divInt_sub_divInt _ _ hd hd,<-Int.sub_mul,u7 hd]
def qJ (d:Int):Rat.divInt 0 d=0:=by simp
def qh {a d:Int}(hd:0<d):0<Rat.divInt a d↔0<a:=by
 have:=xK (a:=0) (b:=a) hd
 rw[qJ]at this;exact this
def Xl {a d:Int}(hd:0<d) (h:0<=a):0<=Rat.divInt a d:=by
 have:=xK (a:=a) (b:=0) hd
 rw[qJ]at this
 rw[<-Rat.not_lt,this];lia
def rst (x s:Rat):Rat:=Rat.divInt ((x.num*s.den) % (s.num*x.den)) (x.den*s.den)
section
variable {x s:Rat}
theorem zfE (hs:0<s.num):0<s.num*(x.den:Int):=wP hs (den_pos x)
theorem zlh (x s:Rat):s=Rat.divInt (s.num*x.den) (x.den*s.den):=by rw[yX (x.den:Int)];exact zbG s (qI x)
theorem ve (hs:0<s.num):0<=rst x s:=Xl (zbN x s) (yD _ (by have:=zfE (x:=x) hs;lia))
theorem qM (hs:0<s.num):rst x s<s:=by
 have h:rst x s<Rat.divInt (s.num*x.den) (x.den*s.den):=(xK (zbN x s)).mpr (yE _ (zfE hs))
 rw[<-zlh]at h;exact h
theorem zfF {r:Rat}(F:0<=r) (h1:r<s):rst r s=r:=by
 have h2:=(vv r s).mpr h1
 have G:0<=r.num:=Y6.mpr F
 unfold rst
 rw[Int.emod_eq_of_lt (Wk G (yM (den_pos s))) h2]
 exact(zbG r (qI s)).symm
theorem zbh (hs:0<s.num):x-rst x s=(((x.num*s.den)/(s.num*x.den):Int):Rat)*s:=by
 have G:=zfE (x:=x) hs
 have e1:x-rst x s=Rat.divInt (x.num*s.den-(x.num*s.den) % (s.num*x.den)) (x.den*s.den):=by
  have:=VM (a:=x.num*s.den) (b:=(x.num*s.den) % (s.num*x.den)) (yt (zbN x s))
  rw[<-zbG x (qI s)]at this;exact this
 have e2:x.num*s.den-(x.num*s.den) % (s.num*x.den)=((x.num*s.den)/(s.num*x.den))*(s.num*x.den):=by
  have:=uU (x.num*s.den) (s.num*x.den)
  rw[yX (x.num*s.den/(s.num*x.den))];lia
 rw[e1,e2]
 have F:(((x.num*s.den)/(s.num*x.den):Int):Rat)*s=Rat.divInt ((x.num*s.den)/(s.num*x.den)) 1*Rat.divInt (s.num*x.den) (x.den*s.den):=by
  rw[<-zlh,zff]
 rw[F,yG,uY]
end
end KM
namespace L2
open PySem PySem.Spec PyProof.Rows
section
variable {κ:Type} [DecidableEq κ]
def ZT (kvs:List (κ×V)) (k:κ):Option V:=(kvs.find? λkv=>decide (kv.1=k)).map (·.2)
def zbc (kvs:List (κ×V)) (k:κ) (v:V):List (κ×V) :=
 if(kvs.any λkv=>decide (kv.1=k))=true then kvs.map (λkv=>if kv.1=k then(kv.1,v)else kv)else kvs++[(k,v)]
theorem QG {p:κ×V}{r:List (κ×V)}{k:κ}(e:p.1=k):ZT (p::r) k=some p.2:=by simp[ZT,uN,e]
theorem QF {p:κ×V}{r:List (κ×V)}{k:κ}(e:¬p.1=k):ZT (p::r) k=ZT r k:=by simp[ZT,uN,e]
theorem zbA (k:κ):∀kvs:List (κ×V),(kvs.any λF=>decide (F.1=k))=(ZT kvs k).isSome
 |[]=>rfl
 |p::r=>by
  rw[Yc]
  by_cases e:p.1=k
  ·simp only[QG e,wm e,Bool.true_or,Option.isSome_some]
  ·rw[QF e,wx e,YL];exact zbA k r
theorem zaY (kvs:List (κ×V)) (k:κ) (v:V):(zbc kvs k v).length<=kvs.length+1:=by
 unfold zbc
 split
 ·rw[wc];lia
 ·rw[wX,wB,YW];lia
theorem KV.val {kvs:List (κ×V)}{vs:List (κ×Value)} (r:KV kvs vs) (k:κ):VF (ZT kvs k) (valueAt vs k):=by
 unfold KV at r
 induction r with
 |nil=>exact True.intro
 |@cons p q ps qs h t ih =>
  obtain⟨h1,h2⟩:=h
  by_cases e:p.1=k
  ·have F:q.1=k:=h1.symm.trans e
   have b:valueAt (q::qs) k=some q.2:=by simp[valueAt,uN,F]
   rw[QG e,b];exact h2
  ·have F:¬q.1=k:=λz=>e (h1.trans z)
   have b:valueAt (q::qs) k=valueAt qs k:=by simp[valueAt,uN,F]
   rw[QF e,b];exact ih
theorem KV.any {kvs:List (κ×V)}{vs:List (κ×Value)} (r:KV kvs vs) (k:κ):(kvs.any λF=>decide (F.1=k))=vs.any λF=>decide (F.1=k):=by
 unfold KV at r
 induction r with
 |nil=>rfl
 |cons h t ih=>rw[Yc,Yc,ih,h.1]
theorem KV.repl {kvs:List (κ×V)}{vs:List (κ×Value)} (r:KV kvs vs) (k:κ){y:V}{u:Value}(G:xn y u) :
  KV (kvs.map λF=>if F.1=k then(F.1,y)else F) (vs.map λF=>if F.1=k then(F.1,u)else F):=by
 unfold KV at r ⊢
 induction r with
 |nil=>exact .nil
 |@cons p q ps qs h t ih =>
  rw[yn,yn]
  refine .cons ?_ ih
  obtain⟨h1,h2⟩:=h
  by_cases e:p.1=k
  ·rw[if_pos e,if_pos (h1.symm.trans e)];exact⟨h1,G⟩
  ·rw[if_neg e,if_neg (λz=>e (h1.trans z))];exact⟨h1,h2⟩
theorem KV.put {kvs:List (κ×V)}{vs:List (κ×Value)} (r:KV kvs vs) (k:κ){y:V}{u:Value}(F:xn y u):KV (zbc kvs k y) (stored vs k u):=by
 unfold zbc stored
 rw[r.any k]
 by_cases e:(vs.any λG=>decide (G.1=k))=true
 ·rw[if_pos e,if_pos e];exact r.repl k F
 ·rw[if_neg e,if_neg e];exact Paired.snoc r ⟨rfl,F⟩
theorem KV.keys {kvs:List (κ×V)}{vs:List (κ×Value)} (r:KV kvs vs):kvs.map (·.1)=vs.map (·.1):=by
 unfold KV at r
 induction r with
 |nil=>rfl
 |cons h t ih=>rw[yn,yn,ih,h.1]
theorem KV.length {kvs:List (κ×V)}{vs:List (κ×Value)} (r:KV kvs vs):kvs.length=vs.length:=Paired.length r
end
def zeV {P:Program}{w:World}{k:Key}{u:Value}(r:xn (kV k) u):(qf P w).is k u=true:=by
 cases k with
 |inl i=>obtain⟨t,e⟩:=(show ∃t,u=Value.int i t from r);subst e;exact za2 P w i t
 |inr x=>obtain⟨t,e⟩:=(show ∃t,u=Value.str x t from r);subst e;exact za3 P w x t
def JB {P:Program}{w:World}:∀{ks:List Key}{us:List Value},xa (ks.map kV) us->ItemsAre (qf P w) ks us
 |[],_,r=>by rw[YV]at r;cases r;exact .nil
 |k::ks,_,r=>by
  rw[yn]at r
  cases r with
  |cons h t=>exact .cons (zeV h) (JB t)
abbrev KT (H:Hp):List (List Key×V)->List (List Key×Addr×Value)->Prop:=Paired λp q=>p.1=q.1/\H q.2.1=some (.tup (p.1.map kV))/\xn p.2 q.2.2
def KT.val {H:Hp}{kvs:List (List Key×V)}{xs:List (List Key×Addr×Value)} (r:KT H kvs xs) (k:List Key):VF (ZT kvs k) ((atKey xs k).map (·.2)):=by
 induction r with
 |nil=>exact True.intro
 |@cons p q ps qs h t ih =>
  obtain⟨h1,_,h2⟩:=h
  by_cases e:p.1=k
  ·have F:q.1=k:=h1.symm.trans e
   have b:atKey (q::qs) k=some q.2:=by simp[atKey,uN,F]
   rw[QG e,b];exact h2
  ·have F:¬q.1=k:=λz=>e (h1.trans z)
   have b:atKey (q::qs) k=atKey qs k:=by simp[atKey,uN,F]
   rw[QF e,b];exact ih
section
variable {P:Program}{w:World}{H:Hp}{h:Heap}{a:Addr}
theorem zil {u:HO}(ok:HOk P w H h) (e:Rd H a u):xJ P w H h a u:=e.ok ok
theorem zet {kvs:List (Key×V)} (ok:HOk P w H h) (e:Rd H a (.dK kvs)):kvs.length<=sizeLine/\(a == sysModules)=false/\∃vs,KV kvs vs/\h.DictOf (qf P w) a vs :=
 show xJ P w H h a (.dK kvs)from zil ok e
theorem zes {kvs:List (Key×V)} (ok:HOk P w H h) (e:H a=some (.dK kvs)):kvs.length<=sizeLine/\(a == sysModules)=false/\∃vs,KV kvs vs/\h.DictOf (qf P w) a vs:=zet ok (.inl e)
theorem zeW {ks:List Key}(ok:HOk P w H h) (e:H a=some (.tup (ks.map kV))):(tupleKind (qf P w)).is h ks a:=by
 obtain⟨_,F,r,o,h1,h2,n,G⟩:=(show xJ P w H h a (.tup (ks.map kV))from ok a _ e)
 exact⟨o,F.toArray,n,h1,h2,G,by simpa using JB r⟩
theorem zh5 {kvs:List (List Key×V)} (ok:HOk P w H h) (e:Rd H a (.dT kvs)):kvs.length<=sizeLine/\(a == sysModules)=false ∧
  ∃xs,KT H kvs xs/\h.DictOfH (tupleKind (qf P w)) a xs:=by
 obtain⟨z,y,xs,r,o,es,ep,h1,h2,G,I,O⟩:=(show xJ P w H h a (.dT kvs)from zil ok e)
 refine⟨z,y,xs,r,o,es,ep,h1,h2,G,I,λx F=>?_,O⟩
 have all:∀{l:List (List Key×V)}{m:List (List Key×Addr×Value)},KT H l m->∀x∈m,(tupleKind (qf P w)).is h x.1 x.2.1:=by
  intro l m q
  induction q with
  |nil=>intro x F;exact nomatch F
  |@cons p q ps qs hq t ih =>
   intro x F
   rcases wu.mp F with e | F
   ·subst e
    exact zeW ok (by rw[<-hq.1];exact hq.2.1)
   ·exact ih x F
 exact all r x F
end
def zbD (H:Hp) (a:Addr) (y:V) (r:Option V):Prop :=
 (∃kvs k,Rd H a (.dK kvs)/\y=kV k/\r=ZT kvs k)\/∃kvs k b,Rd H a (.dT kvs)/\y=.ref b/\H b=some (.tup (k.map kV))/\r=ZT kvs k
def zbD.k {H:Hp}{a:Addr}{kvs:List (Key×V)}{k:Key}(e:H a=some (.dK kvs)):zbD H a (kV k) (ZT kvs k):=.inl ⟨kvs,k,.inl e,rfl,rfl⟩
section
variable {X:Cx}{pz:List (Addr×Obj)}{σ:St}{H:Hp}{s:Shared}{a:Addr}{y v:V}{u r:Value}{o:Option V}{A:Around}{E:Value->Shared->Prop}
theorem Inv.big (I:Inv X pz σ H s):sysModules<s.heap.objs.size:=by
 have h:mainGlobals<s.heap.objs.size:=(I.mod.glob.keeps I.bk).lt
 exact Nat.lt_trans ⇑1 h
theorem zds {Q:Value->Shared->Prop}(hu:A.units+1<cLine) (I:Inv X pz σ H s) (g:zbD H a y (some v)) (V:xn y u) (h:∀O s',Inv X pz σ H s'->xn v O->Q O s') :
  wpAny (model X.prog X.w) A (getItem (.ref a) u) Q E s:=by
 rcases g with⟨kvs,k,e,U,l⟩ | ⟨kvs,k,b,e,U,W,l⟩
 ·subst U
  obtain⟨z,hd,vs,G,dd⟩:=zet I.hok e
  obtain⟨O,hw,F⟩:=VF.some_of (v:=v) (o:=valueAt vs k) (by rw[l];exact G.val k)
  exact wpAny_getItem_of (zeV V) dd.mapOf hw (h O _ (I.tok _) F)
 ·subst U
  cases(show u=Value.ref b from V)
  obtain⟨z,hd,xs,G,dd⟩:=zh5 I.hok e
  obtain⟨O,hw,F⟩:=VF.some_of (v:=v) (o:=(atKey xs k).map (·.2)) (by rw[l];exact G.val k)
  obtain⟨p,Y,S⟩:=Option.map_eq_some_iff.mp hw
  refine wpAny_getItem_heap (tupleKind_room_in1 hu) (zeW I.hok W) dd Y ?_
  rw[S]
  exact h O _ (I.tok _) F
theorem zgF {h':Heap}{G:Nat}{F:HO}(I:Inv X pz σ H s) (S:Mut (H a)) (hs:Heap.SameBut a s.heap h') (O:∃q,h'.get? a=some q) (new:xJ X.prog X.w (upd H a F) h' a F) :
  Inv X pz σ (upd H a F) { s with heap:=h',toks:=G } :=
 I.write (x:=a) (e:=a) S (.inl rfl) (λb q U z=>(hs.2 b U).trans z) O new
theorem zbO {P:Program}{w:World}{H':Hp}{h':Heap}{kvs:List (Key×V)}{vs:List (Key×Value)} (z:kvs.length<=sizeLine) (hd:(a == sysModules)=false) (F:KV kvs vs) (dd:h'.DictOf (qf P w) a vs) :
  xJ P w H' h' a (.dK kvs):=⟨z,hd,vs,F,dd⟩
end
def zkr (i:Expr):Prop:=∀ov iv,subscripted i false ov iv=operate [ov,iv] (getItem ov iv)
def zhR {prog:Program}{w:World}{A:Around}{E:Value->Shared->Prop}{s:Shared}{env:Env}{value F:Expr}{pos:Pos}{T id:String}{Q:Value->Shared->Prop}
  (hl:typeLookup (.type T) "__getitem__" = pure (some (.builtin id))) (hs:zkr F)
  (h:wpAny (model prog w) A (eval value env) (λo U=>wpAny (model prog w) A (eval F env) (λi I=>I.TypeIs o T/\wpAny (model prog w) A (getItem o i) Q E I) E U) E s) :
  wpAny (model prog w) A (eval (.Subscript value F pos) env) Q E s:=by
 refine Subscript_ (uo h (λo U W=>uo W (λi I O=>?_) λ_ _ x=>x) λ_ _ x=>x)
 obtain⟨S,O⟩:=O
 unfold subscriptTail
 refine we ?_
 rw[getitemInPython_of_ne S.not_modules]
 refine we (wpAny_specialOf S hl ?_)
 have G:wpAny (model prog w) A (subscripted F false o i) (λr V=>wpAny (model prog w) A (letTemporaryGo value o r >>= λ_=>pure r) Q E V) E I:=by
  rw[hs o i]
  exact wpAny_operating (uo O (λr V Y=>we (wpAny_letTemporaryGo (wq Y))) λ_ _ x=>x)
 first
  |exact wq (we G)
  |exact we (wq (we G))
  |exact we G
def zaM {X:Cx}{pz:List (Addr×Obj)}{σ:St}{H:Hp}{s:Shared}{a:Addr}{y:V}{o:Option V}(I:Inv X pz σ H s) (g:zbD H a y o):s.TypeIs (.ref a) "dict":=by
 rcases g with⟨kvs,k,e,_,_⟩ | ⟨kvs,k,b,e,_,_,_⟩
 ·obtain⟨_,_,vs,_,dd⟩:=zet I.hok e
  exact dd.typeIs
 ·obtain⟨_,_,xs,_,dd⟩:=zh5 I.hok e
  exact dd.typeIs
inductive zgd (Q:VK) (x:V) (y:V) (H2:Hp):Prop
 |mk:∀a v,(x=.ref a)->(zbD H2 a y (some v))->(Q v H2)->zgd Q x y H2
def zls (td ty:TE):TE:=λσ H Q=>td σ H λx H1=>ty σ H1 λy H2=>zgd Q x y H2
section
variable {X:Cx}{o i e value:Expr}{pos pos' tpos:Pos}{td ty tv:TE}
theorem zhp (O:X.A.units+1<cLine) (U:PE X o td) (hi:PE X i ty) (hs:zkr i):PE X (.Subscript o i pos) (zls td ty):=by
 intro pz s σ H Q I h
 refine zhR PySem.F.slot_dict_getitem.lookup hs (thn (U pz s σ H _ I h) λu S ⟨x,H1,I1,rx,q1⟩=>thn (hi pz S σ H1 _ I1 q1) λW Y ⟨y,H2,I2,ry,a,v,ex,g,q2⟩=>?_)
 subst ex
 obtain rfl:u=Value.ref a:=rx
 exact⟨zaM I2 g,zds O I2 g ry λw' s3 V G=>⟨v,H2,V,G,q2⟩⟩
end
def zer {P:Program}{w:World}{H:Hp}(h:Heap) (F:sysModules<h.objs.size):xJ P w H (h.push { cls:=.type "dict",data:=.dict #[] }) h.objs.size (.dK []) :=
 ⟨yb _,beq_eq_false_iff_ne.mpr (Ne.symm (wW F)),[],.nil,Heap.DictOf.new h⟩
def zka:TE:=λ_ H Q=>∀p,H p=none->Q (.ref p) (upd H p (.dK []))
section
variable {X:Cx}{pos:Pos}
theorem zfo:PE X (.Dict [] [] pos) zka:=λpz s σ H Q I h =>
 wpAny_Dict_empty ⟨.ref s.heap.objs.size,_,I.laid (a:=s.heap.objs.size) (o:=.dK []) (t':=s.toks) (λ_ _ q=>wg _ q) (wn _) (zer s.heap I.big),rfl,h _ (I.hok.fresh (wn _))⟩
end
end L2
namespace Att
open PySem PySem.W PySem.Calls PyProof.Rows
end Att
namespace L2
open PySem PySem.Spec PyProof.Rows
open PySem.W
def zkn {α:Type}{M:Model}{c:Code}{t:Sem α}{Q:α->Prop}{p:Pos}{s:Shared}(h1:Sem.wp M (Ctx.of c []) t (λa _ _=>Q a) (λ_ _ _=>False) p s) (h2:Sem.wp M (Ctx.of c []) t (λa _ _=>¬Q a) (λ_ _ _=>False) p s):False:=by
 classical
 let f:α->Sem PySem.Fin:=λa=>if Q a then pure (.done (.ret .none))else throw Value.none
 have G:Sem.wp M (Ctx.of c []) (t >>= f) (Sem.finPost M (Ctx.of c []) λr _=>∃z,r=.ok z) (λe _ s'=>(λ(r:Result) (_:Shared)=>∃z,r=.ok z) (.error e) s') p s:=by
  rw[Sem.wp_bind']
  refine Sem.wp_mono M _ t (λa I s' q=>?_) (λ_ _ _ q=>q.elim) p s h1
  show Sem.wp M _ (if Q a then pure (PySem.Fin.done (.ret .none))else throw Value.none:Sem PySem.Fin) _ _ _ _
  rw[if_pos q]
  exact⟨_,rL⟩
 have F:Sem.wp M (Ctx.of c []) (t >>= f) (Sem.finPost M (Ctx.of c []) λr _=>∃z,r=.error z) (λe _ s'=>(λ(r:Result) (_:Shared)=>∃z,r=.error z) (.error e) s') p s:=by
  rw[Sem.wp_bind']
  refine Sem.wp_mono M _ t (λa I s' q=>?_) (λ_ _ _ q=>q.elim) p s h2
  show Sem.wp M _ (if Q a then pure (PySem.Fin.done (.ret .none))else throw Value.none:Sem PySem.Fin) _ _ _ _
  rw[if_neg q]
  exact⟨_,rL⟩
 obtain⟨W,s1,O,V,e1⟩:=(wp_iff_reach _ _ p s).mp G
 obtain⟨U,Y,S,z2,e2⟩:=(wp_iff_reach _ _ p s).mp F
 obtain⟨_,e⟩:=Reach.det O S
 subst e1;subst e2
 cases e
def zbi {α:Type}(lt:Nat->Nat->Bool):KasT α->α
 |.ret a=>a
 |.ask i j k=>zbi lt (k (lt i j))
def TOk {α:Type}(n:Nat) (R:α->Prop):KasT α->Prop
 |.ret a=>R a
 |.ask i j k=>i<n/\j<n/\∀b,TOk n R (k b)
def TOk.bind {α β:Type}{n:Nat}{R:α->Prop}{F:β->Prop}{f:α->KasT β}(G:∀a,R a->TOk n F (f a)):∀t:KasT α,TOk n R t->TOk n F (t.bind f)
 |.ret a,h=>G a h
 |.ask i j k,h=>⟨h.1,h.2.1,λb=>TOk.bind G (k b) (h.2.2 b)⟩
def TOk.run {α:Type}{n:Nat}{R:α->Prop}{lt:Nat->Nat->Bool}:∀t:KasT α,TOk n R t->R (zbi lt t)
 |.ret a,h=>h
 |.ask i j k,h=>TOk.run (k (lt i j)) (h.2.2 _)
def TOk.wp {α:Type}{n:Nat}{R:α->Prop}{lt:Nat->Nat->Bool}{F:Nat->Nat->(Bool->Shared->Prop)->Shared->Prop}{s:Shared}(G:∀i j C,i<n->j<n->C (lt i j) s->F i j C s){Q:α->Shared->Prop}:∀t:KasT α,TOk n R t->Q (zbi lt t) s->t.kasWp F Q s
 |.ret a,h,q=>q
 |.ask i j k,h,q=>G i j _ h.1 h.2.1 (TOk.wp G (k (lt i j)) (h.2.2 _) q)
def Bel (n:Nat) (p:Array Nat):Prop:=0<n/\∀x∈p.toList,x<n
def Bel.at {n:Nat}{p:Array Nat}(h:Bel n p) (k:Nat):p.getD k 0<n:=by
 unfold Array.getD
 split
 ·exact h.2 _ (by simp)
 ·exact h.1
def Bel.perm {n:Nat}{p q:Array Nat}(h:Bel n p) (e:q.Perm p):Bel n q:=⟨h.1,λx m=>h.2 x ((uO.mp e).mem_iff.mp m)⟩
def Bel.rev {n:Nat}{p:Array Nat}(h:Bel n p) (i j:Nat):Bel n (kas_rev p i j):=h.perm (mirror_perm _ _ _ _)
def zaD {n:Nat}{p:Array Nat}(h:Bel n p):∀f k,TOk n (λ_=>True) (kas_asc p f k)
 |0,_=>trivial
 |f+1,k=>⟨h.at _,h.at _,λb=>by
  cases b with
  |true=>exact trivial
  |false=>exact zaD h f (k+1)⟩
def QE {n:Nat}:∀f p k q,Bel n p->TOk n (λr=>Bel n r.1) (kas_desc f p k q)
 |0,_,_,_,h=>h
 |f+1,p,k,q,h=>⟨h.at _,h.at _,λb=>by
  cases b with
  |true =>
   show TOk n _ (if q>0 then _ else _)
   by_cases hq:q>0
   ·rw[if_pos hq];exact QE f _ _ _ (h.rev _ _)
   ·rw[if_neg hq];exact QE f _ _ _ h
  |false =>
   refine⟨h.at _,h.at _,λd=>?_⟩
   cases d with
   |true=>exact h
   |false=>exact QE f _ _ _ h⟩
def JT {n k m:Nat}{p:Array Nat}(h:Bel n p):TOk n (λr=>Bel n r.2) (kas_tail3 k m p):=by
 refine TOk.bind (R:=λ_=>True) (λ_ _=>?_) _ (zaD (h.rev 0 k) _ _)
 exact h.rev 0 k
def zbv {n k m:Nat}{p:Array Nat}(h:Bel n p):TOk n (λr=>Bel n r.2) (kas_descPart k m p):=by
 refine TOk.bind (λr hr=>?_) _ (QE _ _ _ _ h)
 by_cases hq:r.2.2>0
 ·rw[if_pos hq];exact JT (Bel.rev hr _ _)
 ·rw[if_neg hq];exact JT hr
def zd8 {n m:Nat}{p:Array Nat}(h:Bel n p):TOk n (λr=>Bel n r.2) (kas_count m p):=by
 refine TOk.bind (λk _=>?_) _ (zaD h _ _)
 by_cases e1:(k == m)=true
 ·rw[if_pos e1];exact h
 ·rw[if_neg e1]
  by_cases e2:k>1
  ·rw[if_pos e2]
   refine⟨h.at _,h.at _,λb=>?_⟩
   cases b with
   |true=>exact h
   |false=>exact zbv (h.rev 0 k)
  ·rw[if_neg e2];exact zbv h
def Ve {n k:Nat}{p:Array Nat}(h:Bel n p):∀f l r,TOk n (λ_=>True) (kas_place p k f l r)
 |0,_,_=>trivial
 |f+1,l,r=>by
  unfold kas_place
  by_cases e:l>=r
  ·rw[if_pos e];exact trivial
  ·rw[if_neg e]
   refine⟨h.at _,h.at _,λb=>?_⟩
   cases b with
   |true=>exact Ve h f _ _
   |false=>exact Ve h f _ _
def zde {n:Nat}:∀f p k,Bel n p->TOk n (Bel n) (kas_bin f p k)
 |0,_,_,h=>h
 |f+1,p,k,h=>TOk.bind (λl _=>zde f _ _ (h.perm (bubble_perm _ _ _))) _ (Ve h _ _ _)
def zbw {n:Nat}(h:0<n):TOk n (Bel n) (kas_sort n):=by
 have F:Bel n (List.toArray (List.range n)):=⟨h,λx m=>↥m⟩
 refine TOk.bind (λr hr=>?_) _ (zd8 F)
 by_cases e:r.1<n
 ·rw[if_pos e];exact zde _ _ _ hr
 ·rw[if_neg e];exact hr
def vc (r:Nat->Int) (n:Nat):Array Keyed:=((List.range n).map λi=>((.int (r i) 0,.int i 0):Keyed)).toArray
def vI (r:Nat->Int) (n:Nat):(vc r n).size=n:=by simp[vc]
def Vy {r:Nat->Int}{n i:Nat}(h:i<n):kas_item (vc r n) i=(.int (r i) 0,.int i 0):=by
 unfold kas_item Array.getD
 rw[dif_pos (by rw[vI];exact h)]
 simp[vc]
def zcf (prog:Program) (w:World) (s:Shared){n:Nat}(h2:2<=n) (S:n<64) (r:Nat->Int) (p:Array Nat) (hp:p=zbi (λi j=>decide (r i<r j)) (kas_sort n)) :
  p.toList.Perm (List.range n)/\(p.toList.map r).Pairwise (·<=·):=by
 have tk:=zbw (n:=n) ∅
 have Y:Bel n p:=hp ▸ TOk.run _ tk
 let V:Around:={ handled:=(Ctx.of default []).handled,depth:=frameCount (Ctx.of default []).below+(Ctx.of default []).code.weight,units:=(Ctx.of default []).units }
 have O:(Ctx.of default []).In V:=⟨rfl,wn _,(λl h=>by cases h),(λg h=>by cases h),wn _⟩
 have W:arrOf (kas_st oneType' (vc r n) (List.toArray (List.range n)))=vc r n:=by
  have e:=kas_range (vc r n)
  rw[vI]at e
  exact e
 have k1:kasC (model prog w) V (λ_ _=>False) sortRuns' (λ_ F _=>arrOf F=p.map (kas_item (vc r n))) (kas_st oneType' (vc r n) (List.toArray (List.range n))) s:=by
  refine kas_runs (G:=λp' _=>p'=p) h2 S (λp' F s' a1 a2 a3 a4=>by subst a4;exact a2) (TOk.wp (n:=n) (lt:=λi j=>decide (r i<r j)) (λi j C hi U hC=>?_) _ tk hp.symm)
  unfold kas_cmp
  rw[Vy hi,Vy U]
  exact kat_lt_int hC
 have k2:wpS (model prog w) V (λ_ _=>False) s sortRuns' (λ_ F=>(arrOf F).Perm (vc r n)/\SortedTo (arrOf F) (vc r n).size) (kas_st oneType' (vc r n) (List.toArray (List.range n))):=by
  refine wpS_sortRuns (a₀:=vc r n) (λq m=>?_) ⟨by rw[W],rfl,rfl,rfl⟩ (by rw[vI];exact h2) (by rw[vI];exact S) λF a1 _ a3=>⟨a1,a3⟩
  simp[vc]at m
  obtain⟨i,_,rfl⟩:=m
  exact⟨_,_,rL⟩
 have I:(p.map (kas_item (vc r n))).Perm (vc r n)/\SortedTo (p.map (kas_item (vc r n))) (vc r n).size:=by
  refine Classical.byContradiction λno=>?_
  refine zkn (M:=model prog w) (c:=default) (t:=sortRuns'.run (kas_st oneType' (vc r n) (List.toArray (List.range n)))) (Q:=λq=>(arrOf q.2).Perm (vc r n)/\SortedTo (arrOf q.2) (vc r n).size) (p:=default) (s:=s) ?_ ?_
  ·exact Sem.wp_mono _ _ _ (λa _ _ q=>q.2) (λ_ _ _ q=>q) _ _ (k2 _ default O)
  ·refine Sem.wp_mono _ _ _ (λa _ _ q=>?_) (λ_ _ _ q=>q) _ _ (k1 _ default O)
   rw[q];exact no
 have lt:∀i,(h:i<p.size)->p[i]<n:=λi h=>Y.2 _ (by simp)
 refine⟨?_,?_⟩
 ·have e:=(uO.mp I.1).map (λk:Keyed=>(numOf k.2).toNat)
  have e1:((p.map (kas_item (vc r n))).toList.map λk:Keyed=>(numOf k.2).toNat)=p.toList:=by
   rw[Array.toList_map,wG]
   conv=>rhs;rw[<-Uc p.toList]
   refine wy λi m=>?_
   show (numOf (kas_item (vc r n) i).2).toNat=i
   rw[Vy (Y.2 i m)]
   rfl
  have e2:((vc r n).toList.map λk:Keyed=>(numOf k.2).toNat)=List.range n:=by
   simp[vc,Function.comp_def,numOf]
  rw[e1,e2]at e
  exact e
 ·have hs:=I.2
  rw[vI]at hs
  have a6:p.size=n:=by
   have:=I.1.size_eq
   rw[Array.size_map,vI]at this
   exact this
  have hK:∀i (h:i<p.size),K (p.map (kas_item (vc r n))) i=r p[i]:=λi h=>by
   unfold K
   rw[Array.getElem?_map,wL h]
   show numOf (kas_item (vc r n) p[i]).1=_
   rw[Vy (lt i h)]
   rfl
  rw[uc]
  intro i j hi U a5
  simp only[wc,wO]at hi U
  have:=hs i j ∅ ∅
  rw[hK i hi,hK j U]at this
  simpa using this
def xZ:List Int->List Int->Bool
 |[],[]=>false
 |[],_::_=>true
 |_::_,[]=>false
 |a::x,b::y=>if a=b then xZ x y else decide (a<b)
def zaZ:∀x,xZ x x=false
 |[]=>rfl
 |a::x=>by rw[xZ,if_pos rfl];exact zaZ x
def XM:∀{x y z},xZ x y=true->xZ y z=true->xZ x z=true
 |[],[],_,h,_=>by simp[xZ]at h
 |[],_::_,[],_,h=>by simp[xZ]at h
 |[],_::_,_::_,_,_=>rfl
 |_::_,[],_,h,_=>by simp[xZ]at h
 |_::_,_::_,[],_,h=>by simp[xZ]at h
 |a::x,b::y,c::z,h1,h2=>by
  rw[xZ]at *
  by_cases e1:a=b
  ·subst e1
   by_cases e2:a=c
   ·subst e2
    simp only[if_true]at *
    exact XM h1 h2
   ·rw[if_neg e2]at *;exact h2
  ·rw[if_neg e1]at h1
   by_cases e2:b=c
   ·subst e2
    rw[if_neg e1];exact h1
   ·rw[if_neg e2]at h2
    have h1:=ww h1
    have h2:=ww h2
    rw[if_neg (by omega)]
    exact wm (by omega)
def za0:∀{x y},xZ x y=false->xZ y x=false->x=y
 |[],[],_,_=>rfl
 |[],_::_,h,_=>by simp[xZ]at h
 |_::_,[],_,h=>by simp[xZ]at h
 |a::x,b::y,h1,h2=>by
  rw[xZ]at h1 h2
  by_cases e:a=b
  ·subst e
   simp only[if_true]at h1 h2
   rw[za0 h1 h2]
  ·rw[if_neg e]at h1
   rw[if_neg (Ne.symm e)]at h2
   lia
def zgX {x y z} (h1:xZ y x=false) (h2:xZ z y=false):xZ z x=false:=by
 cases h:xZ z x with
 |false=>rfl
 |true =>
  cases h3:xZ x y with
  |true=>rw[XM h h3]at h2;cases h2
  |false=>have e:=za0 h3 h1;subst e;rw[h]at h2;cases h2
def v5 (ks:List (List Int)) (x:List Int):Int:=((ks.countP λy=>xZ y x:Nat):Int)
def Jw {α:Type}{p q:α->Bool}:∀{l:List α},(∀x,p x=true->q x=true)->(∃x∈l,p x=false/\q x=true)->l.countP p<l.countP q
 |[],_,⟨_,m,_⟩=>by simp at m
 |a::l,hi,⟨x,m,h1,h2⟩=>by
  have le:=uV (l:=l) (p:=p) (q:=q) (λy _=>hi y)
  rw[uH,uH]
  rcases wu.mp m with rfl | m
  ·rw[h1,h2];simp;omega
  ·have ih:=Jw (l:=l) hi ⟨x,m,h1,h2⟩
   cases ha:p a with
   |true=>rw[hi a ha];simp;exact ih
   |false=>cases q a <;> simp <;> omega
def zfA {ks:List (List Int)}{x y:List Int}(F:x∈ks):(v5 ks x<v5 ks y)↔xZ x y=true:=by
 unfold v5
 constructor
 ·intro h
  cases e:xZ x y with
  |true=>rfl
  |false =>
   have:=uV (l:=ks) (p:=λz=>xZ z y) (q:=λz=>xZ z x) (λz _ hz=>by
    cases h3:xZ z x with
    |true=>rfl
    |false=>rw[zgX e h3]at hz;cases hz)
   lia
 ·intro h
  have:=Jw (l:=ks) (p:=λz=>xZ z x) (q:=λz=>xZ z y) (λz hz=>XM hz h) ⟨x,F,zaZ x,h⟩
  lia
section
variable {prog:Program}{w:World}{A:Around}{E:Value->Shared->Prop}{s:Shared}
theorem zhj {f:Bool}{a b:Int}{t u:Tok}{Q:Bool->Shared->Prop}(h:Q (decide (a<b)) s):wpAny (model prog w) A (oneLt' f (.int a t) (.int b u)) Q E s:=by
 cases f with
 |true=>exact oneLt_int h
 |false=>exact kat_one _ _ (wpAny_lt_int (Q:=W.BoolBack Q) h)
theorem zgY {Q:Bool->Shared->Prop}{b F:Bool}{xs:List Value}{ns:List Int}(O:IntsAre xs ns):∀{ys:List Value}{ms:List Int}(i:Nat),IntsAre ys ms->F=decide (ns.length<ms.length)->Q (xZ ns ms) s->KatLex prog w A b F Q (xs.zip ys) i s:=by
 induction O with
 |nil =>
  intro ys ms i I G h
  cases I with
  |nil=>subst G;exact kat_nil h
  |cons m u _=>subst G;exact kat_nil (by simpa [xZ]using h)
 |cons n t O ih =>
  intro ys ms i I G h
  cases I with
  |nil=>subst G;exact kat_nil (by simpa [xZ]using h)
  |@cons m u ys' ms' I =>
   rw[WL]
   refine kat_cons (wpAny_eqBool_int ?_)
   rw[xZ]at h
   by_cases e:n=m
   ·subst e
    rw[if_pos rfl]at h
    rw[beq_self_eq_true]
    exact kat_yes (ih (i+1) I (by rw[G];simp) h)
   ·rw[if_neg e]at h
    rw[beq_eq_false_iff_ne.mpr e]
    exact kat_no (zhj h)
def zku (h:Heap) (v:Value) (k:List Int):Prop:=∃a o xs n,v=.ref a/\h.get? a=some o/\o.cls=.type "tuple"/\o.data=.seq xs n/\IntsAre xs.toList k/\k≠[]
inductive vq (h:Heap):List Value->List (List Int)->Prop
 |nil:vq h [] []
 |cons {v:Value}{k:List Int}{vs:List Value}{ks:List (List Int)} (a:zku h v k) (t:vq h vs ks):vq h (v::vs) (k::ks)
theorem vq.len {h:Heap}{vs:List Value}{ks:List (List Int)} (t:vq h vs ks):vs.length=ks.length:=by
 induction t with
 |nil=>rfl
 |cons a t ih=>simp[ih]
theorem vq.get {h:Heap}{vs:List Value}{ks:List (List Int)} (t:vq h vs ks):∀{i:Nat},i<vs.length->zku h (vs.getD i .none) (ks.getD i []):=by
 induction t with
 |nil=>intro i hi;simp at hi
 |cons a t ih =>
  intro i hi
  cases i with
  |zero=>exact a
  |succ i=>simpa using ih ↥hi
theorem vq.keep {h h':Heap}{vs:List Value}{ks:List (List Int)} (t:vq h vs ks) (k:∀v∈vs,∀a o,v=.ref a->h.get? a=some o->h'.get? a=some o):vq h' vs ks:=by
 induction t with
 |nil=>exact .nil
 |@cons v q vs ks a t ih =>
  obtain⟨a,o,xs,n,rfl,F,r⟩:=a
  exact .cons ⟨a,o,xs,n,rL,k _ (.head _) a o rL F,r⟩ (ih λv m=>k v (.tail _ m))
theorem vq.firsts {h:Heap}{vs:List Value}{ks:List (List Int)} (t:vq h vs ks):∃fs,KatTups h vs fs/\fs.length=vs.length/\∀f∈fs,∃n u,f=Value.int n u:=by
 induction t with
 |nil=>exact⟨[],KatTups.nil,rfl,λ_ m=>by simp at m⟩
 |@cons v q vs ks a t ih =>
  obtain⟨fs,k1,k2,k3⟩:=ih
  obtain⟨a,o,xs,n,rfl,I,O,hd,hi,F⟩:=a
  obtain⟨l,rfl⟩:∃l:List Value,xs=l.toArray:=⟨xs.toList,by simp⟩
  cases q with
  |nil=>exact absurd rfl F
  |cons z q =>
   have G:IntsAre l (z::q):=↥hi
   cases G with
   |cons _ u hi''=>exact⟨_::fs,KatTups.cons I O hd (by simp;rfl) k1,by simp[k2],λf m=>by
     rcases wu.mp m with rfl | m
     ·exact⟨_,_,rL⟩
     ·exact k3 f m⟩
def Jj (vs:List Value) (ks:List (List Int)) (out:List Value):Prop:=∃ps:List (List Int×Value),ps.Perm (ks.zip vs)/\out=ps.map Prod.snd/\ps.Pairwise λa b=>xZ b.1 a.1=false
theorem zfT {n:Nat}{vs:List Value}{ks:List (List Int)} (S:vs.length=n) (O:ks.length=n) (h2:2<=n) (F:n<64) (prog:Program) (w:World) (s:Shared){lt:Nat->Nat->Bool}(I:∀i j,lt i j=decide (v5 ks (ks.getD i [])<v5 ks (ks.getD j []))) :
  Jj vs ks ((zbi lt (kas_sort n)).toList.map λi=>vs.getD i Value.none):=by
 have elt:lt=λi j=>decide (v5 ks (ks.getD i [])<v5 ks (ks.getD j [])):=by funext i j;exact I i j
 obtain⟨G,hs⟩:=zcf prog w s h2 F (λi=>v5 ks (ks.getD i [])) _ rfl
 rw[<-elt]at G hs
 exists(zbi lt (kas_sort n)).toList.map λi=>(ks.getD i [],vs.getD i Value.none),?_,by simp
 ·have e:(List.range n).map (λi=>(ks.getD i [],vs.getD i Value.none))=ks.zip vs:=by
   refine List.ext_getElem (by simp[S,O]) λi h1 h2=>?_
   have hi:i<n:=↥h1
   simp[S,O,hi]
  rw[<-e]
  exact G.map _
 ·rw[ug]at hs ⊢
  refine List.Pairwise.imp_of_mem (λ{a b} Y V q=>?_) hs
  have W:b<n:=by simpa using G.mem_iff.mp V
  show xZ (ks.getD b []) (ks.getD a [])=false
  cases e:xZ (ks.getD b []) (ks.getD a [])with
  |false=>rfl
  |true =>
   have U:ks.getD b []∈ks:=by
    have:b<ks.length:=by lia
    simp[this]
   have:=(zfA U).mpr e
   lia
theorem zg2 {a:Addr}{vs:List Value}{ks:List (List Int)}{n:Nat}{P:PySem.Fin->Shared->Prop}(ho:s.heap.get? a=some (seqObj "list" vs.toArray n)) (hT:vq s.heap vs ks) (hna:∀v∈vs,v≠.ref a) (h64:vs.length<64)
  (h:∀h' out c,(∀b o,b≠a->s.heap.get? b=some o->h'.get? b=some o)->h'.get? a=some (seqObj "list" (List.toArray out) c)->Jj vs ks out->P (.done (.ret .none)) { s with heap:=h' }) :
  wpAny (model prog w) A (Builtin.«list.sort» ⟨[.ref a],[]⟩) P E s:=by
 have hlen:=hT.len
 obtain⟨e1,ho1⟩:∃e1,(s.heap.update a (Obj.mapSeq λ_=>(#[]:Array Value))).get? a=some (seqObj "list" #[] e1):=⟨_,get?_update_seq ho λ_=>#[]⟩
 have kp:∀b o,b≠a->s.heap.get? b=some o->(((s.heap.update a (Obj.mapSeq λ_=>(#[]:Array Value))).push (seqObj "tuple" vs.toArray 0)).push (seqObj "list" #[] 0)).get? b=some o:=λb o hb e =>
  wg _ (wg _ (((Heap.SameBut.update s.heap a _).2 b hb).trans e))
 have ho6:(((s.heap.update a (Obj.mapSeq λ_=>(#[]:Array Value))).push (seqObj "tuple" vs.toArray 0)).push (seqObj "list" #[] 0)).get? a=some (seqObj "list" #[] e1):=wg _ (wg _ ho1)
 have hT6:vq (((s.heap.update a (Obj.mapSeq λ_=>(#[]:Array Value))).push (seqObj "tuple" vs.toArray 0)).push (seqObj "list" #[] 0)) vs ks:=hT.keep λv m b o e q=>kp b o (λz=>hna v m (by rw[e,z])) q
 rw[list_sort_plain]
 refine we (listItems_at ho rfl (we (listUpdate_at ho rfl (we (seqEpoch_at ho1 rfl (we (Ub (we (WS (yV ?_) (yb _))) (by show vs.length<=_;rw[sizeLine_eq];lia))))) (by rw[wK,sizeLine_eq];lia) (yb _))))
 show wpAny (model prog w) A _ P E { s with heap:=((s.heap.update a (Obj.mapSeq λ_=>(#[]:Array Value))).push (seqObj "tuple" vs.toArray 0)).push (seqObj "list" #[] 0) }
 nofun
 have fin:∀(out:List Value) (c:Nat),out.length=vs.length->Jj vs ks out->(((((s.heap.update a (Obj.mapSeq λ_=>(#[]:Array Value))).push (seqObj "tuple" vs.toArray 0)).push (seqObj "list" #[] 0)).update a (Obj.mapSeq λ_=>List.toArray out)).get? a=some (seqObj "list" (List.toArray out) c)) →
   P (.done (.ret .none)) { s with heap:=(((s.heap.update a (Obj.mapSeq λ_=>(#[]:Array Value))).push (seqObj "tuple" vs.toArray 0)).push (seqObj "list" #[] 0)).update a (Obj.mapSeq λ_=>List.toArray out) }:=λout c _ hz hc =>
  h _ out c (λb o hb e=>((Heap.SameBut.update _ a _).2 b hb).trans (kp b o hb e)) hc hz
 by_cases h2:vs.toArray.size<2
 ·rw[if_pos h2,if_pos h2]
  refine we (wq ?_)
  rw[StateT.run_pure]
  refine we (wq ?_)
  have eo:(arrOf (SortSt.mk' general' (vs.toArray.zip vs.toArray) #[] 7 none)).map (·.2)=List.toArray vs:=by
   show (vs.toArray.zip vs.toArray).map (·.2)=_
   apply uQ.mp
   simp[List.map_snd_zip]
  nofun
  refine we (seqEpoch_at ho6 rfl (we (listUpdate_at ho6 rfl ?_ (yb _) (by rw[eo,wK,sizeLine_eq];lia))))
  simp only[bne_self_eq_false,Wo,if_false]
  rw[eo]
  refine wq (fin vs _ rfl ⟨ks.zip vs,.refl _,by rw[List.map_snd_zip];lia,?_⟩ (get?_update_seq ho6 _))
  rw[wK]at h2
  match ks,vs,hlen,h2 with
  |[],[],_,_=>exact .nil
  |[k],[v],_,_=>exact List.pairwise_singleton _ _
  |_::_::_,_::_::_,_,h2=>simp at h2;lia
 ·rw[if_neg h2,if_neg h2]
  rw[wK]at h2
  obtain⟨fs,k1,k2,k3⟩:=hT6.firsts
  refine we (kat_kind (T:=.type "int") k1 ∅ (λv m=>?_) ⇑2 ?_)
  ·obtain⟨z,u,rfl⟩:=k3 v m
   exact Looks.of_pure rL
  have hlt:∀i j,decide (v5 ks (ks.getD i [])<v5 ks (ks.getD j []))=decide (v5 ks (ks.getD i [])<v5 ks (ks.getD j [])):=λ_ _=>rfl
  have so:=zfT (n:=vs.length) (ks:=ks) rfl hlen.symm ∅ h64 prog w s (lt:=λi j=>decide (v5 ks (ks.getD i [])<v5 ks (ks.getD j []))) hlt
  have tk:=zbw (n:=vs.length) ∅
  refine we (uo (kat_run (ks:=vs) (vs:=vs) (κ:=tuples' (Value.type "int" != Value.type "tuple")) (Q:=λst' s'=>s' = { s with heap:=((s.heap.update a (Obj.mapSeq λ_=>(#[]:Array Value))).push (seqObj "tuple" vs.toArray 0)).push (seqObj "list" #[] 0) }/\failedOf st'=none/\∃p:Array Nat,p.size=vs.length/\arrOf st'=p.map (kas_item (vs.toArray.zip vs.toArray))/\p=zbi (λi j=>decide (v5 ks (ks.getD i [])<v5 ks (ks.getD j []))) (kas_sort vs.length))
   (G:=λp s'=>s' = { s with heap:=((s.heap.update a (Obj.mapSeq λ_=>(#[]:Array Value))).push (seqObj "tuple" vs.toArray 0)).push (seqObj "list" #[] 0) }/\p=zbi (λi j=>decide (v5 ks (ks.getD i [])<v5 ks (ks.getD j []))) (kas_sort vs.length)) rfl ∅ h64 (λp st' s' a1 a2 a3 a4=>⟨a4.1,a3,p,a1,a2,a4.2⟩)
   (TOk.wp (n:=vs.length) (lt:=λi j=>decide (v5 ks (ks.getD i [])<v5 ks (ks.getD j []))) (λi j C hi hj hC=>?_) _ tk ⟨rfl,rfl⟩)) ?_ λ_ _ e=>e)
  ·unfold kas_ask
   obtain⟨x,ox,xs,nx,ex,hx,_,dx,ix,_⟩:=hT6.get hi
   obtain⟨y,oy,ys,ny,ey,hy,_,dy,iy,_⟩:=hT6.get hj
   rw[ex,ey]
   have hm:ks.getD i []∈ks:=by
    have:i<ks.length:=by lia
    simp[this]
   refine kat_lt hx dx hy dy (zgY ix 0 iy ?_ ?_)
   ·rw[<-ix.length,<-iy.length];simp
   ·have e:xZ (ks.getD i []) (ks.getD j [])=decide (v5 ks (ks.getD i [])<v5 ks (ks.getD j [])):=by
     cases q:xZ (ks.getD i []) (ks.getD j [])with
     |true=>exact(wm ((zfA hm).mpr q)).symm
     |false=>exact(wx λz=>by rw[(zfA hm).mp z]at q;cases q).symm
    rw[e];exact hC
  ·rintro ⟨⟨⟩,st'⟩ s' ⟨es,hf,p,hp,har,ep⟩
   dsimp only at es hf har
   subst es
   have eo:=kat_snds (ks:=vs) (vs:=vs) rfl har
   nofun
   have ln:(p.toList.map λi=>vs.getD i Value.none).length=vs.length:=by simp[hp]
   refine we (seqEpoch_at ho6 rfl (we (listUpdate_at ho6 rfl ?_ (yb _) (by rw[eo,wK,ln,sizeLine_eq];lia))))
   rw[hf]
   simp only[bne_self_eq_false,Wo,if_false]
   rw[eo]
   rw[<-ep]at so
   exact wq (fin _ _ ln so (get?_update_seq ho6 _))
end
section
variable {prog:Program}{w:World}{A:Around}{E:Value->Shared->Prop}{s:Shared}{it d v:Addr}{i ep:Nat}{es:Array DictEntry}
theorem zdK {x:Addr}{vs:List Value}{ks:List (List Int)}{Q:Value->Shared->Prop}(hT:vq s.heap vs ks) (h64:vs.length<64)
  (hcol:∀R:List Value->Shared->Prop,(∀(h1:Heap) (tk:Nat),(∀b o,s.heap.get? b=some o->h1.get? b=some o)->R vs { s with heap:=h1,toks:=tk })->wpAny (model prog w) A.in1 (collect (.ref x)) R E s)
  (h:∀(h1 h':Heap) (tk:Nat) (out:List Value) (c:Nat),(∀b o,s.heap.get? b=some o->h1.get? b=some o)->(∀b o,h1.get? b=some o->h'.get? b=some o)->h'.get? h1.objs.size=some (seqObj "list" (List.toArray out) c)->Jj vs ks out->Q (.ref h1.objs.size) { s with heap:=h',toks:=tk }) :
  wpAny (model prog w) A (call (.builtin "sorted") [.ref x]) Q E s:=by
 refine Calls.call_function_entry kind_sorted plain_sorted entry_sorted (args_sorted1 _) ?_
 unfold Builtin.«sorted»
 refine we (m:=checkCount "sorted" 1 1 _) (wq (we (hcol _ λh1 tk k1=>we (WS ?_ (by rw[sizeLine_eq];lia)))))
 have hoL:(h1.push (seqObj "list" vs.toArray 0)).get? h1.objs.size=some (seqObj "list" vs.toArray 0):=wJ _ rfl
 have kk:∀b o,s.heap.get? b=some o->(h1.push (seqObj "list" vs.toArray 0)).get? b=some o:=λb o e=>wg _ (k1 b o e)
 show wpAny _ _ _ _ _ { s with heap:=h1.push (seqObj "list" vs.toArray 0),toks:=tk }
 refine we (yV (uA slot_list_sort ⟨_,hoL,rL⟩ entry_list_sort (zg2 (s:={ s with heap:=h1.push (seqObj "list" vs.toArray 0),toks:=tk }) (ks:=ks) hoL (hT.keep λv m b o _ q=>kk b o q) (λv m z=>?_) h64 λh' out c k2 k3 k4=>⟨_,rfl,?_⟩) (args_list_sort _)))
 ·subst z
  have lt:∀{vs:List Value}{ks:List (List Int)},vq s.heap vs ks->Value.ref h1.objs.size∈vs->h1.objs.size<h1.objs.size:=λt=>by
   induction t with
   |nil=>intro m;simp at m
   |cons a t ih =>
    intro m
    rcases wu.mp m with e | m
    ·obtain⟨b,o,xs,n,rfl,ho,_⟩:=a
     cases e
     exact wE (k1 _ _ ho)
    ·exact ih m
  exact uD _ (lt hT m)
 ·exact wq ⟨_,rL,h h1 h' tk out c k1 (λb o e=>k2 b o (wW (wE e)) (wg _ e)) k3 k4⟩
end
inductive qG (H:Hp):List V->List (List Int)->Prop
 |nil:qG H [] []
 |cons {a:Addr}{k:List Int}{xs:List V}{ks:List (List Int)} (e:H a=some (.tup (k.map V.int))) (ne:k≠[]) (t:qG H xs ks):qG H (.ref a::xs) (k::ks)
def qG.len {H:Hp}{xs:List V}{ks:List (List Int)} (t:qG H xs ks):xs.length=ks.length:=by
 induction t with
 |nil=>rfl
 |cons e ne t ih=>simp[ih]
def qG.same {H H':Hp}{xs:List V}{ks:List (List Int)} (t:qG H xs ks) (h:∀b o,H b=some o->H' b=some o):qG H' xs ks:=by
 induction t with
 |nil=>exact .nil
 |cons e ne t ih=>exact .cons (h _ _ e) ne ih
def qG.vals {P:Program}{w:World}{H:Hp}{h:Heap}{xs:List V}{ks:List (List Int)} (ok:HOk P w H h) (t:qG H xs ks):∀{F:List Value},xa xs F->vq h F ks:=by
 induction t with
 |nil=>intro F r;cases r;exact .nil
 |@cons a k xs ks e ne t ih =>
  intro F r
  cases r with
  |cons ru rs =>
   cases ru
   obtain⟨_,ys,O,o,G,I,n,hd⟩:=(show xJ P w H h a (.tup (k.map V.int))from ok a _ e)
   exact .cons ⟨a,o,_,n,rfl,G,I,hd,by simpa using ZB O,ne⟩ (ih rs)
def VG (xs:List V) (ks:List (List Int)) (ys:List V):Prop:=∃ps:List (List Int×V),ps.Perm (ks.zip xs)/\ys=ps.map Prod.snd/\ps.Pairwise λa b=>xZ b.1 a.1=false
inductive Zq:List (List Int×V)->List (List Int×Value)->Prop where
 |nil:Zq [] []
 |cons {k:List Int}{v:V}{u:Value}{l:List (List Int×V)}{m:List (List Int×Value)} (r:xn v u) (t:Zq l m):Zq ((k,v)::l) ((k,u)::m)
def zgs:∀{F:List (List Int)}{xs:List V}{vs:List Value},xa xs vs->Zq (F.zip xs) (F.zip vs)
 |[],_,_,_=>by simp;exact .nil
 |_::_,_,_,.nil=>by simp;exact .nil
 |k::F,_,_,.cons r t=>by rw[WL,WL];exact .cons r (zgs t)
def zh1 {O I:List (List Int×Value)} (p:O.Perm I):∀{F:List (List Int×V)},Zq F I->∃G,G.Perm F/\Zq G O:=by
 induction p with
 |nil=>intro F h;cases h;exact⟨[],.refl _,.nil⟩
 |cons x p ih=>intro F h;cases h with | cons r t=>obtain⟨G,a,b⟩:=ih t;exact⟨_,a.cons _,.cons r b⟩
 |swap x y l=>intro F h;cases h with | cons r t=>cases t with | cons U S=>exact⟨_,List.Perm.swap ..,.cons U (.cons r S)⟩
 |trans p1 p2 ih1 ih2=>intro F h;obtain⟨G,a,b⟩:=ih2 h;obtain⟨W,c,d⟩:=ih1 b;exact⟨W,c.trans a,d⟩
def zko {m:List (List Int×V)}{l:List (List Int×Value)} (h:Zq m l):m.map Prod.fst=l.map Prod.fst:=by
 induction h with
 |nil=>rfl
 |cons r t ih=>simp[ih]
def zkp {m:List (List Int×V)}{l:List (List Int×Value)} (h:Zq m l):xa (m.map Prod.snd) (l.map Prod.snd):=by
 induction h with
 |nil=>exact .nil
 |cons r t ih=>exact .cons r ih
def zd2 {xs:List V}{ks:List (List Int)}{F out:List Value}(I:xa xs F) (z:Jj F ks out):∃ys,VG xs ks ys/\xa ys out:=by
 obtain⟨ps,O,S,hw⟩:=z
 obtain⟨ms,U,hz⟩:=zh1 O (zgs I)
 have G:(ps.map Prod.fst).Pairwise λa b=>xZ b a=false:=ug.mpr hw
 rw[<-zko hz]at G
 exact⟨ms.map Prod.snd,⟨ms,U,rL,ug.mp G⟩,S ▸ zkp hz⟩
def VG.len {xs:List V}{ks:List (List Int)}{ys:List V}(h:VG xs ks ys) (e:xs.length=ks.length):ys.length=xs.length:=by
 obtain⟨ps,F,rfl,_⟩:=h
 rw[wc,F.length_eq,List.length_zip]
 lia
def VG.tups {H:Hp}{xs:List V}{ks:List (List Int)}{ys:List V}(t:qG H xs ks) (h:VG xs ks ys):∃js:List (List Int),qG H ys js/\js.Perm ks/\js.Pairwise λa b=>xZ b a=false:=by
 obtain⟨ps,F,rfl,hw⟩:=h
 have all:∀{xs:List V}{ks:List (List Int)},qG H xs ks->∀p∈ks.zip xs,p.1≠[]/\∃a,p.2=.ref a/\H a=some (.tup (p.1.map V.int)):=λt=>by
  induction t with
  |nil=>intro p m;simp at m
  |cons e ne t ih =>
   intro p m
   rw[WL]at m
   rcases wu.mp m with rfl | m
   ·exact⟨ne,00,e⟩
   ·exact ih p m
 have G:∀{ps:List (List Int×V)},(∀p∈ps,p.1≠[]/\∃a,p.2=.ref a/\H a=some (.tup (p.1.map V.int)))->qG H (ps.map Prod.snd) (ps.map Prod.fst):=λ{ps}=>by
  induction ps with
  |nil=>intro _;exact .nil
  |cons p ps ih =>
   intro h
   obtain⟨ne,a,e1,e2⟩:=h p (.head _)
   obtain⟨k,v⟩:=p
   cases e1
   exact .cons e2 ne (ih λq m=>h q (.tail _ m))
 refine⟨ps.map Prod.fst,G λp m=>all t p (F.mem_iff.mp m),?_,ug.mpr hw⟩
 have e:=F.map Prod.fst
 rw[List.map_fst_zip (by have:=t.len;lia)]at e
 exact e
section
variable {X:Cx}{pz:List (Addr×Obj)}{σ:St}{H:Hp}{s:Shared}
theorem zcg {xs:List V}{ks:List (List Int)}{F out:List Value}{h1 h':Heap}{tk c:Nat}{Q:VK}(I:Inv X pz σ H s) (t:qG H xs ks) (O:xa xs F) (U:xs.length<64) (k1:∀b o,s.heap.get? b=some o->h1.get? b=some o) (k2:∀b o,h1.get? b=some o->h'.get? b=some o)
  (S:h'.get? h1.objs.size=some (seqObj "list" (List.toArray out) c)) (z:Jj F ks out) (q:∀D ys,H D=none->VG xs ks ys->Q (.ref D) (upd H D (.lst ys))):EP X pz σ Q (.ref h1.objs.size) { s with heap:=h',toks:=tk }:=by
 obtain⟨ys,G,W⟩:=zd2 O z
 have J:=I.kept (t':=tk) k1
 refine⟨.ref h1.objs.size,_,J.laid (t':=tk) (o:=.lst ys) k2 (wn _) ⟨?_,out,c,W,S⟩,rL,q _ ys (J.hok.fresh (wn _)) G⟩
 rw[G.len t.len,sizeLine_eq];lia
theorem zbJ:vD X (.builtin "sorted") (λvs H Q=>∃(p:Addr) (xs:List V) (ks:List (List Int)),vs=[.ref p]/\SqL X.K H p xs/\qG H xs ks/\xs.length<64/\∀D ys,H D=none->VG xs ks ys->Q (.ref D) (upd H D (.lst ys))):=by
 intro pz s σ H vs us Q I r h
 obtain⟨p,xs,ks,rfl,W,U,S,q⟩:=h
 obtain⟨u,rfl,Y⟩:=ZR r
 cases Y
 obtain⟨O,G,pl,hz⟩:=I.list W
 have hl:=G.length
 refine zdK (vs:=O) (ks:=ks) (U.vals I.hok G) ∅ (λR hR=>collect_list pl.isList (hR _ s.toks λb o e=>?_) ∅) λh1 h' tk out c k1 k2 hD z=>zcg I U G S k1 k2 hD z q
 have F:b<s.heap.objs.size:=wE e
 rw[Heap.get?_update_ne _ _ _ _ (wW F),Heap.get?_push_ne _ _ _ (wW F)]
 exact e
end
section
variable {X:Cx}
theorem zdn (hc:X.calm=true):vD X (.builtin "max") (λxs H Q=>∃(p:Addr) (ns:List Int),xs=[.ref p]/\SqL X.K H p (ns.map V.int)/\0<ns.length/\∀M,M∈ns->(∀a,a∈ns->a<=M)->Q (.int M) H):=by
 intro pz s σ H xs us Q I r h
 obtain⟨p,ns,rfl,hq,G,q⟩:=h
 obtain⟨u,rfl,ru⟩:=ZR r
 cases ru
 obtain⟨S,rv,pl,_⟩:=I.list hq
 have hi:IntsAre S ns:=ZB rv
 obtain⟨ys,e⟩:=hi.allInts.items
 have Y:=pl.isList
 rw[e]at Y
 have F:ns=ys.toList.map (·.1):=by rw[<-hi.numsOf,<-nums_intItems,<-e]
 have O:0<ys.size:=by
  have U:=G;rw[F,wc,wO]at U;exact U
 refine max_intList (I.ok.hd hc) Y O λv h' tk hv hk=>?_
 obtain⟨t,rfl⟩:=intItems_at hv
 obtain⟨h1,h2⟩:=argBest_gt (numAt ys) (ys.size-1)
 refine⟨.int _,H,I.kept hk,⟨_,rL⟩,q _ ?_ λa W=>?_⟩
 ·rw[F,numAt_eq];exact getD_mem (by rw[wc,wO];omega)
 ·rw[F]at W
  obtain⟨j,hj,rfl⟩:=mem_getD W
  rw[wc,wO]at hj
  rw[<-numAt_eq];exact h2 j (by omega)
end
def zcZ:V->List V->Hp->VK->Prop:=λx vs H Q=>∃a kvs k d,x=.ref a/\vs=[kV k,d]/\H a=some (.dK kvs)/\kvs.length<sizeLine/\(∀v,ZT kvs k=some v->Q v H)/\(ZT kvs k=none->Q d (upd H a (.dK (zbc kvs k d))))
section
variable {X:Cx}
theorem JI:MtR X "dict.setdefault" zcZ:=by
 intro pz s σ H x vs v us Q I rx Y h
 obtain⟨a,kvs,k,d,rfl,rfl,V,hz,q1,q2⟩:=h
 cases rx
 obtain⟨uk,ud,rfl,rk,rd⟩:=zdj Y
 obtain⟨z,hd,ws,G,dd⟩:=zes I.hok V
 have hl:ws.length<=sizeLine:=by rw[<-G.length];lia
 have U:(zbc kvs k d).length<=sizeLine:=by have:=zaY kvs k d;lia
 refine call_meetsIn F.slot_dict_setdefault dd.typeIs F.entry_dict_setdefault (F.args_dict_setdefault_3 _ _ _) (kt_meets_setdefault (qf X.prog X.w) a (zeV rk) hd ud) ⟨ws,dd,hl,λw hw=>?_,λhn h' S hs=>?_⟩
 ·have r:=G.val k
  rw[hw]at r
  cases O:ZT kvs k with
  |none=>rw[O]at r;exact(show False from r).elim
  |some y=>rw[O]at r;exact⟨y,H,I.tok _,r,q1 y O⟩
 ·have r:=G.val k
  rw[hn]at r
  cases O:ZT kvs k with
  |some y=>rw[O]at r;exact(show False from r).elim
  |none =>
   have W:∃q,h'.get? a=some q:=let ⟨q,_,_,hq,_⟩:=S;⟨q,hq⟩
   exact⟨d,_,zgF I (by rw[V];exact True.intro) hs W (zbO U hd (G.put k rd) S),rd,q2 O⟩
end
section
variable {prog:Program}{w:World}{A:Around}{E:Value->Shared->Prop}{s:Shared}
theorem zaW:∀{us:List Value}{ns:List Int},IntsAre us ns->us.length=ns.length:=λh=>by
 have:=(vL h).length;simpa using this.symm
theorem JH {x:Addr}{ns:List Int}{Q:Value->Shared->Prop}(h64:ns.length<64)
  (hcol:∀R:List Value->Shared->Prop,(∀(h1:Heap) (tk:Nat) (vs:List Value),IntsAre vs ns->(∀b o,s.heap.get? b=some o->h1.get? b=some o)->R vs { s with heap:=h1,toks:=tk })->wpAny (model prog w) A.in1 (collect (.ref x)) R E s)
  (h:∀(h1 h':Heap) (tk:Nat) (out:List Value) (c:Nat) (ns':List Int),(∀b o,s.heap.get? b=some o->h1.get? b=some o)->(∀b o,h1.get? b=some o->h'.get? b=some o)->h'.get? h1.objs.size=some (seqObj "list" (List.toArray out) c)->IntsAre out ns'->ns'.Perm ns->ns'.Pairwise (·<=·)->Q (.ref h1.objs.size) { s with heap:=h',toks:=tk }) :
  wpAny (model prog w) A (call (.builtin "sorted") [.ref x]) Q E s:=by
 refine Calls.call_function_entry kind_sorted plain_sorted entry_sorted (args_sorted1 _) ?_
 unfold Builtin.«sorted»
 refine we (m:=checkCount "sorted" 1 1 _) (wq (we (hcol _ λh1 tk vs hI k1=>we (WS ?_ (by have:=zaW hI;rw[sizeLine_eq];lia)))))
 have hvl:=zaW hI
 have hoL:(h1.push (seqObj "list" vs.toArray 0)).get? h1.objs.size=some (seqObj "list" vs.toArray 0):=wJ _ rfl
 show wpAny _ _ _ _ _ { s with heap:=h1.push (seqObj "list" vs.toArray 0),toks:=tk }
 refine we (yV (uA slot_list_sort ⟨_,hoL,rL⟩ entry_list_sort (list_sort_tree (s:={ s with heap:=h1.push (seqObj "list" vs.toArray 0),toks:=tk }) hoL hI ∅ λout ns' a1 a2 a3=>⟨_,rfl,?_⟩) (args_list_sort _)))
 obtain⟨c,hc⟩:∃c,(sortedHeap (h1.push (seqObj "list" vs.toArray 0)) h1.objs.size vs out).get? h1.objs.size=some (seqObj "list" out c):=sortedHeap_at hoL
 refine wq ⟨_,rfl,h h1 _ tk out.toList c ns' k1 (λb o e=>?_) ↥hc a1 a2 a3⟩
 have hlt:b<h1.objs.size:=wE e
 rw[sortedHeap_old (wW hlt) (show b<(h1.push _).objs.size by rw[size_push'];exact Wa hlt)]
 exact wg _ e
end
section
variable {X:Cx}{pz:List (Addr×Obj)}{σ:St}{H:Hp}{s:Shared}
theorem zg4 {P:Program}{w:World}{n:Int}{v:Value}(h:(qf P w).is (Sum.inl n) v=true):∃t,v=.int n t:=by
 exact Value.isInt_shape (k:=n) (v:=v) h
theorem zae:∀{us:List Value}{ns:List Int},us.length=ns.length->(∀(i:Nat) (v:Value) (n:Int),us[i]?=some v->ns[i]?=some n->∃t,v=.int n t)->IntsAre us ns
 |[],[],_,_=>.nil
 |[],_::_,h,_=>by simp at h
 |_::_,[],h,_=>by simp at h
 |u::us,n::ns,h,f=>by
  obtain⟨t,rfl⟩:=f 0 u n rfl rfl
  exact .cons n t (zae ↥h λi v m e1 e2=>f (i+1) v m ↥e1 ↥e2)
theorem JN {ns F:List Int}{out:List Value}{h1 h':Heap}{tk c:Nat}{Q:VK}(I:Inv X pz σ H s) (U:ns.length<64) (k1:∀b o,s.heap.get? b=some o->h1.get? b=some o) (k2:∀b o,h1.get? b=some o->h'.get? b=some o)
  (S:h'.get? h1.objs.size=some (seqObj "list" (List.toArray out) c)) (O:IntsAre out F) (G:F.Perm ns) (hs:F.Pairwise (·<=·)) (q:∀D (ms:List Int),H D=none->ms.Perm ns->ms.Pairwise (·<=·)->Q (.ref D) (upd H D (.lst (ms.map V.int)))):EP X pz σ Q (.ref h1.objs.size) { s with heap:=h',toks:=tk }:=by
 have J:=I.kept (t':=tk) k1
 refine⟨.ref h1.objs.size,_,J.laid (t':=tk) (o:=.lst (F.map V.int)) k2 (wn _) ⟨?_,out,c,vL O,S⟩,rL,q _ F (J.hok.fresh (wn _)) G hs⟩
 rw[wc,G.length_eq,sizeLine_eq];lia
theorem VJ:vD X (.builtin "sorted") (λvs H Q=>∃(p:Addr) (ns:List Int),vs=[.ref p]/\SqL X.K H p (ns.map V.int)/\ns.length<64/\∀D (ms:List Int),H D=none->ms.Perm ns->ms.Pairwise (·<=·)->Q (.ref D) (upd H D (.lst (ms.map V.int)))):=by
 intro pz s σ H vs us Q I r h
 obtain⟨p,ns,rfl,hq,h64,q⟩:=h
 obtain⟨u,rfl,ru⟩:=ZR r
 cases ru
 obtain⟨its,rv,pl,hz⟩:=I.list hq
 have hl:=rv.length
 rw[wc]at hl
 refine JH (ns:=ns) h64 (λR hR=>collect_list pl.isList (hR _ s.toks its (ZB rv) λb o e=>?_) (by rw[sizeLine_eq];lia)) λh1 h' tk out c ns' k1 k2 hD a1 a2 a3=>JN I h64 k1 k2 hD a1 a2 a3 q
 have hlt:b<s.heap.objs.size:=wE e
 rw[Heap.get?_update_ne _ _ _ _ (wW hlt),Heap.get?_push_ne _ _ _ (wW hlt)]
 exact e
theorem zbI (hc:X.calm=true):vD X (.builtin "sorted") (λvs H Q=>∃(d:Addr) (kvs:List (Key×V)) (ns:List Int),vs=[.ref d]/\H d=some (.dK kvs)/\kvs.map Prod.fst=ns.map Sum.inl/\ns.length<64/\∀D (ms:List Int),H D=none->ms.Perm ns->ms.Pairwise (·<=·)->Q (.ref D) (upd H D (.lst (ms.map V.int)))):=by
 intro pz s σ H vs us Q I r h
 obtain⟨d,kvs,ns,rfl,hd,ek,h64,q⟩:=h
 obtain⟨u,rfl,ru⟩:=ZR r
 cases ru
 obtain⟨z,lo,ws,rel,dd⟩:=zes I.hok hd
 obtain⟨ep,hat⟩:=dd.dictAt
 have hk:=rel.keys
 have hwl:ws.length=ns.length:=by have:=congrArg List.length (hk.symm.trans ek);simpa using this
 refine JH (ns:=ns) h64 (λR hR=>PySem.W.kdu_collect (PySem.W.kdl_dict (knd:=qf X.prog X.w) (kvs:=ws) (ep:=ep) lo) (I.ok.hd hc) hat (by rw[hwl,sizeLine_eq];lia) λh' tk acc k ha=>hR h' tk acc.toList ?_ k) λh1 h' tk out c ns' k1 k2 hD a1 a2 a3=>JN I h64 k1 k2 hD a1 a2 a3 q
 refine zae (by rw[wO,ha.1];exact hwl) λi v n e1 e2=>?_
 obtain⟨kk,y,hy,hki⟩:=ha.2 i v (by rw[<-wR];exact e1)
 have e3:(ws.map Prod.fst)[i]?=some kk:=by rw[wo,hy];rfl
 rw[<-hk,ek,wo,e2]at e3
 cases e3
 exact zg4 hki
theorem zdm:vD X (.builtin "len") (λxs H Q=>∃p kvs,xs=[.ref p]/\H p=some (.dK kvs)/\Q (.int kvs.length) H):=by
 intro pz s σ H xs us Q I r h
 obtain⟨p,kvs,rfl,hd,q⟩:=h
 obtain⟨u,rfl,O⟩:=ZR r
 cases O
 obtain⟨z,lo,ws,F,dd⟩:=zes I.hok hd
 have G:=F.length
 have hs:sizeLine=16777216:=sizeLine_eq
 exact call_len_dict lo dd ∅ ⟨.int kvs.length,H,I.tok _,⟨_,by rw[G]⟩,q⟩
end
end L2
namespace PySem
end PySem
namespace L2
open PySem PySem.Spec PyProof.Rows
end L2
namespace PySem
end PySem
namespace L2
open PySem PySem.Spec PyProof.Rows
open MeetsSeq MeetsSeq2 MeetsSeq3 SeqRoads2 SeqAt AutoSeq1
end L2
namespace TS
def hid {A:Prop}(h:∀P:Prop,(A->P)->P):A:=h A id
open PySem PySem.W PyProof.Rows
variable {J:Shared->Prop}{M:Model}{A:Around}{E:Value->Shared->Prop}
def TQ (J:Shared->Prop) (M:Model) (A:Around) (E:Value->Shared->Prop){α:Type}(m:StateT SortSt Sem α) (Q:α->SortSt->Prop) (st:SortSt):Prop :=
 ∀s,J s->wpAny M A (m.run st) (λr s'=>J s'/\Q r.1 r.2) E s
theorem zw {α:Type}{a:α}{Q:α->SortSt->Prop}{st:SortSt}(h:Q a st):TQ J M A E (pure a) Q st:=λs j=>by
 rw[StateT.run_pure];exact wq ⟨j,h⟩
theorem zr {α β:Type}{m:StateT SortSt Sem α}{f:α->StateT SortSt Sem β}{Q:β->SortSt->Prop}{st:SortSt}(h:TQ J M A E m (λa F=>TQ J M A E (f a) Q F) st):TQ J M A E (m >>= f) Q st:=λs j=>by
 rw[StateT.run_bind];exact we (uo (h s j) (λr s' q=>q.2 s' q.1) λ_ _ e=>e)
theorem zgn {α:Type}{c:Prop}{_:Decidable c}{X:Nat->StateT SortSt Sem α}{y:StateT SortSt Sem α}{g:Nat}{Q:α->SortSt->Prop}{st:SortSt}(I:y=X g) (h:∀G,TQ J M A E (X G) Q st) (F:Nat):TQ J M A E (if c then X F else y) Q st:=by subst I;split <;> exact h _
theorem xV {α:Type}{m:StateT SortSt Sem α}{Q G:α->SortSt->Prop}{st:SortSt}(h:TQ J M A E m Q st) (q:∀a F,Q a F->G a F):TQ J M A E m G st:=λs j =>
 uo (h s j) (λr s' z=>⟨z.1,q _ _ z.2⟩) λ_ _ e=>e
theorem vX {Q:SortSt->SortSt->Prop}{st:SortSt}(h:Q st st):TQ J M A E (get:StateT SortSt Sem SortSt) Q st:=λs j=>by
 rw[StateT.run_get];exact wq ⟨j,h⟩
theorem zki {Q:PUnit->SortSt->Prop}{st F:SortSt}(h:Q ⟨⟩ F):TQ J M A E (set F:StateT SortSt Sem PUnit) Q st:=λs j=>by
 rw[StateT.run_set];exact wq ⟨j,h⟩
theorem qr {f:SortSt->SortSt}{Q:PUnit->SortSt->Prop}{st:SortSt}(h:Q ⟨⟩ (f st)):TQ J M A E (modify f:StateT SortSt Sem PUnit) Q st:=λs j=>by
 rw[StateT.run_modify];exact wq ⟨j,h⟩
theorem Xu {n:String}{Q:Unit->SortSt->Prop}{st:SortSt}(h:Q () st):TQ J M A E (liftM (rule n):StateT SortSt Sem Unit) Q st:=λs j=>by
 show wpAny M A ((StateT.lift (rule n):StateT SortSt Sem Unit).run st) _ E s
 rw[StateT.run_lift]
 exact we (Yg (wq ⟨j,h⟩))
def zga {β:Type}(D N:β->SortSt->Prop):ForInStep β->SortSt->Prop
 |.done c,st=>D c st
 |.yield c,st=>N c st
theorem zdf {β γ:Type}{f:γ->β->StateT SortSt Sem (ForInStep β)}{Q:β->SortSt->Prop}(I:Nat->β->SortSt->Prop):∀{l:List γ}{k:Nat}{c:β}{st:SortSt},
  (∀i y c st,l[i]?=some y->I (k+i) c st->TQ J M A E (f y c) (zga Q (I (k+i+1))) st)->(∀c st,I (k+l.length) c st->Q c st)->I k c st->TQ J M A E (forIn l c f) Q st
 |[],k,c,st,_,hd,h=>by rw[List.forIn_nil];exact zw (hd c st h)
 |y::l,k,c,st,hs,hd,h=>by
  rw[List.forIn_cons]
  refine zr (xV (hs 0 y c st rL h) λr F q=>?_)
  cases r with
  |done c'=>exact zw q
  |yield c' =>
   refine zdf I (k:=k+1) (λi y c st e z=>?_) (λc st z=>hd c st ?_) q
   ·have:=hs (i+1) y c st ↥e (by rw[show k+(i+1)=k+1+i by lia];exact z)
    rw[show k+(i+1)+1=k+1+i+1 by lia]at this;exact this
   ·rw[wB,show k+(l.length+1)=k+1+l.length by lia];exact z
theorem xU {β:Type}{a b:Nat}{f:Nat->β->StateT SortSt Sem (ForInStep β)}{Q:β->SortSt->Prop}(I:Nat->β->SortSt->Prop){c:β}{st:SortSt}
  (hs:∀i c st,a<=i->i<b->I i c st->TQ J M A E (f i c) (zga Q (I (i+1))) st) (hd:∀c st,I (max a b) c st->Q c st) (h:I a c st):TQ J M A E (forIn [a:b] c f) Q st:=by
 rw[Std.Legacy.Range.forIn_eq_forIn_range']
 have F:([a:b]:Std.Legacy.Range).size=b-a:=by simp[Std.Legacy.Range.size]
 show TQ J M A E (forIn (List.range' a ([a:b]:Std.Legacy.Range).size 1) c f) Q st
 rw[F]
 refine zdf I (k:=a) (λi y c st e z=>?_) (λc st z=>hd c st ?_) h
 ·obtain⟨hi,e⟩:=w4.mp e
  rw[List.getElem_range']at e
  rw[List.length_range']at hi
  have:y=a+i:=by lia
  subst this
  exact hs _ c st ∅ ∅ z
 ·rw[List.length_range']at z
  rw[show max a b=a+(b-a) by lia];exact z
variable {KY:Keyed->Int}{a₀:Array Keyed}{κ:SortKind}
def kx (KY:Keyed->Int) (xs:Array Keyed) (i:Nat):Int:=match xs[i]? with
 |some p=>KY p
 |none=>0
theorem xR {xs ys:Array Keyed}{i j:Nat}(h:xs[i]?=ys[j]?):kx KY xs i=kx KY ys j:=by unfold kx;rw[h]
theorem z6 {xs:Array Keyed}{i:Nat}{p:Keyed}(h:xs[i]?=some p):kx KY xs i=KY p:=by unfold kx;rw[h]
def HLt (J:Shared->Prop) (M:Model) (A:Around) (E:Value->Shared->Prop) (κ:SortKind) (KY:Keyed->Int) (a₀:Array Keyed):Prop :=
 ∀(x y:Keyed) (st:SortSt) (Q:Option Bool->SortSt->Prop),x∈a₀.toList->y∈a₀.toList->kindOf st=κ->Q (some (decide (KY x<KY y))) st->TQ J M A E (lt' x y) Q st
def Sub (a₀ xs:Array Keyed):Prop:=∀p,p∈xs.toList->p∈a₀.toList
theorem Sub.get {xs:Array Keyed}(h:Sub a₀ xs){i:Nat}(hi:i<xs.size):∃p,xs[i]?=some p/\p∈a₀.toList:=⟨xs[i],wL hi,h _ (by simp)⟩
theorem xu {xs:Array Keyed}{i:Nat}{p:Keyed}{Q:Keyed->SortSt->Prop}{st:SortSt}(e:xs[i]?=some p) (h:Q p st):TQ J M A E (elem' xs i) Q st:=by
 rw[elem'_eq,e];exact zw h
theorem zhV (L:HLt J M A E κ KY a₀){i j:Nat}{Q:Option Bool->SortSt->Prop}{st:SortSt}(F:Sub a₀ (arrOf st)) (I:kindOf st=κ) (hi:i<(arrOf st).size) (S:j<(arrOf st).size)
  (h:Q (some (decide (kx KY (arrOf st) i<kx KY (arrOf st) j))) st):TQ J M A E (ltAt' i j) Q st:=by
 obtain⟨p,e1,O⟩:=F.get hi
 obtain⟨q,e2,G⟩:=F.get S
 rw[z6 e1,z6 e2]at h
 rw[ltAt'_eq]
 exact zr (vX (zr (xu e1 (zr (xu e2 (L p q st Q O G I h))))))
def Up (KY:Keyed->Int) (xs:Array Keyed) (lo hi:Nat):Prop:=∀i j,lo<=i->i<=j->j<hi->kx KY xs i<=kx KY xs j
def Dn (KY:Keyed->Int) (xs:Array Keyed) (lo hi:Nat):Prop:=∀i j,lo<=i->i<=j->j<hi->kx KY xs j<=kx KY xs i
structure Ch (lo hi:Nat) (st st':SortSt):Prop where
 kind:kindOf st'=kindOf st
 pend:pendingOf st'=pendingOf st
 fail:failedOf st'=failedOf st
 perm:(arrOf st').Perm (arrOf st)
 out:∀i,i<lo\/hi<=i->(arrOf st')[i]?=(arrOf st)[i]?
theorem Ch.refl {lo hi:Nat}{st:SortSt}:Ch lo hi st st:=⟨rfl,rfl,rfl,.refl _,λ_ _=>rfl⟩
theorem Ch.trans {lo hi:Nat}{F G I:SortSt}(h:Ch lo hi F G) (g:Ch lo hi G I):Ch lo hi F I:=⟨g.kind.trans h.kind,g.pend.trans h.pend,g.fail.trans h.fail,g.perm.trans h.perm,λi o=>(g.out i o).trans (h.out i o)⟩
theorem J0 {st:SortSt}{i j lo hi:Nat}(h1:lo<=i) (h2:j<=hi) (F:j<=(arrOf st).size):Ch lo hi st (setArr st (mirror (arrOf st) i j ((j-i)/2))):=by
 refine⟨rL,rL,rL,mirror_perm _ _ _ _,λk o=>?_⟩
 show (mirror (arrOf st) i j ((j-i)/2))[k]?=_
 rw[getElem?_mirror_all F,if_neg ∅]
theorem zbV {xs:Array Keyed}{i j:Nat}(F:j<=xs.size) (k:Nat):kx KY (mirror xs i j ((j-i)/2)) k=if i<=k/\k<j then kx KY xs (i+j-1-k)else kx KY xs k:=by
 have e:=getElem?_mirror_all (i:=i) F k
 by_cases c:i<=k/\k<j
 ·rw[if_pos c]at e ⊢;exact xR e
 ·rw[if_neg c]at e ⊢;exact xR e
theorem Vq {xs:Array Keyed}{i j:Nat}(F:j<=xs.size) (z:Int) (h:∀k,i<=k->k<j->kx KY xs k=z) (k:Nat):kx KY (mirror xs i j ((j-i)/2)) k=kx KY xs k:=by
 rw[zbV F]
 split
 ·rename_i c;rw[h _ (by omega) (by omega),h _ c.1 c.2]
 ·rfl
theorem zaE {i j:Nat}{Q:Unit->SortSt->Prop}{st:SortSt}(h:Q () (setArr st (mirror (arrOf st) i j ((j-i)/2)))):TQ J M A E (reverseSlice' i j) Q st:=by
 rw[reverseSlice'_eq];exact qr h
variable {J:Shared->Prop}{M:Model}{A:Around}{E:Value->Shared->Prop}{KY:Keyed->Int}{a₀:Array Keyed}{κ:SortKind}
structure Bs (a₀:Array Keyed) (κ:SortKind) (st:SortSt):Prop where
 perm:(arrOf st).Perm a₀
 kind:kindOf st=κ
 fail:failedOf st=none
theorem Bs.sub {st:SortSt}(h:Bs a₀ κ st):Sub a₀ (arrOf st):=λq m=>(uO.mp h.perm).mem_iff.mp m
theorem Bs.size {st:SortSt}(h:Bs a₀ κ st):(arrOf st).size=a₀.size:=h.perm.size_eq
theorem Bs.ch {st F:SortSt}{lo hi:Nat}(h:Bs a₀ κ st) (c:Ch lo hi st F):Bs a₀ κ F:=⟨c.perm.trans h.perm,c.kind.trans h.kind,c.fail.trans h.fail⟩
theorem JU (L:HLt J M A E κ KY a₀){i j:Nat}{Q:Option Bool->SortSt->Prop}{st:SortSt}(B:Bs a₀ κ st) (hi:i<a₀.size) (F:j<a₀.size)
  (h1:kx KY (arrOf st) i<kx KY (arrOf st) j->Q (some true) st) (h2:¬kx KY (arrOf st) i<kx KY (arrOf st) j->Q (some false) st):TQ J M A E (ltAt' i j) Q st:=by
 refine zhV L B.sub B.kind (by rw[B.size];exact hi) (by rw[B.size];exact F) ?_
 by_cases c:kx KY (arrOf st) i<kx KY (arrOf st) j
 ·rw[wm c];exact h1 c
 ·rw[wx c];exact h2 c
theorem zcD {α:Type}{c:Prop} [Decidable c] {m P:StateT SortSt Sem α}{Q:α->SortSt->Prop}{st:SortSt}(G:SortSt->Prop) (h1:∀F,G F->TQ J M A E P Q F)
  (h2:c->(∀F,G F->TQ J M A E P Q F)->TQ J M A E m Q st) (I:¬c->G st):TQ J M A E (if c then m else P) Q st:=by
 by_cases h:c
 ·rw[if_pos h];exact h2 h h1
 ·rw[if_neg h];exact h1 st (I h)
theorem zgl {f:Nat->Option (Option Nat)×Nat->StateT SortSt Sem (ForInStep (Option (Option Nat)×Nat))}{lo a F:Nat}{st:SortSt}{Q:Option (Option Nat)×Nat->SortSt->Prop} (h1:1<=a) (V:a<=F)
  (S:∀x m R,a<=m->m<F->(kx KY (arrOf st) (lo+m)<kx KY (arrOf st) (lo+m-1)->R (.done (none,m)) st)->(¬kx KY (arrOf st) (lo+m)<kx KY (arrOf st) (lo+m-1)->R (.yield (none,m+1)) st)->TQ J M A E (f x (none,m)) R st)
  (W:Up KY (arrOf st) lo (lo+a)) (h:∀n,a<=n->n<=F->Up KY (arrOf st) lo (lo+n)->(n=F\/kx KY (arrOf st) (lo+n)<kx KY (arrOf st) (lo+n-1))->Q (none,n) st) :
  TQ J M A E (forIn [a:F] (none,a) f) Q st:=by
 refine xU (I:=λx c G=>G=st/\c=(none,x)/\Up KY (arrOf st) lo (lo+x)) ?_ ?_ ⟨rL,rL,W⟩
 ·rintro x c G h1 h2 ⟨rfl,rfl,u⟩
  refine S x x _ h1 h2 (λz=>h x h1 ∅ u (.inr z)) (λz=>⟨rL,rL,λi j O U Y=>?_⟩)
  by_cases c:j<lo+x
  ·exact u i j O U c
  ·obtain rfl:j=lo+x:=by lia
   by_cases d:i=lo+x
   ·rw[d];exact uZ _
   ·exact yu (u i (lo+x-1) O ∅ ∅) (Wm.mp z)
 ·rintro c G ⟨rfl,rfl,u⟩
  rw[show max a F=F by lia]at u ⊢
  exact h F V (wn _) u (.inl rL)
theorem zgm (L:HLt J M A E κ KY a₀){lo F:Nat}{Q:Option Nat->SortSt->Prop}{st:SortSt}(h1:1<=F) (hn:lo+F<=a₀.size) (B:Bs a₀ κ st)
  (h:∀m G,Ch lo (lo+F) st G->1<=m->m<=F->Up KY (arrOf G) lo (lo+m)->Q (some m) G):TQ J M A E (countRun' lo F) Q st:=by
 refine zr ?_
 nofun
 refine zgl (lo:=lo) (KY:=KY) (wn 1) h1 (λx m R m1 m2 r1 r2=>?_) (λi j a b c=>?_) (λn n1 n2 u o=>?_)
 ·exact zr (JU L B ∅ ∅ (λz=>zw (r1 z)) (λz=>zw (r2 z)))
 ·rw[show i=j by lia];exact uZ _
 nofun
 by_cases c:n=F
 ·rw[if_pos ↥c];exact zw (h n st .refl n1 n2 u)
 rw[if_neg ↥c]
 have lt:=o.resolve_left c
 have sz:=B.size
 refine zcD (λa1=>Ch lo (lo+F) st a1/\(∀k,kx KY (arrOf a1) k=kx KY (arrOf st) k)/\∀k,lo<=k->k<lo+n->kx KY (arrOf st) k=kx KY (arrOf st) (lo+n-1)) ?_ ?_ ?_
 rotate_left
 ·intro c1 k
  refine zr (JU L B ∅ ∅ (λz=>zw (h n st .refl n1 n2 u)) (λz=>?_))
  have eq:∀k,lo<=k->k<lo+n->kx KY (arrOf st) k=kx KY (arrOf st) (lo+n-1):=λk k1 k2 =>
   Int.le_antisymm (u k _ k1 ∅ ∅) (yu (Wm.mp z) (u lo k (wn _) k1 k2))
  exact zr (zaE (k _ ⟨J0 ∅ ∅ ∅,λj=>Vq ∅ _ eq j,eq⟩))
 ·intro c1
  exact⟨.refl,λ_=>rfl,λk k1 k2=>by rw[show k=lo+n-1 by lia]⟩
 rintro a1 ⟨C1,K1,eq⟩
 refine zr (Xu ?_)
 have d1:Dn KY (arrOf a1) lo (lo+(n+1)):=λi j U i2 i3=>by
  rw[K1,K1]
  by_cases cj:j<lo+n
  ·rw[eq i U ∅,eq j ∅ cj];exact uZ _
  ·obtain rfl:j=lo+n:=by lia
   by_cases ci:i=lo+n
   ·rw[ci];exact uZ _
   ·rw[eq i U ∅];exact yM lt
 refine zr (xV (xU (I:=λx c G=>∃q,c=(none,x,q)/\Ch lo (lo+F) st G/\Dn KY (arrOf G) lo (lo+x)/\q+1<=x/\∀i,lo+x-(q+1)<=i->i<lo+x->kx KY (arrOf G) i=kx KY (arrOf G) (lo+x-1))
  (Q:=λc G=>∃x q,c=(none,x,q)/\n+1<=x/\x<=F/\Ch lo (lo+F) st G/\Dn KY (arrOf G) lo (lo+x)/\q+1<=x/\∀i,lo+x-(q+1)<=i->i<lo+x->kx KY (arrOf G) i=kx KY (arrOf G) (lo+x-1)) ?_ ?_ ⟨0,rfl,C1,d1,by lia,λi a b=>by rw[show i=lo+(n+1)-1 by lia]⟩) ?_)
 ·rintro x c S x1 x2 W;rcases q:W with⟨q,rfl,V,Y,q1,e2⟩
  have B2:=B.ch V
  have s2:=B2.size
  nofun
  refine zr (JU L B2 ∅ ∅ (λz=>?_) (λz=>?_))
  ·nofun
   rw[if_pos rfl]
   have dn:∀xs:Array Keyed,(∀k,kx KY xs k=kx KY (arrOf S) k)->Dn KY xs lo (lo+(x+1)):=λxs hk i j U i2 i3=>by
    rw[hk,hk]
    by_cases cj:j<lo+x
    ·exact Y i j U i2 cj
    ·obtain rfl:j=lo+x:=by lia
     by_cases ci:i=lo+x
     ·rw[ci];exact uZ _
     ·exact yu (yM z) (Y i (lo+x-1) U ∅ ∅)
   by_cases cq:q>0
   ·rw[if_pos cq]
    refine zr (zaE (zw ⟨0,rfl,V.trans (J0 ∅ ∅ ∅),dn _ λk=>Vq ∅ _ e2 k,by lia,λi a b=>by rw[show i=lo+(x+1)-1 by lia]⟩))
   ·rw[if_neg cq]
    exact zw ⟨0,rfl,V,dn _ λk=>rfl,by lia,λi a b=>by rw[show i=lo+(x+1)-1 by lia]⟩
  ·nofun
   rw[if_neg (by simp)]
   refine zr (JU L B2 ∅ ∅ (λz2=>?_) (λz2=>?_))
   ·exact zw ⟨x,q,rfl,x1,by lia,V,Y,q1,e2⟩
   ·have ex:kx KY (arrOf S) (lo+x)=kx KY (arrOf S) (lo+x-1):=Int.le_antisymm (Wm.mp z2) (Wm.mp z)
    refine zw ⟨q+1,rfl,V,λi j U i2 i3=>?_,by lia,λi a b=>?_⟩
    ·by_cases cj:j<lo+x
     ·exact Y i j U i2 cj
     ·obtain rfl:j=lo+x:=by lia
      by_cases ci:i=lo+x
      ·rw[ci];exact uZ _
      ·rw[ex];exact Y i (lo+x-1) U ∅ ∅
    ·rw[show lo+(x+1)-1=lo+x by lia]
     by_cases ci:i=lo+x
     ·rw[ci]
     ·rw[ex];exact e2 i ∅ ∅
 ·rintro c S W;rcases q:W with⟨q,rfl,V,Y,q1,e2⟩
  rw[show max (n+1) F=F by lia]at *
  exact⟨F,q,rfl,by lia,wn _,V,Y,q1,e2⟩
 rintro c' S W;rcases q:W with⟨x,q,rfl,x1,x2,V,Y,q1,e2⟩
 nofun
 have s2:=(B.ch V).size
 refine zcD (λO=>Ch lo (lo+F) st O/\Dn KY (arrOf O) lo (lo+x)) ?_ (λc k=>zr (zaE (k _ ⟨V.trans (J0 ∅ ∅ ∅),λi j U i2 i3=>?_⟩))) (λc=>⟨V,Y⟩)
 rotate_left
 ·show kx KY (mirror _ _ _ _) j<=kx KY (mirror _ _ _ _) i
  rw[Vq ∅ _ e2,Vq ∅ _ e2];exact Y i j U i2 i3
 rintro O ⟨C3,d3⟩
 have s3:=(B.ch C3).size
 refine zr (zaE ?_)
 have C4:Ch lo (lo+F) st (setArr O (mirror (arrOf O) lo (lo+x) ((lo+x-lo)/2))):=C3.trans (J0 ∅ ∅ ∅)
 have u4:Up KY (mirror (arrOf O) lo (lo+x) ((lo+x-lo)/2)) lo (lo+x):=λi j U i2 i3=>by
  rw[zbV ∅,zbV ∅,if_pos ∅,if_pos ∅]
  exact d3 _ _ ∅ ∅ ∅
 have B4:=B.ch C4
 generalize hs4:setArr O (mirror (arrOf O) lo (lo+x) ((lo+x-lo)/2))=st4 at C4 B4 ⊢
 have a2:Up KY (arrOf st4) lo (lo+x):=by rw[<-hs4];exact u4
 refine zr (zgl (lo:=lo) (KY:=KY) ∅ x2 (λy m R m1 m2 r1 r2=>?_) a2 (λm m1 m2 u o=>?_))
 ·exact zr (JU L B4 ∅ ∅ (λz=>zw (r1 z)) (λz=>zw (r2 z)))
 ·exact zw (h m st4 C4 ∅ m2 u)
theorem zkf (L:HLt J M A E κ KY a₀){lo n ok:Nat}{Q:Bool->SortSt->Prop}{st:SortSt}(hn:lo+n<=a₀.size) (ho:ok<=n) (B:Bs a₀ κ st) (u:Up KY (arrOf st) lo (lo+ok))
  (h:∀F,Ch lo (lo+n) st F->Up KY (arrOf F) lo (lo+n)->Q true F):TQ J M A E (binarySort' lo n ok) Q st:=by
 refine zr ?_
 nofun
 refine xV (xU (I:=λk c F=>c=(none,())/\Ch lo (lo+n) st F/\Up KY (arrOf F) lo (lo+min k n)) (Q:=λc F=>c=(none,())/\Ch lo (lo+n) st F/\Up KY (arrOf F) lo (lo+n)) ?_ ?_ ⟨rL,.refl,λi j i1 i2 i3=>?_⟩) ?_
 ·rintro k c G k1 k2 ⟨rfl,W,V⟩
  rw[show min k n=k by lia]at V
  have B1:=B.ch W
  have s1:=B1.size
  refine zr (xV (xU (I:=λx c F=>F=G/\∃l r,c=(none,l,r)/\l<=r/\r<=k/\r-l<=k-x/\(∀i,i<l->kx KY (arrOf G) (lo+i)<=kx KY (arrOf G) (lo+k))/\∀i,r<=i->i<k->kx KY (arrOf G) (lo+k)<kx KY (arrOf G) (lo+i))
   (Q:=λc F=>F=G/\∃l r,c=(none,l,r)/\l<=k/\(∀i,i<l->kx KY (arrOf G) (lo+i)<=kx KY (arrOf G) (lo+k))/\∀i,l<=i->i<k->kx KY (arrOf G) (lo+k)<kx KY (arrOf G) (lo+i)) ?_ ?_ ⟨rfl,0,k,rfl,by lia,by lia,by lia,λi a=>by lia,λi a b=>by lia⟩) ?_)
  ·rintro x c F x1 x2 U;rcases q:U with⟨rfl,l,r,rfl,lr,rk,m,S,O⟩
   nofun
   by_cases g:l>=r
   ·rw[if_pos g];obtain rfl:l=r:=by lia
    exact zw ⟨rL,l,l,rL,rk,S,O⟩
   ·rw[if_neg g]
    refine zr (JU L B1 ∅ ∅ (λz=>?_) (λz=>?_))
    ·exact zw ⟨rfl,l,(l+r)/2,rfl,by lia,by lia,by lia,S,λi a b=>Int.lt_of_lt_of_le z (V _ _ ∅ ∅ ∅)⟩
    ·exact zw ⟨rfl,(l+r)/2+1,r,rfl,by lia,by lia,by lia,λi a=>yu (V _ (lo+(l+r)/2) ∅ ∅ ∅) (Wm.mp z),O⟩
  ·rintro c F U;rcases q:U with⟨rfl,l,r,rfl,lr,rk,m,S,O⟩
   obtain rfl:l=r:=by lia
   exact⟨rL,l,l,rL,rk,S,O⟩
  ·rintro c F U;rcases q:U with⟨rfl,l,r,rfl,lk,S,O⟩
   nofun
   refine zr ?_
   show TQ J M A E (moveDown' _ _) _ _
   rw[moveDown'_eq]
   refine qr (zw ?_)
   have hs:lo+k<(arrOf F).size:=by lia
   have eb:=getElem?_bubble (xs:=arrOf F) hs (lo+k-(lo+l)) ∅
   exists rfl,W.trans ⟨rfl,rfl,rfl,bubble_perm _ _ _,λi o=>?_⟩
   ·show (bubble (arrOf F) (lo+k) (lo+k-(lo+l)))[i]?=_
    rw[eb,if_neg ∅,if_neg ∅]
   ·rw[show min (k+1) n=k+1 by lia]
    intro i j i1 i2 i3
    show kx KY (bubble (arrOf F) (lo+k) (lo+k-(lo+l))) i<=kx KY (bubble (arrOf F) (lo+k) (lo+k-(lo+l))) j
    have kb:∀q,kx KY (bubble (arrOf F) (lo+k) (lo+k-(lo+l))) q=if q=lo+l then kx KY (arrOf F) (lo+k)else if lo+l<q/\q<=lo+k then kx KY (arrOf F) (q-1)else kx KY (arrOf F) q:=λq=>by
     have e:=eb q
     rw[show lo+k-(lo+k-(lo+l))=lo+l by lia]at e
     by_cases c1:q=lo+l
     ·rw[if_pos c1]at e ⊢;exact xR e
     ·rw[if_neg c1]at e ⊢
      by_cases c2:lo+l<q/\q<=lo+k
      ·rw[if_pos c2]at e ⊢;exact xR e
      ·rw[if_neg c2]at e ⊢;exact xR e
    have a1:∀q,lo<=q->q<lo+l->kx KY (arrOf F) q<=kx KY (arrOf F) (lo+k):=λq a b=>by have:=S (q-lo) ∅;rwa [show lo+(q-lo)=q by lia]at this
    have Y:∀q,lo+l<=q->q<lo+k->kx KY (arrOf F) (lo+k)<=kx KY (arrOf F) q:=λq a b=>by have:=O (q-lo) ∅ ∅;rw[show lo+(q-lo)=q by lia]at this;exact yM this
    rw[kb,kb]
    repeat' split
    all_goals first
     | (exfalso;lia)
     |exact uZ _
     |exact a1 _ ∅ ∅
     |exact Y _ ∅ ∅
     |exact V _ _ ∅ ∅ ∅
 ·rintro c G ⟨rfl,W,V⟩
  rw[show min (max (max ok 1) n) n=n by lia]at V
  exact⟨rL,W,V⟩
 ·by_cases c:ok=0
  ·rw[show i=j by lia];exact uZ _
  ·exact u i j i1 i2 ∅
 ·rintro c G ⟨rfl,W,V⟩
  exact zw (h G W V)
variable {J:Shared->Prop}{M:Model}{A:Around}{E:Value->Shared->Prop}{KY:Keyed->Int}{a₀:Array Keyed}{κ:SortKind}
def gall:Bool->Keyed->Array Keyed->Nat->Nat->Nat->StateT SortSt Sem (Option Nat):=sortPriv% PySem.Builtin.gallop
def bey (KY:Keyed->Int) (left:Bool) (key:Keyed) (xs:Array Keyed) (b i:Nat):Bool:=if left=true then decide (kx KY xs (b+i)<KY key)else !decide (KY key<kx KY xs (b+i))
theorem ZY {left:Bool}{key:Keyed}{xs:Array Keyed}{b n i j:Nat}(u:Up KY xs b (b+n)) (F:i<=j) (G:j<n) (h:bey KY left key xs b j=true):bey KY left key xs b i=true:=by
 have z:=u (b+i) (b+j) ∅ ∅ ∅
 unfold bey at h ⊢
 cases left with
 |true=>rw[if_pos rfl]at h ⊢;exact wm (Int.lt_of_le_of_lt z (ww h))
 |false =>
  rw[if_neg (by simp)]at h ⊢
  simp only[Bool.not_eq_true',decide_eq_false_iff_not,Wm]at h ⊢
  exact yu z h
theorem Xt (L:HLt J M A E κ KY a₀){left:Bool}{key:Keyed}{xs:Array Keyed}{b n F:Nat}{Q:Option Nat->SortSt->Prop}{st:SortSt}(hk:kindOf st=κ) (hS:Sub a₀ xs) (a1:key∈a₀.toList) (hb:b+n<=xs.size) (hh:F<n)
  (u:Up KY xs b (b+n)) (h:∀k,k<=n->(∀i,i<k->bey KY left key xs b i=true)->(∀i,k<=i->i<n->bey KY left key xs b i=false)->Q (some k) st):TQ J M A E (gall left key xs b n F) Q st:=by
 have up:∀{i j:Nat},i<=j->j<n->bey KY left key xs b i=false->bey KY left key xs b j=false:=λ{i j} a2 hj hf=>by
  cases c:bey KY left key xs b j with
  |false=>rfl
  |true=>rw[ZY u a2 hj c]at hf;cases hf
 have look:∀{α:Type}(i:Nat) (k:Option Bool->StateT SortSt Sem α) (R:α->SortSt->Prop),i<n->(bey KY left key xs b i=true->TQ J M A E (k (some true)) R st)->(bey KY left key xs b i=false->TQ J M A E (k (some false)) R st) →
   TQ J M A E ((do let x <-elem' xs (b+i);if left=true then lt' x key else do return (<-lt' key x).map (!·)) >>= k) R st:=λ{α} i k R hi h1 h2=>by
  obtain⟨p,e,m⟩:=hS.get (show b+i<xs.size by lia)
  have kp:=z6 (KY:=KY) e
  refine zr (zr (xu e ?_))
  cases S:left with
  |true =>
   rw[if_pos rfl]
   refine L p key st _ m a1 hk ?_
   by_cases c:KY p<KY key
   ·rw[wm c];exact h1 (by unfold bey;rw[if_pos S,kp];exact wm c)
   ·rw[wx c];exact h2 (by unfold bey;rw[if_pos S,kp];exact wx c)
  |false =>
   rw[if_neg (by simp)]
   refine zr (L key p st _ a1 m hk ?_)
   have nl:¬left=true:=by rw[S];simp
   by_cases c:KY key<KY p
   ·rw[wm c];exact zw (h2 (by unfold bey;rw[if_neg nl,kp,wm c];rfl))
   ·rw[wx c];exact zw (h1 (by unfold bey;rw[if_neg nl,kp,wx c];rfl))
 refine(?_:TQ J M A E (_ >>= _) Q st)
 refine look F _ Q hh (λz=>?_) (λz=>?_)
 ·nofun
  rw[if_pos rfl]
  refine zr (xV (xU (I:=λx c O=>O=st/\∃l o,c=(none,l,o)/\l<o/\x+1<=o/\F+l<n/\bey KY left key xs b (F+l)=true)
   (Q:=λc O=>O=st/\∃l o,c=(none,l,o)/\l<o/\F+l<n/\bey KY left key xs b (F+l)=true/\(n-F<=o\/F+o<n/\bey KY left key xs b (F+o)=false)) ?_ ?_ ⟨rfl,0,1,rfl,by lia,by lia,by lia,z⟩) ?_)
  ·rintro x c O x1 x2 G;rcases q:G with⟨rfl,l,o,rfl,lo,xo,S,Y⟩
   nofun
   by_cases g:o>=n-F
   ·rw[if_pos g];exact zw ⟨rfl,l,o,rfl,lo,S,Y,.inl g⟩
   ·rw[if_neg g]
    refine look (F+o) _ _ ∅ (λU=>?_) (λU=>?_)
    ·exact zw ⟨rfl,o,2*o+1,rfl,by lia,by lia,by lia,U⟩
    ·exact zw ⟨rfl,l,o,rfl,lo,S,Y,.inr ⟨by lia,U⟩⟩
  ·rintro c O G;rcases q:G with⟨rfl,l,o,rfl,lo,xo,S,Y⟩
   exact⟨rL,l,o,rL,lo,S,Y,.inl ∅⟩
  ·rintro c O G;rcases q:G with⟨rfl,l,o,rfl,lo,S,Y,hf⟩
   nofun
   have b1:∀i,i<F+l+1->bey KY left key xs b i=true:=λi hi=>ZY u (show i<=F+l by lia) S Y
   have b2:∀i,F+min o (n-F)<=i->i<n->bey KY left key xs b i=false:=λi h1 h2=>by
    rcases hf with hf | ⟨h3,h4⟩
    ·lia
    ·exact up ∅ h2 h4
   have b3:F+l+1<=F+min o (n-F):=by lia
   have b4:F+min o (n-F)<=n:=by lia
   generalize F+l+1=p at b1 b3
   generalize F+min o (n-F)=q at b2 b3 b4
   refine zr (xV (xU (I:=λx c s'=>s'=O/\∃l r,c=(none,l,r)/\l<=r/\r<=n/\r-l<=n-x/\(∀i,i<l->bey KY left key xs b i=true)/\∀i,r<=i->i<n->bey KY left key xs b i=false)
    (Q:=λc s'=>s'=O/\∃l,c=(none,l,l)/\l<=n/\(∀i,i<l->bey KY left key xs b i=true)/\∀i,l<=i->i<n->bey KY left key xs b i=false) ?_ ?_ ⟨rfl,p,q,rfl,b3,b4,by lia,b1,b2⟩) ?_)
   ·rintro x c s' x1 x2 G;rcases q:G with⟨rfl,l,r,rfl,lr,rn,m,V,W⟩
    nofun
    by_cases g:l>=r
    ·rw[if_pos g];obtain rfl:l=r:=by lia
     exact zw ⟨rL,l,rL,rn,V,W⟩
    ·rw[if_neg g]
     refine look (l+(r-l)/2) _ _ ∅ (λU=>?_) (λU=>?_)
     ·exact zw ⟨rfl,l+(r-l)/2+1,r,rfl,by lia,by lia,by lia,λi hi=>ZY u (show i<=l+(r-l)/2 by lia) ∅ U,W⟩
     ·exact zw ⟨rfl,l,l+(r-l)/2,rfl,by lia,by lia,by lia,V,λi h1 h2=>up h1 h2 U⟩
   ·rintro c s' G;rcases q:G with⟨rfl,l,r,rfl,lr,rn,m,V,W⟩
    obtain rfl:l=r:=by lia
    exact⟨rL,l,rL,rn,V,W⟩
   ·rintro c s' G;rcases q:G with⟨rfl,l,rfl,ln,V,W⟩
    exact zw (h l ln V W)
 ·nofun
  rw[if_neg (by simp)]
  refine zr (xV (xU (I:=λx c O=>O=st/\∃l o,c=(none,l,o)/\l<o/\x+1<=o/\l<=F/\bey KY left key xs b (F-l)=false)
   (Q:=λc O=>O=st/\∃l o,c=(none,l,o)/\l<o/\l<=F/\bey KY left key xs b (F-l)=false/\(F+1<=o\/o<=F/\bey KY left key xs b (F-o)=true)) ?_ ?_ ⟨rfl,0,1,rfl,by lia,by lia,by lia,z⟩) ?_)
  ·rintro x c O x1 x2 G;rcases q:G with⟨rfl,l,o,rfl,lo,xo,S,Y⟩
   nofun
   by_cases g:o>=F+1
   ·rw[if_pos g];exact zw ⟨rfl,l,o,rfl,lo,S,Y,.inl g⟩
   ·rw[if_neg g]
    refine look (F-o) _ _ ∅ (λU=>?_) (λU=>?_)
    ·exact zw ⟨rfl,l,o,rfl,lo,S,Y,.inr ⟨by lia,U⟩⟩
    ·exact zw ⟨rfl,o,2*o+1,rfl,by lia,by lia,by lia,U⟩
  ·rintro c O G;rcases q:G with⟨rfl,l,o,rfl,lo,xo,S,Y⟩
   exact⟨rL,l,o,rL,lo,S,Y,.inl ∅⟩
  ·rintro c O G;rcases q:G with⟨rfl,l,o,rfl,lo,S,Y,hf⟩
   nofun
   have b1:∀i,i<F+1-min o (F+1)->bey KY left key xs b i=true:=λi hi=>by
    rcases hf with hf | ⟨h3,h4⟩
    ·lia
    ·exact ZY u (show i<=F-o by lia) ∅ h4
   have b2:∀i,F-l<=i->i<n->bey KY left key xs b i=false:=λi h1 h2=>up h1 h2 Y
   have b3:F+1-min o (F+1)<=F-l:=by
    rcases hf with hf | ⟨h3,h4⟩ <;> lia
   have b4:F-l<=n:=by lia
   generalize F+1-min o (F+1)=p at b1 b3
   generalize F-l=q at b2 b3 b4
   refine zr (xV (xU (I:=λx c s'=>s'=O/\∃l r,c=(none,l,r)/\l<=r/\r<=n/\r-l<=n-x/\(∀i,i<l->bey KY left key xs b i=true)/\∀i,r<=i->i<n->bey KY left key xs b i=false)
    (Q:=λc s'=>s'=O/\∃l,c=(none,l,l)/\l<=n/\(∀i,i<l->bey KY left key xs b i=true)/\∀i,l<=i->i<n->bey KY left key xs b i=false) ?_ ?_ ⟨rfl,p,q,rfl,b3,b4,by lia,b1,b2⟩) ?_)
   ·rintro x c s' x1 x2 G;rcases q:G with⟨rfl,l,r,rfl,lr,rn,m,V,W⟩
    nofun
    by_cases g:l>=r
    ·rw[if_pos g];obtain rfl:l=r:=by lia
     exact zw ⟨rL,l,rL,rn,V,W⟩
    ·rw[if_neg g]
     refine look (l+(r-l)/2) _ _ ∅ (λU=>?_) (λU=>?_)
     ·exact zw ⟨rfl,l+(r-l)/2+1,r,rfl,by lia,by lia,by lia,λi hi=>ZY u (show i<=l+(r-l)/2 by lia) ∅ U,W⟩
     ·exact zw ⟨rfl,l,l+(r-l)/2,rfl,by lia,by lia,by lia,V,λi h1 h2=>up h1 h2 U⟩
   ·rintro c s' G;rcases q:G with⟨rfl,l,r,rfl,lr,rn,m,V,W⟩
    obtain rfl:l=r:=by lia
    exact⟨rL,l,rL,rn,V,W⟩
   ·rintro c s' G;rcases q:G with⟨rfl,l,rfl,ln,V,W⟩
    exact zw (h l ln V W)
variable {J:Shared->Prop}{M:Model}{A:Around}{E:Value->Shared->Prop}{KY:Keyed->Int}{a₀:Array Keyed}{κ:SortKind}
structure Mg (KY:Keyed->Int) (a b out:Array Keyed) (ia ib:Nat):Prop where
 pm:(out.toList++(a.toList.drop ia++b.toList.drop ib)).Perm (a.toList++b.toList)
 so:out.toList.Pairwise λx y=>KY x<=KY y
 ca:∀x,x∈out.toList->∀i,ia<=i->i<a.size->KY x<=kx KY a i
 cb:∀x,x∈out.toList->∀j,ib<=j->j<b.size->KY x<=kx KY b j
structure Res (KY:Keyed->Int) (a b out:Array Keyed):Prop where
 pm:out.toList.Perm (a.toList++b.toList)
 so:out.toList.Pairwise λx y=>KY x<=KY y
theorem vN {xs:Array Keyed}{i k:Nat}{p:Keyed}(h:p∈(xs.extract i (i+k)).toList):∃n,i<=n/\n<i+k/\n<xs.size/\xs[n]?=some p:=by
 obtain⟨j,F⟩:=Wr.mp h
 rw[wR,Wn]at F
 split at F
 ·have:=(wZ.mp F).1
  exact⟨i+j,by omega,by omega,this,F⟩
 ·cases F
theorem Xp {xs:Array Keyed}{i k:Nat}:(xs.extract i (i+k)).toList=(xs.toList.drop i).take k:=by
 rw[Array.toList_extract,Yx,show i+k-i=k by lia]
theorem Xm {xs:Array Keyed}{i k:Nat}:xs.toList.drop i=(xs.extract i (i+k)).toList++xs.toList.drop (i+k):=by
 rw[Xp,<-List.drop_drop,yQ]
theorem zal {xs:Array Keyed}{i k:Nat}(u:Up KY xs 0 xs.size):(xs.extract i (i+k)).toList.Pairwise λx y=>KY x<=KY y:=by
 rw[uc]
 intro p q F I G
 have e1:(xs.extract i (i+k))[p]?=some ((xs.extract i (i+k)).toList[p]):=by rw[<-wR];exact wH F
 have e2:(xs.extract i (i+k))[q]?=some ((xs.extract i (i+k)).toList[q]):=by rw[<-wR];exact wH I
 rw[Wn]at e1 e2
 split at e1
 ·split at e2
  ·rw[<-z6 (KY:=KY) e1,<-z6 (KY:=KY) e2]
   have:=(wZ.mp e2).1
   exact u _ _ (yb _) ∅ this
  ·cases e2
 ·cases e1
theorem Qy {l r:List Keyed}(h1:l.Pairwise λx y=>KY x<=KY y) (h2:r.Pairwise λx y=>KY x<=KY y) (F:∀x,x∈l->∀y,y∈r->KY x<=KY y):(l++r).Pairwise λx y=>KY x<=KY y :=
 List.pairwise_append.mpr ⟨h1,h2,F⟩
section
variable {a b out:Array Keyed}{ia ib:Nat}
theorem Mg.left (h:Mg KY a b out ia ib) (O:Up KY a 0 a.size){k:Nat}(V:∀i j,ia<=i->i<ia+k->i<a.size->ib<=j->j<b.size->kx KY a i<=kx KY b j):Mg KY a b (out++a.extract ia (ia+k)) (ia+k) ib:=by
 refine⟨?_,?_,λx m i h1 h2=>?_,λx m j h1 h2=>?_⟩
 ·have:=h.pm
  rw[Xm (xs:=a) (i:=ia) (k:=k)]at this
  rw[yB]
  simpa [yo]using this
 ·rw[yB]
  refine Qy h.so (zal O) λx S y U=>?_
  obtain⟨n,F,I,G,e⟩:=vN U
  rw[<-z6 (KY:=KY) e];exact h.ca x S n F G
 ·rw[yB]at m
  rcases ya.mp m with m | m
  ·exact h.ca x m i ∅ h2
  ·obtain⟨n,F,I,G,e⟩:=vN m
   rw[<-z6 (KY:=KY) e];exact O n i (yb _) ∅ h2
 ·rw[yB]at m
  rcases ya.mp m with m | m
  ·exact h.cb x m j h1 h2
  ·obtain⟨n,F,I,G,e⟩:=vN m
   rw[<-z6 (KY:=KY) e];exact V n j F I G h1 h2
theorem Mg.right (h:Mg KY a b out ia ib) (O:Up KY b 0 b.size){k:Nat}(V:∀i j,ib<=j->j<ib+k->j<b.size->ia<=i->i<a.size->kx KY b j<=kx KY a i):Mg KY a b (out++b.extract ib (ib+k)) ia (ib+k):=by
 refine⟨?_,?_,λx m i h1 h2=>?_,λx m j h1 h2=>?_⟩
 ·have:=h.pm
  rw[Xm (xs:=b) (i:=ib) (k:=k)]at this
  rw[yB]
  refine List.Perm.trans ?_ this
  rw[yo]
  refine List.Perm.append_left _ ?_
  rw[<-yo,<-yo]
  exact List.Perm.append_right _ Ws
 ·rw[yB]
  refine Qy h.so (zal O) λx S y U=>?_
  obtain⟨n,F,I,G,e⟩:=vN U
  rw[<-z6 (KY:=KY) e];exact h.cb x S n F G
 ·rw[yB]at m
  rcases ya.mp m with m | m
  ·exact h.ca x m i h1 h2
  ·obtain⟨n,F,I,G,e⟩:=vN m
   rw[<-z6 (KY:=KY) e];exact V i n F I G h1 h2
 ·rw[yB]at m
  rcases ya.mp m with m | m
  ·exact h.cb x m j ∅ h2
  ·obtain⟨n,F,I,G,e⟩:=vN m
   rw[<-z6 (KY:=KY) e];exact O n j (yb _) ∅ h2
theorem VV {xs:Array Keyed}{i:Nat}{p:Keyed}(e:xs[i]?=some p):xs.extract i (i+1) = #[p]:=by
 apply Array.ext_getElem?
 intro j
 rw[Wn]
 have:=(wZ.mp e).1
 match j with
 |0=>rw[if_pos ∅];simpa using e
 |j+1=>rw[if_neg ∅];simp
theorem Mg.pushL (h:Mg KY a b out ia ib) (F:Up KY a 0 a.size){p:Keyed}(e:a[ia]?=some p) (I:∀j,ib<=j->j<b.size->kx KY a ia<=kx KY b j):Mg KY a b (out.push p) (ia+1) ib:=by
 have:=h.left F (k:=1) λi j h1 h2 S O G=>by rw[show i=ia by lia];exact I j O G
 rw[VV e]at this;exact this
theorem Mg.pushR (h:Mg KY a b out ia ib) (G:Up KY b 0 b.size){p:Keyed}(e:b[ib]?=some p) (I:∀i,ia<=i->i<a.size->kx KY b ib<=kx KY a i):Mg KY a b (out.push p) ia (ib+1):=by
 have:=h.right G (k:=1) λi j h1 h2 S O F=>by rw[show j=ib by lia];exact I i O F
 rw[VV e]at this;exact this
theorem Mg.all (h:Mg KY a b out ia ib) (F:a.size<=ia) (G:b.size<=ib):Res KY a b out:=by
 have:=h.pm
 rw[List.drop_eq_nil_of_le ↥F,List.drop_eq_nil_of_le ↥G,yO,yO]at this
 exact⟨this,h.so⟩
theorem Xr {xs:Array Keyed}{i:Nat}(h:i<=xs.size):xs.extract i xs.size=xs.extract i (i+(xs.size-i)):=by rw[show i+(xs.size-i)=xs.size by lia]
theorem Mg.done (h:Mg KY a b out ia ib) (F:Up KY a 0 a.size) (O:Up KY b 0 b.size) (U:ia<=a.size) (I:ib<=b.size) (e:ia=a.size\/ib=b.size):Res KY a b (out++a.extract ia a.size++b.extract ib b.size):=by
 rw[Xr U,Xr I]
 exact((h.left F (k:=a.size-ia) λi j h1 h2 S V G=>by lia).right O (k:=b.size-ib) λi j h1 h2 S V G=>by lia).all ∅ ∅
theorem Mg.last (h:Mg KY a b out ia ib) (G:Up KY a 0 a.size) (S:Up KY b 0 b.size) (O:ib<=b.size) (e:ia+1=a.size) (U:∀j,j<b.size->kx KY b j<=kx KY a (a.size-1)):Res KY a b (out++b.extract ib b.size++a.extract ia a.size):=by
 rw[Xr (show ia<=a.size by lia),Xr O]
 exact((h.right S (k:=b.size-ib) λi j h1 h2 F V I=>by rw[show i=a.size-1 by lia];exact U j F).left G (k:=a.size-ia) λi j h1 h2 F V I=>by lia).all ∅ ∅
end
structure Gs (st st':SortSt):Prop where
 kind:kindOf st'=kindOf st
 arr:arrOf st'=arrOf st
 pend:pendingOf st'=pendingOf st
 fail:failedOf st'=failedOf st
theorem Gs.refl {st:SortSt}:Gs st st:=⟨rfl,rfl,rfl,rfl⟩
theorem Gs.trans {F G I:SortSt}(h:Gs F G) (g:Gs G I):Gs F I:=⟨g.kind.trans h.kind,g.arr.trans h.arr,g.pend.trans h.pend,g.fail.trans h.fail⟩
def mlo:Array Keyed->Array Keyed->StateT SortSt Sem (Array Keyed):=sortPriv% PySem.Builtin.mergeLo
theorem zdg (L:HLt J M A E κ KY a₀){x y:Keyed}{Q:Option Bool->SortSt->Prop}{st:SortSt}(F:kindOf st=κ) (G:x∈a₀.toList) (I:y∈a₀.toList) (h1:KY x<KY y->Q (some true) st) (h2:¬KY x<KY y->Q (some false) st):TQ J M A E (lt' x y) Q st:=by
 refine L x y st Q G I F ?_
 by_cases c:KY x<KY y
 ·rw[wm c];exact h1 c
 ·rw[wx c];exact h2 c
def pace:Nat->StateT SortSt Sem Unit:=sortPriv% PySem.Builtin.setMinGallop
theorem zdh {n:Nat}{Q:Unit->SortSt->Prop}{st:SortSt}(h:∀F,Gs st F->Q () F):TQ J M A E (pace n) Q st:=by
 refine(?_:TQ J M A E (modify _) Q st)
 exact qr (h _ ⟨rL,rL,rL,rL⟩)
theorem Jn {key:Keyed}{xs:Array Keyed}{b i:Nat}:bey KY true key xs b i=decide (kx KY xs (b+i)<KY key):=rfl
theorem Jm {key:Keyed}{xs:Array Keyed}{b i:Nat}:bey KY false key xs b i = !decide (KY key<kx KY xs (b+i)):=rfl
set_option maxHeartbeats 16000000 in
theorem zkh (L:HLt J M A E κ KY a₀){a b:Array Keyed}{Q:Array Keyed->SortSt->Prop}{st:SortSt}(hk:kindOf st=κ) (Sa:Sub a₀ a) (Sb:Sub a₀ b) (ha:1<=a.size) (hb:1<=b.size) (Y:Up KY a 0 a.size) (V:Up KY b 0 b.size)
  (h0:kx KY b 0<=kx KY a 0) (hl:∀j,j<b.size->kx KY b j<=kx KY a (a.size-1)) (h:∀out F,Res KY a b out->Gs st F->Q out F):TQ J M A E (mlo a b) Q st:=by
 refine zr (Xu ?_)
 nofun
 obtain⟨b0,a6,_⟩:=Sb.get hb
 refine zr (xu a6 ?_)
 have m0:Mg KY a b #[b0] 0 1:=by
  have:Mg KY a b #[] 0 0:=⟨by simp,by simp,λx m=>by simp at m,λx m=>by simp at m⟩
  have:=this.pushR V a6 λi h1 h2=>yu h0 (Y 0 i (wn _) h1 h2)
  simpa using this
 by_cases c1:1=b.size
 ·rw[if_pos ↥c1];exact zw (h _ _ (m0.done Y V ∅ ∅ (.inr c1)) .refl)
 rw[if_neg ↥c1]
 by_cases c2:0+1=a.size
 ·rw[if_pos ↥c2];exact zw (h _ _ (m0.last Y V ∅ c2 hl) .refl)
 rw[if_neg ↥c2]
 refine zr (vX ?_)
 refine zr (xV (xU (I:=λx c F=>∃out ia ib g,c=(none,out,ia,ib,g)/\Mg KY a b out ia ib/\ia+1<a.size/\ib<b.size/\1+x<=ia+ib/\Gs st F)
  (Q:=λc F=>∃r,c.1=some r/\Res KY a b r/\Gs st F) ?_ ?_ ⟨_,0,1,_,rfl,m0,by lia,by lia,by lia,.refl⟩) ?_)
 rotate_left
 ·rintro c F ⟨out,ia,ib,g,rfl,m,i1,i2,i3,_⟩;lia
 ·rintro ⟨c,c'⟩ F ⟨r,e,R,G⟩
  subst e
  exact zw (h r F R G)
 rintro x c a5-hx U;rcases q:U with⟨out,ia,ib,g,rfl,m,i1,i2,i3,G1⟩
 nofun
 refine zr (xV (xU (I:=λx c F=>F=a5/\∃out S W ac bc,c=(none,out,S,W,ac,bc)/\Mg KY a b out S W/\S+1<a.size/\W<b.size/\ia+ib<=S+W)
  (Q:=λc F=>F=a5/\((∃r,c.1=some r/\Res KY a b r)\/∃out S W ac bc,c=(none,out,S,W,ac,bc)/\Mg KY a b out S W/\S+1<a.size/\W<b.size/\ia+ib<=S+W)) ?_ ?_ ⟨rfl,out,ia,ib,0,0,rfl,m,i1,i2,wn _⟩) ?_)
 ·rintro y c a4-hy U;rcases q:U with⟨rfl,o,S,W,ac,bc,rfl,m2,j1,j2,j3⟩
  nofun
  obtain⟨p,ep,mp⟩:=Sb.get j2
  obtain⟨q,eq,mq⟩:=Sa.get (show S<a.size by lia)
  have kp:=z6 (KY:=KY) ep
  have kq:=z6 (KY:=KY) eq
  refine zr (xu ep (zr (xu eq (zr (zdg L (G1.kind.trans hk) mp mq (λz=>?_) (λz=>?_))))))
  ·nofun
   rw[if_pos rfl]
   refine zr (xu ep ?_)
   have m3:=m2.pushR V ep λi h1 h2=>by rw[kp];exact yu (yM z) (by rw[<-kq];exact Y S i (yb _) h1 h2)
   by_cases d:W+1=b.size
   ·rw[if_pos ↥d];exact zw ⟨rfl,.inl ⟨_,rfl,m3.done Y V ∅ ∅ (.inr d)⟩⟩
   rw[if_neg ↥d]
   split
   ·exact zw ⟨rfl,.inr ⟨_,_,_,_,_,rfl,m3,j1,by lia,by lia⟩⟩
   ·exact zw ⟨rfl,_,_,_,_,_,rfl,m3,j1,by lia,by lia⟩
  ·nofun
   rw[if_neg (by simp)]
   refine zr (xu eq ?_)
   have m3:=m2.pushL Y eq λj h1 h2=>by rw[kq];exact yu (Wm.mp z) (by rw[<-kp];exact V W j (yb _) h1 h2)
   by_cases d:S+1+1=a.size
   ·rw[if_pos ↥d];exact zw ⟨rfl,.inl ⟨_,rfl,m3.last Y V ∅ d hl⟩⟩
   rw[if_neg ↥d]
   split
   ·exact zw ⟨rfl,.inr ⟨_,_,_,_,_,rfl,m3,by lia,j2,by lia⟩⟩
   ·exact zw ⟨rfl,_,_,_,_,_,rfl,m3,by lia,j2,by lia⟩
 ·rintro c a4 U;rcases q:U with⟨rfl,o,S,W,ac,bc,rfl,m2,j1,j2,j3⟩
  exact⟨rL,.inr ⟨o,S,W,ac,bc,rL,m2,j1,j2,j3⟩⟩
 rintro c a4 ⟨rfl,⟨r,e,R⟩ | ⟨o,S,W,ac,bc,rfl,m2,j1,j2,j3⟩⟩
 ·obtain⟨c,c'⟩:=c
  cases e
  exact zw ⟨r,rL,R,G1⟩
 nofun
 refine zr (Xu ?_)
 refine zr (xV (xU (I:=λx c F=>Gs st F/\∃out O kb g ac bc,c=(none,out,O,kb,g,ac,bc)/\Mg KY a b out O kb/\O+1<a.size/\kb<b.size/\ia+ib+min x 1<=O+kb)
  (Q:=λc F=>Gs st F/\((∃r,c.1=some r/\Res KY a b r)\/∃out O kb g ac bc,c=(none,out,O,kb,g,ac,bc)/\Mg KY a b out O kb/\O+1<a.size/\kb<b.size/\ia+ib+1<=O+kb)) ?_ ?_ ⟨G1,o,S,W,_,ac,bc,rfl,m2,j1,j2,by lia⟩) ?_)
 rotate_left
 ·rintro c a1 U;rcases q:U with⟨G3,o,O,kb,g,ac,bc,rfl,m3,k1,k2,k3⟩
  exact⟨G3,.inr ⟨o,O,kb,g,ac,bc,rfl,m3,k1,k2,by lia⟩⟩
 ·rintro c a1 ⟨G3,⟨r,e,R⟩ | ⟨o,O,kb,g,ac,bc,rfl,m3,k1,k2,k3⟩⟩
  ·obtain⟨c,c'⟩:=c
   cases e
   exact zw ⟨r,rL,R,G3⟩
  ·nofun
   exact zr (qr (zw ⟨o,O,kb,_,rfl,m3,k1,k2,by lia,G3.trans ⟨rfl,rfl,rfl,rfl⟩⟩))
 rintro y c a1-hy U;rcases q:U with⟨G3,o,O,kb,g,ac,bc,rfl,m3,k1,k2,k3⟩
 nofun
 obtain⟨p,ep,mp⟩:=Sb.get k2
 have kp:=z6 (KY:=KY) ep
 generalize g-1=g1
 revert g1
 refine zgn (g:=g) rL λg=>?_
 all_goals
  refine zr (zdh λa9 G4=>zr (xu ep ?_))
  replace G4:=G3.trans G4
  clear G3 a1
  refine zr (Xt L (KY:=KY) (G4.kind.trans hk) Sa mp ∅ ∅ (λi j h1 h2 h3=>Y i j (yb _) h2 ∅) (λk kn kt kf=>?_))
  nofun
  have a7:∀i,O<=i->i<O+k->kx KY a i<=KY p:=λi h1 h2=>by
   have:=kt (i-O) ∅
   rw[Jm,show O+(i-O)=i by lia]at this
   simpa using this
  have a2:∀i,O+k<=i->i<a.size->KY p<=kx KY a i:=λi h1 h2=>by
   have:=kf (i-O) ∅ ∅
   rw[Jm,show O+(i-O)=i by lia]at this
   have:KY p<kx KY a i:=↥this
   exact yM this
  have m4:=m3.left Y (k:=k) λi j h1 h2 h3 h4 h5=>yu (a7 i h1 h2) (by rw[<-kp];exact V kb j (yb _) h4 h5)
  rcases yW k with k0 | k0
 all_goals first
  | (rw[if_neg (show ¬k>0 by lia)]
     have e0:o++a.extract O (O+k)=o:=by subst k0;apply uQ.mp;rw[yB,Xp,WC,yO]
     rw[e0]at m4
     have i1:O+k+1<a.size:=by lia
     rw[show O+k=O by lia]at m4 i1 a2
     generalize hia:O=S at *
     generalize hoo:o=oo at *)
  | (rw[if_pos k0]
     by_cases d1:O+k+1=a.size
     ·rw[if_pos ↥d1];exact zw ⟨G4,.inl ⟨_,rfl,m4.last Y V ∅ d1 hl⟩⟩
     rw[if_neg ↥d1]
     by_cases d2:O+k=a.size
     ·rw[if_pos ↥d2];exact zw ⟨G4,.inl ⟨_,rfl,m4.done Y V ∅ ∅ (.inl d2)⟩⟩
     rw[if_neg ↥d2]
     have i1:O+k+1<a.size:=by lia
     generalize hia:O+k=S at *
     generalize hoo:o++a.extract O S=oo at *)
 all_goals
  refine zr (xu ep ?_)
  have m5:=m4.pushR V ep λi h1 h2=>by rw[kp];exact a2 i h1 h2
  generalize oo.push p=o5 at m5 ⊢
  by_cases d3:kb+1=b.size
  ·rw[if_pos ↥d3];exact zw ⟨G4,.inl ⟨_,rfl,m5.done Y V ∅ ∅ (.inr d3)⟩⟩
  rw[if_neg ↥d3]
  obtain⟨q,eq,mq⟩:=Sa.get (show S<a.size by lia)
  have kq:=z6 (KY:=KY) eq
  refine zr (xu eq (zr ?_))
  refine Xt L (KY:=KY) (G4.kind.trans hk) Sb mq ∅ ∅ (λi j h1 h2 h3=>V i j (yb _) h2 ∅) (λr rn rt rf=>?_)
  nofun
  have a8:∀i,kb+1<=i->i<kb+1+r->kx KY b i<=KY q:=λi h1 h2=>by
   have:=rt (i-(kb+1)) ∅
   rw[Jn,show kb+1+(i-(kb+1))=i by lia]at this
   exact yM (ww this)
  have a3:∀i,kb+1+r<=i->i<b.size->KY q<=kx KY b i:=λi h1 h2=>by
   have:=rf (i-(kb+1)) ∅ ∅
   rw[Jn,show kb+1+(i-(kb+1))=i by lia]at this
   exact Wm.mp (of_decide_eq_false this)
  have m6:=m5.right V (k:=r) λi j h1 h2 h3 h4 h5=>yu (a8 j h1 h2) (by rw[<-kq];exact Y S i (yb _) h4 h5)
  rcases yW r with r0 | r0
 all_goals first
  | (rw[if_neg (show ¬r>0 by lia)]
     have e6:o5++b.extract (kb+1) (kb+1+r)=o5:=by subst r0;apply uQ.mp;rw[yB,Xp,WC,yO]
     rw[e6]at m6
     rw[show kb+1+r=kb+1 by lia]at m6 a3
     have i6:kb+1<b.size:=by lia
     have j6:kb<=kb+1:=by lia
     generalize kb+1=kc at *
     generalize hoo6:o5=o6 at *)
  | (rw[if_pos r0]
     by_cases d4:kb+1+r=b.size
     ·rw[if_pos ↥d4];exact zw ⟨G4,.inl ⟨_,rfl,m6.done Y V ∅ ∅ (.inr d4)⟩⟩
     rw[if_neg ↥d4]
     have i6:kb+1+r<b.size:=by lia
     have j6:kb<=kb+1+r:=by lia
     generalize hoo6:o5++b.extract (kb+1) (kb+1+r)=o6 at *
     generalize kb+1+r=kc at *)
 all_goals
  refine zr (xu eq ?_)
  have m7:=m6.pushL Y eq λj h1 h2=>by rw[kq];exact a3 j h1 h2
  by_cases d5:S+1+1=a.size
  ·rw[if_pos ↥d5];exact zw ⟨G4,.inl ⟨_,rfl,m7.last Y V ∅ d5 hl⟩⟩
  rw[if_neg ↥d5]
  split
  ·exact zw ⟨G4,.inr ⟨_,_,_,_,_,_,rfl,m7,by lia,by lia,by lia⟩⟩
  ·exact zw ⟨G4,_,_,_,_,_,_,rfl,m7,by lia,by lia,by lia⟩
variable {J:Shared->Prop}{M:Model}{A:Around}{E:Value->Shared->Prop}{KY:Keyed->Int}{a₀:Array Keyed}{κ:SortKind}
structure Mh (KY:Keyed->Int) (a b out:Array Keyed) (na nb:Nat):Prop where
 pm:(a.toList.take na++(b.toList.take nb++out.toList.reverse)).Perm (a.toList++b.toList)
 so:out.toList.reverse.Pairwise λx y=>KY x<=KY y
 ca:∀x,x∈out.toList->∀i,i<na->i<a.size->kx KY a i<=KY x
 cb:∀x,x∈out.toList->∀j,j<nb->j<b.size->kx KY b j<=KY x
theorem JS {xs:Array Keyed}{i n:Nat}(h:i<=n):xs.toList.take n=xs.toList.take i++(xs.extract i n).toList:=by
 have e:n=i+(n-i):=by omega
 rw[e,Xp,List.take_add]
theorem qW {xs:Array Keyed}{i n:Nat}{p:Keyed}(h:p∈(xs.extract i n).toList):∃m,i<=m/\m<n/\m<xs.size/\xs[m]?=some p:=by
 rcases Nat.le_total i n with c | c
 ·rw[show n=i+(n-i) by omega]at h
  obtain⟨m,h1,h2,F,G⟩:=vN h
  exact⟨m,h1,by omega,F,G⟩
 ·have:(xs.extract i n).toList=[]:=by rw[Array.toList_extract,Yx,show n-i=0 by omega,WC]
  rw[this]at h;cases h
theorem za8 {xs:Array Keyed}{i n:Nat}(u:Up KY xs 0 xs.size) (h:i<=n):(xs.extract i n).toList.Pairwise λx y=>KY x<=KY y:=by
 rw[show n=i+(n-i) by omega];exact zal u
section
variable {a b out:Array Keyed}{na nb:Nat}
theorem Vm (o p:Array Keyed):(o++p.reverse).toList.reverse=p.toList++o.toList.reverse:=by simp
theorem Vr {o p:Array Keyed}{x:Keyed}(h:x∈(o++p.reverse).toList):x∈o.toList\/x∈p.toList:=by
 rw[yB,ya,Ya,W8]at h;exact h
theorem Mh.left (h:Mh KY a b out na nb) (S:Up KY a 0 a.size){m:Nat}(U:m<=na) (Y:∀i j,m<=i->i<na->i<a.size->j<nb->j<b.size->kx KY b j<=kx KY a i):Mh KY a b (out++(a.extract m na).reverse) m nb:=by
 refine⟨?_,?_,λx F i h1 h2=>?_,λx F j h1 h2=>?_⟩
 ·have:=h.pm
  rw[JS (xs:=a) U]at this
  rw[Vm]
  refine List.Perm.trans ?_ this
  rw[yo]
  refine List.Perm.append_left _ ?_
  rw[<-yo,<-yo]
  exact List.Perm.append_right _ Ws
 ·rw[Vm]
  refine Qy (za8 S U) h.so λx W y V=>?_
  obtain⟨n,O,I,G,e⟩:=qW W
  rw[<-z6 (KY:=KY) e];exact h.ca y (W8.mp V) n I G
 ·rcases Vr F with F | F
  ·exact h.ca x F i ∅ h2
  ·obtain⟨n,O,I,G,e⟩:=qW F
   rw[<-z6 (KY:=KY) e];exact S i n (yb _) ∅ G
 ·rcases Vr F with F | F
  ·exact h.cb x F j h1 h2
  ·obtain⟨n,O,I,G,e⟩:=qW F
   rw[<-z6 (KY:=KY) e];exact Y n j O I G h1 h2
theorem Mh.right (h:Mh KY a b out na nb) (S:Up KY b 0 b.size){m:Nat}(U:m<=nb) (Y:∀i j,m<=j->j<nb->j<b.size->i<na->i<a.size->kx KY a i<=kx KY b j):Mh KY a b (out++(b.extract m nb).reverse) na m:=by
 refine⟨?_,?_,λx F i h1 h2=>?_,λx F j h1 h2=>?_⟩
 ·have:=h.pm
  rw[JS (xs:=b) U]at this
  rw[Vm]
  simpa [yo]using this
 ·rw[Vm]
  refine Qy (za8 S U) h.so λx W y V=>?_
  obtain⟨n,O,I,G,e⟩:=qW W
  rw[<-z6 (KY:=KY) e];exact h.cb y (W8.mp V) n I G
 ·rcases Vr F with F | F
  ·exact h.ca x F i h1 h2
  ·obtain⟨n,O,I,G,e⟩:=qW F
   rw[<-z6 (KY:=KY) e];exact Y i n O I G h1 h2
 ·rcases Vr F with F | F
  ·exact h.cb x F j ∅ h2
  ·obtain⟨n,O,I,G,e⟩:=qW F
   rw[<-z6 (KY:=KY) e];exact S j n (yb _) ∅ G
theorem JJ {xs:Array Keyed}{n:Nat}{p:Keyed}(e:xs[n-1]?=some p) (h:1<=n):(xs.extract (n-1) n).reverse = #[p]:=by
 have:=VV e
 rw[show n-1+1=n by lia]at this
 rw[this];rfl
theorem Mh.pushL (h:Mh KY a b out na nb) (F:Up KY a 0 a.size){p:Keyed}(h1:1<=na) (e:a[na-1]?=some p) (I:∀j,j<nb->j<b.size->kx KY b j<=kx KY a (na-1)):Mh KY a b (out.push p) (na-1) nb:=by
 have:=h.left F (m:=na-1) ∅ λi j h1 h2 S O G=>by rw[show i=na-1 by lia];exact I j O G
 rw[JJ e h1]at this;exact this
theorem Mh.pushR (h:Mh KY a b out na nb) (G:Up KY b 0 b.size){p:Keyed}(h1:1<=nb) (e:b[nb-1]?=some p) (I:∀i,i<na->i<a.size->kx KY a i<=kx KY b (nb-1)):Mh KY a b (out.push p) na (nb-1):=by
 have:=h.right G (m:=nb-1) ∅ λi j h1 h2 S O F=>by rw[show j=nb-1 by lia];exact I i O F
 rw[JJ e h1]at this;exact this
theorem Mh.all (h:Mh KY a b out 0 0):Res KY a b out.reverse:=by
 have:=h.pm
 rw[WC,WC,WM,WM]at this
 exact⟨by rw[Ya];exact this,by rw[Ya];exact h.so⟩
theorem Vx (o p:Array Keyed):(o++p.reverse).reverse=p++o.reverse:=by
 apply uQ.mp;simp
theorem Mh.done (h:Mh KY a b out na nb) (F:Up KY a 0 a.size) (I:Up KY b 0 b.size) (e:na=0\/nb=0):Res KY a b (a.extract 0 na++b.extract 0 nb++out.reverse):=by
 have:=((h.right I (m:=0) ∅ λi j h1 h2 O S G=>by lia).left F (m:=0) ∅ λi j h1 h2 O S G=>by lia).all
 rw[Vx,Vx,<-WH]at this;exact this
theorem Mh.first (h:Mh KY a b out na nb) (F:Up KY a 0 a.size) (O:Up KY b 0 b.size) (e:nb=1) (S:kx KY b 0<=kx KY a 0):Res KY a b (b.extract 0 nb++a.extract 0 na++out.reverse):=by
 have:=((h.left F (m:=0) ∅ λi j h1 h2 G U I=>by rw[show j=0 by lia];exact yu S (F 0 i (wn _) ∅ G)).right O (m:=0) ∅ λi j h1 h2 G U I=>by lia).all
 rw[Vx,Vx,<-WH]at this;exact this
end
def mhi:Array Keyed->Array Keyed->StateT SortSt Sem (Array Keyed):=sortPriv% PySem.Builtin.mergeHi
set_option maxHeartbeats 16000000 in
theorem zkg (L:HLt J M A E κ KY a₀){a b:Array Keyed}{Q:Array Keyed->SortSt->Prop}{st:SortSt}(hk:kindOf st=κ) (Sa:Sub a₀ a) (Sb:Sub a₀ b) (ha:1<=a.size) (hb:1<=b.size) (S:Up KY a 0 a.size) (U:Up KY b 0 b.size)
  (h0:kx KY b 0<=kx KY a 0) (hl:∀j,j<b.size->kx KY b j<=kx KY a (a.size-1)) (h:∀out F,Res KY a b out->Gs st F->Q out F):TQ J M A E (mhi a b) Q st:=by
 refine zr (Xu ?_)
 nofun
 obtain⟨a0,a2,_⟩:=Sa.get (show a.size-1<a.size by lia)
 refine zr (xu a2 ?_)
 have m0:Mh KY a b #[a0] (a.size-1) b.size:=by
  have:Mh KY a b #[] a.size b.size:=⟨by rw[show a.size=a.toList.length by simp,show b.size=b.toList.length by simp,yr,yr];simp,by simp,λx m=>by simp at m,λx m=>by simp at m⟩
  have:=this.pushL S ha a2 λj h1 h2=>hl j h1
  simpa using this
 by_cases c1:a.size-1=0
 ·rw[if_pos ↥c1]
  have R:=m0.done S U (.inl c1)
  exact zw (h _ _ R .refl)
 rw[if_neg ↥c1]
 by_cases c2:b.size=1
 ·rw[if_pos ↥c2];exact zw (h _ _ (m0.first S U c2 h0) .refl)
 rw[if_neg ↥c2]
 refine zr (vX ?_)
 refine zr (xV (xU (I:=λx c F=>∃na nb out g,c=(none,na,nb,out,g)/\Mh KY a b out na nb/\1<=na/\na<=a.size/\2<=nb/\nb<=b.size/\na+nb+1+x<=a.size+b.size/\Gs st F)
  (Q:=λc F=>∃r,c.1=some r/\Res KY a b r/\Gs st F) ?_ ?_ ⟨a.size-1,b.size,_,_,rfl,m0,by lia,by lia,by lia,by lia,by lia,.refl⟩) ?_)
 rotate_left
 ·rintro c F ⟨na,nb,out,g,rfl,m,i1,i2,i3,i4,i5,_⟩;lia
 ·rintro ⟨c,c'⟩ F ⟨r,e,R,G⟩
  subst e
  exact zw (h r F R G)
 rintro x c a4-hx Y;rcases q:Y with⟨na,nb,out,g,rfl,m,i1,i2,i3,i4,i5,G1⟩
 nofun
 refine zr (xV (xU (I:=λx c F=>F=a4/\∃W V out ac bc,c=(none,W,V,out,ac,bc)/\Mh KY a b out W V/\1<=W/\W<=na/\2<=V/\V<=nb)
  (Q:=λc F=>F=a4/\((∃r,c.1=some r/\Res KY a b r)\/∃W V out ac bc,c=(none,W,V,out,ac,bc)/\Mh KY a b out W V/\1<=W/\W<=na/\2<=V/\V<=nb)) ?_ ?_ ⟨rfl,na,nb,out,0,0,rfl,m,i1,wn _,i3,wn _⟩) ?_)
 ·rintro y c a3-hy Y;rcases q:Y with⟨rfl,W,V,o,ac,bc,rfl,m2,j1,j2,j3,j4⟩
  nofun
  obtain⟨p,ep,mp⟩:=Sb.get (show V-1<b.size by lia)
  obtain⟨q,eq,mq⟩:=Sa.get (show W-1<a.size by lia)
  have kp:=z6 (KY:=KY) ep
  have kq:=z6 (KY:=KY) eq
  refine zr (xu ep (zr (xu eq (zr (zdg L (G1.kind.trans hk) mp mq (λz=>?_) (λz=>?_))))))
  ·nofun
   rw[if_pos rfl]
   refine zr (xu eq ?_)
   have m3:=m2.pushL S j1 eq λj h1 h2=>by rw[kq];exact yu (by rw[<-kp];exact U j (V-1) (yb _) ∅ ∅) (yM z)
   by_cases d:W-1=0
   ·rw[if_pos ↥d];exact zw ⟨rfl,.inl ⟨_,rfl,m3.done S U (.inl d)⟩⟩
   rw[if_neg ↥d]
   split
   ·exact zw ⟨rfl,.inr ⟨_,_,_,_,_,rfl,m3,by lia,by lia,j3,j4⟩⟩
   ·exact zw ⟨rfl,_,_,_,_,_,rfl,m3,by lia,by lia,j3,j4⟩
  ·nofun
   rw[if_neg (by simp)]
   refine zr (xu ep ?_)
   have m3:=m2.pushR U ∅ ep λi h1 h2=>by rw[kp];exact yu (by rw[<-kq];exact S i (W-1) (yb _) ∅ ∅) (Wm.mp z)
   by_cases d:V-1=1
   ·rw[if_pos ↥d];exact zw ⟨rfl,.inl ⟨_,rfl,m3.first S U d h0⟩⟩
   rw[if_neg ↥d]
   split
   ·exact zw ⟨rfl,.inr ⟨_,_,_,_,_,rfl,m3,j1,j2,by lia,by lia⟩⟩
   ·exact zw ⟨rfl,_,_,_,_,_,rfl,m3,j1,j2,by lia,by lia⟩
 ·rintro c a3 ⟨rfl,z⟩
  exact⟨rL,.inr z⟩
 rintro c a3 ⟨rfl,⟨r,e,R⟩ | ⟨W,V,o,ac,bc,rfl,m2,j1,j2,j3,j4⟩⟩
 ·obtain⟨c,c'⟩:=c
  cases e
  exact zw ⟨r,rL,R,G1⟩
 nofun
 refine zr (Xu ?_)
 refine zr (xV (xU (I:=λx c F=>Gs st F/\∃O kb out g ac bc,c=(none,O,kb,out,g,ac,bc)/\Mh KY a b out O kb/\1<=O/\O<=na/\2<=kb/\kb<=nb/\O+kb+min x 1<=na+nb)
  (Q:=λc F=>Gs st F/\((∃r,c.1=some r/\Res KY a b r)\/∃O kb out g ac bc,c=(none,O,kb,out,g,ac,bc)/\Mh KY a b out O kb/\1<=O/\O<=na/\2<=kb/\kb<=nb/\O+kb+1<=na+nb)) ?_ ?_ ⟨G1,W,V,o,_,ac,bc,rfl,m2,j1,j2,j3,j4,by lia⟩) ?_)
 rotate_left
 ·rintro c a1 Y;rcases q:Y with⟨G3,O,kb,o,g,ac,bc,rfl,m3,k1,k2,k3,k4,k5⟩
  exact⟨G3,.inr ⟨O,kb,o,g,ac,bc,rfl,m3,k1,k2,k3,k4,by lia⟩⟩
 ·rintro c a1 ⟨G3,⟨r,e,R⟩ | ⟨O,kb,o,g,ac,bc,rfl,m3,k1,k2,k3,k4,k5⟩⟩
  ·obtain⟨c,c'⟩:=c
   cases e
   exact zw ⟨r,rL,R,G3⟩
  ·nofun
   exact zr (qr (zw ⟨O,kb,o,_,rfl,m3,k1,by lia,k3,by lia,by lia,G3.trans ⟨rfl,rfl,rfl,rfl⟩⟩))
 rintro y c a1-hy Y;rcases q:Y with⟨G3,O,kb,o,g,ac,bc,rfl,m3,k1,k2,k3,k4,k5⟩
 nofun
 obtain⟨p,ep,mp⟩:=Sb.get (show kb-1<b.size by lia)
 have kp:=z6 (KY:=KY) ep
 generalize g-1=g1
 revert g1
 refine zgn (g:=g) rL λg=>?_
 all_goals
  refine zr (zdh λa9 G4=>zr (xu ep ?_))
  replace G4:=G3.trans G4
  clear G3 a1
  refine zr (Xt L (KY:=KY) (G4.kind.trans hk) Sa mp ∅ ∅ (λi j h1 h2 h3=>S i j (yb _) h2 ∅) (λk kn kt kf=>?_))
  nofun
  have a8:∀i,i<k->kx KY a i<=KY p:=λi h1=>by
   have:=kt i h1
   rw[Jm,YX]at this
   simpa using this
  have a6:∀i,k<=i->i<O->KY p<=kx KY a i:=λi h1 h2=>by
   have:=kf i h1 h2
   rw[Jm,YX]at this
   have:KY p<kx KY a i:=↥this
   exact yM this
  have m4:=m3.left S (m:=k) kn λi j h1 h2 h3 h4 h5=>yu (by rw[<-kp];exact U j (kb-1) (yb _) ∅ ∅) (a6 i h1 h2)
  rcases yW (O-k)with k0 | k0
 all_goals first
  | (rw[if_neg (show ¬O-k>0 by lia)]
     obtain rfl:k=O:=by lia
     have e0:o++(a.extract k k).reverse=o:=by apply uQ.mp;simp
     rw[e0]at m4
     have l1:1<=k:=k1
     have l2:k<=na:=k2
     generalize hia:k=la at *
     generalize hoo:o=oo at *)
  | (rw[if_pos k0]
     by_cases d1:k=0
     ·rw[if_pos ↥d1];exact zw ⟨G4,.inl ⟨_,rfl,m4.done S U (.inl d1)⟩⟩
     rw[if_neg ↥d1]
     have l1:1<=k:=by lia
     have l2:k<=na:=by lia
     generalize hoo:o++(a.extract k O).reverse=oo at *
     generalize hia:k=la at *)
 all_goals
  refine zr (xu ep ?_)
  have m5:=m4.pushR U ∅ ep λi h1 h2=>by rw[kp];exact a8 i h1
  generalize oo.push p=o5 at m5 ⊢
  by_cases d3:kb-1=1
  ·rw[if_pos ↥d3];exact zw ⟨G4,.inl ⟨_,rfl,m5.first S U d3 h0⟩⟩
  rw[if_neg ↥d3]
  obtain⟨q,eq,mq⟩:=Sa.get (show la-1<a.size by lia)
  have kq:=z6 (KY:=KY) eq
  refine zr (xu eq (zr ?_))
  refine Xt L (KY:=KY) (G4.kind.trans hk) Sb mq ∅ ∅ (λi j h1 h2 h3=>U i j (yb _) h2 ∅) (λr rn rt rf=>?_)
  nofun
  have a5:∀i,i<r->kx KY b i<=KY q:=λi h1=>by
   have:=rt i h1
   rw[Jn,YX]at this
   exact yM (ww this)
  have a7:∀i,r<=i->i<kb-1->KY q<=kx KY b i:=λi h1 h2=>by
   have:=rf i h1 h2
   rw[Jn,YX]at this
   exact Wm.mp (of_decide_eq_false this)
  have m6:=m5.right U (m:=r) rn λi j h1 h2 h3 h4 h5=>yu (by rw[<-kq];exact S i (la-1) (yb _) ∅ ∅) (a7 j h1 h2)
  rcases yW (kb-1-r)with r0 | r0
 all_goals first
  | (rw[if_neg (show ¬kb-1-r>0 by lia)]
     have er:r=kb-1:=by lia
     have e6:o5++(b.extract r (kb-1)).reverse=o5:=by rw[er];apply uQ.mp;simp
     rw[e6,er]at m6
     rw[er]at a5
     have q1:2<=kb-1:=by lia
     have q2:kb-1+1<=kb:=by lia
     generalize kb-1=kc at *
     generalize hoo6:o5=o6 at *)
  | (rw[if_pos r0]
     by_cases d4:r=1
     ·rw[if_pos ↥d4];exact zw ⟨G4,.inl ⟨_,rfl,m6.first S U d4 h0⟩⟩
     rw[if_neg ↥d4]
     by_cases d5:r=0
     ·rw[if_pos ↥d5];exact zw ⟨G4,.inl ⟨_,rfl,m6.done S U (.inr d5)⟩⟩
     rw[if_neg ↥d5]
     have q1:2<=r:=by lia
     have q2:r+1<=kb:=by lia
     generalize hoo6:o5++(b.extract r (kb-1)).reverse=o6 at *
     generalize r=kc at *)
 all_goals
  refine zr (xu eq ?_)
  have m7:=m6.pushL S l1 eq λj h1 h2=>by rw[kq];exact a5 j h1
  by_cases d6:la-1=0
  ·rw[if_pos ↥d6];exact zw ⟨G4,.inl ⟨_,rfl,m7.done S U (.inl d6)⟩⟩
  rw[if_neg ↥d6]
  split
  ·exact zw ⟨G4,.inr ⟨_,_,_,_,_,_,rfl,m7,by lia,by lia,by lia,by lia,by lia⟩⟩
  ·exact zw ⟨G4,_,_,_,_,_,_,rfl,m7,by lia,by lia,by lia,by lia,by lia⟩
variable {J:Shared->Prop}{M:Model}{A:Around}{E:Value->Shared->Prop}{KY:Keyed->Int}{a₀:Array Keyed}{κ:SortKind}
def Rn (KY:Keyed->Int) (xs:Array Keyed):Nat->List (Nat×Nat×Nat)->Nat->Prop
 |s,[],e=>s=e
 |s,p::P,e=>p.1=s/\1<=p.2.1/\Up KY xs s (s+p.2.1)/\Rn KY xs (s+p.2.1) P e
theorem Rn.le {xs:Array Keyed}:∀{P:List (Nat×Nat×Nat)}{s e:Nat},Rn KY xs s P e->s+P.length<=e
 |[],s,e,h=>by have h':s=e:=h;rw[h'];exact wn _
 |p::P,s,e,h=>by
  obtain⟨_,h1,_,h2⟩:=h
  have:=Rn.le h2
  rw[wB];lia
theorem VZ {xs:Array Keyed}:∀{P R:List (Nat×Nat×Nat)}{s e:Nat},Rn KY xs s (P++R) e↔∃m,Rn KY xs s P m/\Rn KY xs m R e
 |[],R,s,e=>⟨λh=>⟨s,rfl,h⟩,λ⟨m,h1,h2⟩=>by have h':s=m:=h1;rw[h'];exact h2⟩
 |p::P,R,s,e=>⟨λ⟨h1,h2,h3,h4⟩=>let ⟨m,h5,h6⟩:=VZ.mp h4;⟨m,⟨h1,h2,h3,h5⟩,h6⟩,λ⟨m,⟨h1,h2,h3,h5⟩,h6⟩=>⟨h1,h2,h3,VZ.mpr ⟨m,h5,h6⟩⟩⟩
theorem Rn.keep {xs ys:Array Keyed}:∀{P:List (Nat×Nat×Nat)}{s e:Nat},(∀i,s<=i->i<e->kx KY ys i=kx KY xs i)->Rn KY xs s P e->Rn KY ys s P e
 |[],s,e,_,h=>h
 |p::P,s,e,k,h=>by
  obtain⟨h1,h2,I,G⟩:=h
  have:=Rn.le G
  exact⟨h1,h2,λi j F O S=>by rw[k i F ∅,k j ∅ ∅];exact I i j F O S,Rn.keep (λi a b=>k i ∅ b) G⟩
theorem Rn.like {xs:Array Keyed}:∀{P R:List (Nat×Nat×Nat)}{s e:Nat},R.map (λp=>(p.1,p.2.1))=P.map (λp=>(p.1,p.2.1))->Rn KY xs s P e->Rn KY xs s R e
 |[],[],s,e,_,h=>h
 |[],_::_,s,e,z,h=>by simp at z
 |_::_,[],s,e,z,h=>by simp at z
 |p::P,r::R,s,e,z,h=>by
  obtain⟨h1,h2,I,U⟩:=h
  rw[yn,yn]at z
  obtain⟨G,S⟩:=List.cons.inj z
  obtain⟨O,F⟩:=Prod.mk.inj G
  exact⟨O.trans h1,by rw[F];exact h2,by rw[F];exact I,by rw[F];exact Rn.like S U⟩
theorem VB {xs:Array Keyed}{s m e:Nat}(h1:Up KY xs s m) (h2:Up KY xs m e) (h:∀i j,s<=i->i<m->m<=j->j<e->kx KY xs i<=kx KY xs j):Up KY xs s e:=λi j F I G=>by
 by_cases c:j<m
 ·exact h1 i j F I c
 ·by_cases d:m<=i
  ·exact h2 i j d I G
  ·exact h i j F ∅ ∅ G
def wr (xs:Array Keyed) (o:Nat) (l:List Keyed) (n:Nat):Array Keyed:=(l.zipIdx n).foldl (λa x=>a.setIfInBounds (o+x.2) x.1) xs
theorem zcn (o:Nat):∀(l:List Keyed) (n:Nat) (xs:Array Keyed),o+n+l.length<=xs.size->∀j,(wr xs o l n)[j]?=if o+n<=j/\j<o+n+l.length then l[j-(o+n)]? else xs[j]?
 |[],n,xs,h,j=>by rw[if_neg (by simp)];rfl
 |p::l,n,xs,h,j=>by
  rw[wB]at h ⊢
  show (wr (xs.setIfInBounds (o+n) p) o l (n+1))[j]?=_
  rw[zcn o l (n+1) _ (by rw[Array.size_setIfInBounds];lia) j,Array.getElem?_setIfInBounds]
  by_cases c:j=o+n
  ·subst c
   rw[if_neg ∅,if_pos rfl,if_pos ∅,if_pos ∅,Wq];rfl
  ·rw[if_neg (show ¬o+n=j by lia)]
   by_cases d:o+n+1<=j/\j<o+n+1+l.length
   ·rw[if_pos ∅,if_pos ∅,show j-(o+n)=j-(o+(n+1))+1 by lia];rfl
   ·rw[if_neg ∅,if_neg ∅]
theorem zh0 {xs:Array Keyed}{o:Nat}{l:List Keyed}(h:o+l.length<=xs.size):(wr xs o l 0).toList=xs.toList.take o++(l++xs.toList.drop (o+l.length)):=by
 apply uL
 intro j
 rw[wR,zcn o l 0 xs ∅,Nat.add_zero]
 have hs:xs.toList.length=xs.size:=wO
 by_cases c1:j<o
 ·rw[if_neg ∅,yd (by rw[yk];lia),WF c1,wR]
 ·rw[wV (by rw[yk];lia),yk,hs,show min o xs.size=o by lia]
  by_cases c2:j<o+l.length
  ·rw[if_pos ∅,yd ∅]
  ·rw[if_neg ∅,wV ∅,WN,<-wR]
   congr 1;lia
theorem vn {xs:Array Keyed}{i n j:Nat}(h:i+j<n):kx KY (xs.extract i n) j=kx KY xs (i+j):=by
 refine xR ?_
 rw[Wn]
 by_cases c:i+j<xs.size
 ·rw[if_pos (by omega)]
 ·rw[if_neg (by omega),uB (by omega)]
theorem VA {xs:Array Keyed}{i n:Nat}(h:n<=xs.size):(xs.extract i n).size=n-i:=by rw[Array.size_extract];lia
theorem QD {xs:Array Keyed}{i n:Nat}(h:Sub a₀ xs):Sub a₀ (xs.extract i n):=λp m=>by
 obtain⟨q,_,_,_,e⟩:=qW m
 exact h p (by obtain⟨h1,h2⟩:=wZ.mp e;rw[<-h2];simp)
theorem Res.key {a b out:Array Keyed}(R:Res KY a b out){j:Nat}(F:j<out.size):(∃i,i<a.size/\kx KY out j=kx KY a i)\/∃i,i<b.size/\kx KY out j=kx KY b i:=by
 have e:out[j]?=some out[j]:=wL F
 have m:out[j]∈out.toList:=by simp
 rcases ya.mp (R.pm.mem_iff.mp m)with m | m
 ·obtain⟨i,hi⟩:=Wr.mp m
  rw[wR]at hi
  exact .inl ⟨i,(wZ.mp hi).1,by rw[z6 e,z6 hi]⟩
 ·obtain⟨i,hi⟩:=Wr.mp m
  rw[wR]at hi
  exact .inr ⟨i,(wZ.mp hi).1,by rw[z6 e,z6 hi]⟩
theorem Res.up {a b out:Array Keyed}(R:Res KY a b out):Up KY out 0 out.size:=λi j _ h2 F=>by
 rcases WO h2 with c | c
 ·rw[c];exact uZ _
 ·have:=uc.mp R.so i j (by rw[wO];lia) (by rw[wO];exact F) c
  rw[z6 (wL (show i<out.size by lia)),z6 (wL F)]
  simpa using this
theorem zdM {xs out:Array Keyed}{F na nb k n:Nat}(hz:F+na+nb<=xs.size) (hk:k<na) (hn:n<=nb) (V:Up KY xs F (F+na)) (U:Up KY xs (F+na) (F+na+nb))
  (k1:∀i,i<k->kx KY xs (F+i)<=kx KY xs (F+na)) (k2:∀i,n<=i->i<nb->kx KY xs (F+na-1)<=kx KY xs (F+na+i)) (n0:1<=n)
  (R:Res KY (xs.extract (F+k) (F+na)) (xs.extract (F+na) (F+na+n)) out) :
  (wr xs (F+k) out.toList 0).Perm xs/\Up KY (wr xs (F+k) out.toList 0) F (F+na+nb)/\∀j,j<F\/F+na+nb<=j->(wr xs (F+k) out.toList 0)[j]?=xs[j]?:=by
 have s1:=VA (xs:=xs) (i:=F+k) (n:=F+na) ∅
 have s2:=VA (xs:=xs) (i:=F+na) (n:=F+na+n) ∅
 have so:out.toList.length=na-k+n:=by rw[R.pm.length_eq,wX,wO,wO,s1,s2];lia
 have a1:out.size=na-k+n:=by rw[<-so,wO]
 have hw:=zcn (F+k) out.toList 0 xs ∅
 have O:∀j,F+k<=j->j<F+na+n->kx KY (wr xs (F+k) out.toList 0) j=kx KY out (j-(F+k)):=λj h1 h2=>xR (by rw[hw,if_pos ∅,wR,Nat.add_zero])
 have G:∀j,j<F+k\/F+na+n<=j->kx KY (wr xs (F+k) out.toList 0) j=kx KY xs j:=λj h1=>xR (by rw[hw,if_neg ∅])
 have mem:∀j,j<out.size->(∃i,k<=i/\i<na/\kx KY out j=kx KY xs (F+i))\/∃i,i<n/\kx KY out j=kx KY xs (F+na+i):=λj hj=>by
  rcases R.key hj with⟨i,h1,h2⟩ | ⟨i,h1,h2⟩
  ·rw[s1]at h1
   refine .inl ⟨k+i,by lia,by lia,?_⟩
   rw[h2,vn ∅,Nat.add_assoc]
  ·rw[s2]at h1
   exact .inr ⟨i,by lia,by rw[h2,vn ∅]⟩
 refine⟨?_,?_,λj h=>?_⟩
 ·rw[uO,zh0 ∅,so]
  have e1:xs.toList=xs.toList.take (F+k)++(((xs.extract (F+k) (F+na)).toList++(xs.extract (F+na) (F+na+n)).toList)++xs.toList.drop (F+na+n)):=by
   have h1:=Xm (xs:=xs) (i:=F+k) (k:=na-k)
   have h2:=Xm (xs:=xs) (i:=F+na) (k:=n)
   rw[show F+k+(na-k)=F+na by lia]at h1
   rw[yo,<-h2,<-h1,yQ]
  have e2:F+k+(na-k+n)=F+na+n:=by lia
  rw[e2]
  refine List.Perm.trans ?_ (List.Perm.of_eq e1.symm)
  exact List.Perm.append_left _ (List.Perm.append_right _ R.pm)
 ·refine VB (m:=F+k) (λi j h1 h2 I=>by rw[G i (.inl ∅),G j (.inl I)];exact V i j h1 h2 ∅) (VB (m:=F+na+n) (λi j h1 h2 I=>by rw[O i h1 ∅,O j ∅ I];exact R.up _ _ (yb _) ∅ ∅) (λi j h1 h2 I=>by rw[G i (.inr h1),G j (.inr ∅)];exact U i j ∅ h2 I) ?_) ?_
  ·intro i j h1 h2 I Y
   rw[O i h1 h2,G j (.inr I)]
   have e:=k2 (j-(F+na)) ∅ ∅
   rw[show F+na+(j-(F+na))=j by lia]at e
   rcases mem (i-(F+k)) ∅with⟨q,W,q2,S⟩ | ⟨q,W,S⟩
   ·rw[S];exact yu (V _ (F+na-1) ∅ ∅ ∅) e
   ·rw[S];exact U _ _ ∅ ∅ Y
  ·intro i j h1 h2 I Y
   rw[G i (.inl h2)]
   have e:=k1 (i-F) ∅
   rw[show F+(i-F)=i by lia]at e
   by_cases c:j<F+na+n
   ·rw[O j I c]
    rcases mem (j-(F+k)) ∅with⟨q,W,q2,S⟩ | ⟨q,W,S⟩
    ·rw[S];exact V _ _ h1 ∅ ∅
    ·rw[S];exact yu e (U _ _ (wn _) ∅ ∅)
   ·rw[G j (.inr ∅)]
    exact yu e (U _ _ (wn _) ∅ Y)
 ·rw[hw,if_neg ∅]
variable {J:Shared->Prop}{M:Model}{A:Around}{E:Value->Shared->Prop}{KY:Keyed->Int}{a₀:Array Keyed}{κ:SortKind}
theorem zd6 {α:Type}{l:List α}{i:Nat}(h:i+1<l.length):∃P p q R,l=P++p::q::R/\P.length=i:=by
 refine⟨l.take i,l[i],l[i+1],l.drop (i+2),?_,by rw[yk];lia⟩
 rw[show i+2=i+1+1 from rfl,List.getElem_cons_drop,List.getElem_cons_drop,yQ]
theorem zhX {Q:PUnit->SortSt->Prop}{st F:SortSt}(h:∀z,z=F->Q ⟨⟩ z):TQ J M A E (set F:StateT SortSt Sem PUnit) Q st:=zki (h _ rfl)
theorem zbx (L:HLt J M A E κ KY a₀){i lo:Nat}{Q:Bool->SortSt->Prop}{st:SortSt}(B:Bs a₀ κ st) (hr:Rn KY (arrOf st) 0 (pendingOf st).toList lo) (b0:lo<=a₀.size) (hi:i+1<(pendingOf st).size)
  (h:∀G,Bs a₀ κ G->Rn KY (arrOf G) 0 (pendingOf G).toList lo->(∀j,lo<=j->(arrOf G)[j]?=(arrOf st)[j]?)->(pendingOf G).size+1=(pendingOf st).size->Q true G):TQ J M A E (mergeAt' i) Q st:=by
 refine zr (vX ?_)
 nofun
 obtain⟨P,⟨sa,na,pw⟩,⟨sb,nb,pq⟩,R,eP,lP⟩:=zd6 (l:=(pendingOf st).toList) (i:=i) (by rw[wO];exact hi)
 have g1:(pendingOf st)[i]?=some (sa,na,pw):=by rw[<-wR,eP,wV ∅,lP,Wq];rfl
 have g2:(pendingOf st)[i+1]?=some (sb,nb,pq):=by rw[<-wR,eP,wV ∅,lP,show i+1-i=1 by lia];rfl
 rw[eP]at hr
 rcases q:VZ.mp hr with⟨m,r1,em,ha,W,en,hb,V,r2⟩
 dsimp only at em ha W en hb V r2
 have a8:m=sa:=em.symm
 subst a8
 have a9:m+na=sb:=en.symm
 subst a9
 clear em en
 have l2:=Rn.le r2
 have sz:=B.size
 have pe:(((pendingOf st).setIfInBounds i (m,na+nb,pw)).eraseIdxIfInBounds (i+1)).toList=P++(m,na+nb,pw)::R:=by
  rw[Array.toList_eraseIdxIfInBounds,Array.toList_setIfInBounds,eP,List.set_append_right _ _ ∅,lP,Wq,List.set_cons_zero,List.eraseIdx_append_of_length_le ∅,lP,show i+1-i=1 by lia];rfl
 have ps:(((pendingOf st).setIfInBounds i (m,na+nb,pw)).eraseIdxIfInBounds (i+1)).size+1=(pendingOf st).size:=by
  rw[<-wO,<-wO,pe,eP];simp;lia
 rw[g1,g2]
 nofun
 refine zr (zhX λI O=>?_)
 have S:Bs a₀ κ I:=by rw[O];exact⟨B.perm,B.kind,B.fail⟩
 have a1:arrOf I=arrOf st:=by rw[O]
 have p1:(pendingOf I).toList=P++(m,na+nb,pw)::R:=by rw[O];exact pe
 have z1:(pendingOf I).size+1=(pendingOf st).size:=by rw[O];exact ps
 clear O pe ps
 obtain⟨p,ep,mp⟩:=B.sub.get (show m+na<(arrOf st).size by lia)
 have kp:=z6 (KY:=KY) ep
 refine zr (xu ep (zr ?_))
 have Y:∀G,Bs a₀ κ G->(pendingOf G)=(pendingOf I)->Up KY (arrOf G) m (m+na+nb)->(∀j,j<m\/m+na+nb<=j->(arrOf G)[j]?=(arrOf st)[j]?)->Q true G:=λG B' q' u' o'=>by
  refine h G B' ?_ (λj hj=>o' j (.inr ∅)) (by rw[q'];exact z1)
  rw[q',p1]
  refine VZ.mpr ⟨m,r1.keep λj h1 h2=>xR (o' j (.inl h2)),rfl,by show 1<=na+nb;lia,by show Up KY (arrOf G) m (m+(na+nb));rw[<-Nat.add_assoc];exact u',?_⟩
  show Rn KY (arrOf G) (m+(na+nb)) R lo
  rw[<-Nat.add_assoc]
  exact r2.keep λj h1 h2=>xR (o' j (.inr h1))
 refine Xt L (KY:=KY) (xs:=arrOf st) S.kind B.sub mp (show m+na<=(arrOf st).size by lia) ∅ W (λk kn kt kf=>?_)
 nofun
 have a4:∀j,j<k->kx KY (arrOf st) (m+j)<=kx KY (arrOf st) (m+na):=λj h1=>by
  have:=kt j h1
  rw[Jm]at this
  rw[kp];simpa using this
 have a6:∀j,k<=j->j<na->kx KY (arrOf st) (m+na)<=kx KY (arrOf st) (m+j):=λj h1 h2=>by
  have:=kf j h1 h2
  rw[Jm]at this
  have:KY p<kx KY (arrOf st) (m+j):=↥this
  rw[kp];exact yM this
 by_cases c1:na-k=0
 ·rw[if_pos ↥c1]
  refine zw (Y I S rfl ?_ λj _=>by rw[a1])
  rw[a1]
  exact VB W V λx y h1 h2 h3 h4=>by
   have:=a4 (x-m) ∅
   rw[show m+(x-m)=x by lia]at this
   exact yu this (V _ _ (wn _) h3 h4)
 rw[if_neg ↥c1]
 have a5:k<na:=by lia
 rw[show m+k+(na-k)-1=m+na-1 by lia]
 obtain⟨q,eq,mq⟩:=B.sub.get (show m+na-1<(arrOf st).size by lia)
 have kq:=z6 (KY:=KY) eq
 refine zr (xu eq (zr ?_))
 refine Xt L (KY:=KY) (xs:=arrOf st) S.kind B.sub mq (show m+na+nb<=(arrOf st).size by lia) ∅ V (λn nn rt rf=>?_)
 nofun
 have a7:∀j,j<n->kx KY (arrOf st) (m+na+j)<=kx KY (arrOf st) (m+na-1):=λj h1=>by
  have:=rt j h1
  rw[Jn]at this
  rw[kq];exact yM (ww this)
 have a3:∀j,n<=j->j<nb->kx KY (arrOf st) (m+na-1)<=kx KY (arrOf st) (m+na+j):=λj h1 h2=>by
  have:=rf j h1 h2
  rw[Jn]at this
  rw[kq];exact Wm.mp (of_decide_eq_false this)
 by_cases c2:n=0
 ·rw[if_pos ↥c2]
  refine zw (Y I S rfl ?_ λj _=>by rw[a1])
  rw[a1]
  exact VB W V λx y h1 h2 h3 h4=>by
   have:=a3 (y-(m+na)) ∅ ∅
   rw[show m+na+(y-(m+na))=y by lia]at this
   exact yu (W _ _ h1 ∅ ∅) this
 rw[if_neg ↥c2]
 have s1:=VA (xs:=arrOf st) (i:=m+k) (n:=m+na) ∅
 have s2:=VA (xs:=arrOf st) (i:=m+na) (n:=m+na+n) ∅
 have u1:Up KY ((arrOf st).extract (m+k) (m+na)) 0 ((arrOf st).extract (m+k) (m+na)).size:=λx y h1 h2 h3=>by
  rw[s1]at h3
  rw[vn ∅,vn ∅];exact W _ _ ∅ ∅ ∅
 have u2:Up KY ((arrOf st).extract (m+na) (m+na+n)) 0 ((arrOf st).extract (m+na) (m+na+n)).size:=λx y h1 h2 h3=>by
  rw[s2]at h3
  rw[vn ∅,vn ∅];exact V _ _ ∅ ∅ ∅
 have w0:kx KY ((arrOf st).extract (m+na) (m+na+n)) 0<=kx KY ((arrOf st).extract (m+k) (m+na)) 0:=by
  rw[vn ∅,vn ∅];exact a6 k (wn _) a5
 have wl:∀j,j<((arrOf st).extract (m+na) (m+na+n)).size->kx KY ((arrOf st).extract (m+na) (m+na+n)) j<=kx KY ((arrOf st).extract (m+k) (m+na)) (((arrOf st).extract (m+k) (m+na)).size-1):=λj hj=>by
  rw[s2]at hj
  rw[s1,vn ∅,vn ∅,show m+k+(m+na-(m+k)-1)=m+na-1 by lia];exact a7 j ∅
 have last:∀out F,Res KY ((arrOf st).extract (m+k) (m+na)) ((arrOf st).extract (m+na) (m+na+n)) out->Gs I F->Q (failedOf F).isNone (SortSt.mk' (kindOf F) (wr (arrOf F) (m+k) out.toList 0) (pendingOf F) (gallopOf F) (failedOf F)):=λout F R2 U=>by
  have f2:failedOf F=none:=U.fail.trans S.fail
  rw[f2]
  obtain⟨w1,w2,w3⟩:=zdM (xs:=arrOf st) ∅ a5 nn W V a4 a3 ∅ R2
  have a2:arrOf F=arrOf st:=U.arr.trans a1
  refine Y _ ⟨?_,U.kind.trans S.kind,rL⟩ U.pend ?_ ?_
  ·show (wr (arrOf F) (m+k) out.toList 0).Perm a₀
   rw[a2];exact w1.trans B.perm
  ·show Up KY (wr (arrOf F) (m+k) out.toList 0) _ _
   rw[a2];exact w2
  ·show ∀j,_->(wr (arrOf F) (m+k) out.toList 0)[j]?=_
   rw[a2];exact w3
 split
 ·exact zr (zkh L (a:=(arrOf st).extract (m+k) (m+na)) (b:=(arrOf st).extract (m+na) (m+na+n)) S.kind (QD B.sub) (QD B.sub) ∅ ∅ u1 u2 w0 wl λout F R2 U=>zr (qr (zr (vX (zw (last out F R2 U))))))
 ·exact zr (zkg L (a:=(arrOf st).extract (m+k) (m+na)) (b:=(arrOf st).extract (m+na) (m+na+n)) S.kind (QD B.sub) (QD B.sub) ∅ ∅ u1 u2 w0 wl λout F R2 U=>zr (qr (zr (vX (zw (last out F R2 U))))))
variable {J:Shared->Prop}{M:Model}{A:Around}{E:Value->Shared->Prop}{KY:Keyed->Int}{a₀:Array Keyed}{κ:SortKind}
theorem zfc:∀(f n r:Nat),1<=n->1<=minRun' f n r
 |0,n,r,h=>by show 1<=n+r;lia
 |f+1,n,r,h=>by
  rw[minRun'_succ]
  split
  ·lia
  ·exact zfc f _ _ ∅
theorem zgT {c:Prop}{d:Decidable c}{n:Nat}(h:2<=n):(@ite _ c d (n-2-1) (n-2))+1<n:=by
 split <;> omega
structure Wt (KY:Keyed->Int) (a₀:Array Keyed) (κ:SortKind) (lo:Nat) (st:SortSt):Prop where
 b:Bs a₀ κ st
 r:Rn KY (arrOf st) 0 (pendingOf st).toList lo
set_option maxHeartbeats 16000000 in
theorem zhW (L:HLt J M A E κ KY a₀){Q:Unit->SortSt->Prop}{st:SortSt}(B:Bs a₀ κ st) (hp:pendingOf st = #[]) (h:∀F,Bs a₀ κ F->Up KY (arrOf F) 0 a₀.size->Q () F):TQ J M A E sortRuns' Q st:=by
 refine zr (vX ?_)
 nofun
 have sz:(arrOf st).size=a₀.size:=B.size
 rw[sz]
 refine zr (xV (xU (I:=λx c F=>∃lo,c=(none,lo)/\Wt KY a₀ κ lo F/\lo<=a₀.size/\min x a₀.size<=lo) (Q:=λc F=>c.1=none/\Wt KY a₀ κ a₀.size F) ?_ ?_ ⟨0,rfl,⟨B,by rw[hp];rfl⟩,yb _,by lia⟩) ?_)
 rotate_left
 ·rintro c a3 a2;rcases q:a2 with⟨lo,rfl,W,l1,l2⟩
  rw[show max 0 a₀.size=a₀.size by lia]at l2
  obtain rfl:lo=a₀.size:=by lia
  exact⟨rL,W⟩
 ·rintro ⟨c,c'⟩ a3 ⟨rfl,W⟩
  refine zr (xV (xU (I:=λx c F=>c=(none,())/\Wt KY a₀ κ a₀.size F/\((pendingOf F).size+x<=a₀.size\/(pendingOf F).size<=1)) (Q:=λc F=>c=(none,())/\Wt KY a₀ κ a₀.size F/\(pendingOf F).size<=1) ?_ ?_ ⟨rL,W,.inl ?_⟩) ?_)
  ·rintro x c O-hx ⟨rfl,U,l2⟩
   refine zr (vX ?_)
   by_cases c1:(pendingOf O).size<=1
   ·rw[if_pos c1];exact zw ⟨rfl,U,c1⟩
   rw[if_neg c1]
   refine zr (zbx L U.b U.r (wn _) (by have c2:2<=(pendingOf O).size:=∅;exact zgT c2) λV B3 r3 _ z3=>?_)
   rw[if_neg (by simp)]
   exact zw ⟨rfl,⟨B3,r3⟩,by lia⟩
  ·rintro c O ⟨rfl,U,l2⟩
   exact⟨rfl,U,by lia⟩
  ·have:=Rn.le W.r
   rw[wO]at this
   lia
  ·rintro c O ⟨rfl,U,l2⟩
   refine zw (h O U.b ?_)
   have r:=U.r
   have hl:(pendingOf O).toList.length<=1:=by rw[wO];exact l2
   match hP:(pendingOf O).toList,hl with
   |[],_ =>
    rw[hP]at r
    have r':0=a₀.size:=r
    rw[<-r'];exact λi j _ _ h3=>absurd h3 (Nat.not_lt_zero _)
   |[p],_ =>
    rw[hP]at r
    obtain⟨_,_,u,e⟩:=r
    have e':0+p.2.1=a₀.size:=e
    rw[e']at u;exact u
 rintro x c a3-hx a2;rcases q:a2 with⟨lo,rfl,W,l1,l2⟩
 nofun
 by_cases c0:lo>=a₀.size
 ·rw[if_pos c0]
  obtain rfl:lo=a₀.size:=by lia
  exact zw ⟨rL,W⟩
 rw[if_neg c0]
 have a4:1<=(sortPriv% PySem.Builtin.minRun) a₀.size a₀.size 0:=zfc _ _ _ ∅
 generalize (sortPriv% PySem.Builtin.minRun) a₀.size a₀.size 0=mr at a4 ⊢
 refine zr (zgm L ∅ ∅ W.b λm O C2 m1 m2 u2=>?_)
 nofun
 have U:Wt KY a₀ κ lo O:=⟨W.b.ch C2,by rw[C2.pend];exact W.r.keep λi h1 h2=>xR (C2.out i (.inl h2))⟩
 clear C2 W
 rcases Yt m mr with c1 | c1
 all_goals first
  | (rw[if_pos c1]
     refine zr (Xu (zr ?_))
     refine zkf L ∅ (show m<=min (a₀.size-lo) mr by lia) U.b u2 λV C3 u3=>?_
     rw[if_neg (by simp)]
     have W3:Wt KY a₀ κ lo V:=⟨U.b.ch C3,by rw[C3.pend];exact U.r.keep λi h1 h2=>xR (C3.out i (.inl h2))⟩
     have n1:1<=min (a₀.size-lo) mr:=by lia
     have n2:lo+min (a₀.size-lo) mr<=a₀.size:=by lia
     generalize min (a₀.size-lo) mr=n at *)
  | (rw[if_neg (show ¬m<mr by lia)]
     have W3:=U
     have u3:=u2
     have n1:1<=m:=m1
     have n2:lo+m<=a₀.size:=by lia
     generalize O=V at *
     generalize m=n at *)
 all_goals
  refine zr (vX ?_)
  have Y:∀G,Wt KY a₀ κ lo G->Up KY (arrOf G) lo (lo+n)->TQ J M A E (do modify (λs=>SortSt.mk' (kindOf s) (arrOf s) ((pendingOf s).push (lo,n,0)) (gallopOf s) (failedOf s));pure (ForInStep.yield ((none:Option Unit),lo+n)))
    (zga (λc F=>c.1=none/\Wt KY a₀ κ a₀.size F) (λc F=>∃lo,c=(none,lo)/\Wt KY a₀ κ lo F/\lo<=a₀.size/\min (x+1) a₀.size<=lo)) G:=λG S u4=>by
   refine zr (qr (zw ⟨lo+n,rfl,⟨⟨S.b.perm,S.b.kind,S.b.fail⟩,?_⟩,n2,by lia⟩))
   show Rn KY (arrOf G) 0 ((pendingOf G).push (lo,n,0)).toList (lo+n)
   rw[YD]
   exact VZ.mpr ⟨lo,S.r,rL,n1,u4,rL⟩
  cases hb:(pendingOf V).back? with
  |none=>exact Y V W3 u3
  |some p =>
   obtain⟨s1,a1,a6⟩:=p
   nofun
   generalize (sortPriv% PySem.Builtin.power) a₀.size (2*s1+a1) (2*s1+a1+a1+n) a₀.size=pw
   refine zr (xV (xU (I:=λy c F=>c=(none,())/\Wt KY a₀ κ lo F/\Up KY (arrOf F) lo (lo+n)) (Q:=λc F=>c=(none,())/\Wt KY a₀ κ lo F/\Up KY (arrOf F) lo (lo+n)) ?_ (λ_ _ z=>z) ⟨rL,W3,u3⟩) ?_)
   ·rintro y c G-hy ⟨rfl,S,u4⟩
    refine zr (vX ?_)
    by_cases c2:(pendingOf G).size>1
    ·obtain⟨⟨f1,f2,a5⟩,ef⟩:∃p,(pendingOf G)[(pendingOf G).size-2]?=some p:=⟨_,wL ∅⟩
     rw[if_pos c2,ef]
     nofun
     split
     ·exact zw ⟨rL,S,u4⟩
     ·refine zr (zbx L S.b S.r ∅ (show (pendingOf G).size-2+1<(pendingOf G).size by lia) λa7 B5 r5 o5 z5=>?_)
      rw[if_neg (by simp)]
      exact zw ⟨rfl,⟨B5,r5⟩,λi j h1 h2 h3=>by rw[xR (o5 i h1),xR (o5 j ∅)];exact u4 i j h1 h2 h3⟩
    ·rw[if_neg c2]
     exact zw ⟨rL,S,u4⟩
   ·rintro c G ⟨rfl,S,u4⟩
    nofun
    refine zr (qr ?_)
    refine Y _ ⟨⟨S.b.perm,S.b.kind,S.b.fail⟩,?_⟩ u4
    refine Rn.like (P:=(pendingOf G).toList) ?_ S.r
    show (((pendingOf G).modify _ _).toList).map _=_
    rw[Array.toList_modify]
    apply uL
    intro i
    rw[wo,wo,List.getElem?_modify]
    split
    ·cases(pendingOf G).toList[i]? <;> rfl
    ·cases(pendingOf G).toList[i]? <;> rfl
end TS
namespace ST
open PySem
def Ris (xs:Array Nat):Prop:=∀(i j x y:Nat),i<j->xs[i]?=some x->xs[j]?=some y->x<y
def zdY (n:Nat):Ris (Array.range n):=λi j x y h e1 e2=>by
 obtain⟨h1,e1⟩:=wZ.mp e1
 obtain⟨h2,e2⟩:=wZ.mp e2
 rw[Array.getElem_range]at e1 e2
 lia
def XF {xs:Array Nat}(R:Ris xs) (j:Nat):SetTable.below xs j<=xs.size/\(∀i x:Nat,i<SetTable.below xs j->xs[i]?=some x->x<j)/\∀i x:Nat,SetTable.below xs j<=i->xs[i]?=some x->j<=x:=by
 have V:∀(f lo hi:Nat),lo<=hi->hi<=xs.size->hi-lo<=f->(∀i x:Nat,i<lo->xs[i]?=some x->x<j)->(∀i x:Nat,hi<=i->xs[i]?=some x->j<=x) →
   SetTable.below.go xs j f lo hi<=xs.size/\(∀i x:Nat,i<SetTable.below.go xs j f lo hi->xs[i]?=some x->x<j)/\∀i x:Nat,SetTable.below.go xs j f lo hi<=i->xs[i]?=some x->j<=x:=by
  intro f
  induction f with
  |zero =>
   intro lo hi h1 h2 W O G
   obtain rfl:lo=hi:=by lia
   exact⟨h2,O,G⟩
  |succ f ih =>
   intro lo hi h1 h2 W O G
   unfold SetTable.below.go
   by_cases c:lo<hi
   ·rw[if_pos c]
    have S:(lo+hi)/2<xs.size:=by lia
    have I:xs[(lo+hi)/2]?=some xs[(lo+hi)/2]:=wL S
    have U:xs.getD ((lo+hi)/2) j=xs[(lo+hi)/2]:=by simp[Array.getD,S]
    nofun
    rw[U]
    by_cases d:xs[(lo+hi)/2]<j
    ·rw[if_pos d]
     refine ih _ _ ∅ h2 ∅ (λi x F ex=>?_) G
     rcases Yt i ((lo+hi)/2)with q | q
     ·exact Nat.lt_trans (R i _ _ _ q ex I) d
     ·obtain rfl:i=(lo+hi)/2:=by lia
      rw[I]at ex;cases ex;exact d
    ·rw[if_neg d]
     refine ih _ _ ∅ ∅ ∅ O (λi x F ex=>?_)
     rcases WO F with q | q
     ·rw[<-q,I]at ex;cases ex;lia
     ·have:=R _ i _ _ q I ex;lia
   ·rw[if_neg c]
    obtain rfl:lo=hi:=by lia
    exact⟨h2,O,G⟩
 exact V xs.size 0 xs.size (yb _) (wn _) ∅ (λi x h=>absurd h (Nat.not_lt_zero _)) (λi x h e=>absurd (wZ.mp e).1 ∅)
def Qu {α:Type}{xs:Array α}{p:Nat}{x:α}(G:p<=xs.size) (i:Nat):(SetTable.insertAt xs p x)[i]?=if i<p then xs[i]? else if i=p then some x else xs[i-1]?:=by
 rw[<-wR,SetTable.toList_insertAt]
 have F:(xs.toList.take p).length=p:=by rw[yk,wO];lia
 by_cases c:i<p
 ·rw[if_pos c,yd ∅,WF c,wR]
 ·rw[if_neg c,wV ∅,F]
  by_cases d:i=p
  ·rw[if_pos d,d,Wq];rfl
  ·rw[if_neg d,show i-p=(i-p-1)+1 by lia,uJ,WN,wR]
   congr 1;lia
def zhx {xs:Array Nat}(R:Ris xs){j:Nat}(S:∀i:Nat,xs[i]?≠some j):Ris (SetTable.insertAt xs (SetTable.below xs j) j):=by
 obtain⟨I,O,G⟩:=XF R j
 generalize SetTable.below xs j=p at *
 intro i k x y F e1 e2
 rw[Qu I]at e1 e2
 by_cases c1:i<p
 ·rw[if_pos c1]at e1
  by_cases c2:k<p
  ·rw[if_pos c2]at e2;exact R i k x y F e1 e2
  ·rw[if_neg c2]at e2
   by_cases c3:k=p
   ·rw[if_pos c3]at e2;cases e2;exact O i x c1 e1
   ·rw[if_neg c3]at e2;exact R i (k-1) x y ∅ e1 e2
 ·rw[if_neg c1]at e1
  rw[if_neg ∅,if_neg ∅]at e2
  by_cases c4:i=p
  ·rw[if_pos c4]at e1;cases e1
   have h1:=G (k-1) y ∅ e2
   have h2:y≠j:=λz=>S (k-1) (by rw[e2,z])
   lia
  ·rw[if_neg c4]at e1;exact R (i-1) (k-1) x y ∅ e1 e2
def Jz {t:SetTable}(R:Ris t.place){j:Nat}(h:∀i:Nat,t.slot j≠.live i):∀i:Nat,t.place[i]?≠some j:=by
 obtain⟨O,G,I⟩:=XF R j
 intro i e
 rcases Nat.lt_trichotomy i (SetTable.below t.place j)with c | c | c
 ·exact absurd (G i j c e) (uD _)
 ·refine h (SetTable.below t.place j) ?_
  unfold SetTable.slot
  nofun
  rw[<-c,e,if_pos (by simp)]
 ·have F:SetTable.below t.place j<t.place.size:=Nat.lt_trans c (wZ.mp e).1
  have h1:=I _ _ (wn _) (wL F)
  have h2:=R _ i _ _ c (wL F) e
  lia
def XR {t:SetTable}{hs:Nat->Int}{h:Int}:∀(f:Nat) (p:SetTable.Probe) (j:Nat) (d:Option Nat),(∀q,p.dummy=some q->∀i,t.slot q≠.live i)->SetTable.probe.go t hs h f p=some (.empty j d)->(∀i,t.slot j≠.live i)/\∀q,d=some q->∀i,t.slot q≠.live i
 |0,p,j,d,_,e=>by cases e
 |f+1,p,j,d,hp,e=>by
  unfold SetTable.probe.go at e
  have F:∀p:SetTable.Probe,(t.advance p).dummy=p.dummy:=λp=>by unfold SetTable.advance;split <;> rfl
  cases hs':t.slot p.j with
  |empty =>
   rw[hs']at e
   cases e
   exact⟨λi z=>by rw[hs']at z;simp at z,hp⟩
  |dummy =>
   rw[hs']at e
   refine XR f _ j d (λq G i=>?_) e
   rw[F]at G
   cases G
   rw[hs'];simp
  |live i =>
   rw[hs']at e
   dsimp only at e
   split at e
   ·cases e
   ·exact XR f _ j d (λq G=>by rw[F]at G;exact hp q G) e
def zaS {t:SetTable}(R:Ris t.place){h:Int}{j:Nat}{b:Bool}(e:t.freeSlot h=some (j,b)):∀i:Nat,t.place[i]?≠some j:=by
 unfold SetTable.freeSlot at e
 split at e
 ·rename_i j' d hp
  obtain⟨h1,h2⟩:=XR _ _ _ _ (λq z=>by unfold SetTable.probeStart at z;cases z) hp
  have F:=Option.some.inj e
  have e1:d.getD j'=j:=congrArg Prod.fst F
  cases d with
  |none=>rw[<-e1];exact Jz R h1
  |some q=>rw[<-e1];exact Jz R (h2 q rfl)
 ·cases e
structure Gd (bt:Bool) (t:SetTable):Prop where
 ris:Ris t.place
 led:bt=false->t.led=true
def Qt {bt:Bool}{t:SetTable}{n:Nat}(h:bt=false->t.led=true):Gd bt (t.standIn n):=⟨zdY n,h⟩
def zkA {bt:Bool}{t:SetTable}{n:Nat}(h:Gd bt t):Gd bt (t.orStandIn n):=by
 unfold SetTable.orStandIn
 split
 ·exact h
 ·exact Qt h.led
def ziJ {bt:Bool}{t:SetTable}(G:Gd bt t) (es:Array (Int×Value)) (h:Int) (x:Value):Gd bt (layNew t es h x).2.1:=by
 unfold layNew
 split
 ·rename_i j b e
  exact zkA ⟨zhx G.ris (zaS G.ris e),G.led⟩
 ·exact Qt G.led
def zfz (owner:Array (Option Nat)) (n:Nat):Ris (((List.range n).filterMap λj=>(owner.getD j none).map (j,·)).map (·.1)).toArray:=by
 have h:((List.range n).filterMap λj=>(owner.getD j none).map (j,·)).map (·.1)=(List.range n).filterMap λj=>(owner.getD j none).map λ_=>j:=by
  rw[List.map_filterMap]
  congr 1
  funext j
  cases owner.getD j none <;> rfl
 rw[h]
 have p:((List.range n).filterMap λj=>(owner.getD j none).map λ_=>j).Pairwise (· < ·):=by
  rw[List.pairwise_filterMap]
  refine(List.pairwise_lt_range (n:=n)).imp λ{a b} I x F y G=>?_
  cases ha:owner.getD a none with
  |none=>rw[ha]at F;cases F
  |some _ =>
   cases hb:owner.getD b none with
   |none=>rw[hb]at G;cases G
   |some _ =>
    rw[ha]at F;rw[hb]at G
    cases F;cases G;exact I
 intro i j x y O e1 e2
 rw[W1]at e1 e2
 obtain⟨h1,e1⟩:=w4.mp e1
 obtain⟨h2,e2⟩:=w4.mp e2
 rw[<-e1,<-e2]
 exact uc.mp p i j h1 h2 O
def zeN {bt:Bool}{t:SetTable}(G:Gd bt t) (es:Array (Int×Value)) (n:Nat):Gd bt (relayAll t es n).2.1:=by
 unfold relayAll
 split
 ·rename_i t' order e
  nofun
  split
  ·unfold SetTable.relaid SetTable.laid at e
   cases hl:SetTable.layClean (SetTable.sizeAbove n-1) (es.map λx=>x.1)with
   |none=>rw[hl]at e;cases e
   |some owner =>
    rw[hl]at e
    have F:=Option.some.inj e
    have e1:=congrArg Prod.fst F
    rw[<-e1]
    exact⟨zfz _ _,G.led⟩
  ·exact Qt G.led
 ·exact Qt G.led
open PyProof.Rows
variable {prog:Program}{w:World}{A:Around}{E:Value->Shared->Prop}{s:Shared}{bt:Bool}
def nm:Value->Int
 |.int n _=>n
 |_=>0
def SI (prog:Program) (w:World) (bt:Bool) (h:Heap) (a:Addr) (ks:List Int):Prop :=
 ∃(o:Obj) (es:Array (Int×Value)) (ep:Nat) (t:SetTable),h.get? a=some o/\o.ExactSet/\o.data=.set es ep t/\ElemsOf (intKind prog w) es.toList/\(es.toList.map λe=>nm e.2).Perm ks/\t.fits es.size=true/\Gd bt t
theorem zev {es:List (Int×Value)} (h:ElemsOf (intKind prog w) es){e:Int×Value}(m:e∈es):∃tk,e.2=.int (nm e.2) tk:=by
 obtain⟨⟨k,F,_⟩,_⟩:=h e m
 obtain⟨tk,q⟩:=Value.isInt_shape (k:=k) (v:=e.2) F
 exact⟨tk,by rw[q];rfl⟩
theorem zkD {k:Int}{v:Value}(h:(intKind prog w).is k v=true):nm v=k:=by
 obtain⟨tk,q⟩:=Value.isInt_shape (k:=k) (v:=v) h
 rw[q];rfl
theorem zaz {h:Heap}{a:Addr}{ks:List Int}{es:Array (Int×Value)} (p:(es.toList.map λe=>nm e.2).Perm ks):es.size=ks.length:=by
 have:=p.length_eq
 rw[wc,wO]at this;exact this
theorem zfx {h:Heap}{a:Addr}{o:Obj}{es es':Array (Int×Value)}{ep:Nat}{t t':SetTable}(ho:h.get? a=some o) (hd:o.data=.set es ep t):(h.update a (Obj.putSet es' t')).get? a=some { o with data:=.set es' (ep+1) t' }:=by
 have:=yP (Obj.putSet es' t') ho (by rw[putSet_of es' t' hd];rfl)
 rw[putSet_of es' t' hd]at this;exact this
theorem zfH {a:Addr}{ks:List Int}{k:Int}{tk:Tok}{Q:Bool->Shared->Prop}(hS:SI prog w bt s.heap a ks) (hr:ks.length+1<scanBound)
  (h:∀h' b,Heap.SameBut a s.heap h'->SI prog w bt h' a (if k∈ks then ks else k::ks)->Q b { s with heap:=h' }):wpAny (model prog w) A (setAddHashed a (.int k tk) ((intKind prog w).hash k)) Q E s:=by
 obtain⟨o,es,ep,t,ho,hex,hd,hel,hp,hf,G⟩:=id hS
 have hz:=zaz (h:=s.heap) (a:=a) hp
 have hkey:(intKind prog w).is k (.int k tk)=true:=intKind_is _ _ _ _
 refine yV (we (Wf ho hd hf ?_))
 nofun
 rw[byScan_of rfl (show es.size<scanBound by lia) hel]
 refine we (we (Yg (we (wpAny_setScan_of hkey ho hd hf hel ?_))))
 cases hr':List.findIdx? (λe=>(intKind prog w).is k e.2) es.toList with
 |some j =>
  obtain⟨hj,hpj,_⟩:=List.findIdx?_eq_some_iff_getElem.mp hr'
  have hm:k∈ks:=hp.mem_iff.mp (wj.mpr ⟨_,List.getElem_mem hj,zkD hpj⟩)
  have:=h s.heap false (Heap.SameBut.refl a s.heap)
  rw[if_pos hm]at this
  exact wq (wq (this hS))
 |none =>
  have hm:¬k∈ks:=λm=>by
   obtain⟨e,me,ek⟩:=wj.mp (hp.mem_iff.mpr m)
   obtain⟨tk',q⟩:=zev hel me
   have:=List.findIdx?_eq_none_iff.mp hr' e me
   rw[q,ek]at this
   rw[intKind_is]at this;cases this
  have fin:∀h',Heap.SameBut a s.heap h'->SI prog w bt h' a (k::ks)->Q true { s with heap:=h' }:=λh' sb si=>h h' true sb (by rw[if_neg hm];exact si)
  nofun
  have lp:=layNew_perm t es ((intKind prog w).hash k) (.int k tk)
  have lf:=layNew_fits t es ((intKind prog w).hash k) (.int k tk)
  have lg:=ziJ G es ((intKind prog w).hash k) (.int k tk)
  generalize layNew t es ((intKind prog w).hash k) (.int k tk)=N at lp lf lg ⊢
  obtain⟨es1,t1,dm,gv⟩:=N
  dsimp only at lp lf lg ⊢
  rw[YD]at lp
  have hel1:ElemsOf (intKind prog w) es1.toList:=(hel.push hkey rfl).perm lp
  have hp1:(es1.toList.map λe=>nm e.2).Perm (k::ks):=by
   refine(lp.map _).trans ?_
   rw[yx]
   exact(Ws.trans (List.Perm.cons _ hp))
  have hz1:=zaz (h:=s.heap) (a:=a) hp1
  rw[wB]at hz1
  have gave:∀(b:Bool){st:Shared}{R:Unit->Shared->Prop},R () st->wpAny (model prog w) A (match b with | true=>rule "set.scan.the-table-gave-way" |false=>pure ()) R E st:=λb st R r=>by
   cases b with
   |true=>exact Yg r
   |false=>exact wq r
  refine we (gave gv ?_)
  rcases hpl:t1.plain with _ | _
  all_goals first
   | (rw[if_neg ye]
      refine we (wq ?_)
      simp only[if_true])
   | (rw[if_pos rfl]
      refine we ?_
      rw[hashByValue_scannable 8 rfl]
      refine wq ?_
      simp only[plainKind,if_true])
  all_goals
   refine we (wpAny_storeSet_of ho hd ?_ (fits_of_scanBound ∅))
   have e2:=zfx (es':=es1) (t':=t1) ho hd
   have sb2:=Heap.SameBut.update s.heap a (Obj.putSet es1 t1)
   generalize s.heap.update a (Obj.putSet es1 t1)=h2 at e2 sb2 ⊢
   split
   ·have rp:=relayAll_perm t1 es1 (SetTable.grown es1.size)
    have rf:=relayAll_fits t1 es1 (SetTable.grown es1.size)
    have rg:=zeN lg es1 (SetTable.grown es1.size)
    generalize relayAll t1 es1 (SetTable.grown es1.size)=L at rp rf rg ⊢
    obtain⟨es2,t3,g3⟩:=L
    dsimp only at rp rf rg ⊢
    have hp2:=(rp.map λe=>nm e.2).trans hp1
    have hz2:=zaz (h:=s.heap) (a:=a) hp2
    rw[wB]at hz2
    refine we (gave g3 ?_)
    refine we (wpAny_storeSet_of e2 rL ?_ (fits_of_scanBound ∅))
    exact wq (wq (fin _ (sb2.trans (Heap.SameBut.update _ a _)) ⟨_,es2,_,t3,zfx e2 rL,hex,rL,hel1.perm rp,hp2,rf,rg⟩))
   ·exact wq (wq (fin h2 sb2 ⟨_,es1,_,t1,e2,hex,rL,hel1,hp1,lf,lg⟩))
theorem SI.same {h h':Heap}{a:Addr}{ks:List Int}(S:SI prog w bt h a ks) (k:∀o,h.get? a=some o->h'.get? a=some o):SI prog w bt h' a ks:=by
 obtain⟨o,es,ep,t,F,r⟩:=S
 exact⟨o,es,ep,t,k o F,r⟩
def uq:List Int->List Int
 |[]=>[]
 |k::r=>if k∈uq r then uq r else k::uq r
theorem uq_mem:∀{ns:List Int}{k:Int},k∈uq ns↔k∈ns
 |[],k=>Iff.rfl
 |n::r,k=>by
  unfold uq
  split
  ·rename_i c
   rw[uq_mem,wu]
   exact⟨.inr,λh=>h.elim (λe=>e ▸ uq_mem.mp c) id⟩
  ·rw[wu,wu,uq_mem]
theorem uq_nodup:∀(ns:List Int),(uq ns).Nodup
 |[]=>Y7
 |n::r=>by
  unfold uq
  split
  ·exact uq_nodup r
  ·rename_i c
   exact uE.mpr ⟨c,uq_nodup r⟩
theorem uq_len:∀(ns:List Int),(uq ns).length<=ns.length
 |[]=>wn _
 |n::r=>by
  unfold uq
  have:=uq_len r
  split <;> simp <;> lia
theorem zgj {ns:List Int}{i:Nat}{k:Int}(h:ns[i]?=some k):(ns.take (i+1)).reverse=k::(ns.take i).reverse:=by
 rw[yC,h]
 simp
theorem zgp {R:Result->Shared->Prop}{I l:Addr}{items:Array Value}{ns:List Int}(hh:A.handled=none) (hI:IntsAre items.toList ns) (hb:ns.length+1<scanBound) (Y:l≠I) (S:Addr) (h1:S≠I) (a1:S≠l) :
  ∀(k i:Nat) (s:Shared),ns.length-i=k->i<=ns.length->s.heap.IsListIter I l i->s.heap.IsList l items->SI prog w bt s.heap S (uq (ns.take i).reverse) →
   (∀h' tk,(∀b o,b≠S->b≠I->s.heap.get? b=some o->h'.get? b=some o)->SI prog w bt h' S (uq ns.reverse)->R (.ok (.ret .none)) { s with heap:=h',toks:=tk }) →
   codeAny (model prog w) A (.builtin "set.update.loop" ⟨[.ref S,.ref I],[]⟩) R s:=by
 have hl:items.size=ns.length:=by have:=hI.length;rw[wO]at this;exact this
 have W:=Walks.list (prog:=prog) (w:=w) (A:=A.in1) hh I l Y items
 intro k
 induction k with
 |zero =>
  intro i s hk hi it il U hR
  obtain rfl:i=ns.length:=by lia
  refine codeAny_builtin F.entry_set_update_loop ?_
  rw[Around.under_plainId F.plain_set_update_loop _]
  refine we (W.done s _ _ (by rw[hl];exact⟨it,il⟩) λh' tk G=>?_)
  refine wq (hR h' tk (λb o b1 V e=>G b o ↥V e) ?_)
  rw[yr]at U
  exact U.same λo e=>G S o ↥h1 e
 |succ k ih =>
  intro i s hk hi it il U hR
  have O:i<ns.length:=by lia
  refine codeAny_builtin F.entry_set_update_loop ?_
  rw[Around.under_plainId F.plain_set_update_loop _]
  refine we (W.item i s _ _ ∅ ⟨it,il⟩ λv h' tk hv st G=>?_)
  obtain⟨t,rfl⟩:=hI.int_at i v (by rw[wR];exact hv)
  have hn:ns[i]?=some (ns.getD i 0):=by rw[List.getD,wH O];rfl
  have a5:SI prog w bt h' S (uq (ns.take i).reverse):=U.same λo e=>G S o ↥h1 e
  refine we (yV (yV (we ((intKind prog w).pyHash (k:=ns.getD i 0) (intKind_is _ _ _ _) ?_))))
  have hr:(uq (ns.take i).reverse).length+1<scanBound:=by
   have:=uq_len (ns.take i).reverse
   rw[List.length_reverse,yk]at this
   lia
  refine zfH (bt:=bt) (s:={ s with heap:=h',toks:=tk+1 }) a5 hr λh2 b sb a6=>?_
  have a4:SI prog w bt h2 S (uq (ns.take (i+1)).reverse):=by
   rw[zgj hn];exact a6
  have keep:∀b o,b≠S->h'.get? b=some o->h2.get? b=some o:=λb o hb e=>by rw[sb.2 b hb];exact e
  refine wq ⟨plainId_quiet F.plain_set_update_loop _,ih (i+1) _ ∅ O (st.1.at λo e=>keep I o (Ne.symm h1) e) (st.2.at λo e=>keep l o (Ne.symm a1) e) a4 λh3 a3 k3 a2=>?_⟩
  exact hR h3 a3 (λb o b1 V e=>k3 b o b1 V (keep b o b1 (G b o ↥V e))) a2
variable {prog:Program}{w:World}{A:Around}{E:Value->Shared->Prop}{s:Shared}
abbrev byT (w:World):Bool:=w.params.followText "set-order"
def Vl (w:World):Obj:={ cls:=.type "set",dict:=none,data:=.set #[] 0 (.fresh 0 0 !byT w) }
theorem zg7 (a:Value){Q:Value->Shared->Prop}(h:Q (.ref s.heap.objs.size) { s with heap:=s.heap.push (Vl w) }) :
  codeAny (model prog w) A (.call (.builtin "set.__new__") ⟨[.type "set",a],[]⟩) (wants Q E) s:=by
 refine codeAny_of_tree (we (Ug (F.newCall_set_1 a) (wq ⟨plainId_quiet F.plain_set_new _,codeAny_builtin F.entry_set_new ?_⟩)))
 rw[Around.under_plainId F.plain_set_new _]
 unfold Builtin.«set.__new__» Builtin.Frozenset.newClass
 have G:=sub_set_self
 obtain⟨I,g,d,tk,os⟩:=s
 nofun
 wp_walk
 exact YT (wq (we (wpAny_alloc (wq (wq h)))))
theorem zjN {h:Heap}:SI prog w (byT w) (h.push (Vl w)) h.objs.size []:=by
 refine⟨Vl w,#[],0,_,wJ _ rfl,?_,rfl,λe m=>by simp at m,by simp,by rfl,⟨λi j x y _ e1 _=>by simp[SetTable.fresh]at e1,λF=>?_⟩⟩
 ·exact⟨rL,rL,rL⟩
 ·show (!byT w)=true
  rw[F];rfl
theorem call_set {l:Addr}{items:Array Value}{ns:List Int}{Q:Value->Shared->Prop}(hh:A.handled=none) (hl:s.heap.IsList l items) (hI:IntsAre items.toList ns) (hb:ns.length+1<scanBound)
  (h:∀h' tk,SI prog w (byT w) h' s.heap.objs.size (uq ns.reverse)->(∀b o,s.heap.get? b=some o->h'.get? b=some o)->Q (.ref s.heap.objs.size) { s with heap:=h',toks:=tk }) :
  wpAny (model prog w) A (call (.type "set") [.ref l]) Q E s:=by
 have ct:=F.called_set
 obtain⟨c,tl,Y⟩:=ct.mro
 have e1:=ct.made
 have e2:=ct.sub
 have e5:=F.typeCall_set_1 (.ref l)
 have e6:=ct.init.lookup
 have e7:=ct.init.bind (.ref s.heap.objs.size)
 refine Ui (codeAny_of_tree (wq ⟨Code.quiet_builtin _ ⇑0,codeAny_builtin F.entry_type_call ?_⟩))
 rw[Around.under_plain (weight_type_call_type "set" [.ref l] []) rfl]
 repeat (any_goals (first | assumption | wp_step))
 refine codeAny_mono (zg7 (w:=w) (.ref l) (E:=E) (Q:=λv W=>v=.ref s.heap.objs.size/\W = { s with heap:=s.heap.push (Vl w) }) ⟨rfl,rfl⟩) λr W hr=>?_
 cases r with
 |error e=>exact hr
 |ok fl =>
  cases fl with
  |ret obj =>
   obtain⟨rfl,rfl⟩:=hr
   have hS:(s.heap.push (Vl w)).get? s.heap.objs.size=some (Vl w):=wJ _ rfl
   have hT:Shared.TypeIs { s with heap:=s.heap.push (Vl w) } (.ref s.heap.objs.size) "set":=⟨_,hS,rfl⟩
   repeat (any_goals (first | assumption | wp_step))
   refine codeAny_mono (codeAny_call_builtin (R:=wants (λr V=>r=.none/\Q (.ref s.heap.objs.size) V) E) ct.init.plain F.entry_set_init (check_set_init_1 hT ?_)) λr₂ V G=>?_
   ·obtain⟨⟨oc,od,dt,a1⟩,O,c1,nl,c2⟩:=id hl
    dsimp only at c1 c2
    subst c1 c2
    have g1:=wg (Vl w) O
    have f1:=F.sub_list_set
    have f2:=F.sub_list_frozenset
    have U:(s.heap.push (Vl w)).IsList l items:=⟨_,g1,rfl,nl,rfl⟩
    unfold Builtin.«set.__init__» noKeywords Builtin.Frozenset.updateFrom
    generalize hpi:pyIter=PI
    wp_walk
    subst hpi
    refine YH U (we (wpAny_runValue ?_))
    have lt:=wE O
    have I:(s.heap.push (Vl w)).objs.size=s.heap.objs.size+1:=WB ..
    have n1:l≠(s.heap.push (Vl w)).objs.size:=by rw[I];exact wW (Wa lt)
    have n2:s.heap.objs.size≠(s.heap.push (Vl w)).objs.size:=by rw[I];exact wW (W6 _)
    refine zgp (bt:=byT w) (by simp[hh]) hI hb n1 s.heap.objs.size n2 (WE lt) _ 0 _ rfl (yb _) ⟨_,wJ _ rfl,rfl,rfl⟩ (U.push _) ?_ λh' tk kk si=>?_
    ·rw[WC]
     exact(zjN (prog:=prog)).same λo e=>wg _ e
    ·refine wq (wq ⟨rL,h h' tk si λb o e=>?_⟩)
     have S:=wE e
     exact kk b o (wW S) (by rw[I];exact wW (Wa S)) (wg _ (wg _ e))
   ·cases r₂ with
    |error e=>exact G
    |ok fl₂ =>
     cases fl₂ with
     |ret r =>
      obtain⟨rfl,q⟩:=G
      repeat (any_goals (first | assumption | wp_step))
     |_=>exact G.elim
  |_=>exact hr.elim
theorem zew:entryFor table "set.__iter__" = some Builtin.«frozenset.__iter__»:=entryFor_alias (id':="frozenset.__iter__") (by kernel_rfl) rfl ⇑0 (by kernel_rfl)
theorem vo:Slot "set_iterator" "__next__" "set_iterator.__next__" :=
 .of (owner:="set_iterator") (n:="__next__") (by rw[typeLookup_type,builtinLookup_eq_fast];kernel_rfl) ⇑0 ⇑0 ⇑0 (.inl ⇑0) (by rw[isSubtype_type];kernel_rfl)
theorem J5:entryFor table "set_iterator.__next__" = some Builtin.«set_iterator.__next__»:=entryFor_of_tree (by kernel_rfl)
theorem JW (a:Value):argsOk "set_iterator.__next__" ⟨[a],[]⟩:=by unfold argsOk;kernel_rfl
theorem zbl:Slot "set_iterator" "__iter__" "set_iterator.__iter__" :=
 .of (owner:="set_iterator") (n:="__iter__") (by rw[typeLookup_type,builtinLookup_eq_fast];kernel_rfl) ⇑0 ⇑0 ⇑0 (.inl ⇑0) (by rw[isSubtype_type];kernel_rfl)
theorem zgG:entryFor table "set_iterator.__iter__" = some Builtin.«dict_keyiterator.__iter__»:=entryFor_alias (id':="dict_keyiterator.__iter__") (by kernel_rfl) ⇑0 ⇑0 (by kernel_rfl)
theorem zgB (a:Value):argsOk "set_iterator.__iter__" ⟨[a],[]⟩:=by unfold argsOk;kernel_rfl
variable {prog:Program}{w:World}{A:Around}{E:Value->Shared->Prop}{s:Shared}
def itO (f:Value) (a:Addr) (i n ep:Nat):Obj:={ cls:=.type "set_iterator",data:=.fields #[f,rawInt i,.ref a,rawInt n,rawInt ep] }
def SAt (h:Heap) (a:Addr) (es:Array (Int×Value)) (ep:Nat) (t:SetTable):Prop:=∃o,h.get? a=some o/\o.ExactSet/\o.data=.set es ep t/\t.fits es.size=true
theorem SAt.at {h h':Heap}{a:Addr}{es:Array (Int×Value)}{ep:Nat}{t:SetTable}(S:SAt h a es ep t) (k:∀o,h.get? a=some o->h'.get? a=some o):SAt h' a es ep t:=let ⟨o,ho,r⟩:=S;⟨o,k o ho,r⟩
theorem ite_no {α:Type}{M:Model}{c:Prop}{d:Decidable c}{m n:Sem α}{Q:α->Shared->Prop}(F:¬c) (h:wpAny M A n Q E s):wpAny M A (@ite _ c d m n) Q E s:=by rw[if_neg F];exact h
theorem Vp {α:Type}{M:Model}{c:Prop}{d:Decidable c}{m n:Sem α}{Q:α->Shared->Prop}(F:c) (h:wpAny M A m Q E s):wpAny M A (@ite _ c d m n) Q E s:=by rw[if_pos F];exact h
section
variable {a:Addr}{es:Array (Int×Value)}{ep:Nat}{t:SetTable}
theorem Xj {Q:Bool->Shared->Prop}(h:Q (byT w) s):wpAny (model prog w) A setsByText Q E s:=we (YT (wq h))
theorem zdQ {F i:Nat}{Q:Option (Value×Nat)->Shared->Prop} (S:SAt s.heap a es ep t) (G:byT w=true) (h:Q (((pickOrder (w.params.setOrder a ep) es)[i]?).map λe=>(e.2,F)) s):wpAny (model prog w) A (setNext a F i ep) Q E s:=by
 obtain⟨o,O,U,hd,I⟩:=S
 unfold setNext
 refine we (Wf O hd I (we (Xj ?_)))
 nofun
 rw[G,if_pos rfl,if_neg (by simp)]
 refine we ?_
 unfold setWalk
 refine we (Wf O hd I (we (Xj ?_)))
 rw[G,if_pos rfl]
 exact we (YT (wq (wq h)))
theorem zb6 {F i:Nat}{Q:Option (Value×Nat)->Shared->Prop} (S:SAt s.heap a es ep t) (O:byT w=false) (I:(!t.plain&&decide (es.size>1))=false) (G:Gd (byT w) t)
  (h:Q (match es[SetTable.below t.place F]?,t.place[SetTable.below t.place F]? with | some e,some j=>some (e.2,j+1) | _,_=>none) s):wpAny (model prog w) A (setNext a F i ep) Q E s:=by
 obtain⟨o,W,U,hd,V⟩:=S
 unfold setNext
 refine we (Wf W hd V (we (Xj ?_)))
 nofun
 rw[O,if_neg ye]
 refine ite_no (λz=>by have z':(!t.plain&&decide (es.size>1))=true:=z;rw[I]at z';cases z') (we (ite_no (by rw[G.led O];simp) ?_))
 exact wq (wq (by revert h;cases es[SetTable.below t.place F]? <;> cases t.place[SetTable.below t.place F]? <;> exact id))
theorem zb5 {k:Nat}{e:Int×Value}{Q:Value->Shared->Prop}(S:SAt s.heap a es ep t) (F:es[k]?=some e) (h:Q e.2 s):wpAny (model prog w) A (setNextDrawn a k ep) Q E s:=by
 obtain⟨o,G,O,hd,I⟩:=S
 unfold setNextDrawn
 refine we (Wf G hd I ?_)
 nofun
 rw[if_neg (by simp),F]
 exact wq h
theorem stop {α:Type}{Q:α->Shared->Prop}{F:Value->Shared->Prop}(G:A.handled=none) (h:∀x h',(∀b o,s.heap.get? b=some o->h'.get? b=some o)->Shared.TypeIs { s with heap:=h' } (.ref x) "StopIteration"->F (.ref x) { s with heap:=h' }) :
  wpAny (model prog w) A (newExc (.type "StopIteration") [] >>= λe=>raiseNew e:Sem α) Q F s:=by
 simp only[newExc,newTuple]
 refine we (we (uM ?_ (by size_fits)))
 refine we (m:=firstArgMember _ _) (Ug (a:=Value.none) (by first | rfl | (simp only[firstArgMember];rfl)) ?_)
 refine uM ?_ (by size_fits)
 refine wpAny_raiseNew_none G (h _ _ (λb o e=>wg _ (wg _ e)) ⟨_,wJ _ rL,rL⟩)
end
variable {prog:Program}{w:World}{A:Around}{E:Value->Shared->Prop}{s:Shared}{a it:Addr}{es:Array (Int×Value)}{ep:Nat}{t:SetTable}
theorem zc5 {f g:Value}{i:Nat}{Q:Unit->Shared->Prop}(F:s.heap.get? it=some (itO f a i es.size ep)) (h:∀h',h'.get? it=some (itO g a i es.size ep)->Heap.SameBut it s.heap h'->Q () { s with heap:=h' }):wpAny (model prog w) A (setField (.ref it) 0 g) Q E s :=
 Yw F (by show 0<5;decide) h
theorem zc6 {f:Value}{i:Nat}{Q:Unit->Shared->Prop}(F:s.heap.get? it=some (itO f a i es.size ep)) (h:∀h',h'.get? it=some (itO f a (i+1) es.size ep)->Heap.SameBut it s.heap h'->Q () { s with heap:=h' }):wpAny (model prog w) A (setField (.ref it) 1 (rawInt ((i:Int)+1))) Q E s :=
 Yw F (by show 1<5;decide) h
theorem zc4 {f:Value}{i:Nat}{Q:Unit->Shared->Prop}(F:s.heap.get? it=some (itO f a i es.size ep)) (h:∀h',Heap.SameBut it s.heap h'->Q () { s with heap:=h' }):wpAny (model prog w) A (setField (.ref it) 2 .none) Q E s :=
 Yw F (by show 2<5;decide) λh' _ G=>h h' G
theorem SAt.but {h h':Heap}(S:SAt h a es ep t) (G:Heap.SameBut it h h') (F:it≠a):SAt h' a es ep t:=S.at λo e=>by rw[G.2 a (Ne.symm F)];exact e
theorem zc3 {f:Value}{i:Nat}{Q:Value->Shared->Prop}(F:s.heap.get? it=some (itO f a i es.size ep)) (h:Q (.ref it) s):wpAny (model prog w) A (pyIter (.ref it)) Q E s:=by
 have G:s.TypeIs (.ref it) "set_iterator":=⟨_,F,rfl⟩
 refine wpAny_pyIter_slot G zbl (uA zbl G zgG ?_ (zgB _))
 exact wq ⟨_,rL,"set_iterator",_,G,vo.lookup,h⟩
theorem zkz {Q:Option Value->Shared->Prop}{s':Shared}{x:Addr}(F:s'.TypeIs (.ref x) "StopIteration") (h:Q none s'):wpAny (model prog w) A (do
  let b <-isInstance (.ref x) (.type "StopIteration")
  if b=true then pure none else throw (.ref x)) Q E s' :=
 we (wpAny_isInstance F isSubtype_stop (Vp rfl (wq h)))
theorem zbB (hh:A.handled=none) (W:it≠a){ys:List Value}(V:Nat->Nat) (hy:ys.length=es.size)
  (NX:∀(s:Shared) (i:Nat) (A:Around) (E:Value->Shared->Prop) (Q:Option (Value×Nat)->Shared->Prop),i<=es.size->SAt s.heap a es ep t->Q ((ys[i]?).map λy=>(y,V (i+1))) s->wpAny (model prog w) A (setNext a (V i) i ep) Q E s) :
  Walks prog w A it [it,a] [it] es.size (λi v=>ys[i]?=some v) (λi h=>h.get? it=some (itO (rawInt (V i)) a i es.size ep)/\SAt h a es ep t) where
 sub:=λb G=>by simp at G;simp[G]
 frame:=λi h h' st k=>⟨k it (by simp) _ st.1,st.2.at λo e=>k a (by simp) o e⟩
 item:=by
  intro i s Q E hi ⟨F,S⟩ k
  have I:s.TypeIs (.ref it) "set_iterator":=⟨_,F,rfl⟩
  obtain⟨o,ho,a3,hd,hf⟩:=id S
  unfold pyNext
  refine we (Yf (wpAny_callSpecial?_slot (name:=Str.ofString "__next__") I vo (uA vo I J5 ?_ (JW _))))
  unfold Builtin.«set_iterator.__next__»
  refine we (wq (we (YB F rfl (we (Wi ho hd hf (ite_no (by simp) ?_))))))
  have U:ys[i]?=some ys[i]:=wH ∅
  refine we (NX s i _ _ _ (Yq hi) S ?_)
  rw[U]
  refine we (zc5 F λh1 e1 a2=>we (zc6 e1 λh2 e2 Y=>wq ⟨_,rL,wq ?_⟩))
  have O:=a2.trans Y
  exact k _ _ _ U ⟨e2,S.but O W⟩ λb o G e=>by rw[O.2 b ↥G];exact e
 done:=by
  intro s Q E ⟨F,S⟩ k
  have I:s.TypeIs (.ref it) "set_iterator":=⟨_,F,rfl⟩
  obtain⟨o,ho,a3,hd,hf⟩:=id S
  unfold pyNext
  refine we (Yf (wpAny_callSpecial?_slot (name:=Str.ofString "__next__") I vo (uA vo I J5 ?_ (JW _))))
  unfold Builtin.«set_iterator.__next__»
  refine we (wq (we (YB F rfl (we (Wi ho hd hf (ite_no (by simp) ?_))))))
  have U:ys[es.size]?=none:=yH ∅
  refine we (NX s _ _ _ _ (wn _) S ?_)
  rw[U]
  refine we (zc4 F λh1 O=>stop (by simp[hh]) λx h2 kk a1=>zkz a1 (k h2 _ λb o G e=>kk b o (by rw[O.2 b ↥G];exact e)))
 self:=λi s Q E st h=>zc3 st.1 h
theorem zcm (hh:A.handled=none) (W:it≠a){p:Addr}(a4:it≠p){ks:List Nat}(hk:ks.Perm (List.range es.size)) :
  Walks prog w A it [it,a,p] [it] es.size (λi v=>(ks.map λk=>(es.getD k (0,.none)).2)[i]?=some v) (λi h=>h.get? it=some (itO (.ref p) a i es.size ep)/\SAt h a es ep t/\∃c I dd,h.get? p=some { cls:=c,dict:=dd,data:=.seq (ks.map λk=>rawInt (k:Nat)).toArray 0,slots:=I }) where
 sub:=λb G=>by simp at G;simp[G]
 frame:=λi h h' st k=>⟨k it (by simp) _ st.1,st.2.1.at λo e=>k a (by simp) o e,let ⟨c,I,dd,e⟩:=st.2.2;⟨c,I,dd,k p (by simp) _ e⟩⟩
 item:=by
  intro i s Q E hi ⟨F,S,c,I,dd,U⟩ k
  have O:s.TypeIs (.ref it) "set_iterator":=⟨_,F,rfl⟩
  obtain⟨o,ho,a3,hd,hf⟩:=id S
  unfold pyNext
  refine we (Yf (wpAny_callSpecial?_slot (name:=Str.ofString "__next__") O vo (uA vo O J5 ?_ (JW _))))
  unfold Builtin.«set_iterator.__next__»
  refine we (wq (we (YB F rfl (we (Wi ho hd hf (ite_no (by simp) ?_))))))
  have lk:ks.length=es.size:=by rw[hk.length_eq,yU]
  have ek:ks[i]?=some ks[i]:=wH (by omega)
  have hm:ks[i]<es.size:=Wj.mp (hk.mem_iff.mp (List.getElem_mem _))
  have ee:es[ks[i]]?=some es[ks[i]]:=wL hm
  refine we (we (Uh U (wq ?_)))
  have e1:(ks.map λk=>rawInt (k:Nat)).toArray[((i:Nat):Int).toNat]?=some (rawInt ((ks[i]:Nat):Int)):=by
   rw[Int.toNat_natCast,W1,wo,ek];rfl
  nofun
  rw[e1]
  refine we (zb5 (t:=t) S (k:=ks[i]) ee ?_)
  refine we (zc6 F λh2 e2 V=>wq ⟨_,rL,wq ?_⟩)
  refine k _ _ _ ?_ ⟨e2,S.but V W,c,I,dd,by rw[V.2 p (Ne.symm a4)];exact U⟩ λb o G e=>by rw[V.2 b ↥G];exact e
  rw[wo,ek]
  simp[Array.getD,hm]
 done:=by
  intro s Q E ⟨F,S,c,I,dd,U⟩ k
  have O:s.TypeIs (.ref it) "set_iterator":=⟨_,F,rfl⟩
  obtain⟨o,ho,a3,hd,hf⟩:=id S
  unfold pyNext
  refine we (Yf (wpAny_callSpecial?_slot (name:=Str.ofString "__next__") O vo (uA vo O J5 ?_ (JW _))))
  unfold Builtin.«set_iterator.__next__»
  refine we (wq (we (YB F rfl (we (Wi ho hd hf (ite_no (by simp) ?_))))))
  have lk:ks.length=es.size:=by rw[hk.length_eq,yU]
  refine we (we (Uh U (wq ?_)))
  have e1:(ks.map λk=>rawInt (k:Nat)).toArray[((es.size:Nat):Int).toNat]?=none:=by
   rw[Int.toNat_natCast,W1,yH (by rw[wc];omega)]
  nofun
  rw[e1]
  refine we (zc5 F λh1 e1 a2=>we (zc4 e1 λh2 a1=>stop (by simp[hh]) λx h3 kk Y=>zkz Y (k h3 _ λb o G e=>kk b o ?_)))
  rw[a1.2 b ↥G,a2.2 b ↥G];exact e
 self:=λi s Q E st h=>zc3 st.1 h
variable {prog:Program}{w:World}{A:Around}{E:Value->Shared->Prop}{s:Shared}{a:Addr}{es:Array (Int×Value)}{ep:Nat}{t:SetTable}
theorem ZE {α:Type}:∀{l:List α}{i:Nat}{x:α},l[i]?=some x->(x::l.eraseIdx i).Perm l
 |[],i,x,h=>by cases h
 |y::l,0,x,h=>by cases h;exact .refl _
 |y::l,i+1,x,h=>by
  rw[List.eraseIdx_cons_succ]
  exact(List.Perm.swap y x _).trans (List.Perm.cons y (ZE ↥h))
theorem JG {α:Type}{l:List α}{i:Nat}{x:α}(h:l[i]?=some x):(l.eraseIdx i).length+1=l.length:=by
 have:=(ZE h).length_eq
 rw[wB]at this;exact this
theorem JK {α:Type}(nx:Nat->Nat) (xs:Array α):(pickOrder nx xs).toList.Perm xs.toList:=by
 have I:∀(f k:Nat) (l:List α) (o:Array α),l.length=f->(pickOrder.go nx f k l o).toList.Perm (o.toList++l):=by
  intro f
  induction f with
  |zero =>
   intro k l o G
   obtain rfl:=uu.mp G
   rw[yO];exact .refl _
  |succ f ih =>
   intro k l o G
   have F:nx k % l.length<l.length:=Nat.mod_lt _ ∅
   have ex:l[nx k % l.length]?=some l[nx k % l.length]:=wH F
   unfold pickOrder.go
   rw[ex]
   refine(ih (k+1) _ _ (by have:=JG ex;lia)).trans ?_
   rw[YD,yo]
   exact List.Perm.append_left _ (ZE ex)
 have:=I xs.size 0 xs.toList #[] (by simp)
 rw[show (#[]:Array α).toList=[]from rfl,WM]at this
 exact this
theorem zbK {M:Model}{n:Nat}{Q:Nat->Shared->Prop}(F:n≠0) (h:∀i d,i<n->Q i { s with drawn:=d }):wpAny M A (choose .order n) Q E s:=fun Γ p G=>⟨F,h _ _ (Nat.mod_lt _ (Nat.pos_of_ne_zero F))⟩
theorem Jx {α:Type}{M:Model}:∀{n:Nat}{l:List α}{s:Shared}{Q:List α->Shared->Prop},l.length=n->(∀xs d,xs.Perm l->Q xs { s with drawn:=d })->wpAny M A (drawOrder n l) Q E s
 |0,l,s,Q,hl,h=>by
  obtain rfl:=uu.mp hl
  exact wq (h [] s.drawn (.refl _))
 |n+1,l,s,Q,hl,h=>by
  match l,hl with
  |y::l,hl =>
   refine we (zbK (by simp) λi I F=>?_)
   have ex:(y::l)[i]?=some (y::l)[i]:=wH F
   rw[ex]
   refine we (Jx (by have:=JG ex;lia) λxs d G=>wq (h _ d ?_))
   exact(List.Perm.cons _ G).trans (ZE ex)
theorem zel {xs:Array Nat}(R:Ris xs){i:Nat}(hi:i<=xs.size):SetTable.below xs (if i=0 then 0 else xs.getD (i-1) 0+1)=i:=by
 obtain⟨S,O,I⟩:=XF R (if i=0 then 0 else xs.getD (i-1) 0+1)
 generalize hb:SetTable.below xs (if i=0 then 0 else xs.getD (i-1) 0+1)=b at *
 rcases Nat.lt_trichotomy b i with c | c | c
 ·have G:xs[b]?=some xs[b]:=wL ∅
  have h1:=I b _ (wn _) G
  rw[if_neg ∅]at h1
  have h2:i-1<xs.size:=by lia
  have e2:xs.getD (i-1) 0=xs[i-1]:=by simp[Array.getD,h2]
  rw[e2]at h1
  rcases WO (show b<=i-1 by lia)with q | q
  ·subst q;lia
  ·have:=R b (i-1) _ _ q G (wL h2);lia
 ·exact c
 ·have F:xs[i]?=some xs[i]:=wL ∅
  have h1:=O i _ c F
  by_cases z:i=0
  ·rw[if_pos z]at h1;lia
  ·rw[if_neg z]at h1
   have h2:i-1<xs.size:=by lia
   have e2:xs.getD (i-1) 0=xs[i-1]:=by simp[Array.getD,h2]
   rw[e2]at h1
   have:=R (i-1) i _ _ ∅ (wL h2) F
   lia
structure Itr (prog:Program) (w:World) (h0 h:Heap) (a it:Addr) (es:Array (Int×Value)) (ys:List Value) (fp:List Addr) (St:Nat->Heap->Prop):Prop where
 pm:ys.Perm (es.toList.map λe=>e.2)
 wk:∀A:Around,A.handled=none->Walks prog w A it fp [it] es.size (λi v=>ys[i]?=some v) St
 st:St 0 h
 kp:∀b o,h0.get? b=some o->h.get? b=some o
 fp:∀b∈fp,b=a\/h0.objs.size<=b
 it:h0.objs.size<=it
theorem zhJ {Q:Nat->Shared->Prop}(S:SAt s.heap a es ep t) (h:Q es.size s):wpAny (model prog w) A (Builtin.Frozenset.sizeOf a) Q E s:=by
 obtain⟨o,F,G,hd,I⟩:=S
 exact we (Wi F hd I (wq h))
theorem zfS {Q:Value->Shared->Prop}(S:SAt s.heap a es ep t) (G:Gd (byT w) t) (hz:es.size<=sizeLine) (h:∀it h' d ys V St,Itr prog w s.heap h' a it es ys V St->Q (.ref it) { s with heap:=h',drawn:=d }):wpAny (model prog w) A (pyIter (.ref a)) Q E s:=by
 obtain⟨o,Y,a2,hd,U⟩:=id S
 have lt:a<s.heap.objs.size:=wE Y
 have hT:s.TypeIs (.ref a) "set":=⟨o,Y,a2.1⟩
 have pz:t.place.size=es.size:=by
  unfold SetTable.fits at U
  simp only[W7,beq_iff_eq]at U
  exact U.1
 refine wpAny_pyIter_slot hT F.slot_set_iter (uA F.slot_set_iter hT zew ?_ (F.args_set_iter_1 _))
 unfold Builtin.«frozenset.__iter__» Builtin.Frozenset.slot0
 refine we (wq (we (zhJ S ?_)))
 refine we ?_
 unfold setDrawn
 refine we (Wf Y hd U (we (Xj (wq ?_))))
 have make:∀(f:Value) (h1:Heap) (d:Drawn) (ys:List Value) (V:Addr->List Addr) (St:Addr->Nat->Heap->Prop),(∀b o,s.heap.get? b=some o->h1.get? b=some o)->s.heap.objs.size<=h1.objs.size →
   ys.Perm (es.toList.map λe=>e.2)->(∀A:Around,A.handled=none->Walks prog w A h1.objs.size (V h1.objs.size) [h1.objs.size] es.size (λi v=>ys[i]?=some v) (St h1.objs.size))->(St h1.objs.size) 0 (h1.push (itO f a 0 es.size ep)) →
   (∀b∈V h1.objs.size,b=a\/s.heap.objs.size<=b) →
   wpAny (model prog w) A.in1 (setEpoch a >>= λe=>newFields "set_iterator" [f,rawInt 0,.ref a,rawInt es.size,rawInt e] >>= λv=>ret v) (λa1 s'=>∃v,a1=.done (.ret v)/\∃T' r,s'.TypeIs v T'/\typeLookup (.type T') (Str.ofString "__next__")=pure (some r)/\Q v s') E { s with heap:=h1,drawn:=d } :=
  λf h1 d ys V St k1 I pm wk st a3=>by
   refine we (wpAny_setEpoch_of (k1 _ _ Y) hd U (we (uM ?_ (by size_fits))))
   refine wq ⟨_,rL,"set_iterator",_,⟨_,wJ _ rL,rL⟩,vo.lookup,?_⟩
   exact h h1.objs.size _ d ys _ _ ⟨pm,wk,st,λb o e=>wg _ (k1 b o e),a3,I⟩
 have ne:s.heap.objs.size≠a:=WE lt
 cases hb:byT w with
 |true =>
  refine ite_no (by simp) (we (wq ?_))
  refine make (rawInt 0) s.heap s.drawn ((pickOrder (w.params.setOrder a ep) es).toList.map λe=>e.2) (λit=>[it,a]) (λit i h=>h.get? it=some (itO (rawInt ((λ_=>0) i:Nat)) a i es.size ep)/\SAt h a es ep t) (λ_ _ e=>e) (wn _) ((JK _ _).map _) (λA O=>zbB O ne (λ_=>0) (by rw[wc,(JK _ _).length_eq,wO]) λs i A E Q hi S q=>zdQ S hb ?_) ⟨wJ _ rfl,S.at λo e=>wg _ e⟩ (λb m=>?_)
  ·rw[wo,Option.map_map]at q
   rw[<-wR];exact q
  ·rcases wu.mp m with e | m
   ·exact .inr (WX e.symm)
   ·exact .inl (w5.mp m)
 |false =>
  by_cases hp:(!t.plain&&decide (es.size>1))=true
  ·refine Vp (by rw[Bool.not_false,YM];exact hp) (we (Jx (by rw[yU]) λks d W=>we (Ub ?_ (by rw[wc,W.length_eq,yU];exact hz))))
   ·have lk:ks.length=es.size:=by rw[W.length_eq,yU]
    have np:s.heap.objs.size+1≠s.heap.objs.size:=Nat.succ_ne_self _
    have I:(s.heap.push (seqObj "tuple" (ks.map λi=>rawInt (i:Nat)).toArray 0)).objs.size=s.heap.objs.size+1:=WB ..
    refine make (.ref s.heap.objs.size) (s.heap.push (seqObj "tuple" (ks.map λi=>rawInt (i:Nat)).toArray 0)) d (ks.map λk=>(es.getD k (0,.none)).2) (λit=>[it,a,s.heap.objs.size]) (λit i h=>h.get? it=some (itO (.ref s.heap.objs.size) a i es.size ep)/\SAt h a es ep t/\∃c sl dd,h.get? s.heap.objs.size=some { cls:=c,dict:=dd,data:=.seq (ks.map λk=>rawInt (k:Nat)).toArray 0,slots:=sl }) (λ_ _ e=>wg _ e) (by rw[I];exact Nat.le_succ _) ?_ (λA O=>zcm O (by rw[I];exact WE (Wa lt)) (by rw[I];exact np) W) ⟨wJ _ rfl,S.at λo e=>wg _ (wg _ e),_,_,_,wg _ (wJ _ rfl)⟩ (λb m=>?_)
    ·have e1:(ks.map λk=>(es.getD k (0,.none)).2).Perm ((List.range es.size).map λk=>(es.getD k (0,.none)).2):=W.map _
     refine e1.trans (List.Perm.of_eq ?_)
     apply uL
     intro i
     rw[wo,wo,wR (xs:=es)]
     by_cases c:i<es.size
     ·rw[List.getElem?_range c,wL c];simp[Array.getD,c]
     ·rw[yH (by rw[yU];lia),uB ∅];rfl
    ·rcases wu.mp m with e | m
     ·refine .inr ?_
      rw[e,I];exact Nat.le_succ _
     ·rcases wu.mp m with e | m
      ·exact .inl e
      ·exact .inr (WX (w5.mp m).symm)
  ·refine ite_no (by rw[Bool.not_false,YM];exact hp) (we (wq ?_))
   refine make (rawInt 0) s.heap s.drawn (es.toList.map λe=>e.2) (λit=>[it,a]) (λit i h=>h.get? it=some (itO (rawInt ((λi=>if i=0 then 0 else t.place.getD (i-1) 0+1) i:Nat)) a i es.size ep)/\SAt h a es ep t) (λ_ _ e=>e) (wn _) (.refl _) (λA O=>zbB O ne (λi=>if i=0 then 0 else t.place.getD (i-1) 0+1) (by rw[wc,wO]) λs i A E Q hi S q=>zb6 S hb ↥hp G ?_) ⟨wJ _ rfl,S.at λo e=>wg _ e⟩ (λb m=>?_)
   ·rw[zel G.ris ∅]
    rw[wo,wR,Option.map_map]at q
    by_cases c:i<es.size
    ·rw[wL c,wL (show i<t.place.size by lia)]
     rw[wL c]at q
     have e2:t.place.getD (i+1-1) 0=t.place[i]'∅:=by simp[Array.getD,show i<t.place.size by lia]
     dsimp only[Option.map_some,Function.comp]at q
     rw[if_neg (Nat.succ_ne_zero _),e2]at q
     exact q
    ·rw[uB ∅,uB (show t.place.size<=i by lia)]
     rw[uB ∅]at q
     exact q
   ·rcases wu.mp m with e | m
    ·exact .inr (WX e.symm)
    ·exact .inl (w5.mp m)
variable {prog:Program}{w:World}{A:Around}{E:Value->Shared->Prop}{s:Shared}{a:Addr}
theorem zeR {Q:Bool->Shared->Prop}(G:s.TypeIs (.ref a) "set") (h:Q false s):wpAny (model prog w) A (Builtin.List.listLengthHint (.ref a)) Q E s:=by
 unfold Builtin.List.listLengthHint
 refine we (wpAny_specialOf G PySem.F.slot_set_len.lookup ?_)
 generalize hid:("set.__len__":String)=id0
 wp_delta
 have e:splitId id0=some ("set","__len__"):=by subst hid;decide +kernel
 rw[e]
 subst hid
 exact we (wpAny_isInstance (b:=true) G (by rw[isSubtype_type];kernel_rfl) (ite_no ⇑1 (Vp ⇑0 (we (Y5 G (wq h))))))
theorem zbU {F:Array Value}{ys:List Value}(h:ItemsOf (λi v=>ys[i]?=some v) F ys.length):F.toList=ys:=by
 apply uL
 intro i
 rw[wR]
 by_cases c:i<ys.length
 ·have e:F[i]?=some (F[i]'(by rw[h.1];exact c)):=wL _
  rw[e,<-h.2 i _ e]
 ·rw[uB (by rw[h.1];lia),yH ∅]
theorem zcF:∀{vs:List Value},(∀v∈vs,∃tk,v=.int (nm v) tk)->IntsAre vs (vs.map nm)
 |[],_=>.nil
 |v::vs,h=>by
  obtain⟨tk,e⟩:=h v (wF ..)
  rw[yn,e]
  exact .cons _ tk (zcF λu m=>h u (wT _ m))
theorem set_collect {ks:List Int}{R:List Value->Shared->Prop}(hh:A.handled=none) (hS:SI prog w (byT w) s.heap a ks) (hz:ks.length<=1000000)
  (h:∀h' tk d vs ms,(∀b o,s.heap.get? b=some o->h'.get? b=some o)->IntsAre vs ms->ms.Perm ks->R vs { s with heap:=h',toks:=tk,drawn:=d }):wpAny (model prog w) A (collect (.ref a)) R E s:=by
 obtain⟨o,es,ep,t,ho,hex,hd,hel,hp,hf,G⟩:=hS
 have ez:=zaz (h:=s.heap) (a:=a) hp
 have lt:a<s.heap.objs.size:=wE ho
 have hn:es.size<=sizeLine:=by rw[sizeLine_eq];lia
 unfold collect
 refine we (wpAny_runValue (codeAny_builtin entry_proto_collect' ?_))
 rw[Around.under_plainId PySem.F.plain_proto_collect _]
 refine we (WS (wq ⟨plainId_quiet PySem.F.plain_list_iadd _,codeAny_builtin entry_list_iadd' ?_⟩))
 rw[Around.under_plainId PySem.F.plain_list_iadd _]
 refine(?_:wpAny _ A.in1 (Builtin.List.listExtendWith (.ref s.heap.objs.size) (.ref a) (.ref s.heap.objs.size)) _ _ _)
 have hL:(s.heap.push (seqObj "list" ([]:List Value).toArray 0)).get? s.heap.objs.size=some { cls:=.type "list",data:=.seq #[] }:=wJ _ rfl
 have ne:s.heap.objs.size≠a:=WE lt
 unfold Builtin.List.listExtendWith
 have hT:Shared.TypeIs { s with heap:=s.heap.push (seqObj "list" ([]:List Value).toArray 0) } (.ref a) "set":=⟨o,wg _ ho,hex.1⟩
 refine we (Y5 hT ?_)
 have c1:Builtin.List.listSameRef (.ref s.heap.objs.size) (.ref a)=false:=by simp[Builtin.List.listSameRef,ne]
 have c2:(Value.type "set" == Value.type "list")=false:=by decide
 have c3:(Value.type "set" == Value.type "tuple")=false:=by decide
 simp only[c1,c2,c3,Bool.or_false,Wo,if_false]
 refine we (zfS (es:=es) (ep:=ep) (t:=t) ⟨o,wg _ ho,hex,hd,hf⟩ G hn λit h1 d ys fp St I=>?_)
 refine we (yV (zeR ⟨o,I.kp _ _ (wg _ ho),hex.1⟩ ?_))
 have z1:(s.heap.push (seqObj "list" ([]:List Value).toArray 0)).objs.size=s.heap.objs.size+1:=WB ..
 have nf:s.heap.objs.size∉fp:=λm=>by
  rcases I.fp _ m with e | e
  ·exact ne e
  ·rw[z1]at e;exact absurd e (Nat.not_succ_le_self _)
 have ly:ys.length=es.size:=by rw[I.pm.length_eq,wc,wO]
 have hS1:=I.kp _ _ hL
 refine Vp ⇑0 (we (Yg (we ?_)))
 refine(?_:wpAny _ _ (updateSeq _ _ >>= _) _ _ _)
 refine we (Yn hS1 rL ?_)
 have hS2:=yP (Obj.mapSeq (·.push Value.none)) hS1 rfl
 refine Yn (hz:=by seq_fits) hS2 rfl ?_
 have hS3:=yP (Obj.mapSeq (·.pop)) hS2 rfl
 have kk:∀b o,b≠s.heap.objs.size->h1.get? b=some o->((h1.update s.heap.objs.size (Obj.mapSeq (·.push Value.none))).update s.heap.objs.size (Obj.mapSeq (·.pop))).get? b=some o:=λb o hb e =>
  (ym _ _ (Ne.symm hb)).trans ((ym _ _ (Ne.symm hb)).trans e)
 have hA:A.in1.in1.handled=none:=by simp[hh]
 have st2:=(I.wk A.in1.in1 hA).frame 0 _ ((h1.update s.heap.objs.size (Obj.mapSeq (·.push Value.none))).update s.heap.objs.size (Obj.mapSeq (·.pop))) I.st λb m o e=>kk b o (λz=>nf (z ▸ m)) e
 refine wq ⟨plainId_quiet WD _,?_⟩
 refine codeAny_extend_loopS (W:=(I.wk A.in1 (by simp[hh])).toS) hn s.heap.objs.size nf (.ref s.heap.objs.size) es.size 0 _ #[] _ rfl (yb _) st2 hS3 (ItemsOf.nil _) λs' acc c hm hS' hacc=>?_
 rw[Moved.eq_with hm]
 refine we (Uh hS' (wq ?_))
 rw[<-ly]at hacc
 have ea:=zbU hacc
 have hv:∀v∈acc.toList,∃tk,v=.int (nm v) tk:=λv m=>by
  rw[ea]at m
  obtain⟨e,me,rfl⟩:=wj.mp (I.pm.mem_iff.mp m)
  exact zev hel me
 refine h s'.heap s'.toks d acc.toList _ (λb o' e=>?_) (zcF hv) ?_
 ·have hlt:=wE e
  refine hm.heap b o' (λm=>?_) (kk b o' (wW hlt) (I.kp b o' (wg _ e)))
  rcases wu.mp m with q | q
  ·exact absurd q (wW hlt)
  ·have:=I.it
   rw[z1,<-w5.mp q]at this
   exact absurd (w8 hlt (Nat.le_of_succ_le this)) (uD _)
 ·rw[ea]
  have:=I.pm.map nm
  rw[wG]at this
  exact this.trans hp
end ST
namespace TS
open PySem PySem.W PyProof.Rows ST
variable {prog:Program}{w:World}{A:Around}{E:Value->Shared->Prop}{s:Shared}
theorem zeS {vs:List Value}{ns:List Int}(G:IntsAre vs ns):HLt (λx=>x=s) (model prog w) A E oneType' (λp=>numOf p.1) (pairsOf vs):=by
 intro x y st Q O S I h
 obtain⟨n,t,ex⟩:=G.intKeys x O
 obtain⟨m,u,F⟩:=G.intKeys y S
 rw[lt'_eq]
 refine zr (vX ?_)
 rw[I,keyLt'_oneType,ex,F]
 replace h:Q (some (decide (numOf x.1<numOf y.1))) st:=h
 rw[ex,F]at h
 refine zr (λs' e=>?_)
 subst e
 show wpAny (model prog w) A ((StateT.lift _:StateT SortSt Sem _).run st) _ E s'
 rw[StateT.run_lift]
 exact we (Yf (oneLt_int (wq ⟨rL,zw h⟩)))
theorem zd3 {a:Addr}{vs:List Value}{ns:List Int}{n:Nat}{P:PySem.Fin->Shared->Prop}(ho:s.heap.get? a=some (seqObj "list" vs.toArray n)) (hI:IntsAre vs ns) (hz:vs.length<=1000000)
  (h:∀out ns',IntsAre (Array.toList out) ns'->ns'.Perm ns->ns'.Pairwise (·<=·)->P (.done (.ret .none)) { s with heap:=sortedHeap s.heap a vs out }):wpAny (model prog w) A (Builtin.«list.sort» ⟨[.ref a],[]⟩) P E s:=by
 rcases Yt vs.length 2 with c | c
 ·exact list_sort_tree ho hI (by omega) h
 rw[list_sort_plain]
 obtain⟨e1,g1⟩:∃e1,(s.heap.update a (Obj.mapSeq λ_=>#[])).get? a=some (seqObj "list" #[] e1):=⟨_,get?_update_seq ho λ_=>#[]⟩
 have g2:(((s.heap.update a (Obj.mapSeq λ_=>#[])).push (seqObj "tuple" vs.toArray 0)).push (seqObj "list" #[] 0)).get? a=some (seqObj "list" #[] e1):=wg _ (wg _ g1)
 have hs2:¬vs.toArray.size<2:=by rw[wK];omega
 refine we (listItems_at ho rfl (we (listUpdate_at ho rfl (we (seqEpoch_at g1 rfl (we (Ub (we (WS (yV ?_))) (by rw[sizeLine_eq];show vs.length<=_;omega))))))))
 rw[if_neg hs2,if_neg hs2]
 have kk:keyKind' vs.toArray=pure oneType':=by
  match vs,c with
  |v1::v2::r,_=>exact keyKind_ints hI
 rw[kk]
 refine we (wq (we ?_))
 refine uo (zhW (a₀:=pairsOf vs) (κ:=oneType') (zeS hI) (Q:=λ_ st'=>(arrOf st').Perm (pairsOf vs)/\failedOf st'=none/\Up (λp=>numOf p.1) (arrOf st') 0 (pairsOf vs).size) (st:=SortSt.mk' oneType' (vs.toArray.zip vs.toArray) #[] 7 none) ⟨Array.Perm.refl _,rL,rL⟩ rL (λst' B u=>⟨B.perm,B.fail,u⟩) _ rL) ?_ λ_ _ e=>e
 rintro ⟨⟨⟩,st'⟩ s' ⟨rfl,hp,hf,u⟩
 obtain⟨ns',i1,i2,i3⟩:=sorted_out hI hp λi j h1 h2=>by
  have ek:∀k,kx (λp=>numOf p.1) (arrOf st') k=PyProof.Rows.K (arrOf st') k:=λk=>rfl
  rw[<-ek,<-ek];exact u i j (yb _) h1 h2
 refine we (seqEpoch_at g2 rL (we (listUpdate_at g2 rL ?_ (hsz2:=?_))))
 ·nofun
  rw[hf]
  simp only[bne_self_eq_false,Wo,if_false]
  exact wq (h _ ns' i1 i2 i3)
 ·refine yF (WX ((Array.size_map ..).trans (hp.size_eq.trans (pairsOf_size _)))) ?_
  rw[sizeLine_eq];omega
theorem sorted_of {x:Addr}{ks:List Int}{Q:Value->Shared->Prop}(hz:ks.length<=1000000)
  (hc:∀R:List Value->Shared->Prop,(∀h1 tk d vs ms,(∀b o,s.heap.get? b=some o->h1.get? b=some o)->IntsAre vs ms->ms.Perm ks->R vs { s with heap:=h1,toks:=tk,drawn:=d })->wpAny (model prog w) A.in1 (collect (.ref x)) R E s)
  (h:∀(h1 h':Heap) tk d (out:List Value) c ms,(∀b o,s.heap.get? b=some o->h1.get? b=some o)->(∀b o,h1.get? b=some o->h'.get? b=some o)->h'.get? h1.objs.size=some (seqObj "list" (List.toArray out) c)->IntsAre out ms->ms.Perm ks->ms.Pairwise (·<=·)->Q (.ref h1.objs.size) { s with heap:=h',toks:=tk,drawn:=d }) :
  wpAny (model prog w) A (call (.builtin "sorted") [.ref x]) Q E s:=by
 refine Calls.call_function_entry kind_sorted plain_sorted entry_sorted (args_sorted1 _) ?_
 refine we (wq (we (hc _ λh1 tk d vs ms k1 hI hp=>?_)))
 have hl:vs.length=ms.length:=hI.length
 have hk:=hp.length_eq
 refine we (WS ?_ (by rw[sizeLine_eq];lia))
 have gL:(h1.push (seqObj "list" vs.toArray 0)).get? h1.objs.size=some (seqObj "list" vs.toArray 0):=wJ _ rfl
 refine we (yV (uA slot_list_sort ⟨_,gL,rL⟩ entry_list_sort (zd3 gL hI ∅ λout ns' a1 a2 a3=>⟨_,rL,?_⟩) (args_list_sort _)))
 obtain⟨c,hc'⟩:∃c,(sortedHeap (h1.push (seqObj "list" vs.toArray 0)) h1.objs.size vs out).get? h1.objs.size=some (seqObj "list" out c):=sortedHeap_at gL
 refine wq ⟨_,rfl,h h1 _ tk d out.toList c ns' k1 (λb o e=>?_) ↥hc' a1 (a2.trans hp) a3⟩
 have hlt:=wE e
 rw[sortedHeap_old (wW hlt) (by rw[size_push'];exact Wa hlt)]
 exact wg _ e
end TS
namespace L2
open PySem PySem.Spec PyProof.Rows
section
variable {X:Cx}{pz:List (Addr×Obj)}{σ:St}{H:Hp}{s:Shared}
theorem Inv.drawn (I:Inv X pz σ H s) (d:Drawn):Inv X pz σ H { s with drawn:=d }:=⟨I.ok,I.os,I.bare,I.base,I.loc,I.cell,I.free,I.freeC,I.pin,I.hok,I.len⟩
inductive JR (K:Fg) (Q:VK) (x:V) (H1:Hp):Prop
 |mk:∀(p:Addr) (ns:List Int),(x=.ref p)->(SqL K H1 p (ns.map V.int))->(ns.length<4000)->(∀(D:Addr) (ms:List Int),H1 D=none->(∀k,k∈ms↔k∈ns)->ms.Nodup->ms.Pairwise (·<=·)->Q (.ref D) (upd H1 D (.lst (ms.map V.int))))->JR K Q x H1
def zgh (K:Fg) (ta:TE):TE:=λσ H Q=>ta σ H λx H1=>JR K Q x H1
theorem zb9 {a:Expr}{ta:TE}{p S pos pos2:Pos}(hc:X.calm=true) (hg:Gl X "sorted") (hm:X.mg "sorted" = none) (a1:Gl X "set") (Y:X.mg "set" = none) (ha:PE X a ta)
  (hs:starEach [a] X.env=(false,eval a X.env)::starEach [] X.env:=by rfl) (G:starEach [.Call (.Name "set" S) [a] [] pos2] X.env=(false,eval (.Call (.Name "set" S) [a] [] pos2) X.env)::starEach [] X.env:=by rfl)
  (h0:(backTo pos2 (starEach ([]:List Expr) X.env)).any (·.1)=false:=by rfl) (h1:(backTo pos (starEach ([]:List Expr) X.env)).any (·.1)=false:=by rfl) :
  PE X (.Call (.Name "sorted" p) [.Call (.Name "set" S) [a] [] pos2] [] pos) (zgh X.K ta):=by
 intro pz s σ H Q I h
 refine uy (ZC I hg hm boot_sorted (WY ?_ G h1))
 rw[G]
 refine Calls.spliced_cons (uy (ZC I a1 Y PyProof.Rows.boot_set (yN ?_ hs h0)))
 rw[hs]
 refine Calls.spliced_cons (thn (ha pz s σ H _ I h) λu s1 ⟨x,H1,I1,r1,q1⟩=>Calls.spliced_nil ?_)
 obtain⟨l,ns,rfl,hq,hz,k⟩:=q1
 cases r1
 obtain⟨a2,rv,pl,_⟩:=I1.list hq
 have hi:=ZB rv
 refine ST.call_set (I1.ok.hd hc) pl.isList ↥hi (by show ns.length+1<4096;lia) λh2 W si k2=>Calls.spliced_nil ?_
 have J:=I1.kept (h':=h2) (t':=W) k2
 have hl:(ST.uq ns.reverse).length<=1000000:=by
  have:=ST.uq_len ns.reverse
  rw[List.length_reverse]at this
  lia
 refine TS.sorted_of hl (λR hR=>ST.set_collect (by simpa using I1.ok.hd hc) si hl λO tk d vs ms k3 U F=>hR O tk d vs ms k3 U F) λO h4 tk d out c ms k3 k4 hD U F s3=>?_
 have J1:=(J.drawn d).kept (h':=O) (t':=tk) k3
 refine⟨.ref O.objs.size,_,J1.laid (h':=h4) (t':=tk) (o:=.lst (ms.map V.int)) k4 (wn _) ⟨?_,out,c,vL U,hD⟩,rL,k _ ms (J1.hok.fresh (wn _)) (λz=>?_) (F.nodup_iff.mpr (ST.uq_nodup _)) s3⟩
 ·have:=F.length_eq
  rw[wc,sizeLine_eq];lia
 ·rw[F.mem_iff,ST.uq_mem,W8]
end
def V0 (a c:Int) (n:Nat):List Int:=(List.range n).map λi:Nat=>a+(i:Int)*c
section
variable {prog:Program}{w:World}{A:Around}{E:Value->Shared->Prop}{s:Shared}{r:Addr}{a b c:Int}{t u v:Tok}{n:Nat}
theorem zfC {F:Array Value}(h:ItemsOf (λi v=>∃t,v=.int (a+i*c) t) F n):IntsAre F.toList (V0 a c n):=by
 refine zae (by rw[wO,h.1];unfold V0;rw[wc,yU]) λi v m e1 e2=>?_
 rw[wR]at e1
 obtain⟨t,rfl⟩:=h.2 i v e1
 unfold V0 at e2
 rw[wo]at e2
 have:i<n:=by have:=(wZ.mp e1).1;rw[h.1]at this;exact this
 rw[List.getElem?_range this]at e2
 cases e2;exact⟨t,rfl⟩
theorem zdI {Q:Value->Shared->Prop}(hh:A.handled=none) (hr:IsRange s.heap r a b c t u v) (hb:Builtin.Range.small a b c=false) (hn:Builtin.Range.rangeSize a b c=n) (hz:n<=2^24)
  (hQ:∀h' tk acc c',(∀b o,s.heap.get? b=some o->h'.get? b=some o)->h'.get? s.heap.objs.size=some (seqObj "list" acc c')->ItemsOf (λi v=>∃t,v=.int (a+i*c) t) acc n->Q (.ref s.heap.objs.size) { s with heap:=h',toks:=tk }) :
  wpAny (model prog w) A (call (.type "list") [.ref r]) Q E s:=by
 have g0:(s.heap.push (seqObj "list" #[] 0)).get? s.heap.objs.size=some (seqObj "list" #[] 0):=wJ _ rfl
 refine callType_codes (Q₁:=λv s₁=>v=.ref s.heap.objs.size/\s₁ = { s with heap:=s.heap.push (seqObj "list" #[] 0) }) PySem.F.called_list (PySem.F.typeCall_list_1 _) PySem.F.entry_list_init (code_list_new _ ⟨rfl,rfl⟩) λobj s₁ h₁=>?_
 obtain⟨rfl,rfl⟩:=h₁
 exists⟨_,g0,rfl⟩,PySem.F.args_list_init_2 _ _
 have lr:=wE hr
 generalize hS:s.heap.objs.size=S at *
 have nr:S≠r:=WE lr
 refine we (listItems_at g0 rL (we (listUpdate_at g0 rL (we (wpAny_letGo ?_)))))
 obtain⟨e1,g1⟩:∃e1,((s.heap.push (seqObj "list" #[] 0)).update S (Obj.mapSeq λ_=>#[])).get? S=some (seqObj "list" #[] e1):=⟨_,get?_update_seq g0 λ_=>#[]⟩
 have k1:∀x o,x≠S->s.heap.get? x=some o->((s.heap.push (seqObj "list" #[] 0)).update S (Obj.mapSeq λ_=>#[])).get? x=some o:=λx o hb e=>(ym _ _ (Ne.symm hb)).trans (wg _ e)
 have z1:((s.heap.push (seqObj "list" #[] 0)).update S (Obj.mapSeq λ_=>#[])).objs.size=S+1:=by rw[Heap.size_update,WB,hS]
 have r1:=k1 r _ (Ne.symm nr) hr
 generalize (s.heap.push (seqObj "list" #[] 0)).update S (Obj.mapSeq λ_=>#[])=h1 at g1 k1 z1 r1
 refine(?_:wpAny _ _ (Builtin.List.listExtendWith _ _ _) _ _ _)
 unfold Builtin.List.listExtendWith
 refine we (Y5 (T:="range") ⟨_,r1,rL⟩ ?_)
 have c1:Builtin.List.listSameRef (.ref S) (.ref r)=false:=by simp[Builtin.List.listSameRef,nr]
 have c2:(Value.type "range" == Value.type "list")=false:=by decide
 have c3:(Value.type "range" == Value.type "tuple")=false:=by decide
 simp only[c1,c2,c3,Bool.or_false,Wo,if_false]
 refine we (wpAny_pyIter_longrange r1 hb (we (yV (wpAny_hint_range (n:=n) (wg _ r1) hn hz ?_))))
 have W:=(Walks.longrange (prog:=prog) (w:=w) (A:=A.in1.in1) (by simp[hh]) h1.objs.size a c n).toS
 have nI:S∉[h1.objs.size]:=by rw[z1,w5];exact wW (W6 _)
 have it0:IsLongIter (h1.push { cls:=.type "longrange_iterator",data:=.fields #[rawInt a,rawInt (Builtin.Range.rangeSize a b c),rawInt c] }) h1.objs.size (a+((0:Nat):Int)*c) ((n:Int)-((0:Nat):Int)) c:=by
  show IsLongIter _ _ _ _ _;rw[hn];simpa using wJ _ rfl
 have g2:=wg { cls:=.type "longrange_iterator",data:=.fields #[rawInt a,rawInt (Builtin.Range.rangeSize a b c),rawInt c] } g1
 have k2:∀x o,x≠S->s.heap.get? x=some o->(h1.push { cls:=.type "longrange_iterator",data:=.fields #[rawInt a,rawInt (Builtin.Range.rangeSize a b c),rawInt c] }).get? x=some o:=λx o hb e=>wg _ (k1 x o hb e)
 have zI:h1.objs.size=S+1:=z1
 have loop:∀(h:Heap) (e2 tk:Nat),IsLongIter h h1.objs.size (a+((0:Nat):Int)*c) ((n:Int)-((0:Nat):Int)) c->(∀x o,x≠S->s.heap.get? x=some o->h.get? x=some o)->h.get? S=some (seqObj "list" #[] e2) →
   codeAny (model prog w) A.in1 (.builtin "list.extend.loop" ⟨[.ref S,.ref h1.objs.size,.none],[]⟩) (wants (λr s₂=>r=.none/\Q (.ref S) s₂) E) { s with heap:=h,toks:=tk }:=λh e2 tk hi hk hg=>by
  refine codeAny_extend_loopS W (by rw[sizeLine_eq];lia) S nI .none n 0 _ #[] e2 rfl (yb _) hi hg (ItemsOf.nil _) λs' acc c' hm g' ha=>?_
  rw[Moved.eq_with hm]
  refine⟨rL,hQ s'.heap s'.toks acc c' (λb o e=>?_) g' ha⟩
  have hlt:=wE e
  rw[hS]at hlt
  refine hm.heap b o (λm=>?_) (hk b o (wW hlt) e)
  rcases wu.mp m with q | q
  ·exact absurd q (wW hlt)
  ·rw[w5,zI]at q
   exact absurd q (wW (Wa hlt))
 refine wpAny_ite_split (λ_=>?_) (λ_=>wq ⟨plainId_quiet WD _,loop _ _ _ it0 k2 g2⟩)
 refine we (Yg (we ?_))
 refine(?_:wpAny _ _ (updateSeq _ _ >>= _) _ _ _)
 refine we (Yn g2 rL ?_ (hz:=yb _) (_hz':=?_))
 ·have g3:=yP (Obj.mapSeq (·.push Value.none)) g2 rfl
  refine Yn g3 rL ?_ (hz:=?_) (_hz':=?_)
  ·have g4:=yP (Obj.mapSeq (·.pop)) g3 rfl
   have keep:∀x o,x≠S->(h1.push { cls:=.type "longrange_iterator",data:=.fields #[rawInt a,rawInt (Builtin.Range.rangeSize a b c),rawInt c] }).get? x=some o->(((h1.push { cls:=.type "longrange_iterator",data:=.fields #[rawInt a,rawInt (Builtin.Range.rangeSize a b c),rawInt c] }).update S (Obj.mapSeq (·.push Value.none))).update S (Obj.mapSeq (·.pop))).get? x=some o :=
    λx o hb e=>(ym _ _ (Ne.symm hb)).trans ((ym _ _ (Ne.symm hb)).trans e)
   refine wq ⟨plainId_quiet WD _,loop _ _ _ (keep _ _ (λz=>nI (by rw[z];exact List.mem_singleton_self _)) it0) (λx o hb e=>keep x o hb (k2 x o hb e)) g4⟩
  ·rw[sizeLine_eq];show 1<=_;lia
  ·rw[sizeLine_eq];show 0<=_;lia
 ·rw[sizeLine_eq];show 1<=_;lia
end
inductive Jc (Q:VK) (xs:List V) (H1:Hp):Prop
 |mk:∀(a b c:Int) (n:Nat),(xs=[.int a,.int b,.int c])->(c≠0)->(Bd 8900 c)->(Builtin.Range.rangeSize a b c=n)->(n<=10000)->(∀l,H1 l=none->Q (.ref l) (upd H1 l (.lst ((V0 a c n).map V.int))))->Jc Q xs H1
def zd7 (ta:TA):TE:=λσ H Q=>ta σ H λxs H1=>Jc Q xs H1
section
variable {X:Cx}
theorem zba {a b d:Expr}{ta:TA}{p pos p2 pos2:Pos}(hc:X.calm=true) (hg:Gl X "list") (hm:X.mg "list" = none) (hg2:Gl X "range") (hm2:X.mg "range" = none) (ha:PA X [a,b,d] ta)
  (hs:starEach [a,b,d] X.env=[(false,eval a X.env),(false,eval b X.env),(false,eval d X.env)]:=by rfl) (hs1:starEach [b,d] X.env=[(false,eval b X.env),(false,eval d X.env)]:=by rfl) (hs2:starEach [.Call (.Name "range" p2) [a,b,d] [] pos2] X.env=[(false,eval (.Call (.Name "range" p2) [a,b,d] [] pos2) X.env)]:=by rfl) :
  PE X (.Call (.Name "list" p) [.Call (.Name "range" p2) [a,b,d] [] pos2] [] pos) (zd7 ta):=by
 intro pz s σ H Q I h
 refine uy (ZC I hg hm WT ?_)
 refine yN ?_ hs2 rL
 rw[hs2]
 refine Calls.spliced_cons (Call_ (ZC I hg2 hm2 PyProof.Rows.boot_range (yN (thn (ha pos2 pz s σ H _ I h) λus s1 ⟨vs,H1,I1,r1,q1⟩=>?_) (by rw[hs,hs1]) (by rw[hs1];rfl))))
 obtain⟨i,j,k,n,e,h0,bk,hn,hz,q⟩:=q1
 subst e
 obtain⟨u,v,w',rfl,⟨t,rfl⟩,⟨t',rfl⟩,⟨t'',rfl⟩⟩:∃u v w',us=[u,v,w']/\xn (.int i) u/\xn (.int j) v/\xn (.int k) w':=by
  cases r1 with
  |cons a1 r1=>cases r1 with
   |cons a2 r1=>cases r1 with
    |cons a3 r1=>cases r1;exact⟨031,a1,a2,a3⟩
 refine call_range_3 h0 (Calls.spliced_nil ?_) (Or.inl (PyProof.noPylong_of_log2 ?_))
 rotate_left
 ·by_cases z:k.natAbs=0
  ·rw[z];decide +kernel
  ·exact w8 ((Nat.log2_lt z).mpr bk) ⇑1
 have I2:Inv X pz σ H1 { s1 with heap:=s1.heap.push { cls:=.type "range",data:=.fields #[.int i t,.int j t',.int k t''] },toks:=s1.toks }:=I1.kept λb o e=>wg _ e
 have fin:∀h' tk acc c',(∀b o,(s1.heap.push { cls:=.type "range",data:=.fields #[.int i t,.int j t',.int k t''] }).get? b=some o->h'.get? b=some o)->h'.get? (s1.heap.push { cls:=.type "range",data:=.fields #[.int i t,.int j t',.int k t''] }).objs.size=some (seqObj "list" acc c')->ItemsOf (λx y=>∃t,y=.int (i+x*k) t) acc n →
   EP X pz σ Q (.ref (s1.heap.push { cls:=.type "range",data:=.fields #[.int i t,.int j t',.int k t''] }).objs.size) { s1 with heap:=h',toks:=tk }:=λh' tk acc c' hk hS ha=>by
  refine⟨.ref _,_,I2.laid (t':=tk) (o:=.lst ((V0 i k n).map V.int)) hk (wn _) ⟨?_,acc.toList,c',vL (zfC ha),by rw[Array.toArray_toList];exact hS⟩,rfl,q _ (I2.hok.fresh (wn _))⟩
  unfold V0
  rw[wc,wc,yU,sizeLine_eq];lia
 have hz2:n<=2^24:=yF hz ⇑1
 cases sm:Builtin.Range.small i j k with
 |true=>exact call_list_range (n:=n) (I1.ok.hd hc) (IsRange.new ..) sm hn hz2 λh' tk acc c' hk hS ha=>fin h' tk acc c' hk hS ha
 |false=>exact zdI (n:=n) (I1.ok.hd hc) (IsRange.new ..) sm hn hz2 λh' tk acc c' hk hS ha=>fin h' tk acc c' hk hS ha
end
open MeetsSeq MeetsSeq2 MeetsSeq3 SeqRoads2 SeqAt AutoSeq1
section
variable {X:Cx}
theorem zdu:fillsInplaceSlot (.type "list") "add" (Operator.Add == .Add)=pure false:=by
 unfold fillsInplaceSlot
 refine(?_:(typeLookup (.type "list") (dunderI "add") >>= _)=_)
 rw[WU.lookup];rfl
theorem zfR:seqSlot? (.type "list") (dunderI "add")=pure (some (.builtin "list.__iadd__")):=by
 unfold seqSlot?
 rw[WU.lookup];rfl
inductive zcY (x:V) (y:V) (H:Hp) (Q:VK):Prop
 |mk:∀l b xs zs,(x=.ref l)->(y=.ref b)->(H l=some (.lst xs))->(H b=some (.lst zs))->(xs.length+zs.length<=sizeLine)->(Q (.ref l) (upd H l (.lst (xs++zs))))->zcY x y H Q
def zjz:R2:=λx y H Q=>zcY x y H Q
theorem zeU:OpR X (inplaceOp .Add) zjz:=by
 intro pz s σ H x y v u Q I rx ry h
 obtain⟨l,b,xs,zs,rfl,rfl,U,hB,hz,q⟩:=h
 cases rx
 cases ry
 obtain⟨z,O,n,r,hl,e⟩:=I.lstM U
 obtain⟨z2,G,n2,Y,W,e2⟩:=I.lstM hB
 have S:s.TypeIs (.ref l) "list":=⟨_,e,rfl⟩
 have V:s.TypeIs (.ref b) "list":=⟨_,e2,rfl⟩
 have sm:O.toArray.size+G.toArray.size<=sizeLine:=by rw[wK,wK];lia
 refine yV (we (Y5 S (we (Ug zdu ?_))))
 refine ST.ite_no ye (we (binaryOp1_none (nm:="add") S V noFill_list_add (we (Ug zfR (we (Yg ?_))))))
 refine call_meets WU S PySem.F.entry_list_iadd (PySem.F.args_list_iadd_2 _ _) (list___iadd___list_list_0 l O.toArray n b G.toArray n2 (by rw[zfe sm,Bool.and_false];exact ye) (by rw[wK];lia) ∅) ⟨e,e2,?_⟩
 refine⟨.ref l,_,I.lset (its':=O++G) U e (by simp) (r.append Y) ?_,rfl,q⟩
 rw[wX];lia
theorem zaL {p:Int}:∀{xs:List Int}{F:List Value},xa (xs.map V.int) F->F.countP (λv=>decide (ST.nm v=p))=xs.countP λn=>decide (n=p)
 |[],F,r=>by cases r;rfl
 |x::xs,F,r=>by
  rw[yn]at r
  cases r with
  |cons rx rs =>
   obtain⟨t,rfl⟩:=rx
   rw[uH,uH,zaL rs];rfl
def zlb:V->List V->Hp->VK->Prop:=λx vs H Q=>∃(l:Addr) (xs:List Int) (p:Int),x=.ref l/\vs=[.int p]/\H l=some (.lst (xs.map V.int))/\Q (.int ((xs.countP λn=>decide (n=p):Nat):Int)) H
theorem zdN (hu:X.A.units+64<cLine):MtR X "list.count" zlb:=by
 intro pz s σ H x vs v us Q I rx rv h
 obtain⟨l,xs,p,rfl,rfl,hl,k⟩:=h
 cases rx
 obtain⟨u,rfl,ru⟩:=rv.one
 obtain⟨t,rfl⟩:=ru
 obtain⟨z,O,n,r,hz,e⟩:=I.lstM hl
 obtain⟨bs,rb⟩:=(show RdD H (.int p) (.int p)from .int _).reads I ⟨t,rfl⟩
 have key:∀y,y∈O.toArray->EqAt X.A.in1 s y (.int p t) (decide (ST.nm y=p)):=λy hy=>by
  obtain⟨j,hj⟩:=Wr.mp (show y∈O by simpa using hy)
  have a2:=r.length
  have a1:=(w4.mp hj).1
  obtain⟨Y,G⟩:∃Y,(xs.map V.int)[j]?=some Y:=⟨_,wH ∅⟩
  obtain⟨uv,S,U⟩:=r.get G
  rw[hj]at S;cases S
  rw[wo]at G
  cases hx:xs[j]? with
  |none=>rw[hx]at G;cases G
  |some m =>
   rw[hx]at G;cases G
   obtain⟨W,rfl⟩:=U
   obtain⟨as,ra⟩:=(show RdD H (.int m) (.int m)from .int _).reads I ⟨W,rfl⟩
   have ee:decide (ST.nm (.int m W)=p)=PyData.eqv (.int m) (.int p):=rfl
   rw[ee]
   exact eqAt_reads _ _ _ _ _ _ _ _ ra rb rfl rfl (by show X.A.units+1+min 0 0<cLine;lia)
 refine call_meets F.slot_list_count ⟨_,e,rL⟩ F.entry_list_count (F.args_list_count_2 _ _) (list_countAt l O.toArray n none #[] (.int p t) λy=>decide (ST.nm y=p)) ⟨e,key,?_⟩
 exists .int _,H,I.tok _,⟨_,rfl⟩
 rw[show O.toArray.toList=O from rfl,zaL r]
 exact k
end
end L2
namespace KK
open PySem L2
variable {P:Program}{w:World}{K:Fg}{mg:Str->Option Value}{base:Heap}{aN:Addr}
def top (i:Nat):Stmt:=PySem.Challenge.pw_clackrow_k39_whole_first_moments_followe.main.body.getD i (.Pass ⟨0,0,0,0⟩)
abbrev XZ:Stmt:=top 8
abbrev XY:Stmt:=top 9
abbrev qC:Stmt:=top 10
abbrev XV:Stmt:=top 11
abbrev ZM:Stmt:=top 12
abbrev zcb:Stmt:=top 13
abbrev zca:Stmt:=top 14
abbrev vf:Stmt:=top 17
abbrev vx:Stmt:=top 18
abbrev Qf:Stmt:=top 19
abbrev Qe:Stmt:=top 20
abbrev Xc:Stmt:=top 21
abbrev V7:Stmt:=top 22
abbrev Q9:Stmt:=top 23
abbrev QZ:Stmt:=top 26
abbrev vU:Stmt:=top 27
abbrev vT:Stmt:=top 28
abbrev Zh:Stmt:=top 29
abbrev QY:Stmt:=top 30
abbrev XW:Stmt:=top 31
abbrev XU:Stmt:=top 33
abbrev vA:Stmt:=top 34
abbrev vz:Stmt:=top 35
abbrev vg:Stmt:=top 36
abbrev qO:Stmt:=top 37
abbrev Va:Stmt:=top 38
abbrev Q8:Stmt:=top 39
abbrev QW:Stmt:=top 40
abbrev V6:Stmt:=top 41
abbrev Xd:Stmt:=top 43
abbrev Zg:Stmt:=top 44
abbrev vy:Stmt:=top 45
abbrev Zj:Stmt:=top 46
abbrev Qd:Stmt:=top 47
abbrev QX:Stmt:=top 50
abbrev qP:Stmt:=top 51
abbrev qN:Stmt:=top 52
abbrev Xb:Stmt:=top 53
abbrev XX:Stmt:=top 54
abbrev zcc:Stmt:=top 55
abbrev ZL:Stmt:=top 56
abbrev X8:Stmt:=top 58
abbrev Q0:Stmt:=top 59
abbrev Qb:Stmt:=top 60
abbrev ZI:Stmt:=top 61
abbrev Q6:Stmt:=top 62
abbrev ZK:Stmt:=top 64
abbrev X9:Stmt:=top 65
abbrev Qa:Stmt:=top 66
abbrev Q7:Stmt:=top 67
abbrev Zi:Stmt:=top 68
abbrev ZJ:Stmt:=top 69
abbrev Z8:Stmt:=top 70
abbrev Z9:Stmt:=top 73
abbrev Qc:Stmt:=top 74
abbrev Xa:Stmt:=top 75
abbrev s_law:Stmt:=top 76
abbrev qk:Stmt:=zgS (top 16) 0
structure TxB (K:Fg) (mg:Str->Option Value):Prop where
 ii:PySem.W.kitOne K (.type "int") (.type "int")=some true
 ib:PySem.W.kitOne K (.type "int") (.type "bool")=some false
 nIs:mg "isinstance" = none
 nInt:mg "int" = none
 nBool:mg "bool" = none
 nAbs:mg "abs" = none
 nLen:mg "len" = none
 nMax:mg "max" = none
 nMin:mg "min" = none
 nRange:mg "range" = none
 nTuple:mg "tuple" = none
 nSum:mg "sum" = none
inductive QB  (vs:List V) (H:Hp) (Q:VK) (_e3:XK):Prop
 |mk:∀i,(vs=[.int i])->(Q (.bl true) H)->QB vs H Q _e3
theorem zfQ:zC ["thing"] ["thing"] (zi XZ):=scq
theorem zfj (D:Df K mg "is_whole" XZ ["thing"] []) (T:TxB K mg):⇑3 "is_whole" 1 ["thing"] [] QB:=by
 refine D.cal (k:=0) zfQ (λvs H Q E h=>by obtain⟨i,rfl,_⟩:=h;rfl) (λf cdv A outer s H vs Q E hr h=>?_)
 obtain⟨i,rfl,k⟩:=h
 refine⟨_,zo (zE (qA
  (zO jS rfl T.nIs uK %[0,Vs (v:=.ty "int") (u:=.type "int") rfl T.nInt PyProof.Rows.boot_int rfl|0])
  (vQ (zjt (zO jS rfl T.nIs uK %[0,Vs (v:=.ty "bool") (u:=.type "bool") rfl T.nBool ⇑0 rfl|0]))))),?_⟩
 refine⟨00,_,_,_,true,rL,.int i,T.ii,true,rL,xM ?_⟩
 exact⟨00,_,_,_,false,rL,.int i,T.ib,false,rL,k⟩
inductive JO  (vs:List V) (H:Hp) (Q:VK) (_e3:XK):Prop
 |mk:∀a b:Int,(vs=[.int a,.int b])->(0<=a)->(0<=b)->(Q (.int (Int.gcd a b:Nat)) H)->JO vs H Q _e3
theorem zfK:zC ["one","other"] ["one","other"] (zi qC):=scq
theorem zi7 (D:Df K mg "greatest_divisor" qC ["one","other"] []):⇑3 "greatest_divisor" 1 ["one","other"] [] JO:=by
 rcases r:D.cal (k:=0) zfK (λvs H Q E h=>by obtain⟨a,b,rfl,_⟩:=h;rfl) with⟨a,b,rfl,S,O,k⟩
 refine⟨_,ze (zbb PassesOwn.never (zF XB (pv 1) zh (zH _))
   (zo (XS (i:=0) (j:=1) rfl zfK.nd rfl rfl ⇑1 rfl rfl %[1,zy vO (pv 0) (pv 1)|0] ⇑2)))
  (zo (zE (pv 0))),?_⟩
 refine zbC (λσ H1=>H1=H/\∃x y:Int,σ=[Si x,Si y]/\0<=x/\0<=y/\Int.gcd x y=Int.gcd a b)
  (λσ _=>match σ with | [_,some (.int y)]=>y.toNat | _=>0) ⟨rfl,a,b,rfl,S,O,rfl⟩ ?_ ?_
 ·rintro σ H1 F;rcases q:F with⟨rfl,x,y,rfl,U,V,e⟩
  refine⟨00,022,00,vu (λh=>?_) (λh=>?_)⟩
  ·have h':0<y:=ww h
   exists 02,022,h',021,⟨rfl,021,V,yD _ ∅,?_⟩
   ·rw[KM.zaV U h'];exact e
   ·show (x % y).toNat<y.toNat
    have:=yE x h'
    lia
  ·have h':¬ 0<y:=λz=>h (wm z)
   have:y=0:=by lia
   subst this
   refine⟨00,?_⟩
   have e2:x=(Int.gcd a b:Nat):=by rw[<-e,Int.gcd_zero_right];lia
   rw[e2];exact k
 ·rintro σ H1 Y W I F;rcases q:F with⟨v,e,i,j,e1,e2,k1,G,q⟩
  exact⟨v,e,i,j,e1,e2,k1,G,I _ _ q⟩
theorem V9:zC ["top","bottom","divisor"] ["top","bottom"] (zi ZM):=scq
theorem Zb (i:Int):(if i<0 then -i else i)=(i.natAbs:Int):=by split <;> lia
theorem zfh {dvs:List V}(D:Df K mg "ratio" ZM ["top","bottom"] dvs) (T:TxB K mg) (S:⇑3 "is_whole" 1 ["thing"] [] QB) (U:⇑3 "greatest_divisor" 1 ["one","other"] [] JO) :
  ⇑3 "ratio" 2 ["top","bottom"] dvs vw:=by
 rcases r:D.cal (k:=1) V9 (λvs H Q E h=>by obtain⟨a,b,rfl,_⟩:=h;rfl) with⟨t,b,rfl,G,hz,k⟩
 refine⟨_,ze (xf (QA (ZH (xS (zD S hr %[0|0]) λ_=>rL)) (QA (ZH (xS (zD S hr %[1|0]) λ_=>rL)) (XT (zF ZP (pv 1) zh (zH _))))).pt Zs zT)
  (ze (psl (i:=2) V9.nd (zD U hr %[zO qH rfl T.nAbs yI %[0|0],zO qH rfl T.nAbs yI %[1|0]|0]))
  (ze (xf (zF Zo (pv 1) zh (zH _)) (zo (psl (i:=2) V9.nd (jX qS (pv 2)))) zT)
  (zo (zE (zX %[zy xF (pv 0) (pv 2),zy xF (pv 1) (pv 2)|0]))))),?_⟩
 refine⟨00,t,rL,true,rL,xi ?_⟩
 refine⟨00,b,rL,true,rL,xi ?_⟩
 refine⟨00,rfl,00,vu (λh=>absurd (ww h) (by intro z;injection z with z;exact G z)) (λ_=>?_)⟩
 refine⟨00,t,rfl,⟨00,b,rfl,⟨021,(by rw[Zb];lia),(by rw[Zb];lia),?_⟩⟩⟩
 have hd:=KM.zh7 (t:=t) G
 have I:Bd 8900 (KM.dv t b):=hz.of_le (KM.zh6 G)
 have F:∀σ:St,σ=[Si t,Si b,some (.int (KM.dv t b))]->zgg (zkd (qc (tOp (rI zaG λi j=>V.int (i.fdiv j)) (xy 0) (xy 2)) (qc (tOp (rI zaG λi j=>V.int (i.fdiv j)) (xy 1) (xy 2)) Zu))) { nx:=λ_ H'=>Q .non H',rt:=Q } σ H:=by
  rintro σ rfl
  exists 01,022,⟨hd,I⟩,01,022,⟨hd,I⟩
  refine⟨⇑5,λp W=>k p _ (zq.upd W) ?_⟩
  show upd H p _ p=_
  rw[zj]
  nofun
  rw[KM.zbP G,KM.zeu G];rfl
 have O:(Int.gcd (if t<0 then -t else t) (if b<0 then -b else b):Nat)=Int.gcd t b:=by
  rw[Zb,Zb];simp[Int.gcd]
 refine⟨00,022,00,vu (λh=>?_) (λh=>?_)⟩
 ·have h':b<0:=ww h
  refine⟨01,F _ ?_⟩
  rw[O];unfold KM.dv;rw[if_pos h'];rfl
 ·have h':¬b<0:=λz=>h (wm z)
  refine F _ ?_
  rw[O];unfold KM.dv;rw[if_neg h'];rfl
theorem Bd4 {x:Rat}(h:Sz 4000 x):Bd 1000000 x.num/\Bd 1000000 (x.den:Int):=⟨h.1.md,h.2.md⟩
section
variable {x y:Rat}{p q:Addr}{H:Hp}
theorem zhw {Q:VK}(O:zu H p x) (G:zu H q y) (S:Sz 4000 x) (U:Sz 4000 y) (k:∀r H',zq H H'->zu H' r (x+y)->Q (.ref r) H') :
  zgg (ZQ vw [] E0 (qc (tOp (rI0 λi j=>.int (i+j)) (tOp (rI VC λi j=>.int (i*j)) (tOp (vG K) (xy 0) (tC (.int 0))) (tOp (vG K) (xy 1) (tC (.int 1)))) (tOp (rI VC λi j=>.int (i*j)) (tOp (vG K) (xy 1) (tC (.int 0))) (tOp (vG K) (xy 0) (tC (.int 1)))))
   (qc (tOp (rI VC λi j=>.int (i*j)) (tOp (vG K) (xy 0) (tC (.int 1))) (tOp (vG K) (xy 1) (tC (.int 1)))) Zu))) { nx:=λ_ H'=>Q .non H',rt:=Q } [some (.ref p),some (.ref q)] H:=by
 have I:=Bd4 S
 have F:=Bd4 U
 exists 00,p,032,.of O,at0 ..,00,q,032,.of G,at1 ..,022,⟨I.1,F.2⟩
 exists 00,q,032,.of G,at0 ..,00,p,032,.of O,at1 ..,022,⟨F.1,I.2⟩,022
 exists 00,p,032,.of O,at1 ..,00,q,032,.of G,at1 ..,022,⟨I.2,F.2⟩
 refine⟨021,u9 (KM.qI x) (KM.qI y),(S.2.mul U.2).md,λr H' e h=>k r H' e ?_⟩
 rw[<-KM.zcW];exact h
theorem zfy {Q:VK}(U:zu H p x) (G:zu H q y) (O:Sz 4000 x) (S:Sz 4000 y) (k:∀r H',zq H H'->zu H' r (x*y)->Q (.ref r) H') :
  zgg (ZQ vw [] E0 (qc (tOp (rI VC λi j=>.int (i*j)) (tOp (vG K) (xy 0) (tC (.int 0))) (tOp (vG K) (xy 1) (tC (.int 0))))
   (qc (tOp (rI VC λi j=>.int (i*j)) (tOp (vG K) (xy 0) (tC (.int 1))) (tOp (vG K) (xy 1) (tC (.int 1)))) Zu))) { nx:=λ_ H'=>Q .non H',rt:=Q } [some (.ref p),some (.ref q)] H:=by
 have I:=Bd4 O
 have F:=Bd4 S
 exists 00,p,032,.of U,at0 ..,00,q,032,.of G,at0 ..,022,⟨I.1,F.1⟩
 exists 00,p,032,.of U,at1 ..,00,q,032,.of G,at1 ..,022,⟨I.2,F.2⟩
 refine⟨021,u9 (KM.qI x) (KM.qI y),(O.2.mul S.2).md,λr H' e h=>k r H' e ?_⟩
 rw[<-KM.zbu];exact h
end
theorem zhF:zC ["one","other"] ["one","other"] (zi Q7):=scq
theorem zhe (D:Df K mg "_law_sum" Q7 ["one","other"] []) (c:⇑3 "_law_lowest" 1 ["top","bottom"] [] vw):⇑3 "_law_sum" 2 ["one","other"] [] (qQ Sz2 (· + ·)):=by
 rcases r:D.calq (k:=1) zhF with⟨p,q,x,y,rfl,F,G,⟨I,O⟩,k⟩
 exact⟨_,zo (zE (zD c hr %[zy xr (zy zK (pxt (pv 0)) (pxt (pv 1))) (zy zK (pxt (pv 1)) (pxt (pv 0))),zy zK (pxt (pv 0)) (pxt (pv 1))|0])),zhw F G I O k⟩
theorem zfM:zC ["one","other"] ["one","other"] (zi Zi):=scq
theorem zfg (D:Df K mg "_law_product" Zi ["one","other"] []) (c:⇑3 "_law_lowest" 1 ["top","bottom"] [] vw):⇑3 "_law_product" 2 ["one","other"] [] (qQ Sz2 (· * ·)):=by
 rcases r:D.calq (k:=1) zfM with⟨p,q,x,y,rfl,F,G,⟨I,O⟩,k⟩
 exact⟨_,zo (zE (zD c hr %[zy zK (pxt (pv 0)) (pxt (pv 1)),zy zK (pxt (pv 0)) (pxt (pv 1))|0])),zfy F G I O k⟩
theorem zhG:zC ["one","other"] ["one","other"] (zi zcb):=scq
theorem zhg (D:Df K mg "over" zcb ["one","other"] []) (c:⇑3 "ratio" 2 ["top","bottom"] [] vw):⇑3 "over" 3 ["one","other"] [] (qQ (λx y=>Sz2 x y/\y≠0) (· / ·)):=by
 rcases r:D.calq (k:=2) zhG with⟨p,q,x,y,rfl,V,I,⟨⟨S,U⟩,G⟩,k⟩
 have O:=Bd4 S
 have F:=Bd4 U
 exists _,zo (zE (zD c hr %[zy zK (pxt (pv 0)) (pxt (pv 1)),zy zK (pxt (pv 0)) (pxt (pv 1))|0]))
 exists 00,p,032,.of V,at0 ..,00,q,032,.of I,at1 ..,022,⟨O.1,F.2⟩
 exists 00,p,032,.of V,at1 ..,00,q,032,.of I,at0 ..,022,⟨O.2,F.1⟩
 refine⟨021,u9 (KM.qI x) (λz=>G (Rat.num_eq_zero.mp z)),(S.2.mul U.1).md,λr H' e h=>k r H' e ?_⟩
 show zu H' r (x/y)
 rw[<-KM.zcS];exact h
def vZ (H:Hp) (p:Addr):Prop:=∃a b c:Int,H p=some (.lst [.int a,.int b,.int c])
structure xw (p:Addr) (H H':Hp):Prop where
 pool:vZ H' p
 keep:∀b o,H b=some o->b≠p->H' b=some o
theorem xw.trans {p:Addr}{H H1 H2:Hp}(a:xw p H H1) (b:xw p H1 H2):xw p H H2:=⟨b.pool,λc o e n=>b.keep c o (a.keep c o e n) n⟩
theorem xw.same {p:Addr}{H H1 H2:Hp}(a:xw p H H1) (b:zq H1 H2):xw p H H2:=⟨by obtain⟨x,y,z,e⟩:=a.pool;exact⟨x,y,z,b _ _ e⟩,λc o e n=>b c o (a.keep c o e n)⟩
theorem xw.pre {p:Addr}{H H1 H2:Hp}(b:xw p H1 H2) (a:zq H H1):xw p H H2:=⟨b.pool,λc o e n=>b.keep c o (a c o e) n⟩
theorem vZ.new {H:Hp}{p l:Addr}{o:HO}(h:vZ H p) (F:H l=none):vZ (upd H l o) p:=by obtain⟨a,b,c,e⟩:=h;exact⟨a,b,c,zq.upd F _ _ e⟩
theorem vZ.ne {H:Hp}{p l:Addr}(h:vZ H p) (F:H l=none):l≠p:=by obtain⟨a,b,c,e⟩:=h;exact(zZ e F).symm
theorem xw.refl {p:Addr}{H:Hp}(h:vZ H p):xw p H H:=⟨h,λ_ _ e _=>e⟩
theorem xw.tup {p a:Addr}{H H':Hp}{xs:List V}(s:xw p H H') (F:vZ H p) (h:H a=some (.tup xs)):H' a=some (.tup xs):=by
 obtain⟨_,_,_,e⟩:=F
 exact s.keep a _ h (zkH h e (by intro z;cases z))
theorem xw.rat {p a:Addr}{H H':Hp}{q:Rat}(s:xw p H H') (F:vZ H p) (h:zu H a q):zu H' a q:=s.tup F h
inductive zfW  (vs:List V) (H:Hp) (Q:VK) (_e3:XK):Prop
 |mk:∀c:Int,(vs=[.int c])->(∀p H',H p=none->zq H H'->vZ H' p->Q (.ref p) H')->zfW vs H Q _e3
inductive Xg  (vs:List V) (H:Hp) (Q:VK) (_e3:XK):Prop
 |mk:∀(p:Addr) (n:Int),(vs=[.ref p,.int n])->(0<n)->(n<1073741824)->(vZ H p)->(∀(d:Int) H',0<=d->d<n->xw p H H'->Q (.int d) H')->Xg vs H Q _e3
theorem Vz:zC ["pool","base","digit","mixed","stir"] ["pool","base"] (zi Qb):=scq
theorem zbr {H:Hp}{p:Addr}{a b c:Int}:xw p H (upd H p (.lst [.int a,.int b,.int c])):=⟨⟨a,b,c,zj⟩,λd o e n=>by rw[zV n];exact e⟩
theorem zhf (D:Df K mg "_law_next" Qb ["pool","base"] []):⇑3 "_law_next" 1 ["pool","base"] [] Xg:=by
 rcases r:D.cal (k:=0) Vz (λvs H Q E h=>by obtain⟨a,b,rfl,_⟩:=h;rfl) with⟨p,n,rfl,G,I,⟨a,b,c,F⟩,k⟩
 refine⟨_,ze (xf (zF XB (qa qy (pv 0) zh (λ_ _=>rL)) zh (zH _))
   (ze (psl (i:=2) Vz.nd (zy vO (qa qy (pv 0) zh (λ_ _=>rfl)) (pv 1)))
   (ze (Ze (zy zcR (qa qy (pv 0) zh (λ_ _=>rfl)) (pv 1)) (zfq (pv 0) zh zbk))
   (zo (zE (pv 2))))) zT)
  (ze (Ze (zy xr (qa qy (pv 0) zh (λ_ _=>rfl)) zh) (zfq (pv 0) zh zbk))
  (ze (psl (i:=3) Vz.nd (zy vO (zy xr (qa qy (pv 0) zh (λ_ _=>rfl)) (zy XO zh (qa qy (pv 0) zh (λ_ _=>rfl)))) zh))
  (ze (psl (i:=4) Vz.nd (zy vO (zy XO (zy xr (pv 3) zh) (zy xr (pv 3) zh)) zh))
  (zo (zE (zy vO (zy zcR (zy vO (zy XO (pv 4) (pv 4)) zh) zh) (pv 1))))))),?_⟩
 refine⟨00,p,032,.of F,rL,022,00,vu (λh=>?_) (λh=>?_)⟩
 ·exists 00,p,032,.of F,rfl,00,022,G
  exists 00,p,032,.of F,rfl,00,022,⟨G,I⟩
  exists 00,p,_,_,0,rfl,rfl,F,rfl
  exact⟨00,k _ _ (yD _ ∅) (yE _ G) zbr⟩
 ·exists 00,p,032,.of F,rfl,022
  exists 00,p,_,_,2,rfl,rfl,F,rfl
  exists 00,p,032,.of zj,rfl,00,p,032,.of zj,rfl,022,.inl ⟨by decide,by decide⟩,022,022,(by show (0:Int)<1000000007;decide)
  exists 00,022,00,022,022,.inl (by constructor <;> lia),022,(by show (0:Int)<998244353;decide)
  exists 01,022,.inl (by constructor <;> lia),022,(by show (0:Int)<2147483647;decide),022,⟨by decide,by decide⟩,00,022,G
  exact k _ _ (yD _ ∅) (yE _ G) zbr
inductive zc8  (vs:List V) (H:Hp) (Q:VK) (_e3:XK):Prop
 |mk:∀(p:Addr),(vs=[.ref p])->(vZ H p)->(∀(d:Int) H',0<=d->d<1000000000000000000000->xw p H H'->Q (.int d) H')->zc8 vs H Q _e3
theorem zeE {i:Nat}{f d:Int}(F:0<=f) (h1:f<10000000^i) (G:0<=d) (I:d<10000000):0<=f*10^7+d/\f*10^7+d<10000000^(i+1):=by
 have e:(10:Int)^7=10000000:=by decide
 rw[e,Int.pow_succ]
 generalize (10000000:Int)^i=B at *
 lia
open KM
inductive xz (H:Hp):List V->List Zv->Prop
 |nil:xz H [] []
 |cons {a p q:Addr}{b:Zv}{vs:List V}{bs:List Zv}:H a=some (.tup [.ref p,.ref q,.int b.wt])->zu H p b.pl->zu H q b.sp->xz H vs bs->xz H (.ref a::vs) (b::bs)
theorem xz.mono {H H':Hp}(m:∀b xs,H b=some (.tup xs)->H' b=some (.tup xs)):∀{vs:List V}{bs:List Zv},xz H vs bs->xz H' vs bs
 |_,_,.nil=>.nil
 |_,_,.cons h1 h2 h3 t=>.cons (m _ _ h1) (m _ _ h2) (m _ _ h3) (xz.mono m t)
theorem xz.same {H H':Hp}{vs:List V}{bs:List Zv}(h:xz H vs bs) (e:zq H H'):xz H' vs bs:=h.mono λb xs z=>e b _ z
theorem xz.length {H:Hp}:∀{vs:List V}{bs:List Zv},xz H vs bs->vs.length=bs.length
 |_,_,.nil=>rfl
 |_,_,.cons _ _ _ t=>by rw[wB,wB,xz.length t]
theorem xz.get {H:Hp}:∀{vs:List V}{bs:List Zv}{i:Nat}{v:V},xz H vs bs->vs[i]?=some v->∃(a p q:Addr) (b:Zv),bs[i]?=some b/\v=.ref a/\H a=some (.tup [.ref p,.ref q,.int b.wt])/\zu H p b.pl/\zu H q b.sp
 |_,_,_,_,.nil,e=>by simp at e
 |_,_,0,_,.cons h1 h2 h3 _,e=>by
  simp at e;subst e
  exact⟨042,h1,h2,h3⟩
 |_,_,i+1,v,.cons _ _ _ t,e=>by
  obtain⟨a,p,q,b,e1,r⟩:=xz.get (i:=i) t ↥e
  exact⟨a,p,q,b,↥e1,r⟩
inductive Jb  (vs:List V) (H:Hp) (Q:VK) (_e3:XK):Prop
 |mk:∀p q x y,(vs=[.ref p,.ref q])->(zu H p x)->(zu H q y)->(Sz 4000 x)->(Sz 4000 y)->(Q (.bl (decide (x<y))) H)->Jb vs H Q _e3
theorem Xq {X:Cx}{es:List Expr}{k:Nat}{pos:Pos}{t:TGs}{n:Nat}{K:Fg}(G:X.K=K) (I:X.calm=true) (h:PGs X es t)
  (O:(assignEach es X.env).length=n:=by rfl) (F:(assignEach es X.env).findIdx? (·.1)=none:=by rfl):PG X (.Tuple es k pos) (zaT K n t):=by subst G;exact qZ I h O F
theorem vm {X:Cx}{K:Fg}(F:X.K=K):IxR X (vG K):=by subst F;exact XI
theorem Bd9 {i:Int}(h:Bd 8900 i):Bd 1000000 i:=h.md
theorem ze1 (x y:Rat):decide (x.num*(y.den:Int)<y.num*(x.den:Int))=decide (x<y):=by
 by_cases h:x<y
 ·rw[wm h,wm ((KM.vv x y).mpr h)]
 ·rw[wx h,wx λz=>h ((KM.vv x y).mp z)]
def xP (ks:List Int):Int:=ks.foldl (λc n=>c/(Int.gcd c n:Int)*n) 1
theorem vM {c n:Int}(F:0<c) (G:0<n):0<c/(Int.gcd c n:Int)*n:=by
 refine wP ?_ G
 have I:0<(Int.gcd c n:Int):=by have:=uw n (a:=c) ∅;lia
 exact Wy F ∅ (uz c n)
theorem zeZ {c n:Int}(F:0<c) (G:0<n):c/(Int.gcd c n:Int)*n<=c*n:=by
 have I:0<(Int.gcd c n:Int):=by have:=uw n (a:=c) ∅;lia
 exact yv (W9 _ ∅) ∅
theorem JX {m n:Nat}{c k:Int}(G:0<c) (F:0<k) (h:Bd m c) (h':Bd n k):Bd (m+n) (c/(Int.gcd c k:Int)*k) :=
 (h.mul h').of_le (by have:=zeZ G F;have:=vM G F;omega)
def Pos (n:Nat) (ks:List Int):Prop:=∀k∈ks,0<k/\Bd n k
inductive JP  (vs:List V) (H:Hp) (Q:VK) (_e3:XK):Prop
 |mk:∀p ks,(vs=[.ref p])->(H p=some (.lst (ks.map V.int)))->(Pos 400 ks)->(ks.length<=20)->(Q (.int (xP ks)) H)->JP vs H Q _e3
theorem zat:zC ["numbers","common","number"] ["numbers"] (zi vf):=scq
theorem zjb (D:Df K mg "least_multiple" vf ["numbers"] []) (cG:⇑3 "greatest_divisor" 1 ["one","other"] [] JO):⇑3 "least_multiple" 2 ["numbers"] [] JP:=by
 rcases r:D.calq (k:=1) zat with⟨p,ks,rfl,Y,hk,hl,k⟩
 exists(ze (psl (i:=1) zat.nd zh)
  (ze (va PassesOwn.never rfl (xg (pv 0)) (pgl (i:=2) zat.nd) (zo (psl (i:=1) zat.nd (zy zK (zy xF (pv 1) (zD cG hr %[1,2|0])) (pv 2)))))
  (zo (zE (pv 1)))))
 refine⟨00,p,rfl,⟨_,SqL.of Y⟩,vt (xs:=ks.map V.int) (λi σ H1=>H1=H/\∃z,σ=[Sr p,some (.int (xP (ks.take i))),z]/\0<xP (ks.take i)/\Bd (1+400*i) (xP (ks.take i))) ⟨rfl,none,rfl,(by show (0:Int)<1;decide),(show (1:Int).natAbs<2^1 by decide)⟩ ?_ ?_ ?_⟩
 ·rintro i σ H1 _ ⟨rfl,_⟩;exact .of Y
 ·rintro i x σ H1 W G;rcases q:G with⟨rfl,z,rfl,h1,h2⟩
  have hi:i<ks.length:=by
   have:=(w4.mp W).1
   simpa using this
  obtain⟨n,U,rfl⟩:∃n,ks[i]?=some n/\V.int n=x:=↥W
  have F:=hk n (wU U)
  have I:xP (ks.take (i+1))=xP (ks.take i)/(Int.gcd (xP (ks.take i)) n:Int)*n:=by
   rw[yC,U];simp[xP,YE]
  have hg:0<(Int.gcd (xP (ks.take i)) n:Int):=by have:=uw n (a:=xP (ks.take i)) ∅;lia
  have S:Bd 8900 (xP (ks.take i)):=h2.mono ∅
  have O:Bd 8900 (Int.gcd (xP (ks.take i)) n:Int):=S.of_le (by have:=Int.le_of_dvd h1 (uz (xP (ks.take i)) n);lia)
  have hq:Bd 8900 ((xP (ks.take i)).fdiv (Int.gcd (xP (ks.take i)) n:Int)):=by
   rw[wD _ ∅]
   exact S.of_le (by have:=W9 (Int.gcd (xP (ks.take i)) n:Int) (a:=xP (ks.take i)) ∅;have:=WP (a:=xP (ks.take i)) (b:=(Int.gcd (xP (ks.take i)) n:Int)) ∅ ∅;lia)
  refine⟨02,⟨021,by lia,by lia,?_⟩⟩
  exists 022,⟨by lia,O⟩,00,022,⟨Bd9 hq,F.2.md⟩
  exists rfl,some (.int n),?_,?_
  ·rw[I,<-wD _ ∅];rfl
  ·rw[I];exact vM h1 F.1
  ·rw[I];exact(JX h1 F.1 h2 F.2).mono ∅
 ·rintro σ H1 ⟨rfl,z,rfl,_⟩
  refine⟨00,?_⟩
  rw[wc,yr];exact k
def zh2 (H:Hp) (us:List V) (qs:List Rat):Prop:=us.length=qs.length/\∀(i:Nat) (v:V),us[i]?=some v->∃a q,v=V.ref a/\qs[i]?=some q/\zu H a q
theorem zex {α:Type}{f:α->V}{ys:List V}{qs:List α}(h:ys.length=qs.length) (k:∀(i:Nat) (v:V),ys[i]?=some v->∃q,qs[i]?=some q/\v=f q):ys=qs.map f:=by
 refine uL λi=>?_
 by_cases hi:i<ys.length
 ·obtain⟨q,e1,e2⟩:=k i ys[i] (by simp[hi])
  rw[wo,e1,wH hi,e2];rfl
 ·rw[yH ∅,yH (by rw[wc];lia)]
theorem zdE {σ:St}(h:σ.length=2):∃a b,σ=[a,b]:=by
 match σ,h with
 |[a,b],_=>exact⟨a,b,rfl⟩
theorem XL {σ:St}(h:σ.length=1):∃a,σ=[a]:=by
 match σ,h with
 |[a],_=>exact⟨a,rfl⟩
theorem xT {n:Nat}(h:n<=20):n<sizeLine:=WK h ⇑1
def Vk (qs:List Rat):Int:=xP (qs.map λq=>(q.den:Int))
inductive zjP  (vs:List V) (H:Hp) (Q:VK) (_e3:XK):Prop
 |mk:∀p us qs,(vs=[.ref p])->(H p=some (.lst us))->(zh2 H us qs)->((∀q∈qs,Bd 400 (q.den:Int)))->(qs.length<=20)->(∀H',zq H H'->Q (.int (Vk qs)) H')->zjP vs H Q _e3
theorem zli:zC ["ratios"] ["ratios"] (zi vx):=scq
theorem zkK (D:Df K mg "common_bottom" vx ["ratios"] []) (W:⇑3 "least_multiple" 2 ["numbers"] [] JP):⇑3 "common_bottom" 3 ["ratios"] [] zjP:=by
 rcases r:D.calq (k:=2) zli with⟨p,us,qs,rfl,U,F,hb,S,k⟩
 exists(zo (zE (zD W hr %[(vF (NB:=["top","bottom"]) rfl ⇑0 ⇑0 rfl ⇑0 (xg (pv 0)) (by intro _ _ _;refine⟨?_,?_,?_⟩;(exact(Xq (K:=K) (n:=2) rfl rfl (zP (pgl (i:=0) (show List.Nodup (["top","bottom"]:List Str) by decide +kernel)) (zP (pgl (i:=1) (show List.Nodup (["top","bottom"]:List Str) by decide +kernel)) xO))));(exact xE);(exact(pv 1))))|0])))
 refine⟨00,p,rL,⟨_,SqL.of U⟩,λDa hD=>?_⟩
 refine Zk (J:=Itl K p) (n:=2) (g:=zaT K 2 (Zm (zG 0) (Zm (zG 1) zbR))) (te:=xy 1) (xs:=us) (λi v _=>∃q:Rat,qs[i]?=some q/\v=.int (q.den:Int)) (λ_ _ _ _ _ z=>z) hD (xq U) (xT (by rw[F.1];exact S)) ?_ ?_
 ·intro i x zs H2 Q' hx hz s2 hk
  rcases q:F.2 i x hx with⟨a,q,rfl,G,Y⟩
  obtain⟨z1,z2,rfl⟩:=zdE hz
  exact⟨a,00,SqT.of (s2 _ _ Y),rL,021,022,00,hk _ _ (zq.refl _) ⟨q,G,rL⟩⟩
 ·intro ys H' s' hy O I
  have e:=zex (f:=λq:Rat=>V.int (q.den:Int)) (O.trans F.1) I
  refine⟨Da,qs.map λq:Rat=>(q.den:Int),rfl,?_,λn hn=>?_,↥S,k H' s'⟩
  ·rw[hy,e,wG];rfl
  ·obtain⟨q,G,rfl⟩:=wj.mp hn
   exact⟨by have:=q.den_pos;lia,hb q G⟩
theorem ziC {a:V}{r:List V}:atI (a::r) 0=some a:=by
 unfold atI ixN;rw[if_pos ⇑1,if_pos (by simp only[wB];lia)];rfl
theorem ziD {a b:V}{r:List V}:atI (a::b::r) 1=some b:=by
 unfold atI ixN;rw[if_pos ⇑1,if_pos (by simp only[wB];lia)];rfl
structure TCo (K:Fg) (C:Addr):Prop where
 cls:Cls K C
 pb:qm K C "place_bottom"
 sb:qm K C "speed_bottom"
 tick:qm K C "tick"
 weights:qm K C "weights"
 tracks:qm K C "tracks"
 low:qm K C "low"
 high:qm K C "high"
def Jf (H:Hp) (a:Addr) (x y:Rat):Prop:=∃p q r,H a=some (.tup (.ref p::.ref q::r))/\zu H p x/\zu H q y
theorem Jf.keeps {H H':Hp}{a:Addr}{x y:Rat}(h:Jf H a x y) (t:xA H H'):Jf H' a x y:=by
 obtain⟨p,q,r,h1,h2,F⟩:=h
 exact⟨p,q,r,t _ _ h1,t _ _ h2,t _ _ F⟩
def byB (x:Rat) (b:Int):Int:=x.num*b.fdiv (x.den:Int)
inductive zf6 (C:Addr) (vs:List V) (H:Hp) (Q:VK) (_e3:XK):Prop
 |mk:∀(c dx:Addr) (fs:List (Str×V)) (pb sb:Int),(H c=some (.ins C dx fs))->(fs.lookup ("place_bottom":Str)=some (V.int pb))->(fs.lookup ("speed_bottom":Str)=some (V.int sb))->(((vs=[.ref c,.non]/\Q .non H)\/∃a x y,vs=[.ref c,.ref a]/\Jf H a x y/\Sz 400 x/\Sz 400 y/\0<pb/\0<sb/\Bd 8900 pb/\Bd 8900 sb/\∀r H',zq H H'->H' r=some (.tup [.int (byB x pb),.int (byB y sb)])->Q (.ref r) H'))->zf6 C vs H Q _e3
theorem zio:zC ["course","thing","start"] ["course","thing"] (zi Qf):=scq
theorem zcs {b d:Int}(F:0<b) (hd:0<d) (h:Bd 8900 b):Bd 8900 (b.fdiv d):=by
 rw[wD _ ∅]
 exact h.of_le (by have:=W9 d (a:=b) ∅;have:=WP (a:=b) (b:=d) ∅ ∅;lia)
theorem zk1 {C:Addr}(D:Df K mg "track_of" Qf ["course","thing"] []) (F:TCo K C):⇑3 "track_of" 1 ["course","thing"] [] (zf6 C):=by
 rcases r:D.cal (k:=0) zio (λvs H Q E h=>by obtain⟨_,_,_,_,_,_,_,_,⟨rfl,_⟩ | ⟨_,_,_,rfl,_⟩⟩:=h <;> rfl) with⟨c,dx,fs,pb,sb,V,e1,e2,h⟩
 exists(ze (xf (zF qY (pv 1) xC (zH _)) (zo (zE xC)) zT)
  (ze (psl (i:=2) zio.nd (zy zK (pxt (pxt (pv 1))) (zy xF (xt (pv 0) rfl) (pxt (pxt (pv 1))))))
  (zo (zE (zX %[2,zy zK (pxt (pxt (pv 1))) (zy xF (xt (pv 0) rfl) (pxt (pxt (pv 1))))|0])))))
 rcases h with⟨rfl,k⟩ | ⟨a,x,y,rfl,⟨p,q,r,G,U,I⟩,O,S,p1,Y,b1,b2,k⟩
 ·refine⟨00,rL,00,xM k⟩
 ·refine⟨00,rL,00,xi ?_⟩
  have d1:0<(x.den:Int):=by have:=x.den_pos;lia
  have W:0<(y.den:Int):=by have:=y.den_pos;lia
  have z1:=zcs p1 d1 b1
  have z2:=zcs Y W b2
  exists 00,a,032,.of G,ziC,p,032,.of U,at0 ..,00,c,C,dx,fs,00,V,F.cls,F.pb,e1,00,a,032,.of G,ziC,p,032,.of U,at1 ..,022,⟨by lia,O.2.md⟩,022,⟨O.1.md,Bd9 z1⟩
  exists 01,a,032,.of G,ziD,q,032,.of I,at0 ..,00,c,C,dx,fs,00,V,F.cls,F.sb,e2,00,a,032,.of G,ziD,q,032,.of I,at1 ..,022,⟨by lia,S.2.md⟩,022,⟨S.1.md,Bd9 z2⟩
  exact⟨⇑5,λr hr=>k r _ (zq.upd hr) (by rw[zj];rfl)⟩
theorem zcK {c n:Int}(G:0<c) (O:0<n):c ∣ c/(Int.gcd c n:Int)*n/\n ∣ c/(Int.gcd c n:Int)*n:=by
 refine⟨?_,Int.dvd_mul_left ..⟩
 obtain⟨m,F⟩:=Wv c n
 have I:0<(Int.gcd c n:Int):=by have:=uw n (a:=c) ∅;lia
 refine⟨m,?_⟩
 have e1:c/(Int.gcd c n:Int)*(Int.gcd c n:Int)=c:=Int.ediv_mul_cancel (uz c n)
 calc c/(Int.gcd c n:Int)*n=c/(Int.gcd c n:Int)*((Int.gcd c n:Int)*m):=by rw[<-F]
  _=c/(Int.gcd c n:Int)*(Int.gcd c n:Int)*m:=by rw[WQ]
  _=c*m:=by rw[e1]
theorem VR {n:Nat}:∀{ks:List Int}{c:Int}{m:Nat},0<c->Bd m c->Pos n ks →
  0<ks.foldl (λc n=>c/(Int.gcd c n:Int)*n) c/\Bd (m+n*ks.length) (ks.foldl (λc n=>c/(Int.gcd c n:Int)*n) c)/\c ∣ ks.foldl (λc n=>c/(Int.gcd c n:Int)*n) c/\∀k∈ks,k ∣ ks.foldl (λc n=>c/(Int.gcd c n:Int)*n) c
 |[],c,m,hc,hm,_=>⟨hc,hm,Yu c,λk F=>by cases F⟩
 |k::r,c,m,hc,hm,hp=>by
  have F:=hp k wF
  have d:=zcK hc F.1
  obtain⟨O,S,I,U⟩:=VR (ks:=r) (vM hc F.1) (JX hc F.1 hm F.2) λx G=>hp x (wT _ G)
  refine⟨O,S.mono (by rw[wB,Ud];lia),Ww d.1 I,λx G=>?_⟩
  rcases wu.mp G with rfl | G
  ·exact Ww d.2 I
  ·exact U x G
theorem zcJ {qs:List Rat}(h:∀q∈qs,Bd 400 (q.den:Int)) (U:qs.length<=20):0<Vk qs/\Bd 8900 (Vk qs)/\∀q∈qs,(q.den:Int) ∣ Vk qs:=by
 obtain⟨I,O,_,S⟩:=VR (n:=400) (ks:=qs.map λq=>(q.den:Int)) (c:=1) (m:=1) ⇑1 (show (1:Int).natAbs<2^1 by decide) (λk G=>by
  obtain⟨q,F,rfl⟩:=wj.mp G
  exact⟨by have:=q.den_pos;lia,h q F⟩)
 exact⟨I,O.mono (by rw[wc];lia),λq F=>S _ (wj.mpr ⟨q,F,rfl⟩)⟩
structure Bl where
 pl:Rat
 sp:Rat
 wt:Int
def XE (H:Hp) (v:V) (b:Bl):Prop:=∃a p q,v=V.ref a/\H a=some (.tup [.ref p,.ref q,.int b.wt])/\zu H p b.pl/\zu H q b.sp
def qt (H:Hp) (us:List V) (bs:List Bl):Prop:=us.length=bs.length/\∀(i:Nat) (v:V),us[i]?=some v->∃b,bs[i]?=some b/\XE H v b
def Jh (H:Hp) (v:V):Option (Rat×Rat)->Prop
 |none=>v=.non
 |some w=>∃a,v=V.ref a/\Jf H a w.1 w.2
theorem XE.keeps {H H':Hp}{v:V}{b:Bl}(h:XE H v b) (t:xA H H'):XE H' v b:=by
 obtain⟨a,p,q,e,h1,h2,F⟩:=h
 exact⟨a,p,q,e,t _ _ h1,t _ _ h2,t _ _ F⟩
theorem qt.keeps {H H':Hp}{us:List V}{bs:List Bl}(h:qt H us bs) (t:xA H H'):qt H' us bs :=
 ⟨h.1,λi v e=>by obtain⟨b,e1,e2⟩:=h.2 i v e;exact⟨b,e1,e2.keeps t⟩⟩
theorem Jh.keeps {H H':Hp}{v:V}{w:Option (Rat×Rat)} (h:Jh H v w) (t:xA H H'):Jh H' v w:=by
 cases w with
 |none=>exact h
 |some w=>obtain⟨a,e,h⟩:=h;exact⟨a,e,h.keeps t⟩
def TsI (H:Hp) (vs:List V) (ts:List (Rat×Rat)):Prop:=vs.length=ts.length/\∀(i:Nat) (v:V),vs[i]?=some v->∃t a,ts[i]?=some t/\v=V.ref a/\Jf H a t.1 t.2
theorem TsI.keeps {H H':Hp}{vs:List V}{ts:List (Rat×Rat)} (h:TsI H vs ts) (t:xA H H'):TsI H' vs ts :=
 ⟨h.1,λi v e=>by obtain⟨x,a,e1,e2,F⟩:=h.2 i v e;exact⟨x,a,e1,e2,F.keeps t⟩⟩
theorem TsI.nil {H:Hp}:TsI H [] []:=⟨rfl,λi v e=>by simp at e⟩
theorem TsI.cons {H:Hp}{a:Addr}{t:Rat×Rat}{vs:List V}{ts:List (Rat×Rat)} (h:Jf H a t.1 t.2) (r:TsI H vs ts):TsI H (.ref a::vs) (t::ts):=by
 refine⟨by simp[r.1],λi v e=>?_⟩
 cases i with
 |zero=>simp at e;subst e;exact⟨t,a,rfl,rfl,h⟩
 |succ i=>obtain⟨x,b,e1,e2⟩:=r.2 i v ↥e;exact⟨x,b,↥e1,e2⟩
theorem TsI.append {H:Hp}{vs G:List V}{ts F:List (Rat×Rat)} (h:TsI H vs ts) (h':TsI H G F):TsI H (vs++G) (ts++F):=by
 refine⟨by simp[h.1,h'.1],λi v e=>?_⟩
 by_cases hi:i<vs.length
 ·rw[yd hi]at e
  rw[yd (by rw[<-h.1];exact hi)]
  exact h.2 i v e
 ·rw[wV ∅]at e
  rw[wV (by rw[<-h.1];lia),<-h.1]
  exact h'.2 _ v e
theorem qt.ts {H:Hp}{us:List V}{bs:List Bl}(h:qt H us bs):TsI H us (bs.map λb=>(b.pl,b.sp)):=by
 refine⟨by simp[h.1],λi v e=>?_⟩
 obtain⟨b,e1,a,p,q,rfl,h1,h2,F⟩:=h.2 i v e
 exact⟨(b.pl,b.sp),a,by rw[wo,e1];rfl,rfl,p,q,_,h1,h2,F⟩
def QR:Option (Rat×Rat)->List (Rat×Rat)
 |none=>[]
 |some w=>[w]
theorem zgr {H:Hp}{F v2:V}{lo hi:Option (Rat×Rat)} (h1:Jh H F lo) (h2:Jh H v2 hi):TsI H ([F,v2].filter λv=>!decide (v=.non)) (QR lo++QR hi):=by
 have one:∀{v:V}{w:Option (Rat×Rat)},Jh H v w->TsI H ([v].filter λv=>!decide (v=.non)) (QR w):=λ{v w} h=>by
  cases w with
  |none =>
   have e:v=.non:=h
   subst e;exact .nil
  |some w =>
   obtain⟨a,e,h⟩:=h
   subst e
   rw[List.filter_cons_of_pos (by simp)]
   exact .cons h .nil
 have e:([F,v2].filter λv=>!decide (v=.non))=([F].filter λv=>!decide (v=.non))++([v2].filter λv=>!decide (v=.non)):=by
  rw[<-ut];rfl
 rw[e];exact(one h1).append (one h2)
def xj (c:Addr) (H H':Hp):Prop:=∀b o,b≠c->H b=some o->H' b=some o
theorem xj.of {c:Addr}{H H':Hp}(h:zq H H'):xj c H H':=λb o _ e=>h b o e
theorem xj.trans {c:Addr}{H H1 H2:Hp}(a:xj c H H1) (b:xj c H1 H2):xj c H H2:=λx o n e=>b x o n (a x o n e)
theorem xj.upd {c:Addr}{H:Hp}{o:HO}:xj c H (upd H c o):=λb u n e=>by rw[zV n];exact e
theorem xj.tup {c C dx:Addr}{fs:List (Str×V)}{H H':Hp}(h:xj c H H') (e:H c=some (.ins C dx fs)):xA H H':=λb xs q=>h b _ (λz=>by subst z;rw[e]at q;cases q) q
structure TxQ (K:Fg) (mg:Str->Option Value):Prop extends TxB K mg where
 nList:mg "list" = none
 nZip:mg "zip" = none
def QH (H:Hp) (v:V):Option (Int×Int)->Prop
 |none=>v=.non
 |some t=>∃a,v=V.ref a/\H a=some (.tup [.int t.1,.int t.2])
def Jg (H:Hp) (vs:List V) (ts:List (Int×Int)):Prop:=vs.length=ts.length/\∀(i:Nat) (v:V),vs[i]?=some v->∃t,ts[i]?=some t/\QH H v (some t)
theorem QH.keeps {H H':Hp}{v:V}{w:Option (Int×Int)} (h:QH H v w) (t:xA H H'):QH H' v w:=by
 cases w with
 |none=>exact h
 |some w=>obtain⟨a,e,h⟩:=h;exact⟨a,e,t _ _ h⟩
theorem Jg.keeps {H H':Hp}{vs:List V}{ts:List (Int×Int)} (h:Jg H vs ts) (t:xA H H'):Jg H' vs ts :=
 ⟨h.1,λi v e=>by obtain⟨x,e1,e2⟩:=h.2 i v e;exact⟨x,e1,e2.keeps t⟩⟩
structure CoF (H:Hp) (fs:List (Str×V)) (pb sb:Int) (tk:Rat) (ws:List Int) (trs:List (Int×Int)) (lo hi:Option (Int×Int)):Prop where
 pb:fs.lookup ("place_bottom":Str)=some (V.int pb)
 sb:fs.lookup ("speed_bottom":Str)=some (V.int sb)
 tick:∃tp,fs.lookup ("tick":Str)=some (V.ref tp)/\zu H tp tk
 weights:∃wl,fs.lookup ("weights":Str)=some (V.ref wl)/\H wl=some (.lst (ws.map V.int))
 tracks:∃tl tv,fs.lookup ("tracks":Str)=some (V.ref tl)/\H tl=some (.lst tv)/\Jg H tv trs
 low:∃v,fs.lookup ("low":Str)=some v/\QH H v lo
 high:∃v,fs.lookup ("high":Str)=some v/\QH H v hi
 len:fs.length<=20
def Xv (H:Hp) (C c:Addr) (pb sb:Int) (tk:Rat) (ws:List Int) (trs:List (Int×Int)) (lo hi:Option (Int×Int)):Prop:=∃dx fs,H c=some (.ins C dx fs)/\CoF H fs pb sb tk ws trs lo hi
def CoN (H0 H:Hp) (C c:Addr) (pb sb:Int) (tk:Rat) (ws:List Int) (trs:List (Int×Int)) (lo hi:Option (Int×Int)):Prop:=∃dx fs tl,H c=some (.ins C dx fs)/\CoF H fs pb sb tk ws trs lo hi/\fs.lookup ("tracks":Str)=some (V.ref tl)/\H0 tl=none
theorem CoN.co {I H:Hp}{C c:Addr}{F G:Int}{tk:Rat}{ws:List Int}{trs:List (Int×Int)}{lo hi:Option (Int×Int)} (h:CoN I H C c F G tk ws trs lo hi):Xv H C c F G tk ws trs lo hi:=by
 obtain⟨dx,fs,O,h1,h2,_⟩:=h;exact⟨dx,fs,h1,h2⟩
def ths (bs:List Bl) (lo hi:Option (Rat×Rat)):List (Rat×Rat):=bs.map (λb=>(b.pl,b.sp))++(QR lo++QR hi)
def pbO (bs:List Bl) (lo hi:Option (Rat×Rat)):Int:=Vk ((ths bs lo hi).map (·.1))
def sbO (bs:List Bl) (lo hi:Option (Rat×Rat)):Int:=Vk ((ths bs lo hi).map (·.2))
def trB (pb sb:Int) (t:Rat×Rat):Int×Int:=(byB t.1 pb,byB t.2 sb)
inductive zfV (C:Addr) (vs:List V) (H:Hp) (Q:VK) (_e3:XK):Prop
 |mk:∀c dx r wa us bs v1 v2 lo hi,(vs=[V.ref c,.ref r,.ref wa])->(H c=some (.ins C dx []))->(H r=some (.tup us))->(qt H us bs)->(H wa=some (.tup [v1,v2]))->(Jh H v1 lo)->(Jh H v2 hi)->(bs.length<=8)->((∀t∈ths bs lo hi,Sz 400 t.1/\Sz 400 t.2))->(∀H',xj c H H'->CoN H H' C c (pbO bs lo hi) (sbO bs lo hi) (Rat.divInt (sbO bs lo hi) (pbO bs lo hi)) (bs.map Bl.wt) (bs.map λb=>trB (pbO bs lo hi) (sbO bs lo hi) (b.pl,b.sp)) (lo.map (trB (pbO bs lo hi) (sbO bs lo hi))) (hi.map (trB (pbO bs lo hi) (sbO bs lo hi)))->Q .non H')->zfV C vs H Q _e3
theorem zin:zC ["self","row","walls","things"] ["self","row","walls"] (zi qk):=scq
theorem Za {bs:List Bl}{lo hi:Option (Rat×Rat)} (h:bs.length<=8):(ths bs lo hi).length<=20:=by
 unfold ths
 have e:∀w:Option (Rat×Rat),(QR w).length<=1:=λw=>by cases w <;> simp[QR]
 have:=e lo
 have:=e hi
 simp only[wX,wc];lia
theorem zcv {σ:St}{H:Hp}{Q:VK}{L:Addr}{vs:List V}{ts:List (Rat×Rat)}{j:Nat}{i:Int}(f:Rat×Rat->Rat) (Y:σ[j]?=some (some (.ref L))) (S:H L=some (.lst vs)) (G:TsI H vs ts) (hl:ts.length<=20)
  (hf:∀H2 a t,Jf H2 a t.1 t.2->∃xs p,H2 a=some (.tup xs)/\atI xs i=some (.ref p)/\zu H2 p (f t))
  (k:∀D ys H',zq H H'->H' D=some (.lst ys)->zh2 H' ys (ts.map f)->Q (.ref D) H') :
  zdb 1 (zh8 K (xy j)) (zG 0) (λ_ H Q=>Q true H) (tOp (vG K) (xy 0) (tC (.int i))) σ H Q:=by
 refine⟨_,Y,L,rL,⟨_,SqL.of S⟩,λD hD=>?_⟩
 refine Zk (J:=Itl K L) (n:=1) (g:=zG 0) (te:=tOp (vG K) (xy 0) (tC (.int i))) (xs:=vs) (λm v H=>∃t p,ts[m]?=some t/\v=.ref p/\zu H p (f t)) (λ_ _ _ _ t ⟨x,p,e1,e2,F⟩=>⟨x,p,e1,e2,t _ _ F⟩) hD (xq S) (xT (by rw[G.1];exact hl)) ?_ ?_
 ·intro m x zs H2 Q' hx hz s2 U
  obtain⟨t,a,e,rfl,ha⟩:=G.2 m x hx
  obtain⟨z1,rfl⟩:=XL hz
  obtain⟨xs,p,h1,h2,h3⟩:=hf H2 a t (ha.keeps (.of s2))
  dsimp only[zG]
  try rw[if_pos rfl]
  exact⟨00,a,032,.of h1,h2,U _ _ (zq.refl _) ⟨t,p,e,rL,h3⟩⟩
 ·intro ys H' s' W O I
  refine k D ys H' s' W ⟨by simp[O,G.1],λm v e=>?_⟩
  obtain⟨t,p,e1,e2,F⟩:=I m v e
  exact⟨p,f t,e2,by rw[wo,e1];rfl,F⟩
theorem th0:∀(H2:Hp) (a:Addr) (t:Rat×Rat),Jf H2 a t.1 t.2->∃xs p,H2 a=some (.tup xs)/\atI xs 0=some (.ref p)/\zu H2 p t.1:=λH2 a t ⟨p,q,r,h1,h2,h3⟩=>⟨_,p,h1,ziC,h2⟩
theorem th1:∀(H2:Hp) (a:Addr) (t:Rat×Rat),Jf H2 a t.1 t.2->∃xs p,H2 a=some (.tup xs)/\atI xs 1=some (.ref p)/\zu H2 p t.2:=λH2 a t ⟨p,q,r,h1,h2,h3⟩=>⟨_,q,h1,ziD,h3⟩
theorem jZ {tv:TE}{rest:TS}{f:Str}{D:ZU}{σ:St}{H:Hp}(h:tv σ H λy H1=>xy 0 σ H1 λx H2=>∃a C dx fs,x=.ref a/\H2 a=some (.ins C dx fs)/\Cls K C/\qm K C f/\fs.length<1000/\rest D σ (upd H2 a (.ins C dx (x6 f y fs)))):zbt (zjE K (xy 0) tv f) rest D σ H:=h
theorem zcQ {tv:TE}{f:Str}{D:ZU}{σ:St}{H:Hp}(h:tv σ H λy H1=>xy 0 σ H1 λx H2=>∃a C dx fs,x=.ref a/\H2 a=some (.ins C dx fs)/\Cls K C/\qm K C f/\fs.length<1000/\D.nx σ (upd H2 a (.ins C dx (x6 f y fs)))):zjE K (xy 0) tv f D σ H:=h
theorem zh4 {te:TE}{sp:Sp}{σ:St}{H:Hp}{Q:VK}(h:te σ H λx H1=>sp [x] H1 Q E0):ZQ sp [] E0 (qc te Zu) σ H Q:=h
theorem zaI {ta tb:TE}{sp:Sp}{σ:St}{H:Hp}{Q:VK}(h:ta σ H λx H1=>tb σ H1 λy H2=>sp [x,y] H2 Q E0):ZQ sp [] E0 (qc ta (qc tb Zu)) σ H Q:=h
theorem qx {c C dx:Addr}{fs:List (Str×V)}{f:Str}{y:V}{rest:TS}{D:ZU}{σ:St}{F:Hp}(O:σ[0]?=some (some (.ref c))) (S:F c=some (.ins C dx fs)) (cl:Cls K C) (na:qm K C f) (I:fs.length<1000)
  (k:∀G,xj c F G->G c=some (.ins C dx (x6 f y fs))->rest D σ G):xy 0 σ F λx H2=>∃a C dx fs,x=.ref a/\H2 a=some (.ins C dx fs)/\Cls K C/\qm K C f/\fs.length<1000/\rest D σ (upd H2 a (.ins C dx (x6 f y fs))) :=
 ⟨_,O,c,C,dx,fs,rfl,S,cl,na,I,k _ .upd zj⟩
theorem zdi {C c dx:Addr}{fs:List (Str×V)}{I F:Int}{G:Hp}{v:V}{w:Option (Rat×Rat)}{Q:VK}{E:XK}(Y:G c=some (.ins C dx fs)) (e1:fs.lookup ("place_bottom":Str)=some (V.int I)) (e2:fs.lookup ("speed_bottom":Str)=some (V.int F)) (hw:Jh G v w)
  (hz:∀t,w=some t->Sz 400 t.1/\Sz 400 t.2) (U:0<I/\Bd 8900 I) (O:0<F/\Bd 8900 F) (k:∀S H',zq G H'->QH H' S (w.map (trB I F))->Q S H'):zf6 C [.ref c,v] G Q E:=by
 exists c,dx,fs,I,F,Y,e1,e2
 cases w with
 |none =>
  have e:v=.non:=hw
  subst e
  exact .inl ⟨rL,k _ _ (zq.refl _) rL⟩
 |some t =>
  obtain⟨a,rfl,W⟩:=hw
  have z:=hz t rfl
  exact .inr ⟨a,t.1,t.2,rL,W,z.1,z.2,U.1,O.1,U.2,O.2,λr H' s h=>k _ _ s ⟨r,rL,h⟩⟩
theorem zkM {C f:Addr}{fd:FuncData}(F:Fun K "__init__" "Course.__init__" qk f fd) (T:TxQ K mg) (I:TCo K C) (cB:⇑3 "common_bottom" 3 ["ratios"] [] zjP) (cR:⇑3 "ratio" 2 ["top","bottom"] [] vw)
  (cT:⇑3 "track_of" 1 ["course","thing"] [] (zf6 C)):Zw P w K mg base CX0 4 f fd ["self","row","walls"] (zfV C):=by
 refine F.okq (k:=3) zin (λcdv A outer s H vs Q E hr h=>?_)
 rcases q:h with⟨c,dx,r,wa,us,bs,v1,v2,lo,hi,rfl,hc,W,hB,hw,h1,h2,hl,hz,k⟩
 have d8:xc 2 _:=hr.md
 have b1:xc 1 _:=hr.md
 exists(ze (psl (i:=3) zin.nd (zy zfk (Zp Qm ⇑2 T.nList WT %[1|0]) (vF (NB:=["wall"]) rfl ⇑0 ⇑0 rfl ⇑0 (QS (pv 2)) (by intro _ _ _;refine⟨?_,?_,?_⟩;(exact(pgl (i:=0) (show List.Nodup (["wall"]:List Str) by decide +kernel)));(exact(Vw (zF ZD (pv 0) xC (zH _))));(exact(pv 0))))))
  (ze (Zf (pv 0) (zD cB hr %[(vF (NB:=["thing"]) rfl ⇑0 ⇑0 rfl ⇑0 (xg (pv 3)) (by intro _ _ _;refine⟨?_,?_,?_⟩;(exact(pgl (i:=0) (show List.Nodup (["thing"]:List Str) by decide +kernel)));(exact xE);(exact(qa (vm (K:=K) rfl) (pv 0) zh (λ_ _=>rfl)))))|0]) rfl)
  (ze (Zf (pv 0) (zD cB hr %[(vF (NB:=["thing"]) rfl ⇑0 ⇑0 rfl ⇑0 (xg (pv 3)) (by intro _ _ _;refine⟨?_,?_,?_⟩;(exact(pgl (i:=0) (show List.Nodup (["thing"]:List Str) by decide +kernel)));(exact xE);(exact(qa (vm (K:=K) rfl) (pv 0) zh (λ_ _=>rfl)))))|0]) rfl)
  (ze (Zf (pv 0) (zD cR d8 %[xt (pv 0) rfl,xt (pv 0) rfl|0]) rfl)
  (ze (Zf (pv 0) (vF (NB:=["ball"]) rfl ⇑0 ⇑0 rfl ⇑0 (QS (pv 1)) (by intro _ _ _;refine⟨?_,?_,?_⟩;(exact(pgl (i:=0) (show List.Nodup (["ball"]:List Str) by decide +kernel)));(exact xE);(exact(qa (vm (K:=K) rfl) (pv 0) zh (λ_ _=>rfl))))) rfl)
  (ze (Zf (pv 0) (qj (NB:=["ball"]) (FR:=["self"]) (js:=[0]) rfl rfl (λ_ _ h=>h) (.cons rfl rfl rfl ⟨_,rfl⟩ .nil) rfl ⇑0 rfl ⇑0 (QS (pv 1)) (by intro _ _ _;refine⟨?_,?_,?_⟩;(exact(pgl (i:=0) (show List.Nodup (["ball","self"]:List Str) by decide +kernel)));(exact xE);(exact(zD cT b1 %[1,0|0])))) rfl)
  (ze (Zf (pv 0) (zD cT b1 %[0,pxt (pv 2)|0]) rfl)
  (zo (Zf (pv 0) (zD cT b1 %[0,pxt (pv 2)|0]) rfl)))))))))
 refine⟨00,r,us,rL,.inr (.of W),λl a6=>?_⟩
 refine⟨00,wa,rL,⟨_,SqT.of (zq.upd a6 _ _ hw)⟩,λDa hD=>?_⟩
 refine zep (J:=Itt K wa) (n:=1) (g:=zG 0) (te:=xy 0) (xs:=[v1,v2]) (λv=>!decide (v=.non)) hD (V5 (zq.upd a6 _ _ hw)) (xT (by show 2<=20;decide)) ?_ ?_
 ·intro m x zs H2 A2 B2 hx d6 s2 ka kb
  obtain⟨z1,rfl⟩:=XL d6
  dsimp only[zG]
  exists 00,rfl,00
  cases e:decide (x=V.non)with
  |true=>exact kb (by simp[e])
  |false=>exact⟨00,ka (by simp[e])⟩
 intro H1 s1 hy
 have e5:H1 l=some (.lst us):=s1 _ _ zj
 refine⟨l,Da,us,00,rL,e5,hy,?_,λL hL=>?_⟩
 ·have z1:=uT (λv=>!decide (v=V.non)) [v1,v2]
  have z2:=hB.1
  have z3:20<sizeLine:=xT (wn _)
  simp only[wB,YW]at z1
  lia
 have S1:zq H H1:=(zq.upd a6).trans s1
 have S2:zq H (upd H1 L (.lst (us++[v1,v2].filter λv=>!decide (v=.non)))):=S1.trans (zq.upd hL)
 have hT:TsI H (us++[v1,v2].filter λv=>!decide (v=.non)) (ths bs lo hi):=hB.ts.append (zgr h1 h2)
 have a1:upd H1 L (.lst (us++[v1,v2].filter λv=>!decide (v=.non))) L=some (.lst (us++[v1,v2].filter λv=>!decide (v=.non))):=zj
 generalize upd H1 L (.lst (us++[v1,v2].filter λv=>!decide (v=.non)))=G0 at S2 a1
 generalize (us++[v1,v2].filter λv=>!decide (v=.non))=tv at hT a1
 have O:=S2 _ _ hc
 have cL:L≠c:=λz=>by subst z;rw[a1]at O;cases O
 dsimp only[zG]
 refine jZ (K:=K) ?_
 refine zh4 ?_
 refine zcv (λt=>t.1) ⇑2 a1 (hT.keeps (.of S2)) (Za hl) th0 λD1 y1 H2 s2 e0 f5=>?_
 refine⟨D1,y1,00,e0,f5,λq hq=>?_,by rw[wc];exact Za hl,λH3 s3=>?_⟩
 ·obtain⟨t,ht,rfl⟩:=wj.mp hq
  exact(hz t ht).1.2
 have p1:=zcJ (qs:=(ths bs lo hi).map (·.1)) (λq hq=>by obtain⟨t,ht,rfl⟩:=wj.mp hq;exact(hz t ht).1.2) (by rw[wc];exact Za hl)
 have p2:=zcJ (qs:=(ths bs lo hi).map (·.2)) (λq hq=>by obtain⟨t,ht,rfl⟩:=wj.mp hq;exact(hz t ht).2.2) (by rw[wc];exact Za hl)
 refine qx ⇑2 (s3 _ _ (s2 _ _ O)) I.cls I.pb ⇑1 λG1 X1 c1=>?_
 replace X1:xj c G0 G1:=(xj.of (s2.trans s3)).trans X1
 have t1:xA H G1:=(xA.of S2).trans (X1.tup O)
 refine jZ (K:=K) ?_
 refine zh4 ?_
 refine zcv (λt=>t.2) ⇑2 (X1 _ _ cL a1) (hT.keeps t1) (Za hl) th1 λD2 y2 H4 s4 f0 e9=>?_
 refine⟨D2,y2,00,f0,e9,λq hq=>?_,by rw[wc];exact Za hl,λH5 s5=>?_⟩
 ·obtain⟨t,ht,rfl⟩:=wj.mp hq
  exact(hz t ht).2.2
 refine qx ⇑2 (s5 _ _ (s4 _ _ c1)) I.cls I.sb (by show 1<1000;decide) λG2 X2 c2=>?_
 replace X2:xj c G0 G2:=X1.trans ((xj.of (s4.trans s5)).trans X2)
 refine jZ (K:=K) ?_
 refine⟨00,c,C,dx,021,c2,I.cls,I.sb,rfl,00,c,C,dx,021,c2,I.cls,I.pb,rfl,021,by have:=p1.1;lia,p1.2.1,λtp H6 s6 b4=>?_⟩
 refine qx ⇑2 (s6 _ _ c2) I.cls I.tick (by show 2<1000;decide) λG3 c8 c3=>?_
 have X3:xj c G0 G3:=X2.trans ((xj.of s6).trans c8)
 have a5:zu G3 tp _:=c8 _ _ (λz=>by subst z;have:=s6 _ _ c2;rw[b4]at this;cases this) b4
 have t3:xA H G3:=(xA.of S2).trans (X3.tup O)
 refine jZ (K:=K) ?_
 have d0:us.length<sizeLine:=xT (by rw[hB.1];lia)
 refine⟨00,r,rL,⟨_,SqT.of (t3 _ _ W)⟩,λD4 e3=>?_⟩
 refine Zk (J:=Itt K r) (n:=1) (g:=zG 0) (te:=tOp (vG K) (xy 0) (tC (.int 2))) (xs:=us) (λm v _=>∃b:Bl,bs[m]?=some b/\v=.int b.wt) (λ_ _ _ _ _ z=>z) e3 (V5 (t3 _ _ W)) d0 ?_ ?_
 ·intro m x zs H7 Q' hx d4 s7 hk
  rcases q:(hB.keeps (t3.trans (.of s7))).2 m x hx with⟨b,e,a,p,q,rfl,ha,_⟩
  obtain⟨z1,rfl⟩:=XL d4
  dsimp only[zG]
  exact⟨00,a,032,.of ha,rL,hk _ _ (zq.refl _) ⟨b,e,rL⟩⟩
 intro y4 H7 s7 b2 b9 c9
 have e4:y4=(bs.map Bl.wt).map V.int:=by
  rw[wG]
  exact zex (b9.trans hB.1) c9
 refine qx ⇑2 (s7 _ _ c3) I.cls I.weights (by show 3<1000;decide) λG4 b0 c4=>?_
 have X4:xj c G0 G4:=X3.trans ((xj.of s7).trans b0)
 have nc:∀{G:Hp}{fs:List (Str×V)}{b:Addr}{o:HO},G c=some (.ins C dx fs)->G b=some o->(∀fs,o≠.ins C dx fs)->b≠c:=λh1 h2 h3 z=>by subst z;rw[h1]at h2;cases h2;exact h3 _ rfl
 have c0:G4 D4=some (.lst ((bs.map Bl.wt).map V.int)):=by
  rw[<-e4];exact b0 _ _ (nc (s7 _ _ c3) b2 (λ_ z=>by cases z)) b2
 have a3:zu G4 tp _:=b0 _ _ (nc (s7 _ _ c3) (s7 _ _ a5) (λ_ z=>by cases z)) (s7 _ _ a5)
 have t4:xA H G4:=(xA.of S2).trans (X4.tup O)
 refine jZ (K:=K) ?_
 refine⟨00,r,rL,⟨_,SqT.of (t4 _ _ W)⟩,λD5 Y=>?_⟩
 refine xI (J:=Itt K r) (n:=1) (js:=[0]) (g:=zG 0) (te:=ZQ (zf6 C) [] E0 (qc (xy 1) (qc (xy 0) Zu))) (xs:=us) (λm v H=>∃t,(bs.map λb=>trB (pbO bs lo hi) (sbO bs lo hi) (b.pl,b.sp))[m]?=some t/\QH H v (some t)) (λ_ _ _ _ t ⟨x,e1,e2⟩=>⟨x,e1,e2.keeps t⟩) Y (V5 (t4 _ _ W)) d0 ?_ ?_
 ·intro m x zs H8 Q' hx d5 S hk
  rcases q:(hB.keeps (t4.trans (.of S))).2 m x hx with⟨b,e,a,p,q,rfl,ha,hp,hq⟩
  obtain⟨z1,rfl⟩:=XL d5
  dsimp only[zG]
  have zb:=hz (b.pl,b.sp) (Wz _ (wj.mpr ⟨b,wU e,rfl⟩))
  refine⟨rfl,01,c,dx,_,_,_,S _ _ c4,rfl,rfl,.inr ⟨a,b.pl,b.sp,rfl,⟨p,q,_,ha,hp,hq⟩,zb.1,zb.2,p1.1,p2.1,p1.2.1,p2.2.1,λr' H9 s9 h9=>hk _ _ s9 ⟨_,by rw[wo,e];rfl,r',rfl,h9⟩⟩⟩
 intro y5 H8 S d2 b6 d1
 refine qx ⇑2 (S _ _ c4) I.cls I.tracks (by show 4<1000;decide) λG5 U c5=>?_
 have X5:xj c G0 G5:=X4.trans ((xj.of S).trans U)
 have b7:G5 D5=some (.lst y5):=U _ _ (nc (S _ _ c4) d2 (λ_ z=>by cases z)) d2
 have e7:Jg G5 y5 (bs.map λb=>trB (pbO bs lo hi) (sbO bs lo hi) (b.pl,b.sp)):=⟨by rw[b6,wc,hB.1],λm v e=>by
  obtain⟨t,e1,e2⟩:=d1 m v e
  exact⟨t,e1,e2.keeps (U.tup (S _ _ c4))⟩⟩
 have b8:=U _ _ (nc (S _ _ c4) (S _ _ c0) (λ_ z=>by cases z)) (S _ _ c0)
 have a4:zu G5 tp _:=U _ _ (nc (S _ _ c4) (S _ _ a3) (λ_ z=>by cases z)) (S _ _ a3)
 have t5:xA H G5:=(xA.of S2).trans (X5.tup O)
 have d7:∀t,lo=some t->Sz 400 t.1/\Sz 400 t.2:=λt e=>hz t (by unfold ths;rw[e];simp[QR])
 have d9:∀t,hi=some t->Sz 400 t.1/\Sz 400 t.2:=λt e=>hz t (by unfold ths;rw[e];simp[QR])
 refine jZ (K:=K) ?_
 refine zaI ⟨_,rL,_,rL,wa,_,_,_,rL,rL,.of (t5 _ _ hw),at0 ..,?_⟩
 refine zdi c5 rL rL (h1.keeps t5) d7 ⟨p1.1,p1.2.1⟩ ⟨p2.1,p2.2.1⟩ λlv H9 s9 e8=>?_
 refine qx ⇑2 (s9 _ _ c5) I.cls I.low (by show 5<1000;decide) λG6 a9 c6=>?_
 have X6:xj c G0 G6:=X5.trans ((xj.of s9).trans a9)
 have t6:xA H G6:=(xA.of S2).trans (X6.tup O)
 have d3:xj c G5 G6:=(xj.of s9).trans a9
 refine zcQ (K:=K) ?_
 refine zaI ⟨_,rL,_,rL,wa,_,_,_,rL,rL,.of (t6 _ _ hw),at1 ..,?_⟩
 refine zdi c6 rL rL (h2.keeps t6) d9 ⟨p1.1,p1.2.1⟩ ⟨p2.1,p2.2.1⟩ λhv f6 a8 e6=>?_
 refine qx (rest:=ZU.nx) ⇑2 (a8 _ _ c6) I.cls I.high (by show 6<1000;decide) λG7 b3 c7=>?_
 have a7:xj c G6 G7:=(xj.of a8).trans b3
 have a2:xj c G5 G7:=d3.trans a7
 have X7:xj c G0 G7:=X6.trans a7
 have b5:H D5=none:=by
  cases e:H D5 with
  |none=>rfl
  |some o =>
   by_cases z:D5=c
   ·rw[z,c4]at Y;cases Y
   ·rw[X4 _ _ z (S2 _ _ e)]at Y;cases Y
 refine k G7 ((xj.of S2).trans X7) ⟨dx,_,D5,c7,⟨rfl,rfl,⟨tp,rfl,a2 _ _ (nc c5 a4 (λ_ z=>by cases z)) a4⟩,⟨D4,rfl,a2 _ _ (nc c5 b8 (λ_ z=>by cases z)) b8⟩,
  ⟨D5,y5,rfl,a2 _ _ (nc c5 b7 (λ_ z=>by cases z)) b7,e7.keeps (a2.tup c5)⟩,⟨lv,rfl,(e8.keeps (a9.tup (s9 _ _ c5))).keeps (a7.tup c6)⟩,⟨hv,rfl,e6.keeps (b3.tup (a8 _ _ c6))⟩,by show 7<=20;decide⟩,rfl,b5⟩
structure Tx3 (K:Fg) (mg:Str->Option Value) (aN:Addr):Prop where
 nAll:mg "all" = none
 nSorted:mg "sorted" = none
 nEnum:mg "enumerate" = none
 mn:mg "NOUGHT" = some (.ref aN)
 kn:zeb K aN 0 1
 tt:PySem.W.kitOne K (.type "tuple") (.type "tuple")=some true
abbrev Wl:=Option (Rat×Rat)
def xx (H:Hp) (v:V):Wl->Prop
 |none=>v=.non
 |some (x,y)=>∃a p q,v=.ref a/\H a=some (.tup [.ref p,.ref q])/\zu H p x/\zu H q y
theorem xx.same {H H':Hp}{v:V}{l:Wl}(h:xx H v l) (e:zq H H'):xx H' v l:=by
 cases l with
 |none=>exact h
 |some z=>obtain⟨a,p,q,e1,e2,F,G⟩:=h;exact⟨a,p,q,e1,e _ _ e2,F.same e,G.same e⟩
theorem iteD {c:Prop} [Decidable c] {A B:Prop}(e:¬c) (h:B):if decide c=true then A else B:=by
 rw[wx e];exact xi h
theorem zdd {α:Type}{l:List α}{i:Nat}{x:α}(h:l[i]?=some x):l.take (i+1)=l.take i++[x]:=by rw[yC,h];rfl
theorem ln1 {σ:St}(h:σ.length=1):∃a,σ=[a]:=by
 match σ,h with
 |[a],_=>exact⟨a,rfl⟩
inductive zd4  (vs:List V) (H:Hp) (Q:VK) (_e3:XK):Prop
 |mk:∀p xs n,(vs=[.ref p,.int n])->(H p=some (.tup xs))->(Q (.bl (decide (V.int (xs.length:Nat)=V.int n))) H)->zd4 vs H Q _e3
theorem zfL:zC ["thing","many"] ["thing","many"] (zi XY):=scq
theorem zk2 (D:Df K mg "is_tuple" XY ["thing","many"] []) (T:TxB K mg) (G:Tx3 K mg aN):⇑3 "is_tuple" 1 ["thing","many"] [] zd4:=by
 rcases r:D.calq (k:=0) zfL with⟨p,xs,n,rfl,F,k⟩
 exists(zo (zE (qA (zO jS ⇑2 T.nIs uK %[0,Vs (v:=.ty "tuple") (u:=.type "tuple") ⇑2 T.nTuple Wh rfl|0]) (vQ (qz ZP (zO xp ⇑2 T.nLen PySem.boot_len %[0|0]) (pv 1) (zH _))))))
 exact⟨00,_,_,_,true,rL,.tup F,G.tt,true,rL,xM ⟨00,p,00,.inr (SqT.of F),00,rL,k⟩⟩
inductive zhM  (vs:List V) (H:Hp) (Q:VK) (_e3:XK):Prop
 |mk:∀p x,(vs=[.ref p])->(zu H p x)->(Q (.bl true) H)->zhM vs H Q _e3
theorem zgO (x:Rat):(Int.gcd (if x.num<0 then -x.num else x.num) (x.den:Int):Int)=1:=by
 rw[Zb]
 have:=x.reduced
 show ((Nat.gcd x.num.natAbs x.den:Nat):Int)=1
 rw[this];rfl
theorem zcd:zC ["thing","top","bottom"] ["thing"] (zi XV):=scq
theorem zkP (D:Df K mg "is_ratio" XV ["thing"] []) (T:TxB K mg) (G:⇑3 "is_tuple" 1 ["thing","many"] [] zd4) (I:⇑3 "is_whole" 1 ["thing"] [] QB) (S:⇑3 "greatest_divisor" 1 ["one","other"] [] JO) :
  ⇑3 "is_ratio" 2 ["thing"] [] zhM:=by
 refine D.calq (k:=1) zcd (λf cdv A outer s H vs Q E F h=>?_)
 rcases q:h with⟨p,x,rfl,O,k⟩
 exists(ze (xf (ZH (xS (zD G F %[0,zh|0]) λ_=>rfl)) (zo (zE jW)) zT)
  (ze (Ze (pv 0) (qZ rfl (zP (pgl (i:=1) zcd.nd) (zP (pgl (i:=2) zcd.nd) xO))))
  (ze (xf ((QA (ZH (xS (zD I F %[1|0]) λ_=>rfl)) (QA (ZH (xS (zD I F %[2|0]) λ_=>rfl)) (XT (zF Zo (pv 2) zh (zH _)))))).pt (zo (zE jW)) zT)
  (zo (zE (qz ZP (zD S F %[zO qH ⇑2 T.nAbs yI %[1|0],2|0]) zh (zH _)))))))
 refine⟨00,p,021,O,00,xi ?_⟩
 exists 00,p,00,SqT.of O,rfl,021,022
 refine⟨01,true,rL,xi ⟨01,true,rL,xi ?_⟩⟩
 refine⟨00,022,00,iteD (by have:=den_pos x;lia) ?_⟩
 exists 02,021,(by rw[Zb];lia),∅,rfl
 show Q (.bl (decide (V.int (Int.gcd (if x.num<0 then -x.num else x.num) (x.den:Int):Int)=V.int 1))) H
 rw[zgO,wm rfl];exact k
inductive zj4  (vs:List V) (H:Hp) (Q:VK) (_e3:XK):Prop
 |mk:∀v l,(vs=[v])->(xx H v l)->(Q (.bl true) H)->zj4 vs H Q _e3
theorem zdZ:zC ["thing"] ["thing"] (zi QZ):=scq
theorem zk3 (D:Df K mg "is_wall" QZ ["thing"] []) (S:⇑3 "is_tuple" 1 ["thing","many"] [] zd4) (G:⇑3 "is_ratio" 2 ["thing"] [] zhM):⇑3 "is_wall" 3 ["thing"] [] zj4:=by
 refine D.calq (k:=2) zdZ (λf cdv A outer s H vs Q E F h=>?_)
 rcases q:h with⟨v,l,rfl,hw,k⟩
 have I:xc 1 _:=F.md
 exists(ze (xf (zF qY (pv 0) xC (zH _)) (zo (zE jW)) zT)
  (zo (zE (qA (zD S I %[0,zh|0]) (qA (zD G F %[pxt (pv 0)|0]) (vQ (zD G F %[pxt (pv 0)|0])))))))
 cases l with
 |none =>
  obtain rfl:v=.non:=hw
  exact⟨00,rL,00,xM k⟩
 |some z =>
  obtain⟨x,y⟩:=z
  rcases q:hw with⟨a,p,q,rfl,O,V,U⟩
  refine⟨00,rL,00,xi ?_⟩
  refine⟨00,a,021,O,true,rL,xM ?_⟩
  refine⟨00,a,032,.of O,rL,p,x,rL,V,true,rL,xM ?_⟩
  exact⟨00,a,032,.of O,rL,q,y,rL,U,k⟩
inductive zj6  (vs:List V) (H:Hp) (Q:VK) (_e3:XK):Prop
 |mk:∀a v1 v2 l1 l2,(vs=[.ref a])->(H a=some (.tup [v1,v2]))->(xx H v1 l1)->(xx H v2 l2)->(Q (.bl true) H)->zj6 vs H Q _e3
theorem zhC:zC ["thing"] ["thing"] (zi vU):=scq
theorem zk5 (D:Df K mg "is_wall_pair" vU ["thing"] []) (O:⇑3 "is_tuple" 1 ["thing","many"] [] zd4) (G:⇑3 "is_wall" 3 ["thing"] [] zj4):⇑3 "is_wall_pair" 4 ["thing"] [] zj6:=by
 refine D.calq (k:=3) zhC (λf cdv A outer s H vs Q E F h=>?_)
 rcases q:h with⟨a,W,v2,V,U,rfl,S,h1,h2,k⟩
 have I:xc 1 _:=F.md
 exists(zo (zE (qA (zD O I %[0,zh|0]) (qA (zD G F %[pxt (pv 0)|0]) (vQ (zD G F %[pxt (pv 0)|0]))))))
 refine⟨00,a,021,S,true,rL,xM ?_⟩
 refine⟨00,a,032,.of S,rL,W,V,rL,h1,true,rL,xM ?_⟩
 exact⟨00,a,032,.of S,rL,v2,U,rL,h2,k⟩
inductive zjO  (vs:List V) (H:Hp) (Q:VK) (_e3:XK):Prop
 |mk:∀a p q x y n,(vs=[.ref a])->(H a=some (.tup [.ref p,.ref q,.int n]))->(zu H p x)->(zu H q y)->(Q (.bl true) H)->zjO vs H Q _e3
theorem zfI:zC ["thing"] ["thing"] (zi vT):=scq
theorem zkJ (D:Df K mg "is_ball_form" vT ["thing"] []) (S:⇑3 "is_tuple" 1 ["thing","many"] [] zd4) (I:⇑3 "is_ratio" 2 ["thing"] [] zhM) (V:⇑3 "is_whole" 1 ["thing"] [] QB):⇑3 "is_ball_form" 3 ["thing"] [] zjO:=by
 refine D.calq (k:=2) zfI (λf cdv A outer s H vs Q E F h=>?_)
 rcases q:h with⟨a,p,q,x,y,n,rfl,O,W,U,k⟩
 have G:xc 1 _:=F.md
 exists(zo (zE (qA (zD S G %[0,zh|0]) (qA (zD I F %[pxt (pv 0)|0]) (qA (zD I F %[pxt (pv 0)|0]) (vQ (zD V G %[pxt (pv 0)|0])))))))
 refine⟨00,a,021,O,true,rL,xM ?_⟩
 refine⟨00,a,032,.of O,rL,p,x,rL,W,true,rL,xM ?_⟩
 refine⟨00,a,032,.of O,rL,q,y,rL,U,true,rL,xM ?_⟩
 exact⟨00,a,032,.of O,rL,n,rL,k⟩
theorem all_map (f:α->Bool) (l:List α):(l.map f).all id=l.all f:=by rw[List.all_map];rfl
theorem zbL {σ:St}{H:Hp}{Q:VK}{j:Nat}{sp:Sp}{r:Addr}{us:List V}{bs:List Zv}(hσ:σ[j]?=some (some (.ref r))) (hr:H r=some (.tup us)) (Y:xz H us bs) (U:bs.length<=8)
  (O:∀(H1:Hp) (v:V) (b:Zv) (Q:VK),zq H H1->b∈bs->(∃a p q,v=.ref a/\H1 a=some (.tup [.ref p,.ref q,.int b.wt])/\zu H1 p b.pl/\zu H1 q b.sp)->Q (.bl true) H1->sp [v] H1 Q E0)
  (k:∀D H',zq H H'->H' D=some (.lst ((List.replicate bs.length true).map V.bl))->Q (.ref D) H') :
  zdb 1 (zgR K (xy j)) (zG 0) (λ_ H Q=>Q true H) (ZQ sp [] E0 (qc (xy 0) Zu)) σ H Q:=by
 refine⟨_,hσ,r,rL,⟨_,SqT.of hr⟩,λD W=>?_⟩
 have hl:=Y.length
 refine Vn (J:=Itt K r) (g:=zG 0) (tt:=λ_ H Q=>Q true H) (te:=ZQ sp [] E0 (qc (xy 0) Zu)) (Q:=Q) (N:=us.length) (n:=1) (λi H2 ys=>zq H H2/\ys=(List.replicate i true).map V.bl) ⟨zq.upd W,rL⟩ (λi H2 ys hi ⟨F,_⟩=>?_) (λH2 ys ⟨F,_⟩=>?_) ?_ ?_
 ·exact⟨us,us[i],.of (F _ _ hr),wH hi⟩
 ·exact⟨us,.of (F _ _ hr),wn _⟩
 ·rintro i x zs H2 H3 ys Nx S hi I ⟨rfl,f1⟩ ⟨F,rfl⟩ G
  obtain⟨z1,rfl⟩:=ln1 I
  obtain⟨a,p,q,b,eb,rfl,ha,hp,hq⟩:=Y.get (f1 us (.of (F _ _ hr)))
  dsimp only[zG]
  try rw[if_pos rfl]
  refine⟨00,?_⟩
  refine O H3 (.ref a) b _ F (wU eb) ⟨a,p,q,rL,F _ _ ha,hp.same F,hq.same F⟩ ?_
  refine⟨G,?_,S _ _ ⟨zaq W F (zq.refl _),?_⟩⟩
  ·rw[wc,uR];exact vJ ∅
  ·rw[List.replicate_succ',yx];rfl
 ·rintro H2 ys ⟨F,rfl⟩ G
  rw[hl]at G
  exact k D H2 F G
theorem zej (n:Nat):(List.replicate n true).all id=true:=by simp
def evB (b0:Zv) (bs:List Zv):Bool:=bs.all λb=>decide (b.wt=b0.wt)
def xH:Wl->Bool
 |none=>true
 |some (_,y)=>decide (y=0)
theorem zhl {X:Cx}{K:Fg}(F:X.K=K) (G:X.A.units+64<cLine):OpR X (compareOp .Eq) (zhs K):=by subst F;exact zjq G
theorem zgq (i j:Int):decide (V.int i=V.int j)=decide (i=j):=by
 rw[u8,yL,yL]
 exact⟨λz=>by injection z,λz=>by rw[z]⟩
theorem zdr {σ:St}{H:Hp}{Q:VK}{r:Addr}{us:List V}{bs:List Zv}{I:Zv}(hσ:σ[0]?=some (some (.ref r))) (hr:H r=some (.tup us)) (U:xz H us bs) (h0:bs[0]?=some I) (a2:bs.length<=8)
  (k:∀D H',zq H H'->H' D=some (.lst ((bs.map λb=>decide (b.wt=I.wt)).map V.bl))->Q (.ref D) H') :
  zaC 1 [0] (zgR K (xy 0)) (zG 0) (λ_ H Q=>Q true H) (tOp rEq (tOp (vG K) (xy 0) (tC (.int 2))) (tOp (vG K) (tOp (vG K) (xy 1) (tC (.int 0))) (tC (.int 2)))) σ H Q:=by
 have S:qF σ [0]=[some (.ref r)]:=by simp[qF,hσ]
 refine⟨_,hσ,r,rL,⟨_,SqT.of hr⟩,λD hD=>?_⟩
 have hl:=U.length
 have O:0<us.length:=by rw[hl];exact(w4.mp h0).1
 obtain⟨a0,p0,q0,a3,e0,f0,Y,_,_⟩:=U.get (i:=0) (wH O)
 rw[h0]at e0;cases e0
 refine ZZ (J:=Itt K r) (g:=zG 0) (tt:=λ_ H Q=>Q true H) (te:=tOp rEq (tOp (vG K) (xy 0) (tC (.int 2))) (tOp (vG K) (tOp (vG K) (xy 1) (tC (.int 0))) (tC (.int 2)))) (Q:=Q) (N:=us.length) (n:=1)
  (λi H2 ys=>zq H H2/\ys=((bs.map λb=>decide (b.wt=I.wt)).map V.bl).take i) ⟨zq.upd hD,rfl⟩ (λi H2 ys hi ⟨F,_⟩=>?_) (λH2 ys ⟨F,_⟩=>?_) ?_ ?_
 ·exact⟨us,us[i],.of (F _ _ hr),wH hi⟩
 ·exact⟨us,.of (F _ _ hr),wn _⟩
 ·rintro i x zs H2 H3 ys Nx a1 hi W ⟨rfl,f1⟩ ⟨F,rfl⟩ G
  obtain⟨z1,rfl⟩:=ln1 W
  obtain⟨a,p,q,b,eb,rfl,ha,hp,hq⟩:=U.get (f1 us (.of (F _ _ hr)))
  rw[S]
  dsimp only[zG]
  refine⟨rL,?_⟩
  rw[if_pos rfl]
  exists 00,a,032,.of (F _ _ ha),rfl,00,r,032,.of (F _ _ hr),(by rw[<-f0];exact Qk (j:=0) (wH O)),a0,032,.of (F _ _ Y),rfl,rfl
  refine⟨G,?_,a1 _ _ ⟨zaq hD F (zq.refl _),?_⟩⟩
  ·rw[yk];exact vJ ∅
  ·rw[zdd (x:=V.bl (decide (b.wt=I.wt))) (by rw[wo,wo,eb];rfl)]
   show _++[V.bl (decide (V.int b.wt=V.int I.wt))]=_
   rw[zgq]
 ·rintro H2 ys ⟨F,rfl⟩ G
  rw[List.take_of_length_le (by rw[wc,wc,hl];exact wn _)]at G
  exact k D H2 F G
inductive zjQ  (vs:List V) (H:Hp) (Q:VK) (_e3:XK):Prop
 |mk:∀r us bs b0,(vs=[.ref r])->(H r=some (.tup us))->(xz H us bs)->(bs[0]?=some b0)->(bs.length<=8)->(∀H',zq H H'->Q (.bl (evB b0 bs)) H')->zjQ vs H Q _e3
theorem zhB:zC ["row"] ["row"] (zi QY):=scq
inductive zj0  (vs:List V) (H:Hp) (Q:VK) (_e3:XK):Prop
 |mk:∀r us bs,(vs=[.ref r])->(H r=some (.tup us))->(xz H us bs)->(0<bs.length)->(bs.length<=8)->(∀H',zq H H'->Q (.bl true) H')->zj0 vs H Q _e3
theorem zfO:zC ["thing"] ["thing"] (zi Zh):=scq
theorem zfi (D:Df K mg "is_row_form" Zh ["thing"] []) (T:TxB K mg) (S:Tx3 K mg aN) (I:⇑3 "is_ball_form" 3 ["thing"] [] zjO):⇑3 "is_row_form" 4 ["thing"] [] zj0:=by
 refine D.calq (k:=3) zfO (λf cdv A outer s H vs Q E O h=>?_)
 rcases q:h with⟨r,us,bs,rfl,F,U,W,G,k⟩
 have Y:=U.length
 exists(zo (zE (qA (zO jS ⇑2 T.nIs uK %[0,Vs (v:=.ty "tuple") (u:=.type "tuple") ⇑2 T.nTuple Wh rfl|0]) (qA (qz XB (zO xp ⇑2 T.nLen PySem.boot_len %[0|0]) zh (zH _)) (vQ (zO (VI rfl) ⇑2 S.nAll ⇑0 %[(vF (NB:=["ball"]) rfl ⇑0 ⇑0 rfl ⇑0 (QS (pv 0)) (by intro _ _ _;refine⟨?_,?_,?_⟩;(exact(pgl (i:=0) (show List.Nodup (["ball"]:List Str) by decide +kernel)));(exact xE);(exact(zD I O %[0|0]))))|0]))))))
 refine⟨00,_,_,_,true,rL,.tup F,S.tt,true,rL,xM ?_⟩
 exists 00,r,00,.inr (SqT.of F),022,00
 rw[show decide ((0:Int)<((us.length:Nat):Int))=true from wm ∅]
 refine xM ?_
 unfold tCB qc
 refine zbL (K:=K) (j:=0) rL F U G (λH1 v b Q e mb ⟨a,p,q,e1,e2,e3,e4⟩ q'=>?_) λDD H2 e2 V=>⟨DD,_,rL,SqL.of V,?_⟩
 ·subst e1
  exact⟨a,p,q,b.pl,b.sp,b.wt,rL,e2,e3,e4,q'⟩
 ·rw[zej]
  exact k H2 e2
theorem zkN (D:Df K mg "is_even" QY ["row"] []) (T:TxB K mg) (T3:Tx3 K mg aN) (S:⇑3 "is_row_form" 4 ["thing"] [] zj0):⇑3 "is_even" 5 ["row"] [] zjQ:=by
 refine D.calq (k:=4) zhB (λf cdv A outer s H vs Q E O h=>?_)
 rcases q:h with⟨r,us,bs,b0,rfl,G,W,V,F,k⟩
 have U:0<bs.length:=(w4.mp V).1
 exists(zo (zE (qA (zD S O %[0|0]) (vQ (zO (VI rfl) ⇑2 T3.nAll ⇑0 %[(qj (NB:=["ball"]) (FR:=["row"]) (js:=[0]) rfl rfl (λ_ _ h=>h) (.cons rfl rfl rfl ⟨_,rfl⟩ .nil) rfl ⇑0 rfl ⇑0 (QS (pv 0)) (by intro _ _ _;refine⟨?_,?_,?_⟩;(exact(pgl (i:=0) (show List.Nodup (["ball","row"]:List Str) by decide +kernel)));(exact xE);(exact(qz ZP (qa (vm (K:=K) rfl) (pv 0) zh (λ_ _=>rfl)) (qa (vm (K:=K) rfl) (qa (vm (K:=K) rfl) (pv 1) zh (λ_ _=>rfl)) zh (λ_ _=>rfl)) (zH _)))))|0])))))
 refine⟨00,r,us,bs,rL,G,W,U,F,λH2 e2=>⟨true,rL,xM ?_⟩⟩
 unfold tCB qc
 refine zdr (K:=K) rL (e2 _ _ G) (W.same e2) V F λD3 H3 Y I=>⟨D3,_,rL,SqL.of I,?_⟩
 rw[all_map];exact k H3 (e2.trans Y)
theorem zbM {σ:St}{H:Hp}{Q:VK}{r:Addr}{v1 v2:V}{I G:Wl}(hN:zeb K aN 0 1) (hσ:σ[0]?=some (some (.ref r))) (hr:H r=some (.tup [v1,v2])) (h1:xx H v1 I) (h2:xx H v2 G)
  (k:∀D H',zq H H'->H' D=some (.lst ([xH I,xH G].map V.bl))->Q (.ref D) H') :
  zdb 1 (zgR K (xy 0)) (zG 0) (λ_ H Q=>Q true H) (zkb (tOp (λx y H Q=>y=.non/\Q (.bl (decide (x=.non))) H) (xy 0) (tC .non)) (tOp (zhs K) (tOp (vG K) (xy 0) (tC (.int 1))) (tC (.ref aN)))) σ H Q:=by
 refine⟨_,hσ,r,rL,⟨_,SqT.of hr⟩,λD hD=>?_⟩
 refine Vn (J:=Itt K r) (g:=zG 0) (tt:=λ_ H Q=>Q true H) (te:=zkb (tOp (λx y H Q=>y=.non/\Q (.bl (decide (x=.non))) H) (xy 0) (tC .non)) (tOp (zhs K) (tOp (vG K) (xy 0) (tC (.int 1))) (tC (.ref aN)))) (Q:=Q) (N:=2) (n:=1)
  (λi H2 ys=>zq H H2/\ys=([xH I,xH G].map V.bl).take i) ⟨zq.upd hD,rfl⟩ (λi H2 ys hi ⟨F,_⟩=>?_) (λH2 ys ⟨F,_⟩=>?_) ?_ ?_
 ·exact⟨_,[v1,v2][i],.of (F _ _ hr),wH hi⟩
 ·exact⟨_,.of (F _ _ hr),wn _⟩
 ·rintro i x zs H2 Y ys Nx a1 hi W ⟨rfl,f1⟩ ⟨F,rfl⟩ O
  obtain⟨z1,rfl⟩:=ln1 W
  have U:=f1 _ (.of (F _ _ hr))
  obtain⟨l,hl,el⟩:∃l,xx Y x l/\([xH I,xH G].map V.bl)[i]?=some (.bl (xH l)):=by
   match i,hi with
   |0,_=>simp at U;subst U;exact⟨I,h1.same F,rfl⟩
   |1,_=>simp at U;subst U;exact⟨G,h2.same F,rfl⟩
  dsimp only[zG]
  try rw[if_pos rfl]
  have S:Y D=some (.lst (([xH I,xH G].map V.bl).take i))/\(([xH I,xH G].map V.bl).take i).length<sizeLine/\Nx (upd Y D (.lst (([xH I,xH G].map V.bl).take i++[.bl (xH l)]))) (([xH I,xH G].map V.bl).take i++[.bl (xH l)]):=by
   refine⟨O,?_,a1 _ _ ⟨zaq hD F (zq.refl _),?_⟩⟩
   ·rw[yk];exact vJ ∅
   ·rw[zdd el]
  cases l with
  |none =>
   obtain rfl:x=.non:=hl
   exact⟨00,rL,true,rL,xM S⟩
  |some z =>
   obtain⟨px,py⟩:=z
   obtain⟨a,p,q,rfl,ha,hp,hq⟩:=hl
   refine⟨00,rL,false,rL,xi ⟨00,a,032,.of ha,rL,_,aN,0,1,hq.rd,rL,hN,zd1 _,?_⟩⟩
   rw[show PyData.eqv (.tuple [.int py.num,.int (py.den:Int)]) (.tuple [.int 0,.int 1])=xH (some (px,py))from zey py 0]
   exact S
 ·rintro H2 ys ⟨F,rfl⟩ O
  exact k D H2 F O
inductive zj3  (vs:List V) (H:Hp) (Q:VK) (_e3:XK):Prop
 |mk:∀a v1 v2 l1 l2,(vs=[.ref a])->(H a=some (.tup [v1,v2]))->(xx H v1 l1)->(xx H v2 l2)->(∀H',zq H H'->Q (.bl (xH l1&&xH l2)) H')->zj3 vs H Q _e3
theorem zfP:zC ["walls"] ["walls"] (zi XW):=scq
theorem zkZ (D:Df K mg "is_still" XW ["walls"] []) (O:Tx3 K mg aN) (I:⇑3 "is_wall_pair" 4 ["thing"] [] zj6):⇑3 "is_still" 5 ["walls"] [] zj3:=by
 rcases r:D.calq (k:=4) zfP with⟨a,U,v2,G,F,rfl,S,h1,h2,k⟩
 have W:=hr.units
 exists(zo (zE (qA (zD I hr %[0|0]) (vQ (zO (VI rfl) ⇑2 O.nAll ⇑0 %[(vF (NB:=["wall"]) rfl ⇑0 ⇑0 rfl ⇑0 (QS (pv 0)) (by intro _ _ _;refine⟨?_,?_,?_⟩;(exact(pgl (i:=0) (show List.Nodup (["wall"]:List Str) by decide +kernel)));(exact xE);(exact(zla (qz qY (pv 0) xC (zH _)) (vQ (qz (zhl (K:=K) rfl W) (qa (vm (K:=K) rfl) (pv 0) zh (λ_ _=>rfl)) (zan (v:=.ref aN) ⇑2 O.mn rfl) (zH _)))))))|0])))))
 refine⟨00,a,U,v2,G,F,rL,S,h1,h2,true,rL,xM ?_⟩
 unfold tCB qc
 refine zbM (K:=K) O.kn rL S h1 h2 λDD H2 e2 V=>⟨DD,_,rL,SqL.of V,?_⟩
 rw[show ([xH G,xH F].all id)=(xH G&&xH F) by simp]
 exact k H2 e2
end KK
namespace L2
open PySem PySem.Spec PyProof.Rows PySem.W
def zc9 {D:ZU}{σ:St}{H:Hp}(h:D.nx σ H):zit D σ H:=h
def zJ {t u:TS}{D:ZU}{σ:St}{H:Hp}(R:St->Hp->Prop) (h2:∀F H',R F H'->u D F H') (h1:∀nx:St->Hp->Prop,(∀F H',R F H'->nx F H')->t { D with nx:=nx } σ H):zbt t u D σ H:=h1 (u D) h2
end L2
namespace KK
open PySem L2 KM
variable {P:Program}{w:World}{K:Fg}{mg:Str->Option Value}{base:Heap}{C CE aN:Addr}
def lv:Option Int->V
 |none=>.non
 |some l=>.int l
def f1:Option Int->Option Int->Int->Int->Int×Int
 |some l,some h,s,v=>(l+(s-l) % (2*(h-l)),v)
 |some l,none,s,v=>if s<l then(2*l-s,-v)else(s,v)
 |none,_,s,v=>(s,v)
def f2:Option Int->Int×Int->Int×Int
 |some h,p=>if h<p.1 then(2*h-p.1,-p.2)else p
 |none,p=>p
def zY (i:Int):Int:=if i<0 then -i else i
def f3:Option Int->Int×Int->Int×Int
 |some l,p=>if p.1=l then(p.1,zY p.2)else p
 |none,p=>p
def f4:Option Int->Int×Int->Int×Int
 |some h,p=>if p.1=h then(p.1,-zY p.2)else p
 |none,p=>p
def vE (lo hi:Option Int) (s v:Int):Int×Int:=f4 hi (f3 lo (f2 hi (f1 lo hi s v)))
def wsc (w:Option (Int×Int)) (b:Int):Option Int:=w.map λt=>t.1*b
def Wb (w:Option (Int×Int)):Prop:=∀t,w=some t->Bd 2000 t.1
theorem zcB {H:Hp}{v:V}{w:Option (Int×Int)} (h:QH H v w):(w=none/\v=.non)\/∃t a,w=some t/\v=.ref a/\H a=some (.tup [.int t.1,.int t.2]):=by
 cases w with
 |none=>exact .inl ⟨rfl,h⟩
 |some t=>obtain⟨a,e,h⟩:=h;exact .inr ⟨t,a,rfl,e,h⟩
theorem Xv.same {H H':Hp}{c:Addr}{I G:Int}{tk:Rat}{ws:List Int}{trs:List (Int×Int)}{lo hi:Option (Int×Int)} (h:Xv H C c I G tk ws trs lo hi) (e:zq H H'):Xv H' C c I G tk ws trs lo hi:=by
 obtain⟨dx,fs,h1,F⟩:=h
 obtain⟨tp,S,t2⟩:=F.tick
 obtain⟨wl,w1,W⟩:=F.weights
 obtain⟨tl,tv,Y,U,r3⟩:=F.tracks
 obtain⟨v,V,O⟩:=F.low
 obtain⟨u,g1,g2⟩:=F.high
 exact⟨dx,fs,e _ _ h1,F.pb,F.sb,⟨tp,S,e _ _ t2⟩,⟨wl,w1,e _ _ W⟩,⟨tl,tv,Y,e _ _ U,r3.keeps (.of e)⟩,⟨v,V,O.keeps (.of e)⟩,⟨u,g1,g2.keeps (.of e)⟩,F.len⟩
inductive zbn (C:Addr) (vs:List V) (H:Hp) (Q:VK) (_e3:XK):Prop
 |mk:∀c a t pb sb tk ws trs lo hi x v top bot,(vs=[.ref c,.ref a,.ref t])->(Xv H C c pb sb tk ws trs lo hi)->(H a=some (.tup [.int x,.int v]))->(H t=some (.tup [.int top,.int bot]))->(Bd 2000 x)->(Bd 2000 v)->(Bd 2000 top)->(Bd 2000 bot)->(0<bot)->(Wb lo)->(Wb hi)->((∀l h,lo=some l->hi=some h->l.1<h.1))->(∀r H',zq H H'->H' r=some (.tup [.int (vE (wsc lo bot) (wsc hi bot) (x*bot+v*top) v).1,.int (vE (wsc lo bot) (wsc hi bot) (x*bot+v*top) v).2])->Q (.ref r) H')->zbn C vs H Q _e3
theorem vB:zC ["course","track","ticks","top","bottom","spot","speed","low","high"] ["course","track","ticks"] (zi Q8):=scq
theorem b2k {i:Int}(h:Bd 2000 i):Bd 1000000 i:=h.md
theorem b2i:Bd 1000000 (2:Int):=Bd.mono (m:=2) (show (2:Int).natAbs<2^2 by decide) ⇑1
theorem zi9 (D:Df K mg "line_at" Q8 ["course","track","ticks"] []) (T:TxB K mg) (U:TCo K C):⇑3 "line_at" 1 ["course","track","ticks"] [] (zbn C):=by
 rcases r:D.calq (k:=0) vB with⟨c,a,t,pb,sb,tk,ws,trs,lo,hi,x,v,top,O,rfl,a5,ha,ht,bx,bv,a1,S,a2,wl,wh,a3,k⟩
 obtain⟨dx,fs,hc,F⟩:=id a5
 obtain⟨vl,el,tl⟩:=F.low
 obtain⟨vh,eh,th⟩:=F.high
 exists(ze (Ze (pv 2) (qZ rfl (zP (pgl (i:=3) vB.nd) (zP (pgl (i:=4) vB.nd) xO))))
  (ze (psl (i:=5) vB.nd (zy xr (zy zK (pxt (pv 1)) (pv 4)) (zy zK (pxt (pv 1)) (pv 3))))
  (ze (psl (i:=6) vB.nd (pxt (pv 1)))
  (ze (psl (i:=7) vB.nd (Qz (zF qY (xt (pv 0) rfl) xC (zH _)) xC (zy zK (pxt (xt (pv 0) rfl)) (pv 4))))
  (ze (psl (i:=8) vB.nd (Qz (zF qY (xt (pv 0) rfl) xC (zH _)) xC (zy zK (pxt (xt (pv 0) rfl)) (pv 4))))
  (ze (xf ((vR (zF ZD (pv 7) xC (zH _)) (qL (zF ZD (pv 8) xC (zH _))))).pt (zo (psl (i:=5) vB.nd (zy xr (pv 7) (zy vO (zy qo (pv 5) (pv 7)) (zy zK zh (zy qo (pv 8) (pv 7))))))) (zo (xf ((vR (zF ZD (pv 7) xC (zH _)) (qL (zF Zo (pv 5) (pv 7) (zH _))))).pt (zo (XS (i:=5) (j:=6) rfl vB.nd rfl rfl ⇑1 rfl rfl %[zy qo (zy zK zh (pv 7)) (pv 5),jX qS (pv 6)|0] ⇑2)) zT)))
  (ze (xf ((vR (zF ZD (pv 8) xC (zH _)) (qL (zF XB (pv 5) (pv 8) (zH _))))).pt (zo (XS (i:=5) (j:=6) rfl vB.nd rfl rfl ⇑1 rfl rfl %[zy qo (zy zK zh (pv 8)) (pv 5),jX qS (pv 6)|0] ⇑2)) zT)
  (ze (xf ((vR (zF ZD (pv 7) xC (zH _)) (qL (zF ZP (pv 5) (pv 7) (zH _))))).pt (zo (psl (i:=6) vB.nd (zO qH ⇑2 T.nAbs yI %[6|0]))) zT)
  (ze (xf ((vR (zF ZD (pv 8) xC (zH _)) (qL (zF ZP (pv 5) (pv 8) (zH _))))).pt (zo (psl (i:=6) vB.nd (jX qS (zO qH ⇑2 T.nAbs yI %[6|0])))) zT)
  (zo (zE (zX %[5,6|0]))))))))))))
 exists 00,t,00,.of ht,rfl,021,022
 dsimp only[zG]
 exists 00,a,032,.of ha,at0 ..,00,022,⟨b2k bx,b2k S⟩,00,a,032,.of ha,at1 ..,00,022,⟨b2k bv,b2k a1⟩,022
 dsimp only[zG]
 exists 00,a,032,.of ha,at1 ..
 dsimp only[zG]
 have a6:Bd 4001 (x*O+v*top):=((bx.mul S).add (bv.mul a1)).md
 generalize x*O+v*top=s0 at *
 rcases s:(λW G=>H=G/\W=[Sr c,Sr a,Sr t,Si top,Si O,Si s0,Si v,some (lv (wsc lo O)),none])
 ·intro nx I
  rcases zcB tl with⟨rfl,rfl⟩ | ⟨l,al,rfl,rfl,Y⟩
  ·exact⟨00,c,C,dx,fs,00,hc,U.cls,U.low,el,rL,00,xM (I _ _ ⟨rL,rL⟩)⟩
  ·exact⟨00,c,C,dx,fs,00,hc,U.cls,U.low,el,rL,00,xi ⟨00,c,C,dx,fs,00,hc,U.cls,U.low,el,al,032,.of Y,at0 ..,00,022,⟨b2k (wl _ rL),b2k S⟩,I _ _ ⟨rL,rL⟩⟩⟩
 rintro σ1 G ⟨rfl,rfl⟩
 rcases s:(λW G=>H=G/\W=[Sr c,Sr a,Sr t,Si top,Si O,Si s0,Si v,some (lv (wsc lo O)),some (lv (wsc hi O))])
 ·intro nx I
  rcases zcB th with⟨rfl,rfl⟩ | ⟨l,al,rfl,rfl,Y⟩
  ·exact⟨00,c,C,dx,fs,00,hc,U.cls,U.high,eh,rL,00,xM (I _ _ ⟨rL,rL⟩)⟩
  ·exact⟨00,c,C,dx,fs,00,hc,U.cls,U.high,eh,rL,00,xi ⟨00,c,C,dx,fs,00,hc,U.cls,U.high,eh,al,032,.of Y,at0 ..,00,022,⟨b2k (wh _ rL),b2k S⟩,I _ _ ⟨rL,rL⟩⟩⟩
 rintro σ1 G ⟨rfl,rfl⟩
 have bL:∀l,wsc lo O=some l->Bd 4000 l:=λl e=>by
  cases lo with
  |none=>cases e
  |some z=>cases e;exact(wl _ rfl).mul S
 have bH:∀l,wsc hi O=some l->Bd 4000 l:=λl e=>by
  cases hi with
  |none=>cases e
  |some z=>cases e;exact(wh _ rfl).mul S
 have a4:∀l h,wsc lo O=some l->wsc hi O=some h->l<h:=λl h e1 e2=>by
  cases lo with
  |none=>cases e1
  |some z =>
   cases hi with
   |none=>cases e2
   |some y=>cases e1;cases e2;exact yR (a3 _ _ rfl rfl) a2
 generalize wsc lo O=L at *
 generalize wsc hi O=R at *
 have b4:∀{i:Int},Bd 4000 i->Bd 1000000 i:=λh=>h.md
 rcases s:(λW G=>H=G/\W=[Sr c,Sr a,Sr t,Si top,Si O,some (.int (f1 L R s0 v).1),some (.int (f1 L R s0 v).2),some (lv L),some (lv R)])
 ·intro nx I
  cases L with
  |none=>exact⟨00,rfl,00,xi (xi ⟨00,rfl,00,xi (xi (I _ _ ⟨rfl,rfl⟩))⟩)⟩
  |some l =>
   cases R with
   |none =>
    refine⟨00,rL,00,xM ⟨00,rL,00,xi ?_⟩⟩
    refine⟨00,rL,00,xM ⟨01,022,00,vu (λh=>?_) (λh=>?_)⟩⟩
    ·have h':s0<l:=ww h
     refine⟨00,022,⟨b2i,b4 (bL _ rL)⟩,00,022,01,021,I _ _ ⟨rL,?_⟩⟩
     simp only[f1,if_pos h'] <;> rfl
    ·have h':¬s0<l:=λz=>h (wm z)
     refine I _ _ ⟨rL,?_⟩
     simp only[f1,if_neg h'] <;> rfl
   |some h =>
    have hp:0<2*(h-l):=by have:=a4 _ _ rfl rfl;lia
    exact⟨00,rL,00,xM ⟨00,rL,00,xM ⟨02,022,01,022,022,⟨b2i,((bH _ rL).sub (bL _ rL)).md⟩,022,hp,022,I _ _ ⟨rL,rL⟩⟩⟩⟩
 rintro σ1 G ⟨rfl,rfl⟩
 generalize hp1:f1 L R s0 v=p1 at *
 obtain⟨s1,v1⟩:=p1
 rcases s:(λW G=>H=G/\W=[Sr c,Sr a,Sr t,Si top,Si O,some (.int (f2 R (s1,v1)).1),some (.int (f2 R (s1,v1)).2),some (lv L),some (lv R)])
 ·intro nx I
  cases R with
  |none=>exact⟨00,rfl,00,xi (xi (I _ _ ⟨rfl,rfl⟩))⟩
  |some h =>
   refine⟨00,rL,00,xM ⟨01,022,00,vu (λz=>?_) (λz=>?_)⟩⟩
   ·have h':h<s1:=ww z
    refine⟨00,022,⟨b2i,b4 (bH _ rL)⟩,00,022,01,021,I _ _ ⟨rL,?_⟩⟩
    simp only[f2,if_pos h'] <;> rfl
   ·have h':¬h<s1:=λy=>z (wm y)
    refine I _ _ ⟨rL,?_⟩
    simp only[f2,if_neg h'] <;> rfl
 rintro σ1 G ⟨rfl,rfl⟩
 generalize hp2:f2 R (s1,v1)=p2 at *
 obtain⟨s2,v2⟩:=p2
 rcases s:(λW G=>H=G/\W=[Sr c,Sr a,Sr t,Si top,Si O,some (.int (f3 L (s2,v2)).1),some (.int (f3 L (s2,v2)).2),some (lv L),some (lv R)])
 ·intro nx I
  cases L with
  |none=>exact⟨00,rfl,00,xi (xi (I _ _ ⟨rfl,rfl⟩))⟩
  |some l =>
   refine⟨00,rL,00,xM ⟨01,rL,00,vu (λz=>?_) (λz=>?_)⟩⟩
   ·have h':s2=l:=by have:=ww z;injection this
    refine⟨01,I _ _ ⟨rL,?_⟩⟩
    simp only[f3,if_pos h'] <;> rfl
   ·have h':¬s2=l:=λy=>z (wm (p:=V.int s2=V.int l) (by rw[y]))
    refine I _ _ ⟨rL,?_⟩
    simp only[f3,if_neg h'] <;> rfl
 rintro σ1 G ⟨rfl,rfl⟩
 generalize hp3:f3 L (s2,v2)=p3 at *
 obtain⟨s3,v3⟩:=p3
 rcases s:(λW G=>H=G/\W=[Sr c,Sr a,Sr t,Si top,Si O,some (.int (f4 R (s3,v3)).1),some (.int (f4 R (s3,v3)).2),some (lv L),some (lv R)])
 ·intro nx I
  cases R with
  |none=>exact⟨00,rfl,00,xi (xi (I _ _ ⟨rfl,rfl⟩))⟩
  |some l =>
   refine⟨00,rL,00,xM ⟨01,rL,00,vu (λz=>?_) (λz=>?_)⟩⟩
   ·have h':s3=l:=by have:=ww z;injection this
    refine⟨02,I _ _ ⟨rL,?_⟩⟩
    simp only[f4,if_pos h'] <;> rfl
   ·have h':¬s3=l:=λy=>z (wm (p:=V.int s3=V.int l) (by rw[y]))
    refine I _ _ ⟨rL,?_⟩
    simp only[f4,if_neg h'] <;> rfl
 rintro σ1 G ⟨rfl,rfl⟩
 refine⟨01,⇑5,λr hr=>k r _ (zq.upd hr) ?_⟩
 unfold vE
 rw[hp1,hp2,hp3]
 exact zj
abbrev zks (x:Str) (C:Addr) (mg:Str->Option Value) (h:Heap):Prop:=PyProof.Rows.OwnCls x C zkl "ValueError.__new__" mg h
def Jd (lo hi:Option (Int×Int)):Option Int:=match lo,hi with
 |some l,some h=>some (2*(h.1-l.1))
 |_,_=>none
inductive Vd (C:Addr) (vs:List V) (H:Hp) (Q:VK) (_e3:XK):Prop
 |mk:∀c pb sb tk ws trs lo hi,(vs=[.ref c])->(Xv H C c pb sb tk ws trs lo hi)->(Wb lo)->(Wb hi)->(Q (lv (Jd lo hi)) H)->Vd C vs H Q _e3
theorem zhH:zC ["course"] ["course"] (zi Va):=scq
theorem zhi (D:Df K mg "trip_of" Va ["course"] []) (G:TCo K C):⇑3 "trip_of" 1 ["course"] [] (Vd C):=by
 rcases r:D.calq (k:=0) zhH with⟨c,pb,sb,tk,ws,trs,lo,hi,rfl,V,wl,wh,k⟩
 obtain⟨dx,fs,I,F⟩:=id V
 obtain⟨vl,O,tl⟩:=F.low
 obtain⟨vh,S,Y⟩:=F.high
 exists(ze (xf ((QA (zF qY (xt (pv 0) rfl) xC (zH _)) (XT (zF qY (xt (pv 0) rfl) xC (zH _))))).pt (zo (zE xC)) zT)
  (zo (zE (zy zK zh (zy qo (pxt (xt (pv 0) rfl)) (pxt (xt (pv 0) rfl)))))))
 rcases zcB tl with⟨rfl,rfl⟩ | ⟨l,al,rfl,rfl,U⟩
 ·exact⟨00,c,C,dx,fs,00,I,G.cls,G.low,O,rL,00,xM (xM k)⟩
 ·refine⟨00,c,C,dx,fs,00,I,G.cls,G.low,O,rL,00,xi ?_⟩
  rcases zcB Y with⟨rfl,rfl⟩ | ⟨h,ah,rfl,rfl,W⟩
  ·exact⟨00,c,C,dx,fs,00,I,G.cls,G.high,S,rL,00,xM k⟩
  ·refine⟨00,c,C,dx,fs,00,I,G.cls,G.high,S,rL,00,xi ?_⟩
   exact⟨00,c,C,dx,fs,00,I,G.cls,G.high,S,ah,032,.of W,at0 ..,00,c,C,dx,fs,00,I,G.cls,G.low,O,al,032,.of U,at0 ..,022,022,⟨b2i,((wh _ rL).sub (wl _ rL)).md⟩,k⟩
def za9 (s g:Int) (tr:Option Int) (top bot:Int):Int:=match tr with
 |none=>if 0<g/\0<=s*top-g*bot then 1 else 0
 |some t=>(s*top-g*bot).fdiv (t*bot)-(-g).fdiv t
def zam (s g:Int) (tr:Option Int) (top bot:Int):Int:=if s<0 then za9 (-s) (-g) tr top bot else za9 s g tr top bot
inductive zf1  (vs:List V) (H:Hp) (Q:VK) (_e3:XK):Prop
 |mk:∀s g tr t top bot,(vs=[.int s,.int g,lv tr,.ref t])->(H t=some (.tup [.int top,.int bot]))->(Bd 3000 s)->(Bd 3000 g)->((∀x,tr=some x->0<x/\Bd 3000 x))->(Bd 2000 top)->(Bd 2000 bot)->(0<bot)->(Q (.int (zam s g tr top bot)) H)->zf1 vs H Q _e3
theorem V8:zC ["speed","gap","trip","ticks","top","bottom","beyond"] ["speed","gap","trip","ticks"] (zi V6):=scq
theorem zjl (D:Df K mg "passes" V6 ["speed","gap","trip","ticks"] []):⇑3 "passes" 1 ["speed","gap","trip","ticks"] [] zf1:=by
 rcases r:D.calq (k:=0) V8 with⟨s0,g0,V,t,top,F,rfl,ht,S,U,a3,a4,I,a1,k⟩
 exists(ze (xf (zF Zo (pv 0) zh (zH _)) (zo (XS (i:=0) (j:=1) rfl V8.nd rfl rfl ⇑1 rfl rfl %[jX qS (pv 0),jX qS (pv 1)|0] ⇑2)) zT)
  (ze (Ze (pv 3) (qZ rfl (zP (pgl (i:=4) V8.nd) (zP (pgl (i:=5) V8.nd) xO))))
  (ze (psl (i:=6) V8.nd (zy qo (zy zK (pv 0) (pv 4)) (zy zK (pv 1) (pv 5))))
  (ze (xf (zF qY (pv 2) xC (zH _)) (zo (zE (Qz ((vR (zF XB (pv 1) zh (zH _)) (qL (zF zk8 (pv 6) zh (zH _))))).pt zh zh))) zT)
  (zo (zE (zy qo (zy xF (pv 6) (zy zK (pv 2) (pv 5))) (zy xF (jX qS (pv 1)) (pv 2)))))))))
 rcases s:(λσ' G=>H=G/\∃s g,σ'=[Si s,Si g,some (lv V),Sr t,none,none,none]/\Bd 3000 s/\Bd 3000 g/\za9 s g V top F=zam s0 g0 V top F)
 ·intro nx O
  refine⟨00,022,00,vu (λz=>?_) (λz=>?_)⟩
  ·have h':s0<0:=ww z
   refine⟨03,021,O _ _ ⟨rL,021,S.neg,U.neg,?_⟩⟩
   unfold zam;rw[if_pos h']
  ·have h':¬s0<0:=λy=>z (wm y)
   refine O _ _ ⟨rL,_,_,rL,S,U,?_⟩
   unfold zam;rw[if_neg h']
 rintro σ1 G a2;rcases q:a2 with⟨rfl,s,g,rfl,bs,bg,e⟩
 rw[<-e]at k
 exists 00,t,00,.of ht,rfl,021,022
 dsimp only[zG]
 have W:∀{i:Int},Bd 3000 i->Bd 1000000 i:=λh=>h.md
 exists 01,022,⟨W bs,b2k a4⟩,01,022,⟨W bg,b2k I⟩,022
 dsimp only[zG]
 cases V with
 |none =>
  refine⟨00,rL,00,xM ?_⟩
  refine⟨00,022,00,vu (λz=>?_) (λz=>?_)⟩
  ·have h1:0<g:=ww z
   refine⟨00,022,00,vu (λz=>?_) (λz=>?_)⟩
   ·have h2:0<=s*top-g*F:=ww z
    have:za9 s g none top F=1:=if_pos ⟨h1,h2⟩
    rw[this]at k;exact k
   ·have h2:¬ 0<=s*top-g*F:=λy=>z (wm y)
    have:za9 s g none top F=0:=if_neg λy=>h2 y.2
    rw[this]at k;exact k
  ·have h1:¬ 0<g:=λy=>z (wm y)
   have:za9 s g none top F=0:=if_neg λy=>h1 y.1
   rw[this]at k;exact xi k
 |some x =>
  obtain⟨px,Y⟩:=a3 x rfl
  refine⟨00,rL,00,xi ?_⟩
  exists 02,022,⟨W Y,b2k I⟩,022,⟨yt (wP px a1),(Y.mul I).md⟩
  exact⟨02,022,⟨yt px,Y.md⟩,022,k⟩
end KK
namespace L2
open PySem
def zcU {X:Cx}{K:Fg}{e:Expr}{ta:TE}{f:Str}{pos:Pos}(I:X.K=K) (F:PE X e ta) (G:attributeBase e f X.env (eval e X.env)=eval e X.env):PE X (.Attribute e f pos) (zlu K ta f):=by
 subst I;exact xt F G
def XG {a b:Str}{m n:Addr}{F:List (Str×Addr)} (h1:F.lookup a=some m) (h2:F.lookup b=some n) (x:Str) (c:Addr) (e:List.lookup x [(a,m),(b,n)]=some c):F.lookup x=some c:=by
 simp only[List.lookup]at e
 cases q1:(x == a)with
 |true=>rw[q1]at e;cases e;rw[eq_of_beq q1];exact h1
 |false =>
  rw[q1]at e
  cases q2:(x == b)with
  |true=>rw[q2]at e;cases e;rw[eq_of_beq q2];exact h2
  |false=>rw[q2]at e;cases e
def zen {a b d:Str}{m n k:Addr}{F:List (Str×Addr)} (h1:F.lookup a=some m) (h2:F.lookup b=some n) (G:F.lookup d=some k) (x:Str) (c:Addr) (e:List.lookup x [(a,m),(b,n),(d,k)]=some c):F.lookup x=some c:=by
 simp only[List.lookup]at e
 cases q1:(x == a)with
 |true=>rw[q1]at e;cases e;rw[eq_of_beq q1];exact h1
 |false =>
  rw[q1]at e
  cases q2:(x == b)with
  |true=>rw[q2]at e;cases e;rw[eq_of_beq q2];exact h2
  |false =>
   rw[q2]at e
   cases q3:(x == d)with
   |true=>rw[q3]at e;cases e;rw[eq_of_beq q3];exact G
   |false=>rw[q3]at e;cases e
end L2
namespace KK
open PySem L2 KM
variable {P:Program}{w:World}{K:Fg}{mg:Str->Option Value}{base:Heap}{C CE aN:Addr}
theorem zhY {lo hi:Option (Int×Int)} (wl:Wb lo) (F:Wb hi) (h:∀l r,lo=some l->hi=some r->l.1<r.1):∀x,Jd lo hi=some x->0<x/\Bd 3000 x:=λx e=>by
 cases lo with
 |none=>cases e
 |some l =>
  cases hi with
  |none=>cases e
  |some r =>
   cases e
   have:=h _ _ rfl rfl
   exact⟨by lia,((show Bd 2 (2:Int) by show (2:Int).natAbs<2^2;decide).mul ((F _ rfl).sub (wl _ rfl))).md⟩
inductive zhP (C:Addr) (vs:List V) (H:Hp) (Q:VK) (_e3:XK):Prop
 |mk:∀c m pb sb tk ws trs lo hi x,(vs=[.ref c,.ref m])->(Xv H C c pb sb tk ws trs lo hi)->(zu H m x)->(Sz2 x tk)->(tk≠0)->(∀r H',zq H H'->zu H' r (x/tk)->Q (.ref r) H')->zhP C vs H Q _e3
theorem zjM:zC ["course","moment"] ["course","moment"] (zi Qe):=scq
theorem zk0 (D:Df K mg "ticks_of" Qe ["course","moment"] []) (I:TCo K C) (S:⇑3 "over" 3 ["one","other"] [] (qQ (λx y=>Sz2 x y/\y≠0) (· / ·))):⇑3 "ticks_of" 4 ["course","moment"] [] (zhP C):=by
 rcases r:D.calq (k:=3) zjM with⟨c,m,pb,sb,tk,ws,trs,lo,hi,x,rfl,G,hm,hz,V,k⟩
 obtain⟨dx,fs,Y,F⟩:=id G
 obtain⟨O,U,W⟩:=F.tick
 exists(zo (zE (zD S hr %[1,xt (pv 0) rfl|0])))
 exact⟨01,c,C,dx,fs,00,Y,I.cls,I.tick,U,m,O,x,tk,rL,hm,W,⟨hz,V⟩,k⟩
structure Pl (H:Hp) (r a:Addr) (bs:List Zv) (b0:Zv) (l1 l2:Wl):Prop where
 row:∃us,H r=some (.tup us)/\xz H us bs
 b0:bs[0]?=some b0
 len:bs.length<=8
 walls:∃v1 v2,H a=some (.tup [v1,v2])/\xx H v1 l1/\xx H v2 l2
def plB (b0:Zv) (bs:List Zv) (l1 l2:Wl):Bool:=evB b0 bs&&(xH l1&&xH l2)
inductive zjY  (vs:List V) (H:Hp) (Q:VK) (_e3:XK):Prop
 |mk:∀r a bs b0 l1 l2,(vs=[.ref r,.ref a])->(Pl H r a bs b0 l1 l2)->(∀H',zq H H'->Q (.bl (plB b0 bs l1 l2)) H')->zjY vs H Q _e3
theorem zfN:zC ["row","walls"] ["row","walls"] (zi XU):=scq
theorem zkW (D:Df K mg "is_plain" XU ["row","walls"] []) (I:⇑3 "is_even" 5 ["row"] [] zjQ) (G:⇑3 "is_still" 5 ["walls"] [] zj3):⇑3 "is_plain" 6 ["row","walls"] [] zjY:=by
 rcases r:D.calq (k:=5) zfN with⟨r,a,bs,O,U,S,rfl,pl,k⟩
 obtain⟨us,F,V⟩:=pl.row
 rcases q:pl.walls with⟨Y,v2,W,h1,h2⟩
 exists(zo (zE (qA (zD I hr %[0|0]) (vQ (zD G hr %[1|0])))))
 refine⟨00,r,us,bs,O,rL,F,V,pl.b0,pl.len,λH1 e1=>⟨00,?_⟩⟩
 cases e:evB O bs with
 |false =>
  refine xi ?_
  have:=k H1 e1
  unfold plB at this;rw[e]at this;exact this
 |true =>
  refine xM ⟨_,rL,a,Y,v2,U,S,rL,e1 _ _ W,h1.same e1,h2.same e1,λH2 e2=>?_⟩
  have:=k H2 (e1.trans e2)
  unfold plB at this;rw[e]at this;exact this
inductive zhO  (vs:List V) (H:Hp) (Q:VK) (_e3:XK):Prop
 |mk:∀r a bs b0 l1 l2,(vs=[.ref r,.ref a])->(Pl H r a bs b0 l1 l2)->(plB b0 bs l1 l2=true)->(∀H',zq H H'->Q .non H')->zhO vs H Q _e3
theorem zln:zC ["row","walls"] ["row","walls"] (zi vA):=scq
theorem zkY (D:Df K mg "refuse_uneven" vA ["row","walls"] []) (F:⇑3 "is_plain" 6 ["row","walls"] [] zjY):⇑3 "refuse_uneven" 7 ["row","walls"] [] zhO:=by
 rcases r:D.calq (k:=6) zln with⟨r,a,bs,S,I,G,rfl,pl,O,k⟩
 exists(zo (xf (ZH (xS (zD F hr %[0,1|0]) λ_=>rfl)) Zs zT))
 refine⟨01,r,a,bs,S,I,G,rL,pl,λH1 e1=>⟨00,?_⟩⟩
 rw[O]
 exact xi (k H1 e1)
inductive zjW  (vs:List V) (H:Hp) (Q:VK) (_e3:XK):Prop
 |mk:∀m k:Int,(vs=[.int m,.int k])->(0<=k)->(k<m)->(Q .non H)->zjW vs H Q _e3
theorem zll:zC ["many","k"] ["many","k"] (zi vg):=scq
theorem zkU (D:Df K mg "refuse_no_ball" vg ["many","k"] []):⇑3 "refuse_no_ball" 1 ["many","k"] [] zjW:=by
 rcases r:D.calq (k:=0) zll with⟨m,k,rfl,F,h1,q⟩
 exists(zo (xf (ZH (zfw zic Zo zh (pv 1) (pv 0))) Zs zT))
 exists 00,022,00
 rw[wm F]
 refine xM ⟨_,rL,_,_,rL,rL,_,rL,?_⟩
 rw[wm h1]
 exact xi q
def tb (b:Bl):Zv:=⟨b.pl,b.sp,b.wt⟩
def Sm (x:Rat):Prop:=Bd 200 x.num/\Bd 20 (x.den:Int)
theorem Sm.sz {x:Rat}(h:Sm x):Sz 400 x:=⟨h.1.md,h.2.md⟩
structure Ln (H:Hp) (r a:Addr) (bs:List Bl) (lo hi:Wl):Prop where
 row:∃us,H r=some (.tup us)/\qt H us bs
 walls:∃v1 v2,H a=some (.tup [v1,v2])/\xx H v1 lo/\xx H v2 hi
 l1:1<=bs.length
 l8:bs.length<=8
theorem Ln.same {H H':Hp}{r a:Addr}{bs:List Bl}{lo hi:Wl}(h:Ln H r a bs lo hi) (e:zq H H'):Ln H' r a bs lo hi:=by
 obtain⟨us,h1,h2⟩:=h.row
 obtain⟨I,v2,F,O,G⟩:=h.walls
 exact⟨⟨us,e _ _ h1,h2.keeps (.of e)⟩,⟨I,v2,e _ _ F,O.same e,G.same e⟩,h.l1,h.l8⟩
structure LnZ (bs:List Bl) (lo hi:Wl):Prop where
 sz:∀t∈ths bs lo hi,Sm t.1/\Sm t.2
 lh:∀l h,lo=some l->hi=some h->l.1<h.1
theorem qt.balls {H:Hp}:∀{us:List V}{bs:List Bl},qt H us bs->xz H us (bs.map tb)
 |[],[],_=>.nil
 |[],_::_,h=>by have:=h.1;simp at this
 |_::_,[],h=>by have:=h.1;simp at this
 |u::us,b::bs,h=>by
  obtain⟨c,e,a,p,q,rfl,h1,h2,F⟩:=h.2 0 u rfl
  simp at e;subst e
  exact .cons (b:=tb b) h1 h2 F (qt.balls ⟨by have:=h.1;simpa using this,λi v e=>by simpa using h.2 (i+1) v ↥e⟩)
theorem xx.wl {H:Hp}{v:V}{l:Wl}(h:xx H v l):Jh H v l:=by
 cases l with
 |none=>exact h
 |some z=>obtain⟨x,y⟩:=z;obtain⟨a,p,q,e1,e2,F,G⟩:=h;exact⟨a,e1,p,q,[],e2,F,G⟩
theorem Ln.pl {H:Hp}{r a:Addr}{bs:List Bl}{lo hi:Wl}(h:Ln H r a bs lo hi):∃F,bs[0]?=some F/\Pl H r a (bs.map tb) (tb F) lo hi:=by
 obtain⟨us,h1,h2⟩:=h.row
 have G:=h.l1
 refine⟨bs[0],wH G,⟨us,h1,h2.balls⟩,by rw[wo,wH G];rfl,by rw[wc];exact h.l8,h.walls⟩
theorem zgW {qs:List Rat}(h:∀q∈qs,Bd 20 (q.den:Int)) (U:qs.length<=20):0<Vk qs/\Bd 401 (Vk qs)/\∀q∈qs,(q.den:Int) ∣ Vk qs:=by
 obtain⟨I,O,_,S⟩:=VR (n:=20) (ks:=qs.map λq=>(q.den:Int)) (c:=1) (m:=1) ⇑1 (show (1:Int).natAbs<2^1 by decide) (λk G=>by
  obtain⟨q,F,rfl⟩:=wj.mp G
  exact⟨by have:=q.den_pos;lia,h q F⟩)
 exact⟨I,O.mono (by rw[wc];lia),λq F=>S _ (wj.mpr ⟨q,F,rfl⟩)⟩
theorem JZ {x:Rat}{b:Int}(F:Bd 200 x.num) (G:0<b) (h:Bd 401 b):Bd 2000 (byB x b):=by
 have I:0<(x.den:Int):=by have:=x.den_pos;lia
 unfold byB
 have z:Bd 401 (b.fdiv (x.den:Int)):=by
  rw[wD _ ∅]
  exact h.of_le (by have:=W9 (x.den:Int) (a:=b) ∅;have:=WP (a:=b) (b:=(x.den:Int)) ∅ ∅;lia)
 exact(F.mul z).md
theorem VH {x y:Rat}{b:Int}(V:0<b) (S:(x.den:Int) ∣ b) (I:(y.den:Int) ∣ b) (h:x<y):byB x b<byB y b:=by
 have W:=den_pos x
 have U:=den_pos y
 obtain⟨k,F⟩:=S
 obtain⟨m,G⟩:=I
 have f1:b.fdiv (x.den:Int)=k:=by rw[wD _ ∅,F];exact yf _ ∅
 have f2:b.fdiv (y.den:Int)=m:=by rw[wD _ ∅,G];exact yf _ ∅
 have k0:0<k:=by
  rcases yA 0 k with h | h
  ·exact h
  ·have:=ur (a:=(x.den:Int)) (b:=k) ∅ h;lia
 have O:0<m:=by
  rcases yA 0 m with h | h
  ·exact h
  ·have:=ur (a:=(y.den:Int)) (b:=m) ∅ h;lia
 unfold byB
 rw[f1,f2]
 have h':=(vv x y).mpr h
 have h2:=yR h' (wP k0 O)
 refine Int.lt_of_mul_lt_mul_right (a:=b) ?_ ∅
 have e1:x.num*k*b=x.num*(y.den:Int)*(k*m):=by rw[G];simp only[WQ,yX,YF]
 have e2:y.num*m*b=y.num*(x.den:Int)*(k*m):=by rw[F];simp only[WQ,yX,YF]
 rw[e1,e2];exact h2
structure LnB (bs:List Bl) (lo hi:Wl) (p s:Int):Prop where
 pb:0<p/\Bd 401 p
 sb:0<s/\Bd 401 s
 tr:∀b∈bs,Bd 2000 (trB p s (b.pl,b.sp)).1/\Bd 2000 (trB p s (b.pl,b.sp)).2
 bl:Wb (lo.map (trB p s))
 bh:Wb (hi.map (trB p s))
 lh:∀l h,lo.map (trB p s)=some l->hi.map (trB p s)=some h->l.1<h.1
 t0:Rat.divInt s p≠0
 tz:Sz 401 (Rat.divInt s p)
theorem vi {bs:List Bl}{lo hi:Wl}{t:Rat×Rat}(e:lo=some t):t∈ths bs lo hi:=by unfold ths;rw[e];simp[QR]
theorem vW {bs:List Bl}{lo hi:Wl}{t:Rat×Rat}(e:hi=some t):t∈ths bs lo hi:=by unfold ths;rw[e];simp[QR]
theorem XD {bs:List Bl}{lo hi:Wl}{b:Bl}(m:b∈bs):(b.pl,b.sp)∈ths bs lo hi:=by
 unfold ths;exact Wz _ (wj.mpr ⟨b,m,rfl⟩)
theorem LnZ.bd {bs:List Bl}{lo hi:Wl}(h:LnZ bs lo hi) (Y:bs.length<=8):LnB bs lo hi (pbO bs lo hi) (sbO bs lo hi):=by
 have V:=Za (lo:=lo) (hi:=hi) Y
 obtain⟨F,O,W⟩:=zgW (qs:=(ths bs lo hi).map (·.1)) (λq m=>by obtain⟨t,G,rfl⟩:=wj.mp m;exact(h.sz t G).1.2) (by rw[wc];exact V)
 obtain⟨U,S,s3⟩:=zgW (qs:=(ths bs lo hi).map (·.2)) (λq m=>by obtain⟨t,G,rfl⟩:=wj.mp m;exact(h.sz t G).2.2) (by rw[wc];exact V)
 have I:∀t∈ths bs lo hi,Bd 2000 (trB (pbO bs lo hi) (sbO bs lo hi) t).1/\Bd 2000 (trB (pbO bs lo hi) (sbO bs lo hi) t).2:=λt m=>⟨JZ (h.sz t m).1.1 F O,JZ (h.sz t m).2.1 U S⟩
 refine⟨⟨F,O⟩,⟨U,S⟩,λb m=>I _ (XD m),λt e=>?_,λt e=>?_,λl r e1 e2=>?_,?_,.divInt (by show pbO bs lo hi≠0;unfold pbO;lia) S O⟩
 ·cases lo with
  |none=>cases e
  |some z=>cases e;exact(I z (vi rfl)).1
 ·cases hi with
  |none=>cases e
  |some z=>cases e;exact(I z (vW rfl)).1
 ·cases lo with
  |none=>cases e1
  |some z =>
   cases hi with
   |none=>cases e2
   |some y =>
    cases e1;cases e2
    exact VH F (W _ (wj.mpr ⟨z,vi rL,rL⟩)) (W _ (wj.mpr ⟨y,vW rL,rL⟩)) (h.lh _ _ rL rL)
 ·intro z
  have h1:0<sbO bs lo hi:=U
  have h2:0<pbO bs lo hi:=F
  rw[show (0:Rat)=Rat.divInt 0 1 by rfl,uh ∅ ⇑1]at z
  lia
def Z4 (bs:List Bl) (lo hi:Wl) (x:Rat):List (Int×Int) :=
 let p:=pbO bs lo hi;let s:=sbO bs lo hi;let k:=x/Rat.divInt s p
 bs.map λb=>vE (wsc (lo.map (trB p s)) k.den) (wsc (hi.map (trB p s)) k.den) ((trB p s (b.pl,b.sp)).1*k.den+(trB p s (b.pl,b.sp)).2*k.num) (trB p s (b.pl,b.sp)).2
def prL (z:Int×Int):List Int:=[z.1,z.2]
theorem zby {H:Hp}:∀{ys:List V}{ks:List (List Int)},ys.length=ks.length->(∀(i:Nat) (v:V),ys[i]?=some v->∃q k,v=.ref q/\ks[i]?=some k/\H q=some (.tup (k.map V.int))/\k≠[])->qG H ys ks
 |[],[],_,_=>.nil
 |[],_::_,h,_=>by simp at h
 |_::_,[],h,_=>by simp at h
 |y::ys,k::ks,h,f=>by
  obtain⟨q,G,rfl,e,e2,F⟩:=f 0 y rfl
  simp at e;subst e
  exact .cons e2 F (zby ↥h λi v e=>by simpa using f (i+1) v ↥e)
theorem zgo {H:Hp}{ys:List V}{ks:List (List Int)} (t:qG H ys ks):∀{i:Nat}{v:V},ys[i]?=some v->∃q k,v=.ref q/\ks[i]?=some k/\H q=some (.tup (k.map V.int)):=by
 induction t with
 |nil=>intro i v e;simp at e
 |@cons a k xs ks e ne t ih =>
  intro i v h
  cases i with
  |zero=>simp at h;subst h;exact⟨a,k,rfl,rfl,e⟩
  |succ i=>simpa using ih ↥h
theorem unpr {l:List (Int×Int)}{js:List (List Int)} (h:js.Perm (l.map prL)):∃ks:List (Int×Int),js=ks.map prL/\ks.Perm l:=by
 exists js.map λy=>(y.getD 0 0,y.getD 1 0),?_
 ·rw[wG]
  conv=>lhs;rw[<-Uc js]
  refine wy λy m=>?_
  obtain⟨u,_,rfl⟩:=wj.mp (h.mem_iff.mp m)
  rfl
 ·have e:=h.map λy:List Int=>(y.getD 0 0,y.getD 1 0)
  rw[wG]at e
  have:(l.map ((λy:List Int=>(y.getD 0 0,y.getD 1 0)) ∘ prL))=l:=by
   conv=>rhs;rw[<-Uc l]
   exact wy λu _=>rL
  rw[this]at e
  exact e
inductive zfU  (vs:List V) (H:Hp) (Q:VK) (_e3:XK):Prop
 |mk:∀r a m bs b0 lo hi x,(vs=[.ref r,.ref a,.ref m])->(Ln H r a bs lo hi)->(LnZ bs lo hi)->(bs[0]?=some b0)->(plB (tb b0) (bs.map tb) lo hi=true)->(zu H m x)->(Sz 200 x)->(∀z H',zq H H'->(∃(ys:List V) (js:List (Int×Int)),H' z=some (.tup ys)/\js.Perm (Z4 bs lo hi x)/\(js.Pairwise λu v=>xZ (prL v) (prL u)=false)/\qt H' ys (js.map λu=>⟨Rat.divInt u.1 (pbO bs lo hi*(x/Rat.divInt (sbO bs lo hi) (pbO bs lo hi)).den),Rat.divInt u.2 (sbO bs lo hi),b0.wt⟩))->Q (.ref z) H')->zfU vs H Q _e3
theorem zbj:zC ["row","walls","t","course","ticks","bottom","lines"] ["row","walls","t"] (zi QW):=scq
theorem zkI {fi:Addr}{b7:FuncData}(D:Df K mg "at_once" QW ["row","walls","t"] []) (T:TxB K mg) (T3:Tx3 K mg aN) (TC:TCo K C) (M:Mk K C fi) (Fi:Zw P w K mg base CX0 4 fi b7 ["self","row","walls"] (zfV C)) (d6:mg "Course" = some (.ref C)) (Bi:v6 K b7 ["self","row","walls"] [])
  (d1:⇑3 "refuse_uneven" 7 ["row","walls"] [] zhO) (c6:⇑3 "ticks_of" 4 ["course","moment"] [] (zhP C)) (d5:⇑3 "line_at" 1 ["course","track","ticks"] [] (zbn C)) (cR:⇑3 "ratio" 2 ["top","bottom"] [] vw) :
  ⇑3 "at_once" 8 ["row","walls","t"] [] zfU:=by
 refine D.calq (k:=7) zbj (λf cdv A outer s H vs Q E I h=>?_)
 rcases q:h with⟨r,a,m,bs,b0,lo,hi,x,rfl,ln,lz,h0,hp,hm,zx,k⟩
 have c8:xc 5 _:=I.md
 have e3:xc 4 _:=I.md
 have e4:xc 1 _:=I.md
 have a9:xc 2 _:=I.md
 obtain⟨a1,O,pl⟩:=ln.pl
 rw[h0]at O;cases O
 exists(ze (qi (zD d1 I %[0,1|0]))
  (ze (ZF (i:=3) zbj.nd rfl (Or.inr rfl) (zao M Fi c8 ⇑2 d6 Bi .nil zcT %[0,1|0]))
  (ze (ZF (i:=4) zbj.nd rfl (Or.inr rfl) (zD c6 e3 %[3,2|0]))
  (ze (ZF (i:=5) zbj.nd rfl (Or.inr rfl) (zy zK (xt (pv 3) rfl) (pxt (pv 4))))
  (ze (psl (i:=6) zbj.nd (zO zbJ ⇑2 T3.nSorted Wc %[(qj (NB:=["track"]) (FR:=["course","ticks"]) (js:=[3,4]) rfl rfl (λx c h=>XG rfl rfl x c h) (.cons rfl rfl rfl ⟨_,rfl⟩ (.cons rfl rfl rfl ⟨_,rfl⟩ .nil)) rfl ⇑0 rfl ⇑0 (xg (xt (pv 3) rfl)) (by intro _ _ _;refine⟨?_,?_,?_⟩;(exact(pgl (i:=0) (show List.Nodup (["track","course","ticks"]:List Str) by decide +kernel)));(exact xE);(exact(zD d5 e4 %[1,0,2|0]))))|0]))
  (zo (zE (Zp XA ⇑2 T.nTuple Wh %[(qj (NB:=["spot","speed"]) (FR:=["bottom","course","row"]) (js:=[5,3,0]) rfl rfl (λx c h=>zen rfl rfl rfl x c h) (.cons rfl rfl rfl ⟨_,rfl⟩ (.cons rfl rfl rfl ⟨_,rfl⟩ (.cons rfl rfl rfl ⟨_,rfl⟩ .nil))) rfl ⇑0 rfl ⇑0 (xg (pv 6)) (by intro _ _ _;refine⟨?_,?_,?_⟩;(exact(Xq (K:=K) (n:=2) rfl rfl (zP (pgl (i:=0) (show List.Nodup (["spot","speed","bottom","course","row"]:List Str) by decide +kernel)) (zP (pgl (i:=1) (show List.Nodup (["spot","speed","bottom","course","row"]:List Str) by decide +kernel)) xO))));(exact xE);(exact(zX %[(zD cR a9 %[0,2|0]),(zD cR a9 %[1,zcU (K:=K) rfl (pv 3) rfl|0]),qa (vm (K:=K) rfl) (qa (vm (K:=K) rfl) (pv 4) zh (λ_ _=>rfl)) zh (λ_ _=>rfl)|0]))))|0]))))))))
 refine⟨01,r,a,_,_,lo,hi,rL,pl,hp,λH1 e1=>?_⟩
 nofun
 have ln1:=ln.same e1
 obtain⟨us,b2,hB⟩:=ln1.row
 rcases q:ln1.walls with⟨v1,v2,ha,h1,h2⟩
 refine⟨01,λc dx hc c9 ne=>?_⟩
 have S0:zq H1 (upd (upd H1 dx (.own c)) c (.ins C dx [])):=(zq.upd c9).trans (zq.upd (by rw[zV ne.symm];exact hc))
 refine⟨c,dx,r,a,us,bs,v1,v2,lo,hi,rL,zj,S0 _ _ b2,hB.keeps (.of S0),S0 _ _ ha,h1.wl.keeps (.of S0),h2.wl.keeps (.of S0),ln.l8,λt mt=>⟨(lz.sz t mt).1.sz,(lz.sz t mt).2.sz⟩,λH2 X1 e0=>⟨rL,?_⟩⟩
 have b6:=e0.co
 have S2:zq H H2:=e1.trans λb o e=>X1 b o (zZ e hc) (S0 b o e)
 dsimp only[zG]
 have Z:=lz.bd ln.l8
 generalize hpb:pbO bs lo hi=pb at *
 generalize hsb:sbO bs lo hi=sb at *
 refine⟨01,c,m,pb,sb,_,_,_,_,_,x,rL,b6,S2 _ _ hm,⟨zx.md,Z.tz.md⟩,Z.t0,λtr H3 s3 a5=>?_⟩
 dsimp only[zG]
 have zk:Sz 601 (x/Rat.divInt sb pb):=by rw[<-zcS];exact .divInt (u9 (qI x) (λz=>Z.t0 (Rat.num_eq_zero.mp z))) ((zx.1.mul Z.tz.2).md) ((zx.2.mul Z.tz.1).md)
 have S3:zq H H3:=S2.trans s3
 have V:Z4 bs lo hi x=bs.map λb=>vE (wsc (lo.map (trB pb sb)) (x/Rat.divInt sb pb).den) (wsc (hi.map (trB pb sb)) (x/Rat.divInt sb pb).den) ((trB pb sb (b.pl,b.sp)).1*(x/Rat.divInt sb pb).den+(trB pb sb (b.pl,b.sp)).2*(x/Rat.divInt sb pb).num) (trB pb sb (b.pl,b.sp)).2:=by
  unfold Z4;rw[hpb,hsb]
 generalize hkk:x/Rat.divInt sb pb=kk at *
 have kd:=den_pos kk
 have U:=b6.same s3
 obtain⟨b3,fs,b8,F⟩:=id U
 rcases q:F.tracks with⟨L,tv,et,hL,hT⟩
 exists 00,c,C,b3,fs,00,b8,TC.cls,TC.pb,F.pb,00,tr,032,.of a5,at1 ..,022,⟨Z.pb.2.md,zk.2.md⟩
 dsimp only[zG]
 unfold zbt zcj tCB qc
 refine⟨00,c,C,b3,fs,00,b8,TC.cls,TC.tracks,et,L,rL,⟨_,SqL.of hL⟩,λDc d3=>?_⟩
 have d2:=hT.1
 rw[wc]at d2
 have l8:=ln.l8
 refine xI (js:=[3,4]) (J:=Itl K L) (g:=zG 0) (te:=ZQ (zbn C) [] E0 (qc (xy 1) (qc (xy 0) (qc (xy 2) Zu)))) (n:=1) (xs:=tv) (λi v G=>∃u q,(Z4 bs lo hi x)[i]?=some u/\v=.ref q/\G q=some (.tup [.int u.1,.int u.2])) (λi v G G' e ⟨u,q,W,q2,q3⟩=>⟨u,q,W,q2,e _ _ q3⟩) d3 (xq hL) (xT ∅) ?_ ?_
 ·intro i y zs G Q' hy hz S hQ
  rcases q:hT.2 i y hy with⟨t,e,p,rfl,c2⟩
  obtain⟨z1,rfl⟩:=XL hz
  rw[wo]at e
  cases hb:bs[i]? with
  |none=>rw[hb]at e;cases e
  |some b =>
   rw[hb]at e;cases e
   have bt:=Z.tr b (wU hb)
   dsimp only[zG]
   refine⟨rL,02,c,p,tr,pb,sb,_,_,_,_,_,(trB pb sb (b.pl,b.sp)).1,(trB pb sb (b.pl,b.sp)).2,kk.num,(kk.den:Int),rL,U.same S,S _ _ c2,S _ _ a5,bt.1,bt.2,zk.1.md,zk.2.md,kd,Z.bl,Z.bh,Z.lh,λq G2 s2 hq=>hQ _ _ s2 ⟨_,q,?_,rL,hq⟩⟩
   rw[V,wo,hb];rfl
 intro ys G S e6 f8 hR
 have a6:(Z4 bs lo hi x).length=bs.length:=by rw[V,wc]
 have tups:qG G ys ((Z4 bs lo hi x).map prL):=zby (by rw[wc,a6];lia) λi v e=>by
  rcases q:hR i v e with⟨u,q,W,q2,q3⟩
  exact⟨q,prL u,q2,by rw[wo,W];rfl,q3,by simp[prL]⟩
 refine⟨Dc,ys,00,SqL.of e6,tups,by lia,λDl zs d7 c3=>?_⟩
 obtain⟨e9,c4,a4,c5⟩:=c3.tups tups
 have SL:zq G (upd G Dl (.lst zs)):=zq.upd d7
 have a3:upd G Dl (.lst zs) Dl=some (.lst zs):=zj
 have Y:=c4.same SL
 have S4:zq H3 (upd G Dl (.lst zs)):=S.trans SL
 generalize upd G Dl (.lst zs)=G4 at SL a3 Y S4
 obtain⟨js,rfl,b9⟩:=unpr a4
 dsimp only[zG]
 have e8:zs.length=js.length:=by have:=Y.len;simpa using this
 have f0:js.length=bs.length:=by rw[b9.length_eq,a6]
 refine⟨00,Dl,rL,⟨_,SqL.of a3⟩,λDd e5=>?_⟩
 have b4:zq H1 G4:=λb o e=>S4 b o (s3 b o (X1 b o (zZ e hc) (S0 b o e)))
 have c0:=b4 _ _ b2
 have d4:=hB.keeps (.of b4)
 have l1:=ln.l1
 have f5:=hB.1
 obtain⟨u0,b1⟩:∃u,us[0]?=some u:=⟨_,wH ∅⟩
 rcases q:d4.2 0 u0 b1 with⟨a1,O,a0,p0,q0,rfl,c7,_,_⟩
 rw[h0]at O;cases O
 have a8:=U.same S4
 obtain⟨e7,d9,c1,F4⟩:=id a8
 have bb:Bd 8900 (pb*(kk.den:Int)):=(Z.pb.2.mul zk.2).md
 have a1:pb*(kk.den:Int)≠0:=yt (wP Z.pb.1 kd)
 refine xI (js:=[5,3,0]) (J:=Itl K Dl) (g:=zaT K 2 (Zm (zG 0) (Zm (zG 1) zbR))) (te:=_) (n:=2) (xs:=zs) (λi v G=>∃u,js[i]?=some u/\XE G v ⟨Rat.divInt u.1 (pb*kk.den),Rat.divInt u.2 sb,b0.wt⟩) (λi v G G' e ⟨u,W,q2⟩=>⟨u,W,q2.keeps e⟩) e5 (xq a3) (xT ∅) ?_ ?_
 ·intro i y f6 G5 Q' hy hz S5 hQ
  rcases q:zgo Y hy with⟨q,kq,rfl,ek,hq⟩
  rw[wo]at ek
  obtain⟨w1,w2,rfl⟩:=zdE hz
  cases hu:js[i]? with
  |none=>rw[hu]at ek;cases ek
  |some u =>
   rw[hu]at ek;cases ek
   refine⟨q,00,.of (S5 _ _ hq),rL,021,022,⟨rL,?_⟩⟩
   refine⟨01,u.1,00,a1,bb,λp1 G6 s6 d8=>?_⟩
   refine⟨01,c,C,e7,d9,00,s6 _ _ (S5 _ _ c1),TC.cls,TC.sb,F4.sb,u.2,sb,rL,yt Z.sb.1,Z.sb.2.md,λp2 G7 s7 e2=>?_⟩
   have a7:=S5.trans (s6.trans s7)
   refine⟨00,r,032,.of (a7 _ _ c0),Qk (j:=0) b1,a0,032,.of (a7 _ _ c7),rL,zL3,λq3 a2=>hQ _ _ (s6.trans (s7.trans (zq.upd a2))) ⟨u,hu,q3,p1,p2,rL,zj,zq.upd a2 _ _ (s7 _ _ d8),zq.upd a2 _ _ e2⟩⟩
 intro ws G6 S6 b5 f7 d0
 refine⟨Dd,ws,rL,.inl ⟨.of b5,λz hz=>?_⟩⟩
 refine k z _ (λb o e=>zq.upd hz b o (S6 b o (S4 b o (S3 b o e)))) ⟨ws,js,zj,b9,?_,?_⟩
 ·exact ug.mp c5
 ·refine⟨by rw[wc];lia,λi v e=>?_⟩
  obtain⟨u,W,q2⟩:=d0 i v e
  exact⟨_,by rw[wo,W];rfl,q2.keeps (.of (zq.upd hz))⟩
end KK
namespace L2
open PySem
def VL {a:Str}{m:Addr}{F:List (Str×Addr)} (h1:F.lookup a=some m) (x:Str) (c:Addr) (e:List.lookup x [(a,m)]=some c):F.lookup x=some c:=by
 simp only[List.lookup]at e
 cases q1:(x == a)with
 |true=>rw[q1]at e;cases e;rw[eq_of_beq q1];exact h1
 |false=>rw[q1]at e;cases e
def JM {X:Cx}{K:Fg}{a:Expr}{ta:TE}(F:X.K=K) (G:PE X a ta) (I:∀whole,isTrue a X.env whole=(do let v <-whole;standAt a.pos;holding [v] (truthy v))):PT X a (λσ H Q=>ta σ H λx H'=>∃k,zef K x H' k/\Q k H'):=by
 subst F;exact xS G I
end L2
namespace KK
open PySem L2 KM
variable {P:Program}{w:World}{K:Fg}{mg:Str->Option Value}{base:Heap}{C CE aN:Addr}
def ZV (H:Hp) (us:List V) (ps:List (Int×Int)):Prop:=us.length=ps.length/\∀(i:Nat) (v:V),us[i]?=some v->∃u a,ps[i]?=some u/\v=.ref a/\H a=some (.tup [.int u.1,.int u.2])
theorem ZV.tups {H H':Hp}{us:List V}{ps:List (Int×Int)} (h:ZV H us ps) (t:xA H H'):ZV H' us ps :=
 ⟨h.1,λi v e=>by obtain⟨u,a,e1,e2,F⟩:=h.2 i v e;exact⟨u,a,e1,e2,t _ _ F⟩⟩
theorem xx.tupsW {H H':Hp}{v:V}{l:Wl}(h:xx H v l) (e:xA H H'):xx H' v l:=by
 cases l with
 |none=>exact h
 |some z=>obtain⟨x,y⟩:=z;obtain⟨a,p,q,e1,e2,F,G⟩:=h;exact⟨a,p,q,e1,e _ _ e2,e _ _ F,e _ _ G⟩
abbrev Ent:Type:=Int×Addr×List Int
def Zy (ps:List (Int×List Int)) (k w:Int):List (Int×List Int):=if(ps.any λp=>decide (p.1=k))=true then ps.map (λp=>if p.1=k then(p.1,p.2++[w])else p)else ps++[(k,[w])]
def Zd (l0 T:Int) (ps:List (Int×List Int)) (t:Int×Int):List (Int×List Int):=if 0<t.2 then Zy ps t.2 (t.1-l0)else if t.2<0 then Zy ps (-t.2) (T-(t.1-l0))else ps
def phO (l0 T:Int) (trs:List (Int×Int)):List (Int×List Int):=trs.foldl (Zd l0 T) []
def Xz (es:List Ent):List (Int×List Int):=es.map λe=>(e.1,e.2.2)
def Xx (es:List Ent):List (Key×V):=es.map λe=>(Sum.inl e.1,V.ref e.2.1)
structure PhA (H G:Hp) (a:Addr) (es:List Ent):Prop where
 d:G a=some (.dK (Xx es))
 l:∀e∈es,G e.2.1=some (.lst (e.2.2.map V.int))
 n:(es.map (·.2.1)).Nodup
 f:∀e∈es,H e.2.1=none
 fa:H a=none
 k:(es.map (·.1)).Nodup
theorem PhA.same {H G F:Hp}{a:Addr}{es:List Ent}(h:PhA H G a es) (e:zq G F):PhA H F a es:=⟨e _ _ h.d,λx m=>e _ _ (h.l x m),h.n,h.f,h.fa,h.k⟩
theorem Je (k:Int):∀es:List Ent,ZT (Xx es) (Sum.inl k)=(es.find? λe=>decide (e.1=k)).map λe=>V.ref e.2.1
 |[]=>rfl
 |e::es=>by
  show ZT ((Sum.inl e.1,V.ref e.2.1)::Xx es) (Sum.inl k)=_
  rw[uN]
  by_cases c:e.1=k
  ·rw[QG (by rw[c]),wm c];rfl
  ·rw[QF (λz=>c (Sum.inl.inj z)),wx c];exact Je k es
theorem zek (k:Int) (es:List Ent):(Xz es).any (λp=>decide (p.1=k))=(es.find? λe=>decide (e.1=k)).isSome:=by
 unfold Xz
 induction es with
 |nil=>rfl
 |cons e es ih =>
  rw[yn,Yc,uN]
  by_cases c:e.1=k
  ·simp[c]
  ·simp only[wx c,YL];exact ih
def Ji (es:List Ent) (k w:Int):List Ent:=es.map λe=>if e.1=k then(e.1,e.2.1,e.2.2++[w])else e
theorem zft {es:List Ent}{k w:Int}{e:Ent}(h:(es.find? λe=>decide (e.1=k))=some e):Xz (Ji es k w)=Zy (Xz es) k w:=by
 unfold Zy
 rw[zek,h,if_pos (show (some e).isSome=true from rfl)]
 unfold Xz Ji
 rw[wG,wG]
 refine wy λx _=>?_
 show _=if x.1=k then(x.1,x.2.2++[w])else(x.1,x.2.2)
 show ((if x.1=k then(x.1,x.2.1,x.2.2++[w])else x).1,(if x.1=k then(x.1,x.2.1,x.2.2++[w])else x).2.2)=_
 split <;> rfl
theorem zfs {es:List Ent}{k w:Int}{l:Addr}(h:(es.find? λe=>decide (e.1=k))=none):Xz (es++[(k,l,[w])])=Zy (Xz es) k w:=by
 unfold Zy
 rw[zek,h,if_neg ⇑1]
 unfold Xz
 rw[yx];rfl
theorem zbO {es:List Ent}{k:Int}{l:Addr}(w:Int) (h:(es.find? λe=>decide (e.1=k))=none):zbc (Xx es) (Sum.inl k) (V.ref l)=Xx (es++[(k,l,[w])]):=by
 unfold zbc
 rw[zbA,Je,h]
 rw[if_neg ⇑1]
 unfold Xx
 rw[yx];rfl
theorem PhA.put {H G:Hp}{a:Addr}{es:List Ent}{k w:Int}{e:Ent}(h:PhA H G a es) (hf:(es.find? λe=>decide (e.1=k))=some e):PhA H (upd G e.2.1 (.lst (e.2.2.map V.int++[.int w]))) a (Ji es k w):=by
 have Y:e∈es:=ue hf
 have ke:e.1=k:=ww (YY (p:=λe:Ent=>decide (e.1=k)) hf)
 have S:=h.l e Y
 have na:a≠e.2.1:=λz=>by rw[<-z,h.d]at S;cases S
 have e1:(Ji es k w).map (·.1)=es.map (·.1):=by unfold Ji;rw[wG];refine wy λx _=>?_;show (if x.1=k then _ else x).1=x.1;split <;> rfl
 have e2:(Ji es k w).map (·.2.1)=es.map (·.2.1):=by unfold Ji;rw[wG];refine wy λx _=>?_;show (if x.1=k then _ else x).2.1=x.2.1;split <;> rfl
 have e3:Xx (Ji es k w)=Xx es:=by unfold Xx Ji;rw[wG];refine wy λx _=>?_;show (Sum.inl (if x.1=k then _ else x).1,V.ref (if x.1=k then _ else x).2.1)=_;split <;> rfl
 refine⟨by rw[e3,zV na];exact h.d,λx m=>?_,by rw[e2];exact h.n,λx m=>?_,h.fa,by rw[e1];exact h.k⟩
 ·obtain⟨y,F,rfl⟩:=wj.mp m
  by_cases c:y.1=k
  ·have U:y=e:=by
    have hk:=h.k
    by_cases q:y=e
    ·exact q
    ·exfalso
     have:=(ug.mp hk)
     exact nodup_ne hk F Y q (c.trans ke.symm)
   subst U
   rw[if_pos c]
   show upd G y.2.1 _ y.2.1=_
   rw[zj,yx];rfl
  ·rw[if_neg c]
   have O:y.2.1≠e.2.1:=λz=>by
    have:y≠e:=λq=>c (by rw[q];exact ke)
    exact nodup_ne (f:=λe:Ent=>e.2.1) h.n F Y this z
   rw[zV O];exact h.l y F
 ·obtain⟨y,F,rfl⟩:=wj.mp m
  have:=h.f y F
  split
  ·exact this
  ·exact this
where
 nodup_ne {α β:Type}{f:α->β}:∀{l:List α}{x y:α},(l.map f).Nodup->x∈l->y∈l->x≠y->f x≠f y
 |[],_,_,_,h,_,_=>by cases h
 |a::l,x,y,O,mx,F,ne=>by
  rw[yn,uE]at O
  rcases wu.mp mx with ex | W
  ·rcases wu.mp F with U | I
   ·exact absurd (ex.trans U.symm) ne
   ·exact λe=>O.1 (by rw[<-ex,e];exact wj.mpr ⟨y,I,rfl⟩)
  ·rcases wu.mp F with U | I
   ·exact λe=>O.1 (by rw[<-U,<-e];exact wj.mpr ⟨x,W,rfl⟩)
   ·exact nodup_ne O.2 W I ne
theorem PhA.new {H G:Hp}{a l:Addr}{es:List Ent}{k w:Int}(h:PhA H G a es) (W:∀b o,H b=some o->G b=some o) (F:G l=none) (U:(es.find? λe=>decide (e.1=k))=none) :
  PhA H (upd (upd (upd G l (.lst [])) a (.dK (Xx (es++[(k,l,[w])])))) l (.lst [.int w])) a (es++[(k,l,[w])]):=by
 have na:a≠l:=λz=>by rw[<-z,h.d]at F;cases F
 have V:H l=none:=by
  cases q:H l with
  |none=>rfl
  |some o=>rw[W _ _ q]at F;cases F
 have ne:∀e∈es,e.2.1≠l:=λe m z=>by have:=h.l e m;rw[z,F]at this;cases this
 have S:∀e∈es,e.2.1≠a:=λe m z=>by have:=h.l e m;rw[z,h.d]at this;cases this
 exists by rw[zV na];exact zj,λx m=>?_,?_,λx m=>?_,h.fa
 ·rcases ya.mp m with m | m
  ·rw[zV (ne x m),zV (S x m),zV (ne x m)];exact h.l x m
  ·cases w5.mp m;exact zj
 ·rw[yx]
  refine YG.mpr ⟨h.n,by simp,λb O c I=>?_⟩
  obtain⟨e,m,rfl⟩:=wj.mp O
  simp at I;subst I
  exact ne e m
 ·rcases ya.mp m with m | m
  ·exact h.f x m
  ·cases w5.mp m;exact V
 ·rw[yx]
  refine YG.mpr ⟨h.k,by simp,λb O c I=>?_⟩
  obtain⟨e,m,rfl⟩:=wj.mp O
  simp at I;subst I
  intro z
  have:=WR.mp U e m
  exact this (wm z)
inductive zjX (C:Addr) (vs:List V) (H:Hp) (Q:VK) (_e3:XK):Prop
 |mk:∀c pb sb tk ws trs lo hi,(vs=[.ref c])->(Xv H C c pb sb tk ws trs (some lo) (some hi))->(Wb (some lo))->(Wb (some hi))->(trs.length<=8)->(∀a es H',zq H H'->PhA H H' a es->Xz es=phO lo.1 (2*(hi.1-lo.1)) trs->Q (.ref a) H')->zjX C vs H Q _e3
theorem Vc:zC ["course","trip","phases","start","speed","way"] ["course"] (zi Xd):=scq
theorem zbQ (es:List Ent):(Xx es).length=es.length:=wc ..
theorem zfr {H G:Hp}{a l0:Addr}{es:List Ent}{k w:Int}{i:Nat}{R:VK}(h:PhA H G a es) (hS:zq H G) (hi:i<=1000) (hl:es.length<=i) (V:∀e∈es,e.2.2.length<=i) (I:G l0=none)
  (q:∀l xs Y O,Y l=some (.lst xs)->xs.length<sizeLine->PhA H (upd Y l (.lst (xs++[.int w]))) a O->zq H (upd Y l (.lst (xs++[.int w])))->Xz O=Zy (Xz es) k w->O.length<=i+1->(∀e∈O,e.2.2.length<=i+1)->R (.ref l) Y) :
  zcZ (.ref a) [.int k,.ref l0] (upd G l0 (.lst [])) R:=by
 have na:a≠l0:=λz=>by have:=h.d;rw[z,I]at this;cases this
 have S1:zq G (upd G l0 (.lst [])):=zq.upd I
 have sz:(1000:Nat)<sizeLine:=by decide
 refine⟨a,Xx es,Sum.inl k,.ref l0,rfl,rfl,S1 _ _ h.d,by rw[zbQ];lia,λv S=>?_,λS=>?_⟩
 ·rw[Je]at S
  cases F:es.find? λe=>decide (e.1=k)with
  |none=>rw[F]at S;cases S
  |some e =>
   rw[F]at S;cases S
   have me:e∈es:=ue F
   have h1:=h.same S1
   have a1:=h1.l e me
   have a2:=V e me
   refine q _ _ _ _ a1 (by rw[wc];lia) (h1.put F) (λb o U=>?_) (zft F) (by unfold Ji;rw[wc];lia) λx m=>?_
   ·have:b≠e.2.1:=λz=>by rw[z,h.f e me]at U;cases U
    rw[zV this];exact S1 _ _ (hS _ _ U)
   ·obtain⟨y,my,rfl⟩:=wj.mp m
    have:=V y my
    split
    ·show (y.2.2++[w]).length<=_;simp;lia
    ·lia
 ·rw[Je]at S
  have F:(es.find? λe=>decide (e.1=k))=none:=by
   cases F:es.find? λe=>decide (e.1=k)with
   |none=>rfl
   |some e=>rw[F]at S;cases S
  rw[zbO w F]
  have W:upd (upd G l0 (.lst [])) a (.dK (Xx (es++[(k,l0,[w])]))) l0=some (.lst []):=by rw[zV na.symm];exact zj
  refine q _ _ _ _ W (by show 0<sizeLine;lia) (h.new hS I F) (λb o U=>?_) (zfs F) (by simp;lia) λx m=>?_
  ·have n1:b≠l0:=λz=>by rw[<-z,hS _ _ U]at I;cases I
   have n2:b≠a:=λz=>by rw[z,h.fa]at U;cases U
   show upd (upd (upd G l0 (.lst [])) a _) l0 _ b=some o
   rw[zV n1,zV n2,zV n1];exact hS _ _ U
  ·rcases ya.mp m with m | m
   ·have:=V x m;lia
   ·cases w5.mp m;simp
theorem zkV (D:Df K mg "phases_of" Xd ["course"] []) (TC:TCo K C) (b1:⇑3 "trip_of" 1 ["course"] [] (Vd C)):⇑3 "phases_of" 2 ["course"] [] (zjX C):=by
 rcases r:D.calq (k:=1) Vc with⟨c,pb,sb,tk,ws,trs,lo,hi,rfl,a6,wl,wh,l8,k⟩
 obtain⟨dx,fs,hc,F⟩:=id a6
 obtain⟨vl,el,tl⟩:=F.low
 obtain⟨al,rfl,b0⟩:∃a,vl=V.ref a/\H a=some (.tup [.int lo.1,.int lo.2]):=tl
 rcases q:F.tracks with⟨L,tv,et,hL,hT⟩
 have a8:=hT.1
 exists(ze (psl (i:=1) Vc.nd (zD b1 hr %[0|0]))
  (ze (psl (i:=2) Vc.nd zfo)
  (ze (va PassesOwn.never rfl (xg (xt (pv 0) rfl)) (qZ rfl (zP (pgl (i:=3) Vc.nd) (zP (pgl (i:=4) Vc.nd) xO))) (ze (psl (i:=5) Vc.nd (zy qo (pv 3) (pxt (xt (pv 0) rfl))))
  (zo (xf (zF XB (pv 4) zh (zH _)) (zo (qi (XC yJ ui uj qE (XC PySem.F.plainAttrs_dict Yd Ye JI (pv 2) %[4,qp zd|0]) %[5|0]))) (zo (xf (zF Zo (pv 4) zh (zH _)) (zo (qi (XC yJ ui uj qE (XC PySem.F.plainAttrs_dict Yd Ye JI (pv 2) %[jX qS (pv 4),qp zd|0]) %[zy qo (pv 1) (pv 5)|0]))) zT))))))
  (zo (zE (pv 2))))))
 exists 00,c,pb,sb,tk,ws,trs,some lo,some hi,rfl,a6,wl,wh
 dsimp only[zG]
 refine λa ha=>?_
 dsimp only[zG]
 have S0:zq H (upd H a (.dK [])):=zq.upd ha
 have P0:PhA H (upd H a (.dK [])) a []:=⟨zj,(λe m=>by cases m),Y7,(λe m=>by cases m),ha,Y7⟩
 generalize upd H a (.dK [])=H0 at S0 P0
 refine zJ (λσ' G=>∃es y3 y4 y5,σ'=[Sr c,some (lv (Jd (some lo) (some hi))),Sr a,y3,y4,y5]/\zq H G/\PhA H G a es/\Xz es=phO lo.1 (2*(hi.1-lo.1)) trs) ?_ ?_
 ·rintro σ' G O;rcases q:O with⟨es,y3,y4,y5,rfl,S,U,e⟩
  exact⟨00,k a es G S U e⟩
 intro nx a9
 exists 00,c,C,dx,fs,00,S0 _ _ hc,TC.cls,TC.tracks,et,L,rfl,⟨_,SqL.of (S0 _ _ hL)⟩
 refine vt (xs:=tv) (λi σ' G=>∃es y3 y4 y5,σ'=[Sr c,some (lv (Jd (some lo) (some hi))),Sr a,y3,y4,y5]/\zq H G/\PhA H G a es/\Xz es=phO lo.1 (2*(hi.1-lo.1)) (trs.take i)/\es.length<=i/\∀e∈es,e.2.2.length<=i)
  ⟨[],none,none,none,rfl,S0,P0,rfl,wn _,λe m=>by cases m⟩ (λi σ' G _ ⟨_,_,_,_,_,S,_⟩=>SqL.of (S _ _ hL)) ?_ ?_
 ·rintro i y σ' G hy O;rcases q:O with⟨es,y3,y4,y5,rfl,S,U,e,a5,a3⟩
  rcases q:hT.2 i y hy with⟨W,a4,p,rfl,hp⟩
  have b2:i<trs.length:=(w4.mp a4).1
  have I:phO lo.1 (2*(hi.1-lo.1)) (trs.take (i+1))=Zd lo.1 (2*(hi.1-lo.1)) (Xz es) W:=by
   rw[yC,a4,e];unfold phO;rw[YE];rfl
  exists p,00,.of (S _ _ hp),rfl,021,022
  dsimp only[zG]
  have a7:=S _ _ b0
  exists 01,c,C,dx,fs,00,S _ _ hc,TC.cls,TC.low,el,al,032,.of a7,at0 ..,022
  dsimp only[zG]
  unfold Zd at I
  refine⟨00,022,00,vu (λz=>?_) (λz=>?_)⟩
  ·have h1:0<W.2:=ww z
   rw[if_pos h1]at I
   refine⟨00,.inr (.inr (.inl ⟨rL,.inl ⟨_,U.d⟩⟩)),00,zL0,λl0 a1=>?_⟩
   dsimp only[Zu]
   exact zfr (w:=W.1-lo.1) U S ∅ a5 a3 a1 λl xs G1 Y hl hx a2 S' e' q1 q2=>⟨.inl ⟨rfl,_,SqL.of hl⟩,_,rfl,l,_,_,rfl,rfl,hl,hx,⟨Y,_,_,_,rfl,S',a2,by rw[I];exact e',q1,q2⟩⟩
  ·have h1:¬ 0<W.2:=λq=>z (wm q)
   rw[if_neg h1]at I
   refine⟨00,022,00,vu (λz=>?_) (λz=>?_)⟩
   ·have h2:W.2<0:=ww z
    rw[if_pos h2]at I
    refine⟨00,.inr (.inr (.inl ⟨rL,.inl ⟨_,U.d⟩⟩)),01,zL0,λl0 a1=>?_⟩
    dsimp only[Zu]
    exact zfr (k := -W.2) (w:=2*(hi.1-lo.1)-(W.1-lo.1)) U S ∅ a5 a3 a1 λl xs G1 Y hl hx a2 S' e' q1 q2=>⟨.inl ⟨rfl,_,SqL.of hl⟩,_,rfl,_,rfl,_,_,rfl,rfl,l,_,_,rfl,rfl,hl,hx,⟨Y,_,_,_,rfl,S',a2,by rw[I];exact e',q1,q2⟩⟩
   ·have h2:¬W.2<0:=λq=>z (wm q)
    rw[if_neg h2]at I
    exact⟨es,031,S,U,I.symm ▸ rfl,by lia,λx m=>by have:=a3 x m;lia⟩
 ·rintro σ' G O;rcases q:O with⟨es,y3,y4,y5,rfl,S,U,e,_,_⟩
  exact a9 _ _ ⟨es,y3,y4,y5,rfl,S,U,by rw[e,a8,yr]⟩
end KK
namespace L2
open PySem PySem.Spec PyProof.Rows
section
variable {J:It}{D:Addr}{N n:Nat}{js:List Nat}{σ:St}{g:TG}{tt:TT}{te:TE}{H:Hp}
theorem zdp {Z:Hp->Prop}(F:Nat->Hp->List V->Prop) (h0:F 0 (upd H D (.lst [])) []) (Y:∀i H ys,i<N->F i H ys->J.go i H) (a1:∀H ys,F N H ys->J.stop N H)
  (hs:∀i x zs H2 O ys (Nx:Hp->List V->Prop),(∀H ys,F (i+1) H ys->Nx H ys)->i<N->zs.length=n->J.yld i H2 x O->F i H2 ys->H2 D=some (.lst ys)->g x (zs++qF σ js) O λI H4=>I.drop n=qF σ js/\tt I H4 λb G =>
   if b=true then te I G (λv S=>S D=some (.lst ys)/\ys.length<sizeLine/\Nx (upd S D (.lst (ys++[v]))) (ys++[v]))else G D=some (.lst ys)/\Nx G ys)
  (hd:∀H ys,F N H ys->H D=some (.lst ys)->Z H) :
  ∃W:Nat->Nat->Hp->List V->Prop,(∃m,W 0 m (upd H D (.lst [])) [])/\∀i m H2 ys,W i m H2 ys->H2 D=some (.lst ys)->(J.stop i H2/\Z H2) ∨
   (J.go i H2/\∀zs x O,zs.length=n->J.yld i H2 x O->g x (zs++qF σ js) O λI H4=>I.drop n=qF σ js/\tt I H4 λb G=>if b=true then te I G (λv S=>S D=some (.lst ys)/\ys.length<sizeLine/\∃U,U<m/\W (i+1) U (upd S D (.lst (ys++[v]))) (ys++[v]))
    else G D=some (.lst ys)/\∃U,U<m/\W (i+1) U G ys) :=
 ZZ (Q:=λ_ H=>Z H) F h0 Y a1 hs hd
end
end L2
namespace KK
open PySem L2 KM
variable {P:Program}{w:World}{K:Fg}{mg:Str->Option Value}{base:Heap}{C CE:Addr}{tM:Nat}
def zbq (l:List Int):List Int:=l.mergeSort λa b=>decide (a<=b)
theorem vK (l:List Int):(zbq l).Perm l:=List.mergeSort_perm ..
theorem zaB (l:List Int):(zbq l).Pairwise (·<=·):=by
 have h:=List.pairwise_mergeSort (le:=λa b:Int=>decide (a<=b)) (λa b c h1 h2=>by simp only[yL]at *;lia) (λa b=>by simp only[Bool.or_eq_true,yL];lia) l
 exact h.imp λz=>ww z
theorem zbm {a b:List Int}(p:a.Perm b) (F:a.Pairwise (·<=·)) (G:b.Pairwise (·<=·)):a=b :=
 List.Perm.eq_of_pairwise (le:=(·<=·)) (λa b _ _ h1 h2=>by lia) F G p
theorem zaA {a l:List Int}(p:a.Perm l) (F:a.Pairwise (·<=·)):a=zbq l:=zbm (p.trans (vK l).symm) F (zaB l)
theorem zf8 {a b:List Int}:zbq a=zbq b↔a.Perm b:=⟨λh=>(vK a).symm.trans (by rw[h];exact vK b),λh=>zaA ((vK a).trans h) (zaB a)⟩
def xX (ps:List Int) (T m:Int):Bool:=decide (zbq (ps.map (· * m))=zbq (ps.map λp=>(p*m+T) % (T*m)))
theorem Jt {ps:List Int}{T m:Int}:xX ps T m=true↔(ps.map (· * m)).Perm (ps.map λp=>(p*m+T) % (T*m)):=by
 unfold xX;rw[yL];exact zf8
theorem Ju {ps:List Int}{T:Int}(h:∀p∈ps,0<=p/\p<T):xX ps T 1=true:=by
 rw[Jt]
 refine .of_eq (wy λp m=>?_)
 obtain⟨F,h1⟩:=h p m
 rw[YJ,YJ,show p+T=p+T*1 by lia,Int.add_mul_emod_self_left,Int.emod_eq_of_lt F h1]
theorem zaN:∀(a b:List Int),PyData.eqvAll (a.map .int) (b.map .int)=decide (a=b)
 |[],[]=>rfl
 |[],_::_=>by simp[PyData.eqvAll]
 |_::_,[]=>by simp[PyData.eqvAll]
 |x::a,y::b=>by
  show (PyData.eqv (.int x) (.int y)&&PyData.eqvAll (a.map .int) (b.map .int))=_
  rw[zaN a b]
  by_cases c:x=y
  ·subst c
   have e:PyData.eqv (.int x) (.int x)=true:=SeqAt.eqv_refl _ rfl
   rw[e,YM]
   by_cases d:a=b
   ·rw[wm d,wm (by rw[d])]
   ·rw[wx d,wx (λz=>d (by injection z))]
  ·have e:PyData.eqv (.int x) (.int y)=false:=by simp[PyData.eqv];exact c
   rw[e,Bool.false_and,wx (λz=>c (by injection z))]
theorem zlp (ds:List Int):SeqAt.shaped (.list (ds.map .int))=true:=by
 have k:PyData.canLayAll0 (ds.map .int)=true/\PyData.depthAll (ds.map .int)=0:=by
  induction ds with
  |nil=>exact⟨rfl,rfl⟩
  |cons d ds ih =>
   refine⟨?_,?_⟩
   ·show (PyData.canLay0 (.int d)&&_)=true
    rw[ih.1];rfl
   ·show max (PyData.depth (.int d)) _=0
    rw[ih.2];rfl
 have F:PyData.canLay0 (.list (ds.map .int))=true:=k.1
 have G:PyData.depth (.list (ds.map .int))=1:=by show _+1=1;rw[k.2]
 show (_&&decide (_<=64))=true
 rw[F,G];rfl
theorem VY {H:Hp}:∀ds:List Int,Zx H (ds.map V.int) (ds.map .int)
 |[]=>.nil
 |d::ds=>.cons (.int d) (VY ds)
theorem Qv {vs:List V}{ns:List Int}(F:vs.length=ns.length) (h:∀(i:Nat) (v:V),vs[i]?=some v->∃n,ns[i]?=some n/\v=.int n):vs=ns.map V.int:=by
 refine uL λi=>?_
 rw[wo]
 cases e:vs[i]? with
 |none =>
  have:ns.length<=i:=by rw[<-F];exact List.getElem?_eq_none_iff.mp e
  rw[yH this];rfl
 |some v=>obtain⟨n,e1,rfl⟩:=h i v e;rw[e1];rfl
section
variable {P:Program}{w:World}{K:Fg}{mg:Str->Option Value}{base:Heap}{C CE:Addr}{aN:Addr}
structure Phs (ps:List Int) (T:Int):Prop where
 T0:0<T
 bT:Bd 3000 T
 l8:ps.length<=8
 ps:∀p∈ps,0<=p/\p<T
theorem Phs.bp {ps:List Int}{T:Int}(h:Phs ps T){p:Int}(m:p∈ps):Bd 3000 p:=h.bT.of_le (by have:=h.ps p m;lia)
inductive zhL  (vs:List V) (H:Hp) (Q:VK) (_e3:XK):Prop
 |mk:∀L ps T m,(vs=[.ref L,.int T,.int m])->(H L=some (.lst (ps.map V.int)))->(Phs ps T)->(0<m)->(Bd 3000 m)->(∀H',zq H H'->Q (.bl (xX ps T m)) H')->zhL vs H Q _e3
theorem zfJ:zC ["phases","trip","many","wide"] ["phases","trip","many"] (zi Zg):=scq
theorem zkL (D:Df K mg "comes_again" Zg ["phases","trip","many"] []) (T3:Tx3 K mg aN):⇑3 "comes_again" 1 ["phases","trip","many"] [] zhL:=by
 rcases r:D.calq (k:=0) zfJ with⟨L,ps,T,m,rfl,hL,z,m0,bm,k⟩
 have hu:=hr.units
 have bM:∀{n:Nat}{i:Int},Bd n i->n<=1000000->Bd 1000000 i:=λh l=>h.mono l
 have l8:=z.l8
 exists(ze (Vv (i:=3) (NB:=["phase"]) (FR:=["many"]) (js:=[2]) rfl rfl (λx c h=>VL rfl x c h) (.cons rfl rfl rfl ⟨_,rfl⟩ .nil) rfl ⇑0 rfl ⇑0 zfJ.nd rfl rfl ⇑2 (xg (pv 0)) (by intro _ _ _;refine⟨?_,?_,?_⟩;(exact(pgl (i:=0) (show List.Nodup (["phase","many"]:List Str) by decide +kernel)));(exact xE);(exact(zy zK (pv 0) (pv 1)))))
  (zo (zE (qz (XN hu) (zO VJ ⇑2 T3.nSorted Wc %[3|0]) (zO VJ ⇑2 T3.nSorted Wc %[(qj (NB:=["phase"]) (FR:=["trip","many"]) (js:=[1,2]) rfl rfl (λx c h=>XG rfl rfl x c h) (.cons rfl rfl rfl ⟨_,rfl⟩ (.cons rfl rfl rfl ⟨_,rfl⟩ .nil)) rfl ⇑0 rfl ⇑0 (xg (pv 3)) (by intro _ _ _;refine⟨?_,?_,?_⟩;(exact(pgl (i:=0) (show List.Nodup (["phase","trip","many"]:List Str) by decide +kernel)));(exact xE);(exact(zy vO (zy xr (pv 0) (pv 1)) (zy zK (pv 1) (pv 2))))))|0]) (zH _)))))
 unfold zbt zcj
 refine⟨00,L,rL,⟨_,SqL.of hL⟩,λDc a2=>?_⟩
 refine xI (js:=[2]) (J:=Itl K L) (g:=zG 0) (te:=_) (n:=1) (xs:=ps.map V.int) (λi v G=>∃n,(ps.map (· * m))[i]?=some n/\v=.int n) (λ_ _ _ _ _ h=>h) a2 (xq hL) (xT (by rw[wc];lia)) ?_ ?_
 ·intro i y zs G Q' F hz S hQ
  rw[wo]at F
  cases hp:ps[i]? with
  |none=>rw[hp]at F;cases F
  |some p =>
   rw[hp]at F;cases F
   obtain⟨w1,rfl⟩:=XL hz
   exact⟨rfl,01,022,⟨bM (z.bp (wU hp)) ⇑1,bM bm ⇑1⟩,hQ _ _ (zq.refl _) ⟨_,by rw[wo,hp];rfl,rfl⟩⟩
 intro us G S I a1 hR
 dsimp only[zG]
 have e1:us=(ps.map (· * m)).map V.int:=Qv (by rw[wc];rw[wc]at a1;exact a1) λi v e=>hR i v e
 rw[e1]at I
 refine⟨00,Dc,00,.of I,by rw[wc];lia,λD1 Y a7 p1 s1=>?_⟩
 have S1:=zq.upd (o:=.lst (Y.map V.int)) a7
 have O:upd G D1 (.lst (Y.map V.int)) D1=some (.lst (Y.map V.int)):=zj
 generalize upd G D1 (.lst (Y.map V.int))=G1 at S1 O
 refine⟨00,Dc,rL,⟨_,SqL.of (S1 _ _ I)⟩,λDe a3=>?_⟩
 refine xI (js:=[1,2]) (J:=Itl K Dc) (g:=zG 0) (te:=_) (n:=1) (xs:=(ps.map (· * m)).map V.int) (λi v G=>∃n,(ps.map λp=>(p*m+T) % (T*m))[i]?=some n/\v=.int n) (λ_ _ _ _ _ h=>h) a3 (xq (S1 _ _ I)) (xT (by rw[wc,wc];lia)) ?_ ?_
 ·intro i y zs G2 Q' F hz S2 hQ
  rw[wG,wo]at F
  cases hp:ps[i]? with
  |none=>rw[hp]at F;cases F
  |some p =>
   rw[hp]at F;cases F
   obtain⟨w1,rfl⟩:=XL hz
   exact⟨rfl,01,022,01,022,⟨bM z.bT ⇑1,bM bm ⇑1⟩,022,wP z.T0 m0,hQ _ _ (zq.refl _) ⟨_,by rw[wo,hp];rfl,rfl⟩⟩
 intro a6 G2 S2 U W a4
 have e2:a6=(ps.map λp=>(p*m+T) % (T*m)).map V.int:=Qv (by rw[wc];rw[wc,wc]at W;exact W) λi v e=>a4 i v e
 rw[e2]at U
 refine⟨De,00,.of U,by rw[wc];lia,λD2 m2 a5 p2 s2=>?_⟩
 have S3:=zq.upd (o:=.lst (m2.map V.int)) a5
 exists _,_,.lst (S3 _ _ (S2 _ _ O)) (VY Y),.lst zj (VY m2),zlp Y,zlp m2
 have ev:PyData.eqv (.list (Y.map .int)) (.list (m2.map .int))=xX ps T m:=by
  show PyData.eqvAll (Y.map .int) (m2.map .int)=_
  rw[zaN,zaA p1 s1,zaA p2 s2];rfl
 rw[ev]
 exact k _ (S.trans (S1.trans (S2.trans S3)))
inductive zjR  (vs:List V) (H:Hp) (Q:VK) (_e3:XK):Prop
 |mk:∀L ps T,(vs=[.ref L,.int T])->(H L=some (.lst (ps.map V.int)))->(Phs ps T)->(1<=ps.length)->(∀(M:Nat) H',zq H H'->1<=M->M<=ps.length->xX ps T M=true->(∀m:Nat,1<=m->m<=ps.length->xX ps T m=true->m<=M)->Q (.int M) H')->zjR vs H Q _e3
theorem zjG:zC ["phases","trip"] ["phases","trip"] (zi vy):=scq
theorem zkO (D:Df K mg "greatest_many" vy ["phases","trip"] []) (T1:TxB K mg) (a1:⇑3 "comes_again" 1 ["phases","trip","many"] [] zhL):⇑3 "greatest_many" 2 ["phases","trip"] [] zjR:=by
 have T:=T1
 rcases r:D.calq (k:=1) zjG with⟨L,ps,F,rfl,hL,z,l1,k⟩
 have l8:=z.l8
 exists(zo (zE (zO (zdn rfl) ⇑2 T.nMax W2 %[(qj (NB:=["many"]) (FR:=["phases","trip"]) (js:=[0,1]) rfl rfl (λx c h=>XG rfl rfl x c h) (.cons rfl rfl rfl ⟨_,rfl⟩ (.cons rfl rfl rfl ⟨_,rfl⟩ .nil)) rfl ⇑0 rfl ⇑0 (zdV rfl T.nRange %[zh,zy xr (zO xp ⇑2 T.nLen PySem.boot_len %[0|0]) zh|0]) (by intro _ _ _;refine⟨?_,?_,?_⟩;(exact(pgl (i:=0) (show List.Nodup (["many","phases","trip"]:List Str) by decide +kernel)));(exact(Vw (JM (K:=K) rfl (zD a1 hr %[1,2,0|0]) λ_=>rfl)));(exact(pv 0))))|0])))
 refine⟨00,L,00,.inl (.of hL),022,1,00,⟨by decide,by decide,by rw[wc];lia,by rw[wc];lia⟩,λDc Y=>?_⟩
 rw[show (((ps.map V.int).length:Int)+1-1).toNat=ps.length by rw[wc];lia]
 refine zdp (js:=[0,1]) (J:=Itr 1 ps.length) (g:=zG 0) (tt:=λσ H Q=>(ZQ zhL [] E0 (qc (xy 1) (qc (xy 2) (qc (xy 0) Zu)))) σ H λx H'=>∃k,zef K x H' k/\Q k H') (te:=xy 0) (n:=1) (N:=ps.length) (λi G ys=>zq H G/\ys=((List.range i).filter λj:Nat=>xX ps F (1+(j:Int))).map λj:Nat=>V.int (1+(j:Int))) ⟨zq.upd Y,rL⟩ (λi G ys hi p=>hi) (λG ys p=>wn _) ?_ ?_
 ·rintro i x zs G2 G3 ys Nx hN hi hz hy ⟨S,rfl⟩ I
  obtain⟨rfl,rfl⟩:=hy
  obtain⟨w1,rfl⟩:=XL hz
  refine⟨rfl,02,L,ps,F,1+(i:Int),rfl,S _ _ hL,z,by lia,?_,λG4 S4=>⟨xX ps F (1+(i:Int)),rfl,?_⟩⟩
  ·exact Bd.mono (m:=10) (show (1+(i:Int)).natAbs<2^10 by lia) ⇑1
  have W:(((List.range i).filter λj:Nat=>xX ps F (1+(j:Int))).map λj:Nat=>V.int (1+(j:Int))).length<sizeLine:=by
   have:=uT (λj:Nat=>xX ps F (1+(j:Int))) (List.range i)
   rw[yU]at this
   have:(1000:Nat)<sizeLine:=by decide
   rw[wc];lia
  cases hb:xX ps F (1+(i:Int))with
  |true =>
   refine xM ⟨_,rL,S4 _ _ I,W,hN _ _ ⟨λb o e=>?_,?_⟩⟩
   ·rw[zV (zZ e Y)];exact S4 _ _ (S _ _ e)
   ·rw[List.range_succ,ut,yx];simp[hb]
  |false =>
   refine xi ⟨S4 _ _ I,hN _ _ ⟨S.trans S4,?_⟩⟩
   rw[List.range_succ,ut,yx];simp[hb]
 rintro G ys ⟨S,rfl⟩ I
 have mem:∀M:Int,M∈(((List.range ps.length).filter λj:Nat=>xX ps F (1+(j:Int))).map λj:Nat=>(1+(j:Int)))↔∃j:Nat,j<ps.length/\xX ps F (1+(j:Int))=true/\M=1+(j:Int):=λM=>by
  rw[wj]
  constructor
  ·rintro ⟨j,hj,rfl⟩
   obtain⟨h1,h2⟩:=yZ.mp hj
   exact⟨j,Wj.mp h1,h2,rL⟩
  ·rintro ⟨j,h1,h2,rfl⟩
   exact⟨j,yZ.mpr ⟨Wj.mpr h1,h2⟩,rL⟩
 have O:(1:Int)∈(((List.range ps.length).filter λj:Nat=>xX ps F (1+(j:Int))).map λj:Nat=>(1+(j:Int))):=(mem 1).mpr ⟨0,by lia,by simpa using Ju z.ps,by simp⟩
 refine⟨Dc,00,by rw[show (((List.range ps.length).filter λj:Nat=>xX ps F (1+(j:Int))).map λj:Nat=>V.int (1+(j:Int)))=((((List.range ps.length).filter λj:Nat=>xX ps F (1+(j:Int))).map λj:Nat=>(1+(j:Int)))).map V.int by rw[wG];rfl]at I;exact .of I,List.length_pos_of_mem O,λM hM U=>?_⟩
 obtain⟨j,h1,h2,rfl⟩:=(mem M).mp hM
 have ej:(1+(j:Int))=((1+j:Nat):Int):=by lia
 rw[ej]at h2 ⊢
 refine k (1+j) G S ∅ ∅ h2 λm m1 m2 hm=>?_
 have:=U (m:Int) ((mem _).mpr ⟨m-1,by lia,by rw[show (1+((m-1:Nat):Int))=(m:Int) by lia];exact hm,by lia⟩)
 lia
inductive zfZ (C:Addr) (vs:List V) (H:Hp) (Q:VK) (_e3:XK):Prop
 |mk:∀c t dx fs tp tk a b,(vs=[V.ref c,.ref t])->(H c=some (.ins C dx fs))->(fs.lookup ("tick":Str)=some (V.ref tp))->(zu H tp tk)->(H t=some (.tup [.int a,.int b]))->(b≠0)->(Bd 4400 a)->(Bd 4400 b)->(Sz 4400 tk)->(∀r H',zq H H'->zu H' r (Rat.divInt (a*tk.num) (b*(tk.den:Int)))->Q (.ref r) H')->zfZ C vs H Q _e3
theorem zlk:zC ["course","ticks"] ["course","ticks"] (zi Xc):=scq
theorem zkT {C:Addr}(D:Df K mg "moment_of" Xc ["course","ticks"] []) (G:TCo K C) (Y:⇑3 "ratio" 2 ["top","bottom"] [] vw):⇑3 "moment_of" 3 ["course","ticks"] [] (zfZ C):=by
 rcases r:D.calq (k:=2) zlk with⟨c,t,dx,fs,O,tk,a,b,rfl,U,e,F,S,V,W,I,hz,k⟩
 exists(zo (zE (zD Y hr %[zy zK (pxt (pv 1)) (pxt (xt (pv 0) rfl)),zy zK (pxt (pv 1)) (pxt (xt (pv 0) rfl))|0])))
 refine zaI (Q:=Q) ?_
 exists 00,t,032,.of S,at0 ..,00,c,C,dx,fs,00,U,G.cls,G.tick,e,O,032,.of F,at0 ..,022,⟨W.md,hz.1.md⟩
 exists 00,t,032,.of S,at1 ..,00,c,C,dx,fs,00,U,G.cls,G.tick,e,O,032,.of F,at1 ..,022,⟨I.md,hz.2.md⟩
 exact⟨021,u9 V (KM.qI tk),(I.mul hz.2).md,k⟩
def vP (T k g:Int) (tk:Rat):Rat:=Rat.divInt (T*tk.num) (g*k*(tk.den:Int))
def qK (qs:List Rat):Int:=qs.foldl (λd q=>((Int.gcd (q.den:Int) d:Nat):Int)) 0
theorem QN (qs:List Rat) (q:Rat):qK (qs++[q])=((Int.gcd (q.den:Int) (qK qs):Nat):Int):=by unfold qK;rw[YE];rfl
theorem zcC (qs:List Rat):0<=qK qs:=by
 rcases List.eq_nil_or_concat qs with rfl | ⟨l,q,rfl⟩
 ·exact uZ _
 ·rw[List.concat_eq_append,QN];lia
theorem zaU (qs:List Rat):(∀q∈qs,qK qs ∣ (q.den:Int))/\∀d:Int,(∀q∈qs,d ∣ (q.den:Int))->d ∣ qK qs:=by
 suffices h:∀n,∀qs:List Rat,qs.length=n->(∀q∈qs,qK qs ∣ (q.den:Int))/\∀d:Int,(∀q∈qs,d ∣ (q.den:Int))->d ∣ qK qs from h _ qs rfl
 intro n
 induction n with
 |zero =>
  intro qs F
  cases uu.mp F
  exact⟨λq m=>(by cases m),λd _=>Int.dvd_zero d⟩
 |succ n ih =>
  intro qs F
  rcases List.eq_nil_or_concat qs with rfl | ⟨l,q,rfl⟩
  ·simp at F
  rw[List.concat_eq_append]at F ⊢
  rw[QN]
  obtain⟨G,I⟩:=ih l ↥F
  refine⟨λu m=>?_,λd hd=>?_⟩
  ·rcases ya.mp m with m | m
   ·exact Ww (Wv ..) (G u m)
   ·cases w5.mp m;exact uz ..
  ·exact Int.dvd_coe_gcd (hd q (by simp)) (I d λu m=>hd u (by simp[m]))
theorem Qs {qs:List Rat}(h:1<=qs.length):0<qK qs/\∃q∈qs,qK qs<=(q.den:Int):=by
 match qs,h with
 |q::l,_ =>
  have d:=(zaU (q::l)).1 q (by simp)
  have p:=den_pos q
  have nn:=zcC (q::l)
  refine⟨?_,q,by simp,Int.le_of_dvd p d⟩
  rcases Int.lt_or_eq_of_le nn with z | z
  ·exact z
  ·rw[<-z]at d;have:=Int.zero_dvd.mp d;lia
def ptL (T:Int) (tk:Rat) (kgs:List (Int×Int)):List Rat:=kgs.map λu=>vP T u.1 u.2 tk
def xl (qs:List Rat):Rat:=Rat.divInt (xP (qs.map Rat.num)) (qK qs)
structure LrZ (T:Int) (tk:Rat) (kgs:List (Int×Int)):Prop where
 l1:1<=kgs.length
 l8:kgs.length<=8
 pos:∀u∈kgs,0<u.1/\0<u.2
 bk:∀u∈kgs,Bd 3000 u.1
 bg:∀u∈kgs,Bd 400 u.2
 num:∀q∈ptL T tk kgs,0<q.num
 bn:∀q∈ptL T tk kgs,Bd 400 q.num
 bd:∀q∈ptL T tk kgs,Bd 400 (q.den:Int)
 zt:Sz 4400 tk
inductive zfY (C:Addr) (vs:List V) (H:Hp) (Q:VK) (_e3:XK):Prop
 |mk:∀c A ys kgs pb sb tk ws trs lo hi,(vs=[.ref c,.ref A])->(Xv H C c pb sb tk ws trs (some lo) (some hi))->(Wb (some lo))->(Wb (some hi))->(lo.1<hi.1)->(H A=some (.lst ys))->(ZV H ys kgs)->(LrZ (2*(hi.1-lo.1)) tk kgs)->(∀r H',zq H H'->zu H' r (xl (ptL (2*(hi.1-lo.1)) tk kgs))->Q (.ref r) H')->zfY C vs H Q _e3
theorem ZN:zC ["course","manies","trip","parts","divisor","top","bottom"] ["course","manies"] (zi Zj):=scq
def ZW (G:Hp) (us:List V) (qs:List Rat):Prop:=us.length=qs.length/\∀(i:Nat) (v:V),us[i]?=some v->∃q r,qs[i]?=some q/\v=.ref r/\zu G r q
theorem zje (D:Df K mg "least_round" Zj ["course","manies"] []) (TC:TCo K C) (b5:⇑3 "trip_of" 1 ["course"] [] (Vd C)) (cG:⇑3 "greatest_divisor" 1 ["one","other"] [] JO) (cL:⇑3 "least_multiple" 2 ["numbers"] [] JP) (cR:⇑3 "ratio" 2 ["top","bottom"] [] vw) (b3:⇑3 "moment_of" 3 ["course","ticks"] [] (zfZ C)):⇑3 "least_round" 4 ["course","manies"] [] (zfY C):=by
 refine D.calq (k:=3) ZN (λf cdv A outer s H vs Q E a5 h=>?_)
 rcases q:h with⟨c,Am,ys,U,pb,sb,tk,ws,trs,lo,hi,rfl,a9,wl,wh,c1,hA,hP,Z,kk⟩
 have b0:xc 1 _:=a5.md
 have a6:xc 2 _:=a5.md
 obtain⟨dx,fs,hc,F⟩:=id a9
 obtain⟨tp,et,b2⟩:=F.tick
 exists(ze (ZF (i:=2) ZN.nd rfl (Or.inr rfl) (zD b5 b0 %[0|0]))
  (ze (Vv (i:=3) (NB:=["pace","many"]) (FR:=["course","trip"]) (js:=[0,2]) rfl rfl (λx c h=>XG rfl rfl x c h) (.cons rfl rfl rfl ⟨_,rfl⟩ (.cons rfl rfl rfl ⟨_,rfl⟩ .nil)) rfl ⇑0 rfl ⇑0 ZN.nd rfl rfl ⇑2 (xg (pv 1)) (by intro _ _ _;refine⟨?_,?_,?_⟩;(exact(Xq (K:=K) (n:=2) rfl rfl (zP (pgl (i:=0) (show List.Nodup (["pace","many","course","trip"]:List Str) by decide +kernel)) (zP (pgl (i:=1) (show List.Nodup (["pace","many","course","trip"]:List Str) by decide +kernel)) xO))));(exact xE);(exact(zD b3 a5 %[2,(zX %[3,zy zK (pv 1) (pv 0)|0])|0]))))
  (ze (psl (i:=4) ZN.nd zh)
  (ze (va PassesOwn.never rfl (xg (pv 3)) (qZ rfl (zP (pgl (i:=5) ZN.nd) (zP (pgl (i:=6) ZN.nd) xO))) (zo (psl (i:=4) ZN.nd (zD cG b0 %[6,4|0]))))
  (zo (zE (zD cR a6 %[(zD cL a6 %[(vF (NB:=["top","bottom"]) rfl ⇑0 ⇑0 rfl ⇑0 (xg (pv 3)) (by intro _ _ _;refine⟨?_,?_,?_⟩;(exact(Xq (K:=K) (n:=2) rfl rfl (zP (pgl (i:=0) (show List.Nodup (["top","bottom"]:List Str) by decide +kernel)) (zP (pgl (i:=1) (show List.Nodup (["top","bottom"]:List Str) by decide +kernel)) xO))));(exact xE);(exact(pv 0))))|0]),4|0])))))))
 exists 00,c,pb,sb,tk,ws,trs,some lo,some hi,rfl,a9,wl,wh
 dsimp only[zG]
 have bT:Bd 3000 (2*(hi.1-lo.1)):=(zhY wl wh (λl r e1 e2=>by cases e1;cases e2;exact c1) _ rfl).2
 have hT:lv (Jd (some lo) (some hi))=V.int (2*(hi.1-lo.1)):=rfl
 rw[hT]
 generalize 2*(hi.1-lo.1)=T at *
 have bM:∀{n:Nat}{i:Int},Bd n i->n<=1000000->Bd 1000000 i:=λh l=>h.mono l
 rcases q:Z with⟨l1,l8,pos,bk,bg,qn,b7,c2,zt⟩
 have yl:=hP.1
 have ql:(ptL T tk U).length=U.length:=wc ..
 rcases s:(λO G=>∃Y us,O=[Sr c,Sr Am,Si T,Sr Y,none,none,none]/\zq H G/\G Y=some (.lst us)/\ZW G us (ptL T tk U))
 ·intro nx W
  refine⟨00,Am,rL,⟨_,SqL.of hA⟩,λY b9=>?_⟩
  refine xI (js:=[0,2]) (J:=Itl K Am) (g:=zaT K 2 (Zm (zG 0) (Zm (zG 1) zbR))) (te:=_) (n:=2) (xs:=ys) (λi v G=>∃q r,(ptL T tk U)[i]?=some q/\v=.ref r/\zu G r q) (λi v G G' e ⟨q,r,q0,q1,q2⟩=>⟨q,r,q0,q1,e _ _ q2⟩) b9 (xq hA) (xT ∅) ?_ ?_
  ·intro i y zs G Q' hy hz S hQ
   rcases q:hP.2 i y hy with⟨⟨k,g⟩,e,hu,rfl,he⟩
   have mu:=wU hu
   obtain⟨k0,g0⟩:=pos _ mu
   have a2:=bk _ mu
   have a4:=bg _ mu
   dsimp only at k0 g0 a2 a4 he
   obtain⟨w1,w2,rfl⟩:=zdE hz
   refine⟨e,00,.of (S _ _ he),rL,021,022,⟨rL,?_⟩⟩
   refine⟨03,022,⟨bM a4 ⇑1,bM a2 ⇑1⟩,⇑5,λtq b6=>?_⟩
   have s1:=zq.upd (o:=.tup [.int T,.int (g*k)]) b6
   refine⟨c,tq,dx,fs,tp,tk,T,g*k,rfl,s1 _ _ (S _ _ hc),et,s1 _ _ (S _ _ b2),zj,yt (wP g0 k0),bT.md,(a4.mul a2).md,zt,λr H' s2 hr=>hQ _ _ (s1.trans s2) ⟨_,r,by unfold ptL;rw[wo,hu];rfl,rfl,hr⟩⟩
  intro us G S I a8 hR
  exact W _ _ ⟨Y,us,rfl,S,I,by rw[ql];lia,hR⟩
 rintro σ0 G b8;rcases q:b8 with⟨Y,us,rfl,S,I,a8,a7⟩
 generalize hqs:ptL T tk U=qs at *
 rcases s:(λO G'=>G=G'/\O=[Sr c,Sr Am,Si T,Sr Y,Si 0,none,none])
 ·intro nx W
  exact W _ _ ⟨rL,rL⟩
 rintro σ1 G1 ⟨rfl,rfl⟩
 rcases s:(λO G'=>G=G'/\∃y5 y6,O=[Sr c,Sr Am,Si T,Sr Y,some (.int (qK qs)),y5,y6])
 ·intro nx W
  exists 00,Y,rfl,⟨_,SqL.of I⟩
  refine vt (K:=K) (xs:=us) (λi O G'=>G=G'/\∃y5 y6,O=[Sr c,Sr Am,Si T,Sr Y,some (.int (qK (qs.take i))),y5,y6]) ⟨rfl,none,none,rfl⟩ (λi O G' _ h=>by rw[<-h.1];exact SqL.of I) ?_ ?_
  ·rintro i x O G' hx ⟨rfl,y5,y6,rfl⟩
   rcases q:a7 i x hx with⟨q,r0,hq,rfl,a3⟩
   have dq:0<(q.den:Int):=den_pos q
   exists r0,00,.of a3,rfl,021,022
   dsimp only[zG]
   exists 01,(q.den:Int),qK (qs.take i),rfl,by lia,zcC _
   have eg:qK (qs.take (i+1))=((Int.gcd (q.den:Int) (qK (qs.take i)):Nat):Int):=by
    rw[yC,hq];exact QN ..
   dsimp only[zG]
   rw[<-eg]
   exact⟨rL,_,_,rL⟩
  ·rintro O G' ⟨rfl,y5,y6,rfl⟩
   exact W _ _ ⟨rfl,y5,y6,by rw[a8,yr]⟩
 rintro O G' ⟨rfl,y5,y6,rfl⟩
 refine⟨00,Y,rL,⟨_,SqL.of I⟩,λDe b1=>?_⟩
 refine Zk (J:=Itl K Y) (g:=zaT K 2 (Zm (zG 0) (Zm (zG 1) zbR))) (te:=_) (n:=2) (xs:=us) (λi v G=>∃n,(qs.map Rat.num)[i]?=some n/\v=.int n) (λ_ _ _ _ _ h=>h) b1 (xq I) (xT ∅) ?_ ?_
 ·intro i y zs G2 Q' hy hz S2 hQ
  rcases q:a7 i y hy with⟨q,r0,hq,rfl,a3⟩
  obtain⟨w1,w2,rfl⟩:=zdE hz
  exact⟨r0,00,.of (S2 _ _ a3),rfl,021,022,00,hQ _ _ (zq.refl _) ⟨_,by rw[wo,hq];rfl,rfl⟩⟩
 intro b4 G2 S2 a1 c3 c0
 have e2:b4=(qs.map Rat.num).map V.int:=Qv (by rw[wc];lia) λi v e=>c0 i v e
 rw[e2]at a1
 exists De,qs.map Rat.num,rfl,a1,?_,by rw[wc];lia,00
 ·intro x m
  obtain⟨q,mq,rfl⟩:=wj.mp m
  exact⟨qn q mq,b7 q mq⟩
 obtain⟨g0,q,mq,gl⟩:=Qs (qs:=qs) ∅
 refine⟨xP (qs.map Rat.num),qK qs,rfl,by lia,(Bd.of_le (j:=(q.den:Int)) ∅ (c2 q mq)).md,λr H' s3 hr=>kk r H' (S.trans (S2.trans s3)) hr⟩
inductive zhN  (vs:List V) (H:Hp) (Q:VK) (_e3:XK):Prop
 |mk:∀r a bs b0 l1 l2,(vs=[.ref r,.ref a])->(Pl H r a bs b0 (some l1) (some l2))->(plB b0 bs (some l1) (some l2)=true)->(∀H',zq H H'->Q .non H')->zhN vs H Q _e3
theorem zjJ:zC ["row","walls"] ["row","walls"] (zi vz):=scq
theorem zjk (D:Df K mg "refuse_no_box" vz ["row","walls"] []) (G:⇑3 "refuse_uneven" 7 ["row","walls"] [] zhO):⇑3 "refuse_no_box" 8 ["row","walls"] [] zhN:=by
 refine D.calq (k:=7) zjJ (λf cdv A outer s H vs Q E I h=>?_)
 rcases q:h with⟨r,a,bs,U,W,V,rfl,pl,S,k⟩
 exists(ze (qi (zD G I %[0,1|0])) (zo (xf ((QA (zF qY (pxt (pv 1)) xC (zH _)) (XT (zF qY (pxt (pv 1)) xC (zH _))))).pt Zs zT)))
 refine⟨01,r,a,bs,U,021,pl,S,λH1 e1=>?_⟩
 nofun
 rcases q:pl.walls with⟨Y,v2,O,h1,h2⟩
 have F:=e1 _ _ O
 rcases q:h1 with⟨a1,_,_,rfl,_⟩
 rcases q:h2 with⟨a2,_,_,rfl,_⟩
 refine⟨00,a,032,.of F,at0 ..,rL,00,xi ⟨00,a,032,.of F,at1 ..,rL,00,xi (k H1 e1)⟩⟩
structure GmZ (T:Int) (ps:List Int) (M:Nat):Prop where
 m1:1<=M
 m2:M<=ps.length
 m3:xX ps T M=true
 m4:∀m:Nat,1<=m->m<=ps.length->xX ps T m=true->m<=M
theorem GmZ.uniq {T:Int}{ps:List Int}{M F:Nat}(h:GmZ T ps M) (h':GmZ T ps F):M=F:=YZ (h'.m4 _ h.m1 h.m2 h.m3) (h.m4 _ h'.m1 h'.m2 h'.m3)
structure KgZ (T:Int) (pss:List (Int×List Int)) (kgs:List (Int×Int)):Prop where
 pm:(kgs.map Prod.fst).Perm (pss.map Prod.fst)
 so:(kgs.map Prod.fst).Pairwise (·<=·)
 gm:∀u∈kgs,∃ps M,(u.1,ps)∈pss/\u.2=((M:Nat):Int)/\GmZ T ps M
structure RoG (bs:List Bl) (lo hi:Rat×Rat) (T s:Int) (tk:Rat) (pss:List (Int×List Int)):Prop where
 esb:s=sbO bs (some lo) (some hi)
 etk:tk=Rat.divInt (sbO bs (some lo) (some hi)) (pbO bs (some lo) (some hi))
 eT:T=2*((trB (pbO bs (some lo) (some hi)) (sbO bs (some lo) (some hi)) hi).1-(trB (pbO bs (some lo) (some hi)) (sbO bs (some lo) (some hi)) lo).1)
 eph:phO (trB (pbO bs (some lo) (some hi)) (sbO bs (some lo) (some hi)) lo).1 T (bs.map λb=>trB (pbO bs (some lo) (some hi)) (sbO bs (some lo) (some hi)) (b.pl,b.sp))=pss
 l8:pss.length<=8
 zps:∀e∈pss,Phs e.2 T
 l1p:∀e∈pss,1<=e.2.length
 k0:∀e∈pss,0<e.1
 bk:∀e∈pss,Bd 3000 e.1
 pt:∀e∈pss,∀g:Nat,1<=g->g<=e.2.length->0<(vP T e.1 g tk).num/\Bd 400 (vP T e.1 g tk).num/\Bd 400 ((vP T e.1 g tk).den:Int)
def PcA (G:Hp) (us:List V) (s:Int) (kgs:List (Int×Int)):Prop:=us.length=kgs.length/\∀(i:Nat) (v:V),us[i]?=some v->∃u x y,kgs[i]?=some u/\v=.ref x/\G x=some (.tup [.ref y,.int u.2])/\zu G y (Rat.divInt u.1 s)
theorem PcA.same {G I:Hp}{us:List V}{s:Int}{F:List (Int×Int)} (h:PcA G us s F) (e:zq G I):PcA I us s F:=⟨h.1,λi v q=>let ⟨u,x,y,q1,q2,q3,q4⟩:=h.2 i v q;⟨u,x,y,q1,q2,e _ _ q3,e _ _ q4⟩⟩
inductive zf4  (vs:List V) (H:Hp) (Q:VK) (_e3:XK):Prop
 |mk:∀r a bs b0 lo hi T s tk pss,(vs=[.ref r,.ref a])->(Ln H r a bs (some lo) (some hi))->(LnZ bs (some lo) (some hi))->(bs[0]?=some b0)->(plB (tb b0) (bs.map tb) (some lo) (some hi)=true)->(RoG bs lo hi T s tk pss)->((pss=[]->∀H',zq H H'->Q .non H'))->((pss≠[]->∀z H' kgs q l us,zq H H'->KgZ T pss kgs->H' z=some (.tup [.ref q,.ref l])->zu H' q (xl (ptL T tk kgs))->H l=none->H' l=some (.lst us)->PcA H' us s kgs->Q (.ref z) H'))->zf4 vs H Q _e3
theorem zaw:zC ["row","walls","course","phases","manies"] ["row","walls"] (zi Qd):=scq
theorem zgI {es:List Ent}(G:(es.map (·.1)).Nodup){e:Ent}(m:e∈es):(es.find? λx=>decide (x.1=e.1))=some e:=by
 cases hf:es.find? λx=>decide (x.1=e.1)with
 |none=>exact absurd (wm rfl) (WR.mp hf e m)
 |some x =>
  have F:=ue hf
  have kx:x.1=e.1:=ww (YY (p:=λy:Ent=>decide (y.1=e.1)) hf)
  by_cases c:x=e
  ·rw[c]
  ·exact absurd kx (PhA.put.nodup_ne (f:=λy:Ent=>y.1) G F m c)
theorem zhq {H:Hp}{us:List V}{ms:List Int}{F:Int->Nat->Prop}(I:us.length=ms.length) (h:∀(i:Nat) (v:V),us[i]?=some v->∃(k:Int) (x:Addr) (M:Nat),ms[i]?=some k/\v=.ref x/\H x=some (.tup [.int k,.int M])/\F k M) :
  ∃G:List (Int×Int),G.map Prod.fst=ms/\ZV H us G/\∀u∈G,∃M:Nat,u.2=(M:Int)/\F u.1 M:=by
 induction us generalizing ms with
 |nil =>
  cases ms with
  |nil=>exact⟨[],rfl,⟨rfl,λi v e=>by simp at e⟩,λu m=>by cases m⟩
  |cons=>simp at I
 |cons v us ih =>
  cases ms with
  |nil=>simp at I
  |cons k ms =>
   obtain⟨G,e1,e2,O⟩:=ih (ms:=ms) ↥I (λi v e=>by have:=h (i+1) v ↥e;simpa using this)
   obtain⟨Y,x,M,S,rfl,U,W⟩:=h 0 v rfl
   cases S
   refine⟨(k,(M:Int))::G,by rw[yn,e1],⟨by simp[e2.1],λi w e=>?_⟩,λu m=>?_⟩
   ·match i,e with
    |0,e=>cases e;exact⟨_,x,rfl,rfl,U⟩
    |i+1,e=>exact e2.2 i w ↥e
   ·rcases wu.mp m with rfl | m
    ·exact⟨M,rL,W⟩
    ·exact O u m
theorem zjo {fi:Addr}{c4:FuncData}(D:Df K mg "round_of" Qd ["row","walls"] []) (T:TxB K mg) (T3:Tx3 K mg aN) (TC:TCo K C) (M:Mk K C fi) (Fi:Zw P w K mg base CX0 4 fi c4 ["self","row","walls"] (zfV C)) (e6:mg "Course" = some (.ref C)) (Bi:v6 K c4 ["self","row","walls"] [])
  (g0:⇑3 "refuse_no_box" 8 ["row","walls"] [] zhN) (d3:⇑3 "phases_of" 2 ["course"] [] (zjX C)) (d4:⇑3 "greatest_many" 2 ["phases","trip"] [] zjR) (d1:⇑3 "trip_of" 1 ["course"] [] (Vd C)) (g4:⇑3 "least_round" 4 ["course","manies"] [] (zfY C)) (cR:⇑3 "ratio" 2 ["top","bottom"] [] vw) :
  ⇑3 "round_of" 9 ["row","walls"] [] zf4:=by
 refine D.calq (k:=8) zaw (λf cdv A outer s H vs Q E Y h=>?_)
 rcases q:h with⟨r,a,bs,b0,lo,hi,Tt,ss,tk,pss,rfl,ln,lz,h0,hp,Z0,kN,k⟩
 have d5:xc 5 _:=Y.md
 have f9:xc 4 _:=Y.md
 have b2:xc 2 _:=Y.md
 have g2:xc 1 _:=Y.md
 have hu:=WK (Nat.add_le_add_left (show 1<=64 by decide) _) Y.units
 obtain⟨g9,b6,pl⟩:=ln.pl
 rw[h0]at b6;cases b6
 exists(ze (qi (zD g0 Y %[0,1|0]))
  (ze (ZF (i:=2) zaw.nd rfl (Or.inr rfl) (zao M Fi d5 ⇑2 e6 Bi .nil zcT %[0,1|0]))
  (ze (ZF (i:=3) zaw.nd rfl (Or.inr rfl) (zD d3 b2 %[2|0]))
  (ze (xf (zF ZP (zO zdm ⇑2 T.nLen PySem.boot_len %[3|0]) zh (zH _)) (zo (zE xC)) zT)
  (ze (Vv (i:=4) (NB:=["pace"]) (FR:=["phases","course"]) (js:=[3,2]) rfl rfl (λx c h=>XG rfl rfl x c h) (.cons rfl rfl rfl ⟨_,rfl⟩ (.cons rfl rfl rfl ⟨_,rfl⟩ .nil)) rfl ⇑0 rfl ⇑0 zaw.nd rfl rfl ⇑2 (xg (zO (zbI rfl) ⇑2 T3.nSorted Wc %[3|0])) (by intro _ _ _;refine⟨?_,?_,?_⟩;(exact(pgl (i:=0) (show List.Nodup (["pace","phases","course"]:List Str) by decide +kernel)));(exact xE);(exact(zX %[0,(zD d4 b2 %[zhp hu (pv 1) (pv 0) (λ_ _=>rfl),zD d1 g2 %[2|0]|0])|0]))))
  (zo (zE (zX %[(zD g4 f9 %[2,4|0]),(qj (NB:=["pace","many"]) (FR:=["course"]) (js:=[2]) rfl rfl (λx c h=>VL rfl x c h) (.cons rfl rfl rfl ⟨_,rfl⟩ .nil) rfl ⇑0 rfl ⇑0 (xg (pv 4)) (by intro _ _ _;refine⟨?_,?_,?_⟩;(exact(Xq (K:=K) (n:=2) rfl rfl (zP (pgl (i:=0) (show List.Nodup (["pace","many","course"]:List Str) by decide +kernel)) (zP (pgl (i:=1) (show List.Nodup (["pace","many","course"]:List Str) by decide +kernel)) xO))));(exact xE);(exact(zX %[(zD cR b2 %[0,zcU (K:=K) rfl (pv 2) rfl|0]),1|0]))))|0]))))))))
 refine⟨01,r,a,_,_,lo,hi,rL,pl,hp,λH1 e1=>?_⟩
 nofun
 have ln1:=ln.same e1
 obtain⟨us,d9,hB⟩:=ln1.row
 rcases q:ln1.walls with⟨v1,v2,ha,h1,h2⟩
 refine⟨01,λc dx hc d6 ne=>?_⟩
 have S0:zq H1 (upd (upd H1 dx (.own c)) c (.ins C dx [])):=(zq.upd d6).trans (zq.upd (by rw[zV ne.symm];exact hc))
 refine⟨c,dx,r,a,us,bs,v1,v2,some lo,some hi,rL,zj,S0 _ _ d9,hB.keeps (.of S0),S0 _ _ ha,h1.wl.keeps (.of S0),h2.wl.keeps (.of S0),ln.l8,λt mt=>⟨(lz.sz t mt).1.sz,(lz.sz t mt).2.sz⟩,λH2 X1 f0=>⟨rL,?_⟩⟩
 have e7:=f0.co
 have S2:zq H H2:=e1.trans λb o e=>X1 b o (zZ e hc) (S0 b o e)
 dsimp only[zG]
 have Z:=lz.bd ln.l8
 rcases q:Z0 with⟨c6,c2,eT,e0,g7,c1,e4,k0,bk,pt⟩
 have a6:=e7
 rw[<-c2]at a6
 generalize hpb:pbO bs (some lo) (some hi)=pb at *
 generalize hsb:sbO bs (some lo) (some hi)=sb at *
 have f8:(trB pb sb lo).1<(trB pb sb hi).1:=Z.lh _ _ rfl rfl
 have wl:Wb (some (trB pb sb lo)):=Z.bl
 have wh:Wb (some (trB pb sb hi)):=Z.bh
 have a5:Xv H2 C c pb sb tk (bs.map Bl.wt) (bs.map λb=>trB pb sb (b.pl,b.sp)) (some (trB pb sb lo)) (some (trB pb sb hi)):=a6
 refine⟨00,c,pb,sb,051,a5,wl,wh,by rw[wc];exact ln.l8,λad es H3 S3 ph W=>?_⟩
 dsimp only[zG]
 rw[<-eT,e0]at W
 have hd:=ph.d
 have b8:es.length=pss.length:=by rw[<-W];unfold Xz;rw[wc]
 have b9:es.map (·.1)=pss.map Prod.fst:=by rw[<-W];unfold Xz;rw[wG];rfl
 have e5:∀e∈es,(e.1,e.2.2)∈pss:=λe m=>by rw[<-W];exact wj.mpr ⟨e,m,rfl⟩
 have b1:zq H H3:=S2.trans S3
 refine⟨00,ad,00,hd,rL,00,vu (λzc=>?_) (λzc=>?_)⟩
 ·have z0:((Xx es).length:Int)=0:=V.int.inj (ww zc)
  rw[zbQ,b8]at z0
  exact kN (uu.mp ∅) H3 b1
 refine zc9 ?_
 have b5:pss≠[]:=λe=>zc (wm (by rw[zbQ,b8,e];rfl))
 nofun
 have a8:=a5.same S3
 rcases s:(λσ' G=>∃(Dm:Addr) (us:List V) (I:List (Int×Int)),σ'=[Sr r,Sr a,Sr c,Sr ad,Sr Dm]/\zq H3 G/\G Dm=some (.lst us)/\ZV G us I/\KgZ Tt pss I)
 ·intro nx f6
  refine⟨00,ad,_,pss.map Prod.fst,rfl,hd,by rw[<-b9];unfold Xx;rw[wG,wG];rfl,by rw[wc];lia,λDs ms d8 pm sm=>?_⟩
  have S4:=zq.upd (o:=.lst (ms.map V.int)) d8
  have a2:upd H3 Ds (.lst (ms.map V.int)) Ds=some (.lst (ms.map V.int)):=zj
  generalize upd H3 Ds (.lst (ms.map V.int))=H4 at S4 a2
  have h3:ms.length=pss.length:=by rw[pm.length_eq,wc]
  refine⟨Ds,rL,⟨_,SqL.of a2⟩,λDm a4=>?_⟩
  refine xI (js:=[3,2]) (J:=Itl K Ds) (g:=zG 0) (te:=_) (n:=1) (xs:=ms.map V.int) (λi v G=>∃(kp:Int) (x:Addr) (M:Nat),ms[i]?=some kp/\v=.ref x/\G x=some (.tup [.int kp,.int M])/\∃ps,(kp,ps)∈pss/\GmZ Tt ps M) (λi v G G' e ⟨kp,x,M,q0,q1,q2,q3⟩=>⟨kp,x,M,q0,q1,e _ _ q2,q3⟩) a4 (xq a2) (xT (by rw[wc];lia)) ?_ ?_
  ·intro i y zs G Q' hy hz S hQ
   rw[wo]at hy
   cases hm:ms[i]? with
   |none=>rw[hm]at hy;cases hy
   |some kp =>
   rw[hm]at hy;cases hy
   obtain⟨w1,rfl⟩:=XL hz
   have mk:kp∈es.map (·.1):=by rw[b9];exact pm.subset (wU hm)
   rcases q:wj.mp mk with⟨⟨a3,l,ps⟩,me,rfl⟩
   have mp:=e5 _ me
   have c5:=ph.l _ me
   dsimp only at mp c5 hm
   have SG:=S4.trans S
   have vk:ZT (Xx es) (Sum.inl a3)=some (.ref l):=by rw[Je,zgI ph.k me];rfl
   have gd:zbD G ad (.int a3) (some (.ref l)):=by have:=zbD.k (k:=Sum.inl a3) (SG _ _ hd);rw[vk]at this;exact this
   exists rfl,02,ad,.ref l,rfl,gd,00,c,pb,sb,tk,_,_,some (trB pb sb lo),some (trB pb sb hi),rfl,a8.same SG,wl,wh
   have g1:lv (Jd (some (trB pb sb lo)) (some (trB pb sb hi)))=V.int Tt:=by rw[eT];rfl
   rw[g1]
   refine⟨l,ps,Tt,rL,SG _ _ c5,c1 _ mp,e4 _ mp,λM G1 S1 m1 m2 m3 m4=>⟨⇑5,λe he=>hQ _ _ (S1.trans (zq.upd he)) ⟨a3,e,M,hm,rL,zj,ps,mp,m1,m2,m3,m4⟩⟩⟩
  intro us G S g3 c0 hR
  obtain⟨I,e1,e2,e3⟩:=zhq (H:=G) (us:=us) (ms:=ms) (F:=λkp M=>∃ps,(kp,ps)∈pss/\GmZ Tt ps M) (by rw[wc]at c0;exact c0) hR
  exact f6 _ _ ⟨Dm,us,I,rfl,S4.trans S,g3,e2,by rw[e1];exact pm,by rw[e1];exact sm,λu m=>let ⟨M,q1,ps,q2,q3⟩:=e3 u m;⟨ps,M,q2,q1,q3⟩⟩
 rintro σ' G d7;rcases q:d7 with⟨Dm,us,I,rfl,SG,a4,b3,kz⟩
 have a7:=a8.same SG
 have d0:Sz 4400 tk:=by rw[c2];exact Z.tz.md
 have b7:2*((trB pb sb hi).1-(trB pb sb lo).1)=Tt:=eT.symm
 have kl:I.length=pss.length:=by have:=kz.pm.length_eq;rw[wc,wc]at this;exact this
 have g8:1<=pss.length:=by rcases pss with _ | ⟨x,l⟩;exact absurd rfl b5;simp
 have U:∀u∈I,(0<u.1/\0<u.2)/\Bd 3000 u.1/\Bd 400 u.2/\0<(vP Tt u.1 u.2 tk).num/\Bd 400 (vP Tt u.1 u.2 tk).num/\Bd 400 ((vP Tt u.1 u.2 tk).den:Int):=λu m=>by
  rcases q:kz.gm u m with⟨ps,M,q1,q2,q3⟩
  have l8:=(c1 _ q1).l8
  have m1:=q3.m1
  have m2:=q3.m2
  dsimp only at l8
  rw[q2]
  exact⟨⟨k0 _ q1,by lia⟩,bk _ q1,Bd.mono (m:=10) (show (M:Int).natAbs<2^10 by lia) ⇑1,pt _ q1 M m1 m2⟩
 have O:∀q∈ptL Tt tk I,0<q.num/\Bd 400 q.num/\Bd 400 (q.den:Int):=λq m=>by
  obtain⟨u,mu,rfl⟩:=wj.mp m
  exact(U u mu).2.2.2
 have c8:LrZ Tt tk I:=⟨by lia,by lia,λu m=>(U u m).1,λu m=>(U u m).2.1,λu m=>(U u m).2.2.1,λq m=>(O q m).1,λq m=>(O q m).2.1,λq m=>(O q m).2.2,d0⟩
 refine⟨01,c,Dm,us,I,pb,sb,tk,_,_,trB pb sb lo,trB pb sb hi,rfl,a7,wl,wh,f8,a4,b3,by rw[b7];exact c8,λq G1 S1 hq=>?_⟩
 rw[b7]at hq
 have a9:=S1 _ _ a4
 have h4:=b3.1
 refine⟨00,Dm,rL,⟨_,SqL.of a9⟩,λDn b4=>?_⟩
 obtain⟨g5,e8,c7,F4⟩:=a7.same S1
 refine xI (js:=[2]) (J:=Itl K Dm) (g:=zaT K 2 (Zm (zG 0) (Zm (zG 1) zbR))) (te:=_) (n:=2) (xs:=us) (λi v G=>∃u x y,I[i]?=some u/\v=.ref x/\G x=some (.tup [.ref y,.int u.2])/\zu G y (Rat.divInt u.1 sb)) (λi v G G' e ⟨u,x,y,q0,q1,q2,q3⟩=>⟨u,x,y,q0,q1,e _ _ q2,e _ _ q3⟩) b4 (xq a9) (xT ∅) ?_ ?_
 ·intro i y zs G2 Q' hy hz a1 hQ
  rcases q:b3.2 i y hy with⟨u,e,e9,rfl,he⟩
  obtain⟨w1,w2,rfl⟩:=zdE hz
  refine⟨e,00,.of (a1 _ _ (S1 _ _ he)),rL,021,022,⟨rL,?_⟩⟩
  refine⟨01,c,C,g5,e8,00,a1 _ _ c7,TC.cls,TC.sb,F4.sb,u.1,sb,rL,yt Z.sb.1,Z.sb.2.md,λy G3 f5 d2=>?_⟩
  exact⟨00,⇑5,λx hx=>hQ _ _ (f5.trans (zq.upd hx)) ⟨u,x,y,e9,rL,zj,zq.upd hx _ _ d2⟩⟩
 intro c9 G2 a1 c3 g6 f7
 refine⟨⇑5,λz hz=>?_⟩
 have SZ:=zq.upd (o:=.tup [.ref q,.ref Dn]) hz
 have fr:H Dn=none:=by
  cases e:H Dn with
  |none=>rfl
  |some o=>rw[S1 _ _ (SG _ _ (b1 _ _ e))]at b4;cases b4
 exact k b5 z _ I q Dn c9 (b1.trans (SG.trans (S1.trans (a1.trans SZ)))) kz zj (SZ _ _ (a1 _ _ hq)) fr (SZ _ _ c3) (PcA.same ⟨by lia,λi v e=>by rw[c6];exact f7 i v e⟩ SZ)
end
theorem zda {t u:TS}{D:ZU}{σ:St}{G:Hp}(h:∀nx:St->Hp->Prop,(∀F I,u D F I->nx F I)->t { D with nx:=nx } σ G):zbt t u D σ G:=h _ λ_ _ q=>q
def XH (l0 z:Int) (t:Int×Int):List (Int×Int):=if t.2=0 then []else [(t.2,z-t.1),(t.2,2*l0-z-t.1)]
def zR (l0 z:Int):List (Int×Int)->List (Int×Int)
 |[]=>[]
 |t::r=>XH l0 z t++zR l0 z r
theorem JA (l0 z:Int):∀a b:List (Int×Int),zR l0 z (a++b)=zR l0 z a++zR l0 z b
 |[],b=>rfl
 |t::a,b=>by show XH l0 z t++zR l0 z (a++b)=_;rw[JA l0 z a b,<-yo];rfl
theorem zbS {l0 z:Int}{trs:List (Int×Int)}{i:Nat}{t:Int×Int}(h:trs[i]?=some t):zR l0 z (trs.take (i+1))=zR l0 z (trs.take i)++XH l0 z t:=by
 rw[yC,h,JA]
 show _++(XH l0 z t++[])=_
 rw[yO]
theorem Xn (l0 z:Int):∀a:List (Int×Int),(zR l0 z a).length<=2*a.length
 |[]=>wn _
 |t::a=>by
  have:=Xn l0 z a
  have h2:(XH l0 z t).length<=2:=by unfold XH;split <;> simp
  show (XH l0 z t++zR l0 z a).length<=_
  rw[wX,wB];lia
theorem Zt {H G:Hp}{L:Addr}{o:HO}(S:zq H G) (F:H L=none):zq H (upd G L o):=λb u e=>by rw[zV (zZ e F)];exact S b u e
theorem ZV.add {H H':Hp}{us:List V}{ps:List (Int×Int)}{u:Int×Int}{a:Addr}(h:ZV H us ps) (e:xA H H') (I:H' a=some (.tup [.int u.1,.int u.2])):ZV H' (us++[.ref a]) (ps++[u]):=by
 have h':=h.tups e
 refine⟨by simp[h'.1],λi v F=>?_⟩
 by_cases c:i<us.length
 ·rw[yd c]at F
  obtain⟨w,b,e1,e2,G⟩:=h'.2 i v F
  exact⟨w,b,by rw[yd (by rw[<-h'.1];exact c)];exact e1,e2,G⟩
 ·rw[wV ∅]at F
  have:i=us.length:=by
   have:=(w4.mp F).1
   simp at this;lia
  subst this
  rw[Wq]at F
  cases F
  exact⟨u,a,by rw[wV (by rw[h'.1];exact wn _),h'.1,Wq];rfl,rfl,I⟩
section
variable {P:Program}{w:World}{K:Fg}{mg:Str->Option Value}{base:Heap}{C CE:Addr}{aN tM:Nat}
inductive zfX (C:Addr) (vs:List V) (H:Hp) (Q:VK) (_e3:XK):Prop
 |mk:∀c z pb sb tk ws trs l0 hi,(vs=[.ref c,.int z])->(Xv H C c pb sb tk ws trs (some l0) hi)->(trs.length<=8)->(Bd 2000 l0.1)->(∀L us H',zq H H'->H L=none->H' L=some (.lst us)->ZV H' us (zR l0.1 z trs)->Q (.ref L) H')->zfX C vs H Q _e3
theorem zas:zC ["course","spot","gaps","start","speed"] ["course","spot"] (zi QX):=scq
theorem zi6 (D:Df K mg "gaps_to" QX ["course","spot"] []) (TC:TCo K C):⇑3 "gaps_to" 1 ["course","spot"] [] (zfX C):=by
 rcases r:D.calq (k:=0) zas with⟨c,z,pb,sb,tk,ws,trs,l0,hi,rfl,b3,b7,bl,k⟩
 obtain⟨dx,fs,hc,F⟩:=id b3
 rcases q:F.low with⟨vl,el,al,rfl,a7⟩
 rcases q:F.tracks with⟨tl,tv,et,a5,hT⟩
 exists(ze (psl (i:=2) zas.nd (qp zd))
  (ze (va PassesOwn.never rfl (xg (xt (pv 0) rfl)) (qZ rfl (zP (pgl (i:=3) zas.nd) (zP (pgl (i:=4) zas.nd) xO))) (zo (xf (zF zk9 (pv 4) zh (zH _)) (ze (qi (XC yJ ui uj qE (pv 2) %[(zX %[4,zy qo (pv 1) (pv 3)|0])|0]))
  (zo (qi (XC yJ ui uj qE (pv 2) %[(zX %[4,zy qo (zy qo (zy zK zh (pxt (xt (pv 0) rfl))) (pv 1)) (pv 3)|0])|0])))) zT)))
  (zo (zE (pv 2)))))
 refine⟨by show 0<=sizeLine;lia,λL hL=>?_⟩
 nofun
 have a9:=hT.1
 have S0:zq H (upd H L (.lst [])):=zq.upd hL
 have L0:upd H L (.lst []) L=some (.lst []):=zj
 generalize upd H L (.lst [])=H0 at S0 L0
 rcases s:(λσ' G=>∃us x1 x2,σ'=[Sr c,Si z,Sr L,x1,x2]/\zq H G/\G L=some (.lst us)/\ZV G us (zR l0.1 z trs))
 ·intro nx b1
  exists 00,c,C,dx,fs,00,S0 _ _ hc,TC.cls,TC.tracks,et,tl,rfl,⟨_,SqL.of (S0 _ _ a5)⟩
  refine vt (xs:=tv) (λi σ' G=>∃us x1 x2,σ'=[Sr c,Si z,Sr L,x1,x2]/\zq H G/\G L=some (.lst us)/\ZV G us (zR l0.1 z (trs.take i)))
   ⟨[],none,none,rfl,S0,L0,⟨rfl,λi v e=>by cases e⟩⟩ (λi σ' G _ ⟨_,_,_,_,S,_⟩=>SqL.of (S _ _ a5)) ?_ ?_
  ·rintro i y σ' G hy U;rcases q:U with⟨us,x1,x2,rfl,S,hG,Y⟩
   rcases q:hT.2 i y hy with⟨I,b0,p,rfl,hp⟩
   have eg:=zbS (l0:=l0.1) (z:=z) b0
   have ul:us.length<=16:=by
    rw[Y.1]
    have:=Xn l0.1 z (trs.take i)
    rw[yk]at this
    lia
   have b6:=S _ _ a7
   exists p,00,.of (S _ _ hp),rfl,021,022
   dsimp only[zG]
   unfold XH at eg
   refine⟨00,rL,00,vu (λq=>?_) (λq=>?_)⟩
   ·have h0:¬I.2=0:=λe=>by rw[wm (show V.int I.2=V.int 0 by rw[e])]at q;cases q
    rw[if_neg h0]at eg
    refine⟨00,.inl ⟨rL,_,SqL.of hG⟩,02,022,⇑5,λO a1=>?_⟩
    have S1:zq G (upd G O (.tup [.int I.2,.int (z-I.1)])):=zq.upd a1
    have a4:=S1 _ _ hG
    have b5:=Y.tups (.of S1)
    exists L,us,00,rfl,a4,szl ∅
    have nt:O≠L:=λe=>by rw[e,hG]at a1;cases a1
    have a8:ZV (upd (upd G O (.tup [.int I.2,.int (z-I.1)])) L (.lst (us++[.ref O]))) (us++[.ref O]) (zR l0.1 z (trs.take i)++[(I.2,z-I.1)]) :=
     b5.add (xA.upd a4) (by rw[zV nt];exact zj)
    have S2:zq H (upd (upd G O (.tup [.int I.2,.int (z-I.1)])) L (.lst (us++[.ref O]))):=Zt (S.trans S1) hL
    have W:upd (upd G O (.tup [.int I.2,.int (z-I.1)])) L (.lst (us++[.ref O])) L=some (.lst (us++[.ref O])):=zj
    generalize upd (upd G O (.tup [.int I.2,.int (z-I.1)])) L (.lst (us++[.ref O]))=G2 at a8 S2 W
    have a6:=S2 _ _ a7
    refine⟨00,.inl ⟨rL,_,SqL.of W⟩,01,c,C,dx,fs,00,S2 _ _ hc,TC.cls,TC.low,el,al,032,.of a6,at0 ..,022,⟨b2i,b2k bl⟩,00,022,00,022,⇑5,λt2 a2=>?_⟩
    have S3:zq G2 (upd G2 t2 (.tup [.int I.2,.int (2*l0.1-z-I.1)])):=zq.upd a2
    have a3:=S3 _ _ W
    refine⟨L,022,a3,szl (by rw[wX,uf];lia),⟨031,Zt (S2.trans S3) hL,zj,?_⟩⟩
    have b2:t2≠L:=λe=>by rw[e,W]at a2;cases a2
    rw[eg,show zR l0.1 z (trs.take i)++[(I.2,z-I.1),(I.2,2*l0.1-z-I.1)]=(zR l0.1 z (trs.take i)++[(I.2,z-I.1)])++[(I.2,2*l0.1-z-I.1)] by simp]
    exact(a8.tups (.of S3)).add (xA.upd a3) (by rw[zV b2];exact zj)
   ·have h0:I.2=0:=by
     rcases Decidable.em (I.2=0)with e | e
     ·exact e
     ·rw[wx (show ¬V.int I.2=V.int 0 from λz=>e (by injection z))]at q;exact absurd rfl q
    rw[if_pos h0,yO]at eg
    exact⟨us,021,S,hG,by rw[eg];exact Y⟩
  ·rintro σ' G U;rcases q:U with⟨us,x1,x2,rfl,S,hG,Y⟩
   exact b1 _ _ ⟨us,x1,x2,rfl,S,hG,by rw[a9,yr]at Y;exact Y⟩
 rintro σ' G U;rcases q:U with⟨us,x1,x2,rfl,S,b4,Y⟩
 exact⟨00,k L us G S hL b4 Y⟩
end
section
variable {P:Program}{w:World}{K:Fg}{mg:Str->Option Value}{base:Heap}{C CE:Addr}{aN:Addr}{tM:Nat}
def dif (T:Int) (b e:Int×Int) (g:Int×Int):Int:=zam g.1 g.2 (some T) e.1 e.2-zam g.1 g.2 (some T) b.1 b.2
structure RtA (H:Hp) (vs:List V) (us:List V) (gs:List (Int×Int)) (T:Int) (b e:Int×Int):Prop where
 ex:∃L p q:Addr,vs=[.ref L,.int T,.ref p,.ref q]/\H L=some (.lst us)/\H p=some (.tup [.int b.1,.int b.2])/\H q=some (.tup [.int e.1,.int e.2])
 ps:ZV H us gs
 l16:gs.length<=16
 bg:∀g∈gs,Bd 3000 g.1/\Bd 3000 g.2
 T0:0<T/\Bd 3000 T
 bb:Bd 2000 b.1/\Bd 2000 b.2/\0<b.2
 be:Bd 2000 e.1/\Bd 2000 e.2/\0<e.2
inductive zci (C:Addr) (vs:List V) (H:Hp) (Q:VK) (E:XK):Prop
 |mk:∀us gs T b e,(RtA H vs us gs T b e)->(((∀g∈gs,dif T b e g<=1000)/\Q .non H\/(∃g∈gs,1000<dif T b e g)/\E (.ref C) none H))->zci C vs H Q E
theorem zce:zC ["gaps","trip","begin","end","speed","gap"] ["gaps","trip","begin","end"] (zi qP):=scq
theorem zhh (D:Df K mg "refuse_too_many" qP ["gaps","trip","begin","end"] []) (O:zks "TooMany" CE mg base) (TM:mg "MOST_LOOKED_AT" = some (.int 1000 tM)) (V:⇑3 "passes" 1 ["speed","gap","trip","ticks"] [] zf1):Qh P w K mg base "refuse_too_many" 2 ["gaps","trip","begin","end"] [] (zci CE):=by
 rcases r:D.cal1 (k:=1) zce (λvs H Q E h=>by obtain⟨_,_,_,_,_,h,_⟩:=h;obtain⟨_,_,_,rfl,_⟩:=h.ex;rfl) with⟨us,gs,T,b,e,R,K'⟩
 rcases q:R.ex with⟨L,p,q,rfl,hL,hp,hq⟩
 exists(zo (va PassesOwn.leaving rfl (xg (pv 0)) (qZ rfl (zP (pgl (i:=4) zce.nd) (zP (pgl (i:=5) zce.nd) xO))) (zo (xf (zF XB (zy qo (zD V hr %[4,5,1,3|0]) (zD V hr %[4,5,1,2|0])) (zan (v:=.int 1000) ⇑2 TM ⟨_,rfl⟩) (zH _)) (zo (zfv O Yo ⇑0 Yo hr.hd JY %[Zc|0])) zT))))
 exists 00,L,rfl,⟨_,SqL.of hL⟩
 refine vt (xs:=us) (λi Y G=>G=H/\(∃x1 x2,Y=[Sr L,Si T,Sr p,Sr q,x1,x2])/\∀g∈gs.take i,dif T b e g<=1000) ⟨rfl,⟨none,none,rfl⟩,λg m=>by simp at m⟩ (λi Y G _ ⟨e,_⟩=>by rw[e];exact SqL.of hL) ?_ (λY G ⟨e,_,h⟩=>by
  rcases K' with⟨_,k⟩ | ⟨⟨g,m,hg⟩,_⟩
  ·rw[e];exact k
  rw[R.ps.1,yr]at h
  have:=h g m
  omega)
 rintro i y Y G hy a1;rcases q:a1 with⟨rfl,⟨x1,x2,rfl⟩,hi⟩
 rcases q:R.ps.2 i y hy with⟨g,a,eg,rfl,ha⟩
 have S:=wU eg
 obtain⟨U,W⟩:=R.bg g S
 exists a,00,.of ha,rfl,021,022
 dsimp only[zG]
 have bt:∀x,(some T:Option Int)=some x->0<x/\Bd 3000 x:=λx e=>by cases e;exact R.T0
 exists 03,g.1,g.2,some T,q,e.1,e.2,rfl,hq,U,W,bt,R.be.1,R.be.2.1,R.be.2.2
 exists 03,g.1,g.2,some T,p,b.1,b.2,rfl,hp,U,W,bt,R.bb.1,R.bb.2.1,R.bb.2.2,022
 refine⟨022,00,vu (λz=>?_) (λz=>?_)⟩
 ·rcases K' with⟨hd,_⟩ | ⟨_,k⟩
  ·have:=hd g S;have:=ww z;unfold dif at *;omega
  ·exact⟨zL1,k⟩
 ·refine⟨rL,⟨_,_,rL⟩,λI m=>?_⟩
  rw[yC,eg]at m
  rcases ya.mp m with m | m
  ·exact hi I m
  ·have:I=g:=↥m
   subst this
   have:¬(1000:Int)<zam I.1 I.2 (some T) e.1 e.2-zam I.1 I.2 (some T) b.1 b.2:=λq=>z (wm q)
   unfold dif;omega
def v4 (T F:Int) (g:Int×Int):Int:=T*F.fdiv (zY g.1)
def Xy (F:Int) (g:Int×Int):Int:=g.2*F.fdiv g.1
def zb0 (T F b:Int) (g:Int×Int):Int:=b+1+(Xy F g-b-1) % v4 T F g
def zg3 (T F b:Int) (g:Int×Int) (n:Nat):List Int:=V0 (zb0 T F b g) (v4 T F g) n
inductive zf0  (vs:List V) (H:Hp) (Q:VK) (_e3:XK):Prop
 |mk:∀a T F b e g n,(vs=[.ref a,.int T,.int F,.int b,.int e])->(H a=some (.tup [.int g.1,.int g.2]))->(g.1≠0)->(Bd 3000 g.1)->(Bd 3000 g.2)->(Bd 3000 T)->(Bd 2000 F)->(0<v4 T F g)->(Builtin.Range.rangeSize (zb0 T F b g) e (v4 T F g)=((n:Nat):Int))->(n<=10000)->(∀l H',zq H H'->H l=none->H' l=some (.lst ((zg3 T F b g n).map V.int))->Q (.ref l) H')->zf0 vs H Q _e3
theorem Vb:zC ["gap","trip","bottom","begin","end","speed","way","offset","step","first"] ["gap","trip","bottom","begin","end"] (zi qN):=scq
theorem JV {n:Nat}{i:Int}(h:Bd n i):Bd n (zY i):=by unfold zY;split;exact h.neg;exact h
theorem zgv {i:Int}(h:i≠0):zY i≠0:=by unfold zY;split <;> omega
theorem Vo {n:Nat}{i j:Int}(h:Bd n i):Bd (n+1) (i.fdiv j):=by
 show (i.fdiv j).natAbs<2^(n+1)
 have h':i.natAbs<2^n:=h
 have p:2^(n+1)=2^n+2^n:=by rw[Nat.pow_succ];lia
 have:=Int.natAbs_fdiv_le_natAbs i j
 lia
theorem zjj (D:Df K mg "moments_between" qN ["gap","trip","bottom","begin","end"] []) (T:TxB K mg) (V:mg "list" = none):⇑3 "moments_between" 1 ["gap","trip","bottom","begin","end"] [] zf0:=by
 rcases r:D.calq (k:=0) Vb with⟨a,T',F,b,e,g,n,rfl,ha,O,I,W,U,G,hs,Y,hz,k⟩
 exists(ze (Ze (pv 0) (qZ rfl (zP (pgl (i:=5) Vb.nd) (zP (pgl (i:=6) Vb.nd) xO))))
  (ze (psl (i:=7) Vb.nd (zy zK (pv 6) (zy xF (pv 2) (pv 5))))
  (ze (psl (i:=8) Vb.nd (zy zK (pv 1) (zy xF (pv 2) (zO qH ⇑2 T.nAbs yI %[5|0]))))
  (ze (psl (i:=9) Vb.nd (zy xr (zy xr (pv 3) zh) (zy vO (zy qo (zy qo (pv 7) (pv 3)) zh) (pv 8))))
  (zo (zE (zba rfl ⇑2 V ⇑2 T.nRange %[9,4,8|0])))))))
 exists 00,a,00,.of ha,rfl,021,022
 dsimp only[zG]
 have B:∀{n:Nat}{i:Int},Bd n i->n<=1000000->Bd 1000000 i:=λh l=>h.mono l
 exists 02,022,⟨O,I.md⟩,022,⟨B W ⇑1,B (Vo G) ⇑1⟩
 nofun
 exists 03,022,⟨zgv O,(JV I).md⟩,022,⟨B U ⇑1,B (Vo G) ⇑1⟩
 nofun
 exists 00,022,01,022,022,00,022,hs,022
 nofun
 refine⟨02,_,_,_,n,rL,yt hs,?_,Y,hz,λl S=>k l _ (zq.upd S) S zj⟩
 exact(U.mul (Vo (j:=zY g.1) G)).md
end
end KK
namespace L2
open PySem PySem.Spec PyProof.Rows
section
variable {X:Cx}
theorem zcE:zkq X .Mult (rI VC λi j=>.int (i*j)):=by
 rintro pz s σ H x y u v Q I S O ⟨i,j,rfl,rfl,G,q⟩
 obtain⟨t,rfl⟩:=(show ∃t,u=Value.int i t from S)
 obtain⟨F,rfl⟩:=(show ∃F,v=Value.int j F from O)
 exact PyProof.Rows.imul_int ⟨.int (i*j),H,I.tok _,⟨_,rL⟩,q⟩ (IntMulOk.of_le G.1.bits G.2.bits ⇑1)
theorem qV {f:Str}{v x:V}:∀{fs:List (Str×V)},fs.lookup f=some x->(x6 f v fs).length=fs.length
 |[],h=>by cases h
 | (g,y)::r,h=>by
  unfold x6
  by_cases e:g=f
  ·rw[if_pos e];rfl
  ·rw[if_neg e]
   have:(f == g)=false:=beq_eq_false_iff_ne.mpr (λz=>e z.symm)
   rw[List.lookup_cons,this]at h
   rw[wB,wB,qV h]
end
end L2
namespace KK
open PySem L2 KM
variable {P:Program}{w:World}{K:Fg}{mg:Str->Option Value}{base:Heap}
def BdP (n:Nat) (t:Int×Int):Prop:=Bd n t.1/\Bd n t.2
theorem Jg.map {H:Hp}{tv:List V}{trs:List (Int×Int)}{f:Int×Int->Int×Int}(F:tv.length=trs.length) (h:∀(i:Nat) (v:V),tv[i]?=some v->∃t,trs[i]?=some t/\QH H v (some (f t))):Jg H tv (trs.map f) :=
 ⟨by rw[wc];exact F,λi v e=>by obtain⟨t,e1,e2⟩:=h i v e;exact⟨f t,by rw[wo,e1];rfl,e2⟩⟩
def CoT (H:Hp) (C c tl:Addr) (pb sb:Int) (tk:Rat) (ws:List Int) (trs:List (Int×Int)) (lo hi:Option (Int×Int)):Prop:=∃dx fs tv,H c=some (.ins C dx fs)/\CoF H fs pb sb tk ws trs lo hi/\fs.lookup ("tracks":Str)=some (V.ref tl)/\H tl=some (.lst tv)/\Jg H tv trs
def scT (m:Int) (t:Int×Int):Int×Int:=(t.1*m,t.2*m)
inductive zf2  (vs:List V) (H:Hp) (Q:VK) (_e3:XK):Prop
 |mk:∀v m o,(vs=[v,.int m])->(QH H v o)->(Bd 5000 m)->((∀t,o=some t->BdP 5000 t))->(∀v' H',zq H H'->QH H' v' (o.map (scT m))->Q v' H')->zf2 vs H Q _e3
theorem zjK:zC ["track","many"] ["track","many"] (zi Q9):=scq
theorem zjm (D:Df K mg "refined" Q9 ["track","many"] []):⇑3 "refined" 1 ["track","many"] [] zf2:=by
 rcases r:D.calq (k:=0) zjK with⟨v,m,o,rfl,O,G,S,k⟩
 exists(ze (xf (zF qY (pv 0) xC (zH _)) (zo (zE xC)) zT)
  (zo (zE (zX %[zy zK (pxt (pv 0)) (pv 1),zy zK (pxt (pv 0)) (pv 1)|0]))))
 cases o with
 |none =>
  obtain rfl:v=.non:=O
  exact⟨00,rL,00,xM (k _ _ (zq.refl _) rL)⟩
 |some t =>
  obtain⟨a,rfl,I⟩:=O
  have z:=S t rfl
  refine⟨00,rL,00,xi ?_⟩
  refine⟨00,a,032,.of I,rL,00,022,⟨z.1.md,G.md⟩,00,a,032,.of I,rL,00,022,⟨z.2.md,G.md⟩,⇑5,λU F=>?_⟩
  exact k _ _ (zq.upd F) ⟨U,rL,zj⟩
inductive zjZ (C:Addr) (vs:List V) (H:Hp) (Q:VK) (_e3:XK):Prop
 |mk:∀c tl m pb sb tk ws trs lo hi,(vs=[V.ref c,.int m])->(CoT H C c tl pb sb tk ws trs lo hi)->(trs.length<=8)->(Bd 5000 m)->(Bd 5000 pb)->(Bd 5000 sb)->((∀t∈trs,BdP 5000 t))->((∀l,lo=some l->BdP 5000 l))->((∀l,hi=some l->BdP 5000 l))->(∀H' tl',xj c H H'->H tl'=none->CoT H' C c tl' (pb*m) (sb*m) tk ws (trs.map (scT m)) (lo.map (scT m)) (hi.map (scT m))->Q .non H')->zjZ C vs H Q _e3
theorem zlm:zC ["course","many"] ["course","many"] (zi V7):=scq
theorem zkX {C:Addr}(D:Df K mg "refine" V7 ["course","many"] []) (I:TCo K C) (a3:⇑3 "refined" 1 ["track","many"] [] zf2):⇑3 "refine" 2 ["course","many"] [] (zjZ C):=by
 rcases r:D.calBq (k:=1) zlm with⟨c,tl,m,pb,sb,tk,ws,trs,lo,hi,rfl,⟨dx,fs,tv,W,F,elt,b1,a4⟩,d2,zm,c6,d0,zt,b7,c0,k⟩
 obtain⟨tp,f1,f2⟩:=F.tick
 obtain⟨b8,f3,f4⟩:=F.weights
 obtain⟨v1,f5,f6⟩:=F.low
 obtain⟨v2,f7,f8⟩:=F.high
 have d1:=F.len
 exists(Ql (Bx.mk (JL (pv 0) (pv 1) zcE))
  (Ql (Bx.mk (JL (pv 0) (pv 1) zcE))
  (Ql (Bx.mk (Zf (pv 0) (qj (NB:=["track"]) (FR:=["many"]) (js:=[1]) rfl rfl (λ_ _ h=>h) (.cons rfl rfl rfl ⟨_,rfl⟩ .nil) rfl ⇑0 rfl ⇑0 (xg (xt (pv 0) rfl)) (by intro _ _ _;refine⟨?_,?_,?_⟩;(exact(pgl (i:=0) (show List.Nodup (["track","many"]:List Str) by decide +kernel)));(exact xE);(exact(zD a3 hr %[0,1|0])))) rfl))
  (Ql (Bx.mk (Zf (pv 0) (zD a3 hr %[xt (pv 0) rfl,1|0]) rfl))
  (Bx.mk (zo (Zf (pv 0) (zD a3 hr %[xt (pv 0) rfl,1|0]) rfl)))))))
 have nc:∀{G:Hp}{dx:Addr}{fs:List (Str×V)}{b:Addr}{o:HO},G c=some (.ins C dx fs)->G b=some o->(∀dx fs,o≠.ins C dx fs)->b≠c:=λh1 h2 h3 z=>by subst z;rw[h1]at h2;cases h2;exact h3 _ _ rfl
 exists 00,c,C,dx,fs,00,W,I.cls,I.pb,F.pb,00,022,⟨c6.md,zm.md⟩,dx,fs,W,by lia
 have l1:(x6 ("place_bottom":Str) (.int (pb*m)) fs).length=fs.length:=qV F.pb
 have e1:∀g:Str,g≠"place_bottom"->(x6 ("place_bottom":Str) (.int (pb*m)) fs).lookup g=fs.lookup g:=λg n=>by rw[xv,if_neg n]
 have p1:(x6 ("place_bottom":Str) (.int (pb*m)) fs).lookup ("place_bottom":Str)=some (.int (pb*m)):=by rw[xv,if_pos rfl]
 generalize x6 ("place_bottom":Str) (.int (pb*m)) fs=fs1 at l1 e1 p1
 have X1:xj c H (upd H c (.ins C dx fs1)):=.upd
 have c1:upd H c (.ins C dx fs1) c=some (.ins C dx fs1):=zj
 generalize upd H c (.ins C dx fs1)=G1 at X1 c1
 exists 00,c,C,dx,fs1,00,c1,I.cls,I.sb,(e1 _ ⇑1).trans F.sb,00,022,⟨d0.md,zm.md⟩,dx,fs1,c1,by lia
 have l2:(x6 ("speed_bottom":Str) (.int (sb*m)) fs1).length=fs1.length:=qV ((e1 _ ⇑1).trans F.sb)
 have e2:∀g:Str,g≠"speed_bottom"->(x6 ("speed_bottom":Str) (.int (sb*m)) fs1).lookup g=fs1.lookup g:=λg n=>by rw[xv,if_neg n]
 have p2:(x6 ("speed_bottom":Str) (.int (sb*m)) fs1).lookup ("speed_bottom":Str)=some (.int (sb*m)):=by rw[xv,if_pos rfl]
 generalize x6 ("speed_bottom":Str) (.int (sb*m)) fs1=fs2 at l2 e2 p2
 have X2:xj c H (upd G1 c (.ins C dx fs2)):=X1.trans .upd
 have c2:upd G1 c (.ins C dx fs2) c=some (.ins C dx fs2):=zj
 generalize upd G1 c (.ins C dx fs2)=G2 at X2 c2
 have t2:xA H G2:=X2.tup W
 have Y:=X2 _ _ (nc W b1 (λ_ _ z=>by cases z)) b1
 nofun
 refine jZ (K:=K) ?_
 refine⟨00,c,C,dx,fs2,00,c2,I.cls,I.tracks,(e2 _ ⇑1).trans ((e1 _ ⇑1).trans elt),tl,rL,⟨_,SqL.of Y⟩,λO S=>?_⟩
 refine xI (J:=Itl K tl) (n:=1) (js:=[1]) (g:=zG 0) (te:=_) (xs:=tv) (λi v G=>∃t,trs[i]?=some t/\QH G v (some (scT m t))) (λ_ _ _ _ t ⟨x,h1,h2⟩=>⟨x,h1,h2.keeps t⟩) S (xq Y) (vJ (by have:=a4.1;lia)) ?_ ?_
 ·intro i x zs H3 Q' hx hz s3 hk
  obtain⟨z1,rfl⟩:=XL hz
  obtain⟨t,et,b9⟩:=(a4.keeps (t2.trans (.of s3))).2 i x hx
  dsimp only[zG]
  exact⟨rfl,01,x,m,some t,rfl,b9,zm,λu e=>by cases e;exact zt t (wU et),λv' H' s' h'=>hk _ _ s' ⟨t,et,h'⟩⟩
 intro y3 H3 s3 a6 a7 b5
 refine qx ⇑2 (s3 _ _ c2) I.cls I.tracks ∅ λG3 a2 c3=>?_
 have l3:(x6 ("tracks":Str) (.ref O) fs2).length=fs2.length:=qV ((e2 _ ⇑1).trans ((e1 _ ⇑1).trans elt))
 have e3:∀g:Str,g≠"tracks"->(x6 ("tracks":Str) (.ref O) fs2).lookup g=fs2.lookup g:=λg n=>by rw[xv,if_neg n]
 have p3:(x6 ("tracks":Str) (.ref O) fs2).lookup ("tracks":Str)=some (.ref O):=by rw[xv,if_pos rfl]
 generalize x6 ("tracks":Str) (.ref O) fs2=fs3 at l3 e3 p3 c3
 have X3:xj c H G3:=X2.trans ((xj.of s3).trans a2)
 have t3:xA H G3:=X3.tup W
 have U:G3 O=some (.lst y3):=a2 _ _ (nc (s3 _ _ c2) a6 (λ_ _ z=>by cases z)) a6
 have b3:H O=none:=by
  cases e:H O with
  |none=>rfl
  |some o =>
   by_cases hz:O=c
   ·rw[hz,c2]at S;cases S
   ·rw[X2 _ _ hz e]at S;cases S
 have c8:Jg G3 y3 (trs.map (scT m)):=(Jg.map (by rw[a7];exact a4.1) b5).keeps (a2.tup (s3 _ _ c2))
 have g5:fs3.lookup ("low":Str)=some v1:=(e3 _ ⇑1).trans ((e2 _ ⇑1).trans ((e1 _ ⇑1).trans f5))
 have g7:fs3.lookup ("high":Str)=some v2:=(e3 _ ⇑1).trans ((e2 _ ⇑1).trans ((e1 _ ⇑1).trans f7))
 refine jZ (K:=K) ?_
 refine zaI ⟨_,rL,c,C,dx,fs3,_,rL,c3,I.cls,I.low,g5,_,rL,v1,m,lo,rL,f6.keeps t3,zm,b7,λlv H4 s4 c9=>?_⟩
 refine qx ⇑2 (s4 _ _ c3) I.cls I.low ∅ λG4 b4 c4=>?_
 have l4:(x6 ("low":Str) lv fs3).length=fs3.length:=qV g5
 have e4:∀g:Str,g≠"low"->(x6 ("low":Str) lv fs3).lookup g=fs3.lookup g:=λg n=>by rw[xv,if_neg n]
 have p4:(x6 ("low":Str) lv fs3).lookup ("low":Str)=some lv:=by rw[xv,if_pos rfl]
 generalize x6 ("low":Str) lv fs3=fs4 at l4 e4 p4 c4
 have a8:xj c G3 G4:=(xj.of s4).trans b4
 have X4:xj c H G4:=X3.trans a8
 have t4:xA H G4:=X4.tup W
 have a9:=c9.keeps (b4.tup (s4 _ _ c3))
 have g8:fs4.lookup ("high":Str)=some v2:=(e4 _ ⇑1).trans g7
 refine zcQ (K:=K) ?_
 refine zaI ⟨_,rL,c,C,dx,fs4,_,rL,c4,I.cls,I.high,g8,_,rL,v2,m,hi,rL,f8.keeps t4,zm,c0,λhv H5 s5 c7=>?_⟩
 refine qx (rest:=ZU.nx) ⇑2 (s5 _ _ c4) I.cls I.high ∅ λG5 b0 c5=>?_
 have l5:(x6 ("high":Str) hv fs4).length=fs4.length:=qV g8
 have e5:∀g:Str,g≠"high"->(x6 ("high":Str) hv fs4).lookup g=fs4.lookup g:=λg n=>by rw[xv,if_neg n]
 have p5:(x6 ("high":Str) hv fs4).lookup ("high":Str)=some hv:=by rw[xv,if_pos rfl]
 generalize x6 ("high":Str) hv fs4=fs5 at l5 e5 p5 c5
 have a1:xj c G4 G5:=(xj.of s5).trans b0
 have b2:=a8.trans a1
 have X5:xj c H G5:=X4.trans a1
 have t5:xA H G5:=X5.tup W
 have b6:=b2 _ _ (nc c3 U (λ_ _ z=>by cases z)) U
 have a5:=c8.keeps (b2.tup c3)
 have q3:fs5.lookup ("tracks":Str)=some (.ref O):=(e5 _ ⇑1).trans ((e4 _ ⇑1).trans p3)
 refine k G5 O X5 b3 ⟨dx,fs5,y3,c5,⟨?_,?_,⟨tp,?_,t5 _ _ f2⟩,⟨b8,?_,X5 _ _ (nc W f4 (λ_ _ z=>by cases z)) f4⟩,⟨O,y3,q3,b6,a5⟩,⟨lv,(e5 _ ⇑1).trans p4,a9.keeps (a1.tup c4)⟩,⟨hv,p5,c7.keeps (b0.tup (s5 _ _ c4))⟩,by lia⟩,q3,b6,a5⟩
 ·exact(e5 _ ⇑1).trans ((e4 _ ⇑1).trans ((e3 _ ⇑1).trans ((e2 _ ⇑1).trans p1)))
 ·exact(e5 _ ⇑1).trans ((e4 _ ⇑1).trans ((e3 _ ⇑1).trans p2))
 ·exact(e5 _ ⇑1).trans ((e4 _ ⇑1).trans ((e3 _ ⇑1).trans ((e2 _ ⇑1).trans ((e1 _ ⇑1).trans f1))))
 ·exact(e5 _ ⇑1).trans ((e4 _ ⇑1).trans ((e3 _ ⇑1).trans ((e2 _ ⇑1).trans ((e1 _ ⇑1).trans f3))))
end KK
namespace L2
open PySem PySem.Spec PyProof.Rows
section
variable {J:It}{D:Addr}{n:Nat}{js:List Nat}{σ:St}{g:TG}{tt:TT}{te:TE}{Z:Hp->Prop}{H:Hp}{xs:List V}
theorem zdq (p:V->Bool) (hD:H D=none) (Y:zbF J H xs) (hl:xs.length<sizeLine)
  (hs:∀(i:Nat) (x:V) (zs:St) (H2:Hp) (A:VK) (B:Hp->Prop),xs[i]?=some x->zs.length=n->zq H H2->(p x=true->A x H2)->(p x=false->B H2)->g x (zs++qF σ js) H2 λF H4=>F.drop n=qF σ js/\tt F H4 λb G=>if b=true then te F G A else B G)
  (k:∀H',zq H H'->H' D=some (.lst (xs.filter p))->Z H') :
  ∃W:Nat->Nat->Hp->List V->Prop,(∃m,W 0 m (upd H D (.lst [])) [])/\∀i m H2 ys,W i m H2 ys->H2 D=some (.lst ys)->(J.stop i H2/\Z H2) ∨
   (J.go i H2/\∀zs x I,zs.length=n->J.yld i H2 x I->g x (zs++qF σ js) I λF H4=>F.drop n=qF σ js/\tt F H4 λb G=>if b=true then te F G (λv H6=>H6 D=some (.lst ys)/\ys.length<sizeLine/\∃S,S<m/\W (i+1) S (upd H6 D (.lst (ys++[v]))) (ys++[v]))
    else G D=some (.lst ys)/\∃S,S<m/\W (i+1) S G ys):=by
 refine ZZ (Q:=λ_ H=>Z H) (tt:=tt) (N:=xs.length) (λi H2 ys=>zq H H2/\ys=(xs.take i).filter p) ⟨zq.upd hD,rfl⟩ (λi H2 ys hi p=>Y.go i H2 hi p.1) (λH2 ys p=>Y.stop H2 p.1) ?_ (λH2 ys q e=>k H2 q.1 (by rw[e,q.2,yr]))
 rintro i x zs H2 I ys Nx hN hi hz hy ⟨U,rfl⟩ O
 obtain⟨rfl,hx⟩:=Y.yld i x H2 I U hy
 have et:xs.take (i+1)=xs.take i++[x]:=by rw[yC,hx];rfl
 refine hs i x zs I _ _ hx hz U (λhp=>⟨O,?_,hN _ _ ⟨λc o e=>?_,?_⟩⟩) (λhp=>⟨O,hN _ _ ⟨U,?_⟩⟩)
 ·have:=uT p (xs.take i)
  have:=List.length_take_le i xs
  lia
 ·rw[zV (zZ e hD)];exact U _ _ e
 ·rw[et,ut];simp[hp]
 ·rw[et,ut];simp[hp]
end
end L2
namespace KK
open PySem L2 KM
variable {P:Program}{w:World}{K:Fg}{mg:Str->Option Value}{base:Heap}{C CE aN:Addr}{tM:Nat}{CB CP C0:Addr}
def Xh (lo hi:Option (Int×Int)) (top bot:Int) (tr:Int×Int):Int:=(vE (wsc lo bot) (wsc hi bot) (tr.1*bot+tr.2*top) tr.2).1
def qR (lo hi:Option (Int×Int)) (trs:List (Int×Int)) (k z top bot:Int):Bool :=
 decide (((((trs.map (Xh lo hi top bot)).countP λx=>decide (x<z*bot):Nat):Int)<=k)/\k<(((trs.map (Xh lo hi top bot)).countP λx=>decide (x<z*bot):Nat):Int)+(((trs.map (Xh lo hi top bot)).countP λx=>decide (x=z*bot):Nat):Int))
def ltI (n:Int):V->Bool
 |.int x=>decide (x<n)
 |_=>false
theorem zcM (n:Int):∀xs:List Int,((xs.map V.int).filter (ltI n)).length=xs.countP λx=>decide (x<n)
 |[]=>rfl
 |x::xs=>by
  rw[yn,List.filter_cons,uH,<-zcM n xs]
  show (if decide (x<n)=true then _ else _:List V).length=_
  split <;> simp
inductive zf5 (C:Addr) (vs:List V) (H:Hp) (Q:VK) (_e3:XK):Prop
 |mk:∀c t k z pb sb tk ws trs lo hi top bot,(vs=[.ref c,.int k,.int z,.ref t])->(Xv H C c pb sb tk ws trs lo hi)->(H t=some (.tup [.int top,.int bot]))->(trs.length<=8)->((∀tr∈trs,Bd 2000 tr.1/\Bd 2000 tr.2))->(Bd 2000 z)->(Bd 2000 top)->(Bd 2000 bot)->(0<bot)->(Wb lo)->(Wb hi)->((∀l h,lo=some l->hi=some h->l.1<h.1))->(∀H',zq H H'->Q (.bl (qR lo hi trs k z top bot)) H')->zf5 C vs H Q _e3
theorem zax:zC ["course","k","spot","ticks","spots","wide","below"] ["course","k","spot","ticks"] (zi XX):=scq
theorem zjp (D:Df K mg "is_there" XX ["course","k","spot","ticks"] []) (T:TxB K mg) (TC:TCo K C) (a9:⇑3 "line_at" 1 ["course","track","ticks"] [] (zbn C)):⇑3 "is_there" 2 ["course","k","spot","ticks"] [] (zf5 C):=by
 rcases r:D.calq (k:=1) zax with⟨c,t,kk,z,pb,sb,tk,ws,trs,lo,hi,top,I,rfl,a3,ht,a6,bt,bz,b4,a4,a5,wl,wh,b0,k⟩
 obtain⟨dx,fs,hc,F⟩:=id a3
 rcases q:F.tracks with⟨tl,tv,et,a1,hT⟩
 have hu:=hr.units
 exists(ze (Vv (i:=4) (NB:=["track"]) (FR:=["course","ticks"]) (js:=[0,3]) rfl rfl (λx c h=>XG rfl rfl x c h) (.cons rfl rfl rfl ⟨_,rfl⟩ (.cons rfl rfl rfl ⟨_,rfl⟩ .nil)) rfl ⇑0 rfl ⇑0 zax.nd rfl rfl ⇑2 (xg (xt (pv 0) rfl)) (by intro _ _ _;refine⟨?_,?_,?_⟩;(exact(pgl (i:=0) (show List.Nodup (["track","course","ticks"]:List Str) by decide +kernel)));(exact xE);(exact(qa (vm (K:=K) rfl) (zD a9 hr %[1,0,2|0]) zh (λ_ _=>rfl)))))
  (ze (ZF (i:=5) zax.nd rfl (Or.inr rfl) (zy zK (pv 2) (pxt (pv 3))))
  (ze (psl (i:=6) zax.nd (zO xp ⇑2 T.nLen PySem.boot_len %[(qj (NB:=["one"]) (FR:=["wide"]) (js:=[5]) rfl rfl (λx c h=>VL rfl x c h) (.cons rfl rfl rfl ⟨_,rfl⟩ .nil) rfl ⇑0 rfl ⇑0 (xg (pv 4)) (by intro _ _ _;refine⟨?_,?_,?_⟩;(exact(pgl (i:=0) (show List.Nodup (["one","wide"]:List Str) by decide +kernel)));(exact(Vw (zF Zo (pv 0) (pv 1) (zH _))));(exact(pv 0))))|0]))
  (zo (zE (zfm zic Zo (pv 6) (pv 1) (zy xr (pv 6) (XC yJ PySem.F.slot_list_count PySem.F.type_list_count (zdN (by show _+64<cLine;exact hu)) (pv 4) %[5|0]))))))))
 unfold zbt zcj
 refine⟨00,c,C,dx,fs,00,hc,TC.cls,TC.tracks,et,tl,rL,⟨_,SqL.of a1⟩,λD1 b3=>?_⟩
 refine xI (js:=[0,3]) (J:=Itl K tl) (g:=zG 0) (te:=_) (n:=1) (xs:=tv) (λi v G=>∃n,(trs.map (Xh lo hi top I))[i]?=some n/\v=.int n) (λ_ _ _ _ _ h=>h) b3 (xq a1) (xT (by rw[hT.1];lia)) ?_ ?_
 ·intro i y zs G Q' hy hz S hQ
  obtain⟨w1,rfl⟩:=XL hz
  rcases q:hT.2 i y hy with⟨tr,W,p,rfl,hp⟩
  have b:=bt tr (wU W)
  dsimp only[zG]
  refine⟨rL,02,c,p,t,pb,sb,tk,ws,trs,lo,hi,tr.1,tr.2,top,I,rL,a3.same S,S _ _ hp,S _ _ ht,b.1,b.2,b4,a4,a5,wl,wh,b0,λr H6 S6 a7=>?_⟩
  refine⟨r,032,.of a7,at0 ..,hQ _ _ S6 ⟨_,by rw[wo,W];rfl,rfl⟩⟩
 intro us G S O a8 hR
 dsimp only[zG]
 have eu:us=(trs.map (Xh lo hi top I)).map V.int:=Qv (by rw[wc,a8,hT.1]) λi v e=>hR i v e
 rw[eu]at O
 generalize hsp:trs.map (Xh lo hi top I)=sp at *
 have b5:sp.length<=8:=by rw[<-hsp,wc];exact a6
 have b2:=S _ _ ht
 exists 01,t,032,.of b2,at1 ..,022,⟨b2k bz,b2k a4⟩
 nofun
 refine⟨00,D1,rL,⟨_,SqL.of O⟩,λD2 b1=>?_⟩
 refine zdq (js:=[5]) (J:=Itl K D1) (g:=zG 0) (te:=xy 0) (tt:=_) (n:=1) (xs:=sp.map V.int) (ltI (z*I)) b1 (xq O) (xT (by rw[wc];lia)) ?_ ?_
 ·intro i x zs H2 A B Y hz S2 hA hB
  obtain⟨w1,rfl⟩:=XL hz
  rw[wo]at Y
  cases hm:sp[i]? with
  |none=>rw[hm]at Y;cases Y
  |some n =>
   rw[hm]at Y;cases Y
   dsimp only[zG]
   exists rfl,01,022,00
   by_cases q:n<z*I
   ·rw[wm q];exact xM ⟨_,rfl,hA (wm q)⟩
   ·rw[wx q];exact xi (hB (wx q))
 intro G2 S2 a2
 have lf:((sp.map V.int).filter (ltI (z*I))).length=sp.countP λx=>decide (x<z*I):=zcM _ _
 exists D2,00,.inl (.of a2)
 nofun
 rw[lf]
 have U:=S2 _ _ O
 have SS:=S.trans S2
 unfold qR at k
 rw[hsp]at k
 exists 01,022
 by_cases h0:(((sp.countP λx=>decide (x<z*I):Nat):Int))<=kk
 ·nofun
  rw[wm h0]
  refine⟨00,xM ⟨01,.inl ⟨rL,_,SqL.of U⟩,00,D1,sp,z*I,rL,rL,U,022,022,?_⟩⟩
  have:=k G2 SS
  rw[Bool.decide_and,wm h0,YM]at this
  exact this
 ·nofun
  rw[wx h0]
  refine⟨00,xi ?_⟩
  have:=k G2 SS
  rw[wx (λq=>h0 q.1)]at this
  exact this
def lcF (c:Int) (ks:List Int):Int:=ks.foldl (λc n=>c/(Int.gcd c n:Int)*n) c
theorem zh9 {c n:Int}(I:0<n):c ∣ c/(Int.gcd c n:Int)*n:=by
 obtain⟨m,F⟩:=Wv c n
 obtain⟨d,hd⟩:=uz c n
 have G:0<(Int.gcd c n:Int):=by have:=Yb c (b:=n) ∅;lia
 generalize (Int.gcd c n:Int)=g at *
 refine⟨m,?_⟩
 have:c/g=d:=by rw[hd];exact yf _ ∅
 rw[this,F,hd]
 rw[WQ g d m,YF]
theorem zia {c n:Int}:n ∣ c/(Int.gcd c n:Int)*n:=⟨_,yX ..⟩
theorem zeY {n:Nat}:∀(ks:List Int) (c:Int) (m:Nat),0<c->Bd m c->Pos n ks->0<lcF c ks/\Bd (m+n*ks.length) (lcF c ks)/\c ∣ lcF c ks/\∀k∈ks,k ∣ lcF c ks
 |[],c,m,h,b,_=>⟨h,b,Yu _,λk q=>by cases q⟩
 |k::ks,c,m,h,b,p=>by
  have F:=p k wF
  obtain⟨S,O,G,I⟩:=zeY ks (c/(Int.gcd c k:Int)*k) (m+n) (vM h F.1) (JX h F.1 b F.2) λx q=>p x (wT _ q)
  refine⟨S,O.mono (by rw[wB,Ud];lia),Ww (zh9 F.1) G,λx q=>?_⟩
  rcases wu.mp q with rfl | q
  ·exact Ww zia G
  ·exact I x q
theorem VS {n:Nat}{ks:List Int}(p:Pos n ks):0<xP ks/\Bd (1+n*ks.length) (xP ks)/\∀k∈ks,k ∣ xP ks:=by
 obtain⟨a,b,_,d⟩:=zeY ks 1 1 ⇑1 (show (1:Int).natAbs<2^1 by decide) p
 exact⟨a,b,d⟩
def lkB (b l:Int×Int):Int:=xP [b.2,l.2]
def lkF (b l:Int×Int):Int:=b.1*(lkB b l).fdiv b.2
def lkL (b l:Int×Int):Int:=lkF b l+l.1*(lkB b l).fdiv l.2
def lkN (b l:Int×Int) (gs:List (Int×Int)):Int:=xP (lkB b l::gs.map λg=>zY g.1)
def lkU (b l:Int×Int) (gs:List (Int×Int)) (x:Int):Int:=x*(lkN b l gs).fdiv (lkB b l)
def lkC (T F b e:Int) (g:Int×Int):Nat:=(Builtin.Range.rangeSize (zb0 T F b g) e (v4 T F g)).toNat
def lkW (T F b e:Int) (g:Int×Int):List Int:=zg3 T F b g (lkC T F b e g)
def lkG (T F b e:Int):List (Int×Int)->List Int
 |[]=>[]
 |g::gs=>lkW T F b e g++lkG T F b e gs
theorem zah (T F b e:Int):∀xs ys,lkG T F b e (xs++ys)=lkG T F b e xs++lkG T F b e ys
 |[],ys=>rfl
 |x::xs,ys=>by show lkW T F b e x++lkG T F b e (xs++ys)=_;rw[zah T F b e xs ys,<-yo];rfl
theorem ze4 {T F b e:Int}{gs:List (Int×Int)}{i:Nat}{g:Int×Int}(h:gs[i]?=some g):lkG T F b e (gs.take (i+1))=lkG T F b e (gs.take i)++lkW T F b e g:=by
 rw[yC,h,zah]
 show _++(lkW T F b e g++[])=_
 rw[yO]
theorem ziW (T F b e:Int) (gs:List (Int×Int)) (i:Nat):(lkG T F b e (gs.take i)).length<=(lkG T F b e gs).length:=by
 conv=>rhs;rw[<-yQ i gs,zah,wX]
 lia
def lkM (T:Int) (b l:Int×Int) (gs:List (Int×Int)):List Int:=lkU b l gs (lkF b l)::lkG T (lkN b l gs) (lkU b l gs (lkF b l)) (lkU b l gs (lkL b l)) gs
structure LkA (T:Int) (b l:Int×Int) (gs:List (Int×Int)):Prop where
 l16:gs.length<=16
 bg:∀g∈gs,g.1≠0/\Bd 400 g.1/\Bd 2001 g.2
 T0:0<T/\Bd 2000 T
 bb:Bd 260 b.1/\Bd 140 b.2/\0<b.2
 bl:Bd 140 l.1/\Bd 140 l.2/\0<l.2
structure LkG (T:Int) (b l:Int×Int) (gs:List (Int×Int)):Prop where
 df:∀g∈gs,dif T b (lkL b l,lkB b l) g<=1000
 bn:Bd 1300 (lkN b l gs)
 cn:∀g∈gs,lkC T (lkN b l gs) (lkU b l gs (lkF b l)) (lkU b l gs (lkL b l)) g<=1000
 ln:(lkM T b l gs).length<=3900
 mx:∀ms:List Int,(∀k,k∈ms↔k∈lkM T b l gs)->ms.Nodup->ms.length<=1000
theorem ZX {i:Int}(h:i≠0):0<zY i:=by unfold zY;split <;> lia
theorem bdx {n:Nat}{i j:Int}(F:Bd n j):Bd (n+1) (j.fdiv i):=Vo F
section
variable {T:Int}{b l:Int×Int}{gs:List (Int×Int)}
theorem LkA.pos2 (h:LkA T b l gs):Pos 140 [b.2,l.2]:=λk m=>by
 rcases wu.mp m with rfl | m
 ·exact⟨h.bb.2.2,h.bb.2.1⟩
 ·rcases wu.mp m with rfl | m
  ·exact⟨h.bl.2.2,h.bl.2.1⟩
  ·cases m
theorem LkA.B (h:LkA T b l gs):0<lkB b l/\Bd 290 (lkB b l)/\b.2 ∣ lkB b l/\l.2 ∣ lkB b l:=by
 obtain⟨a,F,c⟩:=VS h.pos2
 exact⟨a,F.mono (by show 1+140*2<=290;decide),c _ wF,c _ (wT _ wF)⟩
theorem LkA.F (h:LkA T b l gs):Bd 590 (lkF b l):=(h.bb.1.mul (bdx h.B.2.1)).md
theorem LkA.L (h:LkA T b l gs):Bd 591 (lkL b l):=by
 have h1:=h.F
 have h2:Bd 590 (l.1*(lkB b l).fdiv l.2):=(h.bl.1.mul (bdx h.B.2.1)).md
 unfold lkL
 have G:(lkF b l).natAbs<2^590:=h1
 have I:(l.1*(lkB b l).fdiv l.2).natAbs<2^590:=h2
 show (lkF b l+l.1*(lkB b l).fdiv l.2).natAbs<2^591
 have:2^591=2^590+2^590:=by rw[Nat.pow_succ];omega
 generalize 2^590=X at *
 omega
theorem LkA.posN (h:LkA T b l gs):Pos 400 (lkB b l::gs.map λg=>zY g.1):=λk m=>by
 rcases wu.mp m with rfl | m
 ·exact⟨h.B.1,h.B.2.1.md⟩
 ·obtain⟨g,mg,rfl⟩:=wj.mp m
  exact⟨ZX (h.bg g mg).1,JV (h.bg g mg).2.1⟩
theorem LkA.N (h:LkA T b l gs):0<lkN b l gs/\lkB b l ∣ lkN b l gs/\∀g∈gs,zY g.1 ∣ lkN b l gs:=by
 obtain⟨a,_,c⟩:=VS h.posN
 exact⟨a,c _ wF,λg m=>c _ (wT _ (wj.mpr ⟨g,m,rL⟩))⟩
theorem LkA.stp (h:LkA T b l gs){g:Int×Int}(m:g∈gs):0<v4 T (lkN b l gs) g:=by
 have p:=ZX (h.bg g m).1
 refine wP h.T0.1 ?_
 rw[wD _ ∅]
 exact Wy h.N.1 ∅ (h.N.2.2 g m)
theorem zfD {a b c:Int}(h:0<c):Builtin.Range.rangeSize a b c=(((Builtin.Range.rangeSize a b c).toNat:Nat):Int):=by
 have:0<=Builtin.Range.rangeSize a b c:=by
  unfold Builtin.Range.rangeSize
  rw[if_pos h]
  split
  ·have:=WP (a:=b-a-1) (b:=c) ∅ ∅;lia
  ·lia
 lia
end
def LzA (H:Hp) (v:V):Option (Int×Int)->Prop
 |none=>v=.non
 |some l=>∃q,v=.ref q/\H q=some (.tup [.int l.1,.int l.2])
def LkO (T:Int) (b:Int×Int) (gs:List (Int×Int)) (ms:List Int) (N:Int):Option (Int×Int)->Prop
 |none=>ms=[b.1]/\N=b.2
 |some l=>N=lkN b l gs/\(∀k,k∈ms↔k∈lkM T b l gs)/\ms.Nodup/\ms.Pairwise (·<=·)
structure LkP (C:Addr) (H:Hp) (vs:List V) (trs:List (Int×Int)) (l0 h0:Int×Int) (z:Int) (b:Int×Int) (lz:Option (Int×Int)):Prop where
 ex:∃c p v pb sb tk ws,vs=[.ref c,.int z,.ref p,v]/\Xv H C c pb sb tk ws trs (some l0) (some h0)/\H p=some (.tup [.int b.1,.int b.2])/\LzA H v lz
 l8:trs.length<=8
 bl:Bd 2000 l0.1
 wl:Wb (some l0)
 wh:Wb (some h0)
inductive zjS (C:Addr) (CE:Addr) (vs:List V) (H:Hp) (Q:VK) (E:XK):Prop
 |mk:∀trs l0 h0 z b lz,(LkP C H vs trs l0 h0 z b lz)->((((∀l,lz=some l->LkA (2*(h0.1-l0.1)) b l (zR l0.1 z trs)/\LkG (2*(h0.1-l0.1)) b l (zR l0.1 z trs))/\∀r L ms N H',zq H H'->H' r=some (.tup [.ref L,.int N])->H' L=some (.lst (ms.map V.int))->LkO (2*(h0.1-l0.1)) b (zR l0.1 z trs) ms N lz->Q (.ref r) H')\/(∃l,lz=some l/\LkA (2*(h0.1-l0.1)) b l (zR l0.1 z trs)/\(∃g∈zR l0.1 z trs,1000<dif (2*(h0.1-l0.1)) b (lkL b l,lkB b l) g)/\∀H',zq H H'->E (.ref CE) none H')))->zjS C CE vs H Q E
theorem Xe:zC ["course","spot","begin","lasting","gaps","bottom","first","last","finer","moments","rising","gap"] ["course","spot","begin","lasting"] (zi Xb):=scq
theorem zkQ (D:Df K mg "looked_at" Xb ["course","spot","begin","lasting"] []) (T:TxB K mg) (TC:TCo K C) (TM:mg "MOST_LOOKED_AT" = some (.int 1000 tM)) (d4:mg "sorted" = none) (d2:mg "set" = none)
  (cL:⇑3 "least_multiple" 2 ["numbers"] [] JP) (d6:⇑3 "gaps_to" 1 ["course","spot"] [] (zfX C)) (b7:⇑3 "trip_of" 1 ["course"] [] (Vd C)) (c9:Qh P w K mg base "refuse_too_many" 2 ["gaps","trip","begin","end"] [] (zci CE)) (c4:⇑3 "moments_between" 1 ["gap","trip","bottom","begin","end"] [] zf0) :
  Qh P w K mg base "looked_at" 3 ["course","spot","begin","lasting"] [] (zjS C CE):=by
 refine D.cal1 (k:=2) Xe (λvs H Q E h=>by obtain⟨_,_,_,_,_,_,h,_⟩:=h;obtain⟨_,_,_,_,_,_,_,rfl,_⟩:=h.ex;rfl) (λf cdv A outer s H vs Q E a2 h=>?_)
 have a5:xc 1 _:=a2.md
 rcases q:h with⟨trs,l0,h0,z,b,lz,R,K'⟩
 rcases q:R.ex with⟨c,p,v,pb,sb,tk,ws,rfl,b2,hp,b6⟩
 exists(ze (xf (zF qY (pv 3) xC (zH _)) (zo (zE (zX %[qp %[pxt (pv 2)|0],pxt (pv 2)|0]))) zT)
  (ze (psl (i:=4) Xe.nd (zD d6 a5 %[0,1|0]))
  (ze (psl (i:=5) Xe.nd (zD cL a2 %[(qp %[pxt (pv 2),pxt (pv 3)|0])|0]))
  (ze (psl (i:=6) Xe.nd (zy zK (pxt (pv 2)) (zy xF (pv 5) (pxt (pv 2)))))
  (ze (psl (i:=7) Xe.nd (zy xr (pv 6) (zy zK (pxt (pv 3)) (zy xF (pv 5) (pxt (pv 3))))))
  (ze (qi (zfn c9 a2 QJ %[4,zD b7 a5 %[0|0],2,(zX %[7,5|0])|0]))
  (ze (psl (i:=8) Xe.nd (zD cL a2 %[(zy zfk (qp %[5|0]) (vF (NB:=["speed","gap"]) rfl ⇑0 ⇑0 rfl ⇑0 (xg (pv 4)) (by intro _ _ _;refine⟨?_,?_,?_⟩;(exact(Xq (K:=K) (n:=2) rfl rfl (zP (pgl (i:=0) (show List.Nodup (["speed","gap"]:List Str) by decide +kernel)) (zP (pgl (i:=1) (show List.Nodup (["speed","gap"]:List Str) by decide +kernel)) xO))));(exact xE);(exact(zO qH ⇑2 T.nAbs yI %[0|0])))))|0]))
  (ze (XS (i:=6) (j:=7) rfl Xe.nd rfl rfl ⇑1 rfl rfl %[zy zK (pv 6) (zy xF (pv 8) (pv 5)),zy zK (pv 7) (zy xF (pv 8) (pv 5))|0] ⇑2)
  (ze (psl (i:=9) Xe.nd (qp %[6|0]))
  (ze (va PassesOwn.leaving rfl (xg (pv 4)) (pgl (i:=11) Xe.nd) (zo (zjx (i:=9) Xe.nd rfl (Or.inl rfl) (zD c4 a5 %[11,zD b7 a5 %[0|0],8,6,7|0]) zeU)))
  (ze (psl (i:=10) Xe.nd (zb9 rfl ⇑2 d4 ⇑2 d2 (pv 9)))
  (ze (xf (zF XB (zO xp ⇑2 T.nLen PySem.boot_len %[10|0]) (zan (v:=.int 1000) ⇑2 TM ⟨_,rfl⟩) (zH _)) (zo zfu) zT)
  (zo (zE (zX %[10,8|0])))))))))))))))
 rcases lz with _ | l
 ·obtain rfl:=b6
  rcases K' with⟨_,k⟩ | ⟨_,e,_⟩
  case inr=>cases e
  refine⟨00,rL,00,xM ⟨00,p,032,.of hp,at0 ..,zL1,λL hL=>?_⟩⟩
  have S1:=zq.upd (o:=.lst [.int b.1]) hL
  have b3:=S1 _ _ hp
  refine⟨00,p,032,.of b3,at1 ..,⇑5,λr hr=>?_⟩
  have S2:=zq.upd (o:=.tup [.ref L,.int b.2]) hr
  exact k r L [b.1] b.2 _ (S1.trans S2) zj (S2 _ _ zj) ⟨rL,rL⟩
 obtain⟨q,rfl,hq⟩:=b6
 have I:LkA (2*(h0.1-l0.1)) b l (zR l0.1 z trs):=by
  rcases K' with⟨hG,_⟩ | ⟨_,e,I,_⟩
  ·exact(hG l rL).1
  ·cases e;exact I
 refine⟨00,rL,00,xi ?_⟩
 refine⟨01,c,z,pb,sb,tk,ws,trs,l0,some h0,rL,b2,R.l8,R.bl,λL us H1 S1 d9 hL hP=>?_⟩
 dsimp only[zG]
 have b3:=S1 _ _ hp
 have d1:=S1 _ _ hq
 have hT:lv (Jd (some l0) (some h0))=V.int (2*(h0.1-l0.1)):=rfl
 generalize 2*(h0.1-l0.1)=T' at *
 generalize zR l0.1 z trs=gs at *
 obtain⟨B0,bB,_,_⟩:=I.B
 have bF:=I.F
 have bL:=I.L
 obtain⟨N0,_,_⟩:=I.N
 have bM:∀{n:Nat}{i:Int},Bd n i->n<=8000->Bd 1000000 i:=λh l=>h.mono ∅
 refine⟨00,p,032,.of b3,at1 ..,00,q,032,.of d1,at1 ..,⇑5,λD1 a1=>⟨D1,[b.2,l.2],rfl,zj,λk m=>⟨(I.pos2 k m).1,(I.pos2 k m).2.md⟩,by show 2<=20;decide,?_⟩⟩
 have S2:=S1.trans (zq.upd (o:=.lst [.int b.2,.int l.2]) a1)
 have P2:=hP.tups (.of (zq.upd (o:=.lst [.int b.2,.int l.2]) a1))
 have L2:=(zq.upd (o:=.lst [.int b.2,.int l.2]) a1) _ _ hL
 dsimp only[List.map]
 generalize upd H1 D1 (.lst [.int b.2,.int l.2])=H2 at S2 P2 L2
 have b4:=S2 _ _ hp
 have b9:=S2 _ _ hq
 show _
 exists 00,p,032,.of b4,at0 ..,01,p,032,.of b4,at1 ..,022,⟨yt I.bb.2.2,I.bb.2.1.md⟩,022,⟨bM I.bb.1 ⇑1,bM (bdx bB) ⇑1⟩
 nofun
 exists 01,q,032,.of b9,at0 ..,01,q,032,.of b9,at1 ..,022,⟨yt I.bl.2.2,I.bl.2.1.md⟩,022,⟨bM I.bl.1 ⇑1,bM (bdx bB) ⇑1⟩,022
 nofun
 rcases s:(λU G=>U=[Sr c,Si z,Sr p,Sr q,Sr L,some (.int (lkB b l)),some (.int (lkF b l)),some (.int (lkL b l)),none,none,none,none]/\zq H2 G/\LkG T' b l gs/\∀r L ms N H',zq H H'->H' r=some (.tup [.ref L,.int N])->H' L=some (.lst (ms.map V.int))->LkO T' b gs ms N (some l)->Q (.ref r) H')
 ·intro nx S
  exists 01,c,pb,sb,tk,ws,trs,some l0,some h0,rfl,b2.same S2,R.wl,R.wh
  rw[hT]
  refine⟨02,⇑5,λe he=>?_⟩
  have O:=zq.upd (o:=.tup [.int (lkL b l),.int (lkB b l)]) he
  exists us,gs,T',b,(lkL b l,lkB b l),⟨⟨L,p,e,rfl,O _ _ L2,O _ _ b4,zj⟩,P2.tups (.of O),I.l16,λg m=>⟨(I.bg g m).2.1.md,(I.bg g m).2.2.md⟩,⟨I.T0.1,I.T0.2.md⟩,⟨I.bb.1.md,I.bb.2.1.md,I.bb.2.2⟩,⟨bL.md,bB.md,B0⟩⟩
  rcases K' with⟨hG,k⟩ | ⟨_,e',_,hd,k⟩
  ·exact .inl ⟨(hG l rL).2.df,S _ _ ⟨rL,O,(hG l rL).2,k⟩⟩
  ·cases e';exact .inr ⟨hd,CE,rfl,k _ (S2.trans O)⟩
 rintro σ3 H3 ⟨rfl,O,ZG,k⟩
 have S3:=S2.trans O
 have P3:=P2.tups (.of O)
 have L3:=O _ _ L2
 have lu:=hP.1
 have d8:=I.l16
 rcases s:(λU G=>U=[Sr c,Si z,Sr p,Sr q,Sr L,some (.int (lkB b l)),some (.int (lkF b l)),some (.int (lkL b l)),some (.int (lkN b l gs)),none,none,none]/\zq H3 G/\ZV G us gs/\G L=some (.lst us))
 ·intro nx S
  refine⟨00,zL1,λD1 a1=>?_⟩
  have a4:=zq.upd (o:=.lst [.int (lkB b l)]) a1
  have P4:=P3.tups (.of a4)
  have L4:=a4 _ _ L3
  have D4:upd H3 D1 (.lst [.int (lkB b l)]) D1=some (.lst [.int (lkB b l)]):=zj
  generalize upd H3 D1 (.lst [.int (lkB b l)])=H4 at a4 P4 L4 D4
  refine⟨00,L,rL,⟨_,SqL.of L4⟩,λDe c5=>?_⟩
  refine Zk (J:=Itl K L) (g:=zaT K 2 (Zm (zG 0) (Zm (zG 1) zbR))) (te:=_) (n:=2) (xs:=us) (λi v G=>∃n,(gs.map λg=>zY g.1)[i]?=some n/\v=.int n) (λ_ _ _ _ _ h=>h) c5 (xq L4) (xT (by rw[lu];lia)) ?_ ?_
  ·intro i y zs G2 Q' hy hz S5 hQ
   rcases q:P4.2 i y hy with⟨g,a,hg,rfl,ha⟩
   obtain⟨w1,w2,rfl⟩:=zdE hz
   exact⟨a,00,.of (S5 _ _ ha),rfl,021,022,01,hQ _ _ (zq.refl _) ⟨_,by rw[wo,hg];rfl,rfl⟩⟩
  intro c7 G2 S5 a8 d7 d5
  have e2:c7=(gs.map λg=>zY g.1).map V.int:=Qv (by rw[wc];lia) λi v e=>d5 i v e
  rw[e2]at a8
  have P5:=P4.tups (.of S5)
  have c8:=S5 _ _ L4
  have D5:=S5 _ _ D4
  refine⟨D1,De,022,D5,a8,szl (by rw[wc,wc,uf];lia),λp5 d3=>⟨p5,lkB b l::gs.map λg=>zY g.1,rfl,zj,I.posN,by rw[wB,wc];lia,?_⟩⟩
  have W:=zq.upd (o:=.lst ([.int (lkB b l)]++(gs.map λg=>zY g.1).map V.int)) d3
  have P6:=P5.tups (.of W)
  have L6:=W _ _ c8
  exact S _ _ ⟨rL,a4.trans (S5.trans W),P6,L6⟩
 rintro σ6 H6 ⟨rfl,W,P6,L6⟩
 have S6:=S3.trans W
 have bN:=ZG.bn
 have ND:Bd 1301 ((lkN b l gs).fdiv (lkB b l)):=bdx bN
 rcases s:(λU G=>U=[Sr c,Si z,Sr p,Sr q,Sr L,some (.int (lkB b l)),some (.int (lkU b l gs (lkF b l))),some (.int (lkU b l gs (lkL b l))),some (.int (lkN b l gs)),none,none,none]/\G=H6)
 ·intro nx S
  exists 02,022,⟨yt B0,bB.md⟩,022,⟨bM bF ⇑1,bM ND ⇑1⟩
  exists 02,022,⟨yt B0,bB.md⟩,022,⟨bM bL ⇑1,bM ND ⇑1⟩,021
  exact S _ _ ⟨rL,rL⟩
 rintro σ7 _ ⟨rfl,rfl⟩
 rcases s:(λU G=>∃M,U=[Sr c,Si z,Sr p,Sr q,Sr L,some (.int (lkB b l)),some (.int (lkU b l gs (lkF b l))),some (.int (lkU b l gs (lkL b l))),some (.int (lkN b l gs)),Sr M,none,none]/\zq H G/\G M=some (.lst ([lkU b l gs (lkF b l)].map V.int))/\G L=some (.lst us)/\ZV G us gs/\M≠L/\H M=none)
 ·intro nx S
  refine⟨00,zL1,λM hM=>?_⟩
  have b0:=zq.upd (o:=.lst [.int (lkU b l gs (lkF b l))]) hM
  refine S _ _ ⟨M,rfl,S6.trans b0,zj,b0 _ _ L6,P6.tups (.of b0),(λe=>by rw[e,L6]at hM;cases hM),?_⟩
  cases e:H M with
  |none=>rfl
  |some o=>rw[S6 _ _ e]at hM;cases hM
 rintro σ8 H7 Y;rcases q:Y with⟨M,rfl,S7,M7,L7,P7,c3,Mn⟩
 have b8:=ZG.ln
 unfold lkM at b8
 rw[wB]at b8
 generalize hF:lkU b l gs (lkF b l)=F at *
 generalize hE:lkU b l gs (lkL b l)=E' at *
 generalize hN:lkN b l gs=N at *
 have d0:∀{n:Nat},n<=9000->n<=sizeLine:=λh=>by rw[sizeLine_eq];lia
 rcases s:(λU G=>∃x,U=[Sr c,Si z,Sr p,Sr q,Sr L,some (.int (lkB b l)),Si F,Si E',Si N,Sr M,none,x]/\zq H G/\G M=some (.lst ((F::lkG T' N F E' gs).map V.int)))
 ·intro nx S
  exists 00,L,rfl,⟨_,SqL.of L7⟩
  refine vt (xs:=us) (λi U G=>∃x,U=[Sr c,Si z,Sr p,Sr q,Sr L,some (.int (lkB b l)),Si F,Si E',Si N,Sr M,none,x]/\zq H G/\G M=some (.lst ((F::lkG T' N F E' (gs.take i)).map V.int))/\G L=some (.lst us)/\ZV G us gs) ⟨none,rL,S7,M7,L7,P7⟩ (λi U G _ ⟨_,_,_,_,h,_⟩=>SqL.of h) ?_ ?_
  ·rintro i y U G hy Y;rcases q:Y with⟨x,rfl,SG,a3,c2,a9⟩
   rcases q:a9.2 i y hy with⟨g,a,eg,rfl,ha⟩
   have m:=wU eg
   have sp:=I.stp m
   rw[hN]at sp
   dsimp only[zG]
   exists 02,c,pb,sb,tk,ws,trs,some l0,some h0,rfl,b2.same SG,R.wl,R.wh
   rw[hT]
   have hc:=ZG.cn g m
   rw[hN,hF,hE]at hc
   refine⟨02,a,T',N,F,E',g,lkC T' N F E' g,rfl,ha,(I.bg g m).1,(I.bg g m).2.1.md,(I.bg g m).2.2.md,I.T0.2.md,bN.md,sp,zfD sp,by lia,λl' H' S' e1 hl=>?_⟩
   have b5:=ziW T' N F E' gs (i+1)
   have et:=ze4 (T:=T') (F:=N) (b:=F) (e:=E') eg
   rw[et,wX]at b5
   have a6:=S' _ _ a3
   exists M,l',022,a6,hl,d0 ?_
   ·rw[wc,wc,wB]
    unfold lkW at b5
    lia
   exists 00,Zt (SG.trans S') Mn,?_,?_
   ·rw[zj,<-yx,et];rfl
   ·rw[zV (Ne.symm c3)];exact S' _ _ c2
   ·exact(a9.tups (.of S')).tups (xA.upd a6)
  ·rintro U G Y;rcases q:Y with⟨x,rfl,SG,a3,c2,a9⟩
   rw[lu,yr]at a3
   exact S _ _ ⟨x,rL,SG,a3⟩
 rintro σ9 H9 ⟨x,rfl,S9,M9⟩
 refine⟨00,M,00,SqL.of M9,by rw[wB];lia,λDr ms c6 a7 nd pw=>?_⟩
 have b1:upd H9 Dr (.lst (ms.map V.int)) Dr=some (.lst (ms.map V.int)):=zj
 have c0:=S9.trans (zq.upd (o:=.lst (ms.map V.int)) c6)
 have e0:ms.length<=1000:=ZG.mx ms (by unfold lkM;rw[hN,hF,hE];exact a7) nd
 dsimp only[zG]
 generalize upd H9 Dr (.lst (ms.map V.int))=H10 at b1 c0
 exists 00,Dr,00,.inl (.of b1),022,00
 rw[wc,wx ∅]
 refine xi ⟨_,rL,_,rL,⇑5,λr hr=>?_⟩
 have c1:=zq.upd (o:=.tup [.ref Dr,.int N]) hr
 exact k r Dr ms N _ (c0.trans c1) zj (c1 _ _ b1) ⟨hN.symm,by unfold lkM;rw[hN,hF,hE];exact a7,nd,pw⟩
inductive zjV  (vs:List V) (H:Hp) (Q:VK) (_e3:XK):Prop
 |mk:∀p q x y,(vs=[.ref p,.ref q])->(zu H p x)->(zu H q y)->(Sz2 x y)->(Q (.bl (decide (x<y))) H)->zjV vs H Q _e3
theorem zjI:zC ["one","other"] ["one","other"] (zi zca):=scq
theorem zjh (D:Df K mg "less" zca ["one","other"] []):⇑3 "less" 1 ["one","other"] [] zjV:=by
 rcases r:D.calq (k:=0) zjI with⟨p,q,x,y,rfl,O,G,⟨S,U⟩,k⟩
 have I:=Bd4 S
 have F:=Bd4 U
 exists(zo (zE (qz Zo (zy zK (pxt (pv 0)) (pxt (pv 1))) (zy zK (pxt (pv 1)) (pxt (pv 0))) (zH _))))
 exists 00,p,032,.of O,at0 ..,00,q,032,.of G,at1 ..,022,⟨I.1,F.2⟩,00,q,032,.of G,at0 ..,00,p,032,.of O,at1 ..,022,⟨F.1,I.2⟩,022
 show Q (.bl (decide (x.num*(y.den:Int)<y.num*(x.den:Int)))) H
 rw[ze1];exact k
structure zkv (H:Hp) (a:Addr) (lo hi:Rat):Prop where
 w:∃b c p q p' q',H a=some (.tup [.ref b,.ref c])/\H b=some (.tup [.ref p,.ref p'])/\H c=some (.tup [.ref q,.ref q'])/\zu H p lo/\zu H q hi
theorem Ln.ws {H:Hp}{r a:Addr}{bs:List Bl}{lo hi x y:Rat}(h:Ln H r a bs (some (lo,x)) (some (hi,y))):zkv H a lo hi:=by
 obtain⟨W,v2,h1,⟨b,p,q,rfl,G,U,V⟩,⟨c,F,S,rfl,O,I,Y⟩⟩:=h.walls
 exact⟨b,c,p,F,q,S,h1,G,O,U,I⟩
inductive zf3  (vs:List V) (H:Hp) (Q:VK) (_e3:XK):Prop
 |mk:∀a m lo hi y,(vs=[.ref a,.ref m])->(zkv H a lo hi)->(zu H m y)->(Sz 4000 lo)->(Sz 4000 hi)->(Sz 4000 y)->(lo<=y)->(y<=hi)->(Q .non H)->zf3 vs H Q _e3
theorem zjL:zC ["walls","place"] ["walls","place"] (zi qO):=scq
theorem zjn (D:Df K mg "refuse_no_place" qO ["walls","place"] []) (F:⇑3 "less" 1 ["one","other"] [] zjV):⇑3 "refuse_no_place" 2 ["walls","place"] [] zf3:=by
 rcases r:D.calq (k:=1) zjL with⟨a,m,lo,hi,y,rfl,⟨b,c,p,q,p',q',h1,h2,U,W,O⟩,I,S,V,G,Y,y1,k⟩
 exists(zo (xf ((QA (xS (zD F hr %[1,pxt (pxt (pv 0))|0]) λ_=>rfl) (XT (xS (zD F hr %[pxt (pxt (pv 0)),1|0]) λ_=>rfl)))).pt Zs zT))
 exists 01,a,032,.of h1,at0 ..,b,032,.of h2,at0 ..,m,p,y,lo,rfl,I,W,⟨G,S⟩
 rw[wx (show ¬y<lo by grind)]
 refine⟨00,xi ⟨00,a,032,.of h1,at1 ..,c,032,.of U,at0 ..,00,q,m,hi,y,rL,O,I,⟨V,G⟩,?_⟩⟩
 rw[wx (show ¬hi<y by grind)]
 exact⟨00,xi k⟩
theorem Vi:zC ["row","walls","k","place","t","course","spot","found","lasting","moments","bottom","moment"] ["row","walls","k","place","t"] (zi zcc):=scq
theorem zjB {a b c:Int}{n:Nat}(O:0<c) (F:Builtin.Range.rangeSize a b c=(n:Int)){k:Int}(m:k∈V0 a c n):a<=k/\k<b:=by
 obtain⟨i,I,rfl⟩:=wj.mp m
 have hi:=Wj.mp I
 unfold Builtin.Range.rangeSize at F
 rw[if_pos O]at F
 split at F
 ·have h1:=W4 (b-a-1) c
  have h2:=yD (b-a-1) (show c≠0 by lia)
  generalize (b-a-1)/c=q at *
  have G:(i:Int)<=q:=by lia
  have U:(i:Int)*c<=q*c:=yv G ∅
  have S:0<=(i:Int)*c:=Wk ∅ ∅
  rw[yX c q]at h1
  lia
 ·lia
theorem ze3 {T F b e:Int}:∀{gs:List (Int×Int)}{k:Int},(∀g∈gs,0<v4 T F g)->k∈lkG T F b e gs->b<k/\k<e
 |[],k,_,m=>by cases m
 |g::gs,k,h,m=>by
  rcases ya.mp m with m | m
  ·have hs:=h g wF
   have:=zjB hs (zfD hs) m
   have:=yD (Xy F g-b-1) (show v4 T F g≠0 by omega)
   unfold zb0 at *
   omega
  ·exact ze3 (λx q=>h x (wT _ q)) m
theorem zkF {T:Int}{b l:Int×Int}{gs:List (Int×Int)} (A:LkA T b l gs){k:Int}(m:k∈lkM T b l gs):k=lkU b l gs (lkF b l)\/(lkU b l gs (lkF b l)<k/\k<lkU b l gs (lkL b l)):=by
 rcases wu.mp m with h | h
 ·exact .inl h
 ·exact .inr (ze3 (λg q=>A.stp q) h)
theorem zkE {T:Int}{b l:Int×Int}{gs:List (Int×Int)} (A:LkA T b l gs) (G:LkG T b l gs){k:Int}(m:k∈lkM T b l gs):Bd 2000 k:=by
 have I:Bd 1301 ((lkN b l gs).fdiv (lkB b l)):=bdx G.bn
 have h1:Bd 2000 (lkU b l gs (lkF b l)):=(A.F.mul I).md
 have h2:Bd 2000 (lkU b l gs (lkL b l)):=(A.L.mul I).md
 rcases zkF A m with h | h
 ·rw[h];exact h1
 ·have O:(lkU b l gs (lkF b l)).natAbs<2^2000:=h1
  have S:(lkU b l gs (lkL b l)).natAbs<2^2000:=h2
  show k.natAbs<2^2000
  generalize 2^2000=X at *
  omega
theorem ze5 {T:Int}{b:Int×Int}{gs:List (Int×Int)}{ms:List Int}{N:Int}{lz:Option (Int×Int)} (F:Bd 260 b.1/\Bd 140 b.2/\0<b.2) (h:LkO T b gs ms N lz) (hz:∀l,lz=some l->LkA T b l gs/\LkG T b l gs):(∀k∈ms,Bd 2000 k)/\Bd 2000 N/\0<N/\ms.length<=1000:=by
 cases lz with
 |none =>
  obtain⟨rfl,rfl⟩:=h
  exact⟨λk m=>by rw[w5.mp m];exact F.1.md,F.2.1.md,F.2.2,by show 1<=1000;decide⟩
 |some l =>
  obtain⟨rfl,I,O,_⟩:=h
  obtain⟨A,G⟩:=hz l rfl
  exact⟨λk m=>zkE A G ((I k).mp m),G.bn.md,A.N.1,G.mx ms I O⟩
theorem CoT.same {H H':Hp}{C c S:Addr}{U O:Int}{tk:Rat}{ws:List Int}{trs:List (Int×Int)}{lo hi:Option (Int×Int)} (h:CoT H C c S U O tk ws trs lo hi) (e:zq H H'):CoT H' C c S U O tk ws trs lo hi:=by
 obtain⟨dx,fs,tv,h1,F,W,h4,V⟩:=h
 obtain⟨tp,t1,t2⟩:=F.tick
 obtain⟨wl,w1,Y⟩:=F.weights
 obtain⟨G,I,r1,r2,r3⟩:=F.tracks
 obtain⟨a,a1,a2⟩:=F.low
 obtain⟨b,b1,b2⟩:=F.high
 exact⟨dx,fs,tv,e _ _ h1,⟨F.pb,F.sb,⟨tp,t1,e _ _ t2⟩,⟨wl,w1,e _ _ Y⟩,⟨G,I,r1,e _ _ r2,r3.keeps (.of e)⟩,⟨a,a1,a2.keeps (.of e)⟩,⟨b,b1,b2.keeps (.of e)⟩,F.len⟩,W,e _ _ h4,V.keeps (.of e)⟩
theorem CoT.at {H:Hp}{C c O:Addr}{G I:Int}{tk:Rat}{ws:List Int}{trs:List (Int×Int)}{lo hi:Option (Int×Int)} (h:CoT H C c O G I tk ws trs lo hi):Xv H C c G I tk ws trs lo hi:=by
 obtain⟨dx,fs,tv,h1,F,_⟩:=h
 exact⟨dx,fs,h1,F⟩
def moQ (tk:Rat) (t N:Int):Rat:=Rat.divInt (t*tk.num) (N*(tk.den:Int))
structure WhZ (bs:List Bl) (lo hi:Rat×Rat) (y x:Rat) (p s m z:Int) (trs:List (Int×Int)) (l h:Int×Int) (tk:Rat) (b:Int×Int):Prop where
 ep:p=pbO bs (some lo) (some hi)
 es:s=sbO bs (some lo) (some hi)
 em:m=(xP [p,(y.den:Int)]).fdiv p
 et:trs=(bs.map λb=>trB p s (b.pl,b.sp)).map (scT m)
 el:l=scT m (trB p s lo)
 eh:h=scT m (trB p s hi)
 etk:tk=Rat.divInt s p
 ez:z=y.num*(p*m).fdiv (y.den:Int)
 eb:b=((x/tk).num,((x/tk).den:Int))
 bp:Bd 200 p
 yz:Sz 190 y
 tr:∀t∈trs,BdP 1900 t
 bl:Bd 1900 l.1
 bh:Bd 1900 h.1
 lh:l.1<h.1
 bz:Bd 2000 z
 zx:Sz2 x tk
 bb:Bd 260 b.1/\Bd 140 b.2
structure WhA (H:Hp) (vs:List V) (k:Int) (bs:List Bl) (lo hi:Rat×Rat) (y x:Rat):Prop where
 ex:∃r a q u,vs=[.ref r,.ref a,.int k,.ref q,.ref u]/\Ln H r a bs (some lo) (some hi)/\zu H q y/\zu H u x
 lz:LnZ bs (some lo) (some hi)
 b0:∃b0,bs[0]?=some b0/\plB (tb b0) (bs.map tb) (some lo) (some hi)=true
 hk:0<=k/\k<bs.length
 yi:lo.1<=y/\y<=hi.1
def LzZ (T:Int) (tk:Rat) (pss:List (Int×List Int)) (lz:Option (Int×Int)):Prop :=
 (pss=[]->lz=none)/\(pss≠[]->∀kgs,KgZ T pss kgs->Sz2 (xl (ptL T tk kgs)) tk/\lz=some ((xl (ptL T tk kgs)/tk).num,((xl (ptL T tk kgs)/tk).den:Int)))
inductive zbp (CE:Addr) (vs:List V) (H:Hp) (Q:VK) (E:XK):Prop
 |mk:∀k bs lo hi y x p s m z trs l h tk b T pss lz,(WhA H vs k bs lo hi y x)->(WhZ bs lo hi y x p s m z trs l h tk b)->(RoG bs lo hi T s tk pss)->(LzZ T tk pss lz)->((((∀l',lz=some l'->LkA (2*(h.1-l.1)) b l' (zR l.1 z trs)/\LkG (2*(h.1-l.1)) b l' (zR l.1 z trs))/\∀ms N,LkO (2*(h.1-l.1)) b (zR l.1 z trs) ms N lz->(∀t,ms.find? (λt=>qR (some l) (some h) trs k z t N)=some t->∀r q H',zq H H'->H' r=some (.tup [.str "at",.ref q])->zu H' q (moQ tk t N)->Q (.ref r) H')/\(ms.find? (λt=>qR (some l) (some h) trs k z t N)=none->∀r L us H',zq H H'->H' r=some (.tup [.str "never",.ref L])->H' L=some (.lst us)->ZW H' us (ms.map λt=>moQ tk t N)->Q (.ref r) H'))\/∃l',lz=some l'/\LkA (2*(h.1-l.1)) b l' (zR l.1 z trs)/\(∃g∈zR l.1 z trs,1000<dif (2*(h.1-l.1)) b (lkL b l',lkB b l') g)/\∀H',zq H H'->E (.ref CE) none H'))->zbp CE vs H Q E
theorem zk4 {fi:Addr}{f5:FuncData}(D:Df K mg "when" zcc ["row","walls","k","place","t"] []) (T:TxB K mg) (TC:TCo K C) (M:Mk K C fi) (Fi:Zw P w K mg base CX0 4 fi f5 ["self","row","walls"] (zfV C)) (i2:mg "Course" = some (.ref C)) (Bi:v6 K f5 ["self","row","walls"] [])
  (j5:⇑3 "refuse_no_box" 8 ["row","walls"] [] zhN) (g3:⇑3 "refuse_no_ball" 1 ["many","k"] [] zjW) (d3:⇑3 "refuse_no_place" 2 ["walls","place"] [] zf3)
  (h5:⇑3 "refine" 2 ["course","many"] [] (zjZ C)) (cL:⇑3 "least_multiple" 2 ["numbers"] [] JP) (j0:⇑3 "round_of" 9 ["row","walls"] [] zf4) (e0:⇑3 "ticks_of" 4 ["course","moment"] [] (zhP C)) (j4:Qh P w K mg base "looked_at" 3 ["course","spot","begin","lasting"] [] (zjS C CE)) (d7:⇑3 "is_there" 2 ["course","k","spot","ticks"] [] (zf5 C)) (d6:⇑3 "moment_of" 3 ["course","ticks"] [] (zfZ C)) :
  Qh P w K mg base "when" 10 ["row","walls","k","place","t"] [] (zbp CE):=by
 refine D.cal1 (k:=9) Vi (λvs H Q E h=>by obtain⟨_,_,_,_,_,_,_,_,_,_,_,_,_,_,_,_,_,_,h,_⟩:=h;obtain⟨_,_,_,_,rfl,_⟩:=h.ex;rfl) (λf cdv A outer s0 H vs Q E U hh=>?_)
 have b6:xc 8 _:=U.md
 have g7:xc 5 _:=U.md
 have f6:xc 4 _:=U.md
 have d0:xc 3 _:=U.md
 have b3:xc 2 _:=U.md
 have j6:xc 1 _:=U.md
 rcases q:hh with⟨k,bs,lo,hi,y,x,p,s,m,z,trs,l,h,tk,b,T',pss,lz,WA,I,RG,LZ,K'⟩
 rcases q:WA.ex with⟨r,a,q,u,rfl,ln,hq,hu⟩
 obtain⟨b0,h0,hp⟩:=WA.b0
 have a1:=WA.lz
 have Z:=a1.bd ln.l8
 obtain⟨j8,d9,pl⟩:=ln.pl
 rw[h0]at d9;cases d9
 exists(ze (qi (zD j5 b6 %[0,1|0]))
  (ze (qi (zD g3 j6 %[zO xp ⇑2 T.nLen PySem.boot_len %[0|0],2|0]))
  (ze (qi (zD d3 b3 %[1,3|0]))
  (ze (ZF (i:=5) Vi.nd rfl (Or.inr rfl) (zao M Fi g7 ⇑2 i2 Bi .nil zcT %[0,1|0]))
  (ze (qi (zD h5 b3 %[5,(zy xF (zD cL b3 %[(qp %[xt (pv 5) rfl,pxt (pv 3)|0])|0]) (xt (pv 5) rfl))|0]))
  (ze (psl (i:=6) Vi.nd (zy zK (pxt (pv 3)) (zy xF (xt (pv 5) rfl) (pxt (pv 3)))))
  (ze (psl (i:=7) Vi.nd (zD j0 U %[0,1|0]))
  (ze (psl (i:=8) Vi.nd (Qz (zF qY (pv 7) xC (zH _)) xC (zD e0 f6 %[5,pxt (pv 7)|0])))
  (ze (Ze (zfn j4 d0 QJ %[5,6,(zD e0 f6 %[5,4|0]),8|0]) (qZ rfl (zP (pgl (i:=9) Vi.nd) (zP (Vt (i:=10) Vi.nd rfl (Or.inr rfl)) xO))))
  (ze (va PassesOwn.leaving rfl (xg (pv 9)) (pgl (i:=11) Vi.nd) (zo (xf (xS (zD d7 b3 %[5,2,6,(zX %[11,10|0])|0]) λ_=>rfl) (zo (zE (zX %[Zc,(zD d6 d0 %[5,(zX %[11,10|0])|0])|0]))) zT)))
  (zo (zE (zX %[Zc,(qj (NB:=["moment"]) (FR:=["course","bottom"]) (js:=[5,10]) rfl rfl (λx c h=>XG rfl rfl x c h) (.cons rfl rfl rfl ⟨_,rfl⟩ (.cons rfl rfl rfl ⟨_,rfl⟩ .nil)) rfl ⇑0 rfl ⇑0 (xg (pv 9)) (by intro _ _ _;refine⟨?_,?_,?_⟩;(exact(pgl (i:=0) (show List.Nodup (["moment","course","bottom"]:List Str) by decide +kernel)));(exact xE);(exact(zD d6 d0 %[1,(zX %[0,2|0])|0]))))|0])))))))))))))
 refine⟨01,r,a,_,_,lo,hi,rL,pl,hp,λH1 e1=>?_⟩
 have ln1:=ln.same e1
 obtain⟨us,Y,hB⟩:=ln1.row
 rcases q:ln1.walls with⟨v1,v2,ha,w1,w2⟩
 have i1:=hB.1
 exists 00,r,us,rfl,.inr (SqT.of Y),00,021,WA.hk.1,by rw[i1];exact WA.hk.2
 have i6:=hq.same e1
 have g2:=a1.sz _ (vi (bs:=bs) (hi:=some hi) (t:=lo) rfl)
 have j2:=a1.sz _ (vW (bs:=bs) (lo:=some lo) (t:=hi) rfl)
 exists 01,a,q,lo.1,hi.1,y,rfl,ln1.ws,i6,g2.1.sz.md,j2.1.sz.md,I.yz.md,WA.yi.1,WA.yi.2
 nofun
 rcases s:(λW G=>∃c tl,W=[Sr r,Sr a,Si k,Sr q,Sr u,Sr c,none,none,none,none,none,none]/\zq H G/\H c=none/\CoT G C c tl p s tk (bs.map Bl.wt) (bs.map λb=>trB p s (b.pl,b.sp)) (some (trB p s lo)) (some (trB p s hi)))
 ·intro nx O
  refine⟨01,λc dx hc g9 ne=>?_⟩
  have S0:zq H1 (upd (upd H1 dx (.own c)) c (.ins C dx [])):=(zq.upd g9).trans (zq.upd (by rw[zV ne.symm];exact hc))
  refine⟨c,dx,r,a,us,bs,v1,v2,some lo,some hi,rL,zj,S0 _ _ Y,hB.keeps (.of S0),S0 _ _ ha,w1.wl.keeps (.of S0),w2.wl.keeps (.of S0),ln.l8,λt mt=>⟨(a1.sz t mt).1.sz,(a1.sz t mt).2.sz⟩,λH2 X1 f0=>⟨rL,?_⟩⟩
  have S2:zq H H2:=e1.trans λb o e=>X1 b o (zZ e hc) (S0 b o e)
  have c8:H c=none:=by
   cases e:H c with
   |none=>rfl
   |some o=>rw[e1 _ _ e]at hc;cases hc
  rw[<-I.ep,<-I.es,<-I.etk]at f0
  rcases q:f0 with⟨i4,fs,tl,c1,c2,c3,_⟩
  rcases q:c2.tracks with⟨f8,tv,c4,c5,c6⟩
  rw[c3]at c4;cases c4
  exact O _ _ ⟨c,tl,rL,S2,c8,i4,fs,tv,c1,c2,c3,c5,c6⟩
 rintro σ1 H2 b9;rcases q:b9 with⟨c,tl,rfl,S2,c8,e9⟩
 have p0:0<p:=by rw[I.ep];exact Z.pb.1
 have pd:Pos 400 [p,(y.den:Int)]:=λk mk=>by
  rcases wu.mp mk with rfl | mk
  ·exact⟨p0,I.bp.md⟩
  ·rcases wu.mp mk with rfl | mk
   ·exact⟨den_pos y,I.yz.2.md⟩
   ·cases mk
 obtain⟨q0,qb,qd⟩:=VS pd
 have g5:Bd 801 (xP [p,(y.den:Int)]):=qb.mono (by show 1+400*2<=801;decide)
 have m0:0<m:=by
  rw[I.em,wD _ ∅]
  exact Wy q0 ∅ (qd _ wF)
 have mb:Bd 802 m:=by rw[I.em];exact bdx g5
 have sb:0<s/\Bd 401 s:=by rw[I.es];exact Z.sb
 have c7:∀t∈ths bs (some lo) (some hi),BdP 2000 (trB p s t):=λt mt=>by
  rw[I.ep,I.es]
  exact⟨JZ (a1.sz t mt).1.1 Z.pb.1 Z.pb.2,JZ (a1.sz t mt).2.1 Z.sb.1 Z.sb.2⟩
 have BP:∀{t:Int×Int},BdP 2000 t->BdP 5000 t:=λh=>⟨h.1.md,h.2.md⟩
 have f7:trs.length<=8:=by rw[I.et,wc,wc];exact ln.l8
 have i8:∀{G G':Hp},zq H G->xj c G G'->zq H G':=λs1 s2 b o e=>s2 b o (zZ e c8) (s1 b o e)
 have g0:Sz 401 tk:=by rw[I.etk,I.ep,I.es];exact Z.tz
 have d5:tk≠0:=by rw[I.etk,I.ep,I.es];exact Z.t0
 rcases s:(λW G=>W=[Sr r,Sr a,Si k,Sr q,Sr u,Sr c,none,none,none,none,none,none]/\zq H G/\Xv G C c (p*m) (s*m) tk (bs.map Bl.wt) trs (some l) (some h))
 ·intro nx O
  rcases q:id e9 with⟨dx,fs,tv,hc,F,elt,j9,k1⟩
  have g4:=S2 _ _ hq
  refine⟨01,c,C,dx,fs,00,hc,TC.cls,TC.pb,F.pb,00,q,032,.of g4,at1 ..,⇑5,λD1 h6=>⟨D1,[p,(y.den:Int)],rfl,zj,pd,by show 2<=20;decide,?_⟩⟩
  have c9:=zq.upd (o:=.lst [.int p,.int (y.den:Int)]) h6
  have a4:=e9.same c9
  have j3:=c9 _ _ hc
  nofun
  exists 00,c,C,dx,fs,00,j3,TC.cls,TC.pb,F.pb,022,⟨yt p0,I.bp.md⟩
  refine⟨c,tl,m,p,s,tk,_,_,_,_,by rw[I.em];rfl,a4,by rw[wc];exact ln.l8,mb.md,I.bp.md,sb.2.md,λt mt=>?_,λt e=>by cases e;exact BP (c7 _ (vi rfl)),λt e=>by cases e;exact BP (c7 _ (vW rfl)),λH4 f8 X4 _ h4=>?_⟩
  ·obtain⟨b',g6,rfl⟩:=wj.mp mt
   exact BP (c7 _ (XD g6))
  ·rw[<-I.et,show (some (trB p s lo)).map (scT m)=some l by rw[I.el];rfl,show (some (trB p s hi)).map (scT m)=some h by rw[I.eh];rfl]at h4
   exact O _ _ ⟨rL,i8 (S2.trans c9) X4,h4.at⟩
 rintro σ2 H3 ⟨rfl,S3,a4⟩
 have wl:Wb (some l):=λt e=>by cases e;exact I.bl.md
 have wh:Wb (some h):=λt e=>by cases e;exact I.bh.md
 rcases s:(λW G=>W=[Sr r,Sr a,Si k,Sr q,Sr u,Sr c,Si z,none,none,none,none,none]/\H3=G)
 ·intro nx O
  obtain⟨dx,fs,hc,F⟩:=id a4
  have e6:=S3 _ _ hq
  exists 00,q,032,.of e6,at0 ..,00,c,C,dx,fs,00,hc,TC.cls,TC.pb,F.pb,00,q,032,.of e6,at1 ..,022,⟨yt (den_pos y),I.yz.2.md⟩,022,⟨I.yz.1.md,(bdx (I.bp.mul mb)).md⟩
  exact O _ _ ⟨by rw[I.ez];rfl,rfl⟩
 rintro σ3 _ ⟨rfl,rfl⟩
 rcases s:(λW G=>∃v7,W=[Sr r,Sr a,Si k,Sr q,Sr u,Sr c,Si z,some v7,none,none,none,none]/\zq H3 G/\((v7=.non/\lz=none)\/∃zz qq li lr,v7=.ref zz/\G zz=some (.tup [.ref qq,.ref li])/\zu G qq lr/\Sz2 lr tk/\lz=some ((lr/tk).num,((lr/tk).den:Int))))
 ·intro nx O
  refine⟨01,r,a,bs,b0,lo,hi,T',s,tk,pss,rL,ln.same S3,a1,h0,hp,RG,λe G S=>O _ _ ⟨00,S,.inl ⟨rL,LZ.1 e⟩⟩,λe zz G d8 qq li k0 S kz b7 c0 _ _ _=>O _ _ ⟨00,S,.inr ⟨zz,qq,li,00,b7,c0,(LZ.2 e d8 kz).1,(LZ.2 e d8 kz).2⟩⟩⟩
 rintro σ4 H4 ⟨v7,rfl,S4,h7⟩
 have b4:=a4.same S4
 have f9:=S3.trans S4
 rcases s:(λW G=>∃v8,W=[Sr r,Sr a,Si k,Sr q,Sr u,Sr c,Si z,some v7,some v8,none,none,none]/\zq H4 G/\LzA G v8 lz)
 ·intro nx O
  rcases h7 with⟨rfl,e⟩ | ⟨zz,qq,li,lr,rfl,b7,c0,h9,e⟩
  ·refine⟨00,rL,00,xM ?_⟩
   exact O _ _ ⟨_,rfl,zq.refl _,by rw[e];rfl⟩
  ·refine⟨00,rL,00,xi ?_⟩
   refine⟨01,zz,032,.of b7,at0 ..,c,qq,p*m,s*m,tk,_,trs,some l,some h,lr,rL,b4,c0,h9,d5,λr8 G S b6=>?_⟩
   exact O _ _ ⟨_,rfl,S,by rw[e];exact⟨r8,rfl,b6⟩⟩
 rintro σ5 H5 ⟨v8,rfl,S5,h8⟩
 have a8:=b4.same S5
 have b8:=f9.trans S5
 rcases s:(λW G=>∃L ms N,W=[Sr r,Sr a,Si k,Sr q,Sr u,Sr c,Si z,some v7,some v8,Sr L,Si N,none]/\zq H5 G/\G L=some (.lst (ms.map V.int))/\LkO (2*(h.1-l.1)) b (zR l.1 z trs) ms N lz/\(∀l',lz=some l'->LkA (2*(h.1-l.1)) b l' (zR l.1 z trs)/\LkG (2*(h.1-l.1)) b l' (zR l.1 z trs)) ∧  ∀ms N,LkO (2*(h.1-l.1)) b (zR l.1 z trs) ms N lz →    (∀t,ms.find? (λt=>qR (some l) (some h) trs k z t N)=some t->∀r q H',zq H H'->H' r=some (.tup [.str "at",.ref q])->zu H' q (moQ tk t N)->Q (.ref r) H') ∧    (ms.find? (λt=>qR (some l) (some h) trs k z t N)=none->∀r L us H',zq H H'->H' r=some (.tup [.str "never",.ref L])->H' L=some (.lst us)->ZW H' us (ms.map λt=>moQ tk t N)->Q (.ref r) H'))
 ·intro nx O
  refine⟨03,c,u,p*m,s*m,tk,_,trs,some l,some h,x,rL,a8,b8 _ _ hu,I.zx,d5,λr9 G S U=>?_⟩
  exists 00,trs,l,h,z,b,lz,⟨⟨c,r9,v8,p*m,s*m,tk,00,a8.same S,by rw[I.eb];exact U,?_⟩,f7,I.bl.md,wl,wh⟩
  ·cases lz with
   |none=>exact h8
   |some l'=>obtain⟨q8,e8,g8⟩:=h8;exact⟨q8,e8,S _ _ g8⟩
  rcases K' with⟨a5,kk⟩ | ⟨l',e',a5,hd,kk⟩
  ·refine .inl ⟨a5,λrr L ms N G2 a6 Y hL hO=>?_⟩
   exists rr,00,.of Y,rfl,021,022
   exact O _ _ ⟨L,ms,N,rL,S.trans a6,hL,hO,a5,kk⟩
  ·exact .inr ⟨l',e',a5,hd,λG2 a6=>⟨CE,rL,kk _ (b8.trans (S.trans a6))⟩⟩
 rintro σ6 H6 b9;rcases q:b9 with⟨L,ms,N,rfl,S6,hL,hO,a5,kk⟩
 have a7:=a8.same S6
 have d2:=b8.trans S6
 have b2:0<b.2:=by rw[I.eb];exact den_pos _
 obtain⟨bm,bN,N0,ml⟩:=ze5 ⟨I.bb.1,I.bb.2,b2⟩ hO a5
 obtain⟨kA,kN⟩:=kk ms N hO
 have j1:∀l' h',some l=some l'->some h=some h'->l'.1<h'.1:=λl' h' e1 e2=>by cases e1;cases e2;exact I.lh
 have i5:∀{n:Nat},n<=9000->n<sizeLine:=λh=>by rw[sizeLine_eq];lia
 have mo:∀(t:Int) (H':Hp) (e:Addr) (Q':VK),t∈ms->Xv H' C c (p*m) (s*m) tk (bs.map Bl.wt) trs (some l) (some h)->H' e=some (.tup [.int t,.int N])->(∀rq b1,zq H' b1->zu b1 rq (moQ tk t N)->Q' (.ref rq) b1)->∀E',zfZ C [.ref c,.ref e] H' Q' E':=λt H' e Q' mt i3 he kq E'=>by
  obtain⟨dx,fs,hc,F⟩:=i3
  obtain⟨tp,f1,f2⟩:=F.tick
  exact⟨c,e,dx,fs,tp,tk,t,N,rL,hc,f1,f2,he,yt N0,(bm t mt).md,bN.md,g0.md,λrq b1 i0 e3=>kq rq b1 i0 e3⟩
 rcases s:(λW G=>∃a3,W=[Sr r,Sr a,Si k,Sr q,Sr u,Sr c,Si z,some v7,some v8,Sr L,Si N,a3]/\zq H6 G/\ms.find? (λt=>qR (some l) (some h) trs k z t N)=none)
 ·intro nx O
  exists 00,L,rfl,⟨_,SqL.of hL⟩
  refine vt (xs:=ms.map V.int) (λi W G=>∃a3,W=[Sr r,Sr a,Si k,Sr q,Sr u,Sr c,Si z,some v7,some v8,Sr L,Si N,a3]/\zq H6 G/\∀t∈ms.take i,qR (some l) (some h) trs k z t N=false) ⟨none,rfl,zq.refl _,λt mt=>by simp at mt⟩ (λi W G _ ⟨_,_,S,_⟩=>SqL.of (S _ _ hL)) ?_ ?_
  ·rintro i v W G hv ⟨a3,rfl,S,a2⟩
   rw[wo]at hv
   cases hm:ms[i]? with
   |none=>rw[hm]at hv;cases hv
   |some t =>
   rw[hm]at hv;cases hv
   have mt:=wU hm
   have e7:=a7.same S
   dsimp only[zG]
   refine⟨04,⇑5,λe he=>?_⟩
   have Se:=zq.upd (o:=.tup [.int t,.int N]) he
   refine⟨c,e,k,z,p*m,s*m,tk,_,trs,some l,some h,t,N,rL,e7.same Se,zj,f7,λt' a9=>⟨(I.tr t' a9).1.md,(I.tr t' a9).2.md⟩,I.bz,bm t mt,bN,N0,wl,wh,j1,λG2 a6=>?_⟩
   refine⟨00,?_⟩
   cases hb:qR (some l) (some h) trs k z t N with
   |true =>
    refine xM ?_
    have fa:ms.find? (λt=>qR (some l) (some h) trs k z t N)=some t:=by
     rw[W5]
     obtain⟨hi,e⟩:=w4.mp hm
     refine⟨hb,i,hi,e,λj hj=>?_⟩
     have:=a2 ms[j] (wU (i:=j) (by rw[Yv,if_pos hj];exact wH ∅))
     rw[this];rfl
    have S7:=S.trans (Se.trans a6)
    refine⟨02,⇑5,λe2 g1=>?_⟩
    have d4:=zq.upd (o:=.tup [.int t,.int N]) g1
    dsimp only[Zu]
    refine mo t _ e2 _ mt (a7.same (S7.trans d4)) zj (λrq G3 d1 b5=>?_) _
    refine⟨⇑5,λrr Y=>?_⟩
    have Sr:=zq.upd (o:=.tup [.str "at",.ref rq]) Y
    exact kA t fa rr rq _ (d2.trans (S7.trans (d4.trans (d1.trans Sr)))) zj (b5.same Sr)
   |false =>
    refine xi ⟨_,rL,S.trans (Se.trans a6),λt' a9=>?_⟩
    rw[yC,hm]at a9
    rcases ya.mp a9 with h' | h'
    ·exact a2 t' h'
    ·have:t'=t:=↥h'
     rw[this];exact hb
  ·rintro W G ⟨a3,rfl,S,a2⟩
   rw[wc,yr]at a2
   refine O _ _ ⟨a3,rL,S,?_⟩
   rw[WR]
   exact λt mt e=>by rw[a2 t mt]at e;cases e
 rintro σ7 H7 ⟨a3,rfl,S7,hn⟩
 have e4:=S7 _ _ hL
 refine⟨00,L,rL,⟨_,SqL.of e4⟩,λDn i9=>?_⟩
 refine xI (js:=[5,10]) (J:=Itl K L) (g:=zG 0) (te:=_) (n:=1) (xs:=ms.map V.int) (λi v G=>∃t rq,ms[i]?=some t/\v=.ref rq/\zu G rq (moQ tk t N)) (λi v G G' e ⟨t,rq,q0,q1,q2⟩=>⟨t,rq,q0,q1,e _ _ q2⟩) i9 (xq e4) (i5 (by rw[wc];lia)) ?_ ?_
 ·intro i y zs G Q' hy hz S hQ
  rw[wo]at hy
  cases hm:ms[i]? with
  |none=>rw[hm]at hy;cases hy
  |some t =>
  rw[hm]at hy;cases hy
  obtain⟨w1,rfl⟩:=XL hz
  refine⟨rL,02,⇑5,λe he=>?_⟩
  have Se:=zq.upd (o:=.tup [.int t,.int N]) he
  exact mo t _ e _ (wU hm) (a7.same (S7.trans (S.trans Se))) zj (λrq G3 d1 b5=>hQ _ _ (Se.trans d1) ⟨t,rq,hm,rL,b5⟩) E0
 intro i7 G S j7 e5 hR
 refine⟨⇑5,λrr Y=>?_⟩
 have Sr:=zq.upd (o:=.tup [.str "never",.ref Dn]) Y
 refine kN hn rr Dn i7 _ (d2.trans (S7.trans (S.trans Sr))) zj (Sr _ _ j7) ⟨by rw[e5,wc,wc],λi v e=>?_⟩
 rcases q:hR i v e with⟨t,rq,h1,h2,h3⟩
 exact⟨_,rq,by rw[wo,h1];rfl,h2,h3.same Sr⟩
def raD (q:Rat):PyData:=.tuple [.int q.num,.int (q.den:Int)]
def zfd (qs:List Rat):PyData:=.tuple [.str "never",.list (qs.map raD)]
def atD (q:Rat):PyData:=.tuple [.str "at",raD q]
def Lay (n:Nat) (d:PyData):Prop:=PyData.canLay0 d=true/\PyData.depth d<=n
theorem zdC {n:Nat}:∀{ds:List PyData},(∀d∈ds,Lay n d)->PyData.canLayAll0 ds=true/\PyData.depthAll ds<=n
 |[],_=>⟨rfl,yb _⟩
 |d::ds,h=>by
  obtain⟨h1,h2⟩:=zdC (ds:=ds) λe m=>h e (wT _ m)
  obtain⟨F,G⟩:=h d (wF ..)
  refine⟨?_,?_⟩
  ·show (PyData.canLay0 d&&_)=true
   rw[h1,F];rfl
  ·show max (PyData.depth d) _<=n
   lia
theorem Lay.tup {n:Nat}{ds:List PyData}(h:∀d∈ds,Lay n d):Lay (n+1) (.tuple ds):=⟨(zdC h).1,Nat.succ_le_succ (zdC h).2⟩
theorem Lay.mono {m n:Nat}{d:PyData}(h:Lay m d) (e:m<=n):Lay n d:=⟨h.1,yF h.2 e⟩
theorem Lay.md {m n:Nat}{d:PyData}(h:Lay m d) (e:m<=n:=by decide):Lay n d:=h.mono e
theorem Lay.int (i:Int):Lay 0 (.int i):=⟨rfl,wn _⟩
theorem Lay.rat (x:Rat):Lay 1 (raD x):=Lay.tup λd m=>by
 rcases wu.mp m with rfl | m
 ·exact .int _
 ·rcases wu.mp m with rfl | m
  ·exact .int _
  ·cases m
theorem Lay.shaped {n:Nat}{d:PyData}(h:Lay n d) (e:n<=64):SeqAt.shaped d=true:=by
 show (_&&_)=true
 rw[h.1,wm (yF h.2 e)];rfl
theorem Lay.lst {n:Nat}{ds:List PyData}(h:∀d∈ds,Lay n d):Lay (n+1) (.list ds):=⟨(zdC h).1,Nat.succ_le_succ (zdC h).2⟩
theorem Lay.str {x:Str}(h:PyData.canLay0 (.str x)=true):Lay 0 (.str x):=⟨h,wn _⟩
theorem Lay.two {n:Nat}{a b:PyData}(h:Lay n a) (h':Lay n b):Lay (n+1) (.tuple [a,b]):=Lay.tup λd m=>by
 rcases wu.mp m with rfl | m
 ·exact h
 ·rw[w5.mp m];exact h'
theorem zb4 (qs:List Rat):SeqAt.shaped (zfd qs)=true:=(Lay.two (n:=2) ((Lay.str ⇑0).md) (Lay.lst λd m=>by obtain⟨q,_,rfl⟩:=wj.mp m;exact Lay.rat q)).shaped ⇑1
theorem zcr (q:Rat):SeqAt.shaped (atD q)=true:=(Lay.two (n:=1) ((Lay.str ⇑0).md) (Lay.rat q)).shaped ⇑1
theorem zu.rdD {H:Hp}{p:Addr}{q:Rat}(h:zu H p q):RdD H (.ref p) (raD q):=.tup h (.cons (.int _) (.cons (.int _) .nil))
theorem Z6 {H:Hp}:∀{us:List V}{qs:List Rat},ZW H us qs->Zx H us (qs.map raD)
 |[],[],_=>.nil
 |[],_::_,h=>by have:=h.1;simp at this
 |_::_,[],h=>by have:=h.1;simp at this
 |u::us,q::qs,h=>by
  obtain⟨F,r,e,e1,e2⟩:=h.2 0 u rfl
  simp at e;subst e;subst e1
  exact .cons (zu.rdD e2) (Z6 ⟨by have:=h.1;simpa using this,λi v e=>by simpa using h.2 (i+1) v ↥e⟩)
theorem ZW.same {H H':Hp}{us:List V}{qs:List Rat}(h:ZW H us qs) (e:zq H H'):ZW H' us qs:=⟨h.1,λi v q=>by obtain⟨x,r,e1,e2,F⟩:=h.2 i v q;exact⟨x,r,e1,e2,F.same e⟩⟩
theorem zd5 {C:Addr}{vs:List V}{H:Hp}{Q I:VK}{E U:XK}(h:zbp C vs H Q E) (k:∀v H',Q v H'->I v H') (ke:∀H',E (.ref C) none H'->U (.ref C) none H'):zbp C vs H I U:=by
 obtain⟨a1,a2,a3,a4,a5,a6,a7,a8,a9,b1,b2,W,b4,b5,Y,b7,b8,b9,c1,c2,c3,c4,h⟩:=h
 exists a1,a2,a3,a4,a5,a6,a7,a8,a9,b1,b2,W,b4,b5,Y,b7,b8,b9,c1,c2,c3,c4
 rcases h with⟨c5,S⟩ | ⟨l,e1,e2,F,G⟩
 ·exact .inl ⟨c5,λms N O=>⟨λt e r q H' e1 e2 F=>k _ _ ((S ms N O).1 t e r q H' e1 e2 F),λe r L us H' e1 e2 F G=>k _ _ ((S ms N O).2 e r L us H' e1 e2 F G)⟩⟩
 ·exact .inr ⟨l,e1,e2,F,λH' s=>ke _ (G H' s)⟩
inductive zjT (C:Addr) (vs:List V) (H:Hp) (Q:VK) (E:XK):Prop
 |mk:∀u1 u2 u3 u4 u5 um us qs,(vs=[u1,u2,u3,u4,u5,.ref um])->(H um=some (.lst us))->(ZW H us qs)->(us.length<=2000)->(zbp C [u1,u2,u3,u4,u5] H (λv H1=>zq H H1/\∃d,RdD H1 v d/\SeqAt.shaped d=true/\∀H',zq H1 H'->Q (.bl (PyData.eqv d (zfd qs))) H') E)->zjT C vs H Q E
theorem zlj:zC ["row","walls","k","place","t","moments"] ["row","walls","k","place","t","moments"] (zi ZL):=scq
theorem zkR (D:Df K mg "lets_never" ZL ["row","walls","k","place","t","moments"] []) (Y:mg "list" = none) (G:Qh P w K mg base "when" 10 ["row","walls","k","place","t"] [] (zbp CE)):Qh P w K mg base "lets_never" 11 ["row","walls","k","place","t","moments"] [] (zjT CE):=by
 rcases r:D.cal1q (k:=10) zlj with⟨u1,u2,u3,u4,u5,um,us,qs,rfl,S,O,W,h⟩
 have hu:=hr.units
 exists(zo (zE (qz (XN hu) (zfn G hr QJ %[0,1,2,3,4|0]) (zX %[Zc,Zp Qm ⇑2 Y WT %[5|0]|0]) (zH _))))
 refine⟨04,?_⟩
 dsimp only[Zu]
 refine zd5 h (λv H1 ⟨U,d,h1,h2,h3⟩=>?_) λH1 e=>⟨CE,rL,e⟩
 have F:=U _ _ S
 refine⟨00,um,us,rL,.inl (.of F),λl W=>⟨⇑5,λe he=>?_⟩⟩
 have Sl:=zq.upd (o:=.lst us) W
 have V:=zq.upd (o:=.tup [.str "never",.ref l]) he
 have I:=Sl.trans V
 refine⟨d,zfd qs,RdD.same I h1,.tup zj (.cons (.str _) (.cons (.lst (V _ _ zj) (Z6 (O.same (U.trans I)))) .nil)),h2,zb4 qs,h3 _ I⟩
theorem ziI {A C M u v q:Int}(F:0<M) (I:0<u) (G:0<v) (h:C*u-A*v<=q*(M*(u*v))):C.fdiv (M*v)-A.fdiv (M*u)<=q:=by
 have V:0<M*v:=wP F G
 have O:0<M*u:=wP F I
 rw[wD _ ∅,wD _ ∅]
 have U:=W4 C (M*v)
 have W:=yD C (show M*v≠0 by lia)
 have Y:=W4 A (M*u)
 have a2:=yE A O
 generalize C/(M*v)=x at *
 generalize A/(M*u)=y at *
 rcases yA q (x-y)with k | k
 ·exfalso
  have h1:M*v*x*u<=C*u:=yv ∅ ∅
  have h2:A*v<(M*u*y+M*u)*v:=yR ∅ G
  have S:(q+1+y)*(M*(u*v))<=x*(M*(u*v)):=yv ∅ (yM (wP F (wP I G)))
  lia
 ·exact k
theorem zeg (a b:Int):(a<0/\zY a*b=-a*b)\/(0<=a/\zY a*b=a*b):=by
 unfold zY
 split
 ·exact .inl ⟨‹_›,rL⟩
 ·exact .inr ⟨by lia,rfl⟩
theorem dif_le {T q:Int}{b e g:Int×Int}(I:0<T) (G:0<b.2) (F:0<e.2) (h:zY g.1*(e.1*b.2-b.1*e.2)<=q*(T*(b.2*e.2))):dif T b e g<=q:=by
 have key:∀s w:Int,s*(e.1*b.2-b.1*e.2)<=q*(T*(b.2*e.2))->za9 s w (some T) e.1 e.2-za9 s w (some T) b.1 b.2<=q:=λs w h=>by
  show (s*e.1-w*e.2).fdiv (T*e.2)-(-w).fdiv T-((s*b.1-w*b.2).fdiv (T*b.2)-(-w).fdiv T)<=q
  have:=ziI (A:=s*b.1-w*b.2) (C:=s*e.1-w*e.2) (q:=q) I G F (by
   have:(s*e.1-w*e.2)*b.2-(s*b.1-w*b.2)*e.2=s*(e.1*b.2-b.1*e.2):=by grind
   omega)
  omega
 unfold dif zam
 rcases zeg g.1 (e.1*b.2-b.1*e.2)with⟨c,k⟩ | ⟨c,k⟩
 ·rw[if_pos c,if_pos c];rw[k]at h;exact key _ _ h
 ·rw[if_neg (by omega),if_neg (by omega)];rw[k]at h;exact key _ _ h
section
variable {T:Int}{b l:Int×Int}{gs:List (Int×Int)}
theorem LkA.eF (h:LkA T b l gs):lkF b l*b.2=b.1*lkB b l:=by
 obtain⟨d,hd⟩:=h.B.2.2.1
 have:=h.bb.2.2
 unfold lkF
 rw[wD _ ∅]
 generalize lkB b l=B at *
 rw[hd,yf _ ∅]
 grind
theorem LkA.eL (h:LkA T b l gs):(lkL b l-lkF b l)*l.2=l.1*lkB b l:=by
 obtain⟨d,hd⟩:=h.B.2.2.2
 have:=h.bl.2.2
 unfold lkL
 rw[wD _ ∅]
 generalize lkB b l=B at *
 generalize lkF b l=F
 rw[hd,yf _ ∅]
 grind
theorem LkA.dif_le (h:LkA T b l gs){g:Int×Int}{q:Int}(S:zY g.1*l.1<=q*(T*l.2)):dif T b (lkL b l,lkB b l) g<=q:=by
 have F:=h.B.1
 have eF:=h.eF
 have eL:=h.eL
 have O:=h.bl.2.2
 have G:=h.bb.2.2
 refine KK.dif_le h.T0.1 G F ?_
 show zY g.1*(lkL b l*b.2-b.1*lkB b l)<=q*(T*(b.2*lkB b l))
 have e1:lkL b l*b.2-b.1*lkB b l=(lkL b l-lkF b l)*b.2:=by rw[<-eF];grind
 rw[e1]
 have h1:zY g.1*l.1*(b.2*lkB b l)<=q*(T*l.2)*(b.2*lkB b l):=yv S (yM (wP G F))
 have e2:zY g.1*((lkL b l-lkF b l)*b.2)*l.2=zY g.1*l.1*(b.2*lkB b l):=by
  have:zY g.1*((lkL b l-lkF b l)*b.2)*l.2=zY g.1*b.2*((lkL b l-lkF b l)*l.2):=by grind
  rw[this,eL];grind
 have I:q*(T*(b.2*lkB b l))*l.2=q*(T*l.2)*(b.2*lkB b l):=by grind
 rw[<-e2,<-I]at h1
 exact Yp h1 O
theorem LkA.lkC_le (h:LkA T b l gs){g:Int×Int}(m:g∈gs){q:Nat}(V:zY g.1*l.1<=q*(T*l.2)):lkC T (lkN b l gs) (lkU b l gs (lkF b l)) (lkU b l gs (lkL b l)) g<=q:=by
 have W:=h.B.1
 have eL:=h.eL
 have U:=h.bl.2.2
 have st:=h.stp m
 have aV:=ZX (h.bg g m).1
 obtain⟨N0,I,G⟩:=h.N
 obtain⟨d,hd⟩:=I
 obtain⟨w,hw⟩:=G g m
 have S:0<d:=by
  rcases yA 0 d with c | c
  ·exact c
  ·have:=ur (show 0<=lkB b l by lia) c;lia
 have O:∀x,lkU b l gs x=x*d:=λx=>by
  unfold lkU
  rw[wD _ ∅,hd,yf _ ∅]
 have eS:v4 T (lkN b l gs) g=T*w:=by
  unfold v4
  rw[wD _ ∅,hw,yf _ ∅]
 have Y:(lkL b l*d-lkF b l*d)<=(q:Int)*(T*w):=by
  have h1:zY g.1*l.1*(lkB b l*d)<=(q:Int)*(T*l.2)*(lkB b l*d):=yv V (yM (wP W S))
  have e1:zY g.1*l.1*(lkB b l*d)=(lkL b l*d-lkF b l*d)*(zY g.1*l.2):=by
   have:(lkL b l*d-lkF b l*d)*(zY g.1*l.2)=zY g.1*d*((lkL b l-lkF b l)*l.2):=by grind
   rw[this,eL];grind
  have e2:(q:Int)*(T*l.2)*(lkB b l*d)=(q:Int)*(T*w)*(zY g.1*l.2):=by
   rw[<-hd,hw];grind
  rw[e1,e2]at h1
  exact Yp h1 (wP aV U)
 unfold lkC zb0
 rw[O,O]
 rw[eS]at st ⊢
 have nn:=yD (Xy (lkN b l gs) g-lkF b l*d-1) (show T*w≠0 by lia)
 generalize (Xy (lkN b l gs) g-lkF b l*d-1) % (T*w)=r at *
 generalize lkL b l*d=E at *
 generalize lkF b l*d=F at *
 generalize T*w=c at *
 unfold Builtin.Range.rangeSize
 rw[if_pos st]
 split
 ·have:(E-(F+1+r)-1)/c<q:=Int.ediv_lt_of_lt_mul st ∅
  lia
 ·lia
end
theorem zib {α:Type} [DecidableEq α]:∀{L ms:List α},ms.Nodup->(∀k∈ms,k∈L)->ms.length<=L.length
 |[],[],_,_=>wn _
 |[],m::ms,_,h=>by have:=h m wF;cases this
 |x::L,ms,nd,h=>by
  have h1:(ms.erase x).length<=L.length:=zib (nd.erase x) λk m=>by
   have:=(nd.mem_erase_iff).mp m
   rcases wu.mp (h k this.2)with e | e
   ·exact absurd e this.1
   ·exact e
  have h2:ms.length<=(ms.erase x).length+1:=by
   rw[List.length_erase];split <;> lia
  rw[wB];lia
theorem zcL {T F b e:Int}{q:Nat}:∀{gs:List (Int×Int)},(∀g∈gs,lkC T F b e g<=q)->(lkG T F b e gs).length<=gs.length*q
 |[],_=>yb _
 |g::gs,h=>by
  have h1:=h g wF
  have h2:=zcL (gs:=gs) λx m=>h x (wT _ m)
  show (lkW T F b e g++lkG T F b e gs).length<=_
  rw[wX,wB,Nat.succ_mul]
  have:(lkW T F b e g).length=lkC T F b e g:=by unfold lkW zg3 V0;rw[wc,yU]
  lia
theorem LkG.of {T:Int}{b l:Int×Int}{gs:List (Int×Int)} (h:LkA T b l gs) (O:Bd 1300 (lkN b l gs)){q:Nat}(G:∀g∈gs,zY g.1*l.1<=q*(T*l.2)) (W:1+gs.length*q<=1000) (I:q<=1000):LkG T b l gs:=by
 have F:∀g∈gs,lkC T (lkN b l gs) (lkU b l gs (lkF b l)) (lkU b l gs (lkL b l)) g<=q:=λg m=>h.lkC_le m (G g m)
 have S:(lkM T b l gs).length<=1000:=by
  unfold lkM
  rw[wB]
  have:=zcL F
  lia
 refine⟨λg m=>yu (h.dif_le (G g m)) ∅,O,λg m=>yF (F g m) I,by lia,λms V U=>yF (zib U λk m=>(V k).mp m) S⟩
theorem zgV {c v:Int}(G:0<c) (F:0<v):(c/(Int.gcd c v:Int)*v)/(Int.gcd (c/(Int.gcd c v:Int)*v) v:Int)*v=c/(Int.gcd c v:Int)*v:=by
 generalize c/(Int.gcd c v:Int)=d
 have:(Int.gcd (d*v) v:Int)=v:=by
  unfold Int.gcd;rw[Y8,Nat.gcd_mul_left_left];lia
 rw[this,Int.mul_ediv_cancel _ ∅]
theorem zab {n:Nat}{l0 z:Int}:∀(trs:List (Int×Int)) (c:Int) (m:Nat),0<c->Bd m c->(∀t∈trs,Bd n t.2)->0<lcF c ((zR l0 z trs).map λg=>zY g.1)/\Bd (m+n*trs.length) (lcF c ((zR l0 z trs).map λg=>zY g.1))
 |[],c,m,h,b,_=>⟨h,b⟩
 |t::r,c,m,h,b,hb=>by
  have I:=hb t wF
  have hr:=λx q=>hb x (wT _ q)
  show 0<lcF c ((XH l0 z t++zR l0 z r).map λg=>zY g.1)/\Bd _ (lcF c ((XH l0 z t++zR l0 z r).map λg=>zY g.1))
  unfold XH
  by_cases e:t.2=0
  ·rw[if_pos e,WM]
   obtain⟨G,F⟩:=zab r c m h b hr
   exact⟨G,F.mono (by rw[wB,Ud];lia)⟩
  ·rw[if_neg e,yx]
   have p:=ZX e
   have O:=vM h p
   show 0<lcF (c/(Int.gcd c (zY t.2):Int)*zY t.2/(Int.gcd (c/(Int.gcd c (zY t.2):Int)*zY t.2) (zY t.2):Int)*zY t.2) _/\Bd _ (lcF (c/(Int.gcd c (zY t.2):Int)*zY t.2/(Int.gcd (c/(Int.gcd c (zY t.2):Int)*zY t.2) (zY t.2):Int)*zY t.2) _)
   rw[zgV h p]
   obtain⟨G,F⟩:=zab r _ (m+n) O (JX h p b (JV I)) hr
   exact⟨G,F.mono (by rw[wB,Ud];lia)⟩
theorem ziX {T l0 z:Int}{b l:Int×Int}{trs:List (Int×Int)}{n:Nat}(h:LkA T b l (zR l0 z trs)) (G:Bd 300 (lkB b l)) (F:∀t∈trs,Bd n t.2):Bd (300+n*trs.length) (lkN b l (zR l0 z trs)):=by
 have e:lkN b l (zR l0 z trs)=lcF (lkB b l) ((zR l0 z trs).map λg=>zY g.1):=by
  unfold lkN xP lcF
  rw[uF]
  congr 1
  rw[WZ,show (Int.gcd (lkB b l) 1:Int)=1 by rw[Int.gcd_one_right];rfl]
  lia
 rw[e]
 exact(zab trs _ 300 h.B.1 G F).2
theorem zgD {x:Rat}{b:Int}(h:(x.den:Int) ∣ b):byB x b*(x.den:Int)=x.num*b:=by
 obtain⟨k,F⟩:=h
 have G:0<(x.den:Int):=by have:=x.den_pos;lia
 have f1:b.fdiv (x.den:Int)=k:=by rw[wD _ ∅,F];exact yf _ ∅
 unfold byB
 rw[f1,F,WQ,yX k]
theorem QL {t b:Int}(F:b≠0):(Rat.divInt t b).num*b=t*((Rat.divInt t b).den:Int):=by
 have h:=wY (Rat.divInt t b)
 rw[uh (by have:=(Rat.divInt t b).den_pos;lia) F]at h
 exact h
theorem Z5 {ps:List (Int×List Int)}{k w:Int}{e:Int×List Int}(m:e∈Zy ps k w):e=(k,[w])\/e∈ps\/∃o∈ps,o.1=k/\e=(k,o.2++[w]):=by
 unfold Zy at m
 split at m
 ·obtain⟨o,F,rfl⟩:=wj.mp m
  by_cases q:o.1=k
  ·rw[if_pos q];exact .inr (.inr ⟨o,F,q,by rw[q]⟩)
  ·rw[if_neg q];exact .inr (.inl F)
 ·rcases ya.mp m with m | m
  ·exact .inr (.inl m)
  ·exact .inl (w5.mp m)
theorem zei (ps:List (Int×List Int)) (k w:Int):(Zy ps k w).length<=ps.length+1:=by
 unfold Zy
 split
 ·rw[wc];lia
 ·rw[wX];simp
theorem zgy (ps:List (Int×List Int)) (k w:Int):Zy ps k w≠[]:=by
 unfold Zy
 split
 ·rename_i h
  intro z
  rw[List.map_eq_nil_iff.mp z]at h;cases h
 ·simp
theorem zcp {ps:List (Int×List Int)}{k w:Int}(h:(ps.map Prod.fst).Nodup):((Zy ps k w).map Prod.fst).Nodup:=by
 unfold Zy
 split
 ·rw[wG]
  have:(ps.map (Prod.fst ∘ λp:Int×List Int=>if p.1=k then(p.1,p.2++[w])else p))=ps.map Prod.fst:=wy λp _=>by
   show (if p.1=k then(p.1,p.2++[w])else p).1=p.1
   split <;> rfl
  rw[this];exact h
 ·rename_i hn
  rw[yx]
  refine YG.mpr ⟨h,by simp,λb G c F=>?_⟩
  obtain⟨e,m,rfl⟩:=wj.mp G
  simp at F;subst F
  exact λz=>hn (List.any_eq_true.mpr ⟨e,m,wm z⟩)
structure PhJ (l T:Int) (js:List (Int×Int)) (ps:List (Int×List Int)):Prop where
 nd:(ps.map Prod.fst).Nodup
 k0:∀e∈ps,0<e.1
 l1:∀e∈ps,1<=e.2.length
 ll:∀e∈ps,e.2.length<=js.length
 pl:ps.length<=js.length
 of:∀e∈ps,∃u∈js,u.2=e.1\/u.2=-e.1
 inn:∀e∈ps,∀q∈e.2,0<=q/\q<T
 mv:ps=[]↔∀u∈js,u.2=0
theorem PhJ.add {l T:Int}{js:List (Int×Int)}{ps:List (Int×List Int)} (h:PhJ l T js ps){u:Int×Int}{k w:Int}(I:0<k) (O:u.2=k\/u.2=-k) (hw:0<=w/\w<T):PhJ l T (js++[u]) (Zy ps k w):=by
 have V:(js++[u]).length=js.length+1:=by simp
 exists zcp h.nd,λe m=>?_,λe m=>?_,λe m=>?_,by have:=zei ps k w;have:=h.pl;lia,λe m=>?_,λe m=>?_
 ·rcases Z5 m with rfl | m | ⟨o,F,q,rfl⟩
  ·exact I
  ·exact h.k0 e m
  ·exact I
 ·rcases Z5 m with rfl | m | ⟨o,F,q,rfl⟩
  ·simp
  ·exact h.l1 e m
  ·simp
 ·rcases Z5 m with rfl | m | ⟨o,F,q,rfl⟩
  ·simp
  ·have:=h.ll e m;lia
  ·have:=h.ll o F;simp;lia
 ·rcases Z5 m with rfl | m | ⟨o,F,q,rfl⟩
  ·exact⟨u,by simp,O⟩
  ·obtain⟨v,U,q⟩:=h.of e m;exact⟨v,by simp[U],q⟩
  ·exact⟨u,by simp,O⟩
 ·rcases Z5 m with rfl | m | ⟨o,F,q,rfl⟩
  ·intro q S;cases w5.mp S;exact hw
  ·exact h.inn e m
  ·intro x G
   rcases ya.mp G with G | G
   ·exact h.inn o F x G
   ·cases w5.mp G;exact hw
 ·constructor
  ·intro z;exact absurd z (zgy ps k w)
  ·intro z
   have:=z u (by simp)
   lia
theorem zjw {l T:Int}{js:List (Int×Int)} (G:∀u∈js,(0<u.2->0<=u.1-l/\u.1-l<T)/\(u.2<0->0<=T-(u.1-l)/\T-(u.1-l)<T)):PhJ l T js (phO l T js):=by
 unfold phO
 suffices h:∀(ts ds:List (Int×Int)) ps,(∀u∈ts,u∈js)->PhJ l T ds ps->PhJ l T (ds++ts) (ts.foldl (Zd l T) ps)from
  h js [] [] (λu m=>m) ⟨by simp,λe m=>(by cases m),λe m=>(by cases m),λe m=>(by cases m),by simp,λe m=>(by cases m),λe m=>(by cases m),by simp⟩
 intro ts
 induction ts with
 |nil=>intro ds ps _ h;rw[yO];exact h
 |cons t ts ih =>
  intro ds ps F h
  rw[uF,show ds++t::ts=(ds++[t])++ts by simp]
  refine ih _ _ (λu m=>F u (by simp[m])) ?_
  obtain⟨h1,h2⟩:=G t (F t (by simp))
  unfold Zd
  by_cases a:0<t.2
  ·rw[if_pos a];exact h.add a (.inl rfl) (h1 a)
  ·rw[if_neg a]
   by_cases b:t.2<0
   ·rw[if_pos b];exact h.add ∅ (.inr ∅) (h2 b)
   ·rw[if_neg b]
    have I:(ds++[t]).length=ds.length+1:=by simp
    exists h.nd,h.k0,h.l1,λe m=>by have:=h.ll e m;lia,by have:=h.pl;lia,λe m=>let ⟨v,mv,q⟩:=h.of e m;⟨v,by simp[mv],q⟩,h.inn
    rw[h.mv]
    constructor
    ·intro z u m
     rcases ya.mp m with m | m
     ·exact z u m
     ·cases w5.mp m;lia
    ·intro z u m;exact z u (by simp[m])
theorem J3 {a b c:Int}(h:a ∣ b*c) (g:Int.gcd a b=1):a ∣ c:=by
 rw[<-uS]at h ⊢
 rw[Y8]at h
 exact Nat.Coprime.dvd_of_dvd_mul_left g h
theorem zgP {c n:Int}(O:0<c):∃g F G:Int,g=(Int.gcd c n:Int)/\0<g/\c=g*F/\n=g*G/\Int.gcd F G=1:=by
 have I:0<Int.gcd c n:=uw _ ∅
 refine⟨(Int.gcd c n:Int),c/(Int.gcd c n:Int),n/(Int.gcd c n:Int),rfl,by lia,?_,?_,Int.gcd_ediv_gcd_ediv_gcd I⟩
 ·exact(Int.mul_ediv_cancel' (uz ..)).symm
 ·exact(Int.mul_ediv_cancel' (Wv ..)).symm
theorem zdD {c n X:Int}(U:0<c) (h1:c ∣ X) (h2:n ∣ X):c/(Int.gcd c n:Int)*n ∣ X:=by
 obtain⟨g,F,W,S,Y,e1,e2,co⟩:=zgP (c:=c) (n:=n) U
 rw[<-S]
 have I:c/g=F:=by rw[e1];exact yf _ ∅
 rw[I]
 obtain⟨x,G⟩:=h2
 have O:g*F ∣ g*(W*x):=by rw[<-e1,<-WQ,<-e2,<-G];exact h1
 have V:F ∣ x:=J3 (Yi ∅ O) co
 rw[G,yX F n]
 exact Y0 (Yu n) V
theorem Qw:∀{ks:List Int}{c:Int},0<c->(∀k∈ks,0<k)->0<ks.foldl (λc n=>c/(Int.gcd c n:Int)*n) c/\c ∣ ks.foldl (λc n=>c/(Int.gcd c n:Int)*n) c/\(∀k∈ks,k ∣ ks.foldl (λc n=>c/(Int.gcd c n:Int)*n) c)/\∀X,c ∣ X->(∀k∈ks,k ∣ X)->ks.foldl (λc n=>c/(Int.gcd c n:Int)*n) c ∣ X
 |[],c,hc,_=>⟨hc,Yu c,λk m=>(by cases m),λX h _=>h⟩
 |n::ks,c,hc,hk=>by
  have G:=hk n (by simp)
  obtain⟨U,F,V,S⟩:=Qw (ks:=ks) (vM hc G) λk m=>hk k (by simp[m])
  obtain⟨O,I⟩:=zcK hc G
  rw[uF]
  refine⟨U,Ww O F,λk m=>?_,λX h1 h2=>S X (zdD hc h1 (h2 n (by simp))) λk m=>h2 k (by simp[m])⟩
  rcases wu.mp m with rfl | m
  ·exact Ww I F
  ·exact V k m
theorem zeM {qs:List Rat}{D X:Int}(h:∀q∈qs,D ∣ X*(q.den:Int)):D ∣ X*qK qs:=by
 unfold qK
 suffices g:∀(qs:List Rat) (d:Int),(∀q∈qs,D ∣ X*(q.den:Int))->D ∣ X*d->D ∣ X*qs.foldl (λd q=>((Int.gcd (q.den:Int) d:Nat):Int)) d from g qs 0 h (by rw[Int.mul_zero];exact Int.dvd_zero D)
 intro qs
 induction qs with
 |nil=>intro d _ h;exact h
 |cons q qs ih =>
  intro d F hd
  rw[uF]
  refine ih _ (λr m=>F r (by simp[m])) ?_
  have h1:=F q (by simp)
  have h2:D ∣ ((Int.gcd (X*(q.den:Int)) (X*d):Nat):Int):=Int.dvd_coe_gcd h1 hd
  rw[Int.gcd_mul_left]at h2
  rw[<-uS]at h2 ⊢
  rw[Y8]
  exact h2
theorem zbX {qs:List Rat}(G:1<=qs.length) (U:∀q∈qs,0<q.num){q:Rat}(m:q∈qs):q.num*((xl qs).den:Int) ∣ (xl qs).num*(q.den:Int):=by
 obtain⟨V,_⟩:=Qs G
 have O:∀t∈qs.map Rat.num,0<t:=λt m=>by
  obtain⟨q,I,rfl⟩:=wj.mp m
  exact U q I
 obtain⟨W,_,S,_⟩:=Qw (c:=1) ⇑1 O
 have h1:q.num ∣ xP (qs.map Rat.num):=S _ (wj.mpr ⟨q,m,rfl⟩)
 have h2:=(zaU qs).1 q m
 have F:=QL (t:=xP (qs.map Rat.num)) (b:=qK qs) ∅
 change (xl qs).num*qK qs=xP (qs.map Rat.num)*((xl qs).den:Int)at F
 have:qK qs*(q.num*((xl qs).den:Int)) ∣ qK qs*((xl qs).num*(q.den:Int)):=by
  rw[show qK qs*((xl qs).num*(q.den:Int))=(xl qs).num*qK qs*(q.den:Int) by grind,F,show qK qs*(q.num*((xl qs).den:Int))=q.num*((xl qs).den:Int)*qK qs by grind]
  exact Y0 (Y0 h1 (Yu _)) h2
 exact Yi ∅ this
structure RwZ (bs:List Bl) (lo hi:Rat×Rat):Prop where
 sp:∀t∈ths bs (some lo) (some hi),Bd 100 t.1.num/\Bd 12 (t.1.den:Int)
 ss:∀t∈ths bs (some lo) (some hi),Bd 80 t.2.num/\Bd 13 (t.2.den:Int)
 l5:bs.length<=5
 lh:lo.1<hi.1
 inn:∀b∈bs,lo.1<=b.pl/\b.pl<=hi.1
 off:∀b∈bs,b.sp<0->lo.1<b.pl
theorem zaX {n:Nat}{qs:List Rat}(h:∀q∈qs,Bd n (q.den:Int)):0<Vk qs/\Bd (1+n*qs.length) (Vk qs)/\∀q∈qs,(q.den:Int) ∣ Vk qs:=by
 obtain⟨a,b,c⟩:=VS (n:=n) (ks:=qs.map λq=>(q.den:Int)) (λk m=>by obtain⟨q,F,rfl⟩:=wj.mp m;exact⟨den_pos q,h q F⟩)
 exact⟨a,by rw[wc]at b;exact b,λq m=>c _ (wj.mpr ⟨q,m,rfl⟩)⟩
theorem zem {x y:Rat}{b:Int}(F:0<b) (G:(x.den:Int) ∣ b) (I:(y.den:Int) ∣ b) (h:x<=y):byB x b<=byB y b:=by
 rcases Decidable.em (x=y)with e | e
 ·rw[e];exact uZ _
 ·exact yM (VH F G I (by grind))
section
variable {bs:List Bl}{lo hi:Rat×Rat}
theorem ths5 (h:bs.length<=5):(ths bs (some lo) (some hi)).length<=7:=by
 unfold ths
 simp only[wX,wc,QR,wB,YW]
 lia
structure RwF (bs:List Bl) (lo hi:Rat×Rat) (p s:Int):Prop where
 p0:0<p
 pb:Bd 85 p
 pd:∀t∈ths bs (some lo) (some hi),(t.1.den:Int) ∣ p
 s0:0<s
 sb:Bd 92 s
 sd:∀t∈ths bs (some lo) (some hi),(t.2.den:Int) ∣ s
 t1:∀t∈ths bs (some lo) (some hi),Bd 186 (trB p s t).1
 t2:∀t∈ths bs (some lo) (some hi),Bd 173 (trB p s t).2
 lh:(trB p s lo).1<(trB p s hi).1
theorem RwZ.f (z:RwZ bs lo hi):RwF bs lo hi (pbO bs (some lo) (some hi)) (sbO bs (some lo) (some hi)):=by
 have l7:=ths5 (lo:=lo) (hi:=hi) z.l5
 obtain⟨U,O,W⟩:=zaX (n:=12) (qs:=(ths bs (some lo) (some hi)).map (·.1)) (λq m=>by obtain⟨t,F,rfl⟩:=wj.mp m;exact(z.sp t F).2)
 obtain⟨Y,S,s3⟩:=zaX (n:=13) (qs:=(ths bs (some lo) (some hi)).map (·.2)) (λq m=>by obtain⟨t,F,rfl⟩:=wj.mp m;exact(z.ss t F).2)
 rw[wc]at O S
 have V:Bd 85 (pbO bs (some lo) (some hi)):=O.mono ∅
 have I:Bd 92 (sbO bs (some lo) (some hi)):=S.mono ∅
 have G:∀t∈ths bs (some lo) (some hi),(t.1.den:Int) ∣ pbO bs (some lo) (some hi):=λt m=>W _ (wj.mpr ⟨t,m,rfl⟩)
 exact⟨U,V,G,Y,I,λt m=>s3 _ (wj.mpr ⟨t,m,rL⟩),λt m=>((z.sp t m).1.mul (bdx V)).md,λt m=>((z.ss t m).1.mul (bdx I)).md,VH U (G _ (vi rL)) (G _ (vW rL)) z.lh⟩
theorem RwZ.lnz (z:RwZ bs lo hi):LnZ bs (some lo) (some hi) :=
 ⟨λt m=>⟨⟨(z.sp t m).1.md,(z.sp t m).2.md⟩,⟨(z.ss t m).1.md,(z.ss t m).2.md⟩⟩,λl h e1 e2=>by cases e1;cases e2;exact z.lh⟩
theorem zgE {x:Rat}{b:Int}(F:0<b) (h:byB x b<0):x<0:=by
 have d:=den_pos x
 have f:0<=b.fdiv (x.den:Int):=by rw[wD _ ∅];exact WP ∅ ∅
 have n:x.num<0:=by
  rcases yA x.num 0 with c | c
  ·exact c
  ·have:=Wk c f
   unfold byB at h;lia
 have h2:¬ 0<=x:=λc=>by have:=Y6.mpr c;lia
 grind
theorem RwZ.rog (z:RwZ bs lo hi){p s T:Int}{tk:Rat}{pss:List (Int×List Int)} (ep:p=pbO bs (some lo) (some hi)) (es:s=sbO bs (some lo) (some hi)) (V:tk=Rat.divInt s p) (eT:T=2*((trB p s hi).1-(trB p s lo).1)) (S:pss=phO (trB p s lo).1 T (bs.map λb=>trB p s (b.pl,b.sp))) :
  RoG bs lo hi T s tk pss/\PhJ (trB p s lo).1 T (bs.map λb=>trB p s (b.pl,b.sp)) pss/\Sz 92 tk/\0<tk.num/\0<T/\Bd 190 T:=by
 have F:=z.f
 rw[<-ep,<-es]at F
 have U:∀b∈bs,(b.pl,b.sp)∈ths bs (some lo) (some hi):=λb m=>XD m
 have W:0<T:=by have:=F.lh;lia
 have Y:Bd 190 T:=by
  have h1:(trB p s lo).1.natAbs<2^186:=F.t1 _ (vi rfl)
  have h2:(trB p s hi).1.natAbs<2^186:=F.t1 _ (vW rfl)
  show T.natAbs<2^190
  lia
 have O:Sz 92 tk:=by rw[V];exact .divInt (by have:=F.p0;lia) F.sb (F.pb.md)
 have tn:0<tk.num:=by
  rw[V]
  have h:=QL (t:=s) (b:=p) (by have:=F.p0;lia)
  have d:=den_pos (Rat.divInt s p)
  have h2:0<s*((Rat.divInt s p).den:Int):=wP F.s0 d
  rw[<-h]at h2
  rcases yA 0 (Rat.divInt s p).num with c | c
  ·exact c
  ·have:=WG c (show 0<=p by have:=F.p0;lia);lia
 have G:PhJ (trB p s lo).1 T (bs.map λb=>trB p s (b.pl,b.sp)) pss:=by
  rw[S]
  refine zjw λu m=>?_
  obtain⟨b,I,rfl⟩:=wj.mp m
  have i1:=zem F.p0 (F.pd _ (vi rfl)) (F.pd _ (U b I)) (z.inn b I).1
  have i2:=zem F.p0 (F.pd _ (U b I)) (F.pd _ (vW rfl)) (z.inn b I).2
  have hl:=F.lh
  dsimp only at i1 i2
  simp only[trB]at hl eT ⊢
  refine⟨λ_=>by lia,λh=>?_⟩
  have i3:=VH F.p0 (F.pd _ (vi rfl)) (F.pd _ (U b I)) (z.off b I (zgE F.s0 h))
  dsimp only at i3
  lia
 have a1:=z.l5
 have lm:(bs.map λb=>trB p s (b.pl,b.sp)).length=bs.length:=wc ..
 have bk:∀e∈pss,Bd 173 e.1:=λe m=>by
  obtain⟨u,mu,h⟩:=G.of e m
  obtain⟨b,I,rfl⟩:=wj.mp mu
  have:=F.t2 _ (U b I)
  rcases h with h | h
  ·rw[<-h];exact this
  ·rw[show e.1=- -e.1 by lia,<-h];exact this.neg
 refine⟨⟨es,by rw[V,es,ep],by rw[eT,ep,es],by rw[S,ep,es],by have:=G.pl;lia,λe m=>⟨W,Y.md,by have:=G.ll e m;lia,G.inn e m⟩,G.l1,G.k0,λe m=>(bk e m).md,λe m g g1 g2=>?_⟩,G,O,tn,W,Y⟩
 have g8:g<=8:=by have:=G.ll e m;lia
 have bA:Bd 400 (T*tk.num):=(Y.mul O.1).md
 have bB:Bd 400 ((g:Int)*e.1*(tk.den:Int)):=(((show Bd 5 (g:Int)from(show (g:Int).natAbs<2^5 by lia)).mul (bk e m)).mul O.2).md
 have pB:0<(g:Int)*e.1*(tk.den:Int):=wP (wP ∅ (G.k0 e m)) (den_pos tk)
 have sz:Sz 400 (vP T e.1 g tk):=.divInt ∅ bA bB
 refine⟨?_,sz.1,sz.2⟩
 have h:=QL (t:=T*tk.num) (b:=(g:Int)*e.1*(tk.den:Int)) ∅
 have d:=den_pos (Rat.divInt (T*tk.num) ((g:Int)*e.1*(tk.den:Int)))
 have h2:=wP (wP W tn) d
 rw[<-h]at h2
 show 0<(Rat.divInt (T*tk.num) ((g:Int)*e.1*(tk.den:Int))).num
 rcases yA 0 (Rat.divInt (T*tk.num) ((g:Int)*e.1*(tk.den:Int))).num with c | c
 ·exact c
 ·have:=WG c (show 0<=(g:Int)*e.1*(tk.den:Int) by lia);lia
end
theorem zc1 (n:Int):(n:Rat)=Rat.divInt n 1:=by
 rw[wN]
 have:((1:Int):Rat)=1:=rfl
 rw[this]
 grind
theorem zie (q:Rat):Int.gcd q.num (q.den:Int)=1:=q.reduced
theorem Vh {X q:Rat}{n:Int}:X=(n:Rat)*q↔X.num*(q.den:Int)=n*q.num*(X.den:Int):=by
 have e1:X=Rat.divInt X.num (X.den:Int):=(wY X).symm
 have e2:(n:Rat)*q=Rat.divInt (n*q.num) (q.den:Int):=by
  have:(n:Rat)=Rat.divInt n 1:=zc1 n
  rw[this]
  conv=>lhs;rw[<-wY q]
  rw[yG,uY]
 rw[e2]
 conv=>lhs;lhs;rw[e1]
 have:=den_pos X
 have:=den_pos q
 exact uh ∅ ∅
theorem jU {X q:Rat}{n:Int}(h:X=(n:Rat)*q):q.num ∣ X.num/\(X.den:Int) ∣ (q.den:Int):=by
 have e:=Vh.mp h
 constructor
 ·refine J3 (a:=q.num) (b:=(q.den:Int)) (c:=X.num) ⟨n*(X.den:Int),by rw[yX,e];grind⟩ (zie q)
 ·refine J3 (a:=(X.den:Int)) (b:=X.num) (c:=(q.den:Int)) ⟨n*q.num,by rw[e];grind⟩ ?_
  rw[WZ];exact zie X
theorem JD {qs:List Rat}{X:Rat}(G:1<=qs.length) (S:∀q∈qs,0<q.num) (h:∀q∈qs,∃n:Int,X=(n:Rat)*q):∃n:Int,X=(n:Rat)*xl qs:=by
 obtain⟨W,_⟩:=Qs G
 have I:∀t∈qs.map Rat.num,0<t:=λt m=>by
  obtain⟨q,F,rfl⟩:=wj.mp m
  exact S q F
 obtain⟨Y,_,_,V⟩:=Qw (c:=1) ⇑1 I
 have h1:xP (qs.map Rat.num) ∣ X.num:=V X.num (Int.one_dvd _) λt m=>by
  obtain⟨q,F,rfl⟩:=wj.mp m
  obtain⟨n,e⟩:=h q F
  exact(jU e).1
 have h2:(X.den:Int) ∣ 1*qK qs:=zeM λq F=>by
  obtain⟨n,e⟩:=h q F
  rw[uY];exact(jU e).2
 rw[uY]at h2
 obtain⟨a,U⟩:=h1
 obtain⟨g,O⟩:=h2
 refine⟨a*g,?_⟩
 have e1:X=Rat.divInt X.num (X.den:Int):=(wY X).symm
 have dX:=den_pos X
 have e2:((a*g:Int):Rat)*xl qs=Rat.divInt (a*g*xP (qs.map Rat.num)) (qK qs):=by
  have:((a*g:Int):Rat)=Rat.divInt (a*g) 1:=zc1 _
  rw[this]
  unfold xl
  rw[yG,uY]
 rw[e2]
 conv=>lhs;rw[e1]
 rw[uh ∅ ∅,U,O]
 grind
theorem JE {qs:List Rat}(G:1<=qs.length) (F:∀q∈qs,0<q.num){q:Rat}(m:q∈qs):∃n:Int,xl qs=(n:Rat)*q:=by
 obtain⟨n,e⟩:=zbX G F m
 have:=F q m
 refine⟨n,Vh.mpr ?_⟩
 rw[e];grind
theorem JF {qs:List Rat}(F:1<=qs.length) (U:∀q∈qs,0<q.num):0<xl qs:=by
 obtain⟨G,_⟩:=Qs F
 have O:∀t∈qs.map Rat.num,0<t:=λt m=>by
  obtain⟨q,I,rfl⟩:=wj.mp m
  exact U q I
 obtain⟨S,_⟩:=Qw (c:=1) ⇑1 O
 unfold xl
 have:=(xK (a:=0) (b:=xP (qs.map Rat.num)) G).mpr S
 rw[Rat.zero_divInt]at this
 exact this
theorem jR {x:Rat}{b:Int}(h:(x.den:Int) ∣ b):(byB x b:Rat)=x*(b:Rat):=by
 have e:=zgD h
 have d:=den_pos x
 have e1:x=Rat.divInt x.num (x.den:Int):=(wY x).symm
 have e2:Rat.divInt x.num (x.den:Int)*(b:Rat)=Rat.divInt (x.num*b) (x.den:Int):=by
  rw[zc1 b,yG,YJ]
 conv=>rhs;rw[e1]
 rw[e2,zc1 (byB x b),uh ⇑1 ∅,YJ]
 exact e
structure RwU (bs:List Bl) (lo hi:Rat×Rat) (u:Rat) (q:Nat):Prop where
 u0:0<u
 q1:q<=1100
 sp:∀b∈bs,b.sp≠0->∃k:Nat,1<=k/\k<=q/\(b.sp=((k:Int):Rat)*u\/b.sp=-(((k:Int):Rat)*u))
 X:Bd 20 (2*(hi.1-lo.1)/u).num
 pd:∀b∈bs,b.sp≠0->∀k:Nat,(b.sp=((k:Int):Rat)*u\/b.sp=-(((k:Int):Rat)*u))->Bd 20 ((2*(hi.1-lo.1)/(((k:Int):Rat)*u)).den:Int)
theorem za7 {T g k:Int}{tk:Rat}(G:g≠0) (F:k≠0):vP T k g tk=(T:Rat)*tk/((g:Rat)*(k:Rat)):=by
 unfold vP
 have e:tk=(tk.num:Rat)/((tk.den:Int):Rat):=by rw[<-wN];exact(wY tk).symm
 have d:=den_pos tk
 rw[wN]
 conv=>rhs;rw[e]
 have h1:(g:Rat)≠0:=λz=>G (yS.mp z)
 have h2:(k:Rat)≠0:=λz=>F (yS.mp z)
 have I:((tk.den:Int):Rat)≠0:=λz=>(show (tk.den:Int)≠0 by lia) (yS.mp z)
 rw[wf,wf,wf]
 generalize (tk.num:Rat)=n
 generalize ((tk.den:Int):Rat)=d at *
 grind
theorem zi2 {x:Rat}{n:Int}{X:Rat}{m:Nat}(h:X=(n:Rat)*x) (F:0<X) (b:Bd m X.num):Bd m x.num:=by
 have d:=(jU h).1
 have p:0<X.num:=by
  have:=(KM.vv 0 X).mpr F
  have e1:(0:Rat).num=0:=rfl
  have e2:((0:Rat).den:Int)=1:=rfl
  rw[e1,e2]at this;omega
 have:x.num.natAbs<=X.num.natAbs:=YK (by omega) (uS.mpr d)
 exact b.of_le this
section
variable {bs:List Bl}{lo hi:Rat×Rat}{u:Rat}{q:Nat}{p s T:Int}{tk:Rat}{pss:List (Int×List Int)}
theorem zQ {n:Int}(h:n≠0):(n:Rat)≠0:=λz=>h (yS.mp z)
structure RwR (bs:List Bl) (lo hi:Rat×Rat) (p s T:Int) (tk:Rat):Prop where
 T:(T:Rat)=2*(hi.1-lo.1)*(p:Rat)
 tk:tk=(s:Rat)/(p:Rat)
 v:∀b∈bs,(((trB p s (b.pl,b.sp)).2:Int):Rat)=b.sp*(s:Rat)
theorem RwZ.rat (z:RwZ bs lo hi) (ep:p=pbO bs (some lo) (some hi)) (es:s=sbO bs (some lo) (some hi)) (I:tk=Rat.divInt s p) (O:T=2*((trB p s hi).1-(trB p s lo).1)):RwR bs lo hi p s T tk:=by
 have F:=z.f
 rw[<-ep,<-es]at F
 refine⟨?_,by rw[I,wN],λb G=>jR (F.sd _ (XD (lo:=some lo) (hi:=some hi) G))⟩
 have h1:=jR (F.pd _ (vi (bs:=bs) (hi:=some hi) rfl))
 have h2:=jR (F.pd _ (vW (bs:=bs) (lo:=some lo) rfl))
 rw[O,wf,yp]
 show ((2:Int):Rat)*((byB hi.1 p:Rat)-(byB lo.1 p:Rat))=_
 rw[h1,h2]
 have:((2:Int):Rat)=2:=rfl
 rw[this]
 grind
theorem zgU (z:RwZ bs lo hi) (U:RwU bs lo hi u q) (Rr:RwR bs lo hi p s T tk) (s0:0<s) (p0:0<p) (pj:PhJ (trB p s lo).1 T (bs.map λb=>trB p s (b.pl,b.sp)) pss){O:List (Int×Int)} (kz:KgZ T pss O){v:Int×Int}(m:v∈O) :
  ∃(k M:Nat) (b:Bl),b∈bs/\b.sp≠0/\(b.sp=((k:Int):Rat)*u\/b.sp=-(((k:Int):Rat)*u))/\1<=k/\k<=q/\1<=M/\M<=5/\vP T v.1 v.2 tk=2*(hi.1-lo.1)/(((k:Int):Rat)*u)/((M:Int):Rat):=by
 obtain⟨ps,M,h1,h2,h3⟩:=kz.gm v m
 obtain⟨t,mt,I⟩:=pj.of _ h1
 obtain⟨b,W,rfl⟩:=wj.mp mt
 have k0:=pj.k0 _ h1
 have ll:=pj.ll _ h1
 dsimp only at k0 ll I
 rw[wc]at ll
 have l5:=z.l5
 have S:=Rr.v b W
 have sn:=zQ (show s≠0 by lia)
 have pn:=zQ (show p≠0 by lia)
 have b0:b.sp≠0:=λe=>by
  have Y:(((trB p s (b.pl,b.sp)).2:Int):Rat)=0:=S.trans (by rw[e,yT])
  have:=yS.mp (Y.trans (show (0:Rat)=((0:Int):Rat)from rfl))
  lia
 obtain⟨k,V,a1,G⟩:=U.sp b W b0
 have m1:=h3.m1
 have m2:=h3.m2
 exists k,M,b,W,b0,G,V,a1,m1,by lia
 have u0:=U.u0
 have un:u≠0:=by grind
 have kn:=zQ (show (k:Int)≠0 by lia)
 have kp:(0:Rat)<((k:Int):Rat):=wv.mpr ∅
 have sp:(0:Rat)<(s:Rat):=wv.mpr s0
 have a2:(0:Rat)<((k:Int):Rat)*u*(s:Rat):=yg (yg kp u0) sp
 have F:(0:Rat)<(v.1:Rat):=wv.mpr k0
 have e1:(v.1:Rat)=((k:Int):Rat)*u*(s:Rat):=by
  rcases I with I | I <;> rcases G with G | G
  ·rw[<-I,S,G]
  ·exfalso;rw[<-I,S,G]at F;grind
  ·exfalso
   rw[show v.1=-(trB p s (b.pl,b.sp)).2 by lia,yq,S,G]at F;grind
  ·rw[show v.1=-(trB p s (b.pl,b.sp)).2 by lia,yq,S,G];grind
 have Mn:=zQ (show (M:Int)≠0 by lia)
 rw[za7 ∅ ∅,e1,h2,Rr.T,Rr.tk]
 generalize ((k:Int):Rat)=k' at *
 generalize ((M:Int):Rat)=M' at *
 generalize (s:Rat)=s' at *
 generalize (p:Rat)=p' at *
 grind
end
theorem vS {x y:Rat}(F:0<x) (G:0<y):0<x/y:=by rw[Wp];exact yg F (YN.mpr G)
section
variable {bs:List Bl}{lo hi:Rat×Rat}{u:Rat}{q:Nat}{p s T:Int}{tk:Rat}{pss:List (Int×List Int)}
theorem ziF {x:Rat}{M:Nat}{m:Nat}(S:1<=M) (U:M<=15) (G:0<x) (b:Bd m (x.den:Int)):0<x/((M:Int):Rat)/\Bd (m+4) ((x/((M:Int):Rat)).den:Int):=by
 have V:=zQ (show (M:Int)≠0 by lia)
 have O:(0:Rat)<((M:Int):Rat):=wv.mpr ∅
 have e:x/((M:Int):Rat)=Rat.divInt x.num ((x.den:Int)*(M:Int)):=by
  rw[wN,wf]
  have I:x=(x.num:Rat)/((x.den:Int):Rat):=by rw[<-wN];exact(wY x).symm
  conv=>lhs;rw[I]
  have d:=zQ (show (x.den:Int)≠0 by have:=den_pos x;lia)
  generalize ((M:Int):Rat)=M' at *
  generalize (x.num:Rat)=n at *
  generalize ((x.den:Int):Rat)=d' at *
  grind
 constructor
 ·exact vS G O
 ·rw[e]
  have d:=den_pos x
  have h:=QK (t:=x.num) (b:=(x.den:Int)*(M:Int)) (yt (wP d ∅))
  have F:Bd (m+4) ((x.den:Int)*(M:Int)):=b.mul (show Bd 4 (M:Int)from(show (M:Int).natAbs<2^4 by lia))
  exact F.of_le ∅
structure RdF (R X:Rat):Prop where
 r0:0<R
 rn:Bd 20 R.num
 rd:Bd 24 (R.den:Int)
 le:R<=X
theorem zbg (z:RwZ bs lo hi) (U:RwU bs lo hi u q) (Rr:RwR bs lo hi p s T tk) (s0:0<s) (p0:0<p) (pj:PhJ (trB p s lo).1 T (bs.map λb=>trB p s (b.pl,b.sp)) pss) (ne:pss≠[]){G:List (Int×Int)} (S:KgZ T pss G) (hn:∀e∈pss,∀g:Nat,1<=g->g<=e.2.length->0<(vP T e.1 g tk).num):RdF (xl (ptL T tk G)) (2*(hi.1-lo.1)/u):=by
 have kl:G.length=pss.length:=by have:=S.pm.length_eq;rw[wc,wc]at this;exact this
 have a1:1<=pss.length:=by rcases pss with _ | ⟨x,l⟩;exact absurd rfl ne;simp
 have I:1<=(ptL T tk G).length:=by unfold ptL;rw[wc];lia
 have W0:0<2*(hi.1-lo.1):=by have:=z.lh;grind
 have Y:=U.u0
 have X0:0<2*(hi.1-lo.1)/u:=vS W0 Y
 have F:∀t∈ptL T tk G,0<t.num/\(∃n:Int,2*(hi.1-lo.1)/u=(n:Rat)*t)/\Bd 24 (t.den:Int):=λt O=>by
  obtain⟨v,mv,rfl⟩:=wj.mp O
  obtain⟨k,M,b,hb,b0,hk,k1,kq,M1,M5,e⟩:=zgU z U Rr s0 p0 pj S mv
  obtain⟨ps,M',h1,h2,h3⟩:=S.gm v mv
  have kn:=zQ (show (k:Int)≠0 by lia)
  have Mn:=zQ (show (M:Int)≠0 by lia)
  have kp:(0:Rat)<((k:Int):Rat):=wv.mpr ∅
  exists by rw[h2];exact hn _ h1 M' h3.m1 h3.m2,⟨(k:Int)*(M:Int),?_⟩
  ·rw[e,wf]
   generalize ((k:Int):Rat)=k' at *
   generalize ((M:Int):Rat)=M' at *
   grind
  ·rw[e]
   have ku:0<((k:Int):Rat)*u:=yg kp Y
   have x0:0<2*(hi.1-lo.1)/(((k:Int):Rat)*u):=vS W0 ku
   exact(ziF M1 ∅ x0 (U.pd b hb b0 k hk)).2
 obtain⟨n,hX⟩:=JD I (λt m=>(F t m).1) (λt m=>(F t m).2.1)
 have W:=JF I (λt m=>(F t m).1)
 obtain⟨t,O⟩:∃t,t∈ptL T tk G:=by
  generalize ptL T tk G=L at I
  rcases L with _ | ⟨t,L⟩
  ·simp at I
  ·exact⟨t,wF⟩
 obtain⟨j,hj⟩:=JE I (λt m=>(F t m).1) O
 have dv:=(jU hj).2
 exists W,zi2 hX X0 U.X,(F t O).2.2.of_le (YK (by have:=t.den_pos;lia) (uS.mpr dv))
 generalize xl (ptL T tk G)=R at *
 have n1:1<=n:=by
  rcases yA 0 n with c | c
  ·lia
  ·exfalso
   have:(n:Rat)<=0:=by have:=(wI (a:=n) (b:=0)).mpr c;exact this
   have:=wC this (yc W)
   grind
 have V:(1:Rat)<=(n:Rat):=by have:=(wI (a:=1) (b:=n)).mpr n1;exact this
 have:=wC V (yc W)
 grind
end
theorem zcH {α:Type}:∀{l:List (Int×α)}{k:Int}{a b:α},(l.map Prod.fst).Nodup->(k,a)∈l->(k,b)∈l->a=b
 |[],_,_,_,_,m,_=>by cases m
 | (k',c)::l,k,a,b,nd,G,F=>by
  rw[yn,uE]at nd
  rcases wu.mp G with O | G
  ·rcases wu.mp F with I | F
   ·cases O;cases I;rfl
   ·cases O;exact absurd (wj.mpr ⟨_,F,rfl⟩) nd.1
  ·rcases wu.mp F with I | F
   ·cases I;exact absurd (wj.mpr ⟨_,G,rfl⟩) nd.1
   ·exact zcH nd.2 G F
theorem KgZ.uniq {T:Int}{pss:List (Int×List Int)}{G F:List (Int×Int)} (nd:(pss.map Prod.fst).Nodup) (h:KgZ T pss G) (h':KgZ T pss F):G=F:=by
 have ef:G.map Prod.fst=F.map Prod.fst:=zbm (h.pm.trans h'.pm.symm) h.so h'.so
 have one:∀u∈G,∀v∈F,u.1=v.1->u=v:=λu W v U e=>by
  obtain⟨ps,M,a1,a2,V⟩:=h.gm u W
  obtain⟨a4,M',O,Y,S⟩:=h'.gm v U
  rw[<-e]at O
  cases zcH nd a1 O
  cases V.uniq S
  exact Prod.ext e (by rw[a2,Y])
 refine uL λi=>?_
 have I:=congrArg (λl:List Int=>l[i]?) ef
 try dsimp only at I
 rw[wo,wo]at I
 cases a:G[i]? with
 |none =>
  cases b:F[i]? with
  |none=>rfl
  |some v=>rw[a,b]at I;cases I
 |some u =>
  cases b:F[i]? with
  |none=>rw[a,b]at I;cases I
  |some v =>
   rw[a,b]at I
   rw[one u (wU a) v (wU b) (Option.some.inj I)]
theorem zim {p d:Int}(G:0<p) (F:0<d):0<(xP [p,d]).fdiv p/\(xP [p,d]).fdiv p<=d/\p*(xP [p,d]).fdiv p=xP [p,d]:=by
 have e:xP [p,d]=p/(Int.gcd p d:Int)*d:=by
  unfold xP
  rw[uF,uF,Y9]
  have:(1:Int)/(Int.gcd 1 p:Int)*p=p:=by
   rw[show (Int.gcd 1 p:Int)=1 by rw[WZ,Int.gcd_one_right];rfl]
   lia
  rw[this]
 have O:=vM G F
 have le:=zeZ G F
 have dv:p ∣ xP [p,d]:=by rw[e];exact zh9 F
 rw[<-e]at O le
 obtain⟨m,I⟩:=dv
 rw[wD _ ∅]
 generalize xP [p,d]=L at *
 rw[I,yf _ ∅]
 refine⟨?_,?_,rL⟩
 ·rcases yA 0 m with c | c
  ·exact c
  ·have:=ur (show 0<=p by lia) c;lia
 ·rw[I]at le;exact Int.le_of_mul_le_mul_left le G
theorem Xo {l0 z:Int}{g:Int×Int}:∀{trs:List (Int×Int)},g∈zR l0 z trs->∃t∈trs,t.2≠0/\g.1=t.2/\(g.2=z-t.1\/g.2=2*l0-z-t.1)
 |[],m=>by cases m
 |t::r,m=>by
  rcases ya.mp m with m | m
  ·unfold XH at m
   split at m
   ·cases m
   ·rename_i h0
    rcases wu.mp m with rfl | m
    ·exact⟨t,wF,h0,rL,.inl rL⟩
    ·rw[w5.mp m];exact⟨t,wF,h0,rfl,.inr rfl⟩
  ·obtain⟨F,G,h⟩:=Xo m;exact⟨F,wT _ G,h⟩
theorem zhU {x tk:Rat}{p s:Int}{n m:Nat}(G:tk=Rat.divInt s p) (U:0<p) (F:0<s) (I:Bd n x.num) (hd:Bd m (x.den:Int)) (bp:Bd 85 p) (bs:Bd 92 s){k:Nat}(h1:n+85<=k) (h2:m+92<=k):Sz k (x/tk):=by
 have e:x/tk=Rat.divInt (x.num*p) ((x.den:Int)*s):=by
  have O:x=(x.num:Rat)/((x.den:Int):Rat):=by rw[<-wN];exact(wY x).symm
  rw[wN,wf,wf,G,wN]
  conv=>lhs;lhs;rw[O]
  have d:=zQ (show (x.den:Int)≠0 by have:=den_pos x;lia)
  have s':=zQ (show s≠0 by lia)
  have S:=zQ (show p≠0 by lia)
  generalize (x.num:Rat)=a at *
  generalize ((x.den:Int):Rat)=b at *
  generalize (s:Rat)=c at *
  generalize (p:Rat)=d' at *
  grind
 rw[e]
 exact .divInt (yt (wP (den_pos x) F)) ((I.mul bp).mono h1) ((hd.mul bs).mono h2)
theorem zgk {x tk:Rat}{p s:Int}{n m:Nat}(I:tk=Rat.divInt s p) (V:0<p) (G:0<s) (O:Bd n x.num) (hd:Bd m (x.den:Int)) (bp:Bd 85 p) (bs:Bd 92 s){k k2:Nat}(h1:n+85<=k) (h2:m+92<=k2):Bd k (x/tk).num/\Bd k2 ((x/tk).den:Int):=by
 have e:x/tk=Rat.divInt (x.num*p) ((x.den:Int)*s):=by
  have S:x=(x.num:Rat)/((x.den:Int):Rat):=by rw[<-wN];exact(wY x).symm
  rw[wN,wf,wf,I,wN]
  conv=>lhs;lhs;rw[S]
  have d:=zQ (show (x.den:Int)≠0 by have:=den_pos x;lia)
  have s':=zQ (show s≠0 by lia)
  have U:=zQ (show p≠0 by lia)
  generalize (x.num:Rat)=a at *
  generalize ((x.den:Int):Rat)=b at *
  generalize (s:Rat)=c at *
  generalize (p:Rat)=d' at *
  grind
 rw[e]
 have F:=yt (wP (den_pos x) G)
 exact⟨((O.mul bp).mono h1).of_le (zb8 F),((hd.mul bs).mono h2).of_le (by have:=QK (t:=x.num*p) F;lia)⟩
section
variable {bs:List Bl}{lo hi:Rat×Rat}{u:Rat}{q:Nat}{p s T m z:Int}{tk:Rat}{pss:List (Int×List Int)}{trs:List (Int×Int)}{l h b:Int×Int}{y x:Rat}
structure WhF (bs:List Bl) (lo hi:Rat×Rat) (q:Nat) (y x:Rat) (p s m z:Int) (trs:List (Int×Int)) (l h:Int×Int) (tk:Rat) (b:Int×Int) (T:Int) (pss:List (Int×List Int)) (lz:Option (Int×Int)):Prop where
 wz:WhZ bs lo hi y x p s m z trs l h tk b
 rg:RoG bs lo hi T s tk pss
 pj:PhJ (trB p s lo).1 T (bs.map λb=>trB p s (b.pl,b.sp)) pss
 lzz:LzZ T tk pss lz
 ka:∀l',lz=some l'->LkA (2*(h.1-l.1)) b l' (zR l.1 z trs)/\Bd 1300 (lkN b l' (zR l.1 z trs))/\∀g∈zR l.1 z trs,zY g.1*l'.1<=q*(2*(h.1-l.1)*l'.2)
 ex:∀l',lz=some l'->∃kgs,KgZ T pss kgs/\l'=((xl (ptL T tk kgs)/tk).num,((xl (ptL T tk kgs)/tk).den:Int))
theorem ziL {V m I F S:Int}{k q:Nat}{r R W u:Rat}{p s:Int}(hV:(V:Rat)=((k:Int):Rat)*u*(s:Rat)) (hT:(S:Rat)=W*(p:Rat)*(m:Rat)) (hr:r=R/((s:Rat)/(p:Rat))) (hl:r=(I:Rat)/(F:Rat)) (Y:0<u) (s0:0<s) (p0:0<p) (m0:0<m) (O:0<F) (W0:0<W) (U:R<=W/u) (kq:k<=q):V*m*I<=q*(S*F):=by
 refine wI.mp ?_
 rw[wf,wf,wf,wf,hV,hT]
 have sp:(0:Rat)<(s:Rat):=wv.mpr s0
 have pp:(0:Rat)<(p:Rat):=wv.mpr p0
 have mp:(0:Rat)<(m:Rat):=wv.mpr m0
 have lp:(0:Rat)<(F:Rat):=wv.mpr O
 have G:((k:Int):Rat)<=((q:Int):Rat):=wI.mpr ∅
 have k0:(0:Rat)<=((k:Int):Rat):=uW.mpr ∅
 generalize ((k:Int):Rat)=k' at *
 generalize ((q:Int):Rat)=q' at *
 generalize (s:Rat)=s' at *
 generalize (p:Rat)=p' at *
 generalize (m:Rat)=m' at *
 generalize (I:Rat)=a at *
 generalize (F:Rat)=c at *
 have e1:a=R*p'/s'*c:=by grind
 have e2:u*R<=W:=by
  have h1:=wC U (yc Y)
  have un:u≠0:=by grind
  have h2:W/u*u=W:=by clear h1 U;grind
  rw[h2,Y1]at h1
  exact h1
 have e3:k'*(u*R)<=k'*W:=yK e2 k0
 have e4:k'*W<=q'*W:=wC G (yc W0)
 have e5:k'*(u*R)<=q'*W:=Rat.le_trans e3 e4
 have e6:=wC e5 (yc (yg (yg mp pp) lp))
 have e7:k'*u*s'*m'*a=k'*(u*R)*(m'*p'*c):=by rw[e1];grind
 have e8:q'*(W*p'*m'*c)=q'*W*(m'*p'*c):=by grind
 rw[e7,e8]
 exact e6
end
section
variable {bs:List Bl}{lo hi:Rat×Rat}{u:Rat}{q:Nat}{y x:Rat}
open Classical in
theorem zkm (z:RwZ bs lo hi) (U:RwU bs lo hi u q) (hy:Bd 100 y.num) (a6:Bd 12 (y.den:Int)) (hx:Bd 150 x.num) (a5:Bd 44 (x.den:Int)):∃p s m O trs l h tk b T pss lz,WhF bs lo hi q y x p s m O trs l h tk b T pss lz:=by
 obtain⟨p,ep⟩:∃p,p=pbO bs (some lo) (some hi):=⟨_,rfl⟩
 obtain⟨s,es⟩:∃s,s=sbO bs (some lo) (some hi):=⟨_,rfl⟩
 obtain⟨tk,et⟩:∃tk,tk=Rat.divInt s p:=⟨_,rfl⟩
 obtain⟨T,eT⟩:∃T,T=2*((trB p s hi).1-(trB p s lo).1):=⟨_,rfl⟩
 obtain⟨pss,b5⟩:∃pss,pss=phO (trB p s lo).1 T (bs.map λb=>trB p s (b.pl,b.sp)):=⟨_,rfl⟩
 obtain⟨m,em⟩:∃m,m=(xP [p,(y.den:Int)]).fdiv p:=⟨_,rfl⟩
 obtain⟨trs,S⟩:∃trs,trs=(bs.map λb=>trB p s (b.pl,b.sp)).map (scT m):=⟨_,rfl⟩
 obtain⟨l,el⟩:∃l,l=scT m (trB p s lo):=⟨_,rfl⟩
 obtain⟨h,eh⟩:∃h,h=scT m (trB p s hi):=⟨_,rfl⟩
 obtain⟨O,ez⟩:∃O,O=y.num*(p*m).fdiv (y.den:Int):=⟨_,rfl⟩
 obtain⟨b,eb⟩:∃b:Int×Int,b=((x/tk).num,((x/tk).den:Int)):=⟨_,rfl⟩
 obtain⟨rg,pj,a8,tn,T0,bT⟩:=z.rog ep es et eT b5
 have Rr:=z.rat ep es et eT
 have F:=z.f
 rw[<-ep,<-es]at F
 obtain⟨m0,md,pm⟩:=zim F.p0 (den_pos y)
 rw[<-em]at m0 md pm
 have bm:Bd 12 m:=a6.of_le (by omega)
 have a4:∀t∈ths bs (some lo) (some hi),Bd 198 (scT m (trB p s t)).1/\Bd 185 (scT m (trB p s t)).2:=λt I=>⟨((F.t1 t I).mul bm).md,((F.t2 t I).mul bm).md⟩
 have Y:∀t∈trs,Bd 198 t.1/\Bd 185 t.2:=λt I=>by
  rw[S,wG]at I
  obtain⟨c,hc,rfl⟩:=wj.mp I
  exact a4 _ (XD hc)
 have bl:Bd 198 l.1:=by rw[el];exact(a4 _ (vi rfl)).1
 have bh:Bd 198 h.1:=by rw[eh];exact(a4 _ (vW rfl)).1
 have bz:Bd 198 O:=by rw[ez];exact(hy.mul (bdx (F.pb.mul bm))).md
 have a9:2*(h.1-l.1)=T*m:=by
  rw[el,eh,eT]
  show 2*((trB p s hi).1*m-(trB p s lo).1*m)=_
  grind
 have b4:0<T*m:=wP T0 m0
 have zx:Bd 260 (x/tk).num/\Bd 140 ((x/tk).den:Int):=zgk et F.p0 F.s0 hx a5 F.pb F.sb ⇑1 ⇑1
 have bb:Bd 260 b.1/\Bd 140 b.2:=by rw[eb];exact zx
 have wz:WhZ bs lo hi y x p s m O trs l h tk b:=⟨ep,es,em,S,el,eh,et,ez,eb,F.pb.md,⟨hy.md,a6.md⟩,λt I=>⟨(Y t I).1.md,(Y t I).2.md⟩,bl.md,bh.md,by
   have:=F.lh
   rw[el,eh]
   exact yR this m0,bz.md,⟨⟨hx.md,a5.md⟩,a8.md⟩,bb⟩
 have W0:0<2*(hi.1-lo.1):=by have:=z.lh;grind
 have b0:∀e∈pss,∀g:Nat,1<=g->g<=e.2.length->0<(vP T e.1 g tk).num:=λe me g g1 g2=>(rg.pt e me g g1 g2).1
 have key:∀G,KgZ T pss G->pss≠[]->Sz2 (xl (ptL T tk G)) tk/\∀l',l'=((xl (ptL T tk G)/tk).num,((xl (ptL T tk G)/tk).den:Int))->LkA (2*(h.1-l.1)) b l' (zR l.1 O trs)/\Bd 1300 (lkN b l' (zR l.1 O trs))/\∀g∈zR l.1 O trs,zY g.1*l'.1<=q*(2*(h.1-l.1)*l'.2):=λG kz ne=>by
  have RF:=zbg z U Rr F.s0 F.p0 pj ne kz b0
  generalize xl (ptL T tk G)=R at *
  refine⟨⟨⟨RF.rn.md,RF.rd.md⟩,a8.md⟩,λl' e'=>?_⟩
  have zl:Sz 120 (R/tk):=zhU et F.p0 F.s0 RF.rn RF.rd F.pb F.sb ⇑1 ⇑1
  have d1:=den_pos (R/tk)
  have d2:=den_pos (x/tk)
  have KA:LkA (2*(h.1-l.1)) b l' (zR l.1 O trs):=by
   refine⟨?_,λg mg=>?_,?_,⟨bb.1,bb.2,by rw[eb];exact d2⟩,by rw[e'];exact⟨zl.1.md,zl.2.md,d1⟩⟩
   ·have:=Xn l.1 O trs
    have:trs.length=bs.length:=by rw[S,wc,wc]
    have:=z.l5
    omega
   ·obtain⟨t,I,t0,e1,e2⟩:=Xo mg
    obtain⟨b1,b2⟩:=Y t I
    refine⟨by rw[e1];exact t0,by rw[e1];exact b2.md,Bd.mono (m:=201) ?_ ⇑1⟩
    have a1:t.1.natAbs<2^198:=b1
    have a2:l.1.natAbs<2^198:=bl
    have a3:O.natAbs<2^198:=bz
    show g.2.natAbs<2^201
    rcases e2 with e2 | e2 <;> rw[e2] <;> omega
   ·rw[a9];exact⟨b4,(bT.mul bm).md⟩
  refine⟨KA,?_,λg mg=>?_⟩
  ·have b7:Pos 140 [b.2,l'.2]:=KA.pos2
   have hB:Bd 300 (lkB b l'):=by
    have:Pos 140 [b.2,l'.2]:=λk mk=>by
     rcases wu.mp mk with rfl | mk
     ·refine⟨KA.bb.2.2,?_⟩
      have q2:Bd 140 ((x/tk).den:Int):=by
       have e:x/tk=Rat.divInt (x.num*p) ((x.den:Int)*s):=by
        have e0:x=(x.num:Rat)/((x.den:Int):Rat):=by rw[<-wN];exact(wY x).symm
        rw[wN,wf,wf,et,wN]
        conv=>lhs;lhs;rw[e0]
        have d:=zQ (show (x.den:Int)≠0 by have:=den_pos x;omega)
        have s':=zQ (show s≠0 by have:=F.s0;omega)
        have p':=zQ (show p≠0 by have:=F.p0;omega)
        generalize (x.num:Rat)=a at *
        generalize ((x.den:Int):Rat)=b at *
        generalize (s:Rat)=c at *
        generalize (p:Rat)=d' at *
        grind
       have pos:=wP (den_pos x) F.s0
       have h:=QK (t:=x.num*p) (b:=(x.den:Int)*s) (by omega)
       rw[e]
       have b1:Bd 140 ((x.den:Int)*s):=(a5.mul F.sb).md
       exact b1.of_le (by omega)
      rw[eb];exact q2.md
     ·rcases wu.mp mk with rfl | mk
      ·exact⟨KA.bl.2.2,by rw[e'];exact zl.2.md⟩
      ·cases mk
    exact(VS this).2.1.mono (by show 1+140*2<=300;decide)
   refine(ziX (n:=185) KA hB λt I=>(Y t I).2).mono ?_
   have:trs.length=bs.length:=by rw[S,wc,wc]
   have:=z.l5
   omega
  ·obtain⟨t,I,t0,e1,_⟩:=Xo mg
   rw[S,wG]at I
   obtain⟨c,hc,rfl⟩:=wj.mp I
   have hv:=Rr.v c hc
   have e2:g.1=(trB p s (c.pl,c.sp)).2*m:=e1
   have v0:(trB p s (c.pl,c.sp)).2≠0:=λe=>t0 (by show (trB p s (c.pl,c.sp)).2*m=0;rw[e,Int.zero_mul])
   have c0:c.sp≠0:=λe=>v0 (yS.mp ((hv.trans (by rw[e,yT])).trans (show (0:Rat)=((0:Int):Rat)from rfl)))
   obtain⟨k,k1,kq,V⟩:=U.sp c hc c0
   have sp:(0:Rat)<(s:Rat):=wv.mpr F.s0
   have kp:(0:Rat)<((k:Int):Rat):=wv.mpr (by omega)
   have a7:0<((k:Int):Rat)*u*(s:Rat):=yg (yg kp U.u0) sp
   have ha:((zY (trB p s (c.pl,c.sp)).2:Int):Rat)=((k:Int):Rat)*u*(s:Rat):=by
    rcases V with V | V
    ·rw[V]at hv
     have:0<(trB p s (c.pl,c.sp)).2:=by
      refine wv.mp ?_
      rw[Rr.v c hc,V];exact a7
     unfold zY
     rw[if_neg (by omega),Rr.v c hc,V]
    ·have:0 < -(trB p s (c.pl,c.sp)).2:=by
      refine wv.mp ?_
      rw[yq,Rr.v c hc,V]
      rw[show -(-(((k:Int):Rat)*u)*(s:Rat))=((k:Int):Rat)*u*(s:Rat) by grind]
      exact a7
     unfold zY
     rw[if_pos (by omega),yq,Rr.v c hc,V]
     grind
   have ea:zY g.1=zY (trB p s (c.pl,c.sp)).2*m:=by
    rw[e2]
    unfold zY
    by_cases c1:(trB p s (c.pl,c.sp)).2<0
    ·rw[if_pos c1,if_pos (by have:=Yy c1 m0;omega)];grind
    ·rw[if_neg c1,if_neg (by have:=Wk (show 0<=(trB p s (c.pl,c.sp)).2 by omega) (show 0<=m by omega);omega)]
   rw[ea,a9]
   refine ziL (r:=R/tk) (R:=R) (W:=2*(hi.1-lo.1)) (u:=u) (p:=p) (s:=s) ha (by rw[wf,Rr.T]) (by rw[Rr.tk]) ?_ U.u0 F.s0 F.p0 m0 (by rw[e'];exact d1) W0 RF.le kq
   rw[e',<-wN];exact(wY _).symm
 by_cases ne:pss=[]
 ·exact⟨p,s,m,O,trs,l,h,tk,b,T,pss,none,wz,rg,pj,⟨λ_=>rfl,λc=>absurd ne c⟩,λl' e=>(by cases e),λl' e=>(by cases e)⟩
 ·by_cases V:∃G,KgZ T pss G
  ·obtain⟨G,kz⟩:=V
   refine⟨p,s,m,O,trs,l,h,tk,b,T,pss,some ((xl (ptL T tk G)/tk).num,((xl (ptL T tk G)/tk).den:Int)),wz,rg,pj,⟨λc=>absurd c ne,λ_ b6 b3=>?_⟩,λl' e=>?_,λl' e=>?_⟩
   ·rw[b3.uniq pj.nd kz];exact⟨(key G kz ne).1,rfl⟩
   ·cases e;exact(key G kz ne).2 _ rfl
   ·cases e;exact⟨G,kz,rfl⟩
  ·exact⟨p,s,m,O,trs,l,h,tk,b,T,pss,none,wz,rg,pj,⟨λ_=>rfl,λ_ G kz=>absurd ⟨G,kz⟩ V⟩,λl' e=>(by cases e),λl' e=>(by cases e)⟩
end
theorem zau:zC ["top","bottom","one","other"] ["top","bottom"] (zi ZI):=scq
theorem zjd (D:Df K mg "_law_lowest" ZI ["top","bottom"] []) (T:TxB K mg):⇑3 "_law_lowest" 1 ["top","bottom"] [] vw:=by
 rcases r:D.cal (k:=0) zau (λvs H Q E h=>by obtain⟨a,b,rfl,_⟩:=h;rfl) with⟨t,b,rfl,O,hz,k⟩
 refine⟨_,ze (XS (i:=2) (j:=3) rL zau.nd rL rL ⇑1 rL rL %[zO qH rL T.nAbs yI %[0|0],zO qH rL T.nAbs yI %[1|0]|0] ⇑2)
  (ze (zbb PassesOwn.never (zF XB (pv 3) zh (zH _))
   (zo (XS (i:=2) (j:=3) rfl zau.nd rfl rfl ⇑1 rfl rfl %[3,zy vO (pv 2) (pv 3)|0] ⇑2)))
  (ze (xf (zF Zo (pv 1) zh (zH _)) (zo (psl (i:=2) zau.nd (jX qS (pv 2)))) zT)
  (zo (zE (zX %[zy xF (pv 0) (pv 2),zy xF (pv 1) (pv 2)|0]))))),?_⟩
 have hd:=KM.zh7 (t:=t) O
 have I:Bd 8900 (KM.dv t b):=hz.of_le (KM.zh6 O)
 have W:(Int.gcd (if t<0 then -t else t) (if b<0 then -b else b):Nat)=Int.gcd t b:=by
  rw[Zb,Zb];simp[Int.gcd]
 refine⟨00,t,rL,⟨00,b,rL,021,?_⟩⟩
 have G:∀(σ:St) (z:Option V),σ=[Si t,Si b,some (.int (KM.dv t b)),z]->zgg (zkd (qc (tOp (rI zaG λi j=>V.int (i.fdiv j)) (xy 0) (xy 2)) (qc (tOp (rI zaG λi j=>V.int (i.fdiv j)) (xy 1) (xy 2)) Zu))) { nx:=λ_ H'=>Q .non H',rt:=Q } σ H:=by
  rintro σ z rfl
  exists 01,022,⟨hd,I⟩,01,022,⟨hd,I⟩
  refine⟨⇑5,λp hp=>k p _ (zq.upd hp) ?_⟩
  show upd H p _ p=_
  rw[zj]
  nofun
  rw[KM.zbP O,KM.zeu O];rfl
 refine zbC (λσ H1=>H1=H/\∃x y:Int,σ=[Si t,Si b,Si x,Si y]/\0<=x/\0<=y/\Int.gcd x y=Int.gcd t b)
  (λσ _=>match σ with | [_,_,_,some (.int y)]=>y.toNat | _=>0) ⟨rfl,_,_,rfl,(by rw[Zb];lia),(by rw[Zb];lia),W⟩ ?_ ?_
 ·rintro σ H1 F;rcases q:F with⟨rfl,x,y,rfl,Y,hy,e⟩
  refine⟨00,022,00,vu (λh=>?_) (λh=>?_)⟩
  ·have h':0<y:=ww h
   exists 02,022,h',021,⟨rfl,021,hy,yD _ ∅,?_⟩
   ·rw[KM.zaV Y h'];exact e
   ·show (x % y).toNat<y.toNat
    have:=yE x h'
    lia
  ·have h':¬ 0<y:=λz=>h (wm z)
   have:y=0:=by lia
   subst this
   have e2:x=(Int.gcd t b:Nat):=by rw[<-e,Int.gcd_zero_right];lia
   refine⟨00,022,00,vu (λh=>?_) (λh=>?_)⟩
   ·have h':b<0:=ww h
    refine⟨01,G _ (some (.int 0)) ?_⟩
    rw[e2];unfold KM.dv;rw[if_pos h'];rfl
   ·have h':¬b<0:=λz=>h (wm z)
    refine G _ (some (.int 0)) ?_
    rw[e2];unfold KM.dv;rw[if_neg h']
 ·rintro σ H1 Q1 Q2 U F;rcases q:F with⟨v,e,i,j,e1,e2,k1,S,q⟩
  exact⟨v,e,i,j,e1,e2,k1,S,U _ _ q⟩
inductive zch (K:Fg) (vs:List V) (H:Hp) (Q:VK) (_e3:XK):Prop
 |mk:∀(a:Addr) (ns:List Int) (k:Int),(vs=[.ref a,.int k])->(SqL K H a (ns.map V.int))->(0<=k)->(k<1000)->(∀i,Q (.int i) H)->zch K vs H Q _e3
theorem zhA:zC ["script","k"] ["script","k"] (zi X8):=scq
theorem zha (D:Df K mg "_law_cell" X8 ["script","k"] []) (T:TxB K mg):⇑3 "_law_cell" 1 ["script","k"] [] (zch K):=by
 rcases r:D.cal (k:=0) zhA (λvs H Q E h=>by obtain⟨a,ns,i,rfl,_⟩:=h;rfl) with⟨a,ns,i,rfl,F,I,h1,k⟩
 refine⟨_,ze (xf (zF Zo (pv 1) (zO xp ⇑2 T.nLen PySem.boot_len %[0|0]) (zH _)) (zo (zE (qa qy (pv 0) (pv 1) (λ_ _=>rL)))) zT)
  (zo (zE (zy xr (zy XO (zy XO zh (pv 1)) (pv 1)) (zy XO zh (pv 1))))),?_⟩
 refine⟨01,a,00,.inl F,022,00,vu (λh=>?_) (λh=>?_)⟩
 ·have h':i<((ns.map V.int).length:Int):=ww h
  rw[wc]at h'
  have G:i.toNat<ns.length:=by lia
  have e:(ns.map V.int)[i.toNat]?=some (.int ns[i.toNat]):=by rw[wo,wH G];rfl
  have e2:=Qk e
  rw[show ((i.toNat:Nat):Int)=i by lia]at e2
  exact⟨01,a,032,F,e2,k _⟩
 ·exact⟨00,022,.inl ⟨by decide,by decide⟩,00,022,.inr ⟨by lia,by lia⟩,00,022,.inl ⟨by decide,by decide⟩,022,k _⟩
theorem zjF:zC ["cell"] ["cell"] (zi Q0):=scq
theorem zi4 (D:Df K mg "_law_dig" Q0 ["cell"] []) (T:TxB K mg):⇑3 "_law_dig" 1 ["cell"] [] zfW:=by
 refine D.cal (k:=0) zjF (λvs H Q E h=>by obtain⟨a,rfl,_⟩:=h;rfl) (λf cdv A outer s H vs Q E hr h=>?_)
 obtain⟨c,rfl,k⟩:=h
 exists _,zo (zE (qp %[(zO (Js rfl) ⇑2 T.nMax W2 %[zh,zy qo (pv 0) (zy VW zh zh)|0]),zy vO (pv 0) (zy VW zh zh),zh|0]))
 exists 00,022,⟨by decide,by decide,by decide⟩,022,021
 refine⟨00,022,⟨by decide,by decide,by decide⟩,022,(by show (0:Int)<10^18;decide),(zL3),λp F=>?_⟩
 exact k p _ F (zq.upd F) ⟨_,_,_,zj⟩
theorem zar:zC ["pool","found","k"] ["pool"] (zi Q6):=scq
theorem zi5 (D:Df K mg "_law_far" Q6 ["pool"] []) (T:TxB K mg) (S:⇑3 "_law_next" 1 ["pool","base"] [] Xg):⇑3 "_law_far" 2 ["pool"] [] zc8:=by
 refine D.cal (k:=1) zar (λvs H Q E h=>by obtain⟨a,rfl,_⟩:=h;rfl) (λf cdv A outer s H vs Q E hr h=>?_)
 obtain⟨p,rfl,U,k⟩:=h
 refine⟨_,ze (psl (i:=1) zar.nd zh)
  (ze (va PassesOwn.never rfl (Zr rfl T.nRange %[zy xr zh (zD S hr %[0,zh|0])|0]) (pgl (i:=2) zar.nd)
   (zo (psl (i:=1) zar.nd (zy xr (zy XO (pv 1) (zy VW zh zh)) (zD S hr %[0,zy VW zh zh|0])))))
  (zo (zE (pv 1)))),?_⟩
 refine⟨00,p,00,by decide,by decide,U,λd H1 d0 d1 W=>?_⟩
 exists 022,00,∅,∅
 have hn:((1:Int)+d).toNat<=3:=by lia
 refine Jy (n:=((1:Int)+d).toNat) (lo:=0) (λi σ H2=>∃(z:Option V) (g:Int),σ=[Sr p,Si g,z]/\0<=g/\g<10000000^i/\xw p H H2) ⟨none,0,rfl,by decide,by decide,W⟩ ?_ ?_
 ·rintro i σ H2 hi F;rcases q:F with⟨z,g,rfl,I,O,G⟩
  exists 00,022,⟨by decide,by decide,by decide⟩,022,.inr ⟨by decide,by decide⟩
  refine⟨00,022,⟨by decide,by decide,by decide⟩,p,00,by decide,by decide,G.pool,λe H3 Y e1 s3=>?_⟩
  have:=zeE I O Y e1
  exact⟨022,021,this.1,this.2,G.trans s3⟩
 ·rintro σ H2 F;rcases q:F with⟨z,g,rfl,I,O,G⟩
  refine⟨00,k _ _ I ?_ G⟩
  have:((1:Int)+d).toNat=0\/((1:Int)+d).toNat=1\/((1:Int)+d).toNat=2\/((1:Int)+d).toNat=3:=by lia
  have e1:(10000000:Int)^0=1:=by decide
  have e2:(10000000:Int)^1=10000000:=by decide
  have e3:(10000000:Int)^2=100000000000000:=by decide
  have e4:(10000000:Int)^3=1000000000000000000000:=by decide
  rcases this with z | z | z | z <;> rw[z]at O <;> lia
theorem zhD:zC ["one","other"] ["one","other"] (zi Qa):=scq
theorem zhb (D:Df K mg "_law_less" Qa ["one","other"] []):⇑3 "_law_less" 1 ["one","other"] [] Jb:=by
 rcases r:D.calq (k:=0) zhD with⟨p,q,x,y,rfl,O,G,S,U,k⟩
 have I:=Bd4 S
 have F:=Bd4 U
 exists _,zo (zE (qz Zo (zy zK (pxt (pv 0)) (pxt (pv 1))) (zy zK (pxt (pv 1)) (pxt (pv 0))) (zH _)))
 exists 00,p,032,.of O,at0 ..,00,q,032,.of G,at1 ..,022,⟨I.1,F.2⟩
 exists 00,q,032,.of G,at0 ..,00,p,032,.of O,at1 ..,022,⟨F.1,I.2⟩,022
 have e:decide (x.num*(y.den:Int)<y.num*(x.den:Int))=decide (x<y):=by
  by_cases h:x<y
  ·rw[wm h,wm ((KM.vv x y).mpr h)]
  ·rw[wx h,wx λz=>h ((KM.vv x y).mp z)]
 show Q (.bl (decide (x.num*(y.den:Int)<y.num*(x.den:Int)))) H
 rw[e];exact k
end KK
namespace L2
open PySem PySem.Spec PyProof.Rows
def ZA {lo:Int}{n:Nat}{g:TG}{tb:TS}{D:ZU}{σ:St}{H:Hp}(F:Nat->St->Hp->Prop) (S:F 0 σ H)
  (hs:∀i σ H (N B:St->Hp->Prop),i<n->F i σ H->(∀σ H,F (i+1) σ H->N σ H)->g (.int (lo+i)) σ H λG H2=>tb { D with nx:=N,ct:=N,bk:=B } G H2) (hd:∀σ H,F n σ H->D.nx σ H) :
  ∃W:Nat->Nat->St->Hp->Prop,(∃m,W 0 m σ H)/\∀i m σ H,W i m σ H →
   ((Itr lo n).stop i H/\D.nx σ H)\/((Itr lo n).go i H/\∃N:St->Hp->Prop,(∀I H',N I H'->∃O,O<m/\W (i+1) O I H')/\∀x H',(Itr lo n).yld i H x H'->g x σ H' λG H2=>tb { D with nx:=N,ct:=N,bk:=D.nx } G H2) :=
 Jy F S (λi σ H hi U=>hs i σ H _ _ hi U λ_ _ q=>q) hd
section
variable {X:Cx}
def zht:V->List V->Hp->VK->Prop:=λx vs H Q=>∃(l:Addr) (xs:List V) (i:Int) (y:V),x=.ref l/\vs=[.int i,y]/\H l=some (.lst xs)/\0<=i/\i<=xs.length/\xs.length<=1000/\Q .non (upd H l (.lst (xs.take i.toNat++y::xs.drop i.toNat)))
theorem ziM (F:List Value) (i:Int) (u:Value) (G:0<=i) (h1:i<=F.length) :
  ((F.toArray.extract 0 (if i<0 then(i+((F.toArray.size:Nat):Int)).toNat else min i.toNat F.toArray.size)).push u++F.toArray.extract (if i<0 then(i+((F.toArray.size:Nat):Int)).toNat else min i.toNat F.toArray.size))=(F.take i.toNat++u::F.drop i.toNat).toArray:=by
 rw[if_neg ∅,wK,show min i.toNat F.length=i.toNat by lia]
 apply uQ.mp
 simp
 exact List.take_of_length_le (by simp)
theorem zdO:MtM X "list.insert" zht:=by
 intro pz s σ H x vs v us Q I rx V h
 obtain⟨l,xs,i,y,rfl,rfl,U,h0,h1,hz,q⟩:=h
 cases rx
 obtain⟨u1,O,rfl,⟨t,rfl⟩,W⟩:=V.two
 obtain⟨z,G,n,r,hl,e⟩:=I.lstM U
 have Y:Builtin.List.listFitsIndex i=true:=fitsIndex_both ∅ ∅
 have S:G.toArray.size<=sizeLine:=by rw[wK,<-hl];exact z
 refine call_meets F.slot_list_insert ⟨_,e,rfl⟩ F.entry_list_insert (F.args_list_insert_3 _ _ _) (AutoSeq1.list_insert_list_int_val_1 l G.toArray n i t O (by simp[Y]) S) ⟨e,?_⟩
 refine⟨.non,_,I.lset (its':=G.take i.toNat++O::G.drop i.toNat) U e (ziM G i O h0 ∅) ((r.take i.toNat).append (.cons W (r.drop i.toNat))) ?_,rL,q⟩
 have:xs.length<sizeLine:=vJ hz
 rw[wX,wB,yk,YS]
 lia
inductive zbd (x:V) (y:V) (H:Hp) (Q:VK):Prop
 |mk:∀d ds n,(RdD H x d)->(RdD H y (.list ds))->(PyData.canLayAll0 ds=true)->(PyData.canLay0 d=true)->(PyData.depth d<=n)->(n<=60)->(Q (.bl (!ds.any λe=>PyData.eqv e d)) H)->zbd x y H Q
def zhu:R2:=λx y H Q=>zbd x y H Q
theorem zdT (hu:X.A.units+64<cLine):OpR X (compareOp .NotIn) zhu:=by
 intro pz s σ H x y v u Q I Y W h
 obtain⟨d,ds,n,hd,F,S,V,hn,U,q⟩:=h
 obtain⟨as,O⟩:=hd.reads I Y
 obtain⟨bs,G⟩:=F.reads I W
 refine SeqAt.notIn_list_reads G O S V ?_ ⟨.bl _,H,I,rL,q⟩
 have:min (PyData.depthAll ds) d.depth<=d.depth:=Nat.min_le_right ..
 lia
end
end L2
namespace KK
open PySem L2 KM
variable {P:Program}{w:World}{K:Fg}{mg:Str->Option Value}{base:Heap}{aN:Addr}
theorem zhE:zC ["one","other"] ["one","other"] (zi Z9):=scq
theorem zhc (D:Df K mg "_law_minus" Z9 ["one","other"] []) (cS:⇑3 "_law_sum" 2 ["one","other"] [] (qQ Sz2 (· + ·))) (cP:⇑3 "_law_product" 2 ["one","other"] [] (qQ Sz2 (· * ·))):⇑3 "_law_minus" 3 ["one","other"] [] (qQ Sz2 (· - ·)):=by
 refine D.calq (k:=2) zhE (λf cdv A outer s H vs Q E G h=>?_)
 rcases q:h with⟨p,q,x,y,rfl,hp,hq,⟨zx,I⟩,k⟩
 exists(zo (zE (zD cS G %[0,(zD cP G %[1,(zX %[jX qS zh,zh|0])|0])|0])))
 refine⟨02,⇑5,λe Y=>?_⟩
 have O:=zq.upd (o:=.tup [.int (-1),.int 1]) Y
 have hm:zu (upd H e (.tup [.int (-1),.int 1])) e (-1):=zj
 have z1:Sz 4000 (-1:Rat):=⟨Bd.mono (m:=2) (show (-1:Int).natAbs<2^2 by decide) ⇑1,Bd.mono (m:=2) (show ((1:Nat):Int).natAbs<2^2 by decide) ⇑1⟩
 refine⟨q,e,y,-1,rL,hq.same O,hm,⟨I,z1⟩,λr H' V hr=>?_⟩
 have U:Sz 4000 (y*(-1)):=by
  rw[show y*(-1)=-y by grind]
  exact⟨by show Bd 4000 (-y).num;rw[Ue];exact I.1.neg,by show Bd 4000 ((-y).den:Int);rw[Rat.neg_den];exact I.2⟩
 refine⟨p,r,x,00,hp.same (O.trans V),hr,⟨zx,U⟩,λW F S3 S=>k W F (O.trans (V.trans S3)) ?_⟩
 show zu F W (x-y)
 rw[show x-y=x+y*(-1) by grind];exact S
def bLt (b c:Bl):Bool:=if b.pl=c.pl then decide (b.sp<c.sp)else decide (b.pl<c.pl)
inductive zhK  (vs:List V) (H:Hp) (Q:VK) (_e3:XK):Prop
 |mk:∀v u b c,(vs=[v,u])->(XE H v b)->(XE H u c)->(Sz2 b.pl c.pl)->(Sz2 b.sp c.sp)->(Q (.bl (bLt b c)) H)->zhK vs H Q _e3
theorem zjH:zC ["one","other"] ["one","other"] (zi Z8):=scq
theorem zgH {x y:Rat}:PyData.eqv (raD x) (raD y)=decide (x=y):=zey x y
theorem zi8 (D:Df K mg "_law_ahead" Z8 ["one","other"] []) (I:⇑3 "_law_less" 1 ["one","other"] [] Jb):⇑3 "_law_ahead" 2 ["one","other"] [] zhK:=by
 refine D.calq (k:=1) zjH (λf cdv A outer s H vs Q E F h=>?_)
 have hu:=F.units
 rcases q:h with⟨v,u,b,c,rfl,⟨a,p,q,rfl,U,W,Y⟩,⟨V,p',q',rfl,G,O,S⟩,⟨z1,z2⟩,⟨z3,z4⟩,k⟩
 exists(ze (xf (zF (XN hu) (pxt (pv 0)) (pxt (pv 1)) (zH _)) (zo (zE (zD I F %[pxt (pv 0),pxt (pv 1)|0]))) zT)
  (zo (zE (zD I F %[pxt (pv 0),pxt (pv 1)|0]))))
 exists 00,a,032,.of U,rfl,00,V,032,.of G,rfl,raD b.pl,raD c.pl,zu.rdD W,zu.rdD O,rfl,rfl
 rw[zgH]
 unfold bLt at k
 by_cases e:b.pl=c.pl
 ·rw[wm e]
  rw[if_pos e]at k
  exact⟨00,xM ⟨00,a,032,.of U,rL,00,V,032,.of G,rL,q,q',b.sp,c.sp,rL,Y,S,z3,z4,k⟩⟩
 ·rw[wx e]
  rw[if_neg e]at k
  exact⟨00,xi ⟨00,a,032,.of U,rL,00,V,032,.of G,rL,p,p',b.pl,c.pl,rL,W,O,z1,z2,k⟩⟩
end KK
namespace L2
open PySem PySem.Spec PyProof.Rows
section
variable {J:It}{D:Addr}{n:Nat}{js:List Nat}{σ:St}{g:TG}{tt:TT}{te:TE}{Z:Hp->Prop}{H:Hp}{xs:List V}
theorem zeo (hD:H D=none) (Y:zbF J H xs) (hl:xs.length<sizeLine)
  (hs:∀(i:Nat) (x:V) (zs:St) (H2:Hp) (A:VK) (B:Hp->Prop),xs[i]?=some x->zs.length=n->zq H H2->A x H2->B H2->g x (zs++qF σ js) H2 λF H4=>F.drop n=qF σ js/\tt F H4 λb G=>if b=true then te F G A else B G)
  (k:∀ys H',zq H H'->H' D=some (.lst ys)->ys.length<=xs.length->Z H') :
  ∃W:Nat->Nat->Hp->List V->Prop,(∃m,W 0 m (upd H D (.lst [])) [])/\∀i m H2 ys,W i m H2 ys->H2 D=some (.lst ys)->(J.stop i H2/\Z H2) ∨
   (J.go i H2/\∀zs x I,zs.length=n->J.yld i H2 x I->g x (zs++qF σ js) I λF H4=>F.drop n=qF σ js/\tt F H4 λb G=>if b=true then te F G (λv H6=>H6 D=some (.lst ys)/\ys.length<sizeLine/\∃S,S<m/\W (i+1) S (upd H6 D (.lst (ys++[v]))) (ys++[v]))
    else G D=some (.lst ys)/\∃S,S<m/\W (i+1) S G ys):=by
 refine ZZ (Q:=λ_ H=>Z H) (tt:=tt) (N:=xs.length) (λi H2 ys=>zq H H2/\ys.length<=i) ⟨zq.upd hD,wn _⟩ (λi H2 ys hi p=>Y.go i H2 hi p.1) (λH2 ys p=>Y.stop H2 p.1) ?_ (λH2 ys q e=>k ys H2 q.1 e q.2)
 rintro i x zs H2 I ys Nx hN hi hz hy ⟨U,a1⟩ O
 obtain⟨rfl,hx⟩:=Y.yld i x H2 I U hy
 refine hs i x zs I _ _ hx hz U ⟨O,?_,hN _ _ ⟨λc o e=>?_,?_⟩⟩ ⟨O,hN _ _ ⟨U,by lia⟩⟩
 ·lia
 ·rw[zV (zZ e hD)];exact U _ _ e
 ·rw[wX,uf];lia
end
end L2
namespace KK
open PySem L2 KM
variable {P:Program}{w:World}{K:Fg}{mg:Str->Option Value}{base:Heap}{aN:Addr}
theorem qt.ins {H:Hp}{us:List V}{bs:List Bl}{v:V}{b:Bl}(h:qt H us bs) (I:XE H v b) (i:Nat) (hi:i<=us.length):qt H (us.take i++v::us.drop i) (bs.take i++b::bs.drop i):=by
 have l:=h.1
 refine⟨by simp only[wX,wB,yk,YS];lia,λj w e=>?_⟩
 have lt:(us.take i).length=i:=by rw[yk];lia
 have F:(bs.take i).length=i:=by rw[yk];lia
 by_cases c:j<i
 ·rw[yd ∅,Yv,if_pos c]at e
  rw[yd ∅,Yv,if_pos c]
  exact h.2 j w e
 ·rw[wV ∅,lt]at e
  rw[wV ∅,F]
  by_cases c2:j=i
  ·subst c2
   rw[Wq]at e ⊢
   cases e
   exact⟨b,rL,I⟩
  ·obtain⟨t,G⟩:∃t,j-i=t+1:=⟨j-i-1,by lia⟩
   rw[G,uJ,WN]at e
   rw[G,uJ,WN]
   exact h.2 _ w e
theorem zeT {α:Type}(bs:List α) (b:α) (i:Nat):(bs.take i++b::bs.drop i).Perm (bs++[b]):=by
 refine(List.perm_middle).trans ?_
 rw[yQ]
 exact(List.perm_append_singleton b bs).symm
def zee (b:Bl):Prop:=Sz 4000 b.pl/\Sz 4000 b.sp
inductive zj2  (vs:List V) (H:Hp) (Q:VK) (_e3:XK):Prop
 |mk:∀L us bs,(vs=[.ref L])->(H L=some (.lst us))->(qt H us bs)->(bs.length<=8)->((∀b∈bs,zee b))->(∀r us' bs' H',zq H H'->H' r=some (.tup us')->qt H' us' bs'->bs'.Perm bs->Q (.ref r) H')->zj2 vs H Q _e3
theorem zav:zC ["balls","found","ball","at"] ["balls"] (zi ZJ):=scq
theorem zjg (D:Df K mg "_law_sorted" ZJ ["balls"] []) (T:TxB K mg) (a6:⇑3 "_law_ahead" 2 ["one","other"] [] zhK):⇑3 "_law_sorted" 3 ["balls"] [] zj2:=by
 refine D.calq (k:=2) zav (λf cdv A outer s H vs Q E b0 h=>?_)
 rcases q:h with⟨L,us,bs,rfl,hL,hR,l8,hz,k⟩
 have a7:=hR.1
 exists(ze (psl (i:=1) zav.nd (qp zd))
  (ze (va PassesOwn.never rfl (xg (pv 0)) (Vt (i:=2) zav.nd rfl (Or.inr rfl)) (ze (psl (i:=3) zav.nd (zO xp ⇑2 T.nLen PySem.boot_len %[(qj (NB:=["other"]) (FR:=["ball"]) (js:=[2]) rfl rfl (λx c h=>VL rfl x c h) (.cons rfl rfl rfl ⟨_,rfl⟩ .nil) rfl ⇑0 rfl ⇑0 (xg (pv 1)) (by intro _ _ _;refine⟨?_,?_,?_⟩;(exact(pgl (i:=0) (show List.Nodup (["other","ball"]:List Str) by decide +kernel)));(exact(Vw (JM (K:=K) rfl (zD a6 b0 %[0,1|0]) λ_=>rfl)));(exact(pv 0))))|0]))
  (zo (qi (XC yJ PySem.F.slot_list_insert PySem.F.type_list_insert zdO (pv 1) %[3,2|0])))))
  (zo (zE (Zp XA ⇑2 T.nTuple Wh %[1|0])))))
 rcases s:(λV G=>∃F,V=[Sr L,Sr F,none,none]/\zq H G/\H F=none/\G F=some (.lst []))
 ·intro nx a1
  exact⟨by show 0<=sizeLine;lia,λF hF=>a1 _ _ ⟨F,rfl,zq.upd hF,hF,zj⟩⟩
 rintro σ0 G0 O;rcases q:O with⟨F,rfl,S0,a3,hF⟩
 have b4:F≠L:=λe=>by rw[e,hL]at a3;cases a3
 rcases s:(λV G=>∃ws S Y x3,V=[Sr L,Sr F,Y,x3]/\zq H G/\G F=some (.lst ws)/\qt G ws S/\S.Perm bs)
 ·intro nx a1
  exists 00,L,rfl,⟨_,SqL.of (S0 _ _ hL)⟩
  refine vt (xs:=us) (λi V G=>∃ws S Y x3,V=[Sr L,Sr F,Y,x3]/\zq H G/\G F=some (.lst ws)/\qt G ws S/\S.Perm (bs.take i)) ⟨[],[],none,none,rfl,S0,hF,⟨rfl,λi v e=>by cases e⟩,List.Perm.nil⟩ (λi V G _ ⟨_,_,_,_,_,h,_⟩=>SqL.of (h _ _ hL)) ?_ ?_
  ·rintro i y V G hy O;rcases q:O with⟨ws,S,Y,x3,rfl,SG,W,I,U⟩
   obtain⟨b,eb,hb⟩:=(hR.keeps (.of SG)).2 i y hy
   have mb:=wU eb
   have cl:S.length<=8:=by rw[U.length_eq,yk];lia
   have wl:=I.1
   dsimp only[zG]
   refine⟨00,F,rL,⟨_,SqL.of W⟩,λD1 b3=>?_⟩
   refine zeo (js:=[2]) (J:=Itl K F) (g:=zG 0) (te:=xy 0) (tt:=λσ H Q=>ZQ zhK [] E0 (qc (xy 0) (qc (xy 1) Zu)) σ H λx H'=>∃k,zef K x H' k/\Q k H') (n:=1) (xs:=ws) b3 (xq W) (xT ∅) ?_ ?_
   ·intro j x zs H2 A B hx b2 S2 hA hB
    obtain⟨w1,rfl⟩:=XL b2
    obtain⟨c,ec,hc⟩:=(I.keeps (.of S2)).2 j x hx
    have mc:=U.subset (wU ec)
    have a4:=List.mem_of_mem_take mc
    dsimp only[zG]
    exists rfl,01,x,y,c,b,rfl,hc,hb.keeps (.of S2),⟨(hz c a4).1,(hz b mb).1⟩,⟨(hz c a4).2,(hz b mb).2⟩,00
    cases bLt c b with
    |true=>exact xM ⟨_,rfl,hA⟩
    |false=>exact xi hB
   intro ys H2 S2 b1 a5
   have a2:=S2 _ _ W
   exists D1,ys,rfl,.inl (.of b1)
   nofun
   exists 00,.inl ⟨rfl,_,SqL.of a2⟩,01,F,ws,_,y,rfl,rfl,a2,by lia,by lia,by lia
   have en:((ys.length:Int)).toNat=ys.length:=by lia
   rw[en]
   have a8:=hb.keeps (.of S2)
   have a9:=I.keeps (.of S2)
   have tu:xA H2 (upd H2 F (.lst (ws.take ys.length++y::ws.drop ys.length))):=xA.upd a2
   exists _,S.take ys.length++b::S.drop ys.length,021,Zt (SG.trans S2) a3,zj,(a9.ins a8 ys.length a5).keeps tu
   rw[yC,eb]
   exact(zeT S b ys.length).trans (U.append_right [b])
  ·rintro V G O;rcases q:O with⟨ws,S,Y,x3,rfl,SG,W,I,U⟩
   rw[a7,yr]at U
   exact a1 _ _ ⟨ws,S,Y,x3,rL,SG,W,I,U⟩
 rintro σ1 G O;rcases q:O with⟨ws,S,Y,x3,rfl,SG,W,I,U⟩
 refine⟨00,F,ws,rL,.inl ⟨SqL.of W,λr hr=>?_⟩⟩
 have Sr:=zq.upd (o:=.tup ws) hr
 exact k r ws S _ (SG.trans Sr) zj (I.keeps (.of Sr)) U
def qg (W:Rat) (c n:Int):Rat:=W*Rat.divInt c (4*n)
theorem xY {a b:Int}:Rat.divInt a b=(a:Rat)/(b:Rat):=wN a b
theorem zdt {W:Rat}{d n:Int}(O:0<n):Rat.divInt (d*W.num) (4*(W.den:Int)*n)=qg W d n:=by
 unfold qg
 rw[xY,xY]
 have e:W=(W.num:Rat)/((W.den:Int):Rat):=by rw[<-wN];exact(wY W).symm
 conv=>rhs;rw[e]
 have I:=zQ (show (W.den:Int)≠0 by have:=den_pos W;omega)
 have F:=zQ (show n≠0 by omega)
 rw[wf,wf,wf,wf]
 have G:((4:Int):Rat)≠0:=zQ ⇑1
 generalize (W.num:Rat)=a at *
 generalize ((W.den:Int):Rat)=b at *
 generalize (n:Rat)=n' at *
 generalize ((4:Int):Rat)=f at *
 generalize (d:Rat)=d' at *
 grind
theorem zgJ {W:Rat}{d n:Int}{i:Int}(S:0<n):qg W d n+W*Rat.divInt (2*i) n=qg W (d+8*i) n:=by
 unfold qg
 rw[xY,xY,xY,wf,wf,wQ,wf]
 have O:=zQ (show n≠0 by lia)
 have I:((4:Int):Rat)=4:=rfl
 have G:((8:Int):Rat)=8:=rfl
 have F:((2:Int):Rat)=2:=rfl
 rw[I,G,F]
 generalize (n:Rat)=n' at *
 generalize (d:Rat)=d' at *
 generalize (i:Rat)=i' at *
 grind
theorem zeC {W:Rat}{c n:Int}(F:0<W) (G:0<n):qg W c n<W↔c<4*n:=by
 have h:Rat.divInt c (4*n)<1↔c<4*n:=by
  have e:(1:Rat)=Rat.divInt (4*n) (4*n):=by
   rw[xY]
   have:=zQ (show 4*n≠0 by omega)
   generalize ((4*n:Int):Rat)=a at *
   grind
  rw[e];exact xK (by omega)
 rw[<-h]
 unfold qg
 constructor
 ·intro k
  rcases Decidable.em (Rat.divInt c (4*n)<1)with z | z
  ·exact z
  ·have:=yK (show (1:Rat)<=Rat.divInt c (4*n) by grind) (yc F)
   grind
 ·intro k
  have:=uP k F
  grind
theorem J9 {W:Rat}{c n:Int}{m:Nat}(G:Sz m W) (O:0<=c) (S:c<=64) (I:0<n) (F:n<=8):Sz (m+8) (qg W c n) :=
 G.mul (.divInt ∅ (show c.natAbs<2^8 by lia) (show (4*n).natAbs<2^8 by lia))
def SpB (L W v:Rat) (n:Int) (b:Bl):Prop:=b.wt=7/\∃c:Int,0<=c/\c<8*n/\((c<4*n/\b.pl=L+qg W c n/\b.sp=v)\/(4*n<=c/\b.pl=L+(W*2-qg W c n)/\b.sp=-v))
theorem Sz.neg' {n:Nat}{y:Rat}(F:Sz n y):Sz n (-y):=⟨by show Bd n (-y).num;rw[Ue];exact F.1.neg,by show Bd n ((-y).den:Int);rw[Rat.neg_den];exact F.2⟩
theorem zbs:Sz 4000 (-1:Rat):=⟨Bd.mono (m:=2) (show (-1:Int).natAbs<2^2 by decide) ⇑1,Bd.mono (m:=2) (show ((1:Nat):Int).natAbs<2^2 by decide) ⇑1⟩
theorem zlq:Sz 4000 (2:Rat):=⟨Bd.mono (m:=2) (show (2:Int).natAbs<2^2 by decide) ⇑1,Bd.mono (m:=2) (show ((1:Nat):Int).natAbs<2^2 by decide) ⇑1⟩
theorem qt.snoc {H:Hp}{us:List V}{bs:List Bl}{v:V}{b:Bl}(h:qt H us bs) (F:XE H v b):qt H (us++[v]) (bs++[b]):=by
 have:=h.ins F us.length (wn _)
 rw[yr,List.drop_length,h.1,yr,List.drop_length]at this
 exact this
def zir:Sp:=λvs H Q _=>∃p lw wd pc L W v,∃n:Nat,vs=[.ref p,.int n,.ref lw,.ref wd,.ref pc]/\1<=n/\n<=8/\vZ H p/\zu H lw L/\zu H wd W/\zu H pc v/\Sz 200 L/\Sz 200 W/\Sz 200 v/\0<W ∧
 ∀F us bs H',xw p H H'->H F=none->H' F=some (.lst us)->qt H' us bs->bs.length=n->(∀b∈bs,SpB L W v n b)->Q (.ref F) H'
theorem jY:zC ["pool","many","low","wide","pace","first","found","k","far","speed"] ["pool","many","low","wide","pace"] (zi ZK):=scq
theorem zhd (D:Df K mg "_law_spaced" ZK ["pool","many","low","wide","pace"] []) (T:TxB K mg) (cN:⇑3 "_law_next" 1 ["pool","base"] [] Xg) (b6:⇑3 "_law_lowest" 1 ["top","bottom"] [] vw) (cS:⇑3 "_law_sum" 2 ["one","other"] [] (qQ Sz2 (· + ·))) (cP:⇑3 "_law_product" 2 ["one","other"] [] (qQ Sz2 (· * ·))) (e5:⇑3 "_law_less" 1 ["one","other"] [] Jb):⇑3 "_law_spaced" 3 ["pool","many","low","wide","pace"] [] zir:=by
 refine D.calq (k:=2) jY (λf cdv A outer s H vs Q E O h=>?_)
 have b0:xc 1 _:=O.md
 rcases q:h with⟨p,lw,wd,pc,L,W,v,n,rfl,n1,n8,hp,hL,hW,hv,zL,zW,zv,W0,k⟩
 exists(ze (psl (i:=5) jY.nd (zD b6 b0 %[zy zK (zD cN b0 %[0,zh|0]) (pxt (pv 3)),zy zK (zy zK zh (pxt (pv 3))) (pv 1)|0]))
  (ze (psl (i:=6) jY.nd (qp zd))
  (ze (va PassesOwn.never rfl (Zr rfl T.nRange %[1|0]) (pgl (i:=7) jY.nd) (ze (psl (i:=8) jY.nd (zD cS O %[5,(zD cP O %[3,(zD b6 b0 %[zy zK zh (pv 7),1|0])|0])|0]))
  (ze (psl (i:=9) jY.nd (pv 4))
  (ze (xf (ZH (xS (zD e5 b0 %[8,3|0]) λ_=>rfl)) (ze (psl (i:=8) jY.nd (zD cS O %[(zD cP O %[3,(zX %[zh,zh|0])|0]),(zD cP O %[8,(zX %[jX qS zh,zh|0])|0])|0]))
  (zo (psl (i:=9) jY.nd (zD cP O %[4,(zX %[jX qS zh,zh|0])|0])))) zT)
  (zo (qi (XC yJ ui uj qE (pv 6) %[(zX %[(zD cS O %[2,8|0]),9,zh|0])|0])))))))
  (zo (zE (pv 6))))))
 rcases s:(λV G=>∃(ft:Addr) (d:Int),V=[Sr p,Si n,Sr lw,Sr wd,Sr pc,Sr ft,none,none,none,none]/\xw p H G/\0<=d/\d<4/\zu G ft (qg W d n))
 ·intro nx a6
  refine⟨00,p,00,by decide,by decide,hp,λd H1 d0 d4 S1=>?_⟩
  have a1:=S1.rat hp hW
  have wb:=Bd4 (zW.mono (n:=4000) ⇑1)
  have bi:∀{i:Int},i.natAbs<2^10->Bd 1000000 i:=λh=>Bd.mono (m:=10) h ⇑1
  exists 00,wd,032,.of a1,at0 ..,022,⟨bi ∅,wb.1⟩
  exists 00,wd,032,.of a1,at1 ..,022,⟨bi ⇑1,wb.2⟩,00,022,⟨?_,bi ∅⟩
  ·exact((Bd.mono (m:=10) (show (4:Int).natAbs<2^10 by decide) ⇑1:Bd 10 (4:Int)).mul zW.2).md
  refine⟨021,?_,?_,λft H2 S2 b4=>?_⟩
  ·have:=den_pos W
   exact yt (wP ∅ ∅)
  ·exact(((show Bd 10 (4:Int)from(show (4:Int).natAbs<2^10 by decide)).mul zW.2).mul (show Bd 10 (n:Int)from(show (n:Int).natAbs<2^10 by lia))).md
  refine a6 _ _ ⟨ft,d,rL,S1.same S2,d0,d4,?_⟩
  rw[<-zdt ∅];exact b4
 rintro σ1 H1 I;rcases q:I with⟨ft,d,rfl,S1,d0,d4,b4⟩
 have c7:=S1.rat hp hL
 have a1:=S1.rat hp hW
 have c3:=S1.rat hp hv
 rcases s:(λV G=>∃F,V=[Sr p,Si n,Sr lw,Sr wd,Sr pc,Sr ft,Sr F,none,none,none]/\zq H1 G/\H1 F=none/\G F=some (.lst []))
 ·intro nx a6
  exact⟨by show 0<=sizeLine;lia,λF hF=>a6 _ _ ⟨F,rfl,zq.upd hF,hF,zj⟩⟩
 rintro σ2 H2 I;rcases q:I with⟨F,rfl,S2,a5,hF⟩
 have d5:H F=none:=by
  cases e:H F with
  |none=>rfl
  |some o =>
   by_cases c:F=p
   ·obtain⟨_,_,_,e2⟩:=S1.pool;rw[c,e2]at a5;cases a5
   ·rw[S1.keep _ _ e c]at a5;cases a5
 have b1:Sz 4000 W:=zW.md
 have d6:Sz 4000 v:=zv.md
 have d7:Sz 4000 L:=zL.md
 rcases s:(λV G=>∃x7 x8 x9 ws Y,V=[Sr p,Si n,Sr lw,Sr wd,Sr pc,Sr ft,Sr F,x7,x8,x9]/\zq H1 G/\G F=some (.lst ws)/\qt G ws Y/\Y.length=n/\∀b∈Y,SpB L W v n b)
 ·intro nx a6
  exists 01,by lia,by lia
  refine ZA (n:=((n:Int)).toNat) (lo:=0) (λi V G=>∃x7 x8 x9 ws Y,V=[Sr p,Si n,Sr lw,Sr wd,Sr pc,Sr ft,Sr F,x7,x8,x9]/\zq H1 G/\G F=some (.lst ws)/\qt G ws Y/\Y.length=i/\∀b∈Y,SpB L W v n b) ⟨none,none,none,[],[],rfl,S2,hF,⟨rfl,λi v e=>by cases e⟩,rfl,λb m=>by cases m⟩ ?_ ?_
  ·rintro i V G N B hi ⟨x7,x8,x9,ws,Y,rfl,SG,hG,hR,b3,a4⟩ hN
   have e7:i<n:=by lia
   dsimp only[zG]
   have c0:0<=d+8*(i:Int):=by lia
   have c8:d+8*(i:Int)<8*n:=by lia
   have zf:Sz 208 (qg W (d+8*(i:Int)) n):=J9 zW c0 ∅ ∅ ∅
   have a7:Sz 4000 (qg W (d+8*(i:Int)) n):=zf.md
   rcases s:(λV G'=>∃q8,V=[Sr p,Si n,Sr lw,Sr wd,Sr pc,Sr ft,Sr F,some (.int (0+(i:Int))),Sr q8,x9]/\zq G G'/\zu G' q8 (qg W (d+8*(i:Int)) n))
   ·intro c6 U
    refine⟨02,022,⟨Bd.mono (m:=10) (show (2:Int).natAbs<2^10 by decide) ⇑1,Bd.mono (m:=10) (show (0+(i:Int)).natAbs<2^10 by lia) ⇑1⟩,00,021,by lia,Bd.mono (m:=10) (show (n:Int).natAbs<2^10 by lia) ⇑1,λq1 G1 T1 d8=>?_⟩
    refine⟨wd,q1,W,00,a1.same (SG.trans T1),d8,⟨b1,(Sz.divInt (n:=10) ∅ (show (2*(0+(i:Int))).natAbs<2^10 by lia) (show (n:Int).natAbs<2^10 by lia)).md⟩,λq2 G2 T2 c9=>?_⟩
    refine⟨ft,q2,021,b4.same (SG.trans (T1.trans T2)),c9,⟨(J9 zW d0 ∅ ∅ ∅).md,?_⟩,λq3 G3 T3 b8=>?_⟩
    ·exact(zW.mul (Sz.divInt (n:=10) ∅ (show (2*(0+(i:Int))).natAbs<2^10 by lia) (show (n:Int).natAbs<2^10 by lia))).md
    refine U _ _ ⟨q3,rL,T1.trans (T2.trans T3),?_⟩
    have e:=zgJ (W:=W) (d:=d) (n:=n) (i:=(i:Int)) ∅
    rw[<-e]
    rw[show (0:Int)+(i:Int)=(i:Int) by lia]at b8
    exact b8
   rintro σ4 G1 ⟨q8,rfl,T1,b2⟩
   refine⟨00,?_⟩
   dsimp only[zG]
   have a3:=SG.trans T1
   rcases s:(λV G'=>∃a8 a9 S a2,V=[Sr p,Si n,Sr lw,Sr wd,Sr pc,Sr ft,Sr F,some (.int (0+(i:Int))),Sr a8,Sr a9]/\zq G1 G'/\zu G' a8 S/\zu G' a9 a2/\Sz 4000 S/\SpB L W v n ⟨L+S,a2,7⟩)
   ·intro c6 U
    exists 01,q8,wd,_,W,rfl,b2,a1.same a3,a7,b1,00
    have c1:=zeC (c:=d+8*(i:Int)) (n:=(n:Int)) W0 ∅
    by_cases hc:qg W (d+8*(i:Int)) n<W
    ·rw[wm hc]
     refine xi ?_
     exact U _ _ ⟨q8,pc,_,v,rL,zq.refl _,b2,c3.same a3,a7,rL,d+8*(i:Int),c0,c8,.inl ⟨c1.mp hc,rL,rL⟩⟩
    ·rw[wx hc]
     have d2:4*(n:Int)<=d+8*(i:Int):=by
      rcases yA (d+8*(i:Int)) (4*(n:Int))with z | z
      ·exact absurd (c1.mpr z) hc
      ·exact z
     refine xM ?_
     have zn:Sz 4000 (qg W (d+8*(i:Int)) n*(-1)):=by
      rw[show qg W (d+8*(i:Int)) n*(-1)=-qg W (d+8*(i:Int)) n by grind];exact Sz.neg' a7
     have b7:Sz 300 (W*2):=(zW.mul (show Sz 10 (2:Rat)from⟨show (2:Int).natAbs<2^10 by decide,show ((1:Nat):Int).natAbs<2^10 by decide⟩)).md
     have d1:Sz 300 (qg W (d+8*(i:Int)) n*(-1)):=by
      rw[show qg W (d+8*(i:Int)) n*(-1)=-qg W (d+8*(i:Int)) n by grind];exact Sz.neg' (Sz.mono zf ⇑1)
     refine⟨00,⇑5,λe1 d9=>?_⟩
     have U1:=zq.upd (o:=.tup [.int 2,.int 1]) d9
     have g1:zu (upd G1 e1 (.tup [.int 2,.int 1])) e1 2:=zj
     refine⟨wd,e1,W,2,rL,a1.same (a3.trans U1),g1,⟨b1,zlq⟩,λr1 G2 U2 h2=>?_⟩
     refine⟨01,⇑5,λe2 c5=>?_⟩
     have U3:=zq.upd (o:=.tup [.int (-1),.int 1]) c5
     have g3:zu (upd G2 e2 (.tup [.int (-1),.int 1])) e2 (-1):=zj
     refine⟨q8,e2,_,-1,rL,b2.same (U1.trans (U2.trans U3)),g3,⟨a7,zbs⟩,λr2 G4 U4 h4=>?_⟩
     refine⟨r1,r2,021,h2.same (U3.trans U4),h4,⟨b7.md,zn⟩,λr3 G5 U5 h5=>?_⟩
     have UU:=U1.trans (U2.trans (U3.trans (U4.trans U5)))
     refine⟨01,⇑5,λe3 c4=>?_⟩
     have U6:=zq.upd (o:=.tup [.int (-1),.int 1]) c4
     have g6:zu (upd G5 e3 (.tup [.int (-1),.int 1])) e3 (-1):=zj
     refine⟨pc,e3,v,-1,rL,c3.same (a3.trans (UU.trans U6)),g6,⟨d6,zbs⟩,λr4 G6 U7 h7=>?_⟩
     refine U _ _ ⟨r3,r4,_,_,rL,UU.trans (U6.trans U7),h5.same (U6.trans U7),h7,(b7.add d1).md,rL,d+8*(i:Int),c0,c8,.inr ⟨d2,?_,?_⟩⟩
     ·show L+(W*2+qg W (d+8*(i:Int)) n*(-1))=L+(W*2-qg W (d+8*(i:Int)) n)
      grind
     ·show v*(-1)=-v
      grind
   rintro σ5 G2 I;rcases q:I with⟨a8,a9,S,a2,rfl,T2,h8,h9,z8,hB⟩
   have b9:=a3.trans T2
   have b5:=T2 _ _ (T1 _ _ hG)
   have e0:=(hR.keeps (.of T1)).keeps (.of T2)
   refine⟨00,.inl ⟨rL,_,SqL.of b5⟩,01,lw,a8,L,S,rL,c7.same b9,h8,⟨d7,z8⟩,λr5 G3 T3 h5=>?_⟩
   refine⟨00,zL3,λbl d3=>?_⟩
   have T4:=zq.upd (o:=.tup [.ref r5,.ref a9,.int 7]) d3
   have c2:=T4 _ _ (T3 _ _ b5)
   have e6:XE (upd G3 bl (.tup [.ref r5,.ref a9,.int 7])) (.ref bl) ⟨L+S,a2,7⟩:=⟨bl,r5,a9,rfl,zj,h5.same T4,h9.same (T3.trans T4)⟩
   have e4:=((e0.keeps (.of T3)).keeps (.of T4)).snoc e6
   have wl:=hR.1
   exists F,ws,00,rfl,c2,szl ∅
   refine hN _ _ ⟨_,_,_,_,Y++[⟨L+S,a2,7⟩],rfl,Zt (b9.trans (T3.trans T4)) a5,zj,e4.keeps (xA.upd c2),by rw[wX,uf];lia,λb m=>?_⟩
   rcases ya.mp m with m | m
   ·exact a4 b m
   ·rw[w5.mp m];exact hB
  ·rintro V G I;rcases q:I with⟨x7,x8,x9,ws,Y,rfl,SG,hG,hR,b3,a4⟩
   exact a6 _ _ ⟨x7,x8,x9,ws,Y,rfl,SG,hG,hR,by lia,a4⟩
 rintro σ3 G I;rcases q:I with⟨x7,x8,x9,ws,Y,rfl,SG,hG,hR,b3,a4⟩
 exact⟨00,k F ws Y G (S1.same SG) d5 hG hR b3 a4⟩
theorem zfb {d:Int}{u v x w:V}(F:0<=d) (h1:d<4):∃y,atI [u,v,x,w] d=some y/\(y=u\/y=v\/y=x\/y=w):=by
 have:d=0\/d=1\/d=2\/d=3:=by lia
 rcases this with rfl | rfl | rfl | rfl
 ·exact⟨00,.inl rL⟩
 ·exact⟨00,.inr (.inl rL)⟩
 ·exact⟨00,.inr (.inr (.inl rL))⟩
 ·exact⟨00,.inr (.inr (.inr rL))⟩
structure EvG (g j d c w jp dp:Int):Prop where
 g1:1<=g
 g2:g<=1000000000000000000000
 j : -6<=j/\j<=6
 d:d=1\/d=2
 c:c=1\/c=2\/c=3
 w:2<=w/\w<=10
 jp:1<=jp/\jp<=5
 dp:dp=1\/dp=2\/dp=3
theorem gBd {g:Int}(h1:1<=g) (h2:g<=1000000000000000000000):Bd 71 g:=by
 have:(2361183241434822606848:Nat)=2^71:=by decide
 show g.natAbs<2^71
 lia
def zB (g j d:Int):Rat:=Rat.divInt (j*g) d
def zN (g c:Int):Rat:=Rat.divInt g c
def GrS (g jp dp:Int) (v:Rat):Prop:=v=zB g jp dp\/v=-zB g jp dp\/v=0\/∃k e:Int,-6<=k/\k<=6/\(e=1\/e=2)/\v=zB g k e
def GrB (g j d c w jp dp wt:Int) (b:Bl):Prop:=b.wt=wt/\∃t:Int,0<=t/\t<=w/\b.pl=zB g j d+zN g c*(t:Rat) ∧
 GrS g jp dp b.sp/\(t=0->0<=b.sp)/\(t=w->b.sp<=0)
def EvB (g j d c w jp dp:Int) (n:Nat) (bs:List Bl):Prop:=(∀b∈bs,SpB (zB g j d) (zN g c*(w:Rat)) (zB g jp dp) n b)\/∃wt,∀b∈bs,GrB g j d c w jp dp wt b
theorem zaj {x:Rat}:x.num<0↔x<0:=by
 have:=Y6 (q:=x)
 constructor
 ·intro h;have:¬ 0<=x:=λc=>by have:=this.mpr c;omega
  grind
 ·intro h
  rcases yA x.num 0 with c | c
  ·exact c
  ·have:=this.mp c;grind
theorem zcP {x:Rat}:0<x.num↔0<x:=by
 have h1:=zaj (x := -x)
 rw[Ue]at h1
 constructor
 ·intro h;have:=h1.mp ∅;grind
 ·intro h;have:=h1.mpr (by grind);lia
theorem zaO {g k e:Int} : -zB g k e=zB g (-k) e:=by
 unfold zB
 rw[Int.neg_mul,Rat.neg_divInt]
theorem GrS.neg {g jp dp:Int}{v:Rat}(h:GrS g jp dp v):GrS g jp dp (-v):=by
 rcases h with rfl | rfl | rfl | ⟨k,e,h1,h2,F,rfl⟩
 ·exact .inr (.inl rL)
 ·exact .inl (by grind)
 ·exact .inr (.inr (.inl (by grind)))
 ·exact .inr (.inr (.inr ⟨-k,e,by lia,by lia,F,zaO⟩))
def blD (b:Bl):PyData:=.tuple [raD b.pl,raD b.sp,.int b.wt]
theorem XE.rdD {H:Hp}{v:V}{b:Bl}(h:XE H v b):RdD H v (blD b):=by
 obtain⟨a,p,q,rfl,h1,h2,F⟩:=h
 exact .tup h1 (.cons (zu.rdD h2) (.cons (zu.rdD F) (.cons (.int _) .nil)))
theorem zc2 {H:Hp}:∀{us:List V}{bs:List Bl},qt H us bs->Zx H us (bs.map blD)
 |[],[],_=>.nil
 |[],_::_,h=>by have:=h.1;simp at this
 |_::_,[],h=>by have:=h.1;simp at this
 |u::us,b::bs,h=>by
  obtain⟨c,e,F⟩:=h.2 0 u rfl
  simp at e;subst e
  exact .cons (XE.rdD F) (zc2 ⟨by have:=h.1;simpa using this,λi v e=>by simpa using h.2 (i+1) v ↥e⟩)
theorem zbW (b:Bl):Lay 2 (blD b):=Lay.tup λd m=>by
 rcases wu.mp m with rfl | m
 ·exact Lay.rat _
 ·rcases wu.mp m with rfl | m
  ·exact Lay.rat _
  ·rw[w5.mp m];exact(Lay.int _).md
def ziq:Sp:=λvs H Q _=>∃p,∃m:Int,vs=[.ref p,.int m]/\1<=m/\m<=5/\vZ H p/\∀t r a us bs g j d c w' jp dp H',∀n:Nat,xw p H H'->H' t=some (.tup [.ref r,.ref a])->H' r=some (.tup us)->qt H' us bs->1<=bs.length->bs.length<=n->n<=5->EvG g j d c w' jp dp->EvB g j d c w' jp dp n bs →
 (∃v1 v2,H' a=some (.tup [v1,v2])/\xx H' v1 (some (zB g j d,0))/\xx H' v2 (some (zB g j d+zN g c*(w':Rat),0)))->Q (.ref t) H'
theorem qu:zC ["pool","most","many","great","low","step","wide","pace","weight","walls","balls","k","at","other","speed","ball"] ["pool","most"] (zi X9):=scq
theorem zjc (D:Df K mg "_law_even" X9 ["pool","most"] []) (T:TxB K mg) (cN:⇑3 "_law_next" 1 ["pool","base"] [] Xg) (cF:⇑3 "_law_far" 2 ["pool"] [] zc8) (g8:⇑3 "_law_lowest" 1 ["top","bottom"] [] vw) (cS:⇑3 "_law_sum" 2 ["one","other"] [] (qQ Sz2 (· + ·))) (cP:⇑3 "_law_product" 2 ["one","other"] [] (qQ Sz2 (· * ·))) (m3:⇑3 "_law_sorted" 3 ["balls"] [] zj2) (o0:⇑3 "_law_spaced" 3 ["pool","many","low","wide","pace"] [] zir) :
  ⇑3 "_law_even" 4 ["pool","most"] [] ziq:=by
 refine D.calq (k:=3) qu (λf cdv A outer s H vs Q E f0 h=>?_)
 rcases q:h with⟨p,m,rfl,m1,m5,hP,k⟩
 have Y:xc 1 _:=f0.md
 have d0:xc 2 _:=f0.md
 have hu:=f0.units
 exists(ze (psl (i:=2) qu.nd (zy xr zh (zD cN Y %[0,1|0])))
  (ze (psl (i:=3) qu.nd (qa qy (qp %[zh,zy xr zh (zD cF d0 %[0|0])|0]) (Zp zdl ⇑2 T.nInt PyProof.Rows.boot_int %[qz ZP (zD cN Y %[0,zh|0]) zh (zH _)|0]) (λ_ _=>rfl)))
  (ze (psl (i:=4) qu.nd (zD g8 Y %[zy zK (zy qo (zD cN Y %[0,zh|0]) zh) (pv 3),zy xr zh (zD cN Y %[0,zh|0])|0]))
  (ze (psl (i:=5) qu.nd (zD g8 Y %[3,qa qy (qp %[zh,zh,zh,zh|0]) (zD cN Y %[0,zh|0]) (λ_ _=>rfl)|0]))
  (ze (psl (i:=6) qu.nd (zy xr zh (zD cN Y %[0,zh|0])))
  (ze (psl (i:=7) qu.nd (zD g8 Y %[zy zK (zy xr zh (zD cN Y %[0,zh|0])) (pv 3),zy xr zh (zD cN Y %[0,zh|0])|0]))
  (ze (psl (i:=8) qu.nd (zy xr zh (zD cN Y %[0,zh|0])))
  (ze (psl (i:=9) qu.nd (zX %[(zX %[4,(zX %[zh,zh|0])|0]),(zX %[(zD cS d0 %[4,(zD cP d0 %[5,(zX %[6,zh|0])|0])|0]),(zX %[zh,zh|0])|0])|0]))
  (ze (xf (zF ZP (zD cN Y %[0,zh|0]) zh (zH _)) (zo (zE (zX %[(zD m3 f0 %[(zD o0 f0 %[0,2,4,(zD cP d0 %[5,(zX %[6,zh|0])|0]),7|0])|0]),9|0]))) zT)
  (ze (psl (i:=10) qu.nd (qp zd))
  (ze (va PassesOwn.never rfl (Zr rfl T.nRange %[2|0]) (pgl (i:=11) qu.nd) (ze (psl (i:=12) qu.nd (zD cN Y %[0,zy xr (pv 6) zh|0]))
  (ze (psl (i:=13) qu.nd (zD g8 Y %[zy zK (zy qo (zD cN Y %[0,zh|0]) zh) (pv 3),zy xr zh (zD cN Y %[0,zh|0])|0]))
  (ze (psl (i:=14) qu.nd (qa qy (qp %[7,(zD cP d0 %[7,(zX %[jX qS zh,zh|0])|0]),(zX %[zh,zh|0]),13|0]) (zD cN Y %[0,zh|0]) (λ_ _=>rfl)))
  (ze (xf (QA ((vR (zF ZP (pv 12) zh (zH _)) (qL (zF Zo (pxt (pv 14)) zh (zH _))))).pt (XT ((vR (zF ZP (pv 12) (pv 6) (zH _)) (qL (zF XB (pxt (pv 14)) zh (zH _))))).pt)).pt (zo (psl (i:=14) qu.nd (zD cP d0 %[14,(zX %[jX qS zh,zh|0])|0]))) zT)
  (ze (psl (i:=15) qu.nd (zX %[(zD cS d0 %[4,(zD cP d0 %[5,(zX %[12,zh|0])|0])|0]),14,8|0]))
  (zo (xf (zF (zdT hu) (pv 15) (pv 10) rfl) (zo (qi (XC yJ ui uj qE (pv 10) %[15|0]))) zT))))))))
  (zo (zE (zX %[zD m3 f0 %[10|0],9|0]))))))))))))))
 refine⟨01,p,m,rfl,by lia,by lia,hP,λd1 G1 a1 b1 t1=>⟨022,?_⟩⟩
 dsimp only[zG]
 rcases s:(λσ' G=>∃g:Int,σ'=[Sr p,Si m,some (.int (1+d1)),Si g,none,none,none,none,none,none,none,none,none,none,none,none]/\xw p H G/\1<=g/\g<=1000000000000000000000)
 ·intro nx b9
  refine⟨00,p,rL,t1.pool,λfr G2 a2 b2 t2=>⟨022,⇑5,λl1 d5=>?_⟩⟩
  have T2:=t1.trans t2
  refine⟨00,p,00,by decide,by decide,T2.pool.new d5,λd2 G3 a3 b3 t3=>?_⟩
  refine⟨rL,.inr ⟨00,?_⟩⟩
  have hl:=t3.keep l1 _ zj (T2.pool.ne d5)
  have T3:xw p H G3:=T2.trans (t3.pre (zq.upd d5))
  by_cases c:V.int d2=V.int 0
  ·rw[wm c]
   exists l1,032,.of hl,rfl
   exact b9 _ _ ⟨_,rfl,T3,by lia,by lia⟩
  ·rw[wx c]
   exists l1,032,.of hl,rfl
   exact b9 _ _ ⟨1,rfl,T3,by lia,by lia⟩
 rintro σ3 G3 U;rcases q:U with⟨g,rfl,T3,g1,g2⟩
 have bg:=gBd g1 g2
 have j3:∀{x:Int},0<=x+20->x<=20->Bd 1000000 x:=λh1 h2=>Bd.mono (m:=10) (show _<2^10 by lia) ⇑1
 have bi:∀{x:Int},1<=x->x<=12->x≠0/\Bd 8900 x:=λh1 h2=>⟨by lia,Bd.mono (m:=10) (show _<2^10 by lia) ⇑1⟩
 have j4:Bd 1000000 g:=bg.md
 rcases s:(λσ' G=>∃rl j d,σ'=[Sr p,Si m,some (.int (1+d1)),Si g,Sr rl,none,none,none,none,none,none,none,none,none,none,none]/\xw p H G/\(-6<=j/\j<=6)/\(d=1\/d=2)/\zu G rl (zB g j d))
 ·intro nx b9
  refine⟨00,p,00,by decide,by decide,T3.pool,λe1 G4 a4 b4 t4=>⟨022,00,022,⟨j3 ∅ ∅,j4⟩,?_⟩⟩
  have T4:=T3.trans t4
  refine⟨00,p,00,by decide,by decide,T4.pool,λe2 G5 a5 b5 t5=>⟨022,021,(bi ∅ ∅).1,(bi ∅ ∅).2,λrl G6 s6 hl=>?_⟩⟩
  exact b9 _ _ ⟨rl,e1-6,1+e2,rfl,(T4.trans t5).same s6,by lia,by lia,hl⟩
 rintro σ4 G4 U;rcases q:U with⟨rl,j,d,rfl,T4,hj,hd,g9⟩
 rcases s:(λσ' G=>∃rs c,σ'=[Sr p,Si m,some (.int (1+d1)),Si g,Sr rl,Sr rs,none,none,none,none,none,none,none,none,none,none]/\xw p H G/\(c=1\/c=2\/c=3)/\zu G rl (zB g j d)/\zu G rs (zN g c))
 ·intro nx b9
  refine⟨00,zL4,λl1 d5=>?_⟩
  refine⟨00,p,00,by decide,by decide,T4.pool.new d5,λe1 G5 a5 b5 t5=>?_⟩
  have hl:=t5.keep l1 _ zj (T4.pool.ne d5)
  have l5:=t5.pre (zq.upd d5)
  obtain⟨y,ey,hy⟩:=zfb (u:=V.int 1) (v:=.int 1) (x:=.int 2) (w:=.int 3) a5 b5
  obtain⟨c,rfl,hc⟩:∃c:Int,y=.int c/\(c=1\/c=2\/c=3):=by
   rcases hy with rfl | rfl | rfl | rfl
   ·exact⟨1,rL,.inl rL⟩
   ·exact⟨1,rL,.inl rL⟩
   ·exact⟨2,rL,.inr (.inl rL)⟩
   ·exact⟨3,rL,.inr (.inr rL)⟩
  refine⟨l1,032,.of hl,ey,021,(bi ∅ ∅).1,(bi ∅ ∅).2,λrs G6 s6 hs=>?_⟩
  exact b9 _ _ ⟨rs,c,rL,(T4.trans l5).same s6,hc,(l5.rat T4.pool g9).same s6,hs⟩
 rintro σ5 G5 U;rcases q:U with⟨rs,c,rfl,T5,hc,g9,k7⟩
 refine⟨00,p,00,by decide,by decide,T5.pool,λe6 G6 a6 b6 t6=>⟨022,?_⟩⟩
 have T6:=T5.trans t6
 have i0:=t6.rat T5.pool g9
 have h7:=t6.rat T5.pool k7
 clear g9 k7
 obtain⟨O,ew⟩:∃O:Int,O=2+e6:=⟨_,rfl⟩
 dsimp only[zG]
 rcases s:(λσ' G=>∃S jp dp,σ'=[Sr p,Si m,some (.int (1+d1)),Si g,Sr rl,Sr rs,Si O,Sr S,none,none,none,none,none,none,none,none]/\xw p H G/\(1<=jp/\jp<=5)/\(dp=1\/dp=2\/dp=3)/\zu G rl (zB g j d)/\zu G rs (zN g c)/\zu G S (zB g jp dp))
 ·intro nx b9
  refine⟨00,p,00,by decide,by decide,T6.pool,λe1 G7 a7 b7 t7=>⟨022,00,022,⟨j3 ∅ ∅,j4⟩,?_⟩⟩
  have T7:=T6.trans t7
  refine⟨00,p,00,by decide,by decide,T7.pool,λe2 G8 a8 b8 t8=>⟨022,021,(bi ∅ ∅).1,(bi ∅ ∅).2,λS G9 s9 hp=>?_⟩⟩
  have k4:=t7.trans t8
  exact b9 _ _ ⟨S,1+e1,1+e2,by rw[ew];rfl,(T7.trans t8).same s9,by lia,by lia,(k4.rat T6.pool i0).same s9,(k4.rat T6.pool h7).same s9,hp⟩
 rintro σ7 G7 U;rcases q:U with⟨S,jp,dp,rfl,T7,p2,o2,i4,i6,i3⟩
 clear i0 h7
 refine⟨00,p,00,by decide,by decide,T7.pool,λe8 G8 a8 b8 t8=>⟨022,?_⟩⟩
 have T8:=T7.trans t8
 have d9:=t8.rat T7.pool i4
 have g0:=t8.rat T7.pool i6
 have i2:=t8.rat T7.pool i3
 clear i4 i6 i3
 have n9:2<=O/\O<=10:=by lia
 dsimp only[zG]
 have EG:EvG g j d c O jp dp:=⟨g1,g2,hj,hd,hc,n9,p2,o2⟩
 have e7:Sz 80 (zB g j d):=.divInt ∅ (((show Bd 4 j from(show j.natAbs<2^4 by lia)).mul bg).md) (Bd.mono (m:=4) (show d.natAbs<2^4 by lia) ⇑1)
 have e3:Sz 80 (zN g c):=.divInt ∅ (bg.md) (Bd.mono (m:=4) (show c.natAbs<2^4 by lia) ⇑1)
 have e5:Sz 80 (zB g jp dp):=.divInt ∅ (((show Bd 4 jp from(show jp.natAbs<2^4 by lia)).mul bg).md) (Bd.mono (m:=4) (show dp.natAbs<2^4 by lia) ⇑1)
 have c7:∀{x:Int},0<=x->x<=20->Sz 10 (x:Rat):=λ{x} h1 h2=>⟨show (x:Rat).num.natAbs<2^10 by rw[Yj];lia,show (((x:Rat).den:Int)).natAbs<2^10 by rw[Y2];decide⟩
 have f9:∀{G:Hp}{e:Addr}{x:Int},G e=some (.tup [.int x,.int 1])->zu G e (x:Rat):=λ{G e x} h=>by
  unfold zu rp;rw[Yj,Y2];exact h
 have zW:Sz 90 (zN g c*(O:Rat)):=(e3.mul (c7 ∅ ∅)).md
 rcases s:(λσ' G=>∃rw,σ'=[Sr p,Si m,some (.int (1+d1)),Si g,Sr rl,Sr rs,Si O,Sr S,some (.int (1+e8)),Sr rw,none,none,none,none,none,none]/\zq G8 G/\∃v1 v2,G rw=some (.tup [v1,v2])/\xx G v1 (some (zB g j d,0))/\xx G v2 (some (zB g j d+zN g c*(O:Rat),0)))
 ·intro nx b9
  refine⟨00,⇑5,λz1 m9=>?_⟩
  have U1:=zq.upd (o:=.tup [.int 0,.int 1]) m9
  have q1:zu (upd G8 z1 (.tup [.int 0,.int 1])) z1 0:=zj
  generalize upd G8 z1 (.tup [.int 0,.int 1])=K1 at U1 q1
  refine⟨⇑5,λw1 n0=>?_⟩
  have U2:=zq.upd (o:=.tup [.ref rl,.ref z1]) n0
  have q2:upd K1 w1 (.tup [.ref rl,.ref z1]) w1=some (.tup [.ref rl,.ref z1]):=zj
  generalize upd K1 w1 (.tup [.ref rl,.ref z1])=K2 at U2 q2
  refine⟨02,⇑5,λi1 g3=>?_⟩
  have U3:=zq.upd (o:=.tup [.int O,.int 1]) g3
  have q3:zu (upd K2 i1 (.tup [.int O,.int 1])) i1 (O:Rat):=f9 zj
  generalize upd K2 i1 (.tup [.int O,.int 1])=K3 at U3 q3
  have l7:=U1.trans (U2.trans U3)
  refine⟨rs,i1,zN g c,(O:Rat),rL,g0.same l7,q3,⟨e3.md,(c7 ∅ ∅).md⟩,λpr K4 U4 q4=>?_⟩
  refine⟨rl,pr,zB g j d,zN g c*(O:Rat),rL,d9.same (l7.trans U4),q4,⟨e7.md,zW.md⟩,λsm K5 U5 q5=>?_⟩
  refine⟨⇑5,λz2 n6=>?_⟩
  have U6:=zq.upd (o:=.tup [.int 0,.int 1]) n6
  have q6:zu (upd K5 z2 (.tup [.int 0,.int 1])) z2 0:=zj
  generalize upd K5 z2 (.tup [.int 0,.int 1])=K6 at U6 q6
  refine⟨⇑5,λw2 n7=>?_⟩
  have U7:=zq.upd (o:=.tup [.ref sm,.ref z2]) n7
  have q7:upd K6 w2 (.tup [.ref sm,.ref z2]) w2=some (.tup [.ref sm,.ref z2]):=zj
  generalize upd K6 w2 (.tup [.ref sm,.ref z2])=K7 at U7 q7
  refine⟨⇑5,λa9 n5=>?_⟩
  have U8:=zq.upd (o:=.tup [.ref w1,.ref w2]) n5
  have g6:=U3.trans (U4.trans (U5.trans (U6.trans (U7.trans U8))))
  refine b9 _ _ ⟨a9,rL,U1.trans (U2.trans g6),.ref w1,.ref w2,zj,⟨w1,rl,z1,rL,g6 _ _ q2,d9.same (U1.trans (U2.trans g6)),q1.same (U2.trans g6)⟩,⟨w2,sm,z2,rL,U8 _ _ q7,q5.same (U6.trans (U7.trans U8)),q6.same (U7.trans U8)⟩⟩
 rintro σ9 G9 ⟨a9,rfl,S9,e0⟩
 have T9:=T8.same S9
 have i8:=d9.same S9
 have i7:=g0.same S9
 have h9:=i2.same S9
 clear d9 g0 i2
 refine⟨00,p,00,by decide,by decide,T9.pool,λe9 b0 p6 p8 c5=>?_⟩
 have d6:=T9.trans c5
 have f8:=c5.rat T9.pool i8
 have f6:=c5.rat T9.pool i7
 have g5:=c5.rat T9.pool h9
 have c8:∃v1 v2,b0 a9=some (.tup [v1,v2])/\xx b0 v1 (some (zB g j d,0))/\xx b0 v2 (some (zB g j d+zN g c*(O:Rat),0)):=by
  rcases q:e0 with⟨v1,v2,h1,⟨a,b,e,r1,r2,r3,r4⟩,⟨a',b',e',o6,m6,p0,n8⟩⟩
  exact⟨v1,v2,c5.tup T9.pool h1,⟨a,b,e,r1,c5.tup T9.pool r2,c5.rat T9.pool r3,c5.rat T9.pool r4⟩,⟨a',b',e',o6,c5.tup T9.pool m6,c5.rat T9.pool p0,c5.rat T9.pool n8⟩⟩
 clear i8 i7 h9 e0
 obtain⟨n,en⟩:∃n:Nat,(1:Int)+d1=(n:Int):=⟨(1+d1).toNat,by lia⟩
 have W0:0<zN g c*(O:Rat):=yg ((qh ∅).mpr ∅) (wv.mpr ∅)
 refine⟨rL,00,vu (λ_=>?_) (λ_=>?_)⟩
 ·rw[en]
  refine⟨04,⇑5,λi1 g3=>?_⟩
  have U1:=zq.upd (o:=.tup [.int O,.int 1]) g3
  have q1:zu (upd b0 i1 (.tup [.int O,.int 1])) i1 (O:Rat):=f9 zj
  generalize upd b0 i1 (.tup [.int O,.int 1])=K1 at U1 q1
  refine⟨rs,i1,zN g c,(O:Rat),rL,f6.same U1,q1,⟨e3.md,(c7 ∅ ∅).md⟩,λpr K2 U2 q2=>?_⟩
  have h5:=U1.trans U2
  have j6:=d6.same h5
  refine⟨00,p,rl,pr,S,zB g j d,zN g c*(O:Rat),zB g jp dp,n,rfl,by lia,by lia,j6.pool,f8.same h5,q2,g5.same h5,e7.md,zW.md,e5.md,W0,λF us bs K3 k9 hF n1 hR j1 hB=>?_⟩
  have n2:∀b∈bs,zee b:=λb mb=>by
   rcases q:hB b mb with⟨_,c',h0,h8,hh⟩
   have zf:Sz 98 (qg (zN g c*(O:Rat)) c' n):=J9 zW h0 ∅ ∅ ∅
   have z2:Sz 100 (zN g c*(O:Rat)*2):=(zW.mul (show Sz 4 (2:Rat)from⟨show (2:Int).natAbs<2^4 by decide,show ((1:Nat):Int).natAbs<2^4 by decide⟩)).md
   rcases hh with⟨_,h1,h2⟩ | ⟨_,h1,h2⟩
   ·refine⟨?_,by rw[h2];exact e5.md⟩
    rw[h1];exact(e7.add zf).md
   ·refine⟨?_,by rw[h2];exact Sz.neg' (e5.md)⟩
    rw[h1]
    have:zN g c*(O:Rat)*2-qg (zN g c*(O:Rat)) c' n=zN g c*(O:Rat)*2 + -qg (zN g c*(O:Rat)) c' n:=by grind
    rw[this]
    exact(e7.add (z2.add (Sz.neg' zf))).md
  refine⟨F,us,bs,rfl,n1,hR,by lia,n2,λr k1 j5 K4 U4 i9 j7 pm=>?_⟩
  refine⟨00,⇑5,λt ht=>?_⟩
  have U5:=zq.upd (o:=.tup [.ref r,.ref a9]) ht
  have tu:xA b0 (upd K4 t (.tup [.ref r,.ref a9])):=λa xs h=>U5 _ _ (U4 _ _ (k9.tup j6.pool (h5 _ _ h)))
  rcases q:c8 with⟨v1,v2,hw,h1,h2⟩
  have pl:=pm.length_eq
  exact k t r a9 k1 j5 g j d c O jp dp _ n ((j6.trans k9).same (U4.trans U5)) zj (U5 _ _ i9) (j7.keeps (.of U5)) ∅ ∅ ∅ EG (.inl λb mb=>hB b (pm.subset mb)) ⟨v1,v2,tu _ _ hw,h1.tupsW tu,h2.tupsW tu⟩
 refine zc9 ?_
 nofun
 rcases s:(λσ' G=>∃F,σ'=[Sr p,Si m,some (.int (1+d1)),Si g,Sr rl,Sr rs,Si O,Sr S,some (.int (1+e8)),Sr a9,Sr F,none,none,none,none,none]/\zq b0 G/\b0 F=none/\G F=some (.lst []))
 ·intro nx b9
  exact⟨by show 0<=sizeLine;lia,λF hF=>b9 _ _ ⟨F,rfl,zq.upd hF,hF,zj⟩⟩
 rintro r6 o3 U;rcases q:U with⟨F,rfl,o7,i5,m4⟩
 have l8:F≠p:=d6.pool.ne i5
 have m8:xw p b0 o3:=(xw.refl d6.pool).same o7
 rcases s:(λσ' G=>∃d4 d3 d8 c9 c6 ws cs,σ'=[Sr p,Si m,some (.int (1+d1)),Si g,Sr rl,Sr rs,Si O,Sr S,some (.int (1+e8)),Sr a9,Sr F,d4,d3,d8,c9,c6]/\xw p b0 G/\G F=some (.lst ws)/\qt G ws cs/\cs.length<=n/\1<=cs.length/\∀b∈cs,GrB g j d c O jp dp (1+e8) b/\zee b)
 ·intro nx b9
  exists 01,by lia,by lia
  refine ZA (n:=(1+d1).toNat) (lo:=0) (λi σ' G=>∃d4 d3 d8 c9 c6 ws cs,σ'=[Sr p,Si m,some (.int (1+d1)),Si g,Sr rl,Sr rs,Si O,Sr S,some (.int (1+e8)),Sr a9,Sr F,d4,d3,d8,c9,c6]/\xw p b0 G/\G F=some (.lst ws)/\qt G ws cs/\cs.length<=i/\(1<=i->1<=cs.length)/\∀b∈cs,GrB g j d c O jp dp (1+e8) b/\zee b) ⟨none,none,none,none,none,[],[],rfl,m8,m4,⟨rfl,λi v e=>by cases e⟩,wn _,λh=>by lia,λb mb=>by cases mb⟩ ?_ ?_
  ·rintro i σ' G N B hi ⟨d4,d3,d8,c9,c6,ws,cs,rfl,TG,hG,hR,l6,j2,d7⟩ hN
   have r0:i<5:=by lia
   dsimp only[zG]
   refine⟨01,022,p,00,by lia,by lia,TG.pool,λI K1 a1 b1 t1=>?_⟩
   dsimp only[zG]
   rcases s:(λσ' G'=>∃ro ov,σ'=[Sr p,Si m,some (.int (1+d1)),Si g,Sr rl,Sr rs,Si O,Sr S,some (.int (1+e8)),Sr a9,Sr F,some (.int (0+(i:Int))),Si I,Sr ro,c9,c6]/\xw p G G'/\zu G' ro ov/\GrS g jp dp ov/\Sz 80 ov)
   ·intro g7 W
    refine⟨00,p,00,by decide,by decide,t1.pool,λe1 K2 a2 b2 t2=>⟨022,00,022,⟨j3 ∅ ∅,j4⟩,?_⟩⟩
    have m0:=t1.trans t2
    refine⟨00,p,00,by decide,by decide,m0.pool,λe2 K3 a3 b3 t3=>⟨022,021,(bi ∅ ∅).1,(bi ∅ ∅).2,λro K4 s4 ho=>?_⟩⟩
    refine W _ _ ⟨ro,zB g (e1-6) (1+e2),rfl,(m0.trans t3).same s4,ho,.inr (.inr (.inr ⟨e1-6,1+e2,by lia,by lia,by lia,rfl⟩)),?_⟩
    exact .divInt ∅ (((show Bd 4 (e1-6)from(show (e1-6).natAbs<2^4 by lia)).mul bg).md) (Bd.mono (m:=4) (show (1+e2).natAbs<2^4 by lia) ⇑1)
   rintro p9 h3 U;rcases q:U with⟨ro,ov,rfl,u1,n4,n3,p3⟩
   clear t1
   have TK:=TG.trans u1
   have h6:zu h3 S (zB g jp dp):=TK.rat d6.pool g5
   rcases s:(λσ' G'=>∃rq qv,σ'=[Sr p,Si m,some (.int (1+d1)),Si g,Sr rl,Sr rs,Si O,Sr S,some (.int (1+e8)),Sr a9,Sr F,some (.int (0+(i:Int))),Si I,Sr ro,Sr rq,c6]/\xw p h3 G'/\zu G' rq qv/\GrS g jp dp qv/\Sz 80 qv)
   ·intro g7 W
    refine⟨02,⇑5,λm1 p1=>?_⟩
    have V1:=zq.upd (o:=.tup [.int (-1),.int 1]) p1
    have q1:zu (upd h3 m1 (.tup [.int (-1),.int 1])) m1 (-1):=zj
    refine⟨S,m1,_,-1,rL,h6.same V1,q1,⟨e5.md,zbs⟩,λnp K2 V2 q2=>?_⟩
    refine⟨⇑5,λz9 m7=>?_⟩
    have V3:=zq.upd (o:=.tup [.int 0,.int 1]) m7
    have q3:zu (upd K2 z9 (.tup [.int 0,.int 1])) z9 0:=zj
    generalize upd K2 z9 (.tup [.int 0,.int 1])=K3 at V3 q3
    refine⟨00,zL4,λl9 k5=>?_⟩
    have V4:=zq.upd (o:=.lst [.ref S,.ref np,.ref z9,.ref ro]) k5
    have k6:=V1.trans (V2.trans (V3.trans V4))
    have l2:=u1.same k6
    refine⟨00,p,00,by decide,by decide,l2.pool,λe4 K5 a4 b4 t4=>?_⟩
    have hl:=t4.keep l9 _ zj ((u1.same (V1.trans (V2.trans V3))).pool.ne k5)
    obtain⟨y,ey,hy⟩:=zfb (u:=V.ref S) (v:=.ref np) (x:=.ref z9) (w:=.ref ro) a4 b4
    have h4:∀{e:Addr}{v:Rat},zu K3 e v->zu K5 e v:=λh=>t4.rat l2.pool (h.same V4)
    exists l9,032,.of hl,ey
    have st:xw p h3 K5:=t4.pre k6
    rcases hy with rfl | rfl | rfl | rfl
    ·exact W _ _ ⟨S,_,rL,st,h4 (h6.same (V1.trans (V2.trans V3))),.inl rL,e5⟩
    ·refine W _ _ ⟨np,-zB g jp dp,rL,st,h4 ?_,.inr (.inl rL),Sz.neg' e5⟩
     have:=q2.same V3
     rw[show -zB g jp dp=zB g jp dp*(-1) by grind];exact this
    ·exact W _ _ ⟨z9,0,rfl,st,h4 q3,.inr (.inr (.inl rfl)),⟨by show Bd 80 0;exact(show (0:Int).natAbs<2^80 by decide),by show Bd 80 1;exact(show (1:Int).natAbs<2^80 by decide)⟩⟩
    ·exact W _ _ ⟨ro,ov,rL,st,h4 (n4.same (V1.trans (V2.trans V3))),n3,p3⟩
   rintro p4 K2 U;rcases q:U with⟨rq,qv,rfl,u2,f5,k2,f7⟩
   rcases s:(λσ' G'=>∃r2 v2,σ'=[Sr p,Si m,some (.int (1+d1)),Si g,Sr rl,Sr rs,Si O,Sr S,some (.int (1+e8)),Sr a9,Sr F,some (.int (0+(i:Int))),Si I,Sr ro,Sr r2,c6]/\zq K2 G'/\zu G' r2 v2/\GrS g jp dp v2/\Sz 80 v2/\(I=0->0<=v2)/\(I=O->v2<=0))
   ·intro g7 W
    have nt:(I=0->0<=qv)->(I=O->qv<=0)->g7 [some (.ref p),some (.int m),some (.int (1+d1)),some (.int g),some (.ref rl),some (.ref rs),some (.int O),some (.ref S),some (.int (1+e8)),some (.ref a9),some (.ref F),some (.int (0+(i:Int))),some (.int I),some (.ref ro),some (.ref rq),c6] K2:=λh1 h2=>W _ _ ⟨rq,qv,rfl,zq.refl _,f5,k2,f7,h1,h2⟩
    refine⟨00,rL,00,vu (λc1=>?_) (λc1=>?_)⟩
    ·have z0:I=0:=V.int.inj (ww c1)
     refine⟨00,rq,032,.of f5,at0 ..,022,00,vu (λc2=>?_) (λc2=>?_)⟩
     ·have l0:qv<0:=zaj.mp (ww c2)
      refine xM ?_
      refine⟨01,⇑5,λe1 j9=>?_⟩
      have V1:=zq.upd (o:=.tup [.int (-1),.int 1]) j9
      have q1:zu (upd K2 e1 (.tup [.int (-1),.int 1])) e1 (-1):=zj
      refine⟨rq,e1,qv,-1,rL,f5.same V1,q1,⟨f7.md,zbs⟩,λr2 K3 V2 q2=>?_⟩
      exact W _ _ ⟨r2,-qv,rfl,V1.trans V2,by rw[show -qv=qv*(-1) by grind];exact q2,k2.neg,Sz.neg' f7,(λ_=>by grind),(λe=>by lia)⟩
     ·have l0:¬qv<0:=λz=>c2 (wm (zaj.mpr z))
      refine⟨01,rL,00,vu (λc3=>?_) (λc3=>?_)⟩
      ·have:I=O:=V.int.inj (ww c3)
       lia
      ·exact xi (nt (λ_=>by grind) (λe=>by lia))
    ·have z0:¬I=0:=λe=>c1 (wm (by rw[e]))
     refine xi ⟨_,rL,_,rL,rL,_,rL,vu (λc3=>?_) (λc3=>?_)⟩
     ·refine⟨00,rq,032,.of f5,at0 ..,022,00,vu (λc4=>?_) (λc4=>?_)⟩
      ·have l0:0<qv:=zcP.mp (ww c4)
       refine⟨01,⇑5,λe1 j9=>?_⟩
       have V1:=zq.upd (o:=.tup [.int (-1),.int 1]) j9
       have q1:zu (upd K2 e1 (.tup [.int (-1),.int 1])) e1 (-1):=zj
       refine⟨rq,e1,qv,-1,rL,f5.same V1,q1,⟨f7.md,zbs⟩,λr2 K3 V2 q2=>?_⟩
       exact W _ _ ⟨r2,-qv,rfl,V1.trans V2,by rw[show -qv=qv*(-1) by grind];exact q2,k2.neg,Sz.neg' f7,(λe=>absurd e z0),(λ_=>by grind)⟩
      ·have l0:¬ 0<qv:=λz=>c4 (wm (zcP.mpr z))
       exact nt (λe=>absurd e z0) (λ_=>by grind)
     ·have w0:¬I=O:=λe=>c3 (wm (by rw[e]))
      exact xi (nt (λe=>absurd e z0) (λe=>absurd e w0))
   rintro r5 K3 U;rcases q:U with⟨r2,v2,rfl,S3,h2,o8,z2,m2,o9⟩
   have l4:xA b0 K3:=λa xs h=>S3 _ _ (u2.tup u1.pool (TK.tup d6.pool h))
   have l3:zu K3 rl (zB g j d):=l4 _ _ f8
   have k3:zu K3 rs (zN g c):=l4 _ _ f6
   have UU:xw p G K3:=(u1.trans u2).same S3
   have o5:qt K3 ws cs:=hR.keeps (λa xs h=>UU.tup TG.pool h)
   have o1:K3 F=some (.lst ws):=UU.keep _ _ hG l8
   have k8:0<=I/\I<=O:=by lia
   rcases s:(λσ' G'=>∃rb,σ'=[Sr p,Si m,some (.int (1+d1)),Si g,Sr rl,Sr rs,Si O,Sr S,some (.int (1+e8)),Sr a9,Sr F,some (.int (0+(i:Int))),Si I,Sr ro,Sr r2,Sr rb]/\zq K3 G'/\XE G' (.ref rb) ⟨zB g j d+zN g c*(I:Rat),v2,1+e8⟩)
   ·intro g7 W
    refine⟨02,⇑5,λi1 g3=>?_⟩
    have V1:=zq.upd (o:=.tup [.int I,.int 1]) g3
    have q1:zu (upd K3 i1 (.tup [.int I,.int 1])) i1 (I:Rat):=f9 zj
    generalize upd K3 i1 (.tup [.int I,.int 1])=K4 at V1 q1
    refine⟨rs,i1,021,k3.same V1,q1,⟨e3.md,(c7 ∅ ∅).md⟩,λpr K5 V2 q2=>?_⟩
    refine⟨rl,pr,021,l3.same (V1.trans V2),q2,⟨e7.md,(e3.mul (c7 ∅ ∅)).md⟩,λsm K6 V3 q3=>?_⟩
    refine⟨01,zL3,λrb o4=>?_⟩
    have V4:=zq.upd (o:=.tup [.ref sm,.ref r2,.int (1+e8)]) o4
    exact W _ _ ⟨rb,rL,V1.trans (V2.trans (V3.trans V4)),rb,sm,r2,rL,zj,q3.same V4,h2.same (V1.trans (V2.trans (V3.trans V4)))⟩
   rintro r7 K4 ⟨rb,rfl,S4,j1⟩
   have g4:=S4 _ _ o1
   have k0:=o5.keeps (.of S4)
   have j0:xw p b0 K4:=(TG.trans UU).same S4
   have j8:PyData.canLayAll0 (cs.map blD)=true:=(zdC (n:=2) λdd md=>by obtain⟨b,_,rfl⟩:=wj.mp md;exact zbW b).1
   have wl:=hR.1
   have gb:GrB g j d c O jp dp (1+e8) ⟨zB g j d+zN g c*(I:Rat),v2,1+e8⟩:=⟨rfl,I,k8.1,k8.2,rfl,o8,m2,o9⟩
   have zb:zee ⟨zB g j d+zN g c*(I:Rat),v2,1+e8⟩:=⟨(e7.add (e3.mul (c7 ∅ ∅))).md,z2.md⟩
   exists 01,blD _,cs.map blD,2,XE.rdD j1,.lst g4 (zc2 k0),j8,(zbW _).1,(zbW _).2,by decide,00
   cases hb:(!(cs.map blD).any λe=>PyData.eqv e (blD ⟨zB g j d+zN g c*(I:Rat),v2,1+e8⟩))with
   |true =>
    refine xM ⟨_,rL,.inl ⟨rL,_,SqL.of g4⟩,_,rL,F,ws,_,rL,rL,g4,szl ∅,?_⟩
    refine hN _ _ ⟨_,_,_,_,_,_,cs++[⟨zB g j d+zN g c*(I:Rat),v2,1+e8⟩],rL,?_,zj,(k0.snoc j1).keeps (xA.upd g4),?_,λ_=>?_,λb mb=>?_⟩
    ·refine⟨?_,λb o e ne=>?_⟩
     ·obtain⟨x,y,z,e⟩:=j0.pool
      exact⟨x,y,z,by rw[zV (Ne.symm l8)];exact e⟩
     ·rw[zV (zZ e i5)];exact j0.keep _ _ e ne
    ·rw[wX,uf];lia
    ·rw[wX,uf];lia
    ·rcases ya.mp mb with mb | mb
     ·exact d7 b mb
     ·rw[w5.mp mb];exact⟨gb,zb⟩
   |false =>
    refine xi (hN _ _ ⟨_,_,_,_,_,ws,cs,rfl,j0,g4,k0,by lia,λ_=>?_,d7⟩)
    rcases yW cs.length with c0 | c0
    ·rw[uu.mp c0]at hb;cases hb
    ·exact c0
  ·rintro σ' G U;rcases q:U with⟨d4,d3,d8,c9,c6,ws,cs,rfl,TG,hG,hR,l6,j2,d7⟩
   exact b9 _ _ ⟨d4,d3,d8,c9,c6,ws,cs,rfl,TG,hG,hR,by lia,j2 ∅,d7⟩
 rintro p4 p5 U;rcases q:U with⟨d4,d3,d8,c9,c6,ws,cs,rfl,TG,hG,hR,l6,j2,d7⟩
 refine⟨00,F,ws,cs,rfl,hG,hR,by lia,λb mb=>(d7 b mb).2,λr k1 j5 K4 U4 i9 j7 pm=>?_⟩
 refine⟨00,⇑5,λt ht=>?_⟩
 have U5:=zq.upd (o:=.tup [.ref r,.ref a9]) ht
 have tu:xA b0 (upd K4 t (.tup [.ref r,.ref a9])):=λa xs h=>U5 _ _ (U4 _ _ (TG.tup d6.pool h))
 rcases q:c8 with⟨v1,v2,hw,h1,h2⟩
 have pl:=pm.length_eq
 exact k t r a9 k1 j5 g j d c O jp dp _ n ((d6.trans TG).same (U4.trans U5)) zj (U5 _ _ i9) (j7.keeps (.of U5)) ∅ ∅ ∅ EG (.inr ⟨1+e8,λb mb=>(d7 b (pm.subset mb)).1⟩) ⟨v1,v2,tu _ _ hw,h1.tupsW tu,h2.tupsW tu⟩
theorem Zn {A B:Int}{n m:Nat}(O:0<B) (G:Bd n A) (F:Bd m B) (I:m<=n):Bd n (Rat.divInt A B).num/\Bd m ((Rat.divInt A B).den:Int):=by
 refine⟨(Sz.divInt ∅ G (F.mono I)).1,F.of_le ?_⟩
 have:=QK (t:=A) (b:=B) ∅
 lia
theorem zf9 {g j d c t:Int}(hd:0<d) (G:0<c):zB g j d+zN g c*(t:Rat)=Rat.divInt (g*(j*c+t*d)) (d*c):=by
 unfold zB zN
 rw[xY,xY,xY,wf,wf,wf,wQ,wf,wf]
 have I:=zQ (show d≠0 by lia)
 have F:=zQ (show c≠0 by lia)
 generalize (g:Rat)=g' at *
 generalize (j:Rat)=j' at *
 generalize (d:Rat)=d' at *
 generalize (c:Rat)=c' at *
 generalize (t:Rat)=t' at *
 grind
theorem zeA {g j d c w e n:Int}(hd:0<d) (U:0<c) (S:0<n):zB g j d+qg (zN g c*(w:Rat)) e n=Rat.divInt (g*(j*(c*(4*n))+w*e*d)) (d*(c*(4*n))):=by
 have G:0<4*n:=by lia
 unfold zB zN qg
 generalize 4*n=N at *
 have I:=zQ (show d≠0 by lia)
 have F:=zQ (show c≠0 by lia)
 have O:=zQ (show N≠0 by lia)
 simp only[xY,wf,wQ]
 generalize (g:Rat)=g' at *
 generalize (j:Rat)=j' at *
 generalize (d:Rat)=d' at *
 generalize (c:Rat)=c' at *
 generalize (w:Rat)=w' at *
 generalize (e:Rat)=e' at *
 generalize (N:Rat)=n' at *
 grind
theorem zaP {W:Rat}{e n:Int}(O:0<n):W*2-qg W e n=qg W (8*n-e) n:=by
 unfold qg
 rw[xY,xY,yp,wf,wf]
 have I:=zQ (show n≠0 by omega)
 have G:((4:Int):Rat)=4:=rfl
 have F:((8:Int):Rat)=8:=rfl
 rw[G,F]
 generalize (n:Rat)=n' at *
 generalize (e:Rat)=e' at *
 grind
theorem zez {g k e:Int}(I:0<g) (G:0<k) (F:0<e):0<zB g k e:=(qh F).mpr (wP G I)
theorem J8 {g k e f:Int}(G:0<e) (h:e*f=6):zB g k e=((k*f:Int):Rat)*Rat.divInt g 6:=by
 unfold zB
 rw[xY,xY,wf,wf]
 have h':(e:Rat)*(f:Rat)=((6:Int):Rat):=by rw[<-wf,h]
 have I:=zQ (show e≠0 by lia)
 rw[<-h']
 have F:=zQ (show f≠0 by intro z;rw[z]at h;lia)
 generalize (g:Rat)=g' at *
 generalize (k:Rat)=k' at *
 generalize (e:Rat)=e' at *
 generalize (f:Rat)=f' at *
 grind
structure BlF (lo hi:Rat) (u:Rat) (b:Bl):Prop where
 p:Bd 100 b.pl.num/\Bd 12 (b.pl.den:Int)
 s:Bd 80 b.sp.num/\Bd 13 (b.sp.den:Int)
 i:lo<=b.pl/\b.pl<=hi
 o:b.sp<0->lo<b.pl
 k:b.sp≠0->∃k:Nat,1<=k/\k<=36/\(b.sp=((k:Int):Rat)*u\/b.sp=-(((k:Int):Rat)*u))
section
variable {g j d c w jp dp:Int}
theorem EvG.pos (h:EvG g j d c w jp dp):0<g/\0<d/\0<c/\0<dp:=⟨by have:=h.g1;lia,by have:=h.d;lia,by have:=h.c;lia,by have:=h.dp;lia⟩
theorem zj7 {k e:Int}(W:0<g) (U : -6<=k/\k<=6) (G:e=1\/e=2\/(e=3 ∧ -5<=k/\k<=5)) (S:zB g k e≠0):∃n:Nat,1<=n/\n<=36/\(zB g k e=((n:Int):Rat)*Rat.divInt g 6\/zB g k e=-(((n:Int):Rat)*Rat.divInt g 6)):=by
 obtain⟨f,F,O,I⟩:∃f:Int,0<e/\e*f=6/\(f=6\/f=3\/f=2):=by
  rcases G with rfl | rfl | ⟨rfl,_⟩
  ·exact⟨6,by decide,by decide,.inl rfl⟩
  ·exact⟨3,by decide,by decide,.inr (.inl rfl)⟩
  ·exact⟨2,by decide,by decide,.inr (.inr rfl)⟩
 have e1:=J8 (g:=g) (k:=k) F O
 have k0:k≠0:=λz=>S (by rw[e1,z,Int.zero_mul];show (0:Rat)*_=0;rw[yT])
 have V : -36<=k*f/\k*f<=36/\k*f≠0:=by
  rcases I with rfl | rfl | rfl <;> lia
 exists(k*f).natAbs,by lia,by lia
 rcases yA 0 (k*f)with z | z
 ·exact .inl (by rw[e1,show (((k*f).natAbs:Nat):Int)=k*f by lia])
 ·refine .inr ?_
  rw[e1,show (((k*f).natAbs:Nat):Int)=-(k*f) by lia,yq]
  grind
theorem zf7 {k e:Int}(F:1<=g) (G:g<=1000000000000000000000) (S : -6<=k/\k<=6) (O:1<=e/\e<=3):Bd 80 (zB g k e).num/\Bd 13 ((zB g k e).den:Int):=by
 have I:=gBd F G
 exact Zn ∅ (((show Bd 4 k from(show k.natAbs<2^4 by lia)).mul I).md) (show e.natAbs<2^13 by lia) ⇑1
theorem GrS.fit (h:EvG g j d c w jp dp){v:Rat}(O:GrS g jp dp v):(Bd 80 v.num/\Bd 13 (v.den:Int))/\(v≠0->∃k:Nat,1<=k/\k<=36/\(v=((k:Int):Rat)*Rat.divInt g 6\/v=-(((k:Int):Rat)*Rat.divInt g 6))):=by
 have F:=h.pos
 have I:=h.jp
 have G:=h.dp
 rcases O with rfl | rfl | rfl | ⟨k,e,k1,k2,S,rfl⟩
 ·exact⟨zf7 h.g1 h.g2 ∅ ∅,λz=>zj7 F.1 ∅ ∅ z⟩
 ·rw[zaO]
  exact⟨zf7 h.g1 h.g2 ∅ ∅,λz=>zj7 F.1 ∅ ∅ z⟩
 ·exact⟨⟨by show Bd 80 0;exact(show (0:Int).natAbs<2^80 by decide),by show Bd 13 1;exact(show (1:Int).natAbs<2^13 by decide)⟩,λz=>absurd rfl z⟩
 ·exact⟨zf7 h.g1 h.g2 ⟨k1,k2⟩ ∅,λz=>zj7 F.1 ⟨k1,k2⟩ ∅ z⟩
theorem GrB.fit (h:EvG g j d c w jp dp){U:Int}{b:Bl}(Y:GrB g j d c w jp dp U b):BlF (zB g j d) (zB g j d+zN g c*(w:Rat)) (Rat.divInt g 6) b:=by
 obtain⟨_,t,W,tw,e1,hs,h1,h2⟩:=Y
 have F:=h.pos
 have hj:=h.j
 have hd:=h.d
 have S:=h.c
 have hw:=h.w
 have bg:=gBd h.g1 h.g2
 have G:0<zN g c:=(qh F.2.2.1).mpr F.1
 have f:=GrS.fit h hs
 have O:(0:Rat)<=(t:Rat):=uW.mpr W
 have I:(t:Rat)<=(w:Rat):=wI.mpr tw
 have m1:=u6 (yc G) O
 have m2:=yK I (yc G)
 refine⟨?_,f.1,by rw[e1];constructor <;> grind,λhn=>?_,f.2⟩
 ·rw[e1,zf9 F.2.1 F.2.2.1]
  refine Zn (wP F.2.1 F.2.2.1) ((bg.mul (show Bd 10 (j*c+t*d)from ?_)).md) ?_ ⇑1
  ·show (j*c+t*d).natAbs<2^10
   rcases S with rfl | rfl | rfl <;> rcases hd with rfl | rfl <;> lia
  ·show (d*c).natAbs<2^12
   rcases S with rfl | rfl | rfl <;> rcases hd with rfl | rfl <;> decide
 ·have V:0<t:=by
   rcases yA 0 t with z | z
   ·exact z
   ·have:=h1 ∅;grind
  have:=yg G (wv.mpr V)
  rw[e1];grind
theorem zeD {W:Rat}{e n:Int}(F:0<W) (G:0<n) (h:0<=e):0<=qg W e n:=u6 (yc F) (Xl ∅ h)
theorem zgK {W:Rat}{e n:Int}(F:0<W) (G:0<n) (h:0<e):0<qg W e n:=yg F ((qh ∅).mpr h)
theorem zeB {W:Rat}{e n:Int}(F:0<W) (G:0<n) (h:e<=4*n):qg W e n<=W:=by
 rcases yA e (4*n)with z | z
 ·exact yc ((zeC F G).mpr z)
 ·have e1:e=4*n:=by lia
  have e2:Rat.divInt (4*n) (4*n)=1:=by
   rw[xY]
   have:=zQ (show 4*n≠0 by lia)
   generalize ((4*n:Int):Rat)=a at *
   grind
  unfold qg
  rw[e1,e2]
  grind
theorem EvG.W0 (h:EvG g j d c w jp dp):0<zN g c*(w:Rat):=by
 have F:=h.pos
 have:=h.w
 exact yg ((qh F.2.2.1).mpr F.1) (wv.mpr ∅)
theorem SpB.fit (h:EvG g j d c w jp dp){n:Nat}(n1:1<=n) (n5:n<=5){b:Bl}(V:SpB (zB g j d) (zN g c*(w:Rat)) (zB g jp dp) n b):BlF (zB g j d) (zB g j d+zN g c*(w:Rat)) (Rat.divInt g 6) b:=by
 have I:=h.pos
 have hj:=h.j
 have hd:=h.d
 have O:=h.c
 have hw:=h.w
 have a1:=h.jp
 have bg:=gBd h.g1 h.g2
 have W0:=h.W0
 have v0:0<zB g jp dp:=zez I.1 (by omega) I.2.2.2
 obtain⟨_,e,e0,e8,U⟩:=V
 obtain⟨G,h0,h4,e1,hs,W⟩:∃G:Int,0<=G/\G<=4*(n:Int)/\b.pl=zB g j d+qg (zN g c*(w:Rat)) G n/\GrS g jp dp b.sp/\(b.sp<0->0<G):=by
  rcases U with⟨k1,k2,k3⟩ | ⟨k1,k2,k3⟩
  ·exact⟨e,e0,by omega,k2,.inl k3,λz=>by rw[k3]at z;grind⟩
  ·exact⟨8*n-e,by omega,by omega,by rw[k2,zaP (by omega)],.inr (.inl k3),λ_=>by omega⟩
 have f:=GrS.fit h hs
 have nn:=zeD (n:=(n:Int)) W0 (by omega) h0
 have le:=zeB (n:=(n:Int)) W0 (by omega) h4
 refine⟨?_,f.1,by rw[e1];constructor <;> grind,λY=>?_,f.2⟩
 ·rw[e1,zeA I.2.1 I.2.2.1 (by omega)]
  have cn:Bd 6 (c*(4*(n:Int))):=by show (c*(4*(n:Int))).natAbs<2^6;rcases O with rfl | rfl | rfl <;> omega
  have bd:Bd 2 d:=(show d.natAbs<2^2 by omega)
  have bw:Bd 10 (w*G):=(show Bd 4 w from(show w.natAbs<2^4 by omega)).mul (show Bd 6 G from(show G.natAbs<2^6 by omega))
  exact Zn (wP I.2.1 (wP I.2.2.1 (by omega))) ((bg.mul (((show Bd 3 j from(show j.natAbs<2^3 by omega)).mul cn).add (bw.mul bd))).md) ((bd.mul cn).mono ⇑1) ⇑1
 ·have:=zgK (n:=(n:Int)) W0 (by omega) (W Y)
  rw[e1];grind
theorem EvB.fit (h:EvG g j d c w jp dp){n:Nat}(O:1<=n) (I:n<=5){bs:List Bl}(F:EvB g j d c w jp dp n bs):(∀b∈bs,BlF (zB g j d) (zB g j d+zN g c*(w:Rat)) (Rat.divInt g 6) b)/\∃G,∀b∈bs,b.wt=G:=by
 rcases F with F | ⟨G,F⟩
 ·exact⟨λb m=>SpB.fit h O I (F b m),7,λb m=>(F b m).1⟩
 ·exact⟨λb m=>GrB.fit h (F b m),G,λb m=>(F b m).1⟩
theorem zkw {lo:Rat}{k:Int}(V:0<g) (W:0<c) (O:0<k):2*(lo+zN g c*(w:Rat)-lo)/((k:Rat)*Rat.divInt g 6)=Rat.divInt (12*w) (c*k):=by
 unfold zN
 have S:=zQ (show g≠0 by lia)
 have I:=zQ (show c≠0 by lia)
 have U:=zQ (show k≠0 by lia)
 simp only[xY,wf]
 have G:((6:Int):Rat)=6:=rfl
 have F:((12:Int):Rat)=12:=rfl
 rw[G,F]
 generalize (g:Rat)=g' at *
 generalize (c:Rat)=c' at *
 generalize (w:Rat)=w' at *
 generalize (k:Rat)=k' at *
 grind
theorem ziN {u v:Rat}{k F:Nat}(I:0<u) (k1:1<=F) (h:v=((k:Int):Rat)*u\/v=-(((k:Int):Rat)*u)) (h':v=((F:Int):Rat)*u\/v=-(((F:Int):Rat)*u)):k=F:=by
 have O:(0:Rat)<=((k:Int):Rat):=uW.mpr ∅
 have G:(0:Rat)<((F:Int):Rat):=wv.mpr ∅
 have S:=u6 O (yc I)
 have U:=yg G I
 have e:((k:Int):Rat)*u=((F:Int):Rat)*u:=by
  rcases h with h | h <;> rcases h' with h' | h'
  ·rw[<-h,<-h']
  ·exfalso;rw[h]at h';grind
  ·exfalso;rw[h]at h';grind
  ·rw[h]at h';grind
 have e2:((k:Int):Rat)=((F:Int):Rat):=by
  have un:u≠0:=by grind
  clear S U O G h h'
  generalize ((k:Int):Rat)=a at *
  generalize ((F:Int):Rat)=b at *
  grind
 have:=yS.mp e2
 lia
theorem ziH (h:EvG g j d c w jp dp){bs:List Bl}(l1:1<=bs.length) (l5:bs.length<=5) (I:∀b∈bs,BlF (zB g j d) (zB g j d+zN g c*(w:Rat)) (Rat.divInt g 6) b){wt:Int}(O:∀b∈bs,b.wt=wt) :
  RwZ bs (zB g j d,0) (zB g j d+zN g c*(w:Rat),0)/\RwU bs (zB g j d,0) (zB g j d+zN g c*(w:Rat),0) (Rat.divInt g 6) 36 ∧
  ∃G,bs[0]?=some G/\plB (tb G) (bs.map tb) (some (zB g j d,0)) (some (zB g j d+zN g c*(w:Rat),0))=true:=by
 have F:=h.pos
 have hj:=h.j
 have hd:=h.d
 have Y:=h.c
 have hw:=h.w
 have bg:=gBd h.g1 h.g2
 have W0:=h.W0
 have G:Bd 80 (0:Rat).num/\Bd 13 ((0:Rat).den:Int):=⟨by show Bd 80 0;exact(show (0:Int).natAbs<2^80 by decide),by show Bd 13 1;exact(show (1:Int).natAbs<2^13 by decide)⟩
 have V:Bd 100 (zB g j d).num/\Bd 12 ((zB g j d).den:Int):=Zn F.2.1 (((show Bd 4 j from(show j.natAbs<2^4 by lia)).mul bg).md) (show d.natAbs<2^12 by lia) ⇑1
 have W:Bd 100 (zB g j d+zN g c*(w:Rat)).num/\Bd 12 ((zB g j d+zN g c*(w:Rat)).den:Int):=by
  rw[zf9 F.2.1 F.2.2.1]
  refine Zn (wP F.2.1 F.2.2.1) ((bg.mul (show Bd 10 (j*c+w*d)from ?_)).md) ?_ ⇑1
  ·show (j*c+w*d).natAbs<2^10
   rcases Y with rfl | rfl | rfl <;> rcases hd with rfl | rfl <;> lia
  ·show (d*c).natAbs<2^12
   rcases Y with rfl | rfl | rfl <;> rcases hd with rfl | rfl <;> decide
 have mem:∀t∈ths bs (some (zB g j d,0)) (some (zB g j d+zN g c*(w:Rat),0)),(∃b∈bs,t=(b.pl,b.sp))\/t=(zB g j d,0)\/t=(zB g j d+zN g c*(w:Rat),0):=λt m=>by
  unfold ths at m
  rcases ya.mp m with m | m
  ·obtain⟨b,S,rfl⟩:=wj.mp m;exact .inl ⟨b,S,rfl⟩
  ·simp only[QR,ya,w5]at m
   rcases m with m | m
   ·exact .inr (.inl m)
   ·exact .inr (.inr m)
 exists⟨λt m=>?_,λt m=>?_,by lia,by show zB g j d<zB g j d+zN g c*(w:Rat);grind,λb m=>(I b m).i,λb m=>(I b m).o⟩,⟨(qh ⇑1).mpr F.1,by decide,λb m=>(I b m).k,?_,λb m G k hk=>?_⟩
 ·rcases mem t m with⟨b,S,rfl⟩ | rfl | rfl
  ·exact(I b S).p
  ·exact V
  ·exact W
 ·rcases mem t m with⟨b,S,rfl⟩ | rfl | rfl
  ·exact(I b S).s
  ·exact G
  ·exact G
 ·have e:=zkw (lo:=zB g j d) (w:=w) (k:=1) F.1 F.2.2.1 ⇑1
  have e1:((1:Int):Rat)=1:=rfl
  rw[e1,WV]at e
  show Bd 20 (2*(zB g j d+zN g c*(w:Rat)-zB g j d)/Rat.divInt g 6).num
  rw[e]
  exact(Zn (n:=20) (m:=20) ∅ (show (12*w).natAbs<2^20 by lia) (show (c*1).natAbs<2^20 by lia) ⇑1).1
 ·obtain⟨k',k1,a1,U⟩:=(I b m).k G
  have u0:0<Rat.divInt g 6:=(qh ⇑1).mpr F.1
  have ek:=ziN u0 k1 hk U
  subst ek
  show Bd 20 ((2*(zB g j d+zN g c*(w:Rat)-zB g j d)/(((k:Int):Rat)*Rat.divInt g 6)).den:Int)
  rw[zkw F.1 F.2.2.1 ∅]
  have bc:Bd 20 (c*(k:Int)):=((show Bd 4 c from(show c.natAbs<2^4 by lia)).mul (show Bd 6 (k:Int)from(show (k:Int).natAbs<2^6 by lia))).md
  exact(Zn (n:=20) (m:=20) (wP F.2.2.1 ∅) (show (12*w).natAbs<2^20 by lia) bc ⇑1).2
 ·match bs,l1 with
  |b::r,_ =>
   exists b,rfl
   unfold plB evB
   rw[W7,YQ]
   refine⟨λt mt=>?_,?_⟩
   ·obtain⟨x,mx,rfl⟩:=wj.mp mt
    show decide (x.wt=b.wt)=true
    rw[O x mx,O b wF];exact wm rfl
   ·show (decide ((0:Rat)=0)&&decide ((0:Rat)=0))=true
    rw[wm rfl];rfl
end
end KK
namespace KM
def zU {s:Rat}(h:0<s):0<s.num:=by have:=(vv 0 s).mpr h;simpa using this
def zdP {k:Int}{s r F:Rat}(G:0<=r) (h1:r<s) (h2:0<=F) (I:F<s) (e:r=F+(k:Rat)*s):r=F:=by
 have hs:0<s:=by grind
 have:k=0:=by
  rcases Int.lt_trichotomy k 0 with h | h | h
  ·have:(k:Rat)<=((-1:Int):Rat):=wI.mpr ∅
   have:=wC this (yc hs)
   grind
  ·exact h
  ·have:((1:Int):Rat)<=k:=wI.mpr ∅
   have:=wC this (yc hs)
   grind
 subst this
 grind
def QV {x s r:Rat}{k:Int}(F:0<=r) (h1:r<s) (e:x=r+(k:Rat)*s):rst x s=r:=by
 have hs:0<s:=by grind
 have n:=zU hs
 have m:=zbh (x:=x) (s:=s) n
 generalize hk:(x.num*(s.den:Int))/(s.num*(x.den:Int))=j at m
 refine zdP (k:=k-j) (ve n) (qM n) F h1 ?_
 rw[yp]
 grind
def vd {x s:Rat}(hs:0<s):∃k:Int,x=rst x s+(k:Rat)*s:=by
 have m:=zbh (x:=x) (s:=s) (zU hs)
 exact⟨_,by rw[<-m];grind⟩
def xL (lo hi z:Rat):Rat:=if hi-lo<rst (z-lo) (hi-lo+(hi-lo))then lo+(hi-lo+(hi-lo)-rst (z-lo) (hi-lo+(hi-lo)))else lo+rst (z-lo) (hi-lo+(hi-lo))
section
variable {lo hi z:Rat}
theorem zgL (h:lo<hi):lo<=xL lo hi z/\xL lo hi z<=hi:=by
 have F:0<hi-lo+(hi-lo):=by grind
 have a:=ve (x:=z-lo) (zU F)
 have b:=qM (x:=z-lo) (zU F)
 unfold xL
 generalize rst (z-lo) (hi-lo+(hi-lo))=r at a b ⊢
 split <;> grind
theorem vj {r:Rat}{k:Int}(h:lo<hi) (F:0<=r) (h1:r<hi-lo+(hi-lo)) (e:z-lo=r+(k:Rat)*(hi-lo+(hi-lo))):xL lo hi z=if hi-lo<r then lo+(hi-lo+(hi-lo)-r)else lo+r:=by
 unfold xL
 rw[QV F h1 e]
theorem vH (h:lo<hi) (k:Int):xL lo hi (z+(k:Rat)*(hi-lo+(hi-lo)))=xL lo hi z:=by
 have F:0<hi-lo+(hi-lo):=by grind
 obtain⟨j,G⟩:=vd (x:=z-lo) F
 have a:=ve (x:=z-lo) (zU F)
 have b:=qM (x:=z-lo) (zU F)
 rw[vj h a b G,vj (k:=j+k) h a b (by rw[wQ];grind)]
theorem zeI (h:lo<hi) (F:lo<=z) (h1:z<=hi):xL lo hi z=z:=by
 rw[vj (r:=z-lo) (k:=0) h (by grind) (by grind) (by grind),if_neg (by grind)]
 grind
theorem zeJ (h:lo<hi) (F:hi<=z) (h1:z<=hi+(hi-lo)):xL lo hi z=2*hi-z:=by
 by_cases e:z=hi+(hi-lo)
 ·rw[vj (r:=0) (k:=1) h (by grind) (by grind) (by grind),if_neg (by grind)]
  grind
 ·rw[vj (r:=z-lo) (k:=0) h (by grind) (by grind) (by grind)]
  by_cases e2:z=hi
  ·rw[if_neg (by grind)];grind
  ·rw[if_pos (by grind)];grind
end
section
variable {α β:Type} [Add α] [Sub α] [LE α] [DecidableLE α] [Add β] [Sub β] [LE β] [DecidableLE β] {φ:α->β}
structure Emb (φ:α->β):Prop where
 le:∀a b,φ a<=φ b↔a<=b
 ad:∀a b,φ (a+b)=φ a+φ b
 su:∀a b,φ (a-b)=φ a-φ b
end
def Qq {D:Int}(h:0<D):Emb (λi:Int=>Rat.divInt i D):=by
 have F:∀a b:Int,Rat.divInt (a-b) D=Rat.divInt a D-Rat.divInt b D:=λa b=>(VM ∅).symm
 refine⟨λa b=>?_,λa b=>?_,F⟩
 ·have:=xK (a:=b) (b:=a) h
  show Rat.divInt a D<=Rat.divInt b D↔a<=b
  constructor
  ·intro q
   rcases yA b a with e | e
   ·have:=this.mpr e;grind
   ·exact e
  ·intro q
   by_cases e:Rat.divInt b D<Rat.divInt a D
   ·have:=this.mp e;lia
   ·grind
 ·show Rat.divInt (a+b) D=Rat.divInt a D+Rat.divInt b D
  have:=F (a+b) b
  rw[show a+b-b=a by lia]at this
  grind
def zcz {D:Int}(k a:Int):Rat.divInt (k*a) D=(k:Rat)*Rat.divInt a D:=by
 rw[<-zff,yG,uY]
end KM
namespace KK
open PySem L2 KM
def zdF (l h s v:Int):(vE (some l) (some h) s v).1=if h<l+(s-l) % (2*(h-l))then 2*h-(l+(s-l) % (2*(h-l)))else l+(s-l) % (2*(h-l)):=by
 have G:∀(w:Option Int) (p:Int×Int),(f4 w p).1=p.1:=λw p=>by
  cases w with
  |none=>rfl
  |some w=>show (if p.1=w then(p.1,-zY p.2)else p).1=p.1;split <;> rfl
 have F:∀(w:Option Int) (p:Int×Int),(f3 w p).1=p.1:=λw p=>by
  cases w with
  |none=>rfl
  |some w=>show (if p.1=w then(p.1,zY p.2)else p).1=p.1;split <;> rfl
 unfold vE
 rw[G,F]
 unfold f1 f2
 nofun
 split <;> rfl
def zdH {l h s v D:Int}(V:0<D) (hl:l<h):Rat.divInt (vE (some l) (some h) s v).1 D=xL (Rat.divInt l D) (Rat.divInt h D) (Rat.divInt s D):=by
 have E:=Qq V
 have lt:∀a b:Int,Rat.divInt a D<Rat.divInt b D↔a<b:=λa b=>xK V
 have W:=yD (s-l) (b:=2*(h-l)) ∅
 have U:=yE (s-l) (b:=2*(h-l)) ∅
 have I:=uU (s-l) (2*(h-l))
 rw[zdF]
 generalize (s-l) % (2*(h-l))=r at W U I ⊢
 generalize (s-l)/(2*(h-l))=k at I
 have Y:Rat.divInt 0 D=0:=qJ D
 have G:Rat.divInt h D-Rat.divInt l D=Rat.divInt (h-l) D:=(E.su h l).symm
 have h2:Rat.divInt h D-Rat.divInt l D+(Rat.divInt h D-Rat.divInt l D)=Rat.divInt (2*(h-l)) D:=by
  rw[G,show 2*(h-l)=(h-l)+(h-l) by lia];exact(E.ad _ _).symm
 have ez:Rat.divInt s D-Rat.divInt l D=Rat.divInt r D+(k:Rat)*(Rat.divInt h D-Rat.divInt l D+(Rat.divInt h D-Rat.divInt l D)):=by
  rw[h2,<-zcz]
  have F:=E.su s l
  have O:=E.ad r (k*(2*(h-l)))
  rw[<-F,<-O,<-I,yX k]
 rw[vj (r:=Rat.divInt r D) (k:=k) ((lt _ _).mpr hl) (by rw[<-Y];exact(E.le _ _).mpr W) (by rw[h2];exact(lt _ _).mpr U) ez]
 have F:=E.ad l r
 have O:=E.su (2*h) (l+r)
 have a3:Rat.divInt (2*h) D=Rat.divInt h D+Rat.divInt h D:=by rw[show 2*h=h+h by lia];exact E.ad h h
 have S:=lt (h-l) r
 rw[G]
 by_cases c:h<l+r
 ·rw[if_pos c,if_pos (S.mpr ∅),O,F,a3,<-G];grind
 ·rw[if_neg c,if_neg λq=>c (by have:=S.mp q;lia),F]
def zbH {x:Rat}{b:Int}(F:0<b) (h:(x.den:Int) ∣ b):Rat.divInt (byB x b) b=x:=by
 obtain⟨k,e⟩:=h
 have G:=den_pos x
 have f:b.fdiv (x.den:Int)=k:=by rw[wD _ ∅,e];exact yf _ ∅
 have k0:k≠0:=λz=>by rw[z,Int.mul_zero]at e;lia
 unfold byB
 rw[f]
 conv=>lhs;rw[e]
 rw[u7 k0,wY]
section
variable {bs:List Bl}{lo hi x:Rat}
theorem LnZ.dv {lo hi:Wl}(h:LnZ bs lo hi) (S:bs.length<=8):(0<pbO bs lo hi/\∀t∈ths bs lo hi,(t.1.den:Int) ∣ pbO bs lo hi)/\(0<sbO bs lo hi/\∀t∈ths bs lo hi,(t.2.den:Int) ∣ sbO bs lo hi):=by
 have G:=Za (lo:=lo) (hi:=hi) S
 obtain⟨I,W,U⟩:=zgW (qs:=(ths bs lo hi).map (·.1)) (λq m=>by obtain⟨t,F,rfl⟩:=wj.mp m;exact(h.sz t F).1.2) (by rw[wc];exact G)
 obtain⟨O,Y,V⟩:=zgW (qs:=(ths bs lo hi).map (·.2)) (λq m=>by obtain⟨t,F,rfl⟩:=wj.mp m;exact(h.sz t F).2.2) (by rw[wc];exact G)
 exact⟨⟨I,λt m=>U _ (wj.mpr ⟨t,m,rL⟩)⟩,⟨O,λt m=>V _ (wj.mpr ⟨t,m,rL⟩)⟩⟩
end
end KK
namespace KM
section
variable {lo hi y z z':Rat}
theorem VO (h:lo<hi) (F:lo<=y) (h1:y<=hi) (k:Int):xL lo hi (2*lo-y+(k:Rat)*(hi-lo+(hi-lo)))=y:=by
 have e:2*lo-y+(k:Rat)*(hi-lo+(hi-lo))=(2*lo-y+(hi-lo+(hi-lo)))+((k-1:Int):Rat)*(hi-lo+(hi-lo)):=by rw[yp];grind
 rw[e,vH h,zeJ h (by grind) (by grind)]
 grind
theorem zaa (h:lo<hi) (F:lo<=y) (h1:y<=hi) (k:Int):xL lo hi (y+(k:Rat)*(hi-lo+(hi-lo)))=y:=by
 rw[vH h,zeI h F h1]
theorem zgM (h:lo<hi) (I:lo<=y) (h1:y<=hi) (c:xL lo hi z<y):∃k:Int,2*lo-y+(k:Rat)*(hi-lo+(hi-lo))<z/\z<y+(k:Rat)*(hi-lo+(hi-lo)):=by
 have F:0<hi-lo+(hi-lo):=by grind
 obtain⟨k,G⟩:=vd (x:=z-lo) F
 have a:=ve (x:=z-lo) (zU F)
 have b:=qM (x:=z-lo) (zU F)
 rw[vj h a b G]at c
 generalize rst (z-lo) (hi-lo+(hi-lo))=r at *
 by_cases q:hi-lo<r
 ·rw[if_pos q]at c
  refine⟨k+1,?_,?_⟩ <;> rw[wQ] <;> grind
 ·rw[if_neg q]at c
  exact⟨k,by grind,by grind⟩
theorem zeK (h:lo<hi) (F:lo<=y) (h1:y<=hi){k:Int}(I:2*lo-y+(k:Rat)*(hi-lo+(hi-lo))<z) (G:z<y+(k:Rat)*(hi-lo+(hi-lo))):xL lo hi z<y:=by
 have e:z=(z-(k:Rat)*(hi-lo+(hi-lo)))+(k:Rat)*(hi-lo+(hi-lo)):=by grind
 rw[e,vH h]
 generalize z-(k:Rat)*(hi-lo+(hi-lo))=w at *
 by_cases q:lo<=w
 ·rw[zeI h q (by grind)];grind
 ·have e2:w=(w+(hi-lo+(hi-lo)))+((-1:Int):Rat)*(hi-lo+(hi-lo)):=by
   have:((-1:Int):Rat)=-1:=rfl
   rw[this];grind
  rw[e2,vH h,zeJ h (by grind) (by grind)]
  grind
theorem VN (h:lo<hi) (F:lo<=y) (h1:y<=hi) (c:xL lo hi z<y) (G:y<xL lo hi z'):∃w,xL lo hi w=y/\(z<w/\w<z'\/z'<w/\w<z):=by
 obtain⟨k,k1,k2⟩:=zgM h F h1 c
 have e1:=zaa h F h1 k
 have e2:=VO h F h1 k
 have n:¬(2*lo-y+(k:Rat)*(hi-lo+(hi-lo))<z'/\z'<y+(k:Rat)*(hi-lo+(hi-lo))):=λq=>by
  have:=zeK h F h1 q.1 q.2
  grind
 by_cases q:z'<z
 ·refine⟨_,e2,.inr ⟨?_,k1⟩⟩
  by_cases q2:z'=2*lo-y+(k:Rat)*(hi-lo+(hi-lo))
  ·rw[<-q2]at e2;grind
  ·grind
 ·refine⟨_,e1,.inl ⟨k2,?_⟩⟩
  by_cases q2:z'=y+(k:Rat)*(hi-lo+(hi-lo))
  ·rw[<-q2]at e1;grind
  ·grind
end
def xG (lo hi m:Rat) (u:Rat×Rat):Rat:=xL lo hi (u.1+u.2*m)
def LeR (y:Rat) (x:Rat):Bool:=decide (x<=y)
def LtR (y:Rat) (x:Rat):Bool:=decide (x<y)
def ThQ (ps:List Rat) (k:Int) (y:Rat):Prop:=((ps.countP (LtR y):Nat):Int)<=k/\k<((ps.countP (LeR y):Nat):Int)
def PsQ (lo hi:Rat) (ls:List (Rat×Rat)) (y m:Rat):Prop:=∃u∈ls,u.2≠0/\xG lo hi m u=y
section
variable {lo hi y e m:Rat}{ls:List (Rat×Rat)}
theorem qB {v a b:Rat}(F:0<v):v*a<v*b↔a<b:=by
 constructor
 ·intro h
  by_cases c:b<=a
  ·have:=yK c (yc F);grind
  ·grind
 ·intro h;exact uP h F
theorem zdW (h:lo<hi) (S:lo<=y) (h1:y<=hi){u:Rat×Rat}(W:u.2≠0) (c:xG lo hi e u<y/\y<xG lo hi m u\/y<xG lo hi e u/\xG lo hi m u<y) (V:e<m):∃x,e<x/\x<m/\xG lo hi x u=y:=by
 obtain⟨w,hw,U⟩:∃w,xL lo hi w=y/\(u.1+u.2*e<w/\w<u.1+u.2*m\/u.1+u.2*m<w/\w<u.1+u.2*e):=by
  rcases c with⟨F,G⟩ | ⟨F,G⟩
  ·exact VN h S h1 F G
  ·obtain⟨w,hw,U⟩:=VN h S h1 G F
   exact⟨w,hw,by grind⟩
 have I:w=u.1+u.2*((w-u.1)/u.2):=by grind
 refine⟨(w-u.1)/u.2,?_,?_,by unfold xG;rw[<-I];exact hw⟩
 all_goals
  generalize (w-u.1)/u.2=x at I
  subst I
  by_cases n:u.2<0
  ·have O:0 < -u.2:=by grind
   have a:=qB (a:=x) (b:=m) O
   have b:=qB (a:=e) (b:=x) O
   have d:=qB (a:=e) (b:=m) O
   grind
  ·have n:0<u.2:=by grind
   have a:=qB (a:=x) (b:=m) n
   have b:=qB (a:=e) (b:=x) n
   have d:=qB (a:=e) (b:=m) n
   grind
theorem Qo {α:Type}{p q:α->Bool}:∀{l:List α},(∀x∈l,p x=true->q x=true)->l.countP p<=l.countP q:=λh=>uV h
theorem zhT {k:Int}(h:lo<hi) (S:lo<=y) (h1:y<=hi) (em:e<=m) (np:∀x,e<x->x<=m->¬PsQ lo hi ls y x) (t:ThQ (ls.map (xG lo hi m)) k y):ThQ (ls.map (xG lo hi e)) k y:=by
 by_cases q:e=m
 ·rw[q];exact t
 have G:e<m:=by grind
 obtain⟨I,V⟩:=t
 rw[Wd]at I V
 have key:∀u∈ls,(xG lo hi e u<y->xG lo hi m u<y)/\(xG lo hi m u<=y->xG lo hi e u<=y):=λu F=>by
  by_cases hu:u.2=0
  ·have:xG lo hi e u=xG lo hi m u:=by unfold xG;rw[hu,yT,yT]
   rw[this];exact⟨id,id⟩
  ·have Y:xG lo hi m u≠y:=λz=>np m G (by grind) ⟨u,F,hu,z⟩
   have n2:¬(xG lo hi e u<y/\y<xG lo hi m u\/y<xG lo hi e u/\xG lo hi m u<y):=λc=>by
    obtain⟨x,O,W,U⟩:=zdW h S h1 hu c G
    exact np x O (by grind) ⟨u,F,hu,U⟩
   constructor <;> intro a <;> grind
 have a1:=Qo (l:=ls) (p:=LtR y ∘ xG lo hi e) (q:=LtR y ∘ xG lo hi m) λu F a=>wm ((key u F).1 (ww a))
 have a2:=Qo (l:=ls) (p:=LeR y ∘ xG lo hi m) (q:=LeR y ∘ xG lo hi e) λu F a=>wm ((key u F).2 (ww a))
 refine⟨?_,?_⟩ <;> rw[Wd] <;> lia
end
def zeP {x:Rat}:∀{ms:List Rat},(∃z∈ms,z<=x)->∃e∈ms,e<=x/\∀z∈ms,z<=x->z<=e
 |[],h=>by obtain⟨_,m,_⟩:=h;cases m
 |a::ms,h=>by
  by_cases c:∃z∈ms,z<=x
  ·obtain⟨e,m,e1,e2⟩:=zeP c
   by_cases q:e<a/\a<=x
   ·refine⟨a,wF,q.2,λz F hz=>?_⟩
    rcases wu.mp F with rfl | F
    ·exact Wu
    ·have:=e2 z F hz;grind
   ·refine⟨e,wT _ m,e1,λz F hz=>?_⟩
    rcases wu.mp F with rfl | F
    ·grind
    ·exact e2 z F hz
  ·obtain⟨z,F,hz⟩:=h
   rcases wu.mp F with rfl | F
   ·refine⟨z,wF,hz,λw G hw=>?_⟩
    rcases wu.mp G with rfl | G
    ·exact Wu
    ·exact absurd ⟨w,G,hw⟩ c
   ·exact absurd ⟨z,F,hz⟩ c
def AtQ (Th:Rat->Prop) (t m:Rat):Prop:=t<=m/\Th m/\∀x,t<=x->x<m->¬Th x
def NvQ (Th:Rat->Prop) (t:Rat):Prop:=∀x,t<=x->¬Th x
def LkQ (Ps:Rat->Prop) (t:Rat) (R:Option Rat) (ms:List Rat):Prop:=ms.Pairwise (· < ·)/\∀x,x∈ms↔x=t\/∃r,R=some r/\t<x/\x<t+r/\Ps x
def zc7:∀{a b:List Rat},a.Pairwise (· < ·)->b.Pairwise (· < ·)->(∀x,x∈a↔x∈b)->a=b
 |[],[],_,_,_=>rfl
 |[],y::b,_,_,h=>by have:=(h y).mpr wF;cases this
 |x::a,[],_,_,h=>by have:=(h x).mp wF;cases this
 |x::a,y::b,ha,hb,h=>by
  obtain⟨G,S⟩:=List.pairwise_cons.mp ha
  obtain⟨F,I⟩:=List.pairwise_cons.mp hb
  have e:x=y:=by
   rcases wu.mp ((h x).mp wF)with e | m
   ·exact e
   rcases wu.mp ((h y).mpr wF)with e | O
   ·exact e.symm
   have:=F x m;have:=G y O;grind
  subst e
  rw[zc7 S I λz=>?_]
  have:=h z
  rw[wu,wu]at this
  constructor
  ·intro m
   rcases this.mp (.inr m)with e | e
   ·subst e;have:=G z m;grind
   ·exact e
  ·intro m
   rcases this.mpr (.inr m)with e | e
   ·subst e;have:=F z m;grind
   ·exact e
def LkQ.uniq {Ps:Rat->Prop}{t:Rat}{R:Option Rat}{a b:List Rat}(h:LkQ Ps t R a) (h':LkQ Ps t R b):a=b:=zc7 h.1 h'.1 λx=>(h.2 x).trans (h'.2 x).symm
def LkQ.map {Ps G:Rat->Prop}{t F:Rat}{R I:Option Rat}{ms:List Rat}(f g:Rat->Rat) (U:∀x,f (g x)=x) (O:∀x,g (f x)=x) (mono:∀x y,x<y->f x<f y) (W:f t=F) (V:∀x,(x=F\/∃r,I=some r/\F<x/\x<F+r/\G x)↔(g x=t\/∃r,R=some r/\t<g x/\g x<t+r/\Ps (g x))) (h:LkQ Ps t R ms):LkQ G F I (ms.map f):=by
 refine⟨ug.mpr (h.1.imp λq=>mono _ _ q),λx=>?_⟩
 rw[V,<-h.2 (g x)]
 constructor
 ·intro m
  obtain⟨y,S,rfl⟩:=wj.mp m
  rw[O];exact S
 ·intro m;exact wj.mpr ⟨_,m,U x⟩
section
variable {Th Ps:Rat->Prop}{t:Rat}{R:Option Rat}{ms:List Rat}{p:Rat->Bool}
theorem LkQ.at (h:LkQ Ps t R ms) (bk:∀e m,e<=m->(∀x,e<x->x<=m->¬Ps x)->Th m->Th e) (I:∀x,p x=true↔Th x) (fr:R=none->∀x,¬Ps x){m:Rat}(f:ms.find? p=some m):AtQ Th t m:=by
 have G:=ue f
 have lt:∀x∈ms,t<=x:=λx V=>by
  rcases(h.2 x).mp V with e | ⟨r,_,q,_⟩ <;> grind
 refine⟨lt m G,(I m).mp (YY f),λx S xm Y=>?_⟩
 obtain⟨e,O,ex,gr⟩:=zeP (x:=x) (ms:=ms) ⟨t,(h.2 t).mpr (.inl rfl),S⟩
 have te:Th e:=bk e x ex (λz ez W hz=>by
  cases hR:R with
  |none=>exact fr hR z hz
  |some r =>
   have te:=lt e O
   have:z∈ms:=(h.2 z).mpr (.inr ⟨r,hR,by grind,by
    rcases(h.2 m).mp G with q | ⟨r',F,_,q,_⟩
    ·grind
    ·rw[hR]at F;cases F;grind,hz⟩)
   have:=gr z this W
   grind) Y
 obtain⟨hm,i,hi,e1,pre⟩:=W5.mp f
 obtain⟨j,hj,e2⟩:=Yk O
 have U:∀a b (ha:a<ms.length) (hb:b<ms.length),a<b->ms[a]<ms[b]:=uc.mp h.1
 rcases Yt j i with c | c
 ·have:=pre j c
  rw[e2,(I e).mpr te]at this
  cases this
 ·rcases WO c with c | c
  ·subst c;grind
  ·have:=U i j hi hj c;grind
theorem LkQ.nv (h:LkQ Ps t R ms) (bk:∀e m,e<=m->(∀x,e<x->x<=m->¬Ps x)->Th m->Th e) (hp:∀x,p x=true↔Th x) (fr:R=none->∀x,¬Ps x) (r0:∀r,R=some r->0<r/\∀x,Th (x+r)->Th x) (f:ms.find? p=none):NvQ Th t:=by
 have lt:∀x∈ms,t<=x:=λx mx=>by
  rcases(h.2 x).mp mx with e | ⟨r,_,q,_⟩ <;> grind
 have no:∀e∈ms,¬Th e:=λe S V=>by
  have:=WR.mp f e S
  exact this ((hp e).mpr V)
 have F:∀x,t<=x->(∀r,R=some r->x<t+r)->¬Th x:=λx I W G=>by
  obtain⟨e,S,ex,gr⟩:=zeP (x:=x) (ms:=ms) ⟨t,(h.2 t).mpr (.inl rfl),I⟩
  refine no e S (bk e x ex (λz ez zx hz=>?_) G)
  cases hR:R with
  |none=>exact fr hR z hz
  |some r =>
   have te:=lt e S
   have a1:=W r hR
   have:z∈ms:=(h.2 z).mpr (.inr ⟨r,hR,by grind,by grind,hz⟩)
   have:=gr z this zx
   grind
 intro x I G
 cases hR:R with
 |none=>exact F x I (λr e=>by rw[hR]at e;cases e) G
 |some r =>
  obtain⟨rp,per⟩:=r0 r hR
  have O:∀(n:Nat) x,t<=x->x<t+((n:Int):Rat)*r+r->Th x->False:=by
   intro n
   induction n with
   |zero=>intro x I U G;exact F x I (λY e=>by rw[hR]at e;cases e;have z:(((0:Nat):Int):Rat)=0:=rfl;rw[z]at U;grind) G
   |succ n ih =>
    intro x I U G
    by_cases c:x<t+r
    ·exact F x I (λY e=>by rw[hR]at e;cases e;exact c) G
    ·refine ih (x-r) (by grind) ?_ (per _ (by rw[show x-r+r=x by grind];exact G))
     have e:(((n+1:Nat):Int):Rat)=((n:Int):Rat)+1:=by
      rw[show ((n+1:Nat):Int)=(n:Int)+1 by lia,wQ];rfl
     rw[e]at U;grind
  obtain⟨k,ek⟩:=vd (x:=x-t) rp
  have a:=ve (x:=x-t) (zU rp)
  have b:=qM (x:=x-t) (zU rp)
  generalize rst (x-t) r=q at *
  have k0:0<=k:=by
   rcases yA k 0 with c | c
   ·exfalso
    have:(k:Rat)<=((-1:Int):Rat):=wI.mpr ∅
    have:=wC this (yc rp)
    have e1:((-1:Int):Rat)=-1:=rfl
    rw[e1]at this
    grind
   ·exact c
  have:=O k.toNat x I (by rw[show ((k.toNat:Nat):Int)=k by lia];grind) G
  exact this
theorem AtQ.uniq {m F:Rat}(h:AtQ Th t m) (h':AtQ Th t F):m=F:=by
 obtain⟨U,V,S⟩:=h
 obtain⟨I,O,G⟩:=h'
 by_cases c:m<F
 ·exact absurd V (G m U c)
 ·by_cases d:F<m
  ·exact absurd O (S F I d)
  ·grind
theorem AtQ.nn {m:Rat}(h:AtQ Th t m) (h':NvQ Th t):False:=h' m h.1 h.2.1
theorem AtQ.from {m a:Rat}(h:AtQ Th t m) (h1:t<=a) (h2:a<=m):AtQ Th a m:=⟨h2,h.2.1,λx G F=>h.2.2 x (by grind) F⟩
end
def QU {T a b:Rat}(h:0<T):rst (rst a T+b) T=rst (a+b) T:=by
 obtain⟨k,F⟩:=vd (x:=a) h
 obtain⟨j,G⟩:=vd (x:=a+b) h
 have n:=zU h
 refine QV (k:=j-k) (ve n) (qM n) ?_
 rw[yp]
 grind
def zjC {T a:Rat}(h:0<T) (k:Int):rst (a+(k:Rat)*T) T=rst a T:=by
 obtain⟨j,F⟩:=vd (x:=a) h
 have n:=zU h
 refine QV (k:=j+k) (ve n) (qM n) ?_
 rw[wQ]
 grind
def J2 (T:Rat) (hs:List Rat) (m:Nat):Prop:=(hs.map λh=>rst h T).Perm (hs.map λh=>rst (h+T/((m:Int):Rat)) T)
structure GrR (T:Rat) (hs:List Rat) (M:Nat):Prop where
 m1:1<=M
 m2:M<=hs.length
 m3:J2 T hs M
 m4:∀m:Nat,1<=m->m<=hs.length->J2 T hs m->m<=M
section
variable {T:Rat}{hs hs':List Rat}{m M:Nat}
theorem J2.iter (F:0<T) (h:J2 T hs m):∀(n:Nat) (a:Rat),(hs.map λh=>rst (h+a) T).Perm (hs.map λh=>rst (h+((n:Int):Rat)*(T/((m:Int):Rat))+a) T)
 |0,a=>.of_eq (wy λx _=>by have z:(((0:Nat):Int):Rat)=0:=rfl;rw[z,yT,Y3])
 |n+1,a=>by
  refine(J2.iter F h n a).trans ?_
  have:=h.map λq=>rst (q+(((n:Int):Rat)*(T/((m:Int):Rat))+a)) T
  rw[wG,wG]at this
  refine(List.Perm.of_eq (wy λx _=>?_)).trans (this.trans (.of_eq (wy λx _=>?_)))
  ·show _=rst (rst x T+_) T
   rw[QU F];congr 1;grind
  ·show rst (rst _ T+_) T=_
   rw[QU F]
   have e:(((n+1:Nat):Int):Rat)=((n:Int):Rat)+1:=by rw[show ((n+1:Nat):Int)=(n:Int)+1 by lia,wQ];rfl
   rw[e];congr 1;grind
def AlR (T a:Rat) (hs hs':List Rat):Prop:=(hs'.map λh=>rst h T).Perm (hs.map λh=>rst (h+a) T)
theorem AlR.len {a:Rat}(h:AlR T a hs hs'):hs'.length=hs.length:=by have:=h.length_eq;rw[wc,wc]at this;exact this
theorem AlR.on {a:Rat}(F:0<T) (h:AlR T a hs hs') (b:Rat):(hs'.map λh=>rst (h+b) T).Perm (hs.map λh=>rst (h+(a+b)) T):=by
 have:=h.map λq=>rst (q+b) T
 rw[wG,wG]at this
 refine(List.Perm.of_eq (wy λx _=>?_)).trans (this.trans (.of_eq (wy λx _=>?_)))
 ·show _=rst (rst x T+_) T
  rw[QU F]
 ·show rst (rst _ T+_) T=_
  rw[QU F];congr 1;grind
theorem AlR.symm {a:Rat}(F:0<T) (h:AlR T a hs hs'):AlR T (-a) hs' hs:=by
 have:=AlR.on F h (-a)
 refine(List.Perm.trans this (.of_eq (wy λx _=>?_))).symm
 congr 1;grind
theorem AlR.com {a:Rat}(F:0<T) (h:AlR T a hs hs') (c:J2 T hs m):J2 T hs' m:=by
 have h1:=AlR.on F h (T/((m:Int):Rat))
 have h2:=c.iter F 1 a
 refine(List.Perm.trans h ?_).trans h1.symm
 refine h2.trans (.of_eq (wy λx _=>?_))
 have z:(((1:Nat):Int):Rat)=1:=rfl
 rw[z];congr 1;grind
theorem AlR.gr {a:Rat}(F:0<T) (h:AlR T a hs hs') (g:GrR T hs M):GrR T hs' M:=by
 have l:=AlR.len h
 exact⟨g.m1,by rw[l];exact g.m2,AlR.com F h g.m3,λm I G c=>g.m4 m I (by rw[<-l];exact G) (AlR.com F (AlR.symm F h) c)⟩
end
def qe (u:Rat×Rat):Rat:=if u.2<0 then -u.2 else u.2
def vY (lo hi:Rat) (u:Rat×Rat):Rat:=if 0<u.2 then u.1-lo else hi-lo+(hi-lo)-(u.1-lo)
def ofP (c:Rat) (u:Rat×Rat):Bool:=decide (qe u=c)
def zac (lo hi c:Rat) (ls:List (Rat×Rat)):List Rat:=(ls.filter (ofP c)).map (vY lo hi)
structure Xw (lo hi:Rat) (ls:List (Rat×Rat)) (R:Rat):Prop where
 r0:0<R
 part:∀c,0<c->(∃u∈ls,qe u=c)->∃M,GrR (hi-lo+(hi-lo)) (zac lo hi c ls) M/\∃n:Int,R=(n:Rat)*((hi-lo+(hi-lo))/(((M:Int):Rat)*c))
 univ:∀X,(∀c,0<c->(∃u∈ls,qe u=c)->∀M,GrR (hi-lo+(hi-lo)) (zac lo hi c ls) M->∃n:Int,X=(n:Rat)*((hi-lo+(hi-lo))/(((M:Int):Rat)*c)))->∃n:Int,X=(n:Rat)*R
section
variable {lo hi R:Rat}{ls ls':List (Rat×Rat)}
theorem Vu (h:lo<hi){u:Rat×Rat}(W:u.2≠0) (x:Rat):xG lo hi x u=xL lo hi (lo+rst (vY lo hi u+qe u*x) (hi-lo+(hi-lo))):=by
 have F:0<hi-lo+(hi-lo):=by grind
 have I:∀z,xL lo hi (lo+rst z (hi-lo+(hi-lo)))=xL lo hi (lo+z):=λz=>by
  obtain⟨k,U⟩:=vd (x:=z) F
  have:=vH (z:=lo+rst z (hi-lo+(hi-lo))) h k
  rw[<-this];congr 1;grind
 rw[I]
 unfold xG vY qe
 by_cases c:0<u.2
 ·rw[if_pos c,if_neg (by grind)];congr 1;grind
 ·rw[if_neg c,if_pos (by grind)]
  have O:∀z,xL lo hi (2*lo-z)=xL lo hi z:=λz=>by
   obtain⟨S,V⟩:=zgL (z:=z) h
   obtain⟨k,G⟩:∃k:Int,z=xL lo hi z+(k:Rat)*(hi-lo+(hi-lo))\/z=2*lo-xL lo hi z+(k:Rat)*(hi-lo+(hi-lo)):=by
    obtain⟨k,U⟩:=vd (x:=z-lo) F
    have a:=ve (x:=z-lo) (zU F)
    have b:=qM (x:=z-lo) (zU F)
    have e:=vj h a b U
    generalize rst (z-lo) (hi-lo+(hi-lo))=r at *
    rw[e]
    by_cases q:hi-lo<r
    ·rw[if_pos q];refine⟨k+1,.inr ?_⟩;rw[wQ];grind
    ·rw[if_neg q];exact⟨k,.inl (by grind)⟩
   rcases G with G | G
   ·have e:2*lo-z=2*lo-xL lo hi z+((-k:Int):Rat)*(hi-lo+(hi-lo)):=by rw[yq];grind
    rw[e,VO h S V]
   ·have e:2*lo-z=xL lo hi z+((-k:Int):Rat)*(hi-lo+(hi-lo)):=by rw[yq];grind
    rw[e,zaa h S V]
  rw[<-O]
  have:=vH (z:=2*lo-(u.1+u.2*x)) h 1
  rw[<-this]
  congr 1
  have:((1:Int):Rat)=1:=rfl
  rw[this];grind
theorem zcV {α β:Type}(key:α->Rat) (f g:α->β):∀(n:Nat) (l:List α),l.length<=n->(∀c,(∃u∈l,key u=c)->((l.filter λu=>decide (key u=c)).map f).Perm ((l.filter λu=>decide (key u=c)).map g))->(l.map f).Perm (l.map g)
 |_,[],_,_=>.refl _
 |0,a::l,h,_=>by simp at h
 |n+1,a::l,hl,h=>by
  have O:=List.filter_append_perm (λu=>decide (key u=key a)) (a::l)
  have h1:=h (key a) ⟨a,wF,rfl⟩
  have sub:((a::l).filter λu=>! decide (key u=key a)).length<=n:=by
   rw[List.filter_cons_of_neg (by simp)]
   have:=uT (λu=>! decide (key u=key a)) l
   rw[wB]at hl;lia
  have h2:=zcV key f g n ((a::l).filter λu=>! decide (key u=key a)) sub λc U=>by
   obtain⟨u,S,I⟩:=U
   obtain⟨G,F⟩:=yZ.mp S
   have ne:c≠key a:=λe=>by rw[I,e]at F;simp at F
   rw[List.filter_filter]
   have:((a::l).filter λu=>decide (key u=c)&&! decide (key u=key a))=(a::l).filter λu=>decide (key u=c):=WW λv _=>by
    by_cases q:key v=c
    ·rw[wm q,wx (by rw[q];exact ne)];rfl
    ·rw[wx q];rfl
   rw[this]
   exact h c ⟨u,G,I⟩
  have:=(h1.append h2)
  rw[<-yx,<-yx]at this
  exact((O.map f).symm.trans this).trans (O.map g)
theorem VX {u:Rat×Rat}(h:qe u=0):u.2=0:=by unfold qe at h;split at h <;> grind
theorem zfl (u:Rat×Rat):0<=qe u:=by unfold qe;split <;> grind
theorem zai {n:Int}{R q:Rat}(h:R=(n:Rat)*q) (G:0<R) (F:0<q):∃k:Nat,n=(k:Int):=by
 rcases yA n 0 with c | c
 ·exfalso
  have:(n:Rat)<=((0:Int):Rat):=wI.mpr ∅
  have:=wC this (yc F)
  have z:((0:Int):Rat)=0:=rfl
  rw[z]at this
  grind
 ·exact⟨n.toNat,by lia⟩
theorem Qp {x y:Rat}(F:0<x) (G:0<y):0<x/y:=by rw[Wp];exact yg F (YN.mpr G)
theorem Xk {M:Nat}(h:1<=M):(0:Rat)<((M:Int):Rat):=wv.mpr (by omega)
theorem Xw.per (h:lo<hi) (r:Xw lo hi ls R) (x:Rat):(ls.map (xG lo hi (x+R))).Perm (ls.map (xG lo hi x)):=by
 have S:0<hi-lo+(hi-lo):=by grind
 refine zcV qe _ _ ls.length ls (wn _) λc hc=>?_
 by_cases c0:c=0
 ·subst c0
  refine .of_eq (wy λu G=>?_)
  have e0:=VX (ww (yZ.mp G).2)
  unfold xG;rw[e0,yT,yT]
 obtain⟨u,G,Y⟩:=hc
 have U:0<c:=by have:=zfl u;grind
 obtain⟨M,g,n,V⟩:=r.part c U ⟨u,G,Y⟩
 have Mp:=Xk g.m1
 have W:0<(hi-lo+(hi-lo))/(((M:Int):Rat)*c):=Qp S (yg Mp U)
 obtain⟨k,rfl⟩:=zai V r.r0 W
 have it:=(g.m3.iter S k (c*x)).map λq=>xL lo hi (lo+q)
 unfold zac at it
 rw[wG,wG,wG,wG]at it
 have cR:c*R=((k:Int):Rat)*((hi-lo+(hi-lo))/((M:Int):Rat)):=by
  rw[V]
  generalize ((M:Int):Rat)=M' at *
  generalize (hi-lo+(hi-lo))=T at *
  generalize ((k:Int):Rat)=k' at *
  grind
 refine((List.Perm.of_eq (wy λv I=>?_)).trans it.symm).trans (.of_eq (wy λv I=>?_))
 all_goals
  have F:qe v=c:=ww (yZ.mp I).2
  have O:v.2≠0:=λz=>by unfold qe at F;rw[z]at F;split at F <;> grind
 ·rw[Vu h O,F]
  show _=xL lo hi (lo+rst (vY lo hi v+((k:Int):Rat)*((hi-lo+(hi-lo))/((M:Int):Rat))+c*x) (hi-lo+(hi-lo)))
  congr 3
  rw[<-cR];grind
 ·rw[Vu h O,F];rfl
theorem Xw.two (h:lo<hi){U ρ:Rat}{S O:Rat}(eW:O-S=hi-lo) (hρ:0<ρ) (r:Xw lo hi ls R) (r':Xw S O ls' U)
  (hp:∀c,0<c->((∃u∈ls',qe u=ρ*c)↔∃u∈ls,qe u=c)) (hg:∀c,0<c->(∃u∈ls,qe u=c)->∃a,AlR (hi-lo+(hi-lo)) a (zac lo hi c ls) (zac S O (ρ*c) ls')):R=ρ*U:=by
 have s0:0<hi-lo+(hi-lo):=by grind
 have ρn:ρ≠0:=by grind
 obtain⟨n,en⟩:∃n:Int,ρ*U=(n:Rat)*R:=r.univ _ λc I hc M g=>by
  obtain⟨a,al⟩:=hg c I hc
  have F:=AlR.gr s0 al g
  obtain⟨W,G,n,e⟩:=r'.part (ρ*c) (yg hρ I) ((hp c I).mpr hc)
  rw[eW]at G e
  have eM:W=M:=YZ (F.m4 _ G.m1 G.m2 G.m3) (G.m4 _ F.m1 F.m2 F.m3)
  subst eM
  refine⟨n,?_⟩
  rw[e]
  have Mp:=Xk g.m1
  generalize ((W:Int):Rat)=M at *
  generalize (hi-lo+(hi-lo))=T at *
  generalize (n:Rat)=k at *
  have:ρ*c≠0:=by have:=yg hρ I;grind
  grind
 obtain⟨m,em⟩:∃m:Int,R/ρ=(m:Rat)*U:=r'.univ _ λc' a2 a1 W F=>by
  have I:0<c'/ρ:=Qp a2 hρ
  have ec:ρ*(c'/ρ)=c':=by grind
  rw[<-ec]at a1 F
  have hc:=(hp _ I).mp a1
  obtain⟨a,al⟩:=hg _ I hc
  obtain⟨M,g,n,e⟩:=r.part _ I hc
  have G:=AlR.gr s0 al g
  rw[eW]at F
  have eM:W=M:=YZ (G.m4 _ F.m1 F.m2 F.m3) (F.m4 _ G.m1 G.m2 G.m3)
  subst eM
  refine⟨n,?_⟩
  rw[eW]
  have Mp:=Xk g.m1
  conv=>lhs;rw[e]
  generalize ((W:Int):Rat)=M at *
  generalize (hi-lo+(hi-lo))=T at *
  generalize (n:Rat)=k at *
  grind
 have p1:0<ρ*U:=yg hρ r'.r0
 obtain⟨V,rfl⟩:=zai en p1 r.r0
 obtain⟨Y,rfl⟩:=zai em (Qp r.r0 hρ) r'.r0
 have R0:=r.r0
 have e3:R=(((Y:Int):Rat)*((V:Int):Rat))*R:=by
  have:R=((Y:Int):Rat)*(ρ*U):=by
   have e4:R=ρ*(R/ρ):=by grind
   rw[em]at e4;grind
  rw[en]at this;grind
 have e5:((Y:Int):Rat)*((V:Int):Rat)=1:=by grind
 rw[<-wf]at e5
 have e6:(Y:Int)*(V:Int)=1:=yS.mp (e5.trans (show (1:Rat)=((1:Int):Rat)from rfl))
 have e7:(V:Int)=1:=by
  have:(V:Int) ∣ 1:=⟨Y,by rw[yX];exact e6.symm⟩
  have:=Int.le_of_dvd ⇑1 this
  have:V≠0:=λz=>by rw[z]at e6;simp at e6
  lia
 rw[e7]at en
 have:((1:Int):Rat)=1:=rfl
 rw[this]at en
 grind
end
end KM
namespace KK
open PySem L2 KM
def lsQ (bs:List Bl):List (Rat×Rat):=bs.map λb=>(b.pl,b.sp)
def trF (p s m:Int) (b:Bl):Int×Int:=scT m (trB p s (b.pl,b.sp))
structure WhR (bs:List Bl) (lo hi:Rat×Rat) (y:Rat) (p s m z:Int) (trs:List (Int×Int)) (l h:Int×Int) (tk:Rat):Prop where
 p0:0<p
 s0:0<s
 m0:0<m
 lh:lo.1<hi.1
 el:(l.1:Rat)=lo.1*((p:Rat)*(m:Rat))
 eh:(h.1:Rat)=hi.1*((p:Rat)*(m:Rat))
 ez:(z:Rat)=y*((p:Rat)*(m:Rat))
 et:trs=bs.map (trF p s m)
 e1:∀b∈bs,(((trF p s m b).1:Int):Rat)=b.pl*((p:Rat)*(m:Rat))
 e2:∀b∈bs,(((trF p s m b).2:Int):Rat)=b.sp*((s:Rat)*(m:Rat))
 tk:tk=(s:Rat)/(p:Rat)
section
variable {bs:List Bl}{lo hi:Rat×Rat}{y x:Rat}{p s m z:Int}{trs:List (Int×Int)}{l h b:Int×Int}{tk:Rat}
theorem RwZ.whr (Z:RwZ bs lo hi) (w:WhZ bs lo hi y x p s m z trs l h tk b):WhR bs lo hi y p s m z trs l h tk:=by
 have F:=Z.f
 rw[<-w.ep,<-w.es]at F
 obtain⟨U,_,V⟩:=zim F.p0 (den_pos y)
 rw[<-w.em]at U V
 have W:(y.den:Int) ∣ p*m:=by
  rw[V]
  unfold xP
  rw[uF,uF,Y9]
  exact zia
 have I:∀q:Rat,(q.den:Int) ∣ p->((byB q p*m:Int):Rat)=q*((p:Rat)*(m:Rat)):=λq G=>by
  rw[wf,jR G];grind
 have O:∀q:Rat,(q.den:Int) ∣ s->((byB q s*m:Int):Rat)=q*((s:Rat)*(m:Rat)):=λq G=>by
  rw[wf,jR G];grind
 refine⟨F.p0,F.s0,U,Z.lh,?_,?_,?_,?_,λc S=>?_,λc S=>?_,by rw[w.etk,wN]⟩
 ·rw[w.el];exact I _ (F.pd _ (vi rfl))
 ·rw[w.eh];exact I _ (F.pd _ (vW rfl))
 ·have:=jR W
  rw[wf]at this
  rw[w.ez];exact this
 ·rw[w.et,wG];rfl
 ·exact I _ (F.pd _ (XD S))
 ·exact O _ (F.sd _ (XD S))
theorem J4 {a D:Int}{q d:Rat}(h:(a:Rat)=q*d) (F:(D:Rat)=d) (G:d≠0):Rat.divInt a D=q:=by
 rw[wN,h,F];grind
theorem QQ (tk:Rat) (t N:Int):moQ tk t N=(t:Rat)/(N:Rat)*tk:=by
 unfold moQ
 rw[<-yG,wN,wY]
theorem WhR.spt (w:WhR bs lo hi y p s m z trs l h tk){t N:Int}(I:0<N){c:Bl}(V:c∈bs):Rat.divInt (Xh (some l) (some h) t N (trF p s m c)) (p*m*N)=xG lo.1 hi.1 (moQ tk t N) (c.pl,c.sp):=by
 have F:0<p*m:=wP w.p0 w.m0
 have W:0<p*m*N:=wP F I
 have G:((p*m*N:Int):Rat)=(p:Rat)*(m:Rat)*(N:Rat):=by rw[wf,wf]
 have U:(0:Rat)<(p:Rat):=wv.mpr w.p0
 have S:(0:Rat)<(m:Rat):=wv.mpr w.m0
 have np:(0:Rat)<(N:Rat):=wv.mpr I
 have O:(p:Rat)*(m:Rat)*(N:Rat)≠0:=by have:=yg (yg U S) np;grind
 have lh:l.1<h.1:=by
  refine yY.mp ?_
  rw[w.el,w.eh]
  exact ux w.lh (yg U S)
 show Rat.divInt (vE (some (l.1*N)) (some (h.1*N)) ((trF p s m c).1*N+(trF p s m c).2*t) (trF p s m c).2).1 (p*m*N)=_
 rw[zdH W (yR lh I)]
 have f1:Rat.divInt (l.1*N) (p*m*N)=lo.1:=J4 (by rw[wf,w.el];grind) G O
 have f2:Rat.divInt (h.1*N) (p*m*N)=hi.1:=J4 (by rw[wf,w.eh];grind) G O
 have f3:Rat.divInt ((trF p s m c).1*N+(trF p s m c).2*t) (p*m*N)=c.pl+c.sp*moQ tk t N:=J4 (by
  rw[wQ,wf,wf,w.e1 c V,w.e2 c V,QQ,w.tk]
  generalize (p:Rat)=p' at *
  generalize (m:Rat)=m' at *
  generalize (N:Rat)=N' at *
  generalize (s:Rat)=s' at *
  generalize (t:Rat)=t' at *
  grind) G O
 rw[f1,f2,f3];rfl
theorem WhR.there (w:WhR bs lo hi y p s m z trs l h tk){t N:Int}(I:0<N) (k:Int):qR (some l) (some h) trs k z t N=true↔ThQ ((lsQ bs).map (xG lo.1 hi.1 (moQ tk t N))) k y:=by
 have O:0<p*m:=wP w.p0 w.m0
 have V:0<p*m*N:=wP O I
 have eD:((p*m*N:Int):Rat)=(p:Rat)*(m:Rat)*(N:Rat):=by rw[wf,wf]
 have pp:(0:Rat)<(p:Rat):=wv.mpr w.p0
 have mp:(0:Rat)<(m:Rat):=wv.mpr w.m0
 have np:(0:Rat)<(N:Rat):=wv.mpr I
 have dn:(p:Rat)*(m:Rat)*(N:Rat)≠0:=by have:=yg (yg pp mp) np;grind
 have Y:Rat.divInt (z*N) (p*m*N)=y:=J4 (by rw[wf,w.ez];grind) eD dn
 have lt:∀c∈bs,(Xh (some l) (some h) t N (trF p s m c)<z*N↔xG lo.1 hi.1 (moQ tk t N) (c.pl,c.sp)<y):=λc F=>by
  rw[<-w.spt I F,<-xK V,Y]
 have gt:∀c∈bs,(z*N<Xh (some l) (some h) t N (trF p s m c)↔y<xG lo.1 hi.1 (moQ tk t N) (c.pl,c.sp)):=λc F=>by
  rw[<-w.spt I F,<-xK V,Y]
 have S:(bs.map (trF p s m)).map (Xh (some l) (some h) t N)=bs.map λc=>Xh (some l) (some h) t N (trF p s m c):=by rw[wG];rfl
 have U:(lsQ bs).map (xG lo.1 hi.1 (moQ tk t N))=bs.map λc=>xG lo.1 hi.1 (moQ tk t N) (c.pl,c.sp):=by unfold lsQ;rw[wG];rfl
 have W:((trs.map (Xh (some l) (some h) t N)).countP λx=>decide (x<z*N))=((lsQ bs).map (xG lo.1 hi.1 (moQ tk t N))).countP (LtR y):=by
  rw[w.et,S,U,Wd,Wd]
  refine List.countP_congr λc F=>?_
  show decide _=true↔decide _=true
  rw[yL,yL];exact lt c F
 have n2:((trs.map (Xh (some l) (some h) t N)).countP λx=>decide (x<z*N))+((trs.map (Xh (some l) (some h) t N)).countP λx=>decide (x=z*N))=((lsQ bs).map (xG lo.1 hi.1 (moQ tk t N))).countP (LeR y):=by
  rw[w.et,S,U,Wd,Wd,Wd]
  clear W S U
  have:∀G:List Bl,(∀c∈G,c∈bs)->List.countP ((λx=>decide (x<z*N)) ∘ λc=>Xh (some l) (some h) t N (trF p s m c)) G+List.countP ((λx=>decide (x=z*N)) ∘ λc=>Xh (some l) (some h) t N (trF p s m c)) G=List.countP (LeR y ∘ λc:Bl=>xG lo.1 hi.1 (moQ tk t N) (c.pl,c.sp)) G:=by
   intro G
   induction G with
   |nil=>intro _;rfl
   |cons c G ih =>
    intro F
    have:=ih λd hd=>F d (wT _ hd)
    have a:=lt c (F c wF)
    have b:=gt c (F c wF)
    rw[uH,uH,uH,<-this]
    show _+(if decide _=true then 1 else 0)+(_+if decide _=true then 1 else 0)=_+if decide _=true then 1 else 0
    simp only[yL]
    generalize Xh (some l) (some h) t N (trF p s m c)=u at *
    generalize xG lo.1 hi.1 (moQ tk t N) (c.pl,c.sp)=v at *
    rcases Int.lt_trichotomy u (z*N)with q | q | q
    ·rw[if_pos q,if_neg ∅,if_pos (by have:=a.mp q;grind)];lia
    ·rw[if_neg ∅,if_pos q,if_pos (by
      by_cases r:y<v
      ·have:=b.mpr r;lia
      ·grind)];lia
    ·rw[if_neg ∅,if_neg ∅,if_neg (by have:=b.mp q;grind)];lia
  exact this bs λ_ h=>h
 unfold qR ThQ
 rw[yL,<-W,<-n2]
 constructor
 ·rintro ⟨a,b⟩;exact⟨a,by lia⟩
 ·rintro ⟨a,b⟩;exact⟨a,by lia⟩
end
end KK
namespace KM
def Qr {lo hi y z:Rat}(h:lo<hi) (G:lo<=y) (h1:y<=hi):xL lo hi z=y↔∃n:Int,z=y+(n:Rat)*(hi-lo+(hi-lo))\/z=2*lo-y+(n:Rat)*(hi-lo+(hi-lo)):=by
 have F:0<hi-lo+(hi-lo):=by grind
 constructor
 ·intro e
  obtain⟨k,I⟩:=vd (x:=z-lo) F
  have a:=ve (x:=z-lo) (zU F)
  have b:=qM (x:=z-lo) (zU F)
  have f:=vj h a b I
  generalize rst (z-lo) (hi-lo+(hi-lo))=r at *
  by_cases q:hi-lo<r
  ·rw[if_pos q]at f;refine⟨k+1,.inr ?_⟩;rw[wQ];grind
  ·rw[if_neg q]at f;exact⟨k,.inl (by grind)⟩
 ·rintro ⟨n,e | e⟩
  ·rw[e];exact zaa h G h1 n
  ·rw[e];exact VO h G h1 n
end KM
namespace KK
open PySem L2 KM
def ze9 {a c j:Int}{n:Nat}:j∈V0 a c n↔∃i:Nat,i<n/\j=a+(i:Int)*c:=by
 unfold V0
 rw[wj]
 constructor
 ·rintro ⟨i,hi,e⟩;exact⟨i,Wj.mp hi,e.symm⟩
 ·rintro ⟨i,hi,e⟩;exact⟨i,Wj.mpr hi,e.symm⟩
def zcO {T F b e j:Int}{g:Int×Int}(hs:0<v4 T F g):j∈lkW T F b e g↔b<j/\j<e/\∃n:Int,j=Xy F g+n*v4 T F g:=by
 unfold lkW zg3 lkC
 rw[ze9]
 have O:=yD (Xy F g-b-1) (b:=v4 T F g) ∅
 have I:=yE (Xy F g-b-1) hs
 have G:=uU (Xy F g-b-1) (v4 T F g)
 have S:zb0 T F b g=b+1+(Xy F g-b-1) % v4 T F g:=rfl
 generalize (Xy F g-b-1) % v4 T F g=r at *
 generalize (Xy F g-b-1)/v4 T F g=q at *
 generalize zb0 T F b g=a at *
 generalize Xy F g=o at *
 generalize v4 T F g=c at *
 have sz:∀i:Nat,(i<(Builtin.Range.rangeSize a e c).toNat↔a+(i:Int)*c<e):=λi=>by
  unfold Builtin.Range.rangeSize
  rw[if_pos hs]
  split
  ·rename_i h
   have d:=Int.le_ediv_iff_mul_le (a:=(i:Int)) (b:=e-a-1) hs
   lia
  ·rename_i h
   have:=Wk (show (0:Int)<=(i:Int) by lia) (show 0<=c by lia)
   constructor
   ·intro z;exact absurd z (by simp)
   ·intro z;lia
 constructor
 ·rintro ⟨i,hi,e1⟩
  have h:=(sz i).mp hi
  have:=Wk (show (0:Int)<=(i:Int) by lia) (show 0<=c by lia)
  exists by lia,by lia,(i:Int)-q
  rw[Int.sub_mul,yX q c];lia
 ·rintro ⟨h1,h2,n,e1⟩
  have e2:j=a+(n+q)*c:=by rw[Int.add_mul,yX q c];lia
  have k0:0<=n+q:=by
   rcases yA (n+q) 0 with z | z
   ·exfalso
    have:=yv (show n+q ≤ -1 by lia) (show 0<=c by lia)
    lia
   ·exact z
  refine⟨(n+q).toNat,(sz _).mpr ?_,?_⟩ <;> rw[show (((n+q).toNat:Nat):Int)=n+q by lia] <;> lia
def zcN {T F b e j:Int}:∀{gs:List (Int×Int)},j∈lkG T F b e gs↔∃g∈gs,j∈lkW T F b e g
 |[]=>⟨λm=>(by cases m),λh=>(by obtain⟨_,m,_⟩:=h;cases m)⟩
 |g::gs=>by
  show j∈lkW T F b e g++lkG T F b e gs↔_
  rw[ya,zcN]
  constructor
  ·rintro (m | ⟨G,m,h⟩)
   ·exact⟨g,wF,m⟩
   ·exact⟨G,wT _ m,h⟩
  ·rintro ⟨G,m,h⟩
   rcases wu.mp m with rfl | m
   ·exact .inl h
   ·exact .inr ⟨G,m,h⟩
def QM {l0 z:Int}{t:Int×Int}(F:t.2≠0):∀{trs:List (Int×Int)},t∈trs->(t.2,z-t.1)∈zR l0 z trs/\(t.2,2*l0-z-t.1)∈zR l0 z trs
 |[],m=>by cases m
 |u::r,m=>by
  show _∈XH l0 z u++zR l0 z r/\_∈XH l0 z u++zR l0 z r
  rw[ya,ya]
  rcases wu.mp m with rfl | m
  ·unfold XH;rw[if_neg F];exact⟨.inl (by simp),.inl (by simp)⟩
  ·have:=QM F (z:=z) (l0:=l0) m;exact⟨.inr this.1,.inr this.2⟩
def zak {T F j:Int}{g:Int×Int}(I:g.1≠0) (hd:zY g.1 ∣ F):(∃n:Int,j=Xy F g+n*v4 T F g)↔∃n:Int,g.1*j=g.2*F+n*(T*F):=by
 unfold Xy v4
 obtain⟨d,hd⟩:=hd
 have a0:=ZX I
 have e2:F.fdiv (zY g.1)=d:=by rw[wD _ ∅,hd,yf _ ∅]
 rw[e2]
 by_cases c:g.1<0
 ·have G:zY g.1=-g.1:=by unfold zY;rw[if_pos c]
  have e1:F.fdiv g.1=-d:=by
   rw[hd,G,show -g.1*d=g.1 * -d by grind]
   exact Int.mul_fdiv_cancel_left _ I
  rw[e1]
  rw[G]at hd
  constructor
  ·rintro ⟨n,e⟩;refine⟨-n,?_⟩;rw[e,hd];grind
  ·rintro ⟨n,e⟩
   refine⟨-n,?_⟩
   have:g.1*j=g.1*(g.2 * -d + -n*(T*d)):=by rw[e,hd];grind
   exact Yz I this
 ·have G:zY g.1=g.1:=by unfold zY;rw[if_neg c]
  have e1:F.fdiv g.1=d:=by rw[<-G];exact e2
  rw[e1]
  rw[G]at hd
  constructor
  ·rintro ⟨n,e⟩;refine⟨n,?_⟩;rw[e,hd];grind
  ·rintro ⟨n,e⟩
   refine⟨n,?_⟩
   have:g.1*j=g.1*(g.2*d+n*(T*d)):=by rw[e,hd];grind
   exact Yz I this
section
variable {bs:List Bl}{lo hi:Rat×Rat}{y x R:Rat}{p s m z:Int}{trs:List (Int×Int)}{l h b l':Int×Int}{tk:Rat}
theorem WhR.tk0 (w:WhR bs lo hi y p s m z trs l h tk):0<tk:=by rw[w.tk];exact vS (wv.mpr w.s0) (wv.mpr w.p0)
theorem WhR.eqn (w:WhR bs lo hi y p s m z trs l h tk){c:Bl}(G:c∈bs){N j n v:Int}{V:Rat}(W:0<N) (I:(v:Rat)=V*((p:Rat)*(m:Rat))):(trF p s m c).2*j=(v-(trF p s m c).1)*N+n*(2*(h.1-l.1)*N)↔c.pl+c.sp*moQ tk j N=V+(n:Rat)*(hi.1-lo.1+(hi.1-lo.1)):=by
 have U:(0:Rat)<(p:Rat):=wv.mpr w.p0
 have O:(0:Rat)<(m:Rat):=wv.mpr w.m0
 have np:(0:Rat)<(N:Rat):=wv.mpr W
 rw[<-yS,wf,wQ,wf,wf,yp,wf,wf,yp,w.e1 c G,w.e2 c G,w.el,w.eh,I,QQ,w.tk]
 have two:((2:Int):Rat)=2:=rfl
 rw[two]
 have S:=yg (yg U O) np
 generalize (p:Rat)=p' at *
 generalize (m:Rat)=m' at *
 generalize (N:Rat)=N' at *
 generalize (s:Rat)=s' at *
 generalize (j:Rat)=t' at *
 generalize (n:Rat)=n' at *
 have pn:p'≠0:=by grind
 have Y:N'≠0:=by grind
 have e1:c.sp*(s'*m')*t'=c.sp*(t'/N'*(s'/p'))*(p'*m'*N'):=by grind
 have e2:(V*(p'*m')-c.pl*(p'*m'))*N'+n'*(2*(hi.1*(p'*m')-lo.1*(p'*m'))*N')=(V-c.pl+n'*(hi.1-lo.1+(hi.1-lo.1)))*(p'*m'*N'):=by grind
 rw[e1,e2]
 have F:p'*m'*N'≠0:=by grind
 constructor
 ·intro e
  have:c.sp*(t'/N'*(s'/p'))=V-c.pl+n'*(hi.1-lo.1+(hi.1-lo.1)):=by
   have:=congrArg (· / (p'*m'*N')) e
   try dsimp only at this
   rw[uX F,uX F]at this
   exact this
  rw[this];grind
 ·intro e
  have:c.sp*(t'/N'*(s'/p'))=V-c.pl+n'*(hi.1-lo.1+(hi.1-lo.1)):=by grind
  rw[this]
theorem WhR.v2 (w:WhR bs lo hi y p s m z trs l h tk):((2*l.1-z:Int):Rat)=(2*lo.1-y)*((p:Rat)*(m:Rat)):=by
 rw[yp,wf,w.el,w.ez]
 have two:((2:Int):Rat)=2:=rfl
 rw[two];grind
theorem WhR.sp0 (w:WhR bs lo hi y p s m z trs l h tk){c:Bl}(F:c∈bs):(trF p s m c).2=0↔c.sp=0:=by
 have sp:(0:Rat)<(s:Rat):=wv.mpr w.s0
 have G:(0:Rat)<(m:Rat):=wv.mpr w.m0
 have e:=w.e2 c F
 have I:=yg sp G
 constructor
 ·intro q
  rw[q]at e
  have z:((0:Int):Rat)=0:=rfl
  rw[z]at e
  have:(s:Rat)*(m:Rat)≠0:=by grind
  rcases Y4.mp e.symm with q | q
  ·exact q
  ·exact absurd q this
 ·intro q
  rw[q,yT]at e
  exact yS.mp (e.trans (show (0:Rat)=((0:Int):Rat)from rL))
theorem WhR.gaps (w:WhR bs lo hi y p s m z trs l h tk) (V:lo.1<=y) (Y:y<=hi.1){N:Int}(O:0<N) (dv:∀g∈zR l.1 z trs,zY g.1 ∣ N){j:Int}:(∃g∈zR l.1 z trs,∃n:Int,j=Xy N g+n*v4 (2*(h.1-l.1)) N g)↔PsQ lo.1 hi.1 (lsQ bs) y (moQ tk j N):=by
 constructor
 ·rintro ⟨g,mg,hn⟩
  obtain⟨t,S,G,e1,e2⟩:=Xo mg
  rw[w.et]at S
  obtain⟨c,F,rfl⟩:=wj.mp S
  obtain⟨n,I⟩:=(zak (by rw[e1];exact G) (dv g mg)).mp hn
  exists(c.pl,c.sp),wj.mpr ⟨c,F,rfl⟩,λq=>G ((w.sp0 F).mpr q)
  refine(Qr w.lh V Y).mpr ⟨n,?_⟩
  rw[e1]at I
  rcases e2 with e2 | e2
  ·rw[e2]at I;exact .inl ((w.eqn F O w.ez).mp I)
  ·rw[e2]at I;exact .inr ((w.eqn F O w.v2).mp I)
 ·rintro ⟨u,mu,u0,e⟩
  obtain⟨c,F,rfl⟩:=wj.mp mu
  have G:(trF p s m c).2≠0:=λq=>u0 ((w.sp0 F).mp q)
  obtain⟨W,U⟩:=QM (l0:=l.1) (z:=z) (trs:=trs) G (by rw[w.et];exact wj.mpr ⟨c,F,rfl⟩)
  obtain⟨n,e | e⟩:=(Qr w.lh V Y).mp e
  ·exact⟨_,W,(zak G (dv _ W)).mpr ⟨n,(w.eqn F O w.ez).mpr e⟩⟩
  ·exact⟨_,U,(zak G (dv _ U)).mpr ⟨n,(w.eqn F O w.v2).mpr e⟩⟩
theorem WhR.whole (w:WhR bs lo hi y p s m z trs l h tk) (y0:lo.1<=y) (y1:y<=hi.1){N:Int}(N0:0<N) (dv:∀g∈zR l.1 z trs,zY g.1 ∣ N){X:Rat}(P:PsQ lo.1 hi.1 (lsQ bs) y X):∃j:Int,X=moQ tk j N:=by
 obtain⟨u,mu,U,e⟩:=P
 obtain⟨c,O,rfl⟩:=wj.mp mu
 have t0:(trF p s m c).2≠0:=λq=>U ((w.sp0 O).mp q)
 obtain⟨g1,S⟩:=QM (l0:=l.1) (z:=z) (trs:=trs) t0 (by rw[w.et];exact wj.mpr ⟨c,O,rfl⟩)
 have G:∀(V:Rat) (v:Int) (n:Int),(v:Rat)=V*((p:Rat)*(m:Rat))->((trF p s m c).2,v-(trF p s m c).1)∈zR l.1 z trs->c.pl+c.sp*X=V+(n:Rat)*(hi.1-lo.1+(hi.1-lo.1))->∃j:Int,X=moQ tk j N:=λV v n W mg e=>by
  obtain⟨d,hd⟩:=dv _ mg
  obtain⟨F,I⟩:∃F:Int,N=(trF p s m c).2*F:=by
   by_cases q:(trF p s m c).2<0
   ·refine⟨-d,?_⟩;rw[hd];show zY (trF p s m c).2*d=_;unfold zY;rw[if_pos q];grind
   ·refine⟨d,?_⟩;rw[hd];show zY (trF p s m c).2*d=_;unfold zY;rw[if_neg q]
  refine⟨(v-(trF p s m c).1+n*(2*(h.1-l.1)))*F,?_⟩
  have q:=(w.eqn O (j:=(v-(trF p s m c).1+n*(2*(h.1-l.1)))*F) (n:=n) N0 W).mp (by
   conv=>rhs;rw[I]
   grind)
  have:c.sp*X=c.sp*moQ tk ((v-(trF p s m c).1+n*(2*(h.1-l.1)))*F) N:=by grind
  generalize moQ tk ((v-(trF p s m c).1+n*(2*(h.1-l.1)))*F) N=Y at this
  clear q e
  grind
 obtain⟨n,e | e⟩:=(Qr w.lh y0 y1).mp e
 ·exact G y z n w.ez g1 e
 ·exact G _ (2*l.1-z) n w.v2 S e
theorem za4 {tk:Rat}(G:0<tk){N:Int}(F:0<N){i j:Int}:moQ tk i N<moQ tk j N↔i<j:=by
 rw[QQ,QQ]
 have np:(0:Rat)<(N:Rat):=wv.mpr F
 have e:∀a:Int,(a:Rat)/(N:Rat)*tk=(tk/(N:Rat))*(a:Rat):=λa=>by
  generalize (N:Rat)=n at *;generalize (a:Rat)=a' ;grind
 rw[e,e,qB (vS G np)]
 exact yY
theorem LkO.q (w:WhR bs lo hi y p s m z trs l h tk) (W:lo.1<=y) (y1:y<=hi.1) (eb:b=((x/tk).num,((x/tk).den:Int))) (A:LkA (2*(h.1-l.1)) b l' (zR l.1 z trs)) (el:l'=((R/tk).num,((R/tk).den:Int))){ms:List Int}{N:Int}(O:LkO (2*(h.1-l.1)) b (zR l.1 z trs) ms N (some l')):0<N/\LkQ (PsQ lo.1 hi.1 (lsQ bs) y) x (some R) (ms.map λt=>moQ tk t N):=by
 obtain⟨rfl,V,nd,so⟩:=O
 have U:=w.tk0
 have tn:tk≠0:=by grind
 have F:=A.N.1
 have dv:=A.N.2.2
 have B0:=A.B.1
 have NB:=A.N.2.1
 have eF:=A.eF
 have eL:=A.eL
 have I:=A.bb.2.2
 have l2:=A.bl.2.2
 have bp:(0:Rat)<((lkB b l':Int):Rat):=wv.mpr B0
 have a1:(0:Rat)<((b.2:Int):Rat):=wv.mpr I
 have a2:(0:Rat)<((l'.2:Int):Rat):=wv.mpr l2
 have S:∀v:Int,moQ tk (lkU b l' (zR l.1 z trs) v) (lkN b l' (zR l.1 z trs))=(v:Rat)/((lkB b l':Int):Rat)*tk:=λv=>by
  unfold lkU
  obtain⟨d,hd⟩:=NB
  have e:(lkN b l' (zR l.1 z trs)).fdiv (lkB b l')=d:=by rw[wD _ ∅,hd,yf _ ∅]
  rw[QQ,e,hd,wf,wf]
  have dp:((d:Int):Rat)≠0:=λq=>by
   have:d=0:=yS.mp (q.trans (show (0:Rat)=((0:Int):Rat)from rfl))
   rw[this,Int.mul_zero]at hd;lia
  generalize ((lkB b l':Int):Rat)=B at *
  generalize ((d:Int):Rat)=d' at *
  generalize (v:Rat)=v' at *
  clear hd e V eF eL
  congr 1
  have Bn:B≠0:=by grind
  grind
 have ex:(b.1:Rat)/(b.2:Rat)=x/tk:=by rw[eb];show ((x/tk).num:Rat)/(((x/tk).den:Int):Rat)=_;rw[<-wN];exact wY _
 have er:(l'.1:Rat)/(l'.2:Rat)=R/tk:=by rw[el];show ((R/tk).num:Rat)/(((R/tk).den:Int):Rat)=_;rw[<-wN];exact wY _
 have e1:moQ tk (lkU b l' (zR l.1 z trs) (lkF b l')) (lkN b l' (zR l.1 z trs))=x:=by
  rw[S]
  have:=congrArg (λi:Int=>(i:Rat)) eF
  try dsimp only at this
  rw[wf,wf]at this
  have e:((lkF b l':Int):Rat)/((lkB b l':Int):Rat)=(b.1:Rat)/(b.2:Rat):=by
   generalize ((lkF b l':Int):Rat)=f at *
   generalize ((lkB b l':Int):Rat)=B at *
   generalize ((b.1:Int):Rat)=b1 at *
   generalize ((b.2:Int):Rat)=I at *
   clear V eF eL ex er S
   have Bn:B≠0:=by grind
   have bn:I≠0:=by grind
   grind
  rw[e,ex];exact uG tn
 have e2:moQ tk (lkU b l' (zR l.1 z trs) (lkL b l')) (lkN b l' (zR l.1 z trs))=x+R:=by
  rw[S]
  rw[S]at e1
  have:=congrArg (λi:Int=>(i:Rat)) eL
  try dsimp only at this
  rw[wf,wf,yp]at this
  have eR:R=(l'.1:Rat)/(l'.2:Rat)*tk:=by rw[er];exact(uG tn).symm
  rw[eR,<-e1]
  generalize ((lkF b l':Int):Rat)=f at *
  generalize ((lkL b l':Int):Rat)=L at *
  generalize ((lkB b l':Int):Rat)=B at *
  generalize ((l'.1:Int):Rat)=b1 at *
  generalize ((l'.2:Int):Rat)=I at *
  clear V eF eL ex er S e1 eR
  have Bn:B≠0:=by grind
  have bn:I≠0:=by grind
  have:L/B=f/B+b1/I:=by grind
  rw[this];grind
 refine⟨F,ug.mpr ?_,λX=>?_⟩
 ·refine List.Pairwise.imp_of_mem (R:=λa b=>a<=b/\a≠b) (λ_ _ q=>(za4 U F).mpr (by have:=q.1;have:=q.2;lia)) (so.and nd)
 ·have key:∀j,j∈ms↔j=lkU b l' (zR l.1 z trs) (lkF b l')\/(lkU b l' (zR l.1 z trs) (lkF b l')<j/\j<lkU b l' (zR l.1 z trs) (lkL b l')/\∃g∈zR l.1 z trs,∃n:Int,j=Xy (lkN b l' (zR l.1 z trs)) g+n*v4 (2*(h.1-l.1)) (lkN b l' (zR l.1 z trs)) g):=λj=>by
   rw[V]
   unfold lkM
   rw[wu,zcN]
   constructor
   ·rintro (e | ⟨g,mg,hg⟩)
    ·exact .inl e
    ·obtain⟨h1,h2,G⟩:=(zcO (A.stp mg)).mp hg
     exact .inr ⟨h1,h2,g,mg,G⟩
   ·rintro (e | ⟨h1,h2,g,mg,G⟩)
    ·exact .inl e
    ·exact .inr ⟨g,mg,(zcO (A.stp mg)).mpr ⟨h1,h2,G⟩⟩
  constructor
  ·intro mX
   obtain⟨j,mj,rfl⟩:=wj.mp mX
   rcases(key j).mp mj with e | ⟨h1,h2,G⟩
   ·left;nofun
    rw[e];exact e1
   ·refine .inr ⟨R,rL,?_,?_,(w.gaps W y1 F dv).mp G⟩
    ·rw[<-e1];exact(za4 U F).mpr h1
    ·rw[<-e2];exact(za4 U F).mpr h2
  ·rintro (e | ⟨r,Y,h1,h2,G⟩)
   ·exact wj.mpr ⟨_,(key _).mpr (.inl rfl),by rw[e];exact e1⟩
   ·cases Y
    obtain⟨j,rfl⟩:=w.whole W y1 F dv G
    refine wj.mpr ⟨j,(key j).mpr (.inr ⟨?_,?_,(w.gaps W y1 F dv).mpr G⟩),rL⟩
    ·refine(za4 U F).mp ?_;rw[e1];exact h1
    ·refine(za4 U F).mp ?_;rw[e2];exact h2
end
def jT (pss:List (Int×List Int)):List (Int×Int):=pss.flatMap λe=>e.2.map λq=>(e.1,q)
def Zl (e:Int×List Int) (pss:List (Int×List Int)):jT (e::pss)=(e.2.map λq=>(e.1,q))++jT pss:=List.flatMap_cons
def zbz {k w:Int}:∀{ps:List (Int×List Int)},(∀p∈ps,p.1≠k)->ps.map (λp=>if p.1=k then(p.1,p.2++[w])else p)=ps
 |[],_=>rfl
 |p::ps,h=>by rw[yn,if_neg (h p (.head _)),zbz λq m=>h q (.tail _ m)]
def zaR {k w:Int}:∀{ps:List (Int×List Int)},(ps.map Prod.fst).Nodup->(ps.any λp=>decide (p.1=k))=true->(jT (ps.map λp=>if p.1=k then(p.1,p.2++[w])else p)).Perm (jT ps++[(k,w)])
 |[],_,h=>by simp at h
 |p::ps,nd,h=>by
  rw[yn]at nd
  obtain⟨na,F⟩:=uE.mp nd
  rw[yn]
  by_cases c:p.1=k
  ·rw[if_pos c,zbz λq m e=>na (by rw[c,<-e];exact wj.mpr ⟨q,m,rfl⟩),Zl,Zl]
   show (((p.2++[w]).map λq=>(p.1,q))++jT ps).Perm _
   rw[yx,c,yo,yo]
   exact(Ws).append_left _
  ·rw[if_neg c,Zl,Zl,yo]
   refine List.Perm.append_left _ (zaR F ?_)
   rw[Yc,wx c,YL]at h
   exact h
def zdv {k w:Int}{ps:List (Int×List Int)} (F:(ps.map Prod.fst).Nodup):(jT (Zy ps k w)).Perm (jT ps++[(k,w)]):=by
 unfold Zy
 split
 ·rename_i h;exact zaR F h
 ·unfold jT
  rw[List.flatMap_append]
  exact .refl _
def phW (l T:Int) (u:Int×Int):Int×Int:=(zY u.2,if u.2<0 then T-(u.1-l)else u.1-l)
def VT (u:Int×Int):Bool:=decide (u.2≠0)
def zap {l T:Int}:∀(js:List (Int×Int)) (ps:List (Int×List Int)),(ps.map Prod.fst).Nodup->(jT (js.foldl (Zd l T) ps)).Perm (jT ps++(js.filter VT).map (phW l T))
 |[],ps,_=>by rw[Y9,List.filter_nil,YV,yO]
 |u::js,ps,nd=>by
  rw[uF]
  by_cases c:u.2=0
  ·have e1:Zd l T ps u=ps:=by unfold Zd;rw[if_neg ∅,if_neg ∅]
   rw[e1,List.filter_cons_of_neg (by unfold VT;simp[c])]
   exact zap js ps nd
  ·have e1:Zd l T ps u=Zy ps (phW l T u).1 (phW l T u).2:=by
    unfold Zd phW zY
    by_cases a:0<u.2
    ·rw[if_pos a];simp only;rw[if_neg ∅,if_neg ∅]
    ·rw[if_neg a,if_pos ∅];simp only;rw[if_pos ∅,if_pos ∅]
   rw[e1,List.filter_cons_of_pos (by unfold VT;simp[c]),yn]
   refine(zap js _ (zcp nd)).trans ?_
   have:=(zdv (k:=(phW l T u).1) (w:=(phW l T u).2) nd).append_right ((js.filter VT).map (phW l T))
   refine this.trans ?_
   rw[yo];exact .refl _
def zaQ {e:Int×List Int}:∀{pss:List (Int×List Int)},(pss.map Prod.fst).Nodup->e∈pss->(jT pss).filter (λw=>decide (w.1=e.1))=e.2.map λq=>(e.1,q)
 |[],_,m=>by cases m
 |p::pss,nd,m=>by
  rw[yn]at nd
  obtain⟨na,I⟩:=uE.mp nd
  rw[Zl,ut]
  have all:∀(k:Int) (l:List Int),(l.map λq=>(k,q)).filter (λw=>decide (w.1=k))=l.map λq=>(k,q):=λk l=>List.filter_eq_self.mpr λa F=>by
   obtain⟨q,_,rfl⟩:=wj.mp F;exact wm rfl
  have S:∀(k G:Int) (l:List Int),k≠G->(l.map λq=>(k,q)).filter (λw=>decide (w.1=G))=[]:=λk G l h=>List.filter_eq_nil_iff.mpr λa F=>by
   obtain⟨q,_,rfl⟩:=wj.mp F;simpa using h
  rcases wu.mp m with rfl | m
  ·rw[all]
   have:(jT pss).filter (λw=>decide (w.1=e.1))=[]:=List.filter_eq_nil_iff.mpr λa F=>by
    obtain⟨x,O,F⟩:=List.mem_flatMap.mp F
    obtain⟨q,_,rfl⟩:=wj.mp F
    simp only[yL]
    exact λz=>na (by rw[<-z];exact wj.mpr ⟨x,O,rfl⟩)
   rw[this,yO]
  ·rw[S _ _ _ (λz=>na (by rw[z];exact wj.mpr ⟨e,m,rfl⟩)),WM]
   exact zaQ I m
def ze8 {P:Nat->Prop}:∀n:Nat,(∃m,1<=m/\m<=n/\P m)->∃M,1<=M/\M<=n/\P M/\∀m,1<=m->m<=n->P m->m<=M
 |0,h=>by obtain⟨m,h1,h2,_⟩:=h;lia
 |n+1,h=>by
  rcases Classical.em (P (n+1))with c | c
  ·exact⟨n+1,by lia,wn _,c,λm _ h _=>h⟩
  ·obtain⟨m,h1,h2,F⟩:=h
   have ne:m≠n+1:=λe=>c (e ▸ F)
   obtain⟨M,I,S,G,O⟩:=ze8 n ⟨m,h1,by lia,F⟩
   exact⟨M,I,by lia,G,λk k1 k2 k3=>O k k1 (by
    have:k≠n+1:=λe=>c (e ▸ k3)
    lia) k3⟩
def KgZ.ex {l T:Int}{js:List (Int×Int)}{pss:List (Int×List Int)} (I:PhJ l T js pss):∃F,KgZ T pss F:=by
 have S:∀e∈pss,∃M,GmZ T e.2 M:=λe G=>by
  obtain⟨M,W,Y,V,a4⟩:=ze8 (P:=λm=>xX e.2 T (m:Int)=true) e.2.length ⟨1,wn _,I.l1 e G,Ju (I.inn e G)⟩
  exact⟨M,W,Y,V,a4⟩
 have:∀ks:List Int,(∀k∈ks,k∈pss.map Prod.fst)->∃F:List (Int×Int),F.map Prod.fst=ks/\∀u∈F,∃ps M,(u.1,ps)∈pss/\u.2=((M:Nat):Int)/\GmZ T ps M:=by
  intro ks
  induction ks with
  |nil=>intro _;exact⟨[],rfl,λu m=>by cases m⟩
  |cons k ks ih =>
   intro h
   obtain⟨F,e1,e2⟩:=ih λx m=>h x (wT _ m)
   obtain⟨e,G,U⟩:=wj.mp (h k wF)
   obtain⟨M,O⟩:=S e G
   refine⟨(k,(M:Int))::F,by rw[yn,e1],λu m=>?_⟩
   rcases wu.mp m with rfl | m
   ·exact⟨e.2,M,by rw[<-U];exact G,rfl,O⟩
   ·exact e2 u m
 obtain⟨F,e1,e2⟩:=this (zbq (pss.map Prod.fst)) λk m=>(vK _).mem_iff.mp m
 exact⟨F,by rw[e1];exact vK _,by rw[e1];exact zaB _,e2⟩
def zfp {α β:Type}{f:α->β}{g:β->α}(h:∀x,g (f x)=x){a b:List α}:(a.map f).Perm (b.map f)↔a.Perm b:=by
 constructor
 ·intro p
  have:=p.map g
  rw[wG,wG]at this
  have e:∀l:List α,l.map (g ∘ f)=l:=λl=>by
   conv=>rhs;rw[<-Uc l]
   exact wy λx _=>h x
  rw[e,e]at this
  exact this
 ·exact λp=>p.map f
def zcu {p T:Int}{F:Rat}(p0:0<p) (eT:(T:Rat)=F*(p:Rat)) (T0:0<T){ps:List Int}(V:∀q∈ps,0<=q/\q<T){m:Nat}(m1:1<=m):xX ps T (m:Int)=true↔J2 F (ps.map λq:Int=>(q:Rat)/(p:Rat)) m:=by
 rw[Jt]
 unfold J2
 have O:(0:Rat)<(p:Rat):=wv.mpr p0
 have mp:(0:Rat)<((m:Int):Rat):=wv.mpr ∅
 have Tp:(0:Rat)<(T:Rat):=wv.mpr T0
 have pn:(p:Rat)≠0:=by grind
 have mn:((m:Int):Rat)≠0:=by grind
 have W:(p:Rat)*((m:Int):Rat)≠0:=by have:=yg O mp;grind
 have a3:0<F:=by
  have:F=(T:Rat)/(p:Rat):=by grind
  rw[this];exact vS Tp O
 have G:∀{a b:Rat},a<b->a/(p:Rat)<b/(p:Rat):=λh=>by
  rw[Wp,Wp];exact ux h (YN.mpr O)
 rw[<-zfp (f:=λi:Int=>(i:Rat)/((p:Rat)*((m:Int):Rat))) (g:=λx:Rat=>(x*((p:Rat)*((m:Int):Rat))).num) (λi=>by
  show ((i:Rat)/((p:Rat)*((m:Int):Rat))*((p:Rat)*((m:Int):Rat))).num=i
  rw[uG W,Yj])]
 rw[wG,wG,wG,wG]
 have e1:ps.map ((λi:Int=>(i:Rat)/((p:Rat)*((m:Int):Rat))) ∘ λq=>q*(m:Int))=ps.map ((λh=>rst h F) ∘ λq:Int=>(q:Rat)/(p:Rat)):=wy λq hq=>by
  obtain⟨q0,q1⟩:=V q hq
  show ((q*(m:Int):Int):Rat)/_=rst ((q:Rat)/(p:Rat)) F
  have a0:(0:Rat)<=(q:Rat):=uW.mpr q0
  have I:(q:Rat)<(T:Rat):=yY.mpr q1
  have b0:0<=(q:Rat)/(p:Rat):=by rw[Wp];exact u6 a0 (yc (YN.mpr O))
  have b1:(q:Rat)/(p:Rat)<F:=by
   have:=G I
   have e:(T:Rat)/(p:Rat)=F:=by grind
   rw[e]at this;exact this
  rw[zfF b0 b1,wf]
  generalize ((m:Int):Rat)=M at *
  generalize (p:Rat)=P at *
  generalize (q:Rat)=Q at *
  clear a0 I b0 b1 G
  grind
 have e2:ps.map ((λi:Int=>(i:Rat)/((p:Rat)*((m:Int):Rat))) ∘ λq=>(q*(m:Int)+T) % (T*(m:Int)))=ps.map ((λh=>rst (h+F/((m:Int):Rat)) F) ∘ λq:Int=>(q:Rat)/(p:Rat)):=wy λq hq=>by
  show (((q*(m:Int)+T) % (T*(m:Int)):Int):Rat)/_=rst ((q:Rat)/(p:Rat)+F/((m:Int):Rat)) F
  have Tm:0<T*(m:Int):=wP T0 ∅
  have r0:=yD (q*(m:Int)+T) (b:=T*(m:Int)) ∅
  have r1:=yE (q*(m:Int)+T) Tm
  have rk:=uU (q*(m:Int)+T) (T*(m:Int))
  generalize (q*(m:Int)+T) % (T*(m:Int))=r at *
  generalize (q*(m:Int)+T)/(T*(m:Int))=k at *
  have a0:(0:Rat)<=(r:Rat):=uW.mpr r0
  have I:(r:Rat)<((T*(m:Int):Int):Rat):=yY.mpr r1
  have S:=congrArg (λi:Int=>(i:Rat)) rk
  try dsimp only at S
  rw[wQ,wf,wQ,wf,wf]at S
  rw[wf]at I
  have U:=yg O mp
  have Y:=YN.mpr U
  symm
  refine QV (k:=k) ?_ ?_ ?_
  ·rw[Wp];exact u6 a0 (yc Y)
  ·have:=ux I Y
   rw[<-Wp,<-Wp]at this
   have e:(T:Rat)*((m:Int):Rat)/((p:Rat)*((m:Int):Rat))=F:=by
    rw[eT]
    generalize ((m:Int):Rat)=M at *
    generalize (p:Rat)=P at *
    clear a0 I S G this
    grind
   rw[e]at this;exact this
  ·generalize ((m:Int):Rat)=M at *
   generalize (p:Rat)=P at *
   generalize (q:Rat)=Q at *
   generalize (k:Rat)=k' at *
   generalize (r:Rat)=r' at *
   rw[eT]at S
   clear a0 I G Y
   grind
 rw[e1,e2]
def GmZ.gr {p T:Int}{S:Rat}(V:0<p) (U:(T:Rat)=S*(p:Rat)) (I:0<T){ps:List Int}(F:∀q∈ps,0<=q/\q<T){M:Nat}(g:GmZ T ps M):GrR S (ps.map λq:Int=>(q:Rat)/(p:Rat)) M :=
 ⟨g.m1,by rw[wc];exact g.m2,(zcu V U I F g.m1).mp g.m3,λm O G c=>g.m4 m O (by rw[wc]at G;exact G) ((zcu V U I F O).mpr c)⟩
def zgz {T:Rat}{a b:List Rat}(h:a.Perm b):AlR T 0 a b:=by
 refine(h.symm.map λx=>rst x T).trans (.of_eq (wy λx _=>?_))
 rw[Y3]
section
variable {bs:List Bl}{lo hi:Rat×Rat}{p s T:Int}{tk:Rat}{pss:List (Int×List Int)}
theorem zjv (U:pss=phO (trB p s lo).1 T (bs.map λb=>trB p s (b.pl,b.sp))) (p0:0<p) (s0:0<s) (eT:(T:Rat)=(hi.1-lo.1+(hi.1-lo.1))*(p:Rat)) (el:(((trB p s lo).1:Int):Rat)=lo.1*(p:Rat)) (h1:∀b∈bs,(((trB p s (b.pl,b.sp)).1:Int):Rat)=b.pl*(p:Rat)) (h2:∀b∈bs,(((trB p s (b.pl,b.sp)).2:Int):Rat)=b.sp*(s:Rat)) (nd:(pss.map Prod.fst).Nodup){c:Rat}(G:0<c) :
  (∀e∈pss,(e.1:Rat)=c*(s:Rat)->(e.2.map λq:Int=>(q:Rat)/(p:Rat)).Perm (zac lo.1 hi.1 c (lsQ bs)))/\((∃u∈lsQ bs,qe u=c)->∃e∈pss,(e.1:Rat)=c*(s:Rat)):=by
 have pp:(0:Rat)<(p:Rat):=wv.mpr p0
 have sp:(0:Rat)<(s:Rat):=wv.mpr s0
 have fl:(jT pss).Perm (((bs.map λb=>trB p s (b.pl,b.sp)).filter VT).map (phW (trB p s lo).1 T)):=by
  rw[U];unfold phO
  have:=zap (l:=(trB p s lo).1) (T:=T) (bs.map λb=>trB p s (b.pl,b.sp)) [] (by simp)
  exact this
 have ab:∀b∈bs,(((zY (trB p s (b.pl,b.sp)).2):Int):Rat)=qe (b.pl,b.sp)*(s:Rat):=λb F=>by
  have e:=h2 b F
  have neg:(trB p s (b.pl,b.sp)).2<0↔b.sp<0:=by
   have:((trB p s (b.pl,b.sp)).2<0↔(((trB p s (b.pl,b.sp)).2:Int):Rat)<((0:Int):Rat)):=yY.symm
   rw[this,e]
   have z:((0:Int):Rat)=0:=rfl
   rw[z]
   constructor
   ·intro q
    by_cases c:b.sp<0
    ·exact c
    ·have:=u6 (show 0<=b.sp by grind) (yc sp);grind
   ·intro q
    have:=yg (show 0 < -b.sp by grind) sp;grind
  unfold zY qe
  by_cases q:(trB p s (b.pl,b.sp)).2<0
  ·rw[if_pos q,if_pos (neg.mp q),yq,e];grind
  ·rw[if_neg q,if_neg λz=>q (neg.mpr z),e]
 have key:∀b∈bs,∀k:Int,(k:Rat)=c*(s:Rat)->(zY (trB p s (b.pl,b.sp)).2=k↔qe (b.pl,b.sp)=c):=λb F k hk=>by
  rw[<-yS,ab b F,hk]
  have sn:(s:Rat)≠0:=by grind
  constructor
  ·intro q
   have:=congrArg (· / (s:Rat)) q
   try dsimp only at this
   rw[uX sn,uX sn]at this
   exact this
  ·intro q;rw[q]
 refine⟨λe V ek=>?_,λhc=>?_⟩
 ·have Y:=zaQ nd V
  have p1:=fl.filter λw=>decide (w.1=e.1)
  rw[Y,Yl,List.filter_filter,Yl]at p1
  have p2:=(p1.map λw:Int×Int=>(w.2:Rat)/(p:Rat))
  rw[wG,wG,wG]at p2
  refine(List.Perm.of_eq ?_).trans (p2.trans (.of_eq ?_))
  ·exact wy λ_ _=>rL
  ·unfold zac lsQ
   rw[Yl,wG]
   have ef:bs.filter ((λa=>decide ((phW (trB p s lo).1 T a).1=e.1)&&VT a) ∘ λb:Bl=>trB p s (b.pl,b.sp))=bs.filter (ofP c ∘ λb:Bl=>(b.pl,b.sp)):=WW λb F=>by
    show (decide (zY (trB p s (b.pl,b.sp)).2=e.1)&&VT (trB p s (b.pl,b.sp)))=decide (qe (b.pl,b.sp)=c)
    have k:=key b F e.1 ek
    by_cases q:qe (b.pl,b.sp)=c
    ·rw[wm q,wm (k.mpr q)]
     have:(trB p s (b.pl,b.sp)).2≠0:=λz=>by
      have:=h2 b F
      rw[z]at this
      have e0:b.sp=0:=by
       rcases Y4.mp (show b.sp*(s:Rat)=0 from this.symm)with z | z
       ·exact z
       ·exfalso;rw[z]at sp;exact absurd sp ⇑1
      unfold qe at q;dsimp only at q;rw[e0]at q;rw[if_neg ⇑1]at q;rw[<-q]at G;exact absurd G ⇑1
     unfold VT;rw[wm this];rfl
    ·rw[wx q,wx λz=>q (k.mp z)];rfl
   have W:∀g:Int×Int->Bool,(∀a,g a=(decide ((phW (trB p s lo).1 T a).1=e.1)&&VT a))->bs.filter (g ∘ λb:Bl=>trB p s (b.pl,b.sp))=bs.filter (ofP c ∘ λb:Bl=>(b.pl,b.sp)):=λg hg=>by
    rw[<-ef];exact WW λb _=>hg _
   refine Eq.trans (congrArg (List.map _) (W _ λa=>rL)) ?_
   refine wy λb F=>?_
   have I:b∈bs:=(yZ.mp F).1
   have S:qe (b.pl,b.sp)=c:=ww (yZ.mp F).2
   show (((phW (trB p s lo).1 T (trB p s (b.pl,b.sp))).2:Int):Rat)/(p:Rat)=vY lo.1 hi.1 (b.pl,b.sp)
   have e1:=h1 b I
   have e2:=h2 b I
   have pos:(trB p s (b.pl,b.sp)).2<0↔¬ 0<b.sp:=by
    have:((trB p s (b.pl,b.sp)).2<0↔(((trB p s (b.pl,b.sp)).2:Int):Rat)<((0:Int):Rat)):=yY.symm
    rw[this,e2]
    have z:((0:Int):Rat)=0:=rfl
    rw[z]
    constructor
    ·intro q r
     have:=yg r sp;grind
    ·intro q
     have:b.sp≠0:=λz=>by unfold qe at S;dsimp only at S;rw[z,if_neg ⇑1]at S;rw[<-S]at G;exact absurd G ⇑1
     have:=yg (show 0 < -b.sp by grind) sp;grind
   unfold phW vY
   nofun
   have pn:(p:Rat)≠0:=by grind
   by_cases q:(trB p s (b.pl,b.sp)).2<0
   ·rw[if_pos q,if_neg (pos.mp q),yp,yp,e1,el,eT];grind
   ·rw[if_neg q,if_pos (by
     by_cases r:0<b.sp
     ·exact r
     ·exact absurd (pos.mpr r) q),yp,e1,el];grind
 ·obtain⟨u,mu,O⟩:=hc
  obtain⟨b,F,rfl⟩:=wj.mp mu
  have mv:VT (trB p s (b.pl,b.sp))=true:=by
   unfold VT
   refine wm λz=>?_
   have:=h2 b F
   rw[z]at this
   have e0:b.sp=0:=by
    rcases Y4.mp (show b.sp*(s:Rat)=0 from this.symm)with z | z
    ·exact z
    ·exfalso;rw[z]at sp;exact absurd sp ⇑1
   unfold qe at O;dsimp only at O;rw[e0,if_neg ⇑1]at O;rw[<-O]at G;exact absurd G ⇑1
  have m1:phW (trB p s lo).1 T (trB p s (b.pl,b.sp))∈jT pss:=fl.mem_iff.mpr (wj.mpr ⟨_,yZ.mpr ⟨wj.mpr ⟨b,F,rfl⟩,mv⟩,rfl⟩)
  obtain⟨e,V,h⟩:=List.mem_flatMap.mp m1
  obtain⟨q,_,h'⟩:=wj.mp h
  exists e,V
  have:e.1=zY (trB p s (b.pl,b.sp)).2:=congrArg Prod.fst h'
  rw[this,ab b F,O]
theorem zlg (Z:RwZ bs lo hi) (ep:p=pbO bs (some lo) (some hi)) (es:s=sbO bs (some lo) (some hi)) (rg:RoG bs lo hi T s tk pss) (pj:PhJ (trB p s lo).1 T (bs.map λb=>trB p s (b.pl,b.sp)) pss) (ne:pss≠[]){I:List (Int×Int)} (kz:KgZ T pss I):Xw lo.1 hi.1 (lsQ bs) (xl (ptL T tk I)):=by
 have F:=Z.f
 rw[<-ep,<-es]at F
 have et:tk=Rat.divInt s p:=by rw[es,ep];exact rg.etk
 have V:T=2*((trB p s hi).1-(trB p s lo).1):=by rw[es,ep];exact rg.eT
 have a4:pss=phO (trB p s lo).1 T (bs.map λb=>trB p s (b.pl,b.sp)):=by rw[es,ep];exact rg.eph.symm
 have Rr:=Z.rat ep es et V
 have s0:=F.s0
 have p0:=F.p0
 have T0:0<T:=by rw[V];have:=F.lh;lia
 have pp:(0:Rat)<(p:Rat):=wv.mpr p0
 have sp:(0:Rat)<(s:Rat):=wv.mpr s0
 have eT:(T:Rat)=(hi.1-lo.1+(hi.1-lo.1))*(p:Rat):=by rw[Rr.T];grind
 have G:=λ{c:Rat}(O:0<c)=>zjv (hi:=hi) a4 p0 s0 eT (jR (F.pd _ (vi rfl))) (λb hb=>jR (F.pd _ (XD (lo:=some lo) (hi:=some hi) hb))) Rr.v pj.nd O
 have W0:0<hi.1-lo.1+(hi.1-lo.1):=by have:=Z.lh;grind
 have pv:∀(c:Rat) (v:Int) (M:Nat),0<c->1<=M->(v:Rat)=c*(s:Rat)->0<v->vP T v (M:Int) tk=(hi.1-lo.1+(hi.1-lo.1))/(((M:Int):Rat)*c):=λc v M O M1 ev v0=>by
  have Mp:=Xk M1
  rw[za7 ∅ ∅,ev,eT,Rr.tk]
  generalize ((M:Int):Rat)=M' at *
  generalize (p:Rat)=p' at *
  generalize (s:Rat)=s' at *
  generalize hi.1-lo.1+(hi.1-lo.1)=W at *
  clear G Rr F Z V
  grind
 have S:∀v∈I,∃(c:Rat) (M:Nat),0<c/\(∃u∈lsQ bs,qe u=c)/\(v.1:Rat)=c*(s:Rat)/\GrR (hi.1-lo.1+(hi.1-lo.1)) (zac lo.1 hi.1 c (lsQ bs)) M/\vP T v.1 v.2 tk=(hi.1-lo.1+(hi.1-lo.1))/(((M:Int):Rat)*c):=λv U=>by
  obtain⟨ps,M,a1,a2,a3⟩:=kz.gm v U
  have v0:=pj.k0 _ a1
  obtain⟨t,mt,Y⟩:=pj.of _ a1
  obtain⟨b,hb,rfl⟩:=wj.mp mt
  have hv:=Rr.v b hb
  have vp:(0:Rat)<(v.1:Rat):=wv.mpr v0
  have e1:(v.1:Rat)=qe (b.pl,b.sp)*(s:Rat):=by
   dsimp only at Y
   unfold qe
   nofun
   rcases Y with Y | Y
   ·rw[Y]at hv
    have:¬b.sp<0:=λq=>by have:=yg (show 0 < -b.sp by grind) sp;grind
    rw[if_neg this];exact hv
   ·rw[Y,yq]at hv
    have:b.sp<0:=by
     by_cases q:b.sp<0
     ·exact q
     ·have:=u6 (show 0<=b.sp by grind) (yc sp);grind
    rw[if_pos this];grind
  have O:0<qe (b.pl,b.sp):=by
   have:=zfl (b.pl,b.sp)
   by_cases q:qe (b.pl,b.sp)=0
   ·rw[q,yT]at e1;grind
   ·grind
  exists _,M,O,⟨_,wj.mpr ⟨b,hb,rfl⟩,rfl⟩,e1,?_
  ·exact AlR.gr W0 (zgz ((G O).1 _ a1 e1)) (GmZ.gr p0 eT T0 (pj.inn _ a1) a3)
  ·rw[a2];exact pv _ _ M O a3.m1 e1 v0
 have n0:∀q∈ptL T tk I,0<q.num:=λq mq=>by
  obtain⟨v,U,rfl⟩:=wj.mp mq
  obtain⟨c,M,O,_,_,g,e⟩:=S v U
  rw[e]
  exact zU (Qp W0 (yg (Xk g.m1) O))
 have kl:I.length=pss.length:=by have:=kz.pm.length_eq;rw[wc,wc]at this;exact this
 have l1:1<=(ptL T tk I).length:=by
  unfold ptL;rw[wc,kl]
  rcases pss with _ | ⟨x,l⟩
  ·exact absurd rL ne
  ·simp
 refine⟨JF l1 n0,λc O hc=>?_,λX hX=>?_⟩
 ·obtain⟨e,me,ee⟩:=(G O).2 hc
  have:e.1∈I.map Prod.fst:=kz.pm.mem_iff.mpr (wj.mpr ⟨e,me,rfl⟩)
  obtain⟨v,U,ev⟩:=wj.mp this
  obtain⟨c',M,a6,a5,e1,g,e2⟩:=S v U
  have:c'=c:=by
   rw[ev,ee]at e1
   have sn:(s:Rat)≠0:=by grind
   have:=congrArg (· / (s:Rat)) e1
   try dsimp only at this
   rw[uX sn,uX sn]at this
   exact this.symm
  subst this
  exists M,g
  rw[<-e2]
  exact JE l1 n0 (wj.mpr ⟨v,U,rL⟩)
 ·refine JD l1 n0 λq mq=>?_
  obtain⟨v,U,rfl⟩:=wj.mp mq
  obtain⟨c,M,O,hc,_,g,e⟩:=S v U
  rw[e]
  exact hX c O hc M g
end
end KK
namespace KM
def ThL (lo hi:Rat) (ls:List (Rat×Rat)) (k:Int) (y x:Rat):Prop:=ThQ (ls.map (xG lo hi x)) k y
def RdO (lo hi:Rat) (ls:List (Rat×Rat)):Option Rat->Prop
 |none=>∀u∈ls,u.2=0
 |some R=>(∃u∈ls,u.2≠0)/\Xw lo hi ls R
def qD (lo hi:Rat) (ls:List (Rat×Rat)) (k:Int) (y x:Rat):Rat ⊕ List Rat->Prop
 |.inl m=>AtQ (ThL lo hi ls k y) x m
 |.inr ms=>NvQ (ThL lo hi ls k y) x/\∃R,RdO lo hi ls R/\LkQ (PsQ lo hi ls y) x R ms
def zco (lo hi:Rat) (ls:List (Rat×Rat)) (y x m:Rat):Prop:=∃R,RdO lo hi ls R/\(m=x\/∃r,R=some r/\x<m/\m<x+r/\PsQ lo hi ls y m)
section
variable {lo hi y x R:Rat}{ls ls':List (Rat×Rat)}{k:Int}
theorem ThQ.perm {ps F:List Rat}(h:ps.Perm F) (t:ThQ ps k y):ThQ F k y:=by
 unfold ThQ at *
 rw[<-h.countP_eq,<-h.countP_eq];exact t
theorem RdO.free (h:RdO lo hi ls none) (x:Rat):¬PsQ lo hi ls y x:=λ⟨u,mu,u0,_⟩=>u0 (h u mu)
theorem RdO.per {R:Option Rat}(lh:lo<hi) (h:RdO lo hi ls R):∀r,R=some r->0<r/\∀x,ThL lo hi ls k y (x+r)->ThL lo hi ls k y x:=λr e=>by
 subst e
 exact⟨h.2.r0,λx t=>ThQ.perm (h.2.per lh x) t⟩
theorem Xw.uniq {R F:Rat}(lh:lo<hi) (h:Xw lo hi ls R) (h':Xw lo hi ls F):R=F:=by
 have:=Xw.two (ρ:=1) lh rfl ⇑1 h h' (λc _=>by rw[WV]) (λc _ _=>⟨0,by rw[WV];exact .of_eq (wy λx _=>by rw[Y3])⟩)
 rw[WV]at this;exact this
theorem RdO.uniq {R F:Option Rat}(lh:lo<hi) (h:RdO lo hi ls R) (h':RdO lo hi ls F):R=F:=by
 cases R with
 |none =>
  cases F with
  |none=>rfl
  |some r'=>obtain⟨⟨u,G,I⟩,_⟩:=h';exact absurd (h u G) I
 |some r =>
  cases F with
  |none=>obtain⟨⟨u,G,I⟩,_⟩:=h;exact absurd (h' u G) I
  |some r'=>rw[Xw.uniq lh h.2 h'.2]
theorem qD.uniq {o o':Rat ⊕ List Rat}(lh:lo<hi) (h:qD lo hi ls k y x o) (h':qD lo hi ls k y x o'):o=o':=by
 cases o with
 |inl m =>
  cases o' with
  |inl m'=>rw[AtQ.uniq h h']
  |inr ms=>exact(AtQ.nn h h'.1).elim
 |inr ms =>
  cases o' with
  |inl m=>exact(AtQ.nn h' h.1).elim
  |inr ms' =>
   obtain⟨_,R,O,F⟩:=h
   obtain⟨_,S,I,G⟩:=h'
   rw[RdO.uniq lh O I]at F
   rw[LkQ.uniq F G]
open Classical in
theorem zhS {R:Option Rat}{ms:List Int}{f:Int->Rat}{p:Int->Bool}(lh:lo<hi) (U:lo<=y) (V:y<=hi) (r:RdO lo hi ls R) (L:LkQ (PsQ lo hi ls y) x R (ms.map f)) (O:∀t,p t=true↔ThL lo hi ls k y (f t)):(∀t,ms.find? p=some t->qD lo hi ls k y x (.inl (f t))/\zco lo hi ls y x (f t))/\(ms.find? p=none->qD lo hi ls k y x (.inr (ms.map f))):=by
 have bk:∀e m,e<=m->(∀x,e<x->x<=m->¬PsQ lo hi ls y x)->ThL lo hi ls k y m->ThL lo hi ls k y e:=λe m S np t=>zhT lh U V S np t
 have F:∀z,(λz=>decide (ThL lo hi ls k y z)) z=true↔ThL lo hi ls k y z:=λz=>decide_eq_true_iff
 have G:R=none->∀z,¬PsQ lo hi ls y z:=λe z=>by subst e;exact r.free z
 have I:(ms.map f).find? (λz=>decide (ThL lo hi ls k y z))=(ms.find? p).map f:=by
  rw[List.find?_map]
  congr 1
  congr 1
  funext t
  show decide (ThL lo hi ls k y (f t))=p t
  cases h:p t with
  |true=>exact wm ((O t).mp h)
  |false=>exact wx λz=>by rw[(O t).mpr z]at h;cases h
 constructor
 ·intro t e
  exists L.at bk F G (m:=f t) ?_,R,r
  ·rw[I,e];rfl
  ·exact(L.2 _).mp (wj.mpr ⟨t,ue e,rL⟩)
 ·intro e
  refine⟨L.nv bk F G (r.per lh) ?_,R,r,L⟩
  rw[I,e];rfl
end
end KM
namespace KK
open PySem L2 KM
section
variable {bs:List Bl}{lo hi:Rat×Rat}{u:Rat}{q:Nat}{y x:Rat}{k:Int}
variable {p s m z:Int}{trs:List (Int×Int)}{l h b:Int×Int}{tk:Rat}{T:Int}{pss:List (Int×List Int)}{lz:Option (Int×Int)}
theorem WhF.tell (Z:RwZ bs lo hi) (F:WhF bs lo hi q y x p s m z trs l h tk b T pss lz) (Y:lo.1<=y) (y1:y<=hi.1){ms:List Int}{N:Int}(O:LkO (2*(h.1-l.1)) b (zR l.1 z trs) ms N lz) :
  (∀t,ms.find? (λt=>qR (some l) (some h) trs k z t N)=some t->qD lo.1 hi.1 (lsQ bs) k y x (.inl (moQ tk t N))/\zco lo.1 hi.1 (lsQ bs) y x (moQ tk t N))/\(ms.find? (λt=>qR (some l) (some h) trs k z t N)=none->qD lo.1 hi.1 (lsQ bs) k y x (.inr (ms.map λt=>moQ tk t N))):=by
 have w:=Z.whr F.wz
 have go:0<N/\∃R,RdO lo.1 hi.1 (lsQ bs) R/\LkQ (PsQ lo.1 hi.1 (lsQ bs) y) x R (ms.map λt=>moQ tk t N):=by
  cases lz with
  |none =>
   have e0:pss=[]:=by
    by_cases c:pss=[]
    ·exact c
    ·obtain⟨G,U⟩:=KgZ.ex F.pj
     have:=(F.lzz.2 c G U).2
     cases this
   obtain⟨rfl,rfl⟩:=O
   have b2:0<b.2:=by rw[F.wz.eb];exact den_pos _
   exists b2,none,λv V=>?_
   ·obtain⟨c,S,rfl⟩:=wj.mp V
    have:=F.pj.mv.mp e0 _ (wj.mpr ⟨c,S,rfl⟩)
    refine(w.sp0 S).mp ?_
    show (trB p s (c.pl,c.sp)).2*m=0
    rw[this,Int.zero_mul]
   ·have e1:moQ tk b.1 b.2=x:=by
     rw[QQ,F.wz.eb]
     show ((x/tk).num:Rat)/(((x/tk).den:Int):Rat)*tk=x
     rw[<-wN,wY]
     exact uG (by have:=w.tk0;grind)
    show LkQ _ x none [moQ tk b.1 b.2]
    rw[e1]
    refine⟨List.pairwise_singleton _ _,λX=>?_⟩
    rw[w5]
    exact⟨.inl,λh=>by
     rcases h with h | ⟨r,e,_⟩
     ·exact h
     ·cases e⟩
  |some l' =>
   obtain⟨G,U,el⟩:=F.ex l' rfl
   have ne:pss≠[]:=λe=>by have:=F.lzz.1 e;cases this
   have R:=zlg Z F.wz.ep F.wz.es F.rg F.pj ne U
   obtain⟨W,L⟩:=LkO.q w Y y1 F.wz.eb (F.ka l' rfl).1 el O
   refine⟨W,some _,⟨?_,R⟩,L⟩
   by_cases c:∃u∈lsQ bs,u.2≠0
   ·exact c
   ·exfalso
    refine ne (F.pj.mv.mpr λv V=>?_)
    obtain⟨I,S,rfl⟩:=wj.mp V
    have c0:I.sp=0:=by
     by_cases d:I.sp=0
     ·exact d
     ·exact absurd ⟨_,wj.mpr ⟨I,S,rL⟩,d⟩ c
    have t0:=(w.sp0 S).mpr c0
    have m0:=w.m0
    rcases Int.mul_eq_zero.mp (show (trB p s (I.pl,I.sp)).2*m=0 from t0)with e | e
    ·exact e
    ·lia
 obtain⟨W,R,r,L⟩:=go
 exact zhS Z.lh Y y1 r L λt=>w.there W k
end
end KK
namespace KM
def qT (v:Rat):Rat:=if v<0 then -v else v
def lnQ (lo hi x:Rat) (u:Rat×Rat):Rat×Rat :=
 let r:=rst (u.1+u.2*x-lo) (hi-lo+(hi-lo))
 if r=0 then(lo,qT u.2)else if r=hi-lo then(hi,-qT u.2)else if r<hi-lo then(lo+r,u.2)else(lo+(hi-lo+(hi-lo))-r,-u.2)
section
variable {lo hi x:Rat}{u:Rat×Rat}
theorem v9:qe u=qT u.2:=rfl
theorem Jk (v:Rat):qT (qT v)=qT v:=by
 unfold qT
 by_cases c:v<0
 ·rw[if_pos c,if_neg (by grind)]
 ·rw[if_neg c,if_neg c]
theorem zaH (v:Rat):qT (-v)=qT v:=by unfold qT;split <;> split <;> grind
theorem zgw (v:Rat):0<=qT v:=by unfold qT;split <;> grind
theorem zeh {v:Rat}(h:v≠0):0<qT v:=by unfold qT;split <;> grind
theorem zgx (v:Rat):qT v=v\/qT v=-v:=by unfold qT;split <;> grind
theorem QP:qe (lnQ lo hi x u)=qe u:=by
 rw[v9,v9]
 unfold lnQ
 nofun
 split
 ·exact Jk _
 split
 ·exact(zaH _).trans (Jk _)
 split
 ·rfl
 ·exact zaH _
theorem Z7 {a b s:Rat}(hs:0<s){k:Int}(e:a=b+(k:Rat)*s):rst a s=rst b s:=by rw[e];exact zjC hs k
theorem ze6 (h:lo<hi) (S:u.2≠0):rst (vY lo hi (lnQ lo hi x u)) (hi-lo+(hi-lo))=rst (vY lo hi u+qe u*x) (hi-lo+(hi-lo)):=by
 have F:0<hi-lo+(hi-lo):=by grind
 obtain⟨k,U⟩:=vd (x:=u.1+u.2*x-lo) F
 have a:=ve (x:=u.1+u.2*x-lo) (zU F)
 have b:=qM (x:=u.1+u.2*x-lo) (zU F)
 have G:=zeh S
 rw[v9]
 unfold lnQ
 nofun
 generalize rst (u.1+u.2*x-lo) (hi-lo+(hi-lo))=r at *
 have one:((1:Int):Rat)=1:=rfl
 by_cases c:u.2<0
 ·have I:qT u.2=-u.2:=by unfold qT;rw[if_pos c]
  rw[I]at G ⊢
  have O:vY lo hi u=hi-lo+(hi-lo)-(u.1-lo):=by unfold vY;rw[if_neg (by grind)]
  rw[O]
  by_cases c0:r=0
  ·rw[if_pos c0]
   unfold vY
   nofun
   rw[if_pos G]
   refine Z7 F (k:=k-1) ?_
   rw[yp,one];grind
  ·rw[if_neg c0]
   by_cases c1:r=hi-lo
   ·rw[if_pos c1]
    unfold vY
    nofun
    rw[if_neg (by grind)]
    refine Z7 F (k:=k) ?_
    grind
   ·rw[if_neg c1]
    by_cases c2:r<hi-lo
    ·rw[if_pos c2]
     unfold vY
     nofun
     rw[if_neg (by grind)]
     refine Z7 F (k:=k) ?_
     grind
    ·rw[if_neg c2]
     unfold vY
     nofun
     rw[if_pos (by grind)]
     refine Z7 F (k:=k) ?_
     grind
 ·have I:qT u.2=u.2:=by unfold qT;rw[if_neg c]
  rw[I]at G ⊢
  have O:vY lo hi u=u.1-lo:=by unfold vY;rw[if_pos (by grind)]
  rw[O]
  by_cases c0:r=0
  ·rw[if_pos c0]
   unfold vY
   nofun
   rw[if_pos G]
   refine Z7 F (k := -k) ?_
   rw[yq];grind
  ·rw[if_neg c0]
   by_cases c1:r=hi-lo
   ·rw[if_pos c1]
    unfold vY
    nofun
    rw[if_neg (by grind)]
    refine Z7 F (k := -k) ?_
    rw[yq];grind
   ·rw[if_neg c1]
    by_cases c2:r<hi-lo
    ·rw[if_pos c2]
     unfold vY
     nofun
     rw[if_pos (by grind)]
     refine Z7 F (k := -k) ?_
     rw[yq];grind
    ·rw[if_neg c2]
     unfold vY
     nofun
     rw[if_neg (by grind)]
     refine Z7 F (k := -k) ?_
     rw[yq];grind
theorem za1:(lnQ lo hi x u).2=0↔u.2=0:=by
 constructor
 ·intro e
  have:qe (lnQ lo hi x u)=0:=by rw[v9,e];rfl
  rw[QP]at this
  exact VX this
 ·intro e
  have:qe u=0:=by rw[v9,e];rfl
  rw[<-QP (lo:=lo) (hi:=hi) (x:=x)]at this
  exact VX this
theorem zg0 (h:lo<hi) (F:u.2=0) (O:lo<=u.1) (h1:u.1<=hi):lnQ lo hi x u=u:=by
 have G:rst (u.1+u.2*x-lo) (hi-lo+(hi-lo))=u.1-lo:=QV (k:=0) (by grind) (by grind) (by rw[F];have z:((0:Int):Rat)=0:=rfl;rw[z];grind)
 have I:qT u.2=0:=by rw[F];rfl
 unfold lnQ
 nofun
 rw[G,I]
 split
 ·ext <;> grind
 split
 ·ext <;> grind
 split
 ·ext <;> grind
 ·exfalso;grind
theorem zbZ (h:lo<hi) (G:lo<=u.1) (h1:u.1<=hi) (m:Rat):xG lo hi m (lnQ lo hi x u)=xG lo hi (x+m) u:=by
 have F:0<hi-lo+(hi-lo):=by grind
 by_cases hu:u.2=0
 ·rw[zg0 h hu G h1];unfold xG;rw[hu,yT,yT]
 ·rw[Vu h (λe=>hu (za1.mp e)),Vu h hu,QP]
  congr 2
  rw[<-QU F,ze6 h hu,QU F]
  congr 1;grind
theorem zkG (h:lo<hi):lo<=(lnQ lo hi x u).1/\(lnQ lo hi x u).1<=hi:=by
 have F:0<hi-lo+(hi-lo):=by grind
 have a:=ve (x:=u.1+u.2*x-lo) (zU F)
 have b:=qM (x:=u.1+u.2*x-lo) (zU F)
 unfold lnQ
 nofun
 generalize rst (u.1+u.2*x-lo) (hi-lo+(hi-lo))=r at *
 split
 ·constructor <;> grind
 split
 ·constructor <;> grind
 split
 ·constructor <;> grind
 ·constructor <;> grind
theorem ziY (h:lo<hi):(lnQ lo hi x u).1=xG lo hi x u:=by
 have F:0<hi-lo+(hi-lo):=by grind
 obtain⟨k,G⟩:=vd (x:=u.1+u.2*x-lo) F
 have a:=ve (x:=u.1+u.2*x-lo) (zU F)
 have b:=qM (x:=u.1+u.2*x-lo) (zU F)
 unfold xG
 rw[vj h a b G]
 unfold lnQ
 nofun
 generalize rst (u.1+u.2*x-lo) (hi-lo+(hi-lo))=r at *
 split
 ·rw[if_neg (by grind)];grind
 split
 ·rw[if_neg (by grind)];grind
 split
 ·rw[if_neg (by grind)]
 ·rw[if_pos (by grind)];grind
end
section
variable {lo hi x y R:Rat}{ls ls':List (Rat×Rat)}{k:Int}
theorem zcX (h:lo<hi) (F:∀u∈ls,lo<=u.1/\u.1<=hi) (I:ls'.Perm (ls.map (lnQ lo hi x))) (m:Rat):(ls'.map (xG lo hi m)).Perm (ls.map (xG lo hi (x+m))):=by
 have:=I.map (xG lo hi m)
 rw[wG]at this
 refine this.trans (.of_eq (wy λu G=>zbZ h (F u G).1 (F u G).2 m))
theorem zdc (h:lo<hi) (F:∀u∈ls,lo<=u.1/\u.1<=hi) (G:ls'.Perm (ls.map (lnQ lo hi x))) (m:Rat):ThL lo hi ls' k y m↔ThL lo hi ls k y (x+m) :=
 ⟨λt=>ThQ.perm (zcX h F G m) t,λt=>ThQ.perm (zcX h F G m).symm t⟩
theorem zg5 (h:lo<hi) (G:ls'.Perm (ls.map (lnQ lo hi x))) (c:Rat):(∃u∈ls',qe u=c)↔∃u∈ls,qe u=c:=by
 constructor
 ·rintro ⟨u,I,e⟩
  obtain⟨v,F,rfl⟩:=wj.mp (G.mem_iff.mp I)
  exact⟨v,F,by rw[<-e,QP]⟩
 ·rintro ⟨v,F,e⟩
  exact⟨_,G.mem_iff.mpr (wj.mpr ⟨v,F,rfl⟩),by rw[QP,e]⟩
theorem zdU (h:lo<hi) (F:∀u∈ls,lo<=u.1/\u.1<=hi) (I:ls'.Perm (ls.map (lnQ lo hi x))) (m:Rat):PsQ lo hi ls' y m↔PsQ lo hi ls y (x+m):=by
 constructor
 ·rintro ⟨u,U,O,e⟩
  obtain⟨v,G,rfl⟩:=wj.mp (I.mem_iff.mp U)
  exact⟨v,G,λz=>O (za1.mpr z),by rw[<-e,zbZ h (F v G).1 (F v G).2]⟩
 ·rintro ⟨v,G,S,e⟩
  exact⟨_,I.mem_iff.mpr (wj.mpr ⟨v,G,rfl⟩),λz=>S (za1.mp z),by rw[zbZ h (F v G).1 (F v G).2,e]⟩
theorem zfB {O:Rat}(h:lo<hi) (G:ls'.Perm (ls.map (lnQ lo hi x))) (r:Xw lo hi ls R) (S:Xw lo hi ls' O):R=O:=by
 have:=Xw.two (ρ:=1) h rfl ⇑1 r S (λc _=>by rw[WV];exact zg5 h G c) (λc I _=>⟨c*x,by
  rw[WV]
  unfold zac AlR
  have W:=((G.filter (ofP c)).map (vY lo hi)).map λq=>rst q (hi-lo+(hi-lo))
  refine W.trans (.of_eq ?_)
  rw[Yl,wG,wG,wG]
  have Y:ls.filter (ofP c ∘ lnQ lo hi x)=ls.filter (ofP c):=WW λu _=>by show decide (qe (lnQ lo hi x u)=c)=decide (qe u=c);rw[QP]
  rw[Y]
  refine wy λu V=>?_
  have F:qe u=c:=ww (yZ.mp V).2
  have U:u.2≠0:=λz=>by rw[v9,z]at F;rw[<-F]at I;exact absurd I ⇑1
  show rst (vY lo hi (lnQ lo hi x u)) _=rst (vY lo hi u+c*x) _
  rw[ze6 h U,F]⟩)
 rw[WV]at this;exact this
def zid (x:Rat):Rat ⊕ List Rat->Rat ⊕ List Rat
 |.inl m=>.inl (m+x)
 |.inr ms=>.inr (ms.map (· + x))
theorem qD.gone {o:Rat ⊕ List Rat}(h:lo<hi) (G:∀u∈ls,lo<=u.1/\u.1<=hi) (I:ls'.Perm (ls.map (lnQ lo hi x))){R:Option Rat}(hr:RdO lo hi ls R) (t:qD lo hi ls' k y 0 o):qD lo hi ls k y x (zid x o):=by
 have F:∀z,ThL lo hi ls' k y (z-x)↔ThL lo hi ls k y z:=λz=>by rw[zdc h G I];rw[show x+(z-x)=z by grind]
 cases o with
 |inl m =>
  obtain⟨h1,h2,h3⟩:=t
  refine⟨by grind,?_,λz Y z2 hz=>h3 (z-x) (by grind) (by grind) ((F z).mpr hz)⟩
  have:=(zdc h G I m).mp h2
  rw[show m+x=x+m by grind];exact this
 |inr ms =>
  obtain⟨h1,W,S,L⟩:=t
  exists λz Y hz=>h1 (z-x) (by grind) ((F z).mpr hz),R,hr
  have eR:R=W:=by
   cases R with
   |none =>
    cases W with
    |none=>rfl
    |some a =>
     obtain⟨⟨u,V,U⟩,_⟩:=S
     obtain⟨v,mv,rfl⟩:=wj.mp (I.mem_iff.mp V)
     exact absurd (za1.mpr (hr v mv)) U
   |some a =>
    cases W with
    |none =>
     obtain⟨⟨u,V,U⟩,_⟩:=hr
     exact absurd (za1.mp (S _ (I.mem_iff.mpr (wj.mpr ⟨u,V,rL⟩)))) U
    |some b=>rw[zfB h I hr.2 S.2]
  subst eR
  refine L.map (· + x) (· - x) (λz=>by grind) (λz=>by grind) (λa b q=>by grind) (by grind) λz=>?_
  have pz:=zdU (y:=y) h G I (z-x)
  rw[show x+(z-x)=z by grind]at pz
  constructor
  ·rintro (e | ⟨r,e,e1,e2,O⟩)
   ·exact .inl (by grind)
   ·exact .inr ⟨r,e,by grind,by grind,pz.mpr O⟩
  ·rintro (e | ⟨r,e,e1,e2,O⟩)
   ·exact .inl (by grind)
   ·exact .inr ⟨r,e,by grind,by grind,pz.mp O⟩
end
end KM
namespace KK
open PySem L2 KM
def zdG {l h s v:Int}(G:l<h):vE (some l) (some h) s v=(if(s-l) % (2*(h-l))=0 then(l,zY v)else if(s-l) % (2*(h-l))=h-l then(h,-zY v)else if(s-l) % (2*(h-l))<h-l then(l+(s-l) % (2*(h-l)),v)else(l+2*(h-l)-(s-l) % (2*(h-l)),-v)):=by
 have F:=yD (s-l) (show 2*(h-l)≠0 by lia)
 have h1:=yE (s-l) (show 0<2*(h-l) by lia)
 unfold vE f1 f2 f3 f4
 simp only
 generalize (s-l) % (2*(h-l))=m at *
 by_cases c1:m=0
 ·subst c1
  rw[if_pos rfl,if_neg (show ¬h<l+0 by lia),if_pos (show l+0=l by lia)]
  simp only
  rw[if_neg (show ¬l+0=h by lia)];simp
 ·rw[if_neg c1]
  by_cases c2:m=h-l
  ·rw[if_pos c2,if_neg (show ¬h<l+m by lia),if_neg (show ¬l+m=l by lia)]
   simp only
   rw[if_pos (show l+m=h by lia)];ext <;> simp;lia
  ·rw[if_neg c2]
   by_cases c3:m<h-l
   ·rw[if_pos c3,if_neg (show ¬h<l+m by lia),if_neg (show ¬l+m=l by lia)]
    simp only
    rw[if_neg (show ¬l+m=h by lia)]
   ·rw[if_neg c3,if_pos (show h<l+m by lia)]
    simp only
    rw[if_neg (show ¬ 2*h-(l+m)=l by lia)]
    simp only
    rw[if_neg (show ¬ 2*h-(l+m)=h by lia)]
    ext <;> simp;lia
def zgZ {l h s v D F:Int}{lo hi x:Rat}{u:Rat×Rat}(hD:0<D) (S:0<F) (hl:l<h) (O:Rat.divInt l D=lo) (eh:Rat.divInt h D=hi) (es:Rat.divInt s D=u.1+u.2*x) (U:Rat.divInt v F=u.2):(Rat.divInt (vE (some l) (some h) s v).1 D,Rat.divInt (vE (some l) (some h) s v).2 F)=lnQ lo hi x u:=by
 have E:=Qq hD
 have E2:=Qq S
 have lt:∀a b:Int,Rat.divInt a D<Rat.divInt b D↔a<b:=λa b=>xK hD
 have r0:=yD (s-l) (b:=2*(h-l)) ∅
 have r1:=yE (s-l) (b:=2*(h-l)) ∅
 have Y:=uU (s-l) (2*(h-l))
 rw[zdG hl]
 generalize (s-l) % (2*(h-l))=r at r0 r1 Y ⊢
 generalize (s-l)/(2*(h-l))=k at Y
 have z0:Rat.divInt 0 D=0:=qJ D
 have zs:Rat.divInt 0 F=0:=qJ F
 have I:hi-lo=Rat.divInt (h-l) D:=by rw[<-O,<-eh];exact(E.su h l).symm
 have h2:hi-lo+(hi-lo)=Rat.divInt (2*(h-l)) D:=by
  rw[I,show 2*(h-l)=(h-l)+(h-l) by lia];exact(E.ad _ _).symm
 have er:rst (u.1+u.2*x-lo) (hi-lo+(hi-lo))=Rat.divInt r D:=by
  refine QV (k:=k) ?_ ?_ ?_
  ·rw[<-z0];exact(E.le _ _).mpr r0
  ·rw[h2];exact(lt _ _).mpr r1
  ·rw[h2,<-zcz,<-es,<-O]
   have V:=E.su s l
   have W:=E.ad r (k*(2*(h-l)))
   rw[<-V,<-W,<-Y,yX k]
 have eq:∀a b:Int,Rat.divInt a D=Rat.divInt b D↔a=b:=λa b=>by
  constructor
  ·intro q
   have V:=(E.le a b).mp (by rw[q];exact Wu)
   have W:=(E.le b a).mp (by rw[q];exact Wu)
   lia
  ·intro q;rw[q]
 have en:Rat.divInt (-v) F=-u.2:=by
  have:=E2.su 0 v
  rw[Int.zero_sub,zs,U]at this
  rw[this];grind
 have G:v<0↔u.2<0:=by
  have:=xK (a:=v) (b:=0) S
  rw[zs,U]at this
  exact this.symm
 have ea:Rat.divInt (zY v) F=qT u.2:=by
  unfold zY qT
  by_cases c:v<0
  ·rw[if_pos c,if_pos (G.mp c)];exact en
  ·rw[if_neg c,if_neg λq=>c (G.mpr q)];exact U
 have a3:Rat.divInt (-zY v) F=-qT u.2:=by
  have:=E2.su 0 (zY v)
  rw[Int.zero_sub,zs,ea]at this
  rw[this];grind
 unfold lnQ
 nofun
 rw[er,I,<-I]
 have q0:Rat.divInt r D=0↔r=0:=⟨λq=>(eq r 0).mp (q.trans z0.symm),λq=>by rw[q];exact z0⟩
 have q1:Rat.divInt r D=hi-lo↔r=h-l:=⟨λq=>(eq r (h-l)).mp (q.trans I),λq=>by rw[q,I]⟩
 have q2:Rat.divInt r D<hi-lo↔r<h-l:=by rw[I];exact lt _ _
 by_cases c0:r=0
 ·rw[if_pos c0,if_pos (q0.mpr c0),ea,O]
 ·rw[if_neg c0,if_neg (show ¬Rat.divInt r D=0 from λq=>c0 (q0.mp q))]
  by_cases c1:r=h-l
  ·rw[if_pos c1,if_pos (q1.mpr c1),eh,a3]
  ·rw[if_neg c1,if_neg (show ¬Rat.divInt r D=hi-lo from λq=>c1 (q1.mp q))]
   by_cases c2:r<h-l
   ·rw[if_pos c2,if_pos (q2.mpr c2),U]
    have:=E.ad l r
    rw[this,O]
   ·rw[if_neg c2,if_neg (show ¬Rat.divInt r D<hi-lo from λq=>c2 (q2.mp q)),en]
    have V:=E.su (l+2*(h-l)) r
    have W:=E.ad l (2*(h-l))
    rw[V,W,O,<-h2]
section
variable {bs:List Bl}{lo hi x:Rat}
theorem ze2 (z:LnZ bs (some (lo,0)) (some (hi,0))) (l8:bs.length<=8):(Z4 bs (some (lo,0)) (some (hi,0)) x).map (λu=>(Rat.divInt u.1 (pbO bs (some (lo,0)) (some (hi,0))*(x/Rat.divInt (sbO bs (some (lo,0)) (some (hi,0))) (pbO bs (some (lo,0)) (some (hi,0)))).den),Rat.divInt u.2 (sbO bs (some (lo,0)) (some (hi,0)))))=(lsQ bs).map (lnQ lo hi x):=by
 obtain⟨⟨V,F⟩,⟨O,sd⟩⟩:=z.dv l8
 have lh:=z.lh _ _ rfl rfl
 have S:=F _ (vi rfl)
 have G:=F _ (vW rfl)
 unfold Z4 lsQ
 generalize pbO bs (some (lo,0)) (some (hi,0))=p at *
 generalize sbO bs (some (lo,0)) (some (hi,0))=s at *
 rw[wG,wG]
 refine wy λb m=>?_
 have W:=F _ (XD m)
 have U:=sd _ (XD m)
 dsimp only at lh S G W U
 generalize hk:x/Rat.divInt s p=k
 have Y:=den_pos k
 have D0:0<p*(k.den:Int):=wP V Y
 have I:∀q:Rat,(q.den:Int) ∣ p->Rat.divInt (byB q p*(k.den:Int)) (p*(k.den:Int))=q:=λq h=>by rw[u7 ∅,zbH V h]
 show (Rat.divInt (vE (some (byB lo p*(k.den:Int))) (some (byB hi p*(k.den:Int))) (byB b.pl p*(k.den:Int)+byB b.sp s*k.num) (byB b.sp s)).1 (p*(k.den:Int)),Rat.divInt (vE (some (byB lo p*(k.den:Int))) (some (byB hi p*(k.den:Int))) (byB b.pl p*(k.den:Int)+byB b.sp s*k.num) (byB b.sp s)).2 s)=lnQ lo hi x (b.pl,b.sp)
 refine zgZ D0 O (yR (VH V S G lh) Y) (I lo S) (I hi G) ?_ (zbH O U)
 have E:=(Qq D0).ad (byB b.pl p*(k.den:Int)) (byB b.sp s*k.num)
 rw[E,I b.pl W]
 congr 1
 have e1:Rat.divInt (byB b.sp s*k.num) (p*(k.den:Int))=Rat.divInt (byB b.sp s) p*k:=by
  conv=>rhs;rw[<-wY k]
  rw[yG]
 have e2:Rat.divInt (byB b.sp s) p=b.sp*Rat.divInt s p:=by
  conv=>rhs;rw[<-zbH O U]
  rw[yG,yX s p]
  rw[u7 ∅]
 have sp:Rat.divInt s p≠0:=λe=>by
  rw[show (0:Rat)=Rat.divInt 0 1 by rfl,uh ∅ ⇑1]at e
  lia
 rw[e1,e2,<-hk,Rat.mul_assoc]
 congr 1
 rw[Y1,uG sp]
end
end KK
namespace KM
section
variable {ps:List Rat}{k:Nat}{y:Rat}
theorem zaK (h:ps.Pairwise (·<=·)) (e:ps[k]?=some y):ps.countP (LtR y)<=k/\k<ps.countP (LeR y):=by
 obtain⟨I,S⟩:=w4.mp e
 have O:=uc.mp h
 have lo:∀z∈ps.take (k+1),z<=y:=λz F=>by
  obtain⟨i,hi,G⟩:=Yk F
  rw[yk]at hi
  rw[List.getElem_take]at G
  rcases Yt i k with c | c
  ·have:=O i k ∅ I c;grind
  ·have:i=k:=by lia
   subst this;grind
 have up:∀z∈ps.drop k,y<=z:=λz F=>by
  obtain⟨i,hi,G⟩:=Yk F
  rw[List.getElem_drop]at G
  rw[YS]at hi
  rcases yW i with c | c
  ·subst c;rw[<-G,<-S];exact Wu
  ·have:=O k (k+i) I ∅ ∅;grind
 constructor
 ·conv=>lhs;rw[<-yQ k ps]
  rw[List.countP_append]
  have z:(ps.drop k).countP (LtR y)=0:=List.countP_eq_zero.mpr λz F q=>by
   have:=up z F;have:=ww q;grind
  have:=List.countP_le_length (p:=LtR y) (l:=ps.take k)
  rw[yk]at this
  lia
 ·conv=>rhs;rw[<-yQ (k+1) ps]
  rw[List.countP_append]
  have z:(ps.take (k+1)).countP (LeR y)=(ps.take (k+1)).length:=List.countP_eq_length.mpr λz F=>wm (lo z F)
  rw[z,yk]
  lia
theorem zke (h:ps.Pairwise (·<=·)) (e:ps[k]?=some y):ThQ ps (k:Int) y:=by
 obtain⟨a,b⟩:=zaK h e
 exact⟨by lia,by lia⟩
theorem ziV (h:ps.Pairwise (·<=·)){F:Rat}(e:ps[k]?=some F) (t:ThQ ps (k:Int) y):F=y:=by
 obtain⟨a,b⟩:=zaK h e
 obtain⟨c,d⟩:=t
 by_cases q:F<y
 ·exfalso
  have:ps.countP (LeR F)<=ps.countP (LtR y):=uV λz _ hz=>wm (by have:=ww hz;grind)
  lia
 ·by_cases q2:y<F
  ·exfalso
   have:ps.countP (LeR y)<=ps.countP (LtR F):=uV λz _ hz=>wm (by have:=ww hz;grind)
   lia
  ·grind
end
end KM
namespace KK
open PySem L2 KM
variable {P:Program}{w:World}{K:Fg}{mg:Str->Option Value}{base:Heap}{aN:Addr}
def ZS (u y:Rat):Prop:=∃a D:Int,1<=D/\D<=20/\y=u*((a:Rat)/(D:Rat))
section
variable {g j d c w jp dp:Int}
theorem EvG.lat (h:EvG g j d c w jp dp):∃F G:Int,zB g j d=Rat.divInt g 6*(F:Rat)/\zN g c*(w:Rat)=Rat.divInt g 6*(G:Rat)/\1<=G/\G<=60 ∧ -36<=F/\F<=36:=by
 have hd:=h.d
 have I:=h.c
 have hw:=h.w
 have O:=h.j
 obtain⟨f,f1,f2⟩:∃f:Int,d*f=6/\(f=6\/f=3):=by
  rcases hd with rfl | rfl
  ·exact⟨6,by decide,.inl rfl⟩
  ·exact⟨3,by decide,.inr rfl⟩
 obtain⟨e,e1,e2⟩:∃f:Int,c*f=6/\(f=6\/f=3\/f=2):=by
  rcases I with rfl | rfl | rfl
  ·exact⟨6,by decide,.inl rfl⟩
  ·exact⟨3,by decide,.inr (.inl rfl)⟩
  ·exact⟨2,by decide,.inr (.inr rfl)⟩
 exists j*f,e*w,?_,?_
 ·rw[J8 h.pos.2.1 f1,Y1]
 ·have:zN g c=zB g 1 c:=by unfold zN zB;rw[uY]
  rw[this,J8 h.pos.2.2.1 e1,uY,wf]
  grind
 ·rcases f2 with rfl | rfl <;> rcases e2 with rfl | rfl | rfl <;> lia
theorem zaf {u y:Rat}{i:Int}(h:y=u*(i:Rat)):ZS u y:=⟨i,1,by decide,by decide,by rw[h];have:((1:Int):Rat)=1:=rfl;rw[this];grind⟩
theorem EvG.far_lat (h:EvG g j d c w jp dp){e n:Int}(O:1<=n) (I:n<=5):ZS (Rat.divInt g 6) (zB g j d+qg (zN g c*(w:Rat)) e n):=by
 obtain⟨F,G,e1,e2,_⟩:=h.lat
 exists F*(4*n)+G*e,4*n,by lia,by lia
 unfold qg
 rw[e1,e2]
 clear e1 e2
 generalize Rat.divInt g 6=u
 have:=zQ (show 4*n≠0 by lia)
 generalize 4*n=N at *
 rw[xY,wQ,wf,wf]
 grind
theorem GrB.lat (h:EvG g j d c w jp dp){G:Int}{b:Bl}(I:GrB g j d c w jp dp G b):ZS (Rat.divInt g 6) b.pl:=by
 obtain⟨_,t,V,tw,e1,_⟩:=I
 obtain⟨O,U,k1,k2,_⟩:=h.lat
 have S:=h.c
 obtain⟨e,F,e2⟩:∃f:Int,c*f=6/\(f=6\/f=3\/f=2):=by
  rcases S with rfl | rfl | rfl
  ·exact⟨6,by decide,.inl rfl⟩
  ·exact⟨3,by decide,.inr (.inl rfl)⟩
  ·exact⟨2,by decide,.inr (.inr rfl)⟩
 refine zaf (i:=O+e*t) ?_
 have:zN g c=zB g 1 c:=by unfold zN zB;rw[uY]
 rw[e1,k1,this,J8 h.pos.2.2.1 F,uY,wQ,wf]
 grind
theorem SpB.lat (h:EvG g j d c w jp dp){n:Nat}(O:1<=n) (U:n<=5){b:Bl}(G:SpB (zB g j d) (zN g c*(w:Rat)) (zB g jp dp) n b):ZS (Rat.divInt g 6) b.pl:=by
 obtain⟨_,e,S,I,F⟩:=G
 rcases F with⟨k1,k2,k3⟩ | ⟨k1,k2,k3⟩
 ·rw[k2];exact h.far_lat ∅ ∅
 ·rw[k2,zaP ∅];exact h.far_lat ∅ ∅
theorem EvB.lat (h:EvG g j d c w jp dp){n:Nat}(I:1<=n) (G:n<=5){bs:List Bl}(F:EvB g j d c w jp dp n bs):∀b∈bs,ZS (Rat.divInt g 6) b.pl:=λb m=>by
 rcases F with F | ⟨O,F⟩
 ·exact SpB.lat h I G (F b m)
 ·exact GrB.lat h (F b m)
end
structure TmB (V B:Int) (x:Rat):Prop where
 ex:∃a b:Int,1<=b/\b<=B/\x=(a:Rat)/(b:Rat)
 up:x<=(V:Rat)
 dn : -(V:Rat)<=x
theorem TmB.mono {V B F G:Int}{x:Rat}(h:TmB V B x) (O:V<=F) (U:B<=G):TmB F G x:=by
 obtain⟨⟨a,b,I,S,e⟩,u,d⟩:=h
 have:(V:Rat)<=(F:Rat):=wI.mpr O
 exact⟨⟨a,b,I,by lia,e⟩,by grind,by grind⟩
theorem TmB.bd {V B:Int}{x:Rat}(h:TmB V B x){n m:Nat}(hB:Bd m B) (Y:Bd n (V*B)):Bd n x.num/\Bd m (x.den:Int):=by
 obtain⟨⟨a,b,b1,U,e⟩,u,d⟩:=h
 have bp:(0:Rat)<(b:Rat):=wv.mpr ∅
 have G:(a:Rat)=x*(b:Rat):=by rw[e];grind
 have h1:(a:Rat)<=(V:Rat)*(b:Rat):=by rw[G];exact wC u (yc bp)
 have h2 : -(V:Rat)*(b:Rat)<=(a:Rat):=by rw[G];exact wC d (yc bp)
 rw[<-wf]at h1
 rw[<-yq,<-wf]at h2
 have S:a<=V*b:=wI.mp h1
 have F : -V*b<=a:=wI.mp h2
 have I:0<=V:=by
  rcases yA V 0 with z | z
  ·exfalso
   have:=Yy z (show 0<b by lia)
   rw[Int.neg_mul]at F;lia
  ·exact z
 have vb:V*b<=V*B:=Int.mul_le_mul_of_nonneg_left U I
 have W:0<=V*b:=Wk I ∅
 have ex:x=Rat.divInt a b:=by rw[e,<-wN]
 have O:b≠0:=by lia
 constructor
 ·rw[ex]
  refine Y.of_le (yF (zb8 O) ?_)
  rw[Int.neg_mul]at F
  lia
 ·rw[ex]
  have:=QK (t:=a) O
  exact hB.of_le ∅
theorem TmB.of {x:Rat}{V B:Int}(h:x.num.natAbs<=V) (hd:(x.den:Int)<=B):TmB V B x:=by
 have d:=den_pos x
 have e:x=(x.num:Rat)/((x.den:Int):Rat):=by rw[<-wN];exact(wY x).symm
 have dp:(0:Rat)<((x.den:Int):Rat):=wv.mpr d
 have F:(1:Rat)<=((x.den:Int):Rat):=by have:=(wI (a:=1) (b:=(x.den:Int))).mpr (by omega);exact this
 have ex:x*((x.den:Int):Rat)=(x.num:Rat):=by conv=>lhs;lhs;rw[e]
                                             grind
 have I:(x.num:Rat)<=(V:Rat):=wI.mpr (by omega)
 have O : -(V:Rat)<=(x.num:Rat):=by rw[<-yq];exact wI.mpr (by omega)
 have G:(0:Rat)<=(V:Rat):=uW.mpr (by omega)
 have S:=yK F G
 exists⟨x.num,x.den,by omega,hd,e⟩,?_
 ·by_cases q:x<=(V:Rat)
  ·exact q
  ·exfalso
   have:=ux (show (V:Rat)<x by grind) dp
   grind
 ·by_cases q : -(V:Rat)<=x
  ·exact q
  ·exfalso
   have:=ux (show x < -(V:Rat) by grind) dp
   grind
section
variable {bs:List Bl}{lo hi:Rat×Rat}{u y x m:Rat}
theorem zhn (u0:0<u) (lh:lo.1<hi.1) (y0:lo.1<=y) (y1:y<=hi.1){i1 Y:Int}(e1:lo.1=u*(i1:Rat)) (e2:hi.1-lo.1=u*(Y:Rat)) (ly:ZS u y) (lb:∀b∈bs,ZS u b.pl) (U:RwU bs lo hi u 36) (P:PsQ lo.1 hi.1 (lsQ bs) y m):∃a b:Int,1<=b/\b<=14400/\m=(a:Rat)/(b:Rat):=by
 obtain⟨v,mv,v0,e⟩:=P
 obtain⟨b,hb,rfl⟩:=wj.mp mv
 obtain⟨a1,F,d1,a3,S⟩:=ly
 obtain⟨a2,G,d2,W,ep⟩:=lb b hb
 obtain⟨k,k1,a4,O⟩:=U.sp b hb v0
 have un:u≠0:=by grind
 have a6:=zQ (show F≠0 by lia)
 have a5:=zQ (show G≠0 by lia)
 have kn:=zQ (show (k:Int)≠0 by lia)
 have I:1<=F*G*(k:Int)/\F*G*(k:Int)<=14400:=by
  have h1:1<=F*G:=by have:=wP (show 0<F by lia) (show 0<G by lia);lia
  have h2:F*G<=400:=by have:=YA a3 W ∅ ⇑1;lia
  have h3:=wP (show 0<F*G by lia) (show (0:Int)<(k:Int) by lia)
  have h4:=YA h2 (show (k:Int)<=36 by lia) ∅ ⇑1
  lia
 have V:∀X:Int,b.sp*m=u*((X:Rat)/((F:Rat)*(G:Rat)))->∃a b:Int,1<=b/\b<=14400/\m=(a:Rat)/(b:Rat):=λX hX=>by
  rcases O with O | O
  ·exists X,F*G*(k:Int),I.1,I.2
   rw[O]at hX
   rw[wf,wf]
   generalize ((k:Int):Rat)=k' at *
   clear e ep S e1 e2 O
   grind
  ·exists -X,F*G*(k:Int),I.1,I.2
   rw[O]at hX
   rw[wf,wf,yq]
   generalize ((k:Int):Rat)=k' at *
   clear e ep S e1 e2 O
   grind
 obtain⟨n,e | e⟩:=(Qr lh y0 y1).mp e
 ·refine V (a1*G+(n*(2*Y))*(F*G)-a2*F) ?_
  have:b.sp*m=y+(n:Rat)*(hi.1-lo.1+(hi.1-lo.1))-b.pl:=by dsimp only at e;grind
  rw[this,e2,S,ep]
  simp only[wQ,yp,wf]
  have two:((2:Int):Rat)=2:=rfl
  rw[two]
  clear this e ep S e1 e2 O
  grind
 ·refine V (2*i1*(F*G)-a1*G+(n*(2*Y))*(F*G)-a2*F) ?_
  have:b.sp*m=2*lo.1-y+(n:Rat)*(hi.1-lo.1+(hi.1-lo.1))-b.pl:=by dsimp only at e;grind
  rw[this,e2,e1,S,ep]
  simp only[wQ,yp,wf]
  have two:((2:Int):Rat)=2:=rfl
  rw[two]
  clear this e ep S e1 e2 O
  grind
theorem zjA {R:Rat}(V:0<u) (lh:lo.1<hi.1) (U:RwU bs lo hi u 36) (r:Xw lo.1 hi.1 (lsQ bs) R):R<=2*(hi.1-lo.1)/u:=by
 have W0:0<hi.1-lo.1+(hi.1-lo.1):=by grind
 have S:0<2*(hi.1-lo.1)/u:=vS (by grind) V
 obtain⟨n,G⟩:=r.univ (2*(hi.1-lo.1)/u) λc W Y M g=>by
  obtain⟨v,mv,I⟩:=Y
  obtain⟨b,hb,rfl⟩:=wj.mp mv
  have b0:b.sp≠0:=λz=>by
   have:qe (b.pl,b.sp)=0:=by rw[v9];show qT b.sp=0;rw[z];rfl
   rw[this]at I;rw[<-I]at W;exact absurd W ⇑1
  obtain⟨k,k1,a1,F⟩:=U.sp b hb b0
  have kp:(0:Rat)<((k:Int):Rat):=wv.mpr ∅
  have ku:=yg kp V
  have ec:c=((k:Int):Rat)*u:=by
   rw[<-I,v9]
   show qT b.sp=_
   unfold qT
   rcases F with F | F
   ·rw[F,if_neg (by grind)]
   ·rw[F,if_pos (by grind)];grind
  have Mp:=Xk g.m1
  refine⟨(M:Int)*(k:Int),?_⟩
  rw[ec,wf]
  generalize ((M:Int):Rat)=M' at *
  generalize ((k:Int):Rat)=k' at *
  generalize hi.1=h' at *
  generalize lo.1=l' at *
  grind
 obtain⟨k,rfl⟩:=zai G S r.r0
 have k1:1<=k:=by
  rcases yW k with z | z
  ·subst z
   have z:(((0:Nat):Int):Rat)=0:=rfl
   rw[z,yT]at G
   rw[G]at S;exact absurd S ⇑1
  ·exact z
 have O:(1:Rat)<=((k:Int):Rat):=by have:=(wI (a:=1) (b:=(k:Int))).mpr ∅;exact this
 have:=wC O (yc r.r0)
 rw[G];grind
end
theorem zfa {d:Int}{u v x:V}(F:0<=d) (h1:d<3):∃y,atI [u,v,x] d=some y/\(y=u\/y=v\/y=x):=by
 have:d=0\/d=1\/d=2:=by lia
 rcases this with rfl | rfl | rfl
 ·exact⟨00,.inl rL⟩
 ·exact⟨00,.inr (.inl rL)⟩
 ·exact⟨00,.inr (.inr rL)⟩
structure EvA (H:Hp) (r a:Addr) (us:List V) (bs:List Bl) (g j d c w jp dp:Int):Prop where
 r:H r=some (.tup us)
 R:qt H us bs
 l1:1<=bs.length
 l5:bs.length<=5
 G:EvG g j d c w jp dp
 F:∀b∈bs,BlF (zB g j d) (zB g j d+zN g c*(w:Rat)) (Rat.divInt g 6) b
 wt:∃wt,∀b∈bs,b.wt=wt
 W:∃v1 v2,H a=some (.tup [v1,v2])/\xx H v1 (some (zB g j d,0))/\xx H v2 (some (zB g j d+zN g c*(w:Rat),0))
theorem EvA.tups {H H':Hp}{r a:Addr}{us:List V}{bs:List Bl}{g j d c w jp dp:Int}(h:EvA H r a us bs g j d c w jp dp) (t:xA H H'):EvA H' r a us bs g j d c w jp dp:=by
 obtain⟨h1,h2,I,G,F,O,hw,U,v2,S,W,Y⟩:=h
 exact⟨t _ _ h1,h2.keeps t,I,G,F,O,hw,U,v2,t _ _ S,W.tupsW t,Y.tupsW t⟩
def PlZ (lo hi y:Rat):Prop:=lo<=y/\y<=hi/\Bd 100 y.num/\Bd 12 (y.den:Int)
def TmZ (x:Rat):Prop:=Bd 101 x.num/\Bd 4 (x.den:Int)
inductive zj5  (vs:List V) (H:Hp) (Q:VK) (_e3:XK):Prop
 |mk:∀p r a us bs g j d c w' jp dp,(vs=[.ref p,.ref r,.ref a])->(vZ H p)->(EvA H r a us bs g j d c w' jp dp)->((∀b∈bs,ZS (Rat.divInt g 6) b.pl))->(∀z q u,∀k:Int,∀y x H',xw p H H'->H' z=some (.tup [.int k,.ref q,.ref u])->0<=k->k<bs.length->zu H' q y->zu H' u x->ZS (Rat.divInt g 6) y->PlZ (zB g j d) (zB g j d+zN g c*(w':Rat)) y->TmZ x->Q (.ref z) H')->zj5 vs H Q _e3
theorem Qg:zC ["pool","row","walls","wide","grid","ball","place","far","t"] ["pool","row","walls"] (zi Qc):=scq
theorem zji (D:Df K mg "_law_wish" Qc ["pool","row","walls"] []) (T:TxB K mg) (cN:⇑3 "_law_next" 1 ["pool","base"] [] Xg) (cF:⇑3 "_law_far" 2 ["pool"] [] zc8) (b8:⇑3 "_law_lowest" 1 ["top","bottom"] [] vw) (cS:⇑3 "_law_sum" 2 ["one","other"] [] (qQ Sz2 (· + ·))) (cP:⇑3 "_law_product" 2 ["one","other"] [] (qQ Sz2 (· * ·))) (f5:⇑3 "_law_minus" 3 ["one","other"] [] (qQ Sz2 (· - ·))) :
  ⇑3 "_law_wish" 4 ["pool","row","walls"] [] zj5:=by
 refine D.calq (k:=3) Qg (λf cdv A outer s H vs Q E c3 h=>?_)
 rcases q:h with⟨p,r,a,us,bs,g,j,d,c,U,jp,dp,rfl,hP,EA,LB,k⟩
 have O:xc 1 _:=c3.md
 have a9:xc 2 _:=c3.md
 exists(ze (psl (i:=3) Qg.nd (zD f5 c3 %[pxt (pxt (pv 2)),pxt (pxt (pv 2))|0]))
  (ze (psl (i:=4) Qg.nd (zD cS a9 %[pxt (pxt (pv 2)),(zD cP a9 %[3,(zD b8 O %[(zD cN O %[0,zh|0]),zh|0])|0])|0]))
  (ze (psl (i:=5) Qg.nd (qa XI (pv 1) (zD cN O %[0,zO xp ⇑2 T.nLen PySem.boot_len %[1|0]|0]) (λ_ _=>rfl)))
  (ze (psl (i:=6) Qg.nd (qa qy (qp %[4,pxt (pv 5),pxt (qa XI (pv 2) (zD cN O %[0,zh|0]) (λ_ _=>rfl))|0]) (zD cN O %[0,zh|0]) (λ_ _=>rfl)))
  (ze (psl (i:=7) Qg.nd (zD b8 O %[zy xr (zy zK (zD cF a9 %[0|0]) (zy VW zh zh)) (zD cF a9 %[0|0]),zy xr zh (zD cN O %[0,zh|0])|0]))
  (ze (psl (i:=8) Qg.nd (qa qy (qp %[(zX %[zh,zh|0]),(zD b8 O %[(zD cN O %[0,zh|0]),zy xr zh (zD cN O %[0,zh|0])|0]),7|0]) (zD cN O %[0,zh|0]) (λ_ _=>rfl)))
  (zo (zE (zX %[(zD cN O %[0,zO xp ⇑2 T.nLen PySem.boot_len %[1|0]|0]),6,8|0])))))))))
 have hp:=EA.G.pos
 have hj:=EA.G.j
 have hd:=EA.G.d
 have hc:=EA.G.c
 have hw:=EA.G.w
 have bg:=gBd EA.G.g1 EA.G.g2
 have W0:=EA.G.W0
 rcases q:id EA.W with⟨v1,v2,ha,⟨a1,p1,q1,rfl,h1,h2,h3⟩,⟨a2,p2,q2,rfl,g1,g2,g3⟩⟩
 have b9:Sz 100 (zB g j d):=.divInt ∅ (((show Bd 4 j from(show j.natAbs<2^4 by lia)).mul bg).md) (Bd.mono (m:=4) (show d.natAbs<2^4 by lia) ⇑1)
 have zW:Sz 100 (zN g c*(U:Rat)):=by
  refine((Sz.divInt (n:=80) ∅ (bg.md) (Bd.mono (m:=4) (show c.natAbs<2^4 by lia) ⇑1):Sz 80 (zN g c)).mul (n:=10) ⟨show ((U:Rat)).num.natAbs<2^10 by rw[Yj];lia,show (((U:Rat).den:Int)).natAbs<2^10 by rw[Y2];decide⟩).md
 rcases s:(λσ' G=>∃wd,σ'=[Sr p,Sr r,Sr a,Sr wd,none,none,none,none,none]/\zq H G/\zu G wd (zN g c*(U:Rat)))
 ·intro nx I
  exists 00,a,032,.of ha,at1 ..,a2,032,.of g1,at0 ..,00,a,032,.of ha,at0 ..,a1,032,.of h1,at0 ..
  refine⟨p2,p1,021,g2,h2,⟨(b9.add zW).md,b9.md⟩,λwd G S c0=>?_⟩
  refine I _ _ ⟨wd,rL,S,?_⟩
  have:zN g c*(U:Rat)=zB g j d+zN g c*(U:Rat)-zB g j d:=by grind
  rw[this];exact c0
 rintro σ1 G1 ⟨wd,rfl,S1,c0⟩
 rcases s:(λσ' G=>∃gd y,σ'=[Sr p,Sr r,Sr a,Sr wd,Sr gd,none,none,none,none]/\xw p H G/\zu G gd y/\ZS (Rat.divInt g 6) y/\PlZ (zB g j d) (zB g j d+zN g c*(U:Rat)) y)
 ·intro nx I
  exists 00,a,032,.of (S1 _ _ ha),at0 ..,a1,032,.of (S1 _ _ h1),at0 ..
  have P1:vZ G1 p:=by obtain⟨x,y,z,e⟩:=hP;exact⟨x,y,z,S1 _ _ e⟩
  refine⟨01,p,00,by decide,by decide,P1,λe G2 b0 b1 t2=>?_⟩
  refine⟨021,by decide,Bd.mono (m:=5) (show (12:Int).natAbs<2^5 by decide) ⇑1,λq3 G3 S3 e5=>?_⟩
  have d2:zu G3 wd _:=(t2.rat P1 c0).same S3
  refine⟨wd,q3,021,d2,e5,⟨zW.md,(Sz.divInt (n:=10) ⇑1 (show e.natAbs<2^10 by lia) (show (12:Int).natAbs<2^10 by decide)).md⟩,λq4 G4 S4 h4=>?_⟩
  have f9:zu G4 p1 (zB g j d):=((t2.rat P1 (zu.same h2 S1)).same S3).same S4
  have zf:Sz 108 (qg (zN g c*(U:Rat)) e 3):=J9 zW b0 ∅ ⇑1 ⇑1
  refine⟨p1,q4,021,f9,h4,⟨b9.md,zf.md⟩,λq5 G5 S5 h5=>?_⟩
  have nn:=zeD (n:=3) W0 ⇑1 b0
  have le:=zeB (n:=3) (e:=e) W0 ⇑1 ∅
  refine I _ _ ⟨q5,zB g j d+qg (zN g c*(U:Rat)) e 3,rfl,(t2.pre S1).same (S3.trans (S4.trans S5)),h5,EA.G.far_lat ⇑1 ⇑1,by grind,by grind,?_⟩
  rw[zeA hp.2.1 hp.2.2.1 ⇑1]
  have bw:Bd 8 (U*e):=(show Bd 4 U from(show U.natAbs<2^4 by lia)).mul (show Bd 4 e from(show e.natAbs<2^4 by lia))
  refine Zn (wP hp.2.1 (wP hp.2.2.1 ⇑1)) ((bg.mul (show Bd 13 (j*(c*(4*3))+U*e*d)from ?_)).md) ?_ ⇑1
  ·have g9:(U*e).natAbs<2^8:=bw
   show (j*(c*(4*3))+U*e*d).natAbs<2^13
   generalize U*e=x at *
   rcases hc with rfl | rfl | rfl <;> rcases hd with rfl | rfl <;> lia
  ·show (d*(c*(4*3))).natAbs<2^12
   rcases hc with rfl | rfl | rfl <;> rcases hd with rfl | rfl <;> decide
 rintro σ2 G2 Y;rcases q:Y with⟨gd,y1,rfl,T2,e8,e0,g4⟩
 have f7:xA H G2:=λa xs h=>T2.tup hP h
 have b6:=EA.tups f7
 have h0:=EA.R.1
 have l1:=EA.l1
 have l5:=EA.l5
 rcases s:(λσ' G=>∃ba b pa pb,σ'=[Sr p,Sr r,Sr a,Sr wd,Sr gd,Sr ba,none,none,none]/\xw p G2 G/\b∈bs/\G ba=some (.tup [.ref pa,.ref pb,.int b.wt])/\zu G pa b.pl)
 ·intro nx I
  refine⟨02,r,us,rfl,.inr (SqT.of b6.r),p,00,by lia,by lia,T2.pool,λe G3 a3 b3 t3=>?_⟩
  have hl:e.toNat<us.length:=by lia
  obtain⟨v,hv⟩:∃v,us[e.toNat]?=some v:=⟨_,wH hl⟩
  have e2:=Qk hv
  rw[show ((e.toNat:Nat):Int)=e by lia]at e2
  rcases q:b6.R.2 _ v hv with⟨b,eb,ba,pa,pb,rfl,k1,k2,k3⟩
  exists r,032,.of (t3.tup T2.pool b6.r),e2
  exact I _ _ ⟨ba,b,pa,pb,rL,t3,wU eb,t3.tup T2.pool k1,t3.rat T2.pool k2⟩
 rintro σ3 G3 Y;rcases q:Y with⟨ba,b,pa,pb,rfl,T3,mb,g6,e6⟩
 have fb:=EA.F b mb
 have c2:=T2.trans T3
 have h6:=EA.tups (λa xs h=>c2.tup hP h:xA H G3)
 have d3:=T3.rat T2.pool e8
 rcases s:(λσ' G=>∃q y,σ'=[Sr p,Sr r,Sr a,Sr wd,Sr gd,Sr ba,Sr q,none,none]/\xw p G3 G/\zu G q y/\ZS (Rat.divInt g 6) y/\PlZ (zB g j d) (zB g j d+zN g c*(U:Rat)) y)
 ·intro nx I
  have f0:PlZ (zB g j d) (zB g j d+zN g c*(U:Rat)) (zB g j d):=by
   have n:=Zn (n:=100) (m:=12) hp.2.1 (((show Bd 4 j from(show j.natAbs<2^4 by lia)).mul bg).md) (show d.natAbs<2^12 by lia) ⇑1
   exact⟨by grind,by grind,n.1,n.2⟩
  have e4:PlZ (zB g j d) (zB g j d+zN g c*(U:Rat)) (zB g j d+zN g c*(U:Rat)):=by
   exists by grind,by grind
   rw[zf9 hp.2.1 hp.2.2.1]
   refine Zn (wP hp.2.1 hp.2.2.1) ((bg.mul (show Bd 10 (j*c+U*d)from ?_)).md) ?_ ⇑1
   ·show (j*c+U*d).natAbs<2^10
    rcases hc with rfl | rfl | rfl <;> rcases hd with rfl | rfl <;> lia
   ·show (d*c).natAbs<2^12
    rcases hc with rfl | rfl | rfl <;> rcases hd with rfl | rfl <;> decide
  have f6:xA H G3:=λa xs h=>c2.tup hP h
  exists 01,ba,032,.of g6,rfl
  refine⟨01,p,00,by decide,by decide,T3.pool,λe1 K1 c7 d1 t1=>?_⟩
  have a8:xA H K1:=λa xs h=>t1.tup T3.pool (f6 _ _ h)
  rcases q:EA.G.lat with⟨i1,i2,d0,d5,_⟩
  obtain⟨aw,pw,qw,yw,ew,g0,g7,lw,d8⟩:∃aw pw qw yw,atI [V.ref a1,V.ref a2] e1=some (.ref aw)/\K1 aw=some (.tup [.ref pw,.ref qw])/\zu K1 pw yw/\ZS (Rat.divInt g 6) yw/\PlZ (zB g j d) (zB g j d+zN g c*(U:Rat)) yw:=by
   have:e1=0\/e1=1:=by lia
   rcases this with rfl | rfl
   ·exact⟨a1,p1,q1,00,a8 _ _ h1,a8 _ _ h2,zaf d0,f0⟩
   ·exact⟨a2,p2,q2,00,a8 _ _ g1,a8 _ _ g2,zaf (i:=i1+i2) (by rw[d0,d5,wQ];grind),e4⟩
  refine⟨a,032,.of (a8 _ _ ha),ew,aw,032,.of g0,at0 ..,zL3,λl9 a4=>?_⟩
  refine⟨00,p,00,by decide,by decide,t1.pool.new a4,λe2 K2 c1 c4 t2=>?_⟩
  have hl:=t2.keep l9 _ zj (t1.pool.ne a4)
  have V4:=zq.upd (o:=.lst [.ref gd,.ref pa,.ref pw]) a4
  have tt:=t2.pre V4
  obtain⟨yy,ey,hy⟩:=zfa (u:=V.ref gd) (v:=.ref pa) (x:=.ref pw) c1 c4
  exists l9,032,.of hl,ey
  have st:xw p G3 K2:=t1.trans tt
  rcases hy with rfl | rfl | rfl
  ·exact I _ _ ⟨gd,y1,rL,st,st.rat T3.pool d3,e0,g4⟩
  ·exact I _ _ ⟨pa,b.pl,rL,st,st.rat T3.pool e6,LB b mb,fb.i.1,fb.i.2,fb.p.1,fb.p.2⟩
  ·exact I _ _ ⟨pw,yw,rL,st,tt.rat t1.pool g7,lw,d8⟩
 rintro σ4 G4 Y;rcases q:Y with⟨q,y,rfl,T4,hq,f8,d9⟩
 have e7:=c2.trans T4
 rcases s:(λσ' G=>∃fr x,σ'=[Sr p,Sr r,Sr a,Sr wd,Sr gd,Sr ba,Sr q,Sr fr,none]/\xw p G4 G/\zu G fr x/\TmZ x)
 ·intro nx I
  refine⟨00,p,rL,T4.pool,λf1 K1 c7 d1 t1=>?_⟩
  exists 022,⟨by decide,by decide,by decide⟩,022,⟨Bd.mono (m:=80) (show f1.natAbs<2^80 by lia) ⇑1,Bd.mono (m:=40) (show ((10:Int)^9).natAbs<2^40 by decide) ⇑1⟩
  refine⟨00,p,rL,t1.pool,λf2 K2 c1 c4 t2=>?_⟩
  refine⟨022,?_⟩
  have b2:=t1.trans t2
  refine⟨00,p,00,by decide,by decide,b2.pool,λe K3 c9 c8 t3=>⟨022,021,by lia,Bd.mono (m:=10) (show (1+e).natAbs<2^10 by lia) ⇑1,λfr K4 S4 b4=>?_⟩⟩
  refine I _ _ ⟨fr,_,rL,(b2.trans t3).same S4,b4,?_⟩
  have p9:(10:Int)^9=1000000000:=by decide
  refine Zn ∅ ?_ (show (1+e).natAbs<2^4 by lia) ⇑1
  have:(2535301200456458802993406410752:Nat)=2^101:=by decide
  show (f1*(10:Int)^9+f2).natAbs<2^101
  rw[p9]
  lia
 rintro σ5 G5 Y;rcases q:Y with⟨fr,x5,rfl,T5,b4,d4⟩
 rcases s:(λσ' G=>∃u x,σ'=[Sr p,Sr r,Sr a,Sr wd,Sr gd,Sr ba,Sr q,Sr fr,Sr u]/\xw p G5 G/\zu G u x/\TmZ x)
 ·intro nx I
  refine⟨⇑5,λz9 c5=>?_⟩
  have V1:=zq.upd (o:=.tup [.int 0,.int 1]) c5
  have q0:zu (upd G5 z9 (.tup [.int 0,.int 1])) z9 0:=zj
  have P1:vZ (upd G5 z9 (.tup [.int 0,.int 1])) p:=T5.pool.new c5
  generalize upd G5 z9 (.tup [.int 0,.int 1])=K0 at V1 q0 P1
  refine⟨00,p,00,by decide,by decide,P1,λe1 K1 c7 d1 t1=>?_⟩
  refine⟨00,p,00,by decide,by decide,t1.pool,λe2 K2 c1 c4 t2=>⟨022,021,by lia,Bd.mono (m:=10) (show (1+e2).natAbs<2^10 by lia) ⇑1,λsm K3 S3 g5=>?_⟩⟩
  have b2:=t1.trans t2
  refine⟨00,zL3,λl9 a4=>?_⟩
  have V4:=zq.upd (o:=.lst [.ref z9,.ref sm,.ref fr]) a4
  have a5:=b2.same S3
  refine⟨00,p,00,by decide,by decide,a5.pool.new a4,λe3 K4 c9 c8 t4=>?_⟩
  have hl:=t4.keep l9 _ zj (a5.pool.ne a4)
  have tt:=t4.pre V4
  obtain⟨yy,ey,hy⟩:=zfa (u:=V.ref z9) (v:=.ref sm) (x:=.ref fr) c9 c8
  exists l9,032,.of hl,ey
  have st:xw p G5 K4:=(a5.trans tt).pre V1
  rcases hy with rfl | rfl | rfl
  ·exact I _ _ ⟨z9,0,rfl,st,tt.rat a5.pool (a5.rat P1 q0),show (0:Int).natAbs<2^101 by decide,show (1:Int).natAbs<2^4 by decide⟩
  ·exact I _ _ ⟨sm,_,rfl,st,tt.rat a5.pool g5,Zn ∅ (show e1.natAbs<2^101 by lia) (show (1+e2).natAbs<2^4 by lia) ⇑1⟩
  ·exact I _ _ ⟨fr,x5,rL,st,st.rat T5.pool b4,d4⟩
 rintro σ6 G6 Y;rcases q:Y with⟨u,x,rfl,T6,d7,g8⟩
 have c6:=T5.trans T6
 have a6:=e7.trans c6
 have d6:=c6.rat T4.pool hq
 have e9:=EA.tups (λa xs h=>a6.tup hP h:xA H G6)
 refine⟨01,r,us,rfl,.inr (SqT.of e9.r),p,00,by lia,by lia,a6.pool,λe G7 a7 b7 t7=>?_⟩
 refine⟨01,zL3,λz hz=>?_⟩
 have b5:=zq.upd (o:=.tup [.int e,.ref q,.ref u]) hz
 exact k z q u e y x _ ((a6.trans t7).same b5) zj a7 ∅ ((t7.rat a6.pool d6).same b5) ((t7.rat a6.pool d7).same b5) f8 d9 g8
def Qj (H:Hp) (v:V):Rat ⊕ List Rat->Prop
 |.inl m=>∃r q,v=.ref r/\H r=some (.tup [.str "at",.ref q])/\zu H q m
 |.inr ms=>∃r L us,v=.ref r/\H r=some (.tup [.str "never",.ref L])/\H L=some (.lst us)/\ZW H us ms/\us.length<=1000
def zhm:Rat ⊕ List Rat->PyData
 |.inl m=>atD m
 |.inr ms=>zfd ms
theorem Qj.rd {H:Hp}{v:V}{o:Rat ⊕ List Rat}(h:Qj H v o):RdD H v (zhm o):=by
 cases o with
 |inl m =>
  obtain⟨r,q,rfl,h1,h2⟩:=h
  exact .tup h1 (.cons (.str _) (.cons (zu.rdD h2) .nil))
 |inr ms =>
  obtain⟨r,L,us,rfl,h1,h2,F,_⟩:=h
  exact .tup h1 (.cons (.str _) (.cons (.lst h2 (Z6 F)) .nil))
theorem zjr (o:Rat ⊕ List Rat):SeqAt.shaped (zhm o)=true:=by
 cases o with
 |inl m=>exact zcr m
 |inr ms=>exact zb4 ms
theorem Qj.same {H H':Hp}{v:V}{o:Rat ⊕ List Rat}(h:Qj H v o) (e:zq H H'):Qj H' v o:=by
 cases o with
 |inl m =>
  obtain⟨r,q,rfl,h1,h2⟩:=h
  exact⟨r,q,rL,e _ _ h1,h2.same e⟩
 |inr ms =>
  obtain⟨r,L,us,rfl,h1,h2,F,G⟩:=h
  exact⟨r,L,us,rL,e _ _ h1,e _ _ h2,F.same e,G⟩
def TmW (x:Rat):Prop:=Bd 150 x.num/\Bd 44 (x.den:Int)
def zec (lo hi:Rat) (ls:List (Rat×Rat)) (y x:Rat):Rat ⊕ List Rat->Prop
 |.inl m=>zco lo hi ls y x m
 |.inr _=>True
def zed:Rat ⊕ List Rat->Prop
 |.inl m=>Sz 3000 m
 |.inr ms=>∀m∈ms,Sz 3000 m
section
variable {H:Hp}{r a q u:Addr}{us:List V}{bs:List Bl}{g j d c w jp dp:Int}{k:Int}{y x:Rat}
theorem EvA.ln (h:EvA H r a us bs g j d c w jp dp):Ln H r a bs (some (zB g j d,0)) (some (zB g j d+zN g c*(w:Rat),0)) :=
 ⟨⟨us,h.r,h.R⟩,h.W,h.l1,by have:=h.l5;lia⟩
theorem EvA.fit (h:EvA H r a us bs g j d c w jp dp):RwZ bs (zB g j d,0) (zB g j d+zN g c*(w:Rat),0)/\RwU bs (zB g j d,0) (zB g j d+zN g c*(w:Rat),0) (Rat.divInt g 6) 36 ∧
  ∃O,bs[0]?=some O/\plB (tb O) (bs.map tb) (some (zB g j d,0)) (some (zB g j d+zN g c*(w:Rat),0))=true:=by
 obtain⟨S,I⟩:=h.wt
 exact ziH h.G h.l1 h.l5 h.F I
theorem EvA.lh (h:EvA H r a us bs g j d c w jp dp):zB g j d<zB g j d+zN g c*(w:Rat):=by have:=h.G.W0;grind
theorem EvA.tell (h:EvA H r a us bs g j d c w jp dp) (hk:0<=k/\k<bs.length) (hq:zu H q y) (G:PlZ (zB g j d) (zB g j d+zN g c*(w:Rat)) y) (hu:zu H u x) (hx:TmW x){CM:Addr}{Q:VK}{E:XK}
  (kk:∀v o H',zq H H'->qD (zB g j d) (zB g j d+zN g c*(w:Rat)) (lsQ bs) k y x o->zec (zB g j d) (zB g j d+zN g c*(w:Rat)) (lsQ bs) y x o->zed o->Qj H' v o->Q v H'):zbp CM [.ref r,.ref a,.int k,.ref q,.ref u] H Q E:=by
 obtain⟨z,U,b0,e0,hp⟩:=h.fit
 obtain⟨p,s,m,O,trs,l,h',tk,b,T,pss,lz,F⟩:=zkm z U G.2.2.1 G.2.2.2 hx.1 hx.2
 have ka:∀l',lz=some l'->LkA (2*(h'.1-l.1)) b l' (zR l.1 O trs)/\LkG (2*(h'.1-l.1)) b l' (zR l.1 O trs):=λl' e=>by
  obtain⟨A,bn,iq⟩:=F.ka l' e
  refine⟨A,LkG.of A bn (q:=36) iq ?_ ⇑1⟩
  have h1:=Xn l.1 O trs
  have h2:trs.length=bs.length:=by rw[F.wz.et,wc,wc]
  have:=h.l5
  have:(zR l.1 O trs).length*36<=10*36:=Nat.mul_le_mul_right _ ∅
  lia
 refine⟨k,bs,_,_,y,x,p,s,m,O,trs,l,h',tk,b,T,pss,lz,⟨⟨r,a,q,u,rL,h.ln,hq,hu⟩,z.lnz,⟨b0,e0,hp⟩,hk,⟨G.1,G.2.1⟩⟩,F.wz,F.rg,F.lzz,.inl ⟨ka,λms N hO=>?_⟩⟩
 obtain⟨t1,t2⟩:=WhF.tell (k:=k) z F G.1 G.2.1 hO
 have b2:0<b.2:=by rw[F.wz.eb];exact den_pos _
 obtain⟨bm,bN,N0,ml⟩:=ze5 ⟨F.wz.bb.1,F.wz.bb.2,b2⟩ hO ka
 have I:Sz 92 tk:=by
  have f:=z.f
  rw[F.wz.etk,F.wz.ep,F.wz.es]
  exact .divInt (yt f.p0) f.sb (f.pb.md)
 have zm:∀t∈ms,Sz 3000 (moQ tk t N):=λt V=>.divInt (yt (wP N0 (den_pos tk))) (((bm t V).mul I.1).md) ((bN.mul I.2).md)
 refine⟨λt e Y qq H' S h1 h2=>?_,λe Y L W H' S h1 h2 h3=>?_⟩
 ·obtain⟨ta,na⟩:=t1 t e
  exact kk _ (.inl (moQ tk t N)) H' S ta na (zm t (ue e)) ⟨Y,qq,rL,h1,h2⟩
 ·exact kk _ (.inr (ms.map λt=>moQ tk t N)) H' S (t2 e) trivial (λm mm=>by obtain⟨t,V,rfl⟩:=wj.mp mm;exact zm t V) ⟨Y,L,W,rfl,h1,h2,h3,by rw[h3.1,wc];exact ml⟩
theorem EvA.once (h:EvA H r a us bs g j d c w jp dp) (hu:zu H u x) (hx:Sz 200 x){Q:VK}{E:XK}
  (kk:∀z ys F H',zq H H'->H' z=some (.tup ys)->qt H' ys F->(lsQ F).Perm ((lsQ bs).map (lnQ (zB g j d) (zB g j d+zN g c*(w:Rat)) x))->(F.map Bl.pl).Pairwise (·<=·)->(∃V,∀b∈F,b.wt=V)->Q (.ref z) H'):zfU [.ref r,.ref a,.ref u] H Q E:=by
 obtain⟨z,U,I,e0,hp⟩:=h.fit
 refine⟨r,a,u,bs,I,_,_,x,rL,h.ln,z.lnz,e0,hp,hu,hx,λW H' S ⟨ys,js,h1,h2,h3,h4⟩=>?_⟩
 have O:bs.length<=8:=by have:=h.l5;lia
 refine kk W ys _ H' S h1 h4 ?_ ?_ ⟨I.wt,λb mb=>by obtain⟨_,_,rfl⟩:=wj.mp mb;rfl⟩
 ·have e:=ze2 (x:=x) z.lnz O
  have G:=h2.map λu:Int×Int=>(Rat.divInt u.1 (pbO bs (some (zB g j d,0)) (some (zB g j d+zN g c*(w:Rat),0))*(x/Rat.divInt (sbO bs (some (zB g j d,0)) (some (zB g j d+zN g c*(w:Rat),0))) (pbO bs (some (zB g j d,0)) (some (zB g j d+zN g c*(w:Rat),0)))).den),Rat.divInt u.2 (sbO bs (some (zB g j d,0)) (some (zB g j d+zN g c*(w:Rat),0))))
  rw[e]at G
  refine(List.Perm.of_eq ?_).trans G
  unfold lsQ
  rw[wG];rfl
 ·have Y:0<pbO bs (some (zB g j d,0)) (some (zB g j d+zN g c*(w:Rat),0))*(x/Rat.divInt (sbO bs (some (zB g j d,0)) (some (zB g j d+zN g c*(w:Rat),0))) (pbO bs (some (zB g j d,0)) (some (zB g j d+zN g c*(w:Rat),0)))).den:=wP (z.lnz.dv O).1.1 (den_pos _)
  rw[wG,ug]
  refine h3.imp λ{u v} q=>?_
  have le:u.1<=v.1:=by
   rcases yA v.1 u.1 with c | c
   ·exfalso
    have:xZ (prL v) (prL u)=true:=by
     show (if v.1=u.1 then _ else decide (v.1<u.1))=true
     rw[if_neg ∅];exact wm c
    rw[this]at q;cases q
   ·exact c
  exact(Qq Y).le _ _ |>.mpr le
end
theorem zi1 {lo hi x:Rat}{u:Rat×Rat}:(lnQ lo hi x u).2=u.2\/(lnQ lo hi x u).2=-u.2:=by
 have:=zgx u.2
 unfold lnQ
 nofun
 split
 ·exact this
 split
 ·rcases this with e | e
  ·exact .inr (by rw[e])
  ·exact .inl (by rw[e];grind)
 split
 ·exact .inl rL
 ·exact .inr rL
theorem zi0 {lo hi x:Rat}{u:Rat×Rat}(h:lo<hi) (n:(lnQ lo hi x u).2<0):lo<(lnQ lo hi x u).1:=by
 have F:0<hi-lo+(hi-lo):=by grind
 have a:=ve (x:=u.1+u.2*x-lo) (zU F)
 have b:=qM (x:=u.1+u.2*x-lo) (zU F)
 have nn:=zgw u.2
 unfold lnQ at *
 dsimp only at *
 generalize rst (u.1+u.2*x-lo) (hi-lo+(hi-lo))=r at *
 by_cases c0:r=0
 ·rw[if_pos c0]at n;exact absurd n (by dsimp only;grind)
 ·rw[if_neg c0]at n ⊢
  by_cases c1:r=hi-lo
  ·rw[if_pos c1];exact h
  ·rw[if_neg c1]at n ⊢
   by_cases c2:r<hi-lo
   ·rw[if_pos c2];dsimp only;grind
   ·rw[if_neg c2];dsimp only;grind
theorem ziZ {lo hi x u:Rat}{v:Rat×Rat}(h:lo<hi){G O a D k V F:Int}(u0:0<u) (e1:lo=u*(G:Rat)) (e2:hi-lo=u*(O:Rat)) (D1:1<=D) (I:v.1=u*((a:Rat)/(D:Rat))) (es:v.2=u*(k:Rat)) (b1:1<=F) (ex:x=(V:Rat)/(F:Rat)):∃A:Int,(lnQ lo hi x v).1=u*((A:Rat)/((D*F:Int):Rat)):=by
 have Y:0<hi-lo+(hi-lo):=by grind
 obtain⟨n,U⟩:=vd (x:=v.1+v.2*x-lo) Y
 have Dn:=zQ (show D≠0 by lia)
 have bn:=zQ (show F≠0 by lia)
 have S:rst (v.1+v.2*x-lo) (hi-lo+(hi-lo))=u*(((a*F+k*V*D-G*(D*F)-n*(2*O)*(D*F):Int):Rat)/((D*F:Int):Rat)):=by
  have:rst (v.1+v.2*x-lo) (hi-lo+(hi-lo))=v.1+v.2*x-lo-(n:Rat)*(hi-lo+(hi-lo)):=by grind
  rw[this,e2,I,es,ex,e1]
  simp only[wQ,yp,wf]
  have two:((2:Int):Rat)=2:=rfl
  rw[two]
  clear this U e1 e2 I es ex
  grind
 have W:((D*F:Int):Rat)≠0:=zQ (by have:=wP (show 0<D by lia) (show 0<F by lia);lia)
 unfold lnQ
 nofun
 rw[S]
 generalize (a*F+k*V*D-G*(D*F)-n*(2*O)*(D*F))=R at *
 generalize D*F=B at *
 split
 ·refine⟨G*B,?_⟩
  show lo=_
  rw[e1,wf]
  clear S U e1 e2 I es ex
  grind
 split
 ·refine⟨(G+O)*B,?_⟩
  show hi=_
  have:hi=u*(G:Rat)+u*(O:Rat):=by rw[<-e1,<-e2];grind
  rw[this,wf,wQ]
  clear this S U e1 e2 I es ex
  grind
 split
 ·refine⟨G*B+R,?_⟩
  show lo+_=_
  rw[e1,wQ,wf]
  clear S U e1 e2 I es ex
  grind
 ·refine⟨G*B+2*O*B-R,?_⟩
  show lo+(hi-lo+(hi-lo))-_=_
  rw[e2,e1]
  simp only[wQ,yp,wf]
  have two:((2:Int):Rat)=2:=rfl
  rw[two]
  clear S U e1 e2 I es ex
  grind
section
variable {g j d c w jp dp:Int}
theorem BlF.gone (G:EvG g j d c w jp dp){x:Rat}(hx:(x.den:Int)<=15){b O:Bl}(F:BlF (zB g j d) (zB g j d+zN g c*(w:Rat)) (Rat.divInt g 6) b) (L:ZS (Rat.divInt g 6) b.pl) (e:(O.pl,O.sp)=lnQ (zB g j d) (zB g j d+zN g c*(w:Rat)) x (b.pl,b.sp)):BlF (zB g j d) (zB g j d+zN g c*(w:Rat)) (Rat.divInt g 6) O:=by
 obtain⟨S,Y,e1,e2,b0,a2,a3,a7⟩:=G.lat
 have lh:zB g j d<zB g j d+zN g c*(w:Rat):=by have:=G.W0;grind
 have u0:0<Rat.divInt g 6:=(qh ⇑1).mpr G.pos.1
 have ep:O.pl=(lnQ (zB g j d) (zB g j d+zN g c*(w:Rat)) x (b.pl,b.sp)).1:=congrArg Prod.fst e
 have es:O.sp=(lnQ (zB g j d) (zB g j d+zN g c*(w:Rat)) x (b.pl,b.sp)).2:=congrArg Prod.snd e
 have W:O.sp=b.sp\/O.sp=-b.sp:=by rw[es];exact zi1
 have I:=zkG (x:=x) (u:=(b.pl,b.sp)) lh
 have U:zB g j d+zN g c*(w:Rat)-zB g j d=Rat.divInt g 6*(Y:Rat):=by rw[<-e2];grind
 obtain⟨k,hk⟩:∃k:Int,b.sp=Rat.divInt g 6*(k:Rat):=by
  by_cases c0:b.sp=0
  ·exact⟨0,by rw[c0];have z:((0:Int):Rat)=0:=rfl;rw[z,Rat.mul_zero]⟩
  ·obtain⟨k,_,_,h | h⟩:=F.k c0
   ·exact⟨k,by rw[h,Y1]⟩
   ·exact⟨-(k:Int),by rw[h,yq];grind⟩
 obtain⟨a,D,D1,a6,hl⟩:=L
 have dx:=den_pos x
 have ex:x=(x.num:Rat)/((x.den:Int):Rat):=by rw[<-wN];exact(wY x).symm
 obtain⟨A,hA⟩:=ziZ (v:=(b.pl,b.sp)) lh u0 e1 U D1 hl hk (show 1<=(x.den:Int) by lia) ex
 rw[<-ep]at hA I
 have B0:0<D*(x.den:Int):=wP ∅ dx
 have B1:D*(x.den:Int)<=300:=by have:=YA a6 hx ∅ ⇑1;lia
 generalize D*(x.den:Int)=B at *
 have V:(0:Rat)<(B:Rat):=wv.mpr B0
 have bA:A.natAbs<=28800:=by
  have up:(A:Rat)<=((96*B:Int):Rat)/\((-36*B:Int):Rat)<=(A:Rat):=by
   have a9:(S:Rat)<=((36:Int):Rat):=wI.mpr a7
   have a1:((-36:Int):Rat)<=(S:Rat):=wI.mpr a3
   have a4:(Y:Rat)<=((60:Int):Rat):=wI.mpr a2
   rw[e1,e2]at I
   have a8:((96:Int):Rat)=((36:Int):Rat)+((60:Int):Rat):=by decide +kernel
   generalize Rat.divInt g 6=u at *
   have n1:(S:Rat)<=(A:Rat)/(B:Rat):=by
    by_cases q:(S:Rat)<=(A:Rat)/(B:Rat)
    ·exact q
    ·exfalso;have:=uP (show (A:Rat)/(B:Rat)<(S:Rat) by grind) u0;grind
   have n2:(A:Rat)/(B:Rat)<=(S:Rat)+(Y:Rat):=by
    by_cases q:(A:Rat)/(B:Rat)<=(S:Rat)+(Y:Rat)
    ·exact q
    ·exfalso;have:=uP (show (S:Rat)+(Y:Rat)<(A:Rat)/(B:Rat) by grind) u0;grind
   have m1:=wC n1 (yc V)
   have m2:=wC n2 (yc V)
   have k1:=wC a9 (yc V)
   have k2:=wC a1 (yc V)
   have k3:=wC a4 (yc V)
   have eA:(A:Rat)/(B:Rat)*(B:Rat)=(A:Rat):=uG (by grind)
   rw[eA]at m1 m2
   rw[wf,wf,a8]
   clear hA hl hk e1 e2 U ep es W I ex
   constructor <;> grind
  have u1:=wI.mp up.1
  have u2:=wI.mp up.2
  lia
 have a5:O.pl=Rat.divInt (g*A) (6*B):=by
  rw[hA,xY,xY,wf,wf]
  have n6:((6:Int):Rat)≠0:=by decide
  have Bn:(B:Rat)≠0:=by grind
  generalize ((6:Int):Rat)=s at *
  clear hA hl hk e1 e2 U ep es W I ex
  grind
 refine⟨?_,?_,I,λn=>?_,λn=>?_⟩
 ·rw[a5]
  exact Zn ∅ (((gBd G.g1 G.g2).mul (show Bd 15 A from(show A.natAbs<2^15 by lia))).md) (show (6*B).natAbs<2^12 by lia) ⇑1
 ·rcases W with q | q
  ·rw[q];exact F.s
  ·rw[q,Ue,Rat.neg_den];exact⟨F.s.1.neg,F.s.2⟩
 ·rw[ep];rw[es]at n;exact zi0 lh n
 ·have:b.sp≠0:=λz=>by
   rcases W with q | q
   ·exact n (by rw[q,z])
   ·exact n (by rw[q,z];rfl)
  obtain⟨k,k1,k2,h⟩:=F.k this
  exists k,k1,k2
  rcases W with q | q
  ·rw[q];exact h
  ·rw[q]
   rcases h with h | h
   ·exact .inr (by rw[h])
   ·exact .inl (by rw[h];grind)
section
variable {H H':Hp}{r a:Addr}{us:List V}{bs:List Bl}{x:Rat}
theorem EvA.gone (h:EvA H r a us bs g j d c w jp dp) (LB:∀b∈bs,ZS (Rat.divInt g 6) b.pl) (hx:(x.den:Int)<=15) (S:zq H H'){z:Addr}{ys:List V}{I:List Bl}(h1:H' z=some (.tup ys)) (h2:qt H' ys I) (hp:(lsQ I).Perm ((lsQ bs).map (lnQ (zB g j d) (zB g j d+zN g c*(w:Rat)) x))) (hw:∃wt,∀b∈I,b.wt=wt):EvA H' z a ys I g j d c w jp dp:=by
 have Y:I.length=bs.length:=by have:=hp.length_eq;unfold lsQ at this;rw[wc,wc,wc]at this;exact this
 have h':=h.tups (.of S)
 refine⟨h1,h2,by rw[Y];exact h.l1,by rw[Y];exact h.l5,h.G,λO mb=>?_,hw,h'.W⟩
 have:(O.pl,O.sp)∈(lsQ bs).map (lnQ (zB g j d) (zB g j d+zN g c*(w:Rat)) x):=hp.mem_iff.mp (wj.mpr ⟨O,mb,rfl⟩)
 obtain⟨v,mv,ev⟩:=wj.mp this
 obtain⟨b,U,rfl⟩:=wj.mp mv
 exact BlF.gone h.G hx (h.F b U) (LB b U) ev.symm
end
end
end KK
namespace KM
section
variable {lo hi y m s:Rat}{ls:List (Rat×Rat)}{k:Int}
theorem zi3 {R:Option Rat}(lh:lo<hi) (r:RdO lo hi ls R) (t:ThL lo hi ls k y m) (n:NvQ (ThL lo hi ls k y) s):False:=by
 cases R with
 |none =>
  refine n s Wu ?_
  unfold ThL at *
  have:ls.map (xG lo hi s)=ls.map (xG lo hi m):=wy λu I=>by unfold xG;rw[r u I,yT,yT]
  rw[this];exact t
 |some r' =>
  have G:=r.2.r0
  have on:∀(i:Nat),ThL lo hi ls k y (m+((i:Int):Rat)*r'):=by
   intro i
   induction i with
   |zero=>have z:(((0:Nat):Int):Rat)=0:=rfl;rw[z,yT,Y3];exact t
   |succ i ih =>
    have:=ThQ.perm (r.2.per lh (m+((i:Int):Rat)*r')).symm ih
    have e:(((i+1:Nat):Int):Rat)=((i:Int):Rat)+1:=by rw[show ((i+1:Nat):Int)=(i:Int)+1 by lia,wQ];rfl
    rw[e,show m+(((i:Int):Rat)+1)*r'=m+((i:Int):Rat)*r'+r' by grind]
    exact this
  obtain⟨F,O⟩:=vd (x:=s-m) G
  have b:=qM (x:=s-m) (zU G)
  generalize rst (s-m) r'=q at *
  have le:(F:Rat)<=(((F.toNat:Nat):Int):Rat):=wI.mpr ∅
  have:=wC le (yc G)
  refine n _ ?_ (on (F.toNat+1))
  have e:(((F.toNat+1:Nat):Int):Rat)=(((F.toNat:Nat):Int):Rat)+1:=by rw[show ((F.toNat+1:Nat):Int)=((F.toNat:Nat):Int)+1 by lia,wQ];rfl
  rw[e];grind
end
end KM
namespace KK
open PySem L2 KM
section
variable {g j d c w jp dp:Int}{bs:List Bl}{y s m:Rat}{k:Int}
theorem zg6 {H:Hp}{r a:Addr}{us:List V}(h:EvA H r a us bs g j d c w jp dp) (LB:∀b∈bs,ZS (Rat.divInt g 6) b.pl) (y0:zB g j d<=y) (y1:y<=zB g j d+zN g c*(w:Rat)) (ly:ZS (Rat.divInt g 6) y){V B:Int}(hs:TmB V B s) (hB:14400<=B) (n:zco (zB g j d) (zB g j d+zN g c*(w:Rat)) (lsQ bs) y s m):s<=m/\TmB (V+120) B m/\(m=s\/∃a b:Int,1<=b/\b<=14400/\m=(a:Rat)/(b:Rat)):=by
 obtain⟨i1,S,e1,e2,a1,W,_,_⟩:=h.G.lat
 have O:0<Rat.divInt g 6:=(qh ⇑1).mpr h.G.pos.1
 have lh:=h.lh
 obtain⟨R,r,n⟩:=n
 rcases n with rfl | ⟨r',rfl,n1,n2,P⟩
 ·exact⟨Wu,hs.mono ∅ ∅,.inl rL⟩
 ·obtain⟨z,U,_⟩:=h.fit
  have F:zB g j d+zN g c*(w:Rat)-zB g j d=Rat.divInt g 6*(S:Rat):=by rw[<-e2];grind
  obtain⟨a,b,I,b2,e⟩:=zhn (lo:=(zB g j d,0)) (hi:=(zB g j d+zN g c*(w:Rat),0)) O lh y0 y1 e1 F ly LB U P
  have le:=zjA (lo:=(zB g j d,0)) (hi:=(zB g j d+zN g c*(w:Rat),0)) O lh U r.2
  have Y:r'<=((120:Int):Rat):=by
   have:2*(zB g j d+zN g c*(w:Rat)-zB g j d)/Rat.divInt g 6=((2*S:Int):Rat):=by
    rw[F,wf]
    have two:((2:Int):Rat)=2:=rfl
    rw[two]
    clear e e1 e2 F le
    grind
   dsimp only at le
   rw[this]at le
   exact Rat.le_trans le (wI.mpr ∅)
  refine⟨yc n1,⟨⟨a,b,I,by lia,e⟩,?_,?_⟩,.inr ⟨a,b,I,b2,e⟩⟩
  ·rw[wQ];have:=hs.up;grind
  ·rw[wQ];have:=hs.dn;have:(0:Rat)<=((120:Int):Rat):=by decide
   grind
theorem zgA {V B e:Int}(hs:TmB V B s) (hm:TmB (V+120) B m) (sm:s<=m) (hB:14400<=B) (hn:m=s\/∃a b:Int,1<=b/\b<=14400/\m=(a:Rat)/(b:Rat)) (e0:0<=e) (e7:e<7):s<=s+(m-s)*Rat.divInt e 7/\s+(m-s)*Rat.divInt e 7<=m/\TmB (V+120) (100800*B) (s+(m-s)*Rat.divInt e 7):=by
 have f0:0<=Rat.divInt e 7:=Xl ⇑1 e0
 have f1:Rat.divInt e 7<=1:=by
  have:=(xK (a:=e) (b:=7) (d:=7) ⇑1).mpr e7
  have e77:Rat.divInt 7 7=1:=by decide +kernel
  rw[e77]at this;exact yc this
 have ms:0<=m-s:=by grind
 have p0:=u6 ms f0
 have p1:=yK f1 ms
 have h1:s<=s+(m-s)*Rat.divInt e 7:=by grind
 have h2:s+(m-s)*Rat.divInt e 7<=m:=by grind
 refine⟨h1,h2,?_,by have:=hm.up;grind,by have:=hs.dn;rw[wQ];have:(0:Rat)<=((120:Int):Rat):=by decide
                                         grind⟩
 obtain⟨a1,b1,c1,c2,e1⟩:=hs.ex
 rcases hn with rfl | ⟨a2,b2,d1,d2,e2⟩
 ·exact⟨a1,b1,c1,by lia,by rw[<-e1];grind⟩
 ·have bb:=wP (show 0<b1 by lia) (show 0<b2 by lia)
  have bB:b1*b2<=B*14400:=YA c2 d2 ∅ ∅
  exists(7-e)*a1*b2+e*a2*b1,7*(b1*b2),by lia,by lia
  have n1:=zQ (show b1≠0 by lia)
  have n2:=zQ (show b2≠0 by lia)
  rw[e1,e2,xY]
  simp only[wQ,yp,wf]
  have s7:((7:Int):Rat)=7:=rfl
  rw[s7]
  clear p0 p1 h1 h2 e1 e2
  grind
theorem zg8 {V B e:Int}(W:TmB V B m) (e0:1<=e) (S:e<=30):TmB (V+5) (7*B) (m+Rat.divInt e 7):=by
 have O:0<=Rat.divInt e 7:=Xl ⇑1 ∅
 have f1:Rat.divInt e 7<=((5:Int):Rat):=by
  have:=(xK (a:=e) (b:=35) (d:=7) ⇑1).mpr ∅
  have G:Rat.divInt 35 7=((5:Int):Rat):=by decide +kernel
  rw[G]at this;exact yc this
 obtain⟨⟨U,F,c1,c2,e1⟩,u,Y⟩:=W
 refine⟨⟨7*U+e*F,7*F,by lia,by lia,?_⟩,by rw[wQ];grind,by rw[wQ];grind⟩
 have n1:=zQ (show F≠0 by lia)
 rw[e1,xY]
 simp only[wQ,wf]
 have I:((7:Int):Rat)=7:=rfl
 rw[I]
 clear O f1 u Y e1
 grind
end
end KK
namespace L2
open PySem PySem.Spec PyProof.Rows
def Qh.quiet {P:Program}{w:World}{K:Fg}{mg:Str->Option Value}{base:Heap}{x:Str}{k:Nat}{ps:List Str}{dvs:List V}{sp G:Sp}(c:Qh P w K mg base x k ps dvs sp) (h:∀vs H Q E,G vs H Q E->sp vs H Q λ_ _ _=>False):⇑3 x k ps dvs G:=by
 obtain⟨f,fd,ds,F,r⟩:=c.ex
 refine⟨⟨f,fd,ds,⟨λvs H Q E q=>F.len vs H Q _ (h vs H Q E q),λA outer s H args us vs Q E hr S O U q=>?_⟩,r⟩⟩
 refine codeAny_mono (F.run A outer s H args us vs Q _ hr S O U (h vs H Q E q)) λY s' I=>?_
 cases Y with
 |ok fl=>cases fl <;> exact I
 |error e=>obtain⟨_,_,_,_,_,_,_,_,z⟩:=I;exact z.elim
end L2
namespace KK
open PySem L2 KM
variable {P:Program}{w:World}{K:Fg}{mg:Str->Option Value}{base:Heap}{CE aN:Addr}
theorem zay {d:PyData}(s:SeqAt.shaped d=true):PyData.eqv d d=true:=SeqAt.eqv_refl _ (by have:(_&&decide (_<=64))=true:=s;exact(Bool.and_eq_true_iff.mp this).1)
theorem jV {H:Hp}{x y:V}{d:PyData}{Q:VK}(h1:RdD H x d) (h2:RdD H y d) (s:SeqAt.shaped d=true) (q:Q (.bl false) H):zld x y H Q :=
 ⟨_,_,h1,h2,s,s,by rw[zay s];exact q⟩
theorem J7 {H:Hp}{x y:V}{d:PyData}{Q:VK}(h1:RdD H x d) (h2:RdD H y d) (s:SeqAt.shaped d=true) (q:Q (.bl true) H):zjy x y H Q :=
 ⟨_,_,h1,h2,s,s,by rw[zay s];exact q⟩
theorem J6 {H:Hp}{x y:V}{d e:PyData}{Q:VK}(h1:RdD H x d) (h2:RdD H y e) (s:SeqAt.shaped d=true) (s':SeqAt.shaped e=true) (n:PyData.eqv d e=false) (q:Q (.bl false) H):zjy x y H Q :=
 ⟨_,_,h1,h2,s,s',by rw[n];exact q⟩
theorem ZO {p:Addr}{H H':Hp}(F:vZ H p) (s:xw p H H'):xA H H':=λ_ _ e=>s.tup F e
theorem zc0 (x:Rat):SeqAt.shaped (raD x)=true:=(Lay.rat x).shaped ⇑1
theorem zlf {x y:Rat}(h:x≠y):PyData.eqv (raD x) (raD y)=false:=by
 have:(decide (x.num=y.num)&&(decide ((x.den:Int)=(y.den:Int))&&true))=false:=by
  by_cases c:x.num=y.num
  ·have:¬(x.den:Int)=(y.den:Int):=λd=>h (Rat.ext c ∅)
   rw[wx this];simp
  ·rw[wx c];rfl
 exact this
structure WhT (H:Hp) (vs:List V) (r a q u:Addr) (us:List V) (bs:List Bl) (g j d c w jp dp k:Int) (y x:Rat):Prop where
 ev:EvA H r a us bs g j d c w jp dp
 hk:0<=k/\k<bs.length
 hq:zu H q y
 hy:PlZ (zB g j d) (zB g j d+zN g c*(w:Rat)) y
 hu:zu H u x
 hx:TmW x
inductive zhQ  (vs:List V) (H:Hp) (Q:VK) (_e3:XK):Prop
 |mk:∀r a q u us bs g j d c w' jp dp k y x,(vs=[.ref r,.ref a,.int k,.ref q,.ref u])->(WhT H vs r a q u us bs g j d c w' jp dp k y x)->(∀v o H',zq H H'->qD (zB g j d) (zB g j d+zN g c*(w':Rat)) (lsQ bs) k y x o->zec (zB g j d) (zB g j d+zN g c*(w':Rat)) (lsQ bs) y x o->zed o->Qj H' v o->Q v H')->zhQ vs H Q _e3
theorem zk6 (c:Qh P w K mg base "when" 10 ["row","walls","k","place","t"] [] (zbp CE)):⇑3 "when" 10 ["row","walls","k","place","t"] [] zhQ :=
 c.quiet λvs H Q E ⟨r,a,q,u,us,bs,g,j,d,c,w',jp,dp,k,y,x,e,W,kk⟩=>by
  subst e
  exact W.ev.tell W.hk W.hq W.hy W.hu W.hx kk
inductive zjU  (vs:List V) (H:Hp) (Q:VK) (_e3:XK):Prop
 |mk:∀r a q u L us us' qs bs g j d c w' jp dp k y x,(vs=[.ref r,.ref a,.int k,.ref q,.ref u,.ref L])->(WhT H vs r a q u us bs g j d c w' jp dp k y x)->(H L=some (.lst us'))->(ZW H us' qs)->(us'.length<=1000)->(qD (zB g j d) (zB g j d+zN g c*(w':Rat)) (lsQ bs) k y x (.inr qs))->(∀H',zq H H'->Q (.bl true) H')->zjU vs H Q _e3
theorem zkS (c:Qh P w K mg base "lets_never" 11 ["row","walls","k","place","t","moments"] [] (zjT CE)):⇑3 "lets_never" 11 ["row","walls","k","place","t","moments"] [] zjU :=
 c.quiet λvs H Q E ⟨r,a,q,u,L,us,us',qs,bs,g,j,d,c,w',jp,dp,k,y,x,e,W,hL,hqs,hl,t,kk⟩=>by
  subst e
  exists _,_,_,_,_,L,us',qs,rfl,hL,hqs,by lia
  refine W.ev.tell W.hk W.hq W.hy W.hu W.hx λv o H' S F _ _ G=>⟨S,zhm o,G.rd,zjr o,λI O=>?_⟩
  have:=qD.uniq W.ev.lh F t
  subst this
  rw[show zhm (.inr qs)=zfd qs from rfl,zay (zb4 qs)]
  exact kk _ (S.trans O)
structure RiA (H:Hp) (p r a q u:Addr) (us:List V) (bs:List Bl) (g j d c w jp dp k:Int) (y x:Rat):Prop where
 hP:vZ H p
 ev:EvA H r a us bs g j d c w jp dp
 LB:∀b∈bs,ZS (Rat.divInt g 6) b.pl
 hk:0<=k/\k<bs.length
 hq:zu H q y
 ly:ZS (Rat.divInt g 6) y
 hy:PlZ (zB g j d) (zB g j d+zN g c*(w:Rat)) y
inductive zj1  (vs:List V) (H:Hp) (Q:VK) (_e3:XK):Prop
 |mk:∀p r a q u us bs g j d c w' jp dp k y x,(vs=[.ref p,.ref r,.ref a,.int k,.ref q,.ref u])->(RiA H p r a q u us bs g j d c w' jp dp k y x)->(zu H u x)->(TmB (2^101) 14400 x)->(∀H',xw p H H'->Q (.bl true) H')->zj1 vs H Q _e3
theorem Xf:zC ["pool","row","walls","k","place","t","since","turn","word","told","gap","amid"] ["pool","row","walls","k","place","t"] (zi Xa):=scq
theorem zix:Bd 44 (497871360000:Int)/\Bd 150 ((2^101+1000:Int)*497871360000):=⟨by show (497871360000:Int).natAbs<2^44;decide,by show ((2^101+1000:Int)*497871360000).natAbs<2^150;decide +kernel⟩
theorem TmB.tw {V B:Int}{x:Rat}(h:TmB V B x) (F:V<=2^101+1000) (G:B<=497871360000):TmW x:=(h.mono F G).bd zix.1 zix.2
theorem TmW.sz {x:Rat}(h:TmW x):Sz 150 x:=⟨h.1,h.2.md⟩
theorem p7 {i:Nat}(h:i<4):1<=(7:Int)^i/\(7:Int)^i<=343:=by
 have:i=0\/i=1\/i=2\/i=3:=by lia
 rcases this with rfl | rfl | rfl | rfl <;> decide
theorem zj8 {m n:Nat}{x y:Rat}(h:Sz m x) (h':Sz n y):Sz (m+n+1) (x-y):=by
 rw[Rat.sub_eq_add_neg];exact h.add (Sz.neg' h')
theorem zh3 {e:Int}(F:0<=e) (h:e<=30):Sz 5 (Rat.divInt e 7):=.divInt ⇑1 (show e.natAbs<2^5 by lia) (show (7:Int).natAbs<2^5 by decide)
theorem Vf:PyData.eqv (.str "at") (.str "never")=false:=by decide +kernel
theorem QC:SeqAt.shaped (.str "at")=true:=by decide +kernel
theorem Xs:SeqAt.shaped (.str "never")=true:=by decide +kernel
theorem VU {H G:Hp}{r a:Addr}{us ys:List V}{bs F:List Bl}{g j d c w jp dp:Int}{x:Rat}(h:EvA H r a us bs g j d c w jp dp) (hR:qt G ys F) (hp:(lsQ F).Perm ((lsQ bs).map (lnQ (zB g j d) (zB g j d+zN g c*(w:Rat)) x))) (W:(F.map Bl.pl).Pairwise (·<=·)){n:Nat}(hn:n<bs.length) :
  ∃O S U I,atI ys (n:Int)=some (.ref O)/\G O=some (.tup [.ref S,.ref U,.int I.wt])/\zu G S I.pl/\F[n]?=some I/\ThL (zB g j d) (zB g j d+zN g c*(w:Rat)) (lsQ bs) n I.pl x/\∀y,ThL (zB g j d) (zB g j d+zN g c*(w:Rat)) (lsQ bs) n y x->I.pl=y:=by
 have lh:=h.lh
 have hl:F.length=bs.length:=by have:=hp.length_eq;unfold lsQ at this;rw[wc,wc,wc]at this;exact this
 have hy:n<ys.length:=by rw[hR.1];lia
 obtain⟨v,hv⟩:∃v,ys[n]?=some v:=⟨_,wH hy⟩
 obtain⟨I,Y,O,S,U,rfl,k1,k2,_⟩:=hR.2 n v hv
 have pp:(F.map Bl.pl).Perm ((lsQ bs).map (xG (zB g j d) (zB g j d+zN g c*(w:Rat)) x)):=by
  have:=hp.map Prod.fst
  rw[wG]at this
  unfold lsQ at this ⊢
  rw[wG]at this
  refine(List.Perm.of_eq ?_).trans (this.trans (.of_eq ?_))
  ·exact wy λ_ _=>rL
  ·exact wy λu _=>ziY lh
 have e:(F.map Bl.pl)[n]?=some I.pl:=by rw[wo,Y];rfl
 exact⟨O,S,U,I,Qk hv,k1,k2,Y,ThQ.perm pp (zke W e),λy t=>ziV W e (ThQ.perm pp.symm t)⟩
theorem zjf (D:Df K mg "_law_right" Xa ["pool","row","walls","k","place","t"] []) (T:TxB K mg) (cN:⇑3 "_law_next" 1 ["pool","base"] [] Xg) (b8:⇑3 "_law_lowest" 1 ["top","bottom"] [] vw) (c1:⇑3 "_law_less" 1 ["one","other"] [] Jb) (cS:⇑3 "_law_sum" 2 ["one","other"] [] (qQ Sz2 (· + ·))) (cP:⇑3 "_law_product" 2 ["one","other"] [] (qQ Sz2 (· * ·))) (c9:⇑3 "_law_minus" 3 ["one","other"] [] (qQ Sz2 (· - ·)))
  (b6:⇑3 "at_once" 8 ["row","walls","t"] [] zfU) (b3:⇑3 "when" 10 ["row","walls","k","place","t"] [] zhQ) (c7:⇑3 "lets_never" 11 ["row","walls","k","place","t","moments"] [] zjU) :
  ⇑3 "_law_right" 12 ["pool","row","walls","k","place","t"] [] zj1:=by
 refine D.calq (k:=11) Xf (λf cdv A outer s H vs Q E hr h=>?_)
 have a6:xc 1 _:=hr.md
 have b1:xc 2 _:=hr.md
 have d4:xc 3 _:=hr.md
 have b7:xc 8 _:=hr.md
 have a8:xc 10 _:=hr.md
 have hu:=hr.units
 rcases q:h with⟨p,r,a,q,u,us,bs,g,j,d,c,w',jp,dp,k,y,x,rfl,R,d3,hx,kk⟩
 obtain⟨n,rfl⟩:=Wg R.hk.1
 have nl:n<bs.length:=by have:=R.hk.2;lia
 exists(ze (psl (i:=6) Xf.nd (pv 5))
  (ze (va PassesOwn.never rfl (Zr rfl T.nRange %[zh|0]) (pgl (i:=7) Xf.nd) (ze (Ze (zD b3 a8 %[1,2,3,4,6|0]) (qZ rfl (zP (pgl (i:=8) Xf.nd) (zP (pgl (i:=9) Xf.nd) xO))))
  (ze (xf (zF (XN hu) (pv 8) Zc (zH _)) (zo (zE (qA (qz ZP (pv 7) zh (zH _)) (vQ (zD c7 hr %[1,2,3,4,6,9|0]))))) zT)
  (ze (xf ((QA (zF (XQ hu) (pxt (qa XI (zD b6 b7 %[1,2,9|0]) (pv 3) (λ_ _=>rfl))) (pv 4) (zH _)) (XT (xS (zD c1 a6 %[9,6|0]) λ_=>rfl)))).pt (zo (zE jW)) zT)
  (ze (xf (zF (XQ hu) (zD b3 a8 %[1,2,3,4,9|0]) (zX %[Zc,9|0]) (zH _)) (zo (zE jW)) zT)
  (ze (psl (i:=10) Xf.nd (zD c9 d4 %[9,6|0]))
  (ze (psl (i:=11) Xf.nd (zD cS b1 %[6,(zD cP b1 %[10,(zD b8 a6 %[(zD cN a6 %[0,zh|0]),zh|0])|0])|0]))
  (ze (xf (zF (XQ hu) (zD b3 a8 %[1,2,3,4,11|0]) (zX %[Zc,9|0]) (zH _)) (zo (zE jW)) zT)
  (ze (xf ((vR (xS (zD c1 a6 %[11,9|0]) λ_=>rfl) (qL (zF (XN hu) (pxt (qa XI (zD b6 b7 %[1,2,11|0]) (pv 3) (λ_ _=>rfl))) (pv 4) (zH _))))).pt (zo (zE jW)) zT)
  (zo (psl (i:=6) Xf.nd (zD cS b1 %[9,(zD b8 a6 %[zy xr zh (zD cN a6 %[0,zh|0]),zh|0])|0]))))))))))))
  (zo (zE jW))))
 exists 01,by decide,by decide
 have lh:=R.ev.lh
 refine ZA (lo:=0) (λi σ G=>∃x7 x8 x9 b5 b4 si s,σ=[Sr p,Sr r,Sr a,Si n,Sr q,Sr u,Sr si,x7,x8,x9,b5,b4]/\xw p H G/\zu G si s/\TmB (2^101+200*i) (14400*7^i) s/\(i=0\/∃m,ThL (zB g j d) (zB g j d+zN g c*(w':Rat)) (lsQ bs) n y m)) ⟨none,none,none,none,none,u,x,rL,xw.refl R.hP,d3,hx.mono (id ⇑1) (id ⇑1),.inl rL⟩ ?_ ?_
 rotate_left
 ·rintro σ G O;rcases q:O with⟨x7,x8,x9,b5,b4,si,s,rfl,S,_⟩
  exact kk _ S
 rintro i σ G N B hi ⟨x7,x8,x9,b5,b4,si,s,rfl,S,V,hs,c0⟩ hN
 have c6:i<4:=↥hi
 obtain⟨q1,q2⟩:=p7 c6
 have EA:=R.ev.tups (ZO R.hP S)
 have hq:=S.rat R.hP R.hq
 dsimp only[zG]
 have wS:TmW s:=hs.tw ∅ ∅
 refine zda λnx F=>?_
 refine⟨04,r,a,q,si,us,bs,g,j,d,c,w',jp,dp,n,y,s,rL,⟨EA,R.hk,hq,R.hy,V,wS⟩,λv o G1 S1 tell b0 c5 b9=>?_⟩
 cases o with
 |inr ms =>
  rcases q:b9 with⟨tr,L,d5,rfl,h1,h2,h3,h4⟩
  exists tr,00,.of h1,rfl,021,022
  dsimp only[zG]
  refine F _ _ ?_
  have i0:i=0:=by
   rcases c0 with h | ⟨m,h⟩
   ·exact h
   ·obtain⟨nv,R',r',_⟩:=tell
    exact(zi3 lh r' h nv).elim
  subst i0
  refine⟨00,?_⟩
  dsimp only[tC]
  refine J7 (.str _) (.str _) Xs ⟨_,rL,xM ?_⟩
  refine⟨00,rL,00,vu (λ_=>?_) (λz=>absurd (wm rL) z)⟩
  exact⟨05,r,a,q,si,L,us,d5,ms,bs,g,j,d,c,w',jp,dp,n,y,s,rL,⟨EA.tups (.of S1),R.hk,hq.same S1,R.hy,V.same S1,wS⟩,h2,h3,h4,tell,λH' S'=>kk _ ((S.same S1).same S')⟩
 |inl m =>
  rcases q:b9 with⟨tr,tq,rfl,h1,h2⟩
  exists tr,00,.of h1,rfl,021,022
  dsimp only[zG]
  refine F _ _ ?_
  rcases s:(λσ' G'=>∃W Y I U,σ'=[Sr p,Sr r,Sr a,Si n,Sr q,Sr u,Sr si,W,Y,Sr tq,I,U]/\G'=G1)
  ·intro nx F
   refine⟨00,?_⟩
   dsimp only[tC]
   exact J6 (.str _) (.str _) QC Xs Vf ⟨_,rL,xi (F _ _ ⟨_,_,_,_,rL,rL⟩)⟩
  rintro σ1 d0 O;rcases q:O with⟨W,Y,I,U,rfl,eG⟩
  rw[eG]
  clear h1 c0 eG d0
  obtain⟨sm,hm,hn⟩:=zg6 EA R.LB R.hy.1 R.hy.2.1 R.ly hs ∅ b0
  have wM:TmW m:=hm.tw ∅ ∅
  have zM:Sz 150 m:=wM.sz
  have zS:Sz 150 s:=wS.sz
  obtain⟨_,tm,tb⟩:=id tell
  have SG:=S.same S1
  have EA:=EA.tups (.of S1)
  have hq:=hq.same S1
  have V:=V.same S1
  clear S S1 b0 c5
  rcases s:(λσ' G'=>∃W Y I U,σ'=[Sr p,Sr r,Sr a,Si n,Sr q,Sr u,Sr si,W,Y,Sr tq,I,U]/\zq G1 G')
  ·intro nx F
   refine⟨02,?_⟩
   dsimp only[Zu]
   refine EA.once h2 ⟨zM.1.md,zM.2.md⟩ λz ys d2 G2 S2 hz hR hp so hw=>?_
   rcases q:VU EA hR hp so nl with⟨ba,pa,pb,b',e1,e2,e3,_,_,e4⟩
   have e5:=e4 y tm
   rw[e5]at e3
   exists 00,z,032,.of hz,e1
   dsimp only[tC]
   exists ba,032,.of e2,rfl
   refine⟨00,?_⟩
   refine jV (zu.rdD e3) (zu.rdD (hq.same S2)) (zc0 y) ⟨_,rL,xi ?_⟩
   exists 01,tq,si,m,s,rfl,h2.same S2,V.same S2,⟨zM.1.md,zM.2.md⟩,⟨zS.1.md,zS.2.md⟩
   refine⟨00,?_⟩
   rw[wx (show ¬m<s by grind)]
   exact xi (F _ _ ⟨_,_,_,_,rL,S2⟩)
  rintro σ2 G2 O;rcases q:O with⟨W,Y,I,U,rfl,S2⟩
  rcases s:(λσ' G'=>∃W Y I U,σ'=[Sr p,Sr r,Sr a,Si n,Sr q,Sr u,Sr si,W,Y,Sr tq,I,U]/\zq G1 G')
  ·intro nx F
   refine⟨04,r,a,q,tq,us,bs,g,j,d,c,w',jp,dp,n,y,m,rL,⟨EA.tups (.of S2),R.hk,hq.same S2,R.hy,h2.same S2,wM⟩,λv o G3 S3 a4 _ _ a9=>?_⟩
   have eo:o=.inl m:=qD.uniq lh a4 (show AtQ _ m m from tell.from sm Wu)
   subst eo
   refine⟨00,⇑5,λe he=>?_⟩
   have S4:=zq.upd (o:=.tup [.str "at",.ref tq]) he
   exact jV (d:=atD m) (a9.same S4).rd (.tup zj (.cons (.str _) (.cons (zu.rdD (h2.same (S2.trans (S3.trans S4)))) .nil))) (zcr m) ⟨_,rL,xi (F _ _ ⟨_,_,_,_,rL,S2.trans (S3.trans S4)⟩)⟩
  rintro σ3 G3 O;rcases q:O with⟨z7,z8,d6,d8,rfl,S3⟩
  clear S2
  have EA:=EA.tups (.of S3)
  have hq:=hq.same S3
  have V:=V.same S3
  have h2:=h2.same S3
  have a5:vZ G3 p:=(SG.same S3).pool
  rcases s:(λσ' G'=>∃W Y gq U,σ'=[Sr p,Sr r,Sr a,Si n,Sr q,Sr u,Sr si,W,Y,Sr tq,Sr gq,U]/\zq G3 G'/\zu G' gq (m-s))
  ·intro nx F
   exact⟨01,tq,si,m,s,rL,h2,V,⟨⟨zM.1.md,zM.2.md⟩,⟨zS.1.md,zS.2.md⟩⟩,λgq G4 S4 hg=>F _ _ ⟨_,_,gq,00,S4,hg⟩⟩
  rintro σ4 G4 O;rcases q:O with⟨W,Y,gq,U,rfl,S4,hg⟩
  have b2:vZ G4 p:=(xw.refl a5).same S4 |>.pool
  rcases s:(λσ' G'=>∃W Y I aq am,σ'=[Sr p,Sr r,Sr a,Si n,Sr q,Sr u,Sr si,W,Y,Sr tq,I,Sr aq]/\xw p G3 G'/\zu G' aq am/\s<=am/\am<=m/\TmW am)
  ·intro nx F
   have zg:Sz 301 (m-s):=zj8 zM zS
   refine⟨02,p,00,by decide,by decide,b2,λe G5 e0 e1 t5=>?_⟩
   have T5:xw p G3 G5:=t5.pre S4
   refine⟨021,by decide,Bd.mono (m:=5) (show (7:Int).natAbs<2^5 by decide) ⇑1,λlq G6 S6 hl=>?_⟩
   have z7:=zh3 e0 (show e<=30 by lia)
   have d1:=(t5.rat b2 hg).same S6
   refine⟨gq,lq,021,d1,hl,⟨⟨zg.1.md,zg.2.md⟩,⟨z7.1.md,z7.2.md⟩⟩,λmq G7 S7 c4=>?_⟩
   have zp:Sz 306 ((m-s)*Rat.divInt e 7):=zg.mul z7
   refine⟨si,mq,021,((T5.rat a5 V).same S6).same S7,c4,⟨⟨zS.1.md,zS.2.md⟩,⟨zp.1.md,zp.2.md⟩⟩,λaq G8 S8 a7=>?_⟩
   obtain⟨a1,a2,a3⟩:=zgA (e:=e) hs hm sm ∅ hn e0 ∅
   exact F _ _ ⟨_,_,_,aq,_,rL,(T5.same S6).same (S7.trans S8),a7,a1,a2,a3.tw ∅ ∅⟩
  clear hg S4 b2
  rintro σ5 G5 O;rcases q:O with⟨W,Y,I,aq,am,rfl,T5,a7,sa,ma,wA⟩
  have EA:=EA.tups (ZO a5 T5)
  have hq:=T5.rat a5 hq
  have h2:=T5.rat a5 h2
  have T:=(SG.same S3).trans T5
  clear V a5 T5
  rcases s:(λσ' G'=>∃W Y I,σ'=[Sr p,Sr r,Sr a,Si n,Sr q,Sr u,Sr si,W,Y,Sr tq,I,Sr aq]/\zq G5 G')
  ·intro nx F
   refine⟨04,r,a,q,aq,us,bs,g,j,d,c,w',jp,dp,n,y,am,rL,⟨EA,R.hk,hq,R.hy,a7,wA⟩,λv o G3 S3 a4 _ _ a9=>?_⟩
   have eo:o=.inl m:=qD.uniq lh a4 (show AtQ _ am m from tell.from sa ma)
   subst eo
   refine⟨00,⇑5,λe he=>?_⟩
   have S4:=zq.upd (o:=.tup [.str "at",.ref tq]) he
   exact jV (d:=atD m) (a9.same S4).rd (.tup zj (.cons (.str _) (.cons (zu.rdD (h2.same (S3.trans S4))) .nil))) (zcr m) ⟨_,rL,xi (F _ _ ⟨_,_,_,rL,S3.trans S4⟩)⟩
  rintro σ6 G6 O;rcases q:O with⟨W,Y,I,rfl,S6⟩
  rcases s:(λσ' G'=>∃W Y I U,σ'=[Sr p,Sr r,Sr a,Si n,Sr q,Sr u,Sr si,W,Y,Sr tq,I,U]/\zq G5 G')
  ·intro nx F
   have zA:=wA.sz
   exists 01,aq,tq,am,m,rfl,a7.same S6,h2.same S6,⟨zA.1.md,zA.2.md⟩,⟨zM.1.md,zM.2.md⟩
   refine⟨00,?_⟩
   by_cases cam:am<m
   ·rw[wm cam]
    refine xM ?_
    refine⟨02,?_⟩
    dsimp only[Zu]
    refine EvA.once (EA.tups (.of S6)) (a7.same S6) ⟨zA.1.md,zA.2.md⟩ λz ys d2 G7 S7 hz hR hp so hw=>?_
    rcases q:VU EA hR hp so nl with⟨ba,pa,pb,b',e1,e2,e3,_,e5,_⟩
    have ne:b'.pl≠y:=λe=>tb am sa cam (e ▸ e5)
    exists 00,z,032,.of hz,e1
    dsimp only[tC]
    exists ba,032,.of e2,rfl
    refine⟨00,?_⟩
    exact J6 (zu.rdD e3) (zu.rdD (hq.same (S6.trans S7))) (zc0 _) (zc0 _) (zlf ne) ⟨_,rL,xi (F _ _ ⟨_,_,_,_,rL,S6.trans S7⟩)⟩
   ·rw[wx cam]
    exact xi (xi (F _ _ ⟨_,_,_,_,rL,S6⟩))
  rintro σ7 G7 O;rcases q:O with⟨W,Y,I,U,rfl,S7⟩
  have c2:vZ G7 p:=(T.same S7).pool
  refine⟨00,?_⟩
  dsimp only[tC]
  refine⟨00,p,00,by decide,by decide,c2,λe G8 e0 e1 t8=>⟨022,?_⟩⟩
  refine⟨021,by decide,Bd.mono (m:=5) (show (7:Int).natAbs<2^5 by decide) ⇑1,λlq G9 S9 hl=>?_⟩
  have z7:=zh3 (e:=1+e) ∅ ∅
  refine⟨tq,lq,021,(t8.rat c2 (h2.same S7)).same S9,hl,⟨⟨zM.1.md,zM.2.md⟩,⟨z7.1.md,z7.2.md⟩⟩,λnq d7 c8 c3=>?_⟩
  have nt:=zg8 hm (e:=1+e) ∅ ∅
  exact hN _ _ ⟨_,_,_,_,_,nq,_,rfl,(((T.same S7).trans t8).same S9).same c8,c3,nt.mono ∅ (by rw[Int.pow_succ];lia),.inr ⟨m,tm⟩⟩
theorem hidw {A:Prop}(h:∀P:Prop,(A->P)->P):A:=h A id
theorem zhv (ms:List Rat):SeqAt.shaped (.list (ms.map raD))=true:=(Lay.lst (n:=1) λd m=>by obtain⟨q,_,rfl⟩:=wj.mp m;exact Lay.rat q).shaped ⇑1
theorem za5:PyData.eqv (.str "never") (.str "at")=false:=by decide +kernel
theorem zlx {x:Rat}(h:TmZ x):TmB (2^101) 14400 x:=by
 obtain⟨a,b⟩:=h
 have F:x.num.natAbs<2^101:=a
 have G:((x.den:Int)).natAbs<2^4:=b
 refine TmB.of ?_ (by omega)
 have e:((2^101:Nat):Int)=2^101:=by decide +kernel
 rw[<-e];omega
inductive zbo (K:Fg) (vs:List V) (H:Hp) (Q:VK) (_e3:XK):Prop
 |mk:∀(a:Addr) (ns:List Int),(vs=[.ref a])->(SqL K H a (ns.map V.int))->(ns.length<=63)->(∀H',Q (.bl true) H')->zbo K vs H Q _e3
theorem vC:zC ["script","k","pool","row","walls","ball","place","t","some","spot","due","found"] ["script"] (zi s_law):=scq
theorem zja {fl:Addr}{e7:FuncData}(F:Fun K "law" "law" s_law fl e7) (T:TxB K mg) (cC:⇑3 "_law_cell" 1 ["script","k"] [] (zch K)) (cD:⇑3 "_law_dig" 1 ["cell"] [] zfW) (cN:⇑3 "_law_next" 1 ["pool","base"] [] Xg) (cS:⇑3 "_law_sum" 2 ["one","other"] [] (qQ Sz2 (· + ·)))
  (f8:⇑3 "_law_even" 4 ["pool","most"] [] ziq) (g2:⇑3 "_law_wish" 4 ["pool","row","walls"] [] zj5) (g6:⇑3 "_law_right" 12 ["pool","row","walls","k","place","t"] [] zj1) (f6:⇑3 "at_once" 8 ["row","walls","t"] [] zfU) (b9:⇑3 "when" 10 ["row","walls","k","place","t"] [] zhQ) :
  Zw P w K mg base CX0 13 fl e7 ["script"] (zbo K):=by
 refine F.okq (k:=12) vC (λcdv A outer s H vs Q E hr h=>?_)
 rcases q:h with⟨a0,ns,rfl,hS,h5,kk⟩
 have c5:xc 1 _:=hr.md
 have d5:xc 2 _:=hr.md
 have f0:xc 4 _:=hr.md
 have f7:xc 8 _:=hr.md
 have b1:xc 10 _:=hr.md
 have e9:xc 12 _:=hr
 have hu:=hr.units
 exists(ze (va PassesOwn.never rfl (Zr rfl T.nRange %[(zO (Js rfl) ⇑2 T.nMax W2 %[zh,(zO (zdo rfl) ⇑2 T.nMin PyProof.Rows.boot_min %[zh,zO xp ⇑2 T.nLen PySem.boot_len %[0|0]|0])|0])|0]) (pgl (i:=1) vC.nd) (ze (psl (i:=2) vC.nd (zD cD c5 %[(zD cC c5 %[0,1|0])|0]))
  (ze (Ze (zD f8 f0 %[2,zh|0]) (qZ rfl (zP (pgl (i:=3) vC.nd) (zP (pgl (i:=4) vC.nd) xO))))
  (ze (Ze (zD g2 f0 %[2,3,4|0]) (qZ rfl (zP (pgl (i:=5) vC.nd) (zP (pgl (i:=6) vC.nd) (zP (Vt (i:=7) vC.nd rfl (Or.inr rfl)) xO)))))
  (ze (xf (ZH (xS (zD g6 e9 %[2,3,4,5,6,7|0]) λ_=>rfl)) (zo (zE jW)) zT)
  (ze (psl (i:=8) vC.nd (zD f6 f7 %[3,4,7|0]))
  (ze (psl (i:=9) vC.nd (zD cN c5 %[2,zO xp ⇑2 T.nLen PySem.boot_len %[3|0]|0]))
  (ze (xf (zF (XQ hu) (zD b9 b1 %[3,4,9,pxt (qa XI (pv 8) (pv 9) (λ_ _=>rfl)),7|0]) (zX %[Zc,7|0]) (zH _)) (zo (zE jW)) zT)
  (ze (psl (i:=10) vC.nd (zD b9 b1 %[3,4,5,6,7|0]))
  (ze (psl (i:=11) vC.nd (zD b9 b1 %[8,4,5,6,(zX %[zh,zh|0])|0]))
  (ze (xf (zF (XQ hu) (pxt (pv 11)) (pxt (pv 10)) (zH _)) (zo (zE jW)) zT)
  (ze (xf ((vR (zF (XN hu) (pxt (pv 10)) Zc (zH _)) (qL (zF (XQ hu) (zD cS d5 %[pxt (pv 11),7|0]) (pxt (pv 10)) (zH _))))).pt (zo (zE jW)) zT)
  (zo (xf (vR (zF (XN hu) (pxt (pv 10)) Zc (zH _)) (qL (zF (XQ hu) (qj (NB:=["moment"]) (FR:=["t"]) (js:=[7]) rfl rfl (λx c h=>VL rfl x c h) (.cons rfl rfl rfl ⟨_,rfl⟩ .nil) rfl ⇑0 rfl ⇑0 (xg (pxt (pv 11))) (by intro _ _ _;refine⟨?_,?_,?_⟩;(exact(pgl (i:=0) (show List.Nodup (["moment","t"]:List Str) by decide +kernel)));(exact xE);(exact(zD cS d5 %[0,1|0])))) (pxt (pv 10)) (zH _)))).pt (zo (zE jW)) zT))))))))))))))
  (zo (zE jW)))
 exists 00,a0,00,.inl hS,021,021,00,?_,?_
 ·simp only[wc];split <;> split <;> lia
 ·simp only[wc];split <;> split <;> lia
 refine ZA (lo:=0) (λi σ H2=>∃y1 y2 y3 y4 y5 y6 y7 y8 y9 a8 a2,σ=[Sr a0,y1,y2,y3,y4,y5,y6,y7,y8,y9,a8,a2]/\zq H H2) ⟨_,_,_,_,_,_,_,_,_,_,_,rL,zq.refl _⟩ ?_ ?_
 rotate_left
 ·rintro σ H2 _
  exact kk _
 rintro i0 σ H2 N B hi hz hN
 refine hidw λh9 f5=>?_;obtain⟨y1,y2,y3,y4,y5,y6,y7,y8,y9,a8,a2,rfl,s2⟩:=hz;refine f5 ?_;clear f5
 dsimp only[zG]
 have h6:i0<1000:=by
  revert hi;simp only[wc];split <;> split <;> lia
 obtain⟨i,e0⟩:∃i:Int,(0:Int)+(i0:Int)=i:=⟨_,rfl⟩
 rw[e0]
 have g1:0<=i:=by lia
 have i1:i<1000:=by lia
 clear hi e0
 refine zda λnx I=>?_
 refine⟨01,a0,ns,i,rL,s2.seq hS,g1,i1,λcc=>⟨cc,rL,λp G1 hp s1 hP=>?_⟩⟩
 have nP:∀b o,H b=some o->b≠p:=λb o e q=>by have:=s2 _ _ e;rw[q,hp]at this;cases this
 dsimp only[zG]
 refine I _ _ ?_
 refine zda λnx I=>?_
 refine⟨00,p,4,rfl,by decide,by decide,hP,λtt r a us bs g j d c w' jp dp G2 n t2 ht d7 hR l1 l2 l3 hG hB hW=>?_⟩
 exists tt,00,.of ht,rfl,021,022
 dsimp only[zG]
 refine I _ _ ?_
 refine zda λnx I=>?_
 have ft:=hB.fit hG ∅ l3
 have LB:=hB.lat hG ∅ l3
 have EA:EvA G2 r a us bs g j d c w' jp dp:=⟨d7,hR,l1,by lia,hG,ft.1,ft.2,hW⟩
 refine⟨02,p,r,a,us,bs,g,j,d,c,w',jp,dp,rL,t2.pool,EA,LB,λz q u kb y x G3 t3 hz k0 k1 hq b4 ly hy hx=>?_⟩
 exists z,00,.of hz,rfl,021,021,022
 dsimp only[zG]
 refine I _ _ ?_
 have EA:=EA.tups (ZO t2.pool t3)
 have Y:=t3.pool
 have b5:∀O,xw p G3 O->zq H O:=λO t=>λb o e=>(t2.trans (t3.trans t)).keep b o (s1 _ _ (s2 _ _ e)) (nP b o e)
 clear s2 s1 t2 t3 ht hz nP d7 hR hW hB ft hP hp
 have i2:us.length=bs.length:=EA.R.1
 have lh:=EA.lh
 have xB:=zlx hx
 have xW:TmW x:=xB.tw ∅ ∅
 have zx:=xW.sz
 have xd:(x.den:Int)<=15:=by have:((x.den:Int)).natAbs<2^4:=hx.2;lia
 have g8:∀v∈lsQ bs,zB g j d<=v.1/\v.1<=zB g j d+zN g c*(w':Rat):=λv mv=>by
  obtain⟨b,hb,rfl⟩:=wj.mp mv
  exact(EA.F b hb).i
 rcases s:(λS O=>S=[Sr a0,Si i,Sr p,Sr r,Sr a,Si kb,Sr q,Sr u,y8,y9,a8,a2]/\xw p G3 O)
 ·intro nx I
  refine⟨05,p,r,a,q,u,us,bs,g,j,d,c,w',jp,dp,kb,y,x,rL,⟨Y,EA,LB,⟨k0,k1⟩,hq,ly,hy⟩,b4,xB,λG4 t4=>?_⟩
  exact⟨00,xi (I _ _ ⟨rL,t4⟩)⟩
 rintro σ4 G4 ⟨rfl,t4⟩
 have c2:=EA.tups (ZO Y t4)
 have g3:=t4.rat Y hq
 have e8:=t4.rat Y b4
 rcases s:(λS O=>∃z ys W,S=[Sr a0,Si i,Sr p,Sr r,Sr a,Si kb,Sr q,Sr u,Sr z,y9,a8,a2]/\xw p G3 O/\EvA O z a ys W g j d c w' jp dp/\(lsQ W).Perm ((lsQ bs).map (lnQ (zB g j d) (zB g j d+zN g c*(w':Rat)) x))/\(W.map Bl.pl).Pairwise (·<=·))
 ·intro nx I
  refine⟨02,?_⟩
  dsimp only[Zu]
  refine EvA.once c2 e8 ⟨zx.1.md,zx.2.md⟩ λz ys W G5 S5 hz hR hp so hw=>?_
  exact I _ _ ⟨z,ys,W,rL,t4.same S5,c2.gone LB xd S5 hz hR hp hw,hp,so⟩
 rintro σ5 G5 b0;rcases q:b0 with⟨z,ys,W,rfl,t5,EZ,hp,so⟩
 clear c2 g3 e8 t4
 have hl:W.length=bs.length:=by have:=hp.length_eq;unfold lsQ at this;rw[wc,wc,wc]at this;exact this
 have b3:=EA.tups (ZO Y t5)
 have c8:=t5.rat Y hq
 have c4:=t5.rat Y b4
 have a7:=t5.pool
 rcases s:(λS O=>∃n:Nat,S=[Sr a0,Si i,Sr p,Sr r,Sr a,Si kb,Sr q,Sr u,Sr z,Si n,a8,a2]/\xw p G5 O/\n<bs.length)
 ·intro nx I
  refine⟨01,r,us,rfl,.inr (SqT.of b3.r),p,00,by have:=EA.l1;lia,by have:=EA.l5;lia,a7,λe G6 a6 b6 t6=>?_⟩
  obtain⟨n,rfl⟩:=Wg a6
  exact I _ _ ⟨n,rfl,t6,by lia⟩
 rintro σ6 G6 ⟨n,rfl,t6,nl⟩
 rcases s:(λS O=>S=[Sr a0,Si i,Sr p,Sr r,Sr a,Si kb,Sr q,Sr u,Sr z,Si n,a8,a2]/\xw p G5 O)
 ·intro nx I
  have d4:=ZO a7 t6
  have c3:=EZ.tups d4
  have d1:=b3.tups d4
  rcases q:VU d1 c3.R hp so nl with⟨ba,pa,pb,b',e1,e2,e3,e4,e5,_⟩
  have fb:=c3.F b' (wU e4)
  exists 04,z,032,.of c3.r,e1
  dsimp only[tC]
  exists ba,032,.of e2,rfl
  have c7:=t6.rat a7 c4
  refine⟨00,r,a,pa,u,us,bs,g,j,d,c,w',jp,dp,n,b'.pl,x,rfl,⟨d1,⟨by lia,by lia⟩,e3,⟨fb.i.1,fb.i.2,fb.p.1,fb.p.2⟩,c7,xW⟩,λv o G7 S7 tell _ _ V=>?_⟩
  have eo:o=.inl x:=qD.uniq lh tell (show AtQ _ x x from⟨Wu,e5,λm m1 m2=>by grind⟩)
  subst eo
  refine⟨00,⇑5,λe he=>?_⟩
  have S8:=zq.upd (o:=.tup [.str "at",.ref u]) he
  exact jV (d:=atD x) (V.same S8).rd (.tup zj (.cons (.str _) (.cons (zu.rdD (c7.same (S7.trans S8))) .nil))) (zcr x) ⟨_,rL,xi (I _ _ ⟨rL,t6.same (S7.trans S8)⟩)⟩
 rintro σ7 G7 ⟨rfl,t7⟩
 clear t6
 have d0:=t5.trans t7
 have b8:=ZO a7 t7
 have e6:=b3.tups b8
 have d8:=EZ.tups b8
 have c1:=t7.rat a7 c8
 have c0:=t7.rat a7 c4
 clear b3 c8 c4 t7 b8 EZ t5
 rcases s:(λS O=>∃v o,S=[Sr a0,Si i,Sr p,Sr r,Sr a,Si kb,Sr q,Sr u,Sr z,Si n,some v,a2]/\zq G7 O/\qD (zB g j d) (zB g j d+zN g c*(w':Rat)) (lsQ bs) kb y x o/\zec (zB g j d) (zB g j d+zN g c*(w':Rat)) (lsQ bs) y x o/\Qj O v o)
 ·intro nx I
  exact⟨04,r,a,q,u,us,bs,g,j,d,c,w',jp,dp,kb,y,x,rL,⟨e6,⟨k0,k1⟩,c1,hy,c0,xW⟩,λv o G8 S8 tell a4 _ V=>I _ _ ⟨v,o,rL,S8,tell,a4,V⟩⟩
 rintro σ8 G8 b0;rcases q:b0 with⟨v,o,rfl,S8,tell,a4,V⟩
 have c6:=d8.tups (.of S8)
 have d3:=c1.same S8
 rcases s:(λS O=>∃v' o',S=[Sr a0,Si i,Sr p,Sr r,Sr a,Si kb,Sr q,Sr u,Sr z,Si n,some v,some v']/\zq G8 O/\o=zid x o'/\zed o'/\Qj O v' o')
 ·intro nx I
  refine⟨03,⇑5,λe he=>?_⟩
  have S9:=zq.upd (o:=.tup [.int 0,.int 1]) he
  have h0:zu (upd G8 e (.tup [.int 0,.int 1])) e 0:=zj
  generalize upd G8 e (.tup [.int 0,.int 1])=G9 at S9 h0
  refine⟨z,a,q,e,ys,W,g,j,d,c,w',jp,dp,kb,y,0,rfl,⟨c6.tups (.of S9),⟨k0,by lia⟩,d3.same S9,hy,h0,⟨show (0:Int).natAbs<2^150 by decide,show (1:Int).natAbs<2^44 by decide⟩⟩,λv' o' d6 a1 b7 _ a3 a5=>?_⟩
  obtain⟨R,hr⟩:∃R,RdO (zB g j d) (zB g j d+zN g c*(w':Rat)) (lsQ bs) R:=by
   cases o with
   |inl m=>obtain⟨R,hr,_⟩:=a4;exact⟨R,hr⟩
   |inr ms=>obtain⟨_,R,hr,_⟩:=tell;exact⟨R,hr⟩
  exact I _ _ ⟨v',o',rL,S9.trans a1,qD.uniq lh tell (qD.gone lh g8 hp hr b7),a3,a5⟩
 rintro σ9 G9 b0;rcases q:b0 with⟨v',o',rfl,S9,rfl,a3,a5⟩
 have V:=V.same S9
 have d2:=(c0.same S8).same S9
 have T:=(d0.same S8).same S9
 clear S8 S9 d0 tell a4 EA e6 d8 c6 c1 d3 hq c0 b4 hp so
 cases o' with
 |inl m =>
  rcases q:V with⟨tr,qq,rfl,h1,h2⟩
  rcases q:a5 with⟨U,q',rfl,a9,b2⟩
  rcases s:(λS O=>S=[Sr a0,Si i,Sr p,Sr r,Sr a,Si kb,Sr q,Sr u,Sr z,Si n,Sr tr,Sr U]/\O=G9)
  ·intro nx I
   exists 00,U,032,.of a9,rfl,00,tr,032,.of h1,rfl
   exact jV (.str _) (.str _) QC ⟨_,rL,xi (I _ _ ⟨rL,rL⟩)⟩
  rintro σa Ga ⟨rfl,eG⟩
  rw[eG];clear eG
  rcases s:(λS O=>S=[Sr a0,Si i,Sr p,Sr r,Sr a,Si kb,Sr q,Sr u,Sr z,Si n,Sr tr,Sr U]/\zq G9 O)
  ·intro nx I
   exists 00,tr,032,.of h1,rfl
   dsimp only[tC]
   refine J7 (.str _) (.str _) QC ⟨_,rL,xM ?_⟩
   have zm:Sz 3000 m:=a3
   refine⟨00,U,032,.of a9,rL,00,q',u,m,x,rL,b2,d2,⟨⟨zm.1.md,zm.2.md⟩,⟨zx.1.md,zx.2.md⟩⟩,λsq d6 a1 hs=>?_⟩
   exists 00,tr,032,.of (a1 _ _ h1),rfl
   exact jV (zu.rdD hs) (zu.rdD (h2.same a1)) (zc0 _) ⟨_,rL,xi (I _ _ ⟨rL,a1⟩)⟩
  rintro σb Gb ⟨rfl,Sb⟩
  exists 00,tr,032,.of (Sb _ _ h1),rfl
  dsimp only[tC]
  exact J6 (.str _) (.str _) QC Xs Vf ⟨_,rL,xi (xi (hN _ _ ⟨_,_,_,_,_,_,_,_,_,_,_,rL,b5 _ (T.same Sb)⟩))⟩
 |inr ms =>
  rcases q:V with⟨tr,L,h8,rfl,h1,h2,h3,h4⟩
  rcases q:a5 with⟨U,L',g0,rfl,a9,b2,c9,h7⟩
  rcases s:(λS O=>S=[Sr a0,Si i,Sr p,Sr r,Sr a,Si kb,Sr q,Sr u,Sr z,Si n,Sr tr,Sr U]/\O=G9)
  ·intro nx I
   exists 00,U,032,.of a9,rfl,00,tr,032,.of h1,rfl
   exact jV (.str _) (.str _) Xs ⟨_,rL,xi (I _ _ ⟨rL,rL⟩)⟩
  rintro σa Ga ⟨rfl,eG⟩
  rw[eG];clear eG
  rcases s:(λS O=>S=[Sr a0,Si i,Sr p,Sr r,Sr a,Si kb,Sr q,Sr u,Sr z,Si n,Sr tr,Sr U]/\O=G9)
  ·intro nx I
   exists 00,tr,032,.of h1,rfl
   dsimp only[tC]
   exact J6 (.str _) (.str _) Xs QC za5 ⟨_,rL,xi (xi (I _ _ ⟨rL,rL⟩))⟩
  rintro σb Gb ⟨rfl,eG⟩
  rw[eG];clear eG
  exists 00,tr,032,.of h1,rfl
  dsimp only[tC]
  refine J7 (.str _) (.str _) Xs ⟨_,rL,xM ?_⟩
  have zm:∀m∈ms,Sz 3000 m:=a3
  refine⟨00,U,032,.of a9,rL,L',rL,⟨_,SqL.of b2⟩,λDe f9=>?_⟩
  refine xI (js:=[7]) (J:=Itl K L') (g:=zG 0) (te:=_) (n:=1) (xs:=g0) (λi v G=>∃t rq,ms[i]?=some t/\v=.ref rq/\zu G rq (t+x)) (λi v G O e ⟨t,rq,q0,q1,q2⟩=>⟨t,rq,q0,q1,e _ _ q2⟩) f9 (xq b2) (by rw[sizeLine_eq];lia) ?_ ?_
  ·intro i y zs G Q' hy hz SG hQ
   rcases q:c9.2 i y hy with⟨mm,rq,e1,rfl,e3⟩
   obtain⟨w1,rfl⟩:=XL hz
   have zz:=zm mm (wU e1)
   dsimp only[zG]
   refine⟨rL,01,rq,u,mm,x,rL,e3.same SG,d2.same SG,⟨⟨zz.1.md,zz.2.md⟩,⟨zx.1.md,zx.2.md⟩⟩,λsq d6 a1 hs=>hQ _ _ a1 ⟨mm,sq,e1,rL,hs⟩⟩
  intro g7 G SG g9 d9 g5
  have g4:ZW G g7 (ms.map (· + x)):=⟨by rw[d9,c9.1,wc],λi v e=>by
   rcases q:g5 i v e with⟨t,rq,f1,f2,f3⟩
   exact⟨_,rq,by rw[wo,f1];rfl,f2,f3⟩⟩
  exists 00,tr,032,.of (SG _ _ h1),rfl
  exact jV (d:=.list ((ms.map (· + x)).map raD)) (.lst g9 (Z6 g4)) (.lst (SG _ _ h2) (Z6 (h3.same SG))) (zhv _) ⟨_,rL,xi (hN _ _ ⟨_,_,_,_,_,_,_,_,_,_,_,rL,b5 _ (T.same SG)⟩)⟩
open PySem.W
theorem zjs {K:Frag}{h:Heap}{mg:Str->Option Value}{x:Str}{C:Addr}(X:K.In h) (G:h.Ns mainGlobals mg) (e:nsIn K mainGlobals x=some (some (.ref C))) (q:excIn K C zkl "ValueError.__new__" = true):zks x C mg h:=by
 unfold excIn at q
 split at q
 case h_2=>cases q
 case h_1 dd cd sl ho =>
  split at q
  case h_2=>cases q
  case h_1 C' bm k0 k1 k2 k3 n k5 hm hs =>
   obtain⟨a1,W,a3,Y,S,O,V,I,U,F,a2⟩:=cd
   obtain⟨a4⟩:=sl
   simp only at hm hs q
   subst hm;subst hs
   simp only[W7,beq_iff_eq,Bool.not_eq_true']at q
   obtain⟨⟨⟨⟨⟨eC,en⟩,ed⟩,et⟩,eo⟩,ei⟩:=q
   subst eC;subst en;subst ed
   exact⟨mg_of X G e,bm,Y,a1,S,W,O,V,I,U,F,dd,k0,k1,k2,k3,k5,_,X _ _ ho,.of_isNs (isNs_of_in X eo),nsMap_none_of_in X eo ei,tail_of_in X et⟩
def DD (K:Fg) (x:Str) (st:Stmt):Prop:=∃(f:Addr) (oc:Value) (od an:Option Addr) (sl:Array (Option Value)) (kV dc pm cd ct:Value),
 PySem.W.nsIn K mainGlobals x=some (some (.ref f))/\K.lookup f=some ⟨oc,od,.func (PySem.W.fnOf x x (xD st) (xb st) (zi st) .none kV dc pm an cd ct),sl⟩/\PySem.W.codeIn K cd x=true/\PySem.W.keepIn K (.ref f)=true
section
variable {K:Fg}{x:Str}{st:Stmt}
theorem zkx {f:Addr}{U:Value}{I G:Option Addr}{F:Array (Option Value)}{kV O S cd ct:Value}(a:PySem.W.nsIn K mainGlobals x=some (some (.ref f))) (l:K.lookup f=some ⟨U,I,.func (PySem.W.fnOf x x (xD st) (xb st) (zi st) .none kV O S G cd ct),F⟩) (c:PySem.W.codeIn K cd x=true) (k:PySem.W.keepIn K (.ref f)=true):DD K x st :=
 ⟨f,U,I,G,F,kV,O,S,cd,ct,a,l,c,k⟩
variable {h:Heap}{mg:Str->Option Value}{ps:List Str}
theorem DD.df (d:DD K x st) (X:K.In h) (G:h.Ns mainGlobals mg) (S:∀(kV I O cd ct:Value) (F:Option Addr) (us:List Value),us.length=ps.length->bindArgs (PySem.W.fnOf x x (xD st) (xb st) (zi st) .none kV I O F cd ct) ⟨us,[]⟩=pure (ps.zip us)):Df K mg x st ps []:=by
 obtain⟨f,Y,V,F,U,kV,I,O,cd,ct,a,l,c,k⟩:=d
 exact zky l c k (Wx X G a) (S kV I O cd ct F)
theorem lsc {n:Nat}{us:List Value}(e:us.length=n+1):∃a t,us=a::t/\t.length=n:=by
 cases us with
 |nil=>cases e
 |cons a t=>exact⟨a,t,rfl,Nat.succ.inj e⟩
theorem lsn {us:List Value}(e:us.length=0):us=[]:=uu.mp e
theorem DD.df1 {p:Str}(d:DD K x st) (X:K.In h) (G:h.Ns mainGlobals mg) (S:∀(kV I O cd ct:Value) (F:Option Addr) a,bindArgs (PySem.W.fnOf x x (xD st) (xb st) (zi st) .none kV I O F cd ct) ⟨[a],[]⟩=pure ([p].zip [a]):=by intros;rfl):Df K mg x st [p] [] :=
 d.df X G λkV I O cd ct F us U=>by
  obtain⟨a,us,rfl,h1⟩:=lsc U
  cases lsn h1
  exact S kV I O cd ct F a
theorem DD.df2 {p q:Str}(d:DD K x st) (X:K.In h) (G:h.Ns mainGlobals mg) (S:∀(kV I O cd ct:Value) (F:Option Addr) a b,bindArgs (PySem.W.fnOf x x (xD st) (xb st) (zi st) .none kV I O F cd ct) ⟨[a,b],[]⟩=pure ([p,q].zip [a,b]):=by intros;rfl):Df K mg x st [p,q] [] :=
 d.df X G λkV I O cd ct F us U=>by
  obtain⟨a,us,rfl,h1⟩:=lsc U
  obtain⟨b,us,rfl,h2⟩:=lsc h1
  cases lsn h2
  exact S kV I O cd ct F a b
theorem DD.df3 {p q r:Str}(d:DD K x st) (X:K.In h) (G:h.Ns mainGlobals mg) (S:∀(kV I O cd ct:Value) (F:Option Addr) a b c,bindArgs (PySem.W.fnOf x x (xD st) (xb st) (zi st) .none kV I O F cd ct) ⟨[a,b,c],[]⟩=pure ([p,q,r].zip [a,b,c]):=by intros;rfl):Df K mg x st [p,q,r] [] :=
 d.df X G λkV I O cd ct F us V=>by
  obtain⟨a,us,rfl,h1⟩:=lsc V
  obtain⟨b,us,rfl,h2⟩:=lsc h1
  obtain⟨c,us,rfl,U⟩:=lsc h2
  cases lsn U
  exact S kV I O cd ct F a b c
theorem DD.df4 {p q r s:Str}(d:DD K x st) (X:K.In h) (G:h.Ns mainGlobals mg) (S:∀(kV I O cd ct:Value) (F:Option Addr) a b c e,bindArgs (PySem.W.fnOf x x (xD st) (xb st) (zi st) .none kV I O F cd ct) ⟨[a,b,c,e],[]⟩=pure ([p,q,r,s].zip [a,b,c,e]):=by intros;rfl):Df K mg x st [p,q,r,s] [] :=
 d.df X G λkV I O cd ct F us V=>by
  obtain⟨a,us,rfl,h1⟩:=lsc V
  obtain⟨b,us,rfl,h2⟩:=lsc h1
  obtain⟨c,us,rfl,U⟩:=lsc h2
  obtain⟨e,us,rfl,Y⟩:=lsc U
  cases lsn Y
  exact S kV I O cd ct F a b c e
theorem DD.df5 {p q r s t:Str}(d:DD K x st) (X:K.In h) (G:h.Ns mainGlobals mg) (U:∀(kV I O cd ct:Value) (F:Option Addr) a b c e f,bindArgs (PySem.W.fnOf x x (xD st) (xb st) (zi st) .none kV I O F cd ct) ⟨[a,b,c,e,f],[]⟩=pure ([p,q,r,s,t].zip [a,b,c,e,f]):=by intros;rfl):Df K mg x st [p,q,r,s,t] [] :=
 d.df X G λkV I O cd ct F us Y=>by
  obtain⟨a,us,rfl,h1⟩:=lsc Y
  obtain⟨b,us,rfl,h2⟩:=lsc h1
  obtain⟨c,us,rfl,V⟩:=lsc h2
  obtain⟨e,us,rfl,h4⟩:=lsc V
  obtain⟨f,us,rfl,S⟩:=lsc h4
  cases lsn S
  exact U kV I O cd ct F a b c e f
theorem DD.df6 {p q r s t u:Str}(d:DD K x st) (X:K.In h) (G:h.Ns mainGlobals mg) (U:∀(kV I O cd ct:Value) (F:Option Addr) a b c e f g,bindArgs (PySem.W.fnOf x x (xD st) (xb st) (zi st) .none kV I O F cd ct) ⟨[a,b,c,e,f,g],[]⟩=pure ([p,q,r,s,t,u].zip [a,b,c,e,f,g]):=by intros;rfl):Df K mg x st [p,q,r,s,t,u] [] :=
 d.df X G λkV I O cd ct F us hl=>by
  obtain⟨a,us,rfl,h1⟩:=lsc hl
  obtain⟨b,us,rfl,h2⟩:=lsc h1
  obtain⟨c,us,rfl,Y⟩:=lsc h2
  obtain⟨e,us,rfl,h4⟩:=lsc Y
  obtain⟨f,us,rfl,S⟩:=lsc h4
  obtain⟨g,us,rfl,V⟩:=lsc S
  cases lsn V
  exact U kV I O cd ct F a b c e f g
end
end KK
namespace PySem.W.Fast
def tw931062246092184260:=0
def tw7206277215950463839:=0
def tw4819036675601954502:=0
def tw15010650525621795979:=0
def tw5113707199275101641:=0
def tw11762051849414486906:=0
def tw13795400877749573088:=0
def tw12087748027338909054:=0
def tw9681044239091480573:=0
def tw6222498093703505309:=0
def tw13957670287144234700:=0
def tw13070306858090260497:=0
def tw14069081902373376152:=0
def tw15235146136557687672:=0
def tw3990629716528785321:=0
def tw6123222163308786265:=0
def tw10262037524952973355:=0
def tw7801691341793820663:=0
def tw3200660826654596290:=0
def tw8493524682624271026:=0
def tw8553968374544751242:=0
def tw10329427241867418024:=0
def tw5488009471481593020:=0
def tw17548377453318557998:=0
def tw6387239678284010277:=0
def tw9244174637040259426:=0
def tw12548603738908435771:=0
def tw1725578152403723850:=0
def tw16700647495600856715:=0
def tw8523584304984274185:=0
def tw1580657538904343391:=0
def tw11573598299771364263:=0
def tw16807392339205980143:=0
def tw10474719713887593278:=0
def tw12818604878422952245:=0
def tw8213111310816942265:=0
def tw13781430181207559639:=0
def tw11774890891406631748:=0
def tw8635969114095856323:=0
def tw7341963931325529822:=0
def tw9728390548855468580:=0
def tw14832128989246800071:=0
def tw15843931935174724158:=0
def tw18212694014846051781:=0
def tw11185299979498168288:=0
def tw18407765340717419338:=0
def tw4587257316568210533:=0
def tw17670344649630629406:=0
def tw11230401870156028482:=0
def tw6610919608015153764:=0
def tw15083348969600270533:=0
def tw15728160320746204684:=0
def tw8320081321269579902:=0
def tw7963498617011080842:=0
def tw3261571315955432130:=0
def tw10943338121987885752:=0
def tw13065541832598859454:=0
def tw5313800411705117745:=0
def tw7965204618189357762:=0
def tw2100475494277132100:=0
def tw11057767658435976147:=0
def tw7564551998176150475:=0
def tw12241225998804928494:=0
def tw11833791632474884340:=0
def tw12898105766909645662:=0
def tw774046190518305942:=0
def tw5820632288837333539:=0
def tw1997057536423835301:=0
def tw14164019752047848129:=0
def tw8103552624808813222:=0
def tw13181992305181256525:=0
def tw10081737379842646532:=0
def tw8443085687884718981:=0
def tw6587423269209462960:=0
def tw6003444282423464105:=0
def tw1491964676703320807:=0
def tw3933199474728002066:=0
def tw16639044174812963588:=0
def tw13226101134956878202:=0
def tw5545875234366860193:=0
def tw12980533947670481687:=0
def tw14860205845357499716:=0
def tw14178035776880351128:=0
def tw14155209161550363720:=0
def tw6481642359608531631:=0
def tw802178704637154095:=0
def tw5531097789674696390:=0
def tw17401894779464055282:=0
def tw9024144996514049529:=0
def tw15846536917540318938:=0
def tw9369047076361155675:=0
def tw9008052018486226021:=0
def tw18382850727070547085:=0
def tw13494039201445745980:=0
def tw9022815512631044154:=0
def tw6559294994420333190:=0
def tw13424894788547075460:=0
def tw5620995569115128511:=0
def tw17876710829719895683:=0
def tw17464587791778521001:=0
def tw7690540070337770755:=0
def tw9382128552105711200:=0
def tw14549755080947970518:=0
def tw13214159365288290996:=0
def tw3928965567099749811:=0
def tw7455161413274604322:=0
def tw7602397156674862233:=0
def tw12495160699494178420:=0
def tw13097388012938158808:=0
def tw14333612092779662408:=0
def tw12353435197836065469:=0
def tw3977857070566255476:=0
def tw826320908554773527:=0
def tw10179883819675457263:=0
def tw9602591330903750750:=0
def tw7433948148572756396:=0
def tw12121726174412784837:=0
def tw5052980154137020811:=0
def tw289087197539600990:=0
def tw14400723836872926612:=0
def tw14989989221214368362:=0
def tw9277229776793876568:=0
def tw14897428939686881683:=0
def tw5222307844878782016:=0
def tw4570225301986999797:=0
def tw6683172210701282019:=0
def tw12774405368758795882:=0
def tw9462470768106911862:=0
def tw4417186281482954472:=0
def tw6589886309876903947:=0
def tw12183170261758128271:=0
def tw4821818982188586291:=0
def tw16069349680614360336:=0
def tw12827188456652642882:=0
def tw1842723440051239271:=0
def tw5783767792312962782:=0
def tw89403494958426021:=0
def tw3642821442430133018:=0
def tw72472958914458180:=0
def tw3600324650577646144:=0
def tw16172172041998843758:=0
def tw17655187938152746522:=0
def tw10460251547428164117:=0
def tw8769276924532361406:=0
def tw11700544686659494773:=0
def tw9192077807296646223:=0
def tw14552367607018245602:=0
def tw3794058809905254290:=0
def tw3229557181560654899:=0
def tw11759492619097611280:=0
def tw6788109849349030719:=0
def tw10339085160362606240:=0
def tw11475255766216942798:=0
def tw2805604417730089757:=0
def tw11928031342384384840:=0
def tw11107035900574790177:=0
def tw14695469951036412301:=0
def tw6557669693407901154:=0
def tw10867064983439108143:=0
def tw5555169610770475793:=0
def tw3351718282186842468:=0
def tw17363307068919566202:=0
def tw1183224438563435889:=0
def tw746515678203458667:=0
def tw1183523573936168666:=0
def tw16554966884271254527:=0
def tw6744360100455399867:=0
def tw4091520252407526620:=0
def tw16246322546141619050:=0
def tw14464787964531102830:=0
def tw14393025870328846363:=0
def tw7453249838796761983:=0
def tw4578347346324205866:=0
def tw13594426126823642931:=0
def tw6623033614369935553:=0
def tw2979481544894921158:=0
def tw11808914226204055399:=0
def tw4239548011462806557:=0
def tw9534253262091708722:=0
def tw16555170811502788195:=0
def tw8105049058039151815:=0
def tw12984126844829929581:=0
def tw881585661812685414:=0
def tw440697712416529993:=0
def tw13094881746535314113:=0
def tw16963872525052363135:=0
def tw5248763859197530651:=0
def tw4296710846674163419:=0
def tw14667625487767350086:=0
def tw14363463820500036182:=0
def tw13129148761236097310:=0
def tw3673167176860835124:=0
def tw8459009177548631940:=0
def tw15562867793101314548:=0
def tw8410980685019270532:=0
def tw8288653812464190406:=0
def tw18010298542717784169:=0
def tw11350943009508745921:=0
def tw8786267406005261252:=0
def tw3465729018473700484:=0
def tw16812625341571829519:=0
def tw13467326747309929064:=0
def tw3840292076371772643:=0
def tw141478241079983778:=0
def tw8393725944709046265:=0
def tw5846681257370759212:=0
def tw14576611791722532101:=0
def tw12430156950958977932:=0
def tw8819822788115070289:=0
def tw10394129196616715060:=0
def tw13056458799482182681:=0
def tw10314552308098464278:=0
def tw4385419094505784361:=0
def tw6487474941941144152:=0
def tw446788383981349470:=0
def tw4298345337556042690:=0
def tw12657060893609805488:=0
def tw845985760527723884:=0
end PySem.W.Fast
namespace KK
open PySem L2 KM
def ziT (K:Fg):PySem.W.kitOne K (.type "int") (.type "int")=some true:=by
 unfold PySem.W.kitOne;rw[if_pos (by decide +kernel)]
def ziS (K:Fg):PySem.W.kitOne K (.type "int") (.type "bool")=some false:=by
 with_unfolding_all rfl
def ziU (K:Fg):PySem.W.kitOne K (.type "tuple") (.type "tuple")=some true:=by
 unfold PySem.W.kitOne;rw[if_pos (by decide +kernel)]
def ziB {l:PySem.W.OpenLaw}{w:World}{K:Fg}{h:Heap}{mg:Str->Option Value}{fa:Addr}(X:K.In h) (G:h.Ns mainGlobals mg) (hfa:mg "law" = some (.ref fa))
  (a0:DD K "is_whole" XZ)
  (a1:DD K "is_tuple" XY)
  (a2:DD K "greatest_divisor" qC)
  (a3:DD K "is_ratio" XV)
  {f4:Addr}{od4 an4:Option Addr}{sl4:Array (Option Value)}{oc4 kV4 dc4 pm4 cd4 ct4:Value}{Td4:Addr}{ocd4:Value}{odd4:Option Addr}{tkd4:Tok}{nd4:Nat}{sld4:Array (Option Value)}
  (a4:PySem.W.nsIn K mainGlobals "ratio" = some (some (.ref f4))) (l4:K.lookup f4=some ⟨oc4,od4,.func (PySem.W.fnOf "ratio" "ratio" (xD ZM) (xb ZM) (zi ZM) (.ref Td4) kV4 dc4 pm4 an4 cd4 ct4),sl4⟩) (c4:PySem.W.codeIn K cd4 "ratio" = true) (k4:PySem.W.keepIn K (.ref f4)=true)
  (ld4:K.lookup Td4=some ⟨ocd4,odd4,.seq #[.int 1 tkd4] nd4,sld4⟩)
  (a5:DD K "over" zcb)
  (a6:DD K "less" zca)
  (a7:DD K "least_multiple" vf)
  (a8:DD K "common_bottom" vx)
  (a9:DD K "track_of" Qf)
  (a10:DD K "ticks_of" Qe)
  (a11:DD K "moment_of" Xc)
  (a12:DD K "refine" V7)
  (a13:DD K "refined" Q9)
  (a14:DD K "is_wall" QZ)
  (a15:DD K "is_wall_pair" vU)
  (a16:DD K "is_ball_form" vT)
  (a17:DD K "is_row_form" Zh)
  (a18:DD K "is_even" QY)
  (a19:DD K "is_still" XW)
  (a20:DD K "is_plain" XU)
  (a21:DD K "refuse_uneven" vA)
  (a22:DD K "refuse_no_box" vz)
  (a23:DD K "refuse_no_ball" vg)
  (a24:DD K "refuse_no_place" qO)
  (a25:DD K "trip_of" Va)
  (a26:DD K "line_at" Q8)
  (a27:DD K "at_once" QW)
  (a28:DD K "passes" V6)
  (a29:DD K "phases_of" Xd)
  (a30:DD K "comes_again" Zg)
  (a31:DD K "greatest_many" vy)
  (a32:DD K "least_round" Zj)
  (a33:DD K "round_of" Qd)
  (a34:DD K "gaps_to" QX)
  (a35:DD K "refuse_too_many" qP)
  (a36:DD K "moments_between" qN)
  (a37:DD K "looked_at" Xb)
  (a38:DD K "is_there" XX)
  (a39:DD K "when" zcc)
  (a40:DD K "lets_never" ZL)
  (a41:DD K "_law_cell" X8)
  (a42:DD K "_law_dig" Q0)
  (a43:DD K "_law_next" Qb)
  (a44:DD K "_law_lowest" ZI)
  (a45:DD K "_law_far" Q6)
  (a46:DD K "_law_spaced" ZK)
  (a47:DD K "_law_even" X9)
  (a48:DD K "_law_less" Qa)
  (a49:DD K "_law_sum" Q7)
  (a50:DD K "_law_product" Zi)
  (a51:DD K "_law_sorted" ZJ)
  (a52:DD K "_law_ahead" Z8)
  (a53:DD K "_law_minus" Z9)
  (a54:DD K "_law_wish" Qc)
  (a55:DD K "_law_right" Xa)
  {f56:Addr}{od56 an56:Option Addr}{sl56:Array (Option Value)}{oc56 kV56 dc56 pm56 cd56 ct56:Value}
  (a56:PySem.W.nsIn K mainGlobals "law" = some (some (.ref f56))) (l56:K.lookup f56=some ⟨oc56,od56,.func (PySem.W.fnOf "law" "law" (xD s_law) (xb s_law) (zi s_law) .none kV56 dc56 pm56 an56 cd56 ct56),sl56⟩) (c56:PySem.W.codeIn K cd56 "law" = true) (k56:PySem.W.keepIn K (.ref f56)=true)
  (j0:PySem.W.nsIn K mainGlobals "isinstance" = some none)
  (j1:PySem.W.nsIn K mainGlobals "int" = some none)
  (j2:PySem.W.nsIn K mainGlobals "bool" = some none)
  (j3:PySem.W.nsIn K mainGlobals "abs" = some none)
  (j4:PySem.W.nsIn K mainGlobals "len" = some none)
  (j5:PySem.W.nsIn K mainGlobals "max" = some none)
  (j6:PySem.W.nsIn K mainGlobals "min" = some none)
  (j7:PySem.W.nsIn K mainGlobals "range" = some none)
  (j8:PySem.W.nsIn K mainGlobals "tuple" = some none)
  (j9:PySem.W.nsIn K mainGlobals "sum" = some none)
  (ja:PySem.W.nsIn K mainGlobals "all" = some none)
  (jb:PySem.W.nsIn K mainGlobals "zip" = some none)
  (jc:PySem.W.nsIn K mainGlobals "list" = some none)
  (jd:PySem.W.nsIn K mainGlobals "enumerate" = some none)
  (je:PySem.W.nsIn K mainGlobals "sorted" = some none)
  (jf:PySem.W.nsIn K mainGlobals "set" = some none)
  {jg:Addr}(jh:PySem.W.nsIn K mainGlobals "TooMany" = some (some (.ref jg)))
  {ji:Addr}(jj:PySem.W.nsIn K mainGlobals "Course" = some (some (.ref ji)))
  (jk:PySem.W.keepIn K (.ref ji)=true)
  {jl:Addr}{jm jn:Option Addr}{jo:Array (Option Value)}{jp jq jr js jt:Value}(ju:PySem.W.findIn K (.ref ji) "__init__" = some (some (.ref jl)))
  (jv:K.lookup jl=some ⟨.type "function",jm,.func (PySem.W.fnOf "__init__" "Course.__init__" (xD qk) (xb qk) (zi qk) .none jp jq jr jn js jt),jo⟩) (jw:PySem.W.codeIn K js "Course.__init__" = true) (jx:PySem.W.keepIn K (.ref jl)=true)
  (jy:PySem.W.findIn K (.ref ji) "__setattr__" = some (some (.builtin "object.__setattr__")))
  (jz:PySem.W.excIn K jg zkl "ValueError.__new__" = true)
  (mkC:PySem.W.makesIn K ji=true)
  (ifC:PySem.W.isFn K (.ref jl)=true)
  (pgC:PySem.W.plainGet K ji Str.empty=true)
  (hdC:PySem.W.hasDictIn K ji=true)
  (poC:PySem.W.plainOver K ji=true)
  (jA:PySem.W.findIn K (.ref ji) "place_bottom" = some none)
  (jB:PySem.W.findIn K (.ref ji) "speed_bottom" = some none)
  (jC:PySem.W.findIn K (.ref ji) "tick" = some none)
  (jD:PySem.W.findIn K (.ref ji) "weights" = some none)
  (jE:PySem.W.findIn K (.ref ji) "tracks" = some none)
  (jF:PySem.W.findIn K (.ref ji) "low" = some none)
  (jG:PySem.W.findIn K (.ref ji) "high" = some none)
  {jH:Tok}(jI:PySem.W.nsIn K mainGlobals "MOST_LOOKED_AT" = some (some (.int 1000 jH)))
  {jJ:Addr}{jK jL:Tok}{jM:Nat}{jN:Option Addr}{jO:Array (Option Value)} (jP:PySem.W.nsIn K mainGlobals "NOUGHT" = some (some (.ref jJ))) (jQ:K.lookup jJ=some ⟨.type "tuple",jN,.seq #[.int 0 jK,.int 1 jL] jM,jO⟩) :
  ∃fd:FuncData,(∀(s:Shared) (v:Value),BindsTo s fd ⟨[v],[]⟩ [("script",v)])/\∀base:Heap,K.In base->base.Ns mainGlobals mg->Zw l.prog w K mg base CX0 13 fa fd ["script"] (zbo K):=by
 have e:=hfa.symm.trans (Wx X G a56)
 cases e
 have d_ratio:Df K mg "ratio" ZM ["top","bottom"] []:=⟨⟨f4,_,_,_,_,_,_,_,_,_,_,[],l4,c4,k4,Wx X G a4,.nil,λs us KX hl=>match us,hl with | [_,_],_=>.of_defaults rfl (KX _ _ ld4) rfl rfl rfl⟩⟩
 have dd_ratio:Df K mg "ratio" ZM ["top","bottom"] [.int 1]:=⟨⟨f4,_,_,_,_,_,_,_,_,_,_,[.int 1 tkd4],l4,c4,k4,Wx X G a4,.cons ⟨_,rfl⟩ .nil,λs us KX hl=>have hl2:us.length=1:=↥hl;match us,hl2 with | [_],_=>.of_defaults rfl (KX _ _ ld4) rfl rfl rfl⟩⟩
 have T:TxB K mg:=⟨ziT K,ziS K,yh X G j0,yh X G j1,yh X G j2,yh X G j3,yh X G j4,yh X G j5,yh X G j6,yh X G j7,yh X G j8,yh X G j9⟩
 have F:=zeL (st:=s_law) l56 c56 k56
 refine⟨PySem.W.fnOf "law" "law" (xD s_law) (xb s_law) (zi s_law) .none kV56 dc56 pm56 an56 cd56 ct56,λs v=>.of_eq rL,λbase hKb hGb=>?_⟩
 have T3:Tx3 K mg jJ:=⟨yh X G ja,yh X G je,yh X G jd,Wx X G jP,⟨_,_,_,_,jQ,rfl,rfl⟩,ziU K⟩
 have TQ:TxQ K mg:=⟨T,yh X G jc,yh X G jb⟩
 have nL:=yh X G jc
 have nSo:=yh X G je
 have nSe:=yh X G jf
 have TM:=Wx X G jI
 have mCo:=Wx X G jj
 have FUC:=zeL (st:=qk) jv jw jx
 have BIC:=FUC.binds (ps:=["self","row","walls"]) λ_ _ _ _ _ _ us hl=>match us,hl with | [_,_,_],_=>rfl
 have TC:TCo K ji:=⟨⟨pgC,hdC,poC,jy⟩,jA,jB,jC,jD,jE,jF,jG⟩
 have M:Mk K ji jl:=⟨mkC,ju,ifC,jk⟩
 have OM:=zjs hKb hGb jh jz
 have cW:=zfj (P:=l.prog) (w:=w) (base:=base) (a0.df1 X G) T
 have cG:=zi7 (P:=l.prog) (w:=w) (base:=base) (a2.df2 X G)
 have cR:=zfh d_ratio T cW cG
 have cOv:=zhg (a5.df2 X G) cR
 have cLs:=zjh (P:=l.prog) (w:=w) (base:=base) (a6.df2 X G)
 have cTu:=zk2 (P:=l.prog) (w:=w) (base:=base) (a1.df2 X G) T T3
 have cIr:=zkP (a3.df1 X G) T cTu cW cG
 have cWa:=zk3 (a14.df1 X G) cTu cIr
 have cWp:=zk5 (a15.df1 X G) cTu cWa
 have cBf:=zkJ (a16.df1 X G) cTu cIr cW
 have cRf:=zfi (a17.df1 X G) T T3 cBf
 have cEv:=zkN (a18.df1 X G) T T3 cRf
 have cSt:=zkZ (a19.df1 X G) T3 cWp
 have cLcm:=zjb (a7.df1 X G) cG
 have cB:=zkK (a8.df1 X G) cLcm
 have cTr:=zk1 (P:=l.prog) (w:=w) (base:=base) (a9.df2 X G) TC
 have Fi:=zkM FUC TQ TC cB cR cTr
 have cPl:=zkW (a20.df2 X G) cEv cSt
 have cRu:=zkY (a21.df2 X G) cPl
 have cTp:=zhi (P:=l.prog) (w:=w) (base:=base) (a25.df1 X G) TC
 have cPs:=zjl (P:=l.prog) (w:=w) (base:=base) (a28.df4 X G)
 have cLa:=zi9 (P:=l.prog) (w:=w) (base:=base) (a26.df3 X G) T TC
 have cNx:=zjk (a22.df2 X G) cRu
 have cNb:=zkU (P:=l.prog) (w:=w) (base:=base) (a23.df2 X G)
 have cRnp:=zjn (a24.df2 X G) cLs
 have cTk:=zk0 (a10.df2 X G) TC cOv
 have cPh:=zkV (a29.df1 X G) TC cTp
 have cCg:=zkL (P:=l.prog) (w:=w) (base:=base) (a30.df3 X G) T3
 have cGm:=zkO (a31.df2 X G) T cCg
 have cMm:=zkT (a11.df2 X G) TC cR
 have cLr:=zje (a32.df2 X G) TC cTp cG cLcm cR cMm
 have cRo:=zjo (a33.df2 X G) T T3 TC M Fi mCo BIC cNx cPh cGm cTp cLr cR
 have cGa:=zi6 (P:=l.prog) (w:=w) (base:=base) (a34.df2 X G) TC
 have cMb:=zjj (P:=l.prog) (w:=w) (base:=base) (a36.df5 X G) T nL
 have cRfn:=zjm (P:=l.prog) (w:=w) (base:=base) (a13.df2 X G)
 have cRe:=zkX (a12.df2 X G) TC cRfn
 have cThe:=zjp (a38.df4 X G) T TC cLa
 have cRt:=zhh (a35.df4 X G) OM TM cPs
 have cLk:=zkQ (a37.df4 X G) T TC TM nSo nSe cLcm cGa cTp cRt cMb
 have cWh:=zk4 (a39.df5 X G) T TC M Fi mCo BIC cNx cNb cRnp cRe cLcm cRo cTk cLk cThe cMm
 have cLn:=zkR (a40.df6 X G) nL cWh
 have cC:=zha (P:=l.prog) (w:=w) (base:=base) (a41.df2 X G) T
 have cD:=zi4 (P:=l.prog) (w:=w) (base:=base) (a42.df1 X G) T
 have cN:=zhf (P:=l.prog) (w:=w) (base:=base) (a43.df2 X G)
 have cF:=zi5 (a45.df1 X G) T cN
 have cLo:=zjd (P:=l.prog) (w:=w) (base:=base) (a44.df2 X G) T
 have cS:=zhe (a49.df2 X G) cLo
 have cP:=zfg (a50.df2 X G) cLo
 have cLl:=zhb (P:=l.prog) (w:=w) (base:=base) (a48.df2 X G)
 have cMi:=zhc (a53.df2 X G) cS cP
 have cAh:=zi8 (a52.df2 X G) cLl
 have cSr:=zjg (a51.df1 X G) T cAh
 have cSc:=zhd (a46.df5 X G) T cN cLo cS cP cLl
 have cEe:=zjc (a47.df2 X G) T cN cF cLo cS cP cSr cSc
 have cWi:=zji (a54.df3 X G) T cN cF cLo cS cP cMi
 have cAo:=zkI (a27.df3 X G) T T3 TC M Fi mCo BIC cRu cTk cLa cR
 have cWq:=zk6 cWh
 have cLq:=zkS cLn
 have cRi:=zjf (a55.df6 X G) T cN cLo cLl cS cP cMi cAo cWq cLq
 exact zja F T cC cD cN cS cEe cWi cRi cAo cWq
def walk {l:PySem.W.OpenLaw}{q:Program}{loose:List Str}{XP:(Str->Option Value)->Heap->Prop}{YP:World->Heap->Prop}{d:DefRec}{K:Params->Fg}(hn:l.most=some 63) (hdf:d.params.defaults=[])
  (hY:∀(w:World) (h:Heap),YP w h->(K w.params).In h)
  (F:∀(w:World) (mg:Str->Option Value) (fa:Addr) (h:Heap),(K w.params).In h->h.Ns mainGlobals mg->mg d.name=some (.ref fa) →
   ∃fd:FuncData,(∀(s:Shared) (u:Value),BindsTo s fd ⟨[u],[]⟩ [("script",u)])/\∀base:Heap,(K w.params).In base->base.Ns mainGlobals mg->Zw l.prog w (K w.params) mg base CX0 13 fa fd ["script"] (zbo (K w.params))) :
  PySem.W.WalkO q loose XP YP l.row.toRowW d [] (λf vs=>PySem.call f vs) :=
 L2.zhZ (n:=63) (k:=13) (x:="script") (CX:=λ_=>CX0) (sp:=λw=>zbo (K w.params)) hn (by decide) hdf ⟨rfl,by decide,by decide⟩ hY F (λ_ _ a ns hl _ hS=>⟨a,ns,rfl,hS,hl,λ_=>rfl⟩) λ_ _ _ _ _ z=>z
end KK
open PySem PySem.W PyProof.Rows
set_option maxRecDepth 100000 in
set_option maxHeartbeats 0 in
theorem PySem.Challenge.cw_clackrow_k39_whole_first_moments_followe_holds : PySem.Challenge.rw_clackrow_k39_whole_first_moments_followe.Holds := by
 w_on;o_law;k_head;(case hw=>w_witness2)
 k_fill
 refine KK.walk (l:=PySem.Challenge.rw_clackrow_k39_whole_first_moments_followe) rL rL (λw h Y=>PySem.W.kIn_of Y) ?F
 case F =>
  intro w mg fa h KX G hmg
  refine' KK.ziB KX G hmg ..
  all_goals (try (first | (refine' KK.zkx ?_ ?_ ?_ ?_ <;> try k_is) | k_is | k_exc | kernel_rfl))
