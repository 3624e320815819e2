import PyProof.Rows.All
import Wide.All
import OpenK.AllK
import Wide.FinOn
import Lean
import PyProof.EqAt
import PyProof.EqKinds
import PyProof.TupleCall
import PyProof.CompFree
import PyProof.Rows.SumAny
import PyProof.ZipIter
import PyProof.ConsumeWalk
import PySem.Challenge.RW_clackrow_k40_whole_first_moments_moved
import KE.KSortTup
import KE.KDictSum
import PyProof.Sound
import KE.KLam
import PyProof.WalkInts
import PyProof.Rows.SeqCalls
import PyProof.Draws
import KE.KDictLaws
import KE.KDictList
import PyProof.Rows.SortShell
import PyProof.Rows.SortWalk
import PyProof.DictTruth
import KE.KDictOf
import PyProof.AttrMissHeap
import PyProof.WalksS
import PyProof.Walks
import PyProof.Seq
import PyProof.ListNew
import PyProof.CollectWalk
import PyProof.Rows.Range3
import KE.KSortAsk
import PyProof.SetScanFacts
import PyProof.SetKind
import PyProof.Rows.SetFrom
import PyProof.LongRange
import KE.KTryMore
set_option hygiene false
local macro_rules|`(tactic|nofun)=>`(tactic|try dsimp only)
local macro_rules|`(↥$x)=>`(by simpa using $x)
local macro_rules|`(∅)=>`(by lia)
local macro_rules|`(tactic|rcases $h:ident:$e with $p)=>if h.getId==`q then `(tactic|(refine hid (λ_ Zz=>?_);rcases $e:term with $p;refine Zz ?_;clear Zz)) else if h.getId==`r then `(tactic|(refine $e (λf cdv A outer s H vs Q E hr h=>?_);rcases q:h with $p)) else Lean.Macro.throwUnsupported
set_option Elab.async false
set_option linter.all false
set_option maxRecDepth 100000
set_option maxHeartbeats 8000000
section
open PySem PySem.Spec PyProof.Rows
abbrev Fg:=PySem.W.Frag
def zL0:0<=sizeLine:=by decide
def zL1:1<=sizeLine:=by decide
def zL2:2<=sizeLine:=by decide
def zL3:3<=sizeLine:=by decide
def zL4:4<=sizeLine:=by decide
def zL8:8<=sizeLine:=by decide
def wc:=@List.length_map
def we:=@wpAny_bind
def wf:=@List.mem_map
def wg:=@Heap.get?_push_of_some
def wj:=@Rat.intCast_mul
def wm:=@decide_eq_true
def wn:=@wpAny_pure
def wo:=@Nat.le_refl
def wu:=@List.getElem?_map
def wv:=@Rat.intCast_pos
def ww:=@List.mem_cons
def wx:=@List.length_cons
def wy:=@decide_eq_false
def wA:=@of_decide_eq_true
def wB:=@List.mem_cons_self
def wC:=@Int.fdiv_eq_ediv_of_nonneg
def wD:=@List.map_map
def wE:=@Rat.divInt_eq_div
def wF:=@Heap.lt_size
def wG:=@List.map_congr_left
def wH:=@Heap.get?_push_size
def wI:=@Array.length_toList
def wJ:=@List.getElem?_eq_getElem
def wK:=@Array.getElem?_eq_getElem
def wL:=@List.mem_of_getElem?
def wN:=@List.size_toArray
def wO:=@Array.getElem?_toList
def wP:=@Rat.mul_le_mul_of_nonneg_right
def wQ:=@Int.mul_pos
def wR:=@List.mem_cons_of_mem
def wS:=@List.getElem?_eq_some_iff
def wT:=@List.getElem?_append_right
def wU:=@List.mem_singleton
def wV:=@List.length_append
def wW:=@Rat.num_divInt_den
def wX:=@Array.getElem?_eq_some_iff
def wY:=@List.mem_append
def wZ:=@Nat.ne_of_lt
def w4:=@Nat.lt_of_lt_of_le
def w5:=@Rat.mul_pos
def w8:=@List.getElem?_append_left
def ya:=@Bool.false_ne_true
def yb:=@Nat.zero_le
def yc:=@PySem.W.mg_none_of
def yd:=@Rat.intCast_le_intCast
def ye:=@List.mem_append_right
def yf:=@Int.mul_ediv_cancel_left
def yg:=@List.map_cons
def yh:=@Heap.get?_update_other
def yj:=@Rat.le_of_lt
def yk:=@Rat.intCast_add
def ym:=@List.append_assoc
def yn:=@List.length_take
def yo:=@decide_eq_true_eq
def yp:=@List.length_reverse
def yq:=@List.take_length
def yr:=@List.mem_filter
def yt:=@List.map_append
def yu:=@Int.ne_of_gt
def yv:=@Int.le_trans
def yx:=@Int.mul_le_mul_of_nonneg_right
def yA:=@List.take_add_one
def yB:=@PySem.F.plainAttrs_list
def yC:=@Array.toList_append
def yD:=@Int.lt_or_le
def yE:=@Rat.intCast_sub
def yF:=@List.getElem?_eq_none
def yG:=@PyProof.Rows.boot_abs
def yH:=@Rat.intCast_inj
def yI:=@wpAny_newObj_type
def yJ:=@Nat.le_trans
def yK:=@Int.le_of_lt
def yL:=@Rat.intCast_lt_intCast
def yM:=@PySem.F.slot_list_append
def yN:=@PySem.F.type_list_append
def yO:=@PyProof.Rows.callWith_type1
def yP:=@List.append_nil
def yQ:=@Heap.get?_update_self
def yR:=@List.length_singleton
def yS:=@Int.emod_nonneg
def yT:=@Rat.intCast_neg
def yU:=@List.length_range
def yV:=@Int.emod_lt_of_pos
def yW:=@PySem.W.kia_one
def yX:=@List.mem_of_find?_eq_some
def yY:=@List.countP_cons
def yZ:=@wpAny_holding
def ua:=@Rat.divInt_mul_divInt
def uc:=@Int.mul_nonpos_of_nonneg_of_nonpos
def ue:=@List.filter_append
def uf:=@List.length_eq_zero_iff
def ug:=@Int.gcd_pos_of_ne_zero_left
def uh:=@Int.mul_lt_mul_of_pos_right
def ui:=@wpAny_Call_Name_kw
def uj:=@wpAny_mono
def um:=@Int.gcd_dvd_left
def uo:=@Int.mul_comm
def ur:=@Rat.zero_mul
def ut:=@wpAny_call_entry
def uw:=@Rat.mul_lt_mul_of_pos_left
def ux:=@Array.getElem?_eq_none
def uy:=@wpAny_truthy_bool
def uz:=@List.nodup_cons
def uA:=@List.take_append_drop
def uB:=@List.foldl_cons
def uC:=@Nat.eq_zero_or_pos
def uD:=@Rat.divInt_eq_divInt_iff
def uE:=@Rat.mul_le_mul_of_nonneg_left
def uF:=@Nat.lt_irrefl
def uG:=@Int.fdiv_eq_ediv_of_dvd
def uH:=@List.getElem?_cons_succ
def uI:=@PyProof.Rows.boot_isinstance
def uJ:=@PyProof.Rows.boot_tuple
def uK:=@Rat.mul_nonneg
def uL:=@List.ext_getElem?
def uM:=@List.find?_cons
def uN:=@Bool.and_eq_true
def uO:=@List.mem_reverse
def uP:=@List.length_replicate
def uQ:=@Int.natAbs_dvd_natAbs
def uR:=@List.length_filter_le
def uS:=@Rat.div_mul_cancel
def uT:=@Rat.mul_div_cancel
def uU:=@Int.one_mul
def uV:=@Int.le_refl
def uW:=@List.pairwise_iff_getElem
def uX:=@Bool.eq_iff_iff
def uY:=@PyProof.Rows.slot_tuple_getitem
def uZ:=@Int.mul_ne_zero
def u5:=@Nat.lt_succ_of_lt
def u6:=@List.countP_map
def u7:=@List.filter_congr
def u8:=@wpAny_passesOwn
def u9:=@wpAny_setState_of
def Wa:=@wpAny_setEntries_of
def Wc:=@Array.toList_inj
def Wd:=@List.mem_range
def We:=@Int.not_lt
def Wf:=@Int.natAbs_mul
def Wg:=@Array.getElem?_extract
def Wh:=@Rat.intCast_nonneg
def Wi:=@Rat.div_def
def Wj:=@Nat.sub_self
def Wk:=@Int.emod_add_mul_ediv
def Wm:=@List.mem_iff_getElem?
def Wn:=@List.perm_append_comm
def Wo:=@PyProof.Rows.boot_int
def Wp:=@Rat.num_intCast
def Wq:=@Rat.mul_lt_mul_of_pos_right
def Wr:=@Int.gcd_dvd_right
def Ws:=@Int.dvd_trans
def Wu:=@PySem.W.mg_of
def Wv:=@Int.ediv_pos_of_pos_of_dvd
def Ww:=@List.mem_append_left
def Wx:=@Heap.size_push
def Wy:=@Int.mul_nonneg
def Wz:=@List.take_zero
def WB:=@PySem.F.plain_extend_loop
def WC:=@Rat.one_mul
def WD:=@Nat.ne_of_gt
def WE:=@List.getElem?_take_of_lt
def WF:=@PyProof.Rows.boot_sorted
def WG:=@Int.mul_nonpos_of_nonpos_of_nonneg
def WH:=@Array.append_assoc
def WJ:=@List.getElem?_replicate
def WK:=@Nat.lt_of_le_of_lt
def WL:=@Int.eq_ofNat_of_zero_le
def WM:=@List.nil_append
def WN:=@List.getElem?_drop
def WO:=@Nat.eq_or_lt_of_le
def WP:=@Int.ediv_nonneg
def WQ:=@Int.mul_assoc
def WR:=@List.find?_eq_none
def WS:=@Rat.den_intCast
def WT:=@Rat.mul_eq_zero
def WU:=@List.filter_map
def WV:=@PySem.F.slot_list_iadd
def WW:=@wpAny_field
def WX:=@Nat.le_of_eq
def WY:=@PyProof.Rows.callWith_builtin1
def WZ:=@Int.gcd_comm
def W1:=@List.getElem?_toArray
def W2:=@PyProof.Rows.boot_max
def W4:=@Int.mul_ediv_add_emod
def W5:=@List.find?_eq_some_iff_getElem
def W6:=@Nat.lt_succ_self
def W7:=@List.all_eq_true
def W8:=@Int.ediv_le_self
def W9:=@Array.toList_reverse
def Ya:=@Int.gcd_pos_of_ne_zero_right
def Yb:=@List.any_cons
def Yc:=@PySem.F.slot_dict_setdefault
def Yd:=@PySem.F.type_dict_setdefault
def Ye:=@wpAny_attempt
def Yf:=@wpAny_rule
def Yg:=@List.filterMap_cons
def Yh:=@Int.dvd_of_mul_dvd_mul_left
def Yi:=@wpAny_execs_nil
def Yj:=@wpAny_updateSeq
def Yk:=@Array.perm_iff_toList_perm
def Yl:=@PySem.F.excBase_ValueError
def Ym:=@Int.le_of_mul_le_mul_right
def Yn:=@Nat.le_of_lt
def Yo:=@List.mem_filterMap
def Yp:=@PySem.W.callWith_K
def Yq:=@Bool.false_eq_true
def Yr:=@Int.dvd_refl
def Ys:=@List.getElem?_take
def Yt:=@Rat.mul_comm
def Yu:=@Rat.add_zero
def Yv:=@List.filter_filter
def Yw:=@wpAny_typeOf
def Yx:=@wpAny_setField_rec
def Yy:=@List.extract_eq_take_drop
def Yz:=@Int.eq_of_mul_eq_mul_left
def YA:=@Nat.mul_le_mul
def YB:=@wpAny_fieldsOf
def YC:=@Int.gcd_dvd_natAbs_right
def YD:=@Array.toList_push
def YE:=@List.foldl_append
def YF:=@Int.mul_left_comm
def YG:=@List.pairwise_map
def YH:=@List.nodup_append
def YI:=@wpAny_pyIter_list
def YJ:=@wpAny_comprehension_free
def YK:=@Int.mul_one
def YL:=@Nat.le_of_dvd
def YM:=@Bool.false_or
def YN:=@Bool.true_and
def YO:=@Rat.inv_pos
def YQ:=@wpAny_standAt
def YR:=@wpAny_newList
def YS:=@Option.getD_some
def YT:=@wpAny_askSetting
def YU:=@List.of_mem_zip
def YV:=@List.map_nil
def YW:=@List.length_nil
def YX:=@Nat.zero_add
def YY:=@Nat.lt_or_ge
def YZ:=@List.find?_some
def Y0:=@Nat.le_antisymm
def Y1:=@Int.mul_dvd_mul
def Y2:=@Rat.num_nonneg
def Y3:=@List.nodup_nil
def Y4:=@List.foldl_nil
def Y5:=@wpAny_setField
def Y6:=@Nat.mul_add
def Y7:=@Rat.neg_num
def Y8:=@wpAny_of_eq
def Y9:=@wpAny_load
def Ua:=@wpAny_call
end
def rL {α:Sort _}{a:α}:a=a:=rfl
namespace L2
open PySem PySem.Spec PyProof.Rows
abbrev Key:=Sum Int Str
def Ji:Key->Value->Bool
 |.inl k,v=>Value.isInt k v
 |.inr x,v=>Value.isStrOf x v
def keyH (w:World):Key->Int
 |.inl k=>hashInt k
 |.inr x=>hashStr w x
def xV:∀{k:Key}{v:Value},Ji k v=true->(∃i t,k=Sum.inl i/\v=Value.int i t)\/(∃x t,k=Sum.inr x/\v=Value.str x t)
 |.inl i,v,h=>by
  obtain⟨t,e⟩:=Value.isInt_shape (k:=i) (v:=v) h
  exact .inl ⟨i,t,rL,e⟩
 |.inr x,v,h=>by
  obtain⟨t,e⟩:=Value.isStrOf_shape (x:=x) (v:=v) h
  exact .inr ⟨x,t,rL,e⟩
def zc7 (i:Int) (t:Tok):Ji (.inl i) (.int i t)=true:=by simp[Ji,Value.isInt]
def zc8 (x:Str) (t:Tok):Ji (.inr x) (.str x t)=true:=by simp[Ji,Value.isStrOf]
def zh8 (a b:Int):decide ((Sum.inl a:Key)=Sum.inl b)=(a == b):=by
 by_cases e:a=b
 ·subst e;simp
 ·have h:¬(Sum.inl a:Key)=Sum.inl b:=λq=>e (Sum.inl.inj q)
  rw[wy h]
  exact(beq_eq_false_iff_ne.mpr e).symm
def zib (a b:Str):decide ((Sum.inr a:Key)=Sum.inr b)=decide (a=b):=by
 by_cases e:a=b
 ·subst e;simp
 ·have h:¬(Sum.inr a:Key)=Sum.inr b:=λq=>e (Sum.inr.inj q)
  rw[wy h,wy e]
def zh9 (a:Int) (b:Str):decide ((Sum.inl a:Key)=Sum.inr b)=false:=wy (λq=>nomatch q)
def zia (a:Str) (b:Int):decide ((Sum.inr a:Key)=Sum.inl b)=false:=wy (λq=>nomatch q)
def qg (prog:Program) (w:World):PySem.KeyKind prog w Key where
 is:=Ji
 hash:=keyH w
 inj:=λv a b ha hb=>by
  rcases xV ha with⟨i,t,rfl,rfl⟩ | ⟨x,t,rfl,rfl⟩
  ·rcases xV hb with⟨j,u,rfl,e⟩ | ⟨y,u,rfl,e⟩
   ·injection e with e1 _;rw[e1]
   ·exact nomatch e
  ·rcases xV hb with⟨j,u,rfl,e⟩ | ⟨y,u,rfl,e⟩
   ·exact nomatch e
   ·injection e with e1 _;rw[e1]
 byValue:=λk v h=>by
  rcases xV h with⟨i,t,rfl,rfl⟩ | ⟨x,t,rfl,rfl⟩ <;> rfl
 pyHash:=λhv h=>by
  rcases xV hv with⟨i,t,rfl,rfl⟩ | ⟨x,t,rfl,rfl⟩
  ·exact wpAny_pyHash_int h
  ·exact wpAny_pyHash_str h
 eqBool:=λhu hv h=>by
  rcases xV hu with⟨i,t,rfl,rfl⟩ | ⟨x,t,rfl,rfl⟩
  ·rcases xV hv with⟨j,u,rfl,rfl⟩ | ⟨y,u,rfl,rfl⟩
   ·rw[zh8]at h;exact wpAny_eqBool_int h
   ·rw[zh9]at h;exact SeqAt.EqAt.int_str i t y u _ _ _ _ h
  ·rcases xV hv with⟨j,u,rfl,rfl⟩ | ⟨y,u,rfl,rfl⟩
   ·rw[zia]at h;exact SeqAt.EqAt.str_int x t j u _ _ _ _ h
   ·rw[zib]at h;exact wpAny_eqBool_str h
 «strs»:=λk x t v h=>by
  rcases xV h with⟨i,u,rfl,e⟩ | ⟨y,u,rfl,e⟩
  ·exact nomatch e
  ·injection e with e1 _
   subst e1
   cases v <;> rfl
def zaK (prog:Program) (w:World) (i:Int) (t:Tok):(qg prog w).is (.inl i) (.int i t)=true:=zc7 i t
def zaL (prog:Program) (w:World) (x:Str) (t:Tok):(qg prog w).is (.inr x) (.str x t)=true:=zc8 x t
inductive V where
 |non | bl (b:Bool) | int (i:Int) | str (x:Str) | byt (b:Array UInt8) | flt (b:UInt64) | ref (a:Addr) | ty (n:String)
 deriving DecidableEq
def xl:V->Value->Prop
 |.non,u=>u=Value.none
 |.bl b,u=>u=Value.bool b
 |.int i,u=>∃t,u=Value.int i t
 |.str x,u=>∃t,u=Value.str x t
 |.byt b,u=>∃t,u=Value.bytes b t
 |.flt b,u=>∃t,u=Value.float b t
 |.ref a,u=>u=Value.ref a
 |.ty n,u=>u=Value.type n
abbrev z6:List V->List Value->Prop:=Paired xl
def z6.length {xs:List V}{us:List Value}(r:z6 xs us):xs.length=us.length:=Paired.length r
def z6.get:∀{xs:List V}{us:List Value}{i:Nat}{x:V},z6 xs us->xs[i]?=some x->∃u,us[i]?=some u/\xl x u
 |_,_,_,_,.nil,e=>by simp at e
 |_,_,0,_,.cons r _,e=>by simp at e;subst e;exact⟨_,rfl,r⟩
 |_,_,i+1,x,.cons _ t,e=>by
  obtain⟨u,h1,h2⟩:=z6.get (i:=i) (x:=x) t ↥e
  exact⟨u,↥h1,h2⟩
def z6.set {x:V}{u:Value}(r:xl x u):∀{xs:List V}{us:List Value}(i:Nat),z6 xs us->z6 (xs.set i x) (us.set i u)
 |_,_,_,.nil=>.nil
 |_,_,0,.cons _ t=>.cons r t
 |_,_,i+1,.cons q t=>.cons q (z6.set r i t)
def z6.append:∀{xs ys:List V}{us ws:List Value},z6 xs us->z6 ys ws->z6 (xs++ys) (us++ws)
 |_,_,_,_,.nil,s=>s
 |_,_,_,_,.cons r t,s=>.cons r (z6.append t s)
def z6.take:∀{xs:List V}{us:List Value}(n:Nat),z6 xs us->z6 (xs.take n) (us.take n)
 |_,_,0,_=>.nil
 |_,_,_+1,.nil=>.nil
 |_,_,n+1,.cons r t=>.cons r (z6.take n t)
def z6.drop:∀{xs:List V}{us:List Value}(n:Nat),z6 xs us->z6 (xs.drop n) (us.drop n)
 |_,_,0,r=>r
 |_,_,_+1,.nil=>.nil
 |_,_,n+1,.cons _ t=>z6.drop n t
def Vp:Option V->Option Value->Prop
 |some v,some u=>xl v u
 |none,none=>True
 |_,_=>False
def KV {κ:Type}:List (κ×V)->List (κ×Value)->Prop:=Paired λ(p:κ×V) (q:κ×Value)=>p.1=q.1/\xl p.2 q.2
def kV:Key->V
 |.inl i=>.int i
 |.inr x=>.str x
inductive HO where
 |lst (xs:List V)
 |tup (xs:List V)
 |dK (kvs:List (Key×V)) | dT (kvs:List (List Key×V))
 |set (S:Int->Bool) (n:Nat)
 |ins (C dx:Addr) (fs:List (Str×V))
 |own (x:Addr)
 |xd (fs:List (Str×V))
 |met (f x:Addr)
 |rng (lo hi:Int)
 |frz (o:Obj) (u:HO)
 |tbl (ps:Array Value)
 |ext (φ:Heap->Prop)
abbrev Hp:=Addr->Option HO
def upd (H:Hp) (a:Addr) (o:HO):Hp:=λb=>if b=a then some o else H b
def zg {H:Hp}{a:Addr}{o:HO}:upd H a o a=some o:=by unfold upd;rw[if_pos rfl]
def zT {H:Hp}{a b:Addr}{o:HO}(h:b≠a):upd H a o b=H b:=by unfold upd;rw[if_neg h]
def zj0 {H:Hp}{a b:Addr}{o u:HO}(h:H a=some o) (h':H b=some u) (d:o≠u):a≠b:=by
 intro e;subst e;rw[h]at h';exact d (Option.some.inj h')
def zZ {H:Hp}{a b:Addr}{o:HO}(h:H a=some o) (h':H b=none):a≠b:=by
 intro e;subst e;rw[h]at h';cases h'
section
variable (P:Program) (w:World)
def xP (H:Hp) (h:Heap) (a:Addr):HO->Prop
 |.lst xs=>xs.length<=sizeLine/\∃(its:List Value) (n:Nat),z6 xs its/\h.get? a=some { cls:=.type "list",data:=.seq its.toArray n }
 |.tup xs=>xs.length<=sizeLine/\∃its:List Value,z6 xs its/\IsTup h a its.toArray
 |.dK kvs=>kvs.length<=sizeLine/\(a == sysModules)=false/\∃vs,KV kvs vs/\h.DictOf (qg P w) a vs
 |.dT kvs=>kvs.length<=sizeLine/\(a == sysModules)=false/\∃xs:List (List Key×Addr×Value),
   Paired (λ(p:List Key×V) (q:List Key×Addr×Value)=>p.1=q.1/\H q.2.1=some (.tup (p.1.map kV))/\xl p.2 q.2.2) kvs xs ∧
   ∃o es ep,h.get? a=some o/\o.ExactDict/\o.data=.dict es ep/\es.toList=xs.map (entryOfKey (tupleKind (qg P w)))/\(xs.map (·.1)).Nodup
 |.set S n=>h.SetOf (intKind P w) a S n
 |.ins C dx fs=>H dx=some (.own a)/\fs.length<=1000/\dx≠a/\h.get? a=some (PySem.W.instObj C dx) ∧
   ∃mA,h.Ns1 dx mA/\(∀f,Vp (fs.lookup f) (mA f))/\PySem.Within mA (fs.map (·.1))
 |.own _=>∃o,h.get? a=some o
 |.xd fs=>∃mA,h.Ns1 a mA/\∀f,Vp (fs.lookup f) (mA f)
 |.rng lo hi=>∃t u v,h.get? a=some { cls:=.type "range",data:=.fields #[.int lo t,.int hi u,.int 1 v] }
 |.frz o u=>h.get? a=some o/\xP H h a u
 |.tbl ps=>h.get? a=some { cls:=.none,data:=.fields ps }
 |.met f x=>h.get? a=some (PySem.W.methodObj (.ref f) (.ref x))
 |.ext φ=>φ h/\(∃o,h.get? a=some o)/\∀h1 h2:Heap,φ h1->(∀o,h1.get? a=some o->h2.get? a=some o)->φ h2
def HOk (H:Hp) (h:Heap):Prop:=∀a o,H a=some o->xP P w H h a o
end
section
variable {P:Program}{w:World}{H H':Hp}{h h':Heap}{a:Addr}{o:HO}
theorem xP.lt (x:xP P w H h a o):a<h.objs.size:=by
 cases o with
 |lst xs=>obtain⟨_,_,_,_,e⟩:=x;exact wF e
 |tup xs=>obtain⟨_,_,_,p⟩:=x;exact p.lt
 |dK kvs=>obtain⟨_,_,_,_,o,_,_,e,_⟩:=x;exact wF e
 |dT kvs=>obtain⟨_,_,_,_,o,_,_,e,_⟩:=x;exact wF e
 |set S n=>obtain⟨o,_,_,_,e,_⟩:=x;exact wF e
 |ins C dx fs=>obtain⟨_,_,_,e,_⟩:=x;exact wF e
 |own y=>obtain⟨_,e⟩:=x;exact wF e
 |xd fs=>obtain⟨_,⟨_,_,_,e,_⟩,_⟩:=x;exact wF e
 |rng lo hi=>obtain⟨_,_,_,e⟩:=x;exact wF e
 |frz ob u=>obtain⟨e,_⟩:=x;exact wF e
 |tbl ps=>exact wF (show h.get? a=some _ from x)
 |met f y=>exact wF (show h.get? a=some _ from x)
 |ext φ=>obtain⟨_,⟨_,e⟩,_⟩:=x;exact wF e
theorem Paired.mapP {α β:Type}{F G:α->β->Prop}:∀{l₁:List α}{l₂:List β},Paired F l₁ l₂->(∀a b,F a b->G a b)->Paired G l₁ l₂
 |_,_,.nil,_=>.nil
 |_,_,.cons r t,f=>.cons (f _ _ r) (Paired.mapP t f)
theorem xP.stay (x:xP P w H h a o) (k:∀b u,(b=a\/H b=some (.own a))->h.get? b=some u->h'.get? b=some u)
  (ho:∀b,H b=some (.own a)->H' b=some (.own a)) (ht:∀b xs,H b=some (.tup xs)->H' b=some (.tup xs)):xP P w H' h' a o:=by
 induction o with
 |lst xs=>obtain⟨z,its,n,r,e⟩:=x;exact⟨z,its,n,r,k _ _ (.inl rfl) e⟩
 |tup xs=>obtain⟨z,its,r,ob,e,c⟩:=x;exact⟨z,its,r,ob,k _ _ (.inl rfl) e,c⟩
 |dK kvs=>obtain⟨z,y,vs,r,ob,es,ep,e,c⟩:=x;exact⟨z,y,vs,r,ob,es,ep,k _ _ (.inl rfl) e,c⟩
 |dT kvs =>
  obtain⟨z,y,xs,r,ob,es,ep,e,c⟩:=x
  exact⟨z,y,xs,Paired.mapP r λp q z=>⟨z.1,ht _ _ z.2.1,z.2.2⟩,ob,es,ep,k _ _ (.inl rL) e,c⟩
 |set S n=>obtain⟨ob,es,ep,t,e,c⟩:=x;exact⟨ob,es,ep,t,k _ _ (.inl rfl) e,c⟩
 |ins C dx fs =>
  obtain⟨d,z,ne,e,mA,⟨od,es,ep,e2,c⟩,r⟩:=x
  exact⟨ho _ d,z,ne,k _ _ (.inl rL) e,mA,⟨od,es,ep,k _ _ (.inr d) e2,c⟩,r⟩
 |own y=>obtain⟨ob,e⟩:=x;exact⟨ob,k _ _ (.inl rfl) e⟩
 |xd fs=>obtain⟨mA,⟨od,es,ep,e,c⟩,r⟩:=x;exact⟨mA,⟨od,es,ep,k _ _ (.inl rfl) e,c⟩,r⟩
 |rng lo hi=>obtain⟨t,u,v,e⟩:=x;exact⟨t,u,v,k _ _ (.inl rfl) e⟩
 |frz ob u ih=>obtain⟨e,q⟩:=x;exact⟨k _ _ (.inl rfl) e,ih q⟩
 |tbl ps =>
  have e:h.get? a=some { cls:=.none,data:=.fields ps }:=x
  show h'.get? a=some { cls:=.none,data:=.fields ps }
  exact k a _ (.inl rL) e
 |met f y =>
  have e:h.get? a=some (PySem.W.methodObj (.ref f) (.ref y)):=x
  show h'.get? a=some (PySem.W.methodObj (.ref f) (.ref y))
  exact k a _ (.inl rL) e
 |ext φ=>obtain⟨p,⟨o,e⟩,st⟩:=x;exact⟨st _ _ p λo q=>k _ _ (.inl rfl) q,⟨o,k _ _ (.inl rfl) e⟩,st⟩
theorem HOk.lt (x:HOk P w H h) (e:H a=some o):a<h.objs.size:=(x a o e).lt
theorem HOk.fresh (x:HOk P w H h) (e:h.objs.size<=a):H a=none:=by
 cases q:H a with
 |none=>rfl
 |some u=>exact absurd (w4 (x.lt q) e) (uF _)
theorem HOk.kept (x:HOk P w H h) (k:∀b u,h.get? b=some u->h'.get? b=some u):HOk P w H h':=λa o e =>
 (x a o e).stay (λb u _ q=>k b u q) (λ_ q=>q) λ_ _ q=>q
theorem HOk.laid (x:HOk P w H h) (k:∀b u,h.get? b=some u->h'.get? b=some u) (hp:h.objs.size<=a) (new:xP P w (upd H a o) h' a o):HOk P w (upd H a o) h':=λb u e=>by
 have hn:=x.fresh hp
 by_cases hb:b=a
 ·subst hb;rw[zg]at e;cases e;exact new
 ·rw[zT hb]at e
  exact(x b u e).stay (λc v _ q=>k c v q) (λc q=>by rw[zT (zZ q hn)];exact q) λc xs q=>by rw[zT (zZ q hn)];exact q
end
def Rd (H:Hp) (a:Addr) (u:HO):Prop:=H a=some u\/∃o,H a=some (.frz o u)
def Rd.ok {P:Program}{w:World}{H:Hp}{h:Heap}{a:Addr}{u:HO}(r:Rd H a u) (x:HOk P w H h):xP P w H h a u:=by
 rcases r with r | ⟨o,r⟩
 ·exact x a u r
 ·obtain⟨_,q⟩:=x a _ r
  exact q
def Mut:Option HO->Prop
 |some (.lst _)=>True
 |some (.dK _)=>True
 |some (.dT _)=>True
 |some (.set _ _)=>True
 |some (.ins _ _ _)=>True
 |some (.ext _)=>True
 |_=>False
section
variable {P:Program}{w:World}{H:Hp}{h h':Heap}{x e:Addr}{o':HO}
theorem HOk.write (ok:HOk P w H h) (mu:Mut (H x)) (he:e=x\/H e=some (.own x)) (k:∀b u,b≠e->h.get? b=some u->h'.get? b=some u) (heo:∃u,h'.get? e=some u)
  (new:xP P w (upd H x o') h' x o'):HOk P w (upd H x o') h':=λb u q=>by
 have nown:∀c y,H c=some (.own y)->c≠x:=λc y r z=>by subst z;rw[r]at mu;exact mu
 have ntup:∀c xs,H c=some (.tup xs)->c≠x:=λc xs r z=>by subst z;rw[r]at mu;exact mu
 by_cases hb:b=x
 ·subst hb;rw[zg]at q;cases q;exact new
 ·rw[zT hb]at q
  by_cases hbe:b=e
  ·have q':H b=some (.own x):=by
    rcases he with z | z
    ·exact absurd (hbe.trans z) hb
    ·rw[hbe];exact z
   rw[q]at q';cases q'
   obtain⟨v,hv⟩:=heo
   exact⟨v,by rw[hbe];exact hv⟩
  ·refine(ok b u q).stay (λc v hc r=>k c v ?_ r) (λc r=>by rw[zT (nown c b r)];exact r) λc xs r=>by rw[zT (ntup c xs r)];exact r
   rcases hc with rfl | hc
   ·exact hbe
   ·rintro rfl
    rcases he with z | z
    ·exact nown c b hc z
    ·rw[hc]at z;cases z;exact hb rfl
end
structure Un (fs ex:List Addr) (H H':Hp) (h h':Heap):Prop where
 keep:∀b o,h.get? b=some o->H b=none->b∉fs->b∉ex->h'.get? b=some o
 slot:∀b o,h.get? b=some o->H b=none->b∈fs->b∉ex->∃sl,h'.get? b=some { o with slots:=sl }
 free:∀b o,h.get? b=some o->H b=none->b∉ex->H' b=none
 there:∀b o,h.get? b=some o->b∉ex->∃o',h'.get? b=some o'
 tups:∀b xs,H b=some (.tup xs)->H' b=some (.tup xs)
 frzs:∀b o u,H b=some (.frz o u)->H' b=some (.frz o u)
 tbls:∀b ps,H b=some (.tbl ps)->∃more,H' b=some (.tbl (ps++more))
section
variable {fs fs' ex ex':List Addr}{H H1 H2:Hp}{h h1 h2 h':Heap}{a x e:Addr}{o:HO}
theorem Un.any (u:Un fs ex H H1 h h1){b:Addr}{ob:Obj}(q:h.get? b=some ob) (n:H b=none) (hx:b∉ex):∃sl,h1.get? b=some { ob with slots:=sl }:=by
 by_cases hb:b∈fs
 ·exact u.slot b ob q n hb hx
 ·exact⟨ob.slots,u.keep b ob q n hb hx⟩
theorem Un.kept (k:∀b u,h.get? b=some u->h'.get? b=some u):Un fs ex H H h h' :=
 ⟨λb ob q _ _ _=>k b ob q,λb ob q _ _ _=>⟨ob.slots,k b ob q⟩,λ_ _ _ n _=>n,λb ob q _=>⟨ob,k b ob q⟩,λ_ _ q=>q,λ_ _ _ q=>q,λ_ ps q=>⟨#[],by rw[q];simp⟩⟩
theorem Un.refl:Un fs ex H H h h:=Un.kept λ_ _ q=>q
theorem Un.laid (k:∀b u,h.get? b=some u->h'.get? b=some u) (hp:h.objs.size<=a) (hn:H a=none):Un fs ex H (upd H a o) h h' where
 keep:=λb u q _ _ _=>k b u q
 slot:=λb u q _ _ _=>⟨u.slots,k b u q⟩
 free:=λb u q n _=>by rw[zT (wZ (w4 (wF q) hp))];exact n
 there:=λb u q _=>⟨u,k b u q⟩
 tups:=λb xs q=>by rw[zT (zZ q hn)];exact q
 frzs:=λb u xs q=>by rw[zT (zZ q hn)];exact q
 tbls:=λb ps q=>⟨#[],by rw[zT (zZ q hn),q];simp⟩
theorem Un.write (mu:Mut (H x)) (he:e=x\/H e=some (.own x)) (k:∀b u,b≠e->h.get? b=some u->h'.get? b=some u) (heo:∃u,h'.get? e=some u):Un fs ex H (upd H x o) h h':=by
 have hx:∀b,H b=none->b≠x:=λb n z=>by subst z;rw[n]at mu;exact mu
 have hb:∀b,H b=none->b≠e:=λb n z=>by
  subst z
  rcases he with r | r
  ·exact hx b n r
  ·rw[n]at r;cases r
 have hm:∀b u,H b=some u->¬Mut (some u)->b≠x:=λb u q nm z=>by subst z;rw[q]at mu;exact nm mu
 refine⟨λb u q n _ _=>k b u (hb b n) q,λb u q n _ _=>⟨u.slots,k b u (hb b n) q⟩,λb u q n _=>by rw[zT (hx b n)];exact n,λb u q _=>?_,
  λb xs q=>by rw[zT (hm b _ q λz=>z)];exact q,λb u xs q=>by rw[zT (hm b _ q λz=>z)];exact q,λb ps q=>⟨#[],by rw[zT (hm b _ q λz=>z),q];simp⟩⟩
 by_cases hbe:b=e
 ·subst hbe;exact heo
 ·exact⟨u,k b u hbe q⟩
end
def trk (h:Heap) (H:Hp):List Addr:=(List.range h.objs.size).filter λa=>(H a).isSome
def JT (h:Heap) (H:Hp):Heap:=PySem.W.hideAll h (trk h H)
def zc4 (h:Heap) (H:Hp):(JT h H).objs.size=h.objs.size:=PySem.W.hideAll_size _ _
def zef {h:Heap}{H:Hp}{b:Addr}{o:Obj}(e:h.get? b=some o) (n:H b=none):(JT h H).get? b=some o :=
 PySem.W.hideAll_get _ e λhm=>by
  have q:(H b).isSome=true:=(yr.mp hm).2
  rw[n]at q;simp at q
def zgu {h:Heap}{H:Hp}{b:Addr}{o:Obj}(e:(JT h H).get? b=some o):h.get? b=some o/\H b=none:=by
 have e':h.get? b=some o:=PySem.W.of_hideAll (trk h H) e
 refine⟨e',?_⟩
 cases q:H b with
 |none=>rfl
 |some x =>
  have hm:b∈trk h H:=yr.mpr ⟨Wd.mpr (wF e'),by simp[q]⟩
  have z:(JT h H).get? b=none:=PySem.W.hideAll_none (trk h H) hm
  rw[z]at e;cases e
structure Mod (K:Fg) (mg:Str->Option Value) (base:Heap):Prop where
 kin:K.In base
 glob:base.Ns mainGlobals mg
 blt:∃mb,base.Ns builtinsNs mb/\∀x:Str,x≠"__name__"->mb x=bootBuiltins x
 nolimit:base.NoLimit
structure Cx where
 prog:Program
 w:World
 K:Fg
 mg:Str->Option Value
 base:Heap
 A:Around
 N:List Str
 s₀:Shared
 H₀:Hp
 env:Env
 outer:List Env
 stack:List Env
 ex:List Addr
 fn:Str->Bool
 calm:Bool
 pn:List (Addr×Obj)
 xe:Value->Shared->Prop
def frs (l:List Env):List Addr:=l.filterMap (·.frame)
abbrev Cx.fs (X:Cx):List Addr:=frs X.outer
def Vis (sc:Scope) (x:Str):Prop:=sc.names.lookup x=some .local ∨ sc.names.lookup x=some .cell\/sc.names.lookup x=some .free
def Loc (sc:Scope) (x:Str):Prop:=sc.names.lookup x=some .local ∨ sc.names.lookup x=some .cell
def Look (env:Env) (h:Heap) (m:Str->Option Value) (x:Str) (u:Value):Prop :=
 (env.kindOf x=some .local ∧ m x=some u)\/((env.kindOf x=some .cell\/env.kindOf x=some .free)/\∃c,env.cells.lookup x=some c/\h.IsCell c (some u))
structure Cx.Ok (X:Cx):Prop where
 mod:Mod X.K X.mg X.base
 kind:X.env.scope.kind=.function
 glob:X.env.globals=mainGlobals
 blt:X.env.builtins=builtinsNs
 above:X.s₀.heap.objs.size<=X.env.locals
 inj:∀x y c,X.env.cells.lookup x=some c->X.env.cells.lookup y=some c->x=y
 has:∀x,(X.env.kindOf x=some .cell\/X.env.kindOf x=some .free)->∃c,X.env.cells.lookup x=some c
 cab:∀x c,X.fn x=true->X.env.cells.lookup x=some c->X.s₀.heap.objs.size<=c
 hd:X.calm=true->X.A.handled=none
 frames:X.A.frames=some X.stack
 stk:X.stack=X.outer\/(X.stack=X.env::X.outer/\X.env.frame=some X.env.locals)
 exf:∀b∈X.ex,b≠X.env.locals/\∀x c,X.env.cells.lookup x=some c->c≠b
 bs:∀b o,X.base.get? b=some o->X.s₀.heap.get? b=some o/\X.H₀ b=none
 bsz:X.base.objs.size<=X.s₀.heap.objs.size
 noex:∀b o,X.base.get? b=some o->b∉X.ex
 exfs:∀b∈X.ex,b∉X.fs
 funs:X.s₀.heap.FunFrames X.base X.outer
 frf:∀b∈X.fs,X.H₀ b=none
structure Inv (X:Cx) (pz:List (Addr×Obj)) (σ:List (Option V)) (H:Hp) (s:Shared):Prop where
 ok:X.Ok
 os:s.os=X.s₀.os
 bare:AllBare s.gens
 base:Un X.fs X.ex X.H₀ H X.s₀.heap s.heap
 loc:∃m,s.heap.Ns X.env.locals m/\∀(i:Nat) (x:Str) (v:V),X.N[i]?=some x->σ[i]?=some (some v)->Vis X.env.scope x->∃u,xl v u/\Look X.env s.heap m x u
 cell:∀x c,X.env.cells.lookup x=some c->∃v,s.heap.IsCell c v
 free:H X.env.locals=none
 freeC:∀x c,X.env.cells.lookup x=some c->H c=none
 pin:∀p∈X.pn++pz,s.heap.get? p.1=some p.2/\H p.1=none/\p.1≠X.env.locals/\p.1∉X.fs/\∀v,p.2.data≠.cell v
 hok:HOk X.prog X.w H s.heap
 len:σ.length=X.N.length
section
variable {X:Cx}{pz:List (Addr×Obj)}{σ:List (Option V)}{H H':Hp}{s:Shared}{h':Heap}
theorem Cx.Ok.nofr (ok:X.Ok){b:Addr}{o:Obj}(e:X.base.get? b=some o):b∉X.fs:=λhb=>by
 have:=(ok.funs.mem hb).1
 rw[e]at this;cases this
theorem Inv.bs (I:Inv X pz σ H s):∀b o,X.base.get? b=some o->s.heap.get? b=some o/\H b=none:=λb o e =>
 ⟨I.base.keep b o (I.ok.bs b o e).1 (I.ok.bs b o e).2 (I.ok.nofr e) (I.ok.noex b o e),I.base.free b o (I.ok.bs b o e).1 (I.ok.bs b o e).2 (I.ok.noex b o e)⟩
theorem Inv.bk (I:Inv X pz σ H s):∀b o,X.base.get? b=some o->s.heap.get? b=some o:=λb o e=>(I.bs b o e).1
theorem Inv.mod (I:Inv X pz σ H s):Mod X.K X.mg X.base:=I.ok.mod
theorem Inv.kIn (I:Inv X pz σ H s):X.K.In s.heap:=I.ok.mod.kin.keeps I.bk
theorem Inv.lt (I:Inv X pz σ H s):X.env.locals<s.heap.objs.size:=let ⟨_,hn,_⟩:=I.loc;hn.lt
theorem Inv.sz (I:Inv X pz σ H s):X.s₀.heap.objs.size<=s.heap.objs.size:=yJ I.ok.above (Yn I.lt)
theorem Inv.nofs (I:Inv X pz σ H s){a:Addr}(h:s.heap.objs.size<=a):a∉X.fs:=λhb=>by
 obtain⟨_,o,ho,_⟩:=I.ok.funs.mem hb
 exact absurd (w4 (wF ho) (yJ I.sz h)) (uF _)
theorem Inv.cne (I:Inv X pz σ H s):∀x c,X.env.cells.lookup x=some c->c≠X.env.locals:=λx c e z=>by
 obtain⟨v,o,ho,hd⟩:=I.cell x c e
 obtain⟨m,⟨o',es,ep,ho',hd',_⟩,_⟩:=I.loc
 rw[z,ho']at ho;cases ho;rw[hd']at hd;cases hd
theorem Inv.funs (I:Inv X pz σ H s):s.heap.FunFrames X.base X.outer:=by
 have all:∀(l:List Env),(∀b∈frs l,b∈X.fs)->X.s₀.heap.FunFrames X.base l->s.heap.FunFrames X.base l:=by
  intro l
  induction l with
  |nil=>intro _ _;trivial
  |cons env r ih =>
   intro hs hl
   obtain⟨hk,⟨L,o,hf,hn,ho,hd⟩,hr⟩:=hl
   have hL:L∈X.fs:=hs L (by unfold frs;rw[Yg,hf];exact wB)
   obtain⟨sl,e⟩:=I.base.slot L o ho (I.ok.frf L hL) hL λz=>I.ok.exfs L z hL
   exact⟨hk,⟨L,_,hf,hn,e,hd⟩,ih (λb hb=>hs b (by unfold frs;rw[Yg,hf];exact wR _ hb)) hr⟩
 exact all X.outer (λ_ hb=>hb) I.ok.funs
theorem Inv.stack (I:Inv X pz σ H s):s.heap.FunFrames X.base X.stack:=by
 rcases I.ok.stk with e | ⟨e,hf⟩
 ·rw[e];exact I.funs
 ·rw[e]
  obtain⟨m,hn,_⟩:=I.loc
  refine .cons (by rw[I.ok.kind];decide) hf hn ?_ I.funs
  exact Heap.get?_none_of_le (yJ I.ok.bsz I.ok.above)
theorem Inv.stkSub (I:Inv X pz σ H s):∀b∈frs X.stack,b∈X.env.locals::X.fs:=λb hb=>by
 rcases I.ok.stk with e | ⟨e,hf⟩
 ·rw[e]at hb;exact wR _ hb
 ·rw[e]at hb
  unfold frs at hb
  rw[Yg,hf]at hb
  exact hb
theorem Inv.stkFree (I:Inv X pz σ H s):∀b∈frs X.stack,H b=none:=λb hb=>by
 rcases ww.mp (I.stkSub b hb)with e | hb
 ·rw[e];exact I.free
 ·obtain⟨_,o,ho,_⟩:=I.ok.funs.mem hb
  exact I.base.free b o ho (I.ok.frf b hb) λz=>I.ok.exfs b z hb
theorem Inv.step {g':Array GenState}{t':Nat}{d':Drawn}{ch:List Addr}(I:Inv X pz σ H s)
  (hch:∀b∈ch,(b∈X.ex\/X.s₀.heap.objs.size<=b)/\b≠X.env.locals/\(∀x c,X.env.cells.lookup x=some c->c≠b)/\∀p∈X.pn++pz,p.1≠b)
  (keep:∀b o,b≠X.env.locals->b∉X.fs->b∉ch->s.heap.get? b=some o->H b=none->h'.get? b=some o)
  (slot:∀b o,b≠X.env.locals->b∈X.fs->b∉ch->s.heap.get? b=some o->H b=none->∃sl,h'.get? b=some { o with slots:=sl }) (free:∀b o,b∉ch->s.heap.get? b=some o->H b=none->H' b=none)
  (there:∀b o,b∉ch->s.heap.get? b=some o->∃o',h'.get? b=some o')
  (tups:∀b xs,H b=some (.tup xs)->H' b=some (.tup xs)) (frzs:∀b o u,H b=some (.frz o u)->H' b=some (.frz o u)) (tbls:∀b ps,H b=some (.tbl ps)->∃more,H' b=some (.tbl (ps++more)))
  (ns:∀m,s.heap.Ns X.env.locals m->h'.Ns X.env.locals m) (hok:HOk X.prog X.w H' h') (hg:AllBare g') :
  Inv X pz σ H' { s with heap:=h',gens:=g',drawn:=d',toks:=t' }:=by
 have neL:∀b o,X.s₀.heap.get? b=some o->b≠X.env.locals:=λb o e=>wZ (w4 (wF e) I.ok.above)
 have neC:∀b o,X.s₀.heap.get? b=some o->b∉X.ex->b∉ch:=λb o e hx hb=>by
  rcases(hch b hb).1 with z | z
  ·exact hx z
  ·exact absurd (w4 (wF e) z) (uF _)
 have cellK:∀x c,X.env.cells.lookup x=some c->∀v,s.heap.IsCell c v->h'.IsCell c v:=λx c e v ⟨o,ho,hd⟩=>by
  have nch:c∉ch:=λz=>(hch c z).2.2.1 x c e rfl
  by_cases hc:c∈X.fs
  ·obtain⟨sl,q⟩:=slot c o (I.cne x c e) hc nch ho (I.freeC x c e)
   exact⟨_,q,hd⟩
  ·exact⟨o,keep c o (I.cne x c e) hc nch ho (I.freeC x c e),hd⟩
 refine⟨I.ok,I.os,hg,⟨λb o e n hb hx=>?_,λb o e n hb hx=>?_,λb o e n hx=>?_,λb o e hx=>?_,λb xs e=>tups b xs (I.base.tups b xs e),λb o xs e=>frzs b o xs (I.base.frzs b o xs e),λb ps e=>?_⟩,?_,λx c e=>?_,?_,λx c e=>?_,λp hp=>?_,hok,I.len⟩
 ·exact keep b o (neL b o e) hb (neC b o e hx) (I.base.keep b o e n hb hx) (I.base.free b o e n hx)
 ·obtain⟨sl,e1⟩:=I.base.slot b o e n hb hx
  obtain⟨sl',e2⟩:=slot b _ (neL b o e) hb (neC b o e hx) e1 (I.base.free b o e n hx)
  exact⟨sl',e2⟩
 ·obtain⟨o',e1⟩:=I.base.there b o e hx
  exact free b o' (neC b o e hx) e1 (I.base.free b o e n hx)
 ·obtain⟨o',e1⟩:=I.base.there b o e hx
  exact there b o' (neC b o e hx) e1
 ·obtain⟨m1,e1⟩:=I.base.tbls b ps e
  obtain⟨m2,e2⟩:=tbls b _ e1
  exact⟨m1++m2,by rw[e2,WH]⟩
 ·obtain⟨m,hn,hl⟩:=I.loc
  refine⟨m,ns m hn,λi x v e1 e2 e3=>?_⟩
  obtain⟨u,r,l⟩:=hl i x v e1 e2 e3
  refine⟨u,r,?_⟩
  rcases l with l | ⟨k,c,e,z⟩
  ·exact .inl l
  ·exact .inr ⟨k,c,e,cellK x c e _ z⟩
 ·obtain⟨v,z⟩:=I.cell x c e
  exact⟨v,cellK x c e v z⟩
 ·obtain⟨m,⟨o,_,_,ho,_⟩,_⟩:=I.loc
  exact free _ o (λz=>(hch _ z).2.1 rL) ho I.free
 ·obtain⟨v,o,ho,hd⟩:=I.cell x c e
  exact free c o (λz=>(hch c z).2.2.1 x c e rL) ho (I.freeC x c e)
 ·obtain⟨e,n,ne,nf,d⟩:=I.pin p hp
  have nch:p.1∉ch:=λz=>(hch p.1 z).2.2.2 p hp rfl
  exact⟨keep p.1 p.2 ne nf nch e n,free p.1 p.2 nch e n,ne,nf,d⟩
theorem Inv.un {t':Nat}(I:Inv X pz σ H s) (u:Un X.fs [] H H' s.heap h') (hok:HOk X.prog X.w H' h'):Inv X pz σ H' { s with heap:=h',toks:=t' }:=by
 obtain⟨m,⟨o,es,ep,ho,r⟩,_⟩:=id I.loc
 obtain⟨sl,hL⟩:=u.any ho I.free (by simp)
 exact I.step (g':=s.gens) (d':=s.drawn) (ch:=[]) (λ_ z=>nomatch z) (λb o _ hb _ e n=>u.keep b o e n hb (by simp)) (λb o _ hb _ e n=>u.slot b o e n hb (by simp)) (λb o _ e n=>u.free b o e n (by simp)) (λb o _ e=>u.there b o e (by simp)) u.tups u.frzs u.tbls (λm' hm=>by
  obtain⟨o',es',ep',ho',r'⟩:=hm
  rw[ho]at ho';cases ho'
  exact⟨_,es',ep',hL,r'⟩) hok I.bare
theorem Inv.call {g':Array GenState}{t':Nat}{d':Drawn}{ch:List Addr}(I:Inv X pz σ H s) (u:Un (frs X.stack) ch H H' s.heap h') (hok:HOk X.prog X.w H' h') (hg:AllBare g')
  (hch:∀b∈ch,(b∈X.ex\/X.s₀.heap.objs.size<=b)/\b≠X.env.locals/\(∀x c,X.env.cells.lookup x=some c->c≠b)/\∀p∈X.pn++pz,p.1≠b) :
  Inv X pz σ H' { s with heap:=h',gens:=g',drawn:=d',toks:=t' }:=by
 obtain⟨m,⟨o,es,ep,ho,r⟩,_⟩:=id I.loc
 obtain⟨sl,hL⟩:=u.any ho I.free λz=>(hch _ z).2.1 rfl
 exact I.step (ch:=ch) hch (λb o hL hb hc e n=>u.keep b o e n (λz=>(ww.mp (I.stkSub b z)).elim hL hb) hc) (λb o _ _ hc e n=>u.any e n hc) (λb o hc e n=>u.free b o e n hc) (λb o hc e=>u.there b o e hc) u.tups u.frzs u.tbls (λm' hm=>by
  obtain⟨o',es',ep',ho',r'⟩:=hm
  rw[ho]at ho';cases ho'
  exact⟨_,es',ep',hL,r'⟩) hok hg
theorem Inv.turned {t':Nat}{it:Addr}(I:Inv X pz σ H s) (k:∀b o,b≠it->s.heap.get? b=some o->h'.get? b=some o) (hn:H it=none) (hL:it≠X.env.locals)
  (h1:it∈X.ex\/X.s₀.heap.objs.size<=it) (h2:∀x c,X.env.cells.lookup x=some c->c≠it) (h3:∀p∈X.pn++pz,p.1≠it):Inv X pz σ H { s with heap:=h',toks:=t' }:=by
 have nit:∀b u,H b=some u->b≠it:=λb u e z=>by rw[z,hn]at e;cases e
 refine I.step (g':=s.gens) (d':=s.drawn) (ch:=[it]) (λb hb=>?_) (λb o _ _ hc e _=>k b o (λz=>hc (by simp[z])) e) (λb o _ _ hc e _=>⟨o.slots,k b o (λz=>hc (by simp[z])) e⟩) (λ_ _ _ _ n=>n)
  (λb o hc e=>⟨o,k b o (λz=>hc (by simp[z])) e⟩) (λ_ _ e=>e) (λ_ _ _ e=>e) (λb ps e=>⟨#[],by rw[e];simp⟩) (λm hm=>?_) (λb u e=>?_) I.bare
 ·have e:b=it:=↥hb
  subst e
  exact⟨h1,hL,h2,h3⟩
 ·obtain⟨o,es,ep,ho,r⟩:=hm
  exact⟨o,es,ep,k _ o (Ne.symm hL) ho,r⟩
 ·refine(I.hok b u e).stay (λc v hc q=>k c v ?_ q) (λ_ q=>q) λ_ _ q=>q
  rcases hc with z | z
  ·rw[z];exact nit b u e
  ·exact nit c _ z
theorem Inv.tok (I:Inv X pz σ H s) (t:Nat):Inv X pz σ H { s with toks:=t }:=I.un (h':=s.heap) (t':=t) Un.refl I.hok
theorem Inv.kept {t':Nat}(I:Inv X pz σ H s) (k:∀b u,s.heap.get? b=some u->h'.get? b=some u):Inv X pz σ H { s with heap:=h',toks:=t' }:=I.un (Un.kept k) (I.hok.kept k)
theorem Inv.laid {a:Addr}{o:HO}{t':Nat}(I:Inv X pz σ H s) (k:∀b u,s.heap.get? b=some u->h'.get? b=some u) (hp:s.heap.objs.size<=a) (new:xP X.prog X.w (upd H a o) h' a o) :
  Inv X pz σ (upd H a o) { s with heap:=h',toks:=t' }:=I.un (Un.laid k hp (I.hok.fresh hp)) (I.hok.laid k hp new)
theorem Inv.write {x e:Addr}{o:HO}{t':Nat}(I:Inv X pz σ H s) (mu:Mut (H x)) (he:e=x\/H e=some (.own x)) (k:∀b u,b≠e->s.heap.get? b=some u->h'.get? b=some u) (heo:∃u,h'.get? e=some u)
  (new:xP X.prog X.w (upd H x o) h' x o):Inv X pz σ (upd H x o) { s with heap:=h',toks:=t' }:=I.un (Un.write mu he k heo) (I.hok.write mu he k heo new)
theorem Inv.pins_of {pz':List (Addr×Obj)} (I:Inv X pz σ H s) (h:∀p∈pz',s.heap.get? p.1=some p.2/\H p.1=none/\p.1≠X.env.locals/\p.1∉X.fs/\∀v,p.2.data≠.cell v):Inv X pz' σ H s :=
 ⟨I.ok,I.os,I.bare,I.base,I.loc,I.cell,I.free,I.freeC,λp hp=>(wY.mp hp).elim (λz=>I.pin p (Ww _ z)) (h p),I.hok,I.len⟩
theorem zaN {N:List Str}(hN:N.Nodup){i j:Nat}{x:Str}(a:N[i]?=some x) (b:N[j]?=some x):i=j:=by
 obtain⟨h1,e1⟩:=wS.mp a
 obtain⟨h2,e2⟩:=wS.mp b
 exact(List.getElem_inj hN).mp (e1.trans e2.symm)
theorem Jw {M:Model}{A:Around}{E:Value->Shared->Prop}{i:Nat}{x:Str}{v:V}{u:Value}{Q:Unit->Shared->Prop}(I:Inv X pz σ H s) (hN:X.N.Nodup) (hi:X.N[i]?=some x) (hx:Loc X.env.scope x) (r:xl v u)
  (h:∀s',Inv X pz (σ.set i (some v)) H s'->(∃a,Heap.SameBut a s.heap s'.heap/\(a=X.env.locals\/X.env.cells.lookup x=some a))->Q () s') (hf:X.fn x=true\/X.env.scope.names.lookup x=some .local := by first | exact .inl rfl | exact .inr rfl | assumption):wpAny M A (storeName X.env x u) Q E s:=by
 obtain⟨m,hn,hl⟩:=id I.loc
 have hcls:(X.env.scope.kind == .class || (X.env.scope.kind == .module&&X.env.locals != X.env.globals))=false:=by rw[I.ok.kind];rfl
 have hiσ:i<σ.length:=by rw[I.len];exact(wS.mp hi).1
 have cne:=I.cne
 have tracked:∀{a:Addr}{h':Heap},(∃o,s.heap.get? a=some o/\H a=none)->Heap.SameBut a s.heap h'->HOk X.prog X.w H h':=λ{a h'} ha hs b ob e=>by
  obtain⟨_,_,hfree⟩:=ha
  refine(I.hok b ob e).stay (λc w' hc q=>(hs.2 c ?_).trans q) (λ_ q=>q) λ_ _ q=>q
  rintro rfl
  rcases hc with rfl | hc
  ·rw[hfree]at e;cases e
  ·rw[hfree]at hc;cases hc
 rcases hx with hk | hk
 ·refine wpAny_storeName_local hk hn (λh' hn' hs=>?_) hcls
  obtain⟨oL,_,_,hoL,_⟩:=id hn
  refine h _ ⟨I.ok,I.os,I.bare,⟨λb o e n hb hx=>?_,λb o e n hb hx=>?_,I.base.free,λb o e hx=>?_,I.base.tups,I.base.frzs,I.base.tbls⟩,⟨_,hn',λj y v' e1 e2 e3=>?_⟩,λy c e=>?_,I.free,I.freeC,λp hp=>?_,tracked ⟨oL,hoL,I.free⟩ hs,↥I.len⟩ ⟨_,hs,.inl rfl⟩
  ·exact(hs.2 b (wZ (w4 (wF e) I.ok.above))).trans (I.base.keep b o e n hb hx)
  ·obtain⟨sl,e1⟩:=I.base.slot b o e n hb hx
   exact⟨sl,(hs.2 b (wZ (w4 (wF e) I.ok.above))).trans e1⟩
  ·obtain⟨o',e1⟩:=I.base.there b o e hx
   exact⟨o',(hs.2 b (wZ (w4 (wF e) I.ok.above))).trans e1⟩
  ·by_cases hj:j=i
   ·subst hj
    rw[hi]at e1;cases e1
    rw[List.getElem?_set_self hiσ]at e2
    cases e2
    exact⟨u,r,.inl ⟨hk,by simp⟩⟩
   ·rw[List.getElem?_set_ne (Ne.symm hj)]at e2
    obtain⟨u',r',q⟩:=hl j y v' e1 e2 e3
    refine⟨u',r',?_⟩
    rcases q with⟨k,e⟩ | ⟨k,c,e,z⟩
    ·refine .inl ⟨k,?_⟩
     have:y≠x:=λe=>hj (zaN hN e1 (e ▸ hi))
     simp[this,e]
    ·exact .inr ⟨k,c,e,z.sameBut hs (cne y c e)⟩
  ·obtain⟨w',z⟩:=I.cell y c e
   exact⟨w',z.sameBut hs (cne y c e)⟩
  ·obtain⟨e,n,ne,nf,d⟩:=I.pin p hp
   exact⟨(hs.2 p.1 ne).trans e,n,ne,nf,d⟩
 ·have hfn:X.fn x=true:=by
   rcases hf with z | z
   ·exact z
   ·rw[z]at hk;cases hk
  obtain⟨c,hc⟩:=I.ok.has x (.inl hk)
  obtain⟨w',z⟩:=I.cell x c hc
  refine wpAny_storeName_cell I.ok.kind hk hc z (λh' hc' hs=>?_)
  obtain⟨oc,hoc,hocd⟩:=id z
  refine h { s with heap:=h' } ⟨I.ok,I.os,I.bare,⟨λb o e n hb hx=>?_,λb o e n hb hx=>?_,I.base.free,λb o e hx=>?_,I.base.tups,I.base.frzs,I.base.tbls⟩,⟨m,hn.sameBut hs (Ne.symm (cne x c hc)),λj y v' e1 e2 e3=>?_⟩,λy c' e=>?_,I.free,I.freeC,λp hp=>?_,tracked ⟨oc,hoc,I.freeC x c hc⟩ hs,↥I.len⟩ ⟨c,hs,.inr hc⟩
  ·exact(hs.2 b (wZ (w4 (wF e) (I.ok.cab x c hfn hc)))).trans (I.base.keep b o e n hb hx)
  ·obtain⟨sl,e1⟩:=I.base.slot b o e n hb hx
   exact⟨sl,(hs.2 b (wZ (w4 (wF e) (I.ok.cab x c hfn hc)))).trans e1⟩
  ·obtain⟨o',e1⟩:=I.base.there b o e hx
   exact⟨o',(hs.2 b (wZ (w4 (wF e) (I.ok.cab x c hfn hc)))).trans e1⟩
  ·by_cases hj:j=i
   ·subst hj
    rw[hi]at e1;cases e1
    rw[List.getElem?_set_self hiσ]at e2
    cases e2
    exact⟨u,r,.inr ⟨.inl hk,c,hc,hc'⟩⟩
   ·rw[List.getElem?_set_ne (Ne.symm hj)]at e2
    obtain⟨u',r',q⟩:=hl j y v' e1 e2 e3
    refine⟨u',r',?_⟩
    rcases q with q | ⟨k,c',e,z'⟩
    ·exact .inl q
    ·refine .inr ⟨k,c',e,z'.sameBut hs ?_⟩
     rintro rfl
     exact hj (zaN hN e1 (I.ok.inj _ _ _ e hc ▸ hi))
  ·by_cases hcc:c'=c
   ·subst hcc;exact⟨_,hc'⟩
   ·obtain⟨w2,z2⟩:=I.cell y c' e
    exact⟨w2,z2.sameBut hs hcc⟩
  ·obtain⟨e,n,ne,nf,d⟩:=I.pin p hp
   refine⟨(hs.2 p.1 ?_).trans e,n,ne,nf,d⟩
   intro q
   rw[q,hoc]at e
   have q':oc=p.2:=Option.some.inj e
   exact d w' (by rw[<-q'];exact hocd)
theorem Z5 {M:Model}{A:Around}{E:Value->Shared->Prop}{i:Nat}{x:Str}{v:V}{u:Value}{Q:Unit->Shared->Prop}(I:Inv X pz σ H s) (hN:X.N.Nodup) (hi:X.N[i]?=some x) (hx:Loc X.env.scope x) (r:xl v u)
  (h:∀s',Inv X pz (σ.set i (some v)) H s'->Q () s') (hf:X.fn x=true\/X.env.scope.names.lookup x=some .local := by first | exact .inl rfl | exact .inr rfl | assumption):wpAny M A (storeName X.env x u) Q E s :=
 Jw I hN hi hx r (λs' I' _=>h s' I') hf
theorem Inv.call' {s':Shared}{ch:List Addr}(I:Inv X pz σ H s) (ho:s'.os=s.os) (u:Un (frs X.stack) ch H H' s.heap s'.heap) (hok:HOk X.prog X.w H' s'.heap) (hg:AllBare s'.gens)
  (hch:∀b∈ch,(b∈X.ex\/X.s₀.heap.objs.size<=b)/\b≠X.env.locals/\(∀x c,X.env.cells.lookup x=some c->c≠b)/\∀p∈X.pn++pz,p.1≠b):Inv X pz σ H' s':=by
 obtain⟨h',g',d',t',o'⟩:=s'
 have e:o'=s.os:=ho
 subst e
 exact I.call (g':=g') (t':=t') (d':=d') u hok hg hch
end
abbrev XK:=Value->Option Addr->Hp->Prop
abbrev St:=List (Option V)
abbrev Sr (a:Addr):Option V:=some (.ref a)
abbrev Si (i:Int):Option V:=some (.int i)
abbrev VK:=V->Hp->Prop
abbrev TE:=St->Hp->VK->Prop
abbrev TT:=St->Hp->(Bool->Hp->Prop)->Prop
abbrev TA:=St->Hp->(List V->Hp->Prop)->Prop
structure ZF where
 nx:St->Hp->Prop
 rt:VK
 bk:St->Hp->Prop:=λ_ _=>False
 ct:St->Hp->Prop:=λ_ _=>False
abbrev TS:=ZF->St->Hp->Prop
def EP (X:Cx) (pz:List (Addr×Obj)) (σ:St) (Q:VK) (u:Value) (s':Shared):Prop:=∃v H',Inv X pz σ H' s'/\xl v u/\Q v H'
def TP (X:Cx) (pz:List (Addr×Obj)) (σ:St) (Q:Bool->Hp->Prop) (b:Bool) (s':Shared):Prop:=∃H',Inv X pz σ H' s'/\Q b H'
def AP (X:Cx) (pz:List (Addr×Obj)) (σ:St) (Q:List V->Hp->Prop) (us:List Value) (s':Shared):Prop:=∃vs H',Inv X pz σ H' s'/\z6 vs us/\Q vs H'
def SP (X:Cx) (pz:List (Addr×Obj)) (D:ZF) (f:Flow) (s':Shared):Prop :=
 match f with
 |.next=>∃σ' H',Inv X pz σ' H' s'/\D.nx σ' H'
 |.brk=>∃σ' H',Inv X pz σ' H' s'/\D.bk σ' H'
 |.cont=>∃σ' H',Inv X pz σ' H' s'/\D.ct σ' H'
 |.ret u=>∃v σ' H',Inv X pz σ' H' s'/\xl v u/\D.rt v H'
def PE (X:Cx) (e:Expr) (t:TE):Prop :=
 ∀(pz:List (Addr×Obj)) (s:Shared) (σ:St) (H:Hp) (Q:VK),Inv X pz σ H s->t σ H Q->wpAny (model X.prog X.w) X.A (eval e X.env) (EP X pz σ Q) X.xe s
def PT (X:Cx) (e:Expr) (t:TT):Prop :=
 ∀(pz:List (Addr×Obj)) (s:Shared) (σ:St) (H:Hp) (Q:Bool->Hp->Prop),Inv X pz σ H s->t σ H Q->wpAny (model X.prog X.w) X.A (isTrue e X.env (eval e X.env)) (TP X pz σ Q) X.xe s
def PW (X:Cx) (e:Expr) (t:TT):Prop :=
 ∀(whole:Sem Value) (pz:List (Addr×Obj)) (s:Shared) (σ:St) (H:Hp) (Q:Bool->Hp->Prop),Inv X pz σ H s->t σ H Q->wpAny (model X.prog X.w) X.A (isTrue e X.env whole) (TP X pz σ Q) X.xe s
def PW.pt {X:Cx}{e:Expr}{t:TT}(h:PW X e t):PT X e t:=h _
def PA (X:Cx) (es:List Expr) (t:TA):Prop :=
 ∀(pos:Pos) (pz:List (Addr×Obj)) (s:Shared) (σ:St) (H:Hp) (Q:List V->Hp->Prop),Inv X pz σ H s->t σ H Q->wpAny (model X.prog X.w) X.A (spliced (backTo pos (starEach es X.env))) (AP X pz σ Q) X.xe s
def PS (X:Cx) (st:Stmt) (t:TS):Prop :=
 ∀(pz:List (Addr×Obj)) (s:Shared) (σ:St) (H:Hp) (D:ZF),Inv X pz σ H s->t D σ H->wpAny (model X.prog X.w) X.A (exec st X.env) (SP X pz D) X.xe s
def PSs (X:Cx) (st:List Stmt) (t:TS):Prop :=
 ∀(pz:List (Addr×Obj)) (s:Shared) (σ:St) (H:Hp) (D:ZF),Inv X pz σ H s->t D σ H->wpAny (model X.prog X.w) X.A (execs st X.env) (SP X pz D) X.xe s
def thn {α:Type}{t:Sem α}{Q Q':α->Shared->Prop}{M:Model}{A:Around}{E:Value->Shared->Prop}{s:Shared}(h:wpAny M A t Q E s) (hQ:∀a s,Q a s->Q' a s):wpAny M A t Q' E s:=uj h hQ λ_ _ x=>x
section
variable {X:Cx}
inductive zhR (i:Nat) (σ:St) (H:Hp) (Q:VK):Prop
 |mk:∀v,(σ[i]?=some (some v))->(Q v H)->zhR i σ H Q
def xw (i:Nat):TE:=λσ H Q=>zhR i σ H Q
def tC (v:V):TE:=λ_ H Q=>Q v H
theorem ziP {i:Nat}{x:Str}{pos:Pos}(hN:X.N[i]?=some x) (hv:Vis X.env.scope x) (hd:(x == ("__debug__":Str))=false:=by decide) (hcd:(x == ("__classdict__":Str))=false:=by decide):PE X (.Name x pos) (xw i):=by
 intro pz s σ H Q I h
 obtain⟨v,e,h⟩:=h
 obtain⟨m,hn,hl⟩:=I.loc
 obtain⟨u,r,l⟩:=hl i x v hN e hv
 have fin:EP X pz σ Q u s:=⟨v,H,I,r,h⟩
 rcases l with⟨hk,hm⟩ | ⟨hk,c,hc,hcell⟩
 ·exact wpAny_Name (wpAny_loadName_local I.ok.kind hk hn hm fin) hd
 ·rcases hk with hk | hk
  ·exact wpAny_Name (wpAny_loadName_cell I.ok.kind hk hc hcell fin) hd
  ·exact wpAny_Name (wpAny_loadName_free I.ok.kind hk hc hcell fin hcd) hd
theorem zi {i j pos}:PE X (.Constant (.int i) j pos) (tC (.int i)):=λ_ _ _ H _ I h=>wpAny_Constant_int ⟨.int i,H,I.tok _,⟨_,rfl⟩,h⟩
theorem VC {b j pos}:PE X (.Constant (.bool b) j pos) (tC (.bl b)):=λ_ _ _ H _ I h=>Constant_bool ⟨.bl b,H,I,rfl,h⟩
theorem xB {j pos}:PE X (.Constant .none j pos) (tC .non):=λ_ _ _ H _ I h=>Constant_none ⟨.non,H,I,rfl,h⟩
theorem Zq {x j pos}:PE X (.Constant (.str x) j pos) (tC (.str x)):=λ_ _ _ H _ I h=>Calls.Constant_str ⟨.str x,H,I.tok _,⟨_,rfl⟩,h⟩
def Gl (X:Cx) (x:Str):Prop:=X.env.kindOf x=some .globalImplicit
theorem Qf {E:Value->Shared->Prop}{pz:List (Addr×Obj)}{s:Shared}{σ:St}{H:Hp}{x:Str}{u:Value}{pos:Pos}{Q:Value->Shared->Prop}(I:Inv X pz σ H s) (hg:Gl X x) (hm:X.mg x=some u) (h:Q u s)
  (hd:(x == ("__debug__":Str))=false:=by decide):wpAny (model X.prog X.w) X.A (eval (.Name x pos) X.env) Q E s :=
 Calls.Name_function_global I.ok.kind hg (Calls.loadGlobal_global (by rw[I.ok.glob];exact I.mod.glob.keeps I.bk) hm h) hd
theorem Zo {E:Value->Shared->Prop}{pz:List (Addr×Obj)}{s:Shared}{σ:St}{H:Hp}{x:Str}{u:Value}{pos:Pos}{Q:Value->Shared->Prop}(I:Inv X pz σ H s) (hg:Gl X x) (hm:X.mg x=none) (hv:bootBuiltins x=some u) (h:Q u s)
  (hn:x≠"__name__":=by decide) (hd:(x == ("__debug__":Str))=false:=by decide):wpAny (model X.prog X.w) X.A (eval (.Name x pos) X.env) Q E s:=by
 obtain⟨mb,h1,h2⟩:=I.mod.blt
 exact Calls.Name_function_global I.ok.kind hg (Calls.loadGlobal_builtin (by rw[I.ok.glob];exact I.mod.glob.keeps I.bk) hm (by rw[I.ok.blt];exact h1.keeps I.bk) ((h2 x hn).trans hv) h) hd
theorem J5 {x:Str}{v:V}{u:Value}{pos:Pos}(hg:Gl X x) (hm:X.mg x=some u) (r:xl v u) (hd:(x == ("__debug__":Str))=false:=by decide):PE X (.Name x pos) (tC v) :=
 λ_ _ _ H _ I h=>Qf I hg hm ⟨v,H,I,r,h⟩ hd
theorem Ve {x:Str}{v:V}{u:Value}{pos:Pos}(hg:Gl X x) (hm:X.mg x=none) (hv:bootBuiltins x=some u) (r:xl v u) (hn:x≠"__name__":=by decide) (hd:(x == ("__debug__":Str))=false:=by decide):PE X (.Name x pos) (tC v) :=
 λ_ _ _ H _ I h=>Zo I hg hm hv ⟨v,H,I,r,h⟩ hn hd
variable {a b:Expr}{ta tb:TE}{pos:Pos}
variable {tA tB':TT}{rest:List Expr}
def tAnd (t u:TT):TT:=λσ H Q=>t σ H λc H1=>if c=true then u σ H1 Q else Q false H1
def tOr (t u:TT):TT:=λσ H Q=>t σ H λc H1=>if c=true then Q true H1 else u σ H1 Q
def zkJ (t:TT):TT:=λσ H Q=>t σ H λc H1=>Q (!c) H1
theorem jR (ha:PT X a tA):PW X (.BoolOp .And [a] pos) tA:=by
 intro wh pz s σ H Q I h
 refine isTrue_and (thn (ha pz s σ H Q I h) λc s1 e=>?_)
 cases c with
 |true=>exact isTrue_and_nil e
 |false=>exact e
theorem Xz (ha:PT X a tA):PW X (.BoolOp .Or [a] pos) tA:=by
 intro wh pz s σ H Q I h
 refine isTrue_or (thn (ha pz s σ H Q I h) λc s1 e=>?_)
 cases c with
 |false=>exact isTrue_or_nil e
 |true=>exact e
theorem ZT (ha:PT X a tA) (hb:PW X (.BoolOp .And (b::rest) pos) tB'):PW X (.BoolOp .And (a::b::rest) pos) (tAnd tA tB'):=by
 intro wh pz s σ H Q I h
 refine isTrue_and (thn (ha pz s σ H _ I h) λc s1 ⟨H1,I1,q1⟩=>?_)
 cases c with
 |true=>exact hb wh pz s1 σ H1 Q I1 q1
 |false=>exact⟨H1,I1,q1⟩
theorem Ql (ha:PT X a tA) (hb:PW X (.BoolOp .Or (b::rest) pos) tB'):PW X (.BoolOp .Or (a::b::rest) pos) (tOr tA tB'):=by
 intro wh pz s σ H Q I h
 refine isTrue_or (thn (ha pz s σ H _ I h) λc s1 ⟨H1,I1,q1⟩=>?_)
 cases c with
 |true=>exact⟨H1,I1,q1⟩
 |false=>exact hb wh pz s1 σ H1 Q I1 q1
theorem Zs (ha:PT X a tA):PT X (.UnaryOp .Not a pos) (zkJ tA):=by
 intro pz s σ H Q I h
 exact isTrue_not (ha pz s σ H (λc H1=>Q (!c) H1) I h)
inductive zfE (tb:TE) (σ:St) (Q:VK) (x:V) (H1:Hp):Prop
 |mk:∀c,(x=.bl c)->(if c=true then tb σ H1 Q else Q (.bl false) H1)->zfE tb σ Q x H1
def zkD (ta tb:TE):TE:=λσ H Q=>ta σ H λx H1=>zfE tb σ Q x H1
inductive zhP (tb:TE) (σ:St) (Q:VK) (x:V) (H1:Hp):Prop
 |mk:∀c,(x=.bl c)->(if c=true then Q (.bl true) H1 else tb σ H1 Q)->zhP tb σ Q x H1
def zjy (ta tb:TE):TE:=λσ H Q=>ta σ H λx H1=>zhP tb σ Q x H1
inductive zfJ (Q:VK) (x:V) (H1:Hp):Prop
 |mk:∀c,(x=.bl c)->(Q (.bl (!c)) H1)->zfJ Q x H1
def zkK (ta:TE):TE:=λσ H Q=>ta σ H λx H1=>zfJ Q x H1
theorem vc {op}{t:TE}(h:PE X a t):PE X (.BoolOp op [a] pos) t:=λpz s σ H Q I hw=>BoolOp_one (h pz s σ H Q I hw)
theorem qD (ha:PE X a ta) (hb:PE X (.BoolOp .And (b::rest) pos) tb):PE X (.BoolOp .And (a::b::rest) pos) (zkD ta tb):=by
 intro pz s σ H Q I h
 refine BoolOp_and (thn (ha pz s σ H _ I h) λv s1 ⟨x,H1,I1,r1,q1⟩=>?_)
 obtain⟨c,rfl,q1⟩:=q1
 cases r1
 refine uy ?_
 cases c with
 |true=>exact hb pz s1 σ H1 Q I1 q1
 |false=>exact⟨.bl false,H1,I1,rfl,q1⟩
theorem zhz (ha:PE X a ta) (hb:PE X (.BoolOp .Or (b::rest) pos) tb):PE X (.BoolOp .Or (a::b::rest) pos) (zjy ta tb):=by
 intro pz s σ H Q I h
 refine BoolOp_or (thn (ha pz s σ H _ I h) λv s1 ⟨x,H1,I1,r1,q1⟩=>?_)
 obtain⟨c,rfl,q1⟩:=q1
 cases r1
 refine uy ?_
 cases c with
 |false=>exact hb pz s1 σ H1 Q I1 q1
 |true=>exact⟨.bl true,H1,I1,rfl,q1⟩
theorem zeS (ha:PE X a ta):PE X (.UnaryOp .Not a pos) (zkK ta):=by
 intro pz s σ H Q I h
 refine UnaryOp_ (thn (ha pz s σ H _ I h) λv s1 ⟨x,H1,I1,r1,q1⟩=>?_)
 obtain⟨c,rfl,q1⟩:=q1
 cases r1
 exact not_of (uy ⟨.bl (!c),H1,I1,rL,q1⟩)
def tIf (t:TT) (ta tb:TE):TE:=λσ H Q=>t σ H λc H1=>if c=true then ta σ H1 Q else tb σ H1 Q
theorem Qj {c:Expr}(hc:PT X c tA) (ha:PE X a ta) (hb:PE X b tb):PE X (.IfExp c a b pos) (tIf tA ta tb):=by
 intro pz s σ H Q I h
 refine wpAny_IfExp (thn (hc pz s σ H _ I h) λd s1 ⟨H1,I1,q1⟩=>?_)
 cases d with
 |true=>exact ha pz s1 σ H1 Q I1 q1
 |false=>exact hb pz s1 σ H1 Q I1 q1
end
def SqL (K:Fg) (H:Hp) (a:Addr) (xs:List V):Prop :=
 Rd H a (.lst xs) ∨
  ∃(o:Obj) (its:Array Value) (n:Nat),K.lookup a=some o/\o.cls=.type "list"/\o.dict=none/\o.data=.seq its n/\its.size<=sizeLine/\z6 xs its.toList
def SqT (K:Fg) (H:Hp) (a:Addr) (xs:List V):Prop :=
 Rd H a (.tup xs) ∨
  ∃(o:Obj) (its:Array Value) (n:Nat),K.lookup a=some o/\o.cls=.type "tuple"/\o.data=.seq its n/\its.size<=sizeLine/\z6 xs its.toList
def absV:Value->Option V
 |.none=>some .non
 |.bool b=>some (.bl b)
 |.int i _=>some (.int i)
 |.str x _=>some (.str x)
 |.bytes b _=>some (.byt b)
 |.float b _=>some (.flt b)
 |.ref a=>some (.ref a)
 |.type n=>some (.ty n)
 |_=>none
def xl.abs {x:V}{u:Value}(r:xl x u):absV u=some x:=by
 cases x with
 |non=>cases r;rfl
 |bl _=>cases r;rfl
 |int _=>obtain⟨t,rfl⟩:=r;rfl
 |str _=>obtain⟨t,rfl⟩:=r;rfl
 |byt _=>obtain⟨t,rfl⟩:=r;rfl
 |flt _=>obtain⟨t,rfl⟩:=r;rfl
 |ref _=>cases r;rfl
 |ty _=>cases r;rfl
def xl.inj {x y:V}{u:Value}(r:xl x u) (q:xl y u):x=y:=Option.some.inj (r.abs.symm.trans q.abs)
def z6.inj:∀{xs ys:List V}{us:List Value},z6 xs us->z6 ys us->xs=ys
 |_,_,_,.nil,.nil=>rfl
 |_,_,_,.cons r t,.cons r' t'=>by rw[r.inj r',z6.inj t t']
section
variable {X:Cx}{pz:List (Addr×Obj)}{σ:St}{H:Hp}{s:Shared}{a:Addr}{xs ys:List V}
theorem SqL.of {K:Fg}(h:H a=some (.lst xs)):SqL K H a xs:=.inl (.inl h)
theorem SqT.of {K:Fg}(h:H a=some (.tup xs)):SqT K H a xs:=.inl (.inl h)
theorem Inv.list (I:Inv X pz σ H s) (h:SqL X.K H a xs):∃its:List Value,z6 xs its/\PlainL s.heap a its.toArray/\xs.length<=sizeLine:=by
 rcases h with h | ⟨o,its,n,hk,hc,hd,hs,hz,r⟩
 ·obtain⟨z,its,n,r,e⟩:=h.ok I.hok
  exact⟨its,r,⟨_,n,e,rL,rL,rL⟩,z⟩
 ·refine⟨its.toList,r,⟨o,n,I.kIn a o hk,hc,hd,↥hs⟩,?_⟩
  have e:=r.length
  simp only[wI]at e
  lia
theorem Inv.tuple (I:Inv X pz σ H s) (h:SqT X.K H a xs):∃its:List Value,z6 xs its/\IsTup s.heap a its.toArray/\xs.length<=sizeLine:=by
 rcases h with h | ⟨o,its,n,hk,hc,hs,hz,r⟩
 ·obtain⟨z,its,r,p⟩:=h.ok I.hok
  exact⟨its,r,p,z⟩
 ·refine⟨its.toList,r,⟨o,I.kIn a o hk,hc,n,↥hs⟩,?_⟩
  have e:=r.length
  simp only[wI]at e
  lia
theorem Inv.list_inj (I:Inv X pz σ H s) (h:SqL X.K H a xs) (h':SqL X.K H a ys):xs=ys:=by
 obtain⟨its,r,⟨o,n,e,_,_,d⟩,_⟩:=I.list h
 obtain⟨its',r',⟨o',n',e',_,_,d'⟩,_⟩:=I.list h'
 rw[e]at e';cases e'
 rw[d]at d'
 injection d' with d1 _
 have:its=its':=by simpa using congrArg Array.toList d1
 subst this
 exact r.inj r'
theorem Inv.tuple_inj (I:Inv X pz σ H s) (h:SqT X.K H a xs) (h':SqT X.K H a ys):xs=ys:=by
 obtain⟨its,r,⟨o,e,_,n,d⟩,_⟩:=I.tuple h
 obtain⟨its',r',⟨o',e',_,n',d'⟩,_⟩:=I.tuple h'
 rw[e]at e';cases e'
 rw[d]at d'
 injection d' with d1 _
 have:its=its':=by simpa using congrArg Array.toList d1
 subst this
 exact r.inj r'
end
abbrev Cx.wish (X:Cx) (E:Value->Shared->Prop):Cx:={ X with xe:=E }
abbrev Cx.nox (X:Cx):Cx:=X.wish λ_ _=>False
def Cx.Ok.wish {X:Cx}(ok:X.Ok) (E:Value->Shared->Prop):(X.wish E).Ok :=
 ⟨ok.mod,ok.kind,ok.glob,ok.blt,ok.above,ok.inj,ok.has,ok.cab,ok.hd,ok.frames,ok.stk,ok.exf,ok.bs,ok.bsz,ok.noex,ok.exfs,ok.funs,ok.frf⟩
def Cx.Ok.unwish {X:Cx}{E:Value->Shared->Prop}(ok:(X.wish E).Ok):X.Ok :=
 ⟨ok.mod,ok.kind,ok.glob,ok.blt,ok.above,ok.inj,ok.has,ok.cab,ok.hd,ok.frames,ok.stk,ok.exf,ok.bs,ok.bsz,ok.noex,ok.exfs,ok.funs,ok.frf⟩
section
variable {X:Cx}{pz:List (Addr×Obj)}{σ:St}{H:Hp}{s:Shared}{E:Value->Shared->Prop}
theorem Inv.wish (I:Inv X pz σ H s) (E:Value->Shared->Prop):Inv (X.wish E) pz σ H s:=⟨I.ok.wish E,I.os,I.bare,I.base,I.loc,I.cell,I.free,I.freeC,I.pin,I.hok,I.len⟩
theorem Inv.unwish (I:Inv (X.wish E) pz σ H s):Inv X pz σ H s:=⟨I.ok.unwish,I.os,I.bare,I.base,I.loc,I.cell,I.free,I.freeC,I.pin,I.hok,I.len⟩
theorem SP.unwish {D:ZF}{f:Flow}{s':Shared}(h:SP (X.wish E) pz D f s'):SP X pz D f s':=by
 cases f with
 |next=>obtain⟨σ',H',I,q⟩:=h;exact⟨σ',H',I.unwish,q⟩
 |brk=>obtain⟨σ',H',I,q⟩:=h;exact⟨σ',H',I.unwish,q⟩
 |cont=>obtain⟨σ',H',I,q⟩:=h;exact⟨σ',H',I.unwish,q⟩
 |ret u=>obtain⟨v,σ',H',I,r,q⟩:=h;exact⟨v,σ',H',I.unwish,r,q⟩
theorem PSs.nox {st:List Stmt}{t:TS}(h:PSs X.nox st t):PSs X st t:=λpz s σ H D I hw =>
 uj (h pz s σ H D (I.wish _) hw) (λ_ _ q=>q.unwish) λ_ _ z=>False.elim z
end
section
variable {X:Cx}{st:Stmt}{rest:List Stmt}{t u:TS}{e:Expr}{te:TE}{pos:Pos}
def zfI:TS:=λD σ H=>D.nx σ H
def zbU (t u:TS):TS:=λD σ H=>t { D with nx:=u D } σ H
theorem zU:PSs X [] zfI:=λ_ _ σ H _ I h=>Yi ⟨σ,H,I,h⟩
theorem ze (h1:PS X st t) (h2:PSs X rest u):PSs X (st::rest) (zbU t u):=by
 intro pz s σ H D I h
 refine wpAny_execs_cons (thn (h1 pz s σ H { D with nx:=u D } I h) λf s1 q=>?_)
 cases f with
 |next =>
  obtain⟨σ',H',I',q⟩:=q
  exact h2 pz s1 σ' H' D I' q
 |ret v=>exact q
 |brk=>exact q
 |cont=>exact q
theorem zo (h1:PS X st t):PSs X [st] t:=by
 intro pz s σ H D I h
 refine wpAny_execs_cons (thn (h1 pz s σ H D I h) λf s1 q=>?_)
 cases f with
 |next=>exact Yi q
 |ret v=>exact q
 |brk=>exact q
 |cont=>exact q
theorem Inv.quiet {pz:List (Addr×Obj)}{σ:St}{H:Hp}{s:Shared}(I:Inv X pz σ H s):interactive X.env=false:=by simp[interactive,I.ok.kind]
def zkF (te:TE):TS:=λD σ H=>te σ H λ_ H1=>D.nx σ H1
theorem qm (he:PE X e te) (hs:swapsWith e none pos.line X.env=pure false:=by rfl):PS X (.Expr e pos) (zkF te):=by
 intro pz s σ H D I h
 exact wpAny_Expr_any (thn (he pz s σ H _ I h) λv s1 ⟨x,H1,I1,r1,q1⟩=>⟨σ,H1,I1,q1⟩) I.quiet hs
def zdA (te:TE):TS:=λD σ H=>te σ H D.rt
theorem zE (he:PE X e te):PS X (.Return (some e) pos) (zdA te):=by
 intro pz s σ H D I h
 exact wpAny_Return_some (thn (he pz s σ H _ I h) λv s1 ⟨x,H1,I1,r1,q1⟩=>⟨x,σ,H1,I1,r1,q1⟩)
def zkH (c:TT) (t u:TS):TS:=λD σ H=>c σ H λb H1=>if b=true then t D σ H1 else u D σ H1
theorem xv {c:Expr}{a b:List Stmt}{tc:TT}(hc:PT X c tc) (ha:PSs X a t) (hb:PSs X b u):PS X (.If c a b pos) (zkH tc t u):=by
 intro pz s σ H D I h
 refine wpAny_If (thn (hc pz s σ H _ I h) λd s1 ⟨H1,I1,q1⟩=>?_)
 cases d with
 |true=>exact ha pz s1 σ H1 D I1 q1
 |false=>exact hb pz s1 σ H1 D I1 q1
def zfH:TS:=λ_ _ _=>False
theorem zeZ:PS X st zfH:=λ_ _ _ _ _ _ h=>h.elim
theorem Zj {sts:List Stmt}:PSs X sts zfH:=λ_ _ _ _ _ _ h=>h.elim
end
abbrev TG:=V->St->Hp->(St->Hp->Prop)->Prop
abbrev TGs:=List V->St->Hp->(St->Hp->Prop)->Prop
def PG (X:Cx) (target:Expr) (t:TG):Prop :=
 ∀(pz:List (Addr×Obj)) (s:Shared) (σ:St) (H:Hp) (v:V) (u:Value) (Q:St->Hp->Prop),Inv X pz σ H s->xl v u->t v σ H Q →
  wpAny (model X.prog X.w) X.A (assign target X.env u) (λ_ s'=>∃σ' H',Inv X pz σ' H' s'/\Q σ' H') X.xe s
def PGs (X:Cx) (ts:List Expr) (t:TGs):Prop :=
 ∀(pz:List (Addr×Obj)) (s:Shared) (σ:St) (H:Hp) (vs:List V) (us:List Value) (Q:St->Hp->Prop),Inv X pz σ H s->z6 vs us->t vs σ H Q →
  wpAny (model X.prog X.w) X.A (assignInOrder ((assignEach ts X.env).map (·.2)) us) (λ_ s'=>∃σ' H',Inv X pz σ' H' s'/\Q σ' H') X.xe s
abbrev zhU:=V->V->V->Hp->(Hp->Prop)->Prop
def zjM (X:Cx) (t:zhU):Prop :=
 ∀(pz:List (Addr×Obj)) (s:Shared) (σ:St) (H:Hp) (o i v:V) (ov iv u:Value) (Q:Hp->Prop),Inv X pz σ H s->xl o ov->xl i iv->xl v u->t o i v H Q →
  wpAny (model X.prog X.w) X.A (setItem ov iv u) (λ_ s'=>∃H',Inv X pz σ H' s'/\Q H') X.xe s
abbrev TIp:=V->V->Hp->VK->Prop
def PIp (X:Cx) (op:Operator) (t:TIp):Prop :=
 ∀(pz:List (Addr×Obj)) (s:Shared) (σ:St) (H:Hp) (x y:V) (v u:Value) (Q:VK),Inv X pz σ H s->xl x v->xl y u->t x y H Q →
  wpAny (model X.prog X.w) X.A (inplaceOp op v u) (EP X pz σ Q) X.xe s
section
variable {X:Cx}{pos:Pos}
def zD (i:Nat):TG:=λv σ H Q=>Q (σ.set i (some v)) H
theorem J6 {i:Nat}{x:Str}(hN:X.N.Nodup) (hi:X.N[i]?=some x) (hx:Loc X.env.scope x) (hf:X.fn x=true\/X.env.scope.names.lookup x=some .local := by first | exact .inl rfl | exact .inr rfl | assumption):PG X (.Name x pos) (zD i):=by
 intro pz s σ H v u Q I r h
 exact wpAny_assign_Name (Z5 I hN hi hx r (λs' I'=>⟨_,H,I',h⟩) hf)
theorem pgl {i:Nat}{x:Str}{pos:Pos}(hN:X.N.Nodup) (hi:X.N[i]?=some x:=by rfl) (hx:Loc X.env.scope x:=by exact Or.inl rfl) (hf:X.fn x=true\/X.env.scope.names.lookup x=some .local := by first | exact .inl rfl | exact .inr rfl | assumption):PG X (.Name x pos) (zD i):=J6 hN hi hx hf
def zbr:TGs:=λvs σ H Q=>vs=[]/\Q σ H
def v5 (t:TG) (u:TGs):TGs:=λvs σ H Q=>∃v r,vs=v::r/\t v σ H λσ' H'=>u r σ' H' Q
theorem xL:PGs X [] zbr:=by
 intro pz s σ H vs us Q I r h
 obtain⟨e,h⟩:=h
 subst e
 cases r
 exact assignInOrder_nil ⟨σ,H,I,h⟩
theorem zJ {e:Expr}{es:List Expr}{t:TG}{u:TGs}(h1:PG X e t) (h2:PGs X es u)
  (hs:(assignEach (e::es) X.env).map (·.2)=assign e X.env::(assignEach es X.env).map (·.2):=by rfl):PGs X (e::es) (v5 t u):=by
 intro pz s σ H vs us Q I r h
 obtain⟨v,vr,e1,h⟩:=h
 subst e1
 cases r with
 |cons r rr =>
  rw[hs]
  refine assignInOrder_cons (thn (h1 pz s σ H _ _ _ I r h) λ_ s1 ⟨σ1,H1,I1,q1⟩=>?_)
  exact h2 pz s1 σ1 H1 _ _ Q I1 rr q1
def zaE (K:Fg) (n:Nat) (t:TGs):TG:=λv σ H Q=>∃a xs,v=.ref a/\SqT K H a xs/\xs.length=n/\t xs σ H Q
theorem qH {es:List Expr}{k:Nat}{t:TGs}{n:Nat}(hc:X.calm=true) (h:PGs X es t)
  (hn:(assignEach es X.env).length=n:=by rfl) (hst:(assignEach es X.env).findIdx? (·.1)=none:=by rfl):PG X (.Tuple es k pos) (zaE X.K n t):=by
 intro pz s σ H v u Q I r hw
 obtain⟨a,xs,e1,hq,hl,hw⟩:=hw
 subst e1
 cases r
 obtain⟨its,rv,ht,hz⟩:=I.tuple hq
 refine assign_Tuple_tuple (I.ok.hd hc) ht (by simp[hn,<-hl,rv.length]) hst λh' hx=>?_
 have I1:Inv X pz σ H { s with heap:=h' }:=I.kept (t':=s.toks) λb o e=>hx b o (wZ (wF e)) e
 exact h pz _ σ H xs _ Q I1 ↥rv hw
def gSub (to ti:TE) (t:zhU):TG:=λv σ H Q=>to σ H λo H1=>ti σ H1 λi H2=>t o i v H2 λH3=>Q σ H3
theorem zeU {o i:Expr}{to ti:TE}{t:zhU}(ho:PE X o to) (hi:PE X i ti) (hs:zjM X t)
  (ha:∀v,assign (.Subscript o i pos) X.env v=(do
   let ov <-holding [v] (eval o X.env)
   let iv <-holding [v,ov] (eval i X.env)
   standAt pos
   holding [v,ov,iv] (setItem ov iv v)
   release [v,ov,iv] []):=by intro _;rfl):PG X (.Subscript o i pos) (gSub to ti t):=by
 intro pz s σ H v u Q I r h
 rw[ha]
 refine we (yZ (thn (ho pz s σ H _ I h) λov s1 ⟨x,H1,I1,r1,q1⟩=>?_))
 refine we (yZ (thn (hi pz s1 σ H1 _ I1 q1) λiv s2 ⟨y,H2,I2,r2,q2⟩=>?_))
 refine we (YQ (we (yZ (thn (hs pz s2 σ H2 x y v ov iv u _ I2 r1 r2 r q2) λ_ s3 ⟨H3,I3,q3⟩=>?_))))
 exact wpAny_release ⟨σ,H3,I3,q3⟩
def zdy (te:TE) (g:TG):TS:=λD σ H=>te σ H λx H1=>g x σ H1 D.nx
theorem vP {tg e:Expr}{te:TE}{g:TG}(he:PE X e te) (hg:PG X tg g) (hs:swapsWithSole [tg] e pos.line X.env=pure false:=by rfl) (hw:swappedStores [tg] e X.env=pure none:=by rfl)
  (h1:(assignEach [tg] X.env).map (·.2)=[assign tg X.env]:=by rfl):PS X (.Assign [tg] e pos) (zdy te g):=by
 intro pz s σ H D I h
 refine wpAny_Assign_stores (thn (he pz s σ H _ I h) λv s1 ⟨x,H1,I1,r1,q1⟩=>?_) hs hw
 rw[h1]
 exact thn (hg pz s1 σ H1 x v _ I1 r1 q1) λ_ s2 q=>q
theorem ZS {i:Nat}{x:Str}{e:Expr}{te:TE}{pos':Pos}(hN:X.N.Nodup) (hi:X.N[i]?=some x) (hx:Loc X.env.scope x) (he:PE X e te) (hs:swapsWith e (some (.Name x pos')) pos.line X.env=pure false:=by rfl) (hf:X.fn x=true\/X.env.scope.names.lookup x=some .local := by first | exact .inl rfl | exact .inr rfl | assumption) :
  PS X (.Assign [.Name x pos'] e pos) (zdy te (zD i)):=by
 intro pz s σ H D I h
 refine wpAny_Assign_Name (thn (he pz s σ H _ I h) λv s1 ⟨y,H1,I1,r1,q1⟩=>?_) hs
 exact Z5 I1 hN hi hx r1 (λs2 I2=>⟨_,H1,I2,q1⟩) hf
theorem psl {i:Nat}{x:Str}{e:Expr}{te:TE}{pos pos':Pos}(hN:X.N.Nodup) (he:PE X e te) (hi:X.N[i]?=some x:=by rfl) (hx:Loc X.env.scope x:=by exact Or.inl rfl) (hs:swapsWith e (some (.Name x pos')) pos.line X.env=pure false:=by rfl) (hf:X.fn x=true\/X.env.scope.names.lookup x=some .local := by first | exact .inl rfl | exact .inr rfl | assumption) :
  PS X (.Assign [.Name x pos'] e pos) (zdy te (zD i)):=ZS hN hi hx he hs hf
def tPar (i j:Nat) (ta:TA):TS:=λD σ H=>ta σ H λvs H1=>∃v w,vs=[v,w]/\D.nx ((σ.set i (some v)).set j (some w)) H1
theorem Xy {i j:Nat}{x y:Str}{a b:Expr}{ta:TA}{px py pt:Pos} {kt k2 pt2} (hc:X.calm=true) (hN:X.N.Nodup) (hi:X.N[i]?=some x) (hj:X.N[j]?=some y) (hij:i≠j)
  (hx:X.env.scope.names.lookup x=some .local) (hy:X.env.scope.names.lookup y=some .local) (ha:PA X [a,b] ta)
  (hw:swappedStores [.Tuple [.Name x px,.Name y py] kt pt] (.Tuple [a,b] k2 pt2) X.env=pure (some [x,y]))
  (hs:swapsWithSole [.Tuple [.Name x px,.Name y py] kt pt] (.Tuple [a,b] k2 pt2) pos.line X.env=pure false:=by rfl) :
  PS X (.Assign [.Tuple [.Name x px,.Name y py] kt pt] (.Tuple [a,b] k2 pt2) pos) (tPar i j ta):=by
 intro pz s σ H D I h
 rw[exec_Assign_arm]
 refine we (YQ ?_)
 rw[hs]
 refine we (wn ?_)
 rw[if_neg (by decide)]
 refine we (Tuple_ (thn (ha _ pz s σ H _ I h) λus s1 ⟨vs,H1,I1,r1,q1⟩=>?_))
 obtain⟨v,w,e1,q1⟩:=q1
 subst e1
 obtain⟨u1,u2,rfl,rv,rw'⟩:∃u1 u2,us=[u1,u2]/\xl v u1/\xl w u2:=by
  cases r1 with
  |cons p q =>
   cases q with
   |cons p' q' =>
    cases q'
    exact⟨_,_,rL,p,p'⟩
 refine yI ?_ (zL2)
 have I2:Inv X pz σ H1 { s1 with heap:=s1.heap.push { cls:=.type "tuple",data:=.seq [u1,u2].toArray } }:=I1.kept (t':=s1.toks) λb o e=>wg _ e
 rw[hw]
 refine we (wn ?_)
 show wpAny (model X.prog X.w) X.A (do rule "assign.swapped-stores";let items <-unpackItems (.ref s1.heap.objs.size) 2 none;assignInOrder [λv=>bindName X.env y v,λv=>bindName X.env x v] items.reverse;pure Flow.next) _ _ _
 refine we (Yf (we (unpackItems_tuple (items:=#[u1,u2]) (I.ok.hd hc) (IsTup.new s1.heap _) λh' hx'=>?_)))
 have I3:=I2.kept (h':=h') (t':=s1.toks) λb o e=>hx' b o (wZ (wF e)) e
 show wpAny _ _ (assignInOrder [λv=>bindName X.env y v,λv=>bindName X.env x v] [u2,u1] >>= λ_=>pure Flow.next) _ _ _
 refine we (assignInOrder_cons (wpAny_bindName (Z5 I3 hN hj (.inl hy) rw' (λs2 I4=>?_) (.inr hy))))
 refine assignInOrder_cons (wpAny_bindName (Z5 I4 hN hi (.inl hx) rv (λs3 I5=>assignInOrder_nil (wn ?_)) (.inr hx)))
 rw[List.set_comm _ _ (Ne.symm hij)]at I5
 exact⟨_,H1,I5,q1⟩
def tAug (i:Nat) (te:TE) (ti:TIp):TS:=λD σ H=>∃x,σ[i]?=some (some x)/\te σ H λy H1=>ti x y H1 λz H2=>D.nx (σ.set i (some z)) H2
theorem ziS {i:Nat}{x:Str}{e:Expr}{te:TE}{op:Operator}{ti:TIp}{pos':Pos}(hN:X.N.Nodup) (hi:X.N[i]?=some x) (hx:Loc X.env.scope x) (he:PE X e te) (ho:PIp X op ti) (hf:X.fn x=true\/X.env.scope.names.lookup x=some .local := by first | exact .inl rfl | exact .inr rfl | assumption) :
  PS X (.AugAssign (.Name x pos') op e pos) (tAug i te ti):=by
 intro pz s σ H D I h
 obtain⟨v,e1,h⟩:=h
 obtain⟨m,hn,hl⟩:=I.loc
 have vis:Vis X.env.scope x:=by rcases hx with k | k;exact .inl k;exact .inr (.inl k)
 obtain⟨u,r,l⟩:=hl i x v hi e1 vis
 refine wpAny_AugAssign_Name ?_
 have go:wpAny (model X.prog X.w) X.A (eval e X.env) (λw s₂=>wpAny (model X.prog X.w) X.A (inplaceOp op u w) (λr s₃=>wpAny (model X.prog X.w) X.A (storeName X.env x r) (λ_=>SP X pz D .next) X.xe s₃) X.xe s₂) X.xe s:=by
  refine thn (he pz s σ H _ I h) λw s1 ⟨y,H1,I1,r1,q1⟩=>?_
  refine thn (ho pz s1 σ H1 v y u w _ I1 r r1 q1) λz s2 ⟨zv,H2,I2,r2,q2⟩=>?_
  exact Z5 I2 hN hi hx r2 (λs3 I3=>⟨_,H2,I3,q2⟩) hf
 rcases l with⟨hk,hm⟩ | ⟨hk,c,hc,hcell⟩
 ·exact wpAny_loadName_local I.ok.kind hk hn hm go
 ·rcases hk with hk | hk
  ·exact wpAny_loadName_cell I.ok.kind hk hc hcell go
  ·rcases hx with k | k
   ·have:X.env.scope.names.lookup x=some .free:=hk
    rw[k]at this;cases this
   ·have:X.env.scope.names.lookup x=some .free:=hk
    rw[k]at this;cases this
def zfM (c:TT) (tb:TS):TS:=λD σ H=>∃W:Nat->St->Hp->Prop,(∃m,W m σ H)/\∀m σ H,W m σ H →
 c σ H λb H1=>if b=true then ∃N:St->Hp->Prop,(∀σ' H',N σ' H'->∃m',m'<m/\W m' σ' H')/\tb { D with nx:=N,ct:=N,bk:=D.nx } σ H1 else D.nx σ H1
theorem zaS {c:Expr}{body:List Stmt}{tc:TT}{tb:TS}(hp:PassesOwn (model X.prog X.w) X.A X.env X.xe) (hc:PT X c tc) (hb:PSs X body tb):PS X (.While c body [] pos) (zfM tc tb):=by
 intro pz s σ H D I h
 obtain⟨W,⟨m0,w0⟩,turn⟩:=h
 refine wpAny_While (codeAny_whileLoop (λn s'=>∃σ' H',Inv X pz σ' H' s'/\W n σ' H') ?_ m0 ⟨σ,H,I,w0⟩)
 rintro n s1 ⟨σ1,H1,I1,w1⟩
 refine u8 hp (thn (hc pz s1 σ1 H1 _ I1 (turn n σ1 H1 w1)) λb s2 ⟨H2,I2,q2⟩=>?_)
 cases b with
 |true =>
  obtain⟨N,hN,q2⟩:=q2
  rw[if_pos rfl]
  refine u8 hp (thn (hb pz s2 σ1 H2 _ I2 q2) λf s3 q3=>?_)
  cases f with
  |next =>
   obtain⟨σ3,H3,I3,n3⟩:=q3
   obtain⟨m',hm,w3⟩:=hN σ3 H3 n3
   exact⟨m',hm,σ3,H3,I3,w3⟩
  |cont =>
   obtain⟨σ3,H3,I3,n3⟩:=q3
   obtain⟨m',hm,w3⟩:=hN σ3 H3 n3
   exact⟨m',hm,σ3,H3,I3,w3⟩
  |brk=>exact q3
  |ret v=>exact q3
 |false =>
  rw[if_neg ya]
  exact Yi ⟨σ1,H2,I2,q2⟩
end
structure It where
 go:Nat->Hp->Prop
 yld:Nat->Hp->V->Hp->Prop
 stop:Nat->Hp->Prop
def Vn (X:Cx) (pz:List (Addr×Obj)) (H:Hp) (b:Addr):Prop :=
 H b=none/\b≠X.env.locals/\b∉X.fs/\(b∈X.ex\/X.s₀.heap.objs.size<=b)/\(∀x c,X.env.cells.lookup x=some c->c≠b)/\∀p∈X.pn++pz,p.1≠b
def Inv.fpOk {X:Cx}{pz:List (Addr×Obj)}{σ:St}{H H':Hp}{s:Shared}{b:Addr}(I:Inv X pz σ H s) (hb:s.heap.objs.size<=b) (hn:H' b=none):Vn X pz H' b:=by
 refine⟨hn,WD (w4 I.lt hb),I.nofs hb,.inr (yJ I.sz hb),λx c e z=>?_,λp hp z=>?_⟩
 ·obtain⟨v,q⟩:=I.cell x c e
  exact absurd (w4 q.lt (by rw[z];exact hb)) (uF _)
 ·exact absurd (w4 (wF (I.pin p hp).1) (by rw[z];exact hb)) (uF _)
structure zfX (P:Program) (w:World) (K:Fg) (tg:Expr) (J:It) (fp:List Addr) (it:Addr) (tn:Nat->Heap->Prop):Prop where
 mem:it∈fp
 obj:∀i h,tn i h->∀b∈fp,∃o,h.get? b=some o/\∀v,o.data≠.cell v
 keep:∀i h h',tn i h->(∀b∈fp,∀o,h.get? b=some o->h'.get? b=some o)->tn i h'
 item:∀(X:Cx),X.prog=P->X.w=w->X.K=K->X.calm=true->∀(i:Nat) (pz:List (Addr×Obj)) (s:Shared) (σ:St) (H:Hp) (E:Value->Shared->Prop),Inv X pz σ H s->(∀b∈fp,Vn X pz H b)->tn i s.heap->J.go i H →
  wpAny (model P w) X.A (pyNext (.ref it)) (λr s1=>∃u,r=some u ∧
   wpAny (model P w) X.A (letOwnedTupleGo tg (.ref it) u) (λ_ s2=>∃x H',Inv X pz σ H' s2/\xl x u/\J.yld i H x H'/\tn (i+1) s2.heap/\∀b∈fp,H' b=none) E s1) E s
 done:∀(X:Cx),X.prog=P->X.w=w->X.K=K->X.calm=true->∀(i:Nat) (pz:List (Addr×Obj)) (s:Shared) (σ:St) (H:Hp) (E:Value->Shared->Prop),Inv X pz σ H s->(∀b∈fp,Vn X pz H b)->tn i s.heap->J.stop i H →
  wpAny (model P w) X.A (pyNext (.ref it)) (λr s1=>r=none/\Inv X pz σ H s1) E s
 self:∀(A:Around) (i:Nat) (s:Shared) (Q:Value->Shared->Prop) (E:Value->Shared->Prop),tn i s.heap->Q (.ref it) s->wpAny (model P w) A (pyIter (.ref it)) Q E s
abbrev TI:=St->Hp->(It->Hp->Prop)->Prop
def PIE (X:Cx) (pz:List (Addr×Obj)) (σ:St) (tg:Expr) (R:It->Hp->Prop) (itv:Value) (s2:Shared):Prop :=
 ∃(it:Addr) (fp:List Addr) (tn:Nat->Heap->Prop) (J:It) (H':Hp),itv=.ref it/\Inv X pz σ H' s2/\zfX X.prog X.w X.K tg J fp it tn/\tn 0 s2.heap/\(∀b∈fp,Vn X pz H' b)/\R J H'
def PI (X:Cx) (tg iter:Expr) (wi:TI):Prop :=
 ∀(pz:List (Addr×Obj)) (s:Shared) (σ:St) (H:Hp) (R:It->Hp->Prop),Inv X pz σ H s->wi σ H R →
  wpAny (model X.prog X.w) X.A (eval iter X.env) (λv s1=>wpAny (model X.prog X.w) X.A (pyIter v) (PIE X pz σ tg R) X.xe s1) X.xe s
def zed {M:Model}{A:Around}{E:Value->Shared->Prop}{s:Shared}{tg:Expr}{it:Addr}{u:Value}{o:Obj}{n:String}{vs:Array Value}{Q:Unit->Shared->Prop}(ho:s.heap.get? it=some o) (hc:o.cls=.type n) (hd:o.data=.fields vs)
  (hn:["enumerate","zip","dict_itemiterator","dict_reverseitemiterator","odict_iterator","itertools.zip_longest","itertools.pairwise"].contains n=false) (hQ:Q () s):wpAny M A (letOwnedTupleGo tg (.ref it) u) Q E s:=by
 unfold letOwnedTupleGo
 cases tg <;> first
  |exact wn hQ
  | (cases u <;> first
    |exact wn hQ
    | (refine we (Y9 ho ?_)
       rw[hc,hd]
       show wpAny M A (if(["enumerate","zip","dict_itemiterator","dict_reverseitemiterator","odict_iterator","itertools.zip_longest","itertools.pairwise"].contains n&&vs[0]? == some (rawInt _))=true then _ else _) Q E s
       rw[if_neg (by intro h;rw[hn,Bool.false_and]at h;cases h)]
       exact wn hQ))
def Itl (K:Fg) (a:Addr):It :=
 ⟨λi H=>∃xs x,SqL K H a xs/\xs[i]?=some x,λi H x H'=>H'=H/\∀xs,SqL K H a xs->xs[i]?=some x,λi H=>∃xs,SqL K H a xs/\xs.length<=i⟩
def Itt (K:Fg) (a:Addr):It :=
 ⟨λi H=>∃xs x,SqT K H a xs/\xs[i]?=some x,λi H x H'=>H'=H/\∀xs,SqT K H a xs->xs[i]?=some x,λi H=>∃xs,SqT K H a xs/\xs.length<=i⟩
def Itr (lo:Int) (n:Nat):It:=⟨λi _=>i<n,λi H x H'=>H'=H/\x=.int (lo+i),λi _=>n<=i⟩
def zdB {P:Program}{w:World}{K:Fg}{tg:Expr}(a it:Addr):zfX P w K tg (Itl K a) [it] it (λi h=>h.IsListIter it a i) where
 mem:=by simp
 obj:=λi h st b hb=>by
  have e:b=it:=↥hb
  subst e
  obtain⟨o,e,c,d⟩:=st
  exact⟨o,e,λv z=>by rw[d]at z;cases z⟩
 keep:=λi h h' st k=>st.at λo e=>k it (by simp) o e
 item:=by
  intro X hP hw hK hc i pz s σ H E I hf st hg
  subst hP hw hK
  obtain⟨xs,x,hq,hx⟩:=hg
  obtain⟨its,rv,p,hz⟩:=I.list hq
  obtain⟨u,hu,ru⟩:=rv.get hx
  obtain⟨f0,f1,f2,f3,f4,f5⟩:=hf it (by simp)
  refine wpAny_pyNext_list_item st p.isList (x:=u) ↥hu λh' st' sb=>?_
  have I1:Inv X pz σ H { s with heap:=h' }:=I.turned (t':=s.toks) (λb o hb e=>(sb.2 b hb).trans e) f0 f1 f3 f4 f5
  obtain⟨o,e,c,d⟩:=id st'
  exact⟨u,rfl,zed (s:={ s with heap:=h' }) e c d (by decide) ⟨x,H,I1,ru,⟨rfl,λys hy=>by rw[I.list_inj hy hq];exact hx⟩,st',λb hb=>(hf b hb).1⟩⟩
 done:=by
  intro X hP hw hK hc i pz s σ H E I hf st hg
  subst hP hw hK
  obtain⟨xs,hq,hx⟩:=hg
  obtain⟨its,rv,p,hz⟩:=I.list hq
  obtain⟨f0,f1,f2,f3,f4,f5⟩:=hf it (by simp)
  have hl:=rv.length
  exact wpAny_pyNext_list_end (I.ok.hd hc) st p.isList (by simp;lia) λh' eb=>⟨rfl,I.turned (t':=s.toks) (λb o hb e=>eb b o hb e) f0 f1 f3 f4 f5⟩
 self:=λ_ _ _ _ _ st h=>wpAny_pyIter_listiter st h
def zbW {P:Program}{w:World}{K:Fg}{tg:Expr}(a it:Addr):zfX P w K tg (Itt K a) [it] it (λi h=>h.IsTupleIter it a i) where
 mem:=by simp
 obj:=λi h st b hb=>by
  have e:b=it:=↥hb
  subst e
  obtain⟨o,e,c,d⟩:=st
  exact⟨o,e,λv z=>by rw[d]at z;cases z⟩
 keep:=λi h h' st k=>st.at λo e=>k it (by simp) o e
 item:=by
  intro X hP hw hK hc i pz s σ H E I hf st hg
  subst hP hw hK
  obtain⟨xs,x,hq,hx⟩:=hg
  obtain⟨its,rv,p,hz⟩:=I.tuple hq
  obtain⟨u,hu,ru⟩:=rv.get hx
  obtain⟨f0,f1,f2,f3,f4,f5⟩:=hf it (by simp)
  refine wpAny_pyNext_tuple_item st (show s.heap.IsTuple a its.toArray from p) (x:=u) ↥hu λh' st' sb=>?_
  have I1:Inv X pz σ H { s with heap:=h' }:=I.turned (t':=s.toks) (λb o hb e=>(sb.2 b hb).trans e) f0 f1 f3 f4 f5
  obtain⟨o,e,c,d⟩:=id st'
  exact⟨u,rfl,zed (s:={ s with heap:=h' }) e c d (by decide) ⟨x,H,I1,ru,⟨rfl,λys hy=>by rw[I.tuple_inj hy hq];exact hx⟩,st',λb hb=>(hf b hb).1⟩⟩
 done:=by
  intro X hP hw hK hc i pz s σ H E I hf st hg
  subst hP hw hK
  obtain⟨xs,hq,hx⟩:=hg
  obtain⟨its,rv,p,hz⟩:=I.tuple hq
  obtain⟨f0,f1,f2,f3,f4,f5⟩:=hf it (by simp)
  have hl:=rv.length
  exact wpAny_pyNext_tuple_end (I.ok.hd hc) st (show s.heap.IsTuple a its.toArray from p) (by simp;lia) λh' eb=>⟨rfl,I.turned (t':=s.toks) (λb o hb e=>eb b o hb e) f0 f1 f3 f4 f5⟩
 self:=λ_ _ _ _ _ st h=>wpAny_pyIter_tupleiter st h
def zbV {P:Program}{w:World}{K:Fg}{tg:Expr}(it:Addr) (lo:Int) (n:Nat):zfX P w K tg (Itr lo n) [it] it (λi h=>IsRangeIter h it (lo+(i:Nat)*1) ((n:Int)-(i:Nat)) 1) where
 mem:=by simp
 obj:=λi h st b hb=>by
  have e:b=it:=↥hb
  subst e
  exact⟨_,st,λv z=>by
   have z':Data.fields _=Data.cell v:=z
   cases z'⟩
 keep:=λi h h' st k=>k it (by simp) _ st
 item:=by
  intro X hP hw hK hc i pz s σ H E I hf st hg
  subst hP hw hK
  obtain⟨f0,f1,f2,f3,f4,f5⟩:=hf it (by simp)
  have W:=Walks.range (prog:=X.prog) (w:=X.w) (I.ok.hd hc) it lo 1 n
  refine W.item i s _ _ hg st λv h' tk hv st' kk=>?_
  obtain⟨t,rfl⟩:=hv
  have I1:Inv X pz σ H { s with heap:=h',toks:=tk }:=I.turned (λb o hb e=>kk b o ↥hb e) f0 f1 f3 f4 f5
  refine⟨_,rfl,zed (s:={ s with heap:=h',toks:=tk }) (n:="range_iterator") st' rfl rfl (by decide) ⟨.int (lo+i),H,I1,⟨t,?_⟩,⟨rfl,rfl⟩,st',λb hb=>(hf b hb).1⟩⟩
  rw[YK]
 done:=by
  intro X hP hw hK hc i pz s σ H E I hf st hg
  subst hP hw hK
  obtain⟨f0,f1,f2,f3,f4,f5⟩:=hf it (by simp)
  exact wpAny_pyNext_range_end (I.ok.hd hc) st (by have:n<=i:=hg;lia) λh' eb=>⟨rfl,I.turned (t':=s.toks) (λb o hb e=>eb b o hb e) f0 f1 f3 f4 f5⟩
 self:=λ_ _ _ _ _ st h=>wpAny_pyIter_rangeiter st h
section
variable {X:Cx}{tg:Expr}
def zhs (K:Fg) (tl:TE):TI:=λσ H R=>tl σ H λx H1=>∃a,x=.ref a/\(∃xs,SqL K H1 a xs)/\R (Itl K a) H1
def zgk (K:Fg) (tl:TE):TI:=λσ H R=>tl σ H λx H1=>∃a,x=.ref a/\(∃xs,SqT K H1 a xs)/\R (Itt K a) H1
theorem xk {l:Expr}{tl:TE}(hl:PE X l tl):PI X tg l (zhs X.K tl):=by
 intro pz s σ H R I h
 refine thn (hl pz s σ H _ I h) λv s1 ⟨x,H1,I1,r1,q1⟩=>?_
 obtain⟨a,e,⟨xs,hq⟩,q⟩:=q1
 subst e
 cases r1
 obtain⟨its,rv,p,hz⟩:=I1.list hq
 refine YI p.isList ?_
 refine⟨s1.heap.objs.size,[s1.heap.objs.size],_,_,H1,rL,I1.kept (t':=s1.toks) λb o e=>wg _ e,zdB a _,⟨_,wH _ rL,rL,rL⟩,λb hb=>?_,q⟩
 have e:b=s1.heap.objs.size:=↥hb
 subst e
 exact I1.fpOk (wo _) (I1.hok.fresh (wo _))
theorem ZR {l:Expr}{tl:TE}(hl:PE X l tl):PI X tg l (zgk X.K tl):=by
 intro pz s σ H R I h
 refine thn (hl pz s σ H _ I h) λv s1 ⟨x,H1,I1,r1,q1⟩=>?_
 obtain⟨a,e,⟨xs,hq⟩,q⟩:=q1
 subst e
 cases r1
 obtain⟨its,rv,p,hz⟩:=I1.tuple hq
 refine wpAny_pyIter_tuple (show s1.heap.IsTuple a its.toArray from p) ?_
 refine⟨s1.heap.objs.size,[s1.heap.objs.size],_,_,H1,rL,I1.kept (t':=s1.toks) λb o e=>wg _ e,zbW a _,⟨_,wH _ rL,rL,rL⟩,λb hb=>?_,q⟩
 have e:b=s1.heap.objs.size:=↥hb
 subst e
 exact I1.fpOk (wo _) (I1.hok.fresh (wo _))
theorem zaV {pz:List (Addr×Obj)}{σ:St}{H:Hp}{s:Shared}{R:It->Hp->Prop}{E:Value->Shared->Prop}{lo hi:Int}{t u v:Tok}{tk:Nat}(I:Inv X pz σ H s) (h1 : -(2^62)<=lo) (h2:lo<2^62) (h3 : -(2^62)<=hi) (h4:hi<2^62)
  (q:R (Itr lo (hi-lo).toNat) H):wpAny (model X.prog X.w) X.A (pyIter (.ref s.heap.objs.size)) (PIE X pz σ tg R) E { s with heap:=s.heap.push { cls:=.type "range",data:=.fields #[.int lo t,.int hi u,.int 1 v] },toks:=tk }:=by
 refine wpAny_pyIter_range (IsRange.new ..) (small_one h1 h2 h3 h4) ?_
 have I1:Inv X pz σ H { s with heap:=s.heap.push { cls:=.type "range",data:=.fields #[.int lo t,.int hi u,.int 1 v] },toks:=tk }:=I.kept λb o e=>wg _ e
 refine⟨(s.heap.push { cls:=.type "range",data:=.fields #[.int lo t,.int hi u,.int 1 v] }).objs.size,[(s.heap.push { cls:=.type "range",data:=.fields #[.int lo t,.int hi u,.int 1 v] }).objs.size],_,_,H,rL,
  I1.kept (t':=tk) λb o e=>wg _ e,zbV _ lo (hi-lo).toNat,?_,λb hb=>?_,q⟩
 ·have e1:lo+((0:Nat):Int)*1=lo:=by simp
  have e2:(((hi-lo).toNat:Nat):Int)-((0:Nat):Int)=Builtin.Range.rangeSize lo hi 1:=by rw[rangeSize_one];split <;> lia
  show IsRangeIter _ _ (lo+((0:Nat):Int)*1) ((((hi-lo).toNat:Nat):Int)-((0:Nat):Int)) 1
  rw[e1,e2]
  exact wH _ rL
 ·have e:b=(s.heap.push { cls:=.type "range",data:=.fields #[.int lo t,.int hi u,.int 1 v] }).objs.size:=↥hb
  subst e
  exact I1.fpOk (wo _) (I1.hok.fresh (wo _))
def zjS (ta:TA):TI:=λσ H R=>ta σ H λvs H1=>∃j:Int,vs=[.int j] ∧ -(2^62)<=j/\j<2^62/\R (Itr 0 j.toNat) H1
def zjT (ta:TA):TI:=λσ H R=>ta σ H λvs H1=>∃i j:Int,vs=[.int i,.int j]/\(-(2^62)<=i/\i<2^62 ∧ -(2^62)<=j/\j<2^62)/\R (Itr i (j-i).toNat) H1
theorem Xe {a:Expr}{ta:TA}{p pos:Pos}(hg:Gl X "range") (hm:X.mg "range" = none) (ha:PA X [a] ta) (hs:starEach [a] X.env=[(false,eval a X.env)]:=by rfl):PI X tg (.Call (.Name "range" p) [a] [] pos) (zjS ta):=by
 intro pz s σ H R I h
 refine Call_ (Zo I hg hm boot_range (yO (thn (ha pos pz s σ H _ I h) λus s1 ⟨vs,H1,I1,r1,q1⟩=>?_) hs rL))
 obtain⟨j,e,q1,q2,q⟩:=q1
 subst e
 cases r1 with
 |cons r rr =>
  cases rr
  obtain⟨t,rfl⟩:=r
  exact call_range_1 (zaV I1 ∅ ∅ q1 q2 ↥q)
theorem zdo {a b:Expr}{ta:TA}{p pos:Pos}(hg:Gl X "range") (hm:X.mg "range" = none) (ha:PA X [a,b] ta) (hs:starEach [a,b] X.env=[(false,eval a X.env),(false,eval b X.env)]:=by rfl) (hs2:starEach [b] X.env=[(false,eval b X.env)]:=by rfl) :
  PI X tg (.Call (.Name "range" p) [a,b] [] pos) (zjT ta):=by
 intro pz s σ H R I h
 refine Call_ (Zo I hg hm boot_range (yO (thn (ha pos pz s σ H _ I h) λus s1 ⟨vs,H1,I1,r1,q1⟩=>?_) (by rw[hs,hs2]) (by rw[hs2];rfl)))
 obtain⟨i,j,e,⟨q1,q2,q3,q4⟩,q⟩:=q1
 subst e
 cases r1 with
 |cons r rr =>
  cases rr with
  |cons r' rr =>
   cases rr
   obtain⟨t,rfl⟩:=r
   obtain⟨t',rfl⟩:=r'
   exact call_range_2 (zaV I1 q1 q2 q3 q4 q)
def tFor (wi:TI) (g:TG) (tb:TS):TS:=λD σ H=>wi σ H λJ H1=>∃W:Nat->Nat->St->Hp->Prop,(∃m,W 0 m σ H1)/\∀i m σ H,W i m σ H →
 (J.stop i H/\D.nx σ H)\/(J.go i H/\∃N:St->Hp->Prop,(∀σ' H',N σ' H'->∃m',m'<m/\W (i+1) m' σ' H')/\∀x H',J.yld i H x H'->g x σ H' λσ2 H2=>tb { D with nx:=N,ct:=N,bk:=D.nx } σ2 H2)
def QE (fp:List Addr) (h:Heap):List (Addr×Obj):=fp.filterMap λb=>(h.get? b).map λo=>(b,o)
theorem va {fp:List Addr}{h:Heap}{b:Addr}{o:Obj}(hb:b∈fp) (e:h.get? b=some o):(b,o)∈QE fp h:=Yo.mpr ⟨b,hb,by rw[e];rfl⟩
theorem zdm {fp:List Addr}{h:Heap}{p:Addr×Obj}(hp:p∈QE fp h):p.1∈fp/\h.get? p.1=some p.2:=by
 obtain⟨b,hb,e⟩:=Yo.mp hp
 cases q:h.get? b with
 |none=>rw[q]at e;cases e
 |some o =>
  rw[q]at e
  have e':(b,o)=p:=Option.some.inj e
  subst e'
  exact⟨hb,q⟩
theorem Inv.pinned {pz:List (Addr×Obj)}{σ:St}{H:Hp}{s:Shared}{fp:List Addr}(I:Inv X pz σ H s) (hf:∀b∈fp,Vn X pz H b) (ho:∀b∈fp,∃o,s.heap.get? b=some o/\∀v,o.data≠.cell v):Inv X (pz++QE fp s.heap) σ H s :=
 I.pins_of λp hp=>(wY.mp hp).elim (λz=>I.pin p (ye _ z)) λz=>by
  obtain⟨hb,e⟩:=zdm z
  obtain⟨f0,f1,f2,_⟩:=hf p.1 hb
  obtain⟨o,e',d⟩:=ho p.1 hb
  rw[e]at e';cases e'
  exact⟨e,f0,f1,f2,d⟩
theorem Inv.unpinned {pz pl:List (Addr×Obj)}{σ:St}{H:Hp}{s:Shared}(I:Inv X (pz++pl) σ H s):Inv X pz σ H s:=I.pins_of λp hp=>I.pin p (ye _ (Ww _ hp))
theorem vd {iter:Expr}{body:List Stmt}{wi:TI}{g:TG}{tb:TS}{pos:Pos}(hp:PassesOwn (model X.prog X.w) X.A X.env X.xe) (hc:X.calm=true) (hi:PI X tg iter wi) (hg:PG X tg g) (hb:PSs X body tb)
  (hs:∀x,foldedSetIterable iter X.env x=pure x:=by intro _;rfl):PS X (.For tg iter body [] pos) (tFor wi g tb):=by
 intro pz s σ H D I h
 refine wpAny_For (thn (hi pz s σ H _ I h) λv s1 h1=>thn h1 λitv s2 h2=>?_) hs
 obtain⟨it,fp,tn,J,H2,e,I2,T,st2,f2,W,⟨m0,w0⟩,turn⟩:=h2
 subst e
 have stat:∀{H':Hp},(∀b∈fp,H' b=none)->∀b∈fp,Vn X pz H' b:=λhn b hb=>⟨hn b hb,(f2 b hb).2⟩
 refine codeAny_forLoop_any (λn s'=>∃i σ' H',Inv X pz σ' H' s'/\tn i s'.heap/\(∀b∈fp,H' b=none)/\W i n σ' H') ?_ m0 ⟨0,σ,H2,I2,st2,λb hb=>(f2 b hb).1,w0⟩
 rintro n s3 ⟨i,σ3,H3,I3,st3,fr3,w3⟩
 rcases turn i n σ3 H3 w3 with⟨stop,qn⟩ | ⟨go,N,hN,step⟩
 ·refine u8 hp (thn (T.done X rL rL rL hc i pz s3 σ3 H3 X.xe I3 (stat fr3) st3 stop) λr s4 ⟨hr,I4⟩=>?_)
  subst hr
  exact Yi ⟨σ3,H3,I4,qn⟩
 ·refine u8 hp (thn (T.item X rL rL rL hc i pz s3 σ3 H3 X.xe I3 (stat fr3) st3 go) λr s4 ⟨u,hr,h4⟩=>?_)
  subst hr
  refine u8 hp (thn h4 λ_ s5 ⟨x,H5,I5,r5,y5,st5,fr5⟩=>?_)
  have I5':=I5.pinned (stat fr5) (T.obj _ _ st5)
  refine u8 hp (thn (hg _ s5 σ3 H5 x u _ I5' r5 (step x H5 y5)) λ_ s6 ⟨σ6,H6,I6,q6⟩=>?_)
  refine u8 hp (thn (hb _ s6 σ6 H6 _ I6 q6) λf s7 q7=>?_)
  have again:∀{σ7:St}{H7:Hp},Inv X (pz++QE fp s5.heap) σ7 H7 s7->N σ7 H7->∃m,m<n/\∃i σ' H',Inv X pz σ' H' s7/\tn i s7.heap/\(∀b∈fp,H' b=none)/\W i m σ' H':=λ{σ7 H7} I7 n7=>by
   obtain⟨m',hm,w7⟩:=hN σ7 H7 n7
   refine⟨m',hm,i+1,σ7,H7,I7.unpinned,T.keep _ _ _ st5 λb hb o e=>(I7.pin (b,o) (ye _ (ye _ (va hb e)))).1,λb hb=>?_,w7⟩
   obtain⟨o,e,d⟩:=T.obj _ _ st5 b hb
   exact(I7.pin (b,o) (ye _ (ye _ (va hb e)))).2.1
  cases f with
  |next=>obtain⟨σ7,H7,I7,n7⟩:=q7;exact again I7 n7
  |cont=>obtain⟨σ7,H7,I7,n7⟩:=q7;exact again I7 n7
  |brk=>obtain⟨σ7,H7,I7,q7⟩:=q7;exact⟨σ7,H7,I7.unpinned,q7⟩
  |ret v=>obtain⟨x7,σ7,H7,I7,r7,q7⟩:=q7;exact⟨x7,σ7,H7,I7.unpinned,r7,q7⟩
end
def vm {K:Fg}{a:Addr}{xs:List V}{g:TG}{tb:TS}{D:ZF}{σ:St}{H:Hp}(Pv:Nat->St->Hp->Prop) (h0:Pv 0 σ H) (hl:∀i σ H,i<=xs.length->Pv i σ H->SqL K H a xs)
  (hs:∀i x σ H,xs[i]?=some x->Pv i σ H->g x σ H λσ2 H2=>tb { D with nx:=Pv (i+1),ct:=Pv (i+1),bk:=D.nx } σ2 H2) (hd:∀σ H,Pv xs.length σ H->D.nx σ H) :
  ∃W:Nat->Nat->St->Hp->Prop,(∃m,W 0 m σ H)/\∀i m σ H,W i m σ H →
   ((Itl K a).stop i H/\D.nx σ H)\/((Itl K a).go i H/\∃N:St->Hp->Prop,(∀σ' H',N σ' H'->∃m',m'<m/\W (i+1) m' σ' H')/\∀x H',(Itl K a).yld i H x H'->g x σ H' λσ2 H2=>tb { D with nx:=N,ct:=N,bk:=D.nx } σ2 H2):=by
 refine⟨λi m σ H=>m=xs.length-i/\i<=xs.length/\Pv i σ H,⟨xs.length,by simp,yb _,h0⟩,?_⟩
 rintro i m σ H ⟨rfl,hi,p⟩
 have q:=hl i σ H hi p
 by_cases hlt:i<xs.length
 ·refine .inr ⟨⟨xs,xs[i],q,by simp[hlt]⟩,Pv (i+1),λσ' H' p'=>⟨xs.length-(i+1),by lia,rfl,hlt,p'⟩,λx H' y=>?_⟩
  obtain⟨e,y⟩:=y
  subst e
  exact hs i x σ _ (y xs q) p
 ·have e:i=xs.length:=by lia
  subst e
  exact .inl ⟨⟨xs,q,wo _⟩,hd σ H p⟩
def zgf {K:Fg}{a:Addr}{xs:List V}{g:TG}{tb:TS}{D:ZF}{σ:St}{H:Hp}(Pv:Nat->St->Hp->Prop) (h0:Pv 0 σ H) (hl:∀i σ H,i<=xs.length->Pv i σ H->SqT K H a xs)
  (hs:∀i x σ H,xs[i]?=some x->Pv i σ H->g x σ H λσ2 H2=>tb { D with nx:=Pv (i+1),ct:=Pv (i+1),bk:=D.nx } σ2 H2) (hd:∀σ H,Pv xs.length σ H->D.nx σ H) :
  ∃W:Nat->Nat->St->Hp->Prop,(∃m,W 0 m σ H)/\∀i m σ H,W i m σ H →
   ((Itt K a).stop i H/\D.nx σ H)\/((Itt K a).go i H/\∃N:St->Hp->Prop,(∀σ' H',N σ' H'->∃m',m'<m/\W (i+1) m' σ' H')/\∀x H',(Itt K a).yld i H x H'->g x σ H' λσ2 H2=>tb { D with nx:=N,ct:=N,bk:=D.nx } σ2 H2):=by
 refine⟨λi m σ H=>m=xs.length-i/\i<=xs.length/\Pv i σ H,⟨xs.length,by simp,yb _,h0⟩,?_⟩
 rintro i m σ H ⟨rfl,hi,p⟩
 have q:=hl i σ H hi p
 by_cases hlt:i<xs.length
 ·refine .inr ⟨⟨xs,xs[i],q,by simp[hlt]⟩,Pv (i+1),λσ' H' p'=>⟨xs.length-(i+1),by lia,rfl,hlt,p'⟩,λx H' y=>?_⟩
  obtain⟨e,y⟩:=y
  subst e
  exact hs i x σ _ (y xs q) p
 ·have e:i=xs.length:=by lia
  subst e
  exact .inl ⟨⟨xs,q,wo _⟩,hd σ H p⟩
def Je {lo:Int}{n:Nat}{g:TG}{tb:TS}{D:ZF}{σ:St}{H:Hp}(Pv:Nat->St->Hp->Prop) (h0:Pv 0 σ H)
  (hs:∀i σ H,i<n->Pv i σ H->g (.int (lo+i)) σ H λσ2 H2=>tb { D with nx:=Pv (i+1),ct:=Pv (i+1),bk:=D.nx } σ2 H2) (hd:∀σ H,Pv n σ H->D.nx σ H) :
  ∃W:Nat->Nat->St->Hp->Prop,(∃m,W 0 m σ H)/\∀i m σ H,W i m σ H →
   ((Itr lo n).stop i H/\D.nx σ H)\/((Itr lo n).go i H/\∃N:St->Hp->Prop,(∀σ' H',N σ' H'->∃m',m'<m/\W (i+1) m' σ' H')/\∀x H',(Itr lo n).yld i H x H'->g x σ H' λσ2 H2=>tb { D with nx:=N,ct:=N,bk:=D.nx } σ2 H2):=by
 refine⟨λi m σ H=>m=n-i/\i<=n/\Pv i σ H,⟨n,by simp,yb _,h0⟩,?_⟩
 rintro i m σ H ⟨rfl,hi,p⟩
 by_cases hlt:i<n
 ·refine .inr ⟨hlt,Pv (i+1),λσ' H' p'=>⟨n-(i+1),by lia,rfl,hlt,p'⟩,λx H' y=>?_⟩
  obtain⟨e,y⟩:=y
  subst e y
  exact hs i σ _ hlt p
 ·have e:i=n:=by lia
  subst e
  exact .inl ⟨wo _,hd σ H p⟩
def zbb {c:TT}{tb:TS}{D:ZF}{σ:St}{H:Hp}(Pv:St->Hp->Prop) (μ:St->Hp->Nat) (h0:Pv σ H)
  (hs:∀σ H,Pv σ H->c σ H λb H1=>if b=true then tb { D with nx:=λσ' H'=>Pv σ' H'/\μ σ' H'<μ σ H,ct:=λσ' H'=>Pv σ' H'/\μ σ' H'<μ σ H,bk:=D.nx } σ H1 else D.nx σ H1)
  (mono:∀σ H Q Q',(∀b H1,Q b H1->Q' b H1)->c σ H Q->c σ H Q'):zfM c tb D σ H:=by
 refine⟨λm σ H=>m=μ σ H/\Pv σ H,⟨_,rL,h0⟩,?_⟩
 rintro m σ H ⟨rfl,p⟩
 refine mono σ H _ _ (λb H1 q=>?_) (hs σ H p)
 cases b with
 |true=>exact⟨_,λσ' H' ⟨p',l⟩=>⟨_,l,rfl,p'⟩,q⟩
 |false=>exact q
abbrev R2:=V->V->Hp->VK->Prop
def OpR (X:Cx) (f:Value->Value->Sem Value) (r:R2):Prop :=
 ∀(pz:List (Addr×Obj)) (s:Shared) (σ:St) (H:Hp) (x y:V) (v u:Value) (Q:VK),Inv X pz σ H s->xl x v->xl y u->r x y H Q →
  wpAny (model X.prog X.w) X.A (f v u) (EP X pz σ Q) X.xe s
def UnR (X:Cx) (f:Value->Sem Value) (r:V->Hp->VK->Prop):Prop :=
 ∀(pz:List (Addr×Obj)) (s:Shared) (σ:St) (H:Hp) (x:V) (v:Value) (Q:VK),Inv X pz σ H s->xl x v->r x H Q →
  wpAny (model X.prog X.w) X.A (f v) (EP X pz σ Q) X.xe s
def vK (X:Cx) (f:Value) (r:List V->Hp->VK->Prop):Prop :=
 ∀(pz:List (Addr×Obj)) (s:Shared) (σ:St) (H:Hp) (xs:List V) (us:List Value) (Q:VK),Inv X pz σ H s->z6 xs us->r xs H Q →
  wpAny (model X.prog X.w) X.A (call f us) (EP X pz σ Q) X.xe s
def TruR (X:Cx) (r:V->Hp->(Bool->Hp->Prop)->Prop):Prop :=
 ∀(pz:List (Addr×Obj)) (s:Shared) (σ:St) (H:Hp) (x:V) (v:Value) (Q:Bool->Hp->Prop),Inv X pz σ H s->xl x v->r x H Q →
  wpAny (model X.prog X.w) X.A (truthy v) (TP X pz σ Q) X.xe s
def tOp (r:R2) (ta tb:TE):TE:=λσ H Q=>ta σ H λx H1=>tb σ H1 λy H2=>r x y H2 Q
def tUn (r:V->Hp->VK->Prop) (ta:TE):TE:=λσ H Q=>ta σ H λx H1=>r x H1 Q
inductive rIQ (C:Int->Int->Prop) (g:Int->Int->V) (x:V) (y:V) (H:Hp) (Q:VK):Prop
 |mk:∀i j,(x=.int i)->(y=.int j)->(C i j)->(Q (g i j) H)->rIQ C g x y H Q
def rI (C:Int->Int->Prop) (g:Int->Int->V):R2:=λx y H Q=>rIQ C g x y H Q
inductive zkr (g:Int->Int->V) (x:V) (y:V) (H:Hp) (Q:VK):Prop
 |mk:∀i j,(x=.int i)->(y=.int j)->(Q (g i j) H)->zkr g x y H Q
def rI0 (g:Int->Int->V):R2:=λx y H Q=>zkr g x y H Q
def rU (g:Int->V):V->Hp->VK->Prop:=λx H Q=>∃i,x=.int i/\Q (g i) H
section
variable {X:Cx}{a b c:Expr}{ta tb tc:TE}{pos:Pos}
theorem zhZ (ha:PE X a ta) (hb:PE X b tb){pz:List (Addr×Obj)}{s:Shared}{σ:St}{H:Hp}{R:V->V->Hp->Prop}(I:Inv X pz σ H s)
  (h:ta σ H λx H1=>tb σ H1 λy H2=>R x y H2){Q:Value->Shared->Prop}{f:Value->Value->Sem Value}
  (hf:∀v u s2 x y H2,Inv X pz σ H2 s2->xl x v->xl y u->R x y H2->wpAny (model X.prog X.w) X.A (f v u) Q X.xe s2) :
  wpAny (model X.prog X.w) X.A (eval a X.env) (λv s₁=>wpAny (model X.prog X.w) X.A (eval b X.env) (λu s₂=>wpAny (model X.prog X.w) X.A (f v u) Q X.xe s₂) X.xe s₁) X.xe s:=by
 refine thn (ha pz s σ H _ I h) λv s1 ⟨x,H1,I1,r1,q1⟩=>?_
 refine thn (hb pz s1 σ H1 _ I1 q1) λu s2 ⟨y,H2,I2,r2,q2⟩=>?_
 exact hf v u s2 x y H2 I2 r1 r2 q2
theorem zu {op:Operator}{r:R2}(ho:OpR X (binaryOp op) r) (ha:PE X a ta) (hb:PE X b tb):PE X (.BinOp a op b pos) (tOp r ta tb):=by
 intro pz s σ H Q I h
 exact wpAny_BinOp (zhZ ha hb I h λv u s2 x y H2 I2 rx ry q=>ho pz s2 σ H2 x y v u Q I2 rx ry q)
theorem vB {op:UnaryOp}{r:V->Hp->VK->Prop}(ho:UnR X (unaryOp op) r) (ha:PE X a ta):PE X (.UnaryOp op a pos) (tUn r ta):=by
 intro pz s σ H Q I h
 exact UnaryOp_ (thn (ha pz s σ H _ I h) λv s1 ⟨x,H1,I1,r1,q1⟩=>ho pz s1 σ H1 x v Q I1 r1 q1)
theorem opI {f:Value->Value->Sem Value}{C:Int->Int->Prop}{g:Int->Int->Int}
  (rule:∀(i j:Int) (t u:Tok) (s:Shared) (Q:Value->Shared->Prop) (E:Value->Shared->Prop),C i j->Q (.int (g i j) s.toks) { s with toks:=s.toks+1 }->wpAny (model X.prog X.w) X.A (f (.int i t) (.int j u)) Q E s) :
  OpR X f (rI C λi j=>.int (g i j)):=by
 intro pz s σ H x y v u Q I rx ry h
 obtain⟨i,j,rfl,rfl,hc,q⟩:=h
 obtain⟨t,rfl⟩:=rx
 obtain⟨t',rfl⟩:=ry
 exact rule i j t t' s _ _ hc ⟨.int (g i j),H,I.tok _,⟨_,rL⟩,q⟩
theorem zkn {f:Value->Value->Sem Value}{g:Int->Int->Int}
  (rule:∀(i j:Int) (t u:Tok) (s:Shared) (Q:Value->Shared->Prop) (E:Value->Shared->Prop),Q (.int (g i j) s.toks) { s with toks:=s.toks+1 }->wpAny (model X.prog X.w) X.A (f (.int i t) (.int j u)) Q E s) :
  OpR X f (rI0 λi j=>.int (g i j)):=by
 intro pz s σ H x y v u Q I rx ry h
 obtain⟨i,j,rfl,rfl,q⟩:=h
 obtain⟨t,rfl⟩:=rx
 obtain⟨t',rfl⟩:=ry
 exact rule i j t t' s _ _ ⟨.int (g i j),H,I.tok _,⟨_,rL⟩,q⟩
theorem zgE {f:Value->Value->Sem Value}{g:Int->Int->Bool}
  (rule:∀(i j:Int) (t u:Tok) (s:Shared) (Q:Value->Shared->Prop) (E:Value->Shared->Prop),Q (.bool (g i j)) s->wpAny (model X.prog X.w) X.A (f (.int i t) (.int j u)) Q E s) :
  OpR X f (rI0 λi j=>.bl (g i j)):=by
 intro pz s σ H x y v u Q I rx ry h
 obtain⟨i,j,rfl,rfl,q⟩:=h
 obtain⟨t,rfl⟩:=rx
 obtain⟨t',rfl⟩:=ry
 exact rule i j t t' s _ _ ⟨.bl (g i j),H,I,rL,q⟩
def CDiv (i j:Int):Prop:=0<j/\j<1073741824
def CPow (i j:Int):Prop:=0<=j/\j<=1000000/\i.natAbs<2^64
def zhS (i j:Int):Prop:=(-(2^64)<i/\i<2^64)\/(-(2^64)<j/\j<2^64)
theorem zhS.ok {i j:Int}(h:zhS i j):IntMulOk i j:=by
 rcases h with⟨h1,h2⟩ | ⟨h1,h2⟩
 ·exact .of_left (intBits_le_64 h1 h2)
 ·exact .of_right (intBits_le_64 h1 h2)
theorem xp:OpR X (binaryOp .Add) (rI0 λi j=>.int (i+j)):=zkn λ_ _ _ _ _ _ _ q=>add_int q
theorem qh:OpR X (binaryOp .Sub) (rI0 λi j=>.int (i-j)):=zkn λ_ _ _ _ _ _ _ q=>sub_int q
theorem Xw:OpR X (binaryOp .Mult) (rI zhS λi j=>.int (i*j)):=opI λ_ _ _ _ _ _ _ hc q=>mul_int q hc.ok
theorem zcs:OpR X (binaryOp .FloorDiv) (rI CDiv λi j=>.int (i/j)):=opI λi j _ _ _ _ _ hc q=>by
 have h1:(0:Int)<j:=hc.1
 have h2:j<1073741824:=hc.2
 exact floordiv_int (by omega) (by rw[wC i (by omega)];exact q) (.inl (PyProof.noPylong_small (by omega)))
theorem vN:OpR X (binaryOp .Mod) (rI (λ_ j=>0<j) λi j=>.int (i % j)):=opI λi j _ _ _ _ _ hc q=>by
 exact mod_int' ∅ (by rw[Int.fmod_eq_emod_of_nonneg i ∅];exact q)
theorem VB:OpR X (binaryOp .Pow) (rI CPow λi j=>.int (i^j.toNat)):=opI λ_ _ _ _ _ _ _ hc q=>pow_int_small hc.1 hc.2.1 hc.2.2 q
theorem unI {f:Value->Sem Value}{g:Int->Int}
  (rule:∀(i:Int) (t:Tok) (s:Shared) (Q:Value->Shared->Prop) (E:Value->Shared->Prop),Q (.int (g i) s.toks) { s with toks:=s.toks+1 }->wpAny (model X.prog X.w) X.A (f (.int i t)) Q E s) :
  UnR X f (rU λi=>.int (g i)):=by
 intro pz s σ H x v Q I rx h
 obtain⟨i,rfl,q⟩:=h
 obtain⟨t,rfl⟩:=rx
 exact rule i t s _ _ ⟨.int (g i),H,I.tok _,⟨_,rL⟩,q⟩
theorem qF:UnR X (unaryOp .USub) (rU λi=>.int (-i)):=unI λ_ _ _ _ _ q=>neg_int q
end
def zkA:V->V->Bool
 |.non,.non=>true | .non,.int _=>true | .int _,.non=>true | .non,.bl _=>true | .bl _,.non=>true | .non,.str _=>true | .str _,.non=>true
 |.int _,.int _=>true | .bl _,.bl _=>true | .str _,.str _=>true | .byt _,.byt _=>true
 |.int _,.str _=>true | .str _,.int _=>true | .bl _,.str _=>true | .str _,.bl _=>true
 |_,_=>false
def rEq:R2:=λx y H Q=>zkA x y=true/\Q (.bl (decide (x=y))) H
def rNe:R2:=λx y H Q=>zkA x y=true/\Q (.bl (!decide (x=y))) H
def zb8 {i j:Int}:decide (V.int i=V.int j)=(i == j):=by
 rw[uX]
 simp
def zdQ {i j:Bool}:decide (V.bl i=V.bl j)=(i == j):=by
 rw[uX]
 simp
def zb9 {i j:Str}:decide (V.str i=V.str j)=(i == j):=by
 rw[uX]
 simp
def zb7 {i j:Array UInt8}:decide (V.byt i=V.byt j)=(i.toList == j.toList):=by
 rw[uX]
 cases i
 cases j
 simp
section
variable {X:Cx}{a b c:Expr}{ta tb tc:TE}{pos:Pos}
theorem xh {pz:List (Addr×Obj)}{σ:St}{H:Hp}{s:Shared}{Q:VK}{k k':Bool}(I:Inv X pz σ H s) (q:Q (.bl k) H) (e:k=k'):EP X pz σ Q (.bool k') s:=by
 subst e
 exact⟨.bl k,H,I,rL,q⟩
theorem ZP:OpR X (compareOp .Eq) rEq:=by
 intro pz s σ H x y v u Q I rx ry h
 obtain⟨hs,q⟩:=h
 cases x with
 |non =>
  cases rx
  cases y with
  |non=>cases ry;exact PySem.EqNone.eq_none_none (xh I q (by simp))
  |bl j=>cases ry;exact PySem.EqNone.eq_none_bool (xh I q (by simp))
  |int j=>obtain⟨t',rfl⟩:=ry;exact PySem.EqNone.eq_none_int (xh I q (by simp))
  |str j=>obtain⟨t',rfl⟩:=ry;exact PySem.EqNone.eq_none_str (xh I q (by simp))
  |_=>exact absurd (show false=true from hs) ya
 |bl i =>
  cases rx
  cases y with
  |non=>cases ry;exact PySem.EqNone.eq_bool_none (xh I q (by simp))
  |bl j=>cases ry;exact eq_bool (xh I q zdQ)
  |str j=>obtain⟨t',rfl⟩:=ry;exact PySem.EqMixed.eq_bool_str (xh I q (by simp))
  |_=>exact absurd (show false=true from hs) ya
 |int i =>
  obtain⟨t,rfl⟩:=rx
  cases y with
  |non=>cases ry;exact PySem.EqNone.eq_int_none (xh I q (by simp))
  |int j=>obtain⟨t',rfl⟩:=ry;exact eq_int (xh I q zb8)
  |str j=>obtain⟨t',rfl⟩:=ry;exact PySem.EqMixed.eq_int_str (xh I q (by simp))
  |_=>exact absurd (show false=true from hs) ya
 |str i =>
  obtain⟨t,rfl⟩:=rx
  cases y with
  |non=>cases ry;exact PySem.EqNone.eq_str_none (xh I q (by simp))
  |bl j=>cases ry;exact PySem.EqMixed.eq_str_bool (xh I q (by simp))
  |int j=>obtain⟨t',rfl⟩:=ry;exact PySem.EqMixed.eq_str_int (xh I q (by simp))
  |str j=>obtain⟨t',rfl⟩:=ry;exact eq_str (xh I q zb9)
  |_=>exact absurd (show false=true from hs) ya
 |byt i =>
  obtain⟨t,rfl⟩:=rx
  cases y with
  |byt j=>obtain⟨t',rfl⟩:=ry;exact PySem.W.eq_bytes (xh I q zb7)
  |_=>exact absurd (show false=true from hs) ya
 |_=>cases y <;> exact absurd (show false=true from hs) ya
theorem zkp:OpR X (compareOp .NotEq) rNe:=by
 intro pz s σ H x y v u Q I rx ry h
 obtain⟨hs,q⟩:=h
 cases x with
 |non =>
  cases rx
  cases y with
  |non=>cases ry;exact PySem.EqNone.ne_none_none (xh I q (by simp))
  |bl j=>cases ry;exact PySem.EqNone.ne_none_bool (xh I q (by simp))
  |int j=>obtain⟨t',rfl⟩:=ry;exact PySem.EqNone.ne_none_int (xh I q (by simp))
  |str j=>obtain⟨t',rfl⟩:=ry;exact PySem.EqNone.ne_none_str (xh I q (by simp))
  |_=>exact absurd (show false=true from hs) ya
 |bl i =>
  cases rx
  cases y with
  |non=>cases ry;exact PySem.EqNone.ne_bool_none (xh I q (by simp))
  |bl j=>cases ry;exact ne_bool (xh I q (congrArg not zdQ))
  |str j=>obtain⟨t',rfl⟩:=ry;exact PySem.EqMixed.ne_bool_str (xh I q (by simp))
  |_=>exact absurd (show false=true from hs) ya
 |int i =>
  obtain⟨t,rfl⟩:=rx
  cases y with
  |non=>cases ry;exact PySem.EqNone.ne_int_none (xh I q (by simp))
  |int j=>obtain⟨t',rfl⟩:=ry;exact ne_int (xh I q (congrArg not zb8))
  |str j=>obtain⟨t',rfl⟩:=ry;exact PySem.EqMixed.ne_int_str (xh I q (by simp))
  |_=>exact absurd (show false=true from hs) ya
 |str i =>
  obtain⟨t,rfl⟩:=rx
  cases y with
  |non=>cases ry;exact PySem.EqNone.ne_str_none (xh I q (by simp))
  |bl j=>cases ry;exact PySem.EqMixed.ne_str_bool (xh I q (by simp))
  |int j=>obtain⟨t',rfl⟩:=ry;exact PySem.EqMixed.ne_str_int (xh I q (by simp))
  |str j=>obtain⟨t',rfl⟩:=ry;exact ne_str (xh I q (congrArg not zb9))
  |_=>exact absurd (show false=true from hs) ya
 |byt i =>
  obtain⟨t,rfl⟩:=rx
  cases y with
  |byt j=>obtain⟨t',rfl⟩:=ry;exact PySem.W.ne_bytes (xh I q (congrArg not zb7))
  |_=>exact absurd (show false=true from hs) ya
 |_=>cases y <;> exact absurd (show false=true from hs) ya
theorem Zi:OpR X (compareOp .Lt) (rI0 λi j=>.bl (decide (i<j))):=zgE λ_ _ _ _ _ _ _ q=>lt_int q
theorem zhx:OpR X (compareOp .LtE) (rI0 λi j=>.bl (decide (i<=j))):=zgE λ_ _ _ _ _ _ _ q=>le_int q
theorem Xp:OpR X (compareOp .Gt) (rI0 λi j=>.bl (decide (j<i))):=zgE λ_ _ _ _ _ _ _ q=>gt_int q
theorem zko:OpR X (compareOp .GtE) (rI0 λi j=>.bl (decide (j<=i))):=zgE λ_ _ _ _ _ _ _ q=>ge_int q
theorem qP:OpR X (compareOp .Is) (λx y H Q=>y=.non/\Q (.bl (decide (x=.non))) H):=by
 intro pz s σ H x y v u Q I rx ry h
 obtain⟨rfl,q⟩:=h
 cases ry
 refine is_none_gen (xh I q ?_)
 cases x <;> first
  | (cases rx;rfl)
  | (obtain⟨t,rfl⟩:=rx;rfl)
theorem Zp:OpR X (compareOp .IsNot) (λx y H Q=>y=.non/\Q (.bl (!decide (x=.non))) H):=by
 intro pz s σ H x y v u Q I rx ry h
 obtain⟨rfl,q⟩:=h
 cases ry
 refine isnot_none_gen (xh I q ?_)
 cases x <;> first
  | (cases rx;rfl)
  | (obtain⟨t,rfl⟩:=rx;rfl)
theorem zF (b:Expr){op:CmpOp}(h:op≠.In:=by decide) (h2:op≠.NotIn:=by decide):behindInMarks op b=false:=by
 have e1:(op == CmpOp.In)=false:=by cases op <;> first | rfl | exact absurd rfl h
 have e2:(op == CmpOp.NotIn)=false:=by cases op <;> first | rfl | exact absurd rfl h2
 cases b <;> simp[behindInMarks,e1,e2]
theorem xY {op:CmpOp}{r:R2}(ho:OpR X (compareOp op) r) (ha:PE X a ta) (hb:PE X b tb) (hm:behindInMarks op b=false):PE X (.Compare a [op] [b] pos) (tOp r ta tb):=by
 intro pz s σ H Q I h
 exact wpAny_Compare1 (zhZ ha hb I h λv u s2 x y H2 I2 rx ry q=>ho pz s2 σ H2 x y v u Q I2 rx ry q) hm
def zhQ (t:TE):TT:=λσ H Q=>t σ H λx H'=>∃k,x=.bl k/\Q k H'
theorem zH {op:CmpOp}{r:R2}(ho:OpR X (compareOp op) r) (ha:PE X a ta) (hb:PE X b tb) (hm:behindInMarks op b=false):PT X (.Compare a [op] [b] pos) (zhQ (tOp r ta tb)):=by
 intro pz s σ H Q I h
 refine wpAny_isTrue_Compare1 (thn (ha pz s σ H _ I h) λv s1 ⟨x,H1,I1,r1,q1⟩=>thn (hb pz s1 σ H1 _ I1 q1) λu s2 ⟨y,H2,I2,r2,q2⟩ =>
  thn (ho pz s2 σ H2 x y v u _ I2 r1 r2 q2) λc s3 ⟨z,H3,I3,r3,k,e,q3⟩=>?_) hm
 subst e
 cases r3
 exact uy ⟨H3,I3,q3⟩
def zfF (r r':R2) (ta tb tc:TE):TE:=λσ H Q=>ta σ H λx H1=>tb σ H1 λy H2=>r x y H2 λz H3=>∃k,z=.bl k ∧
 (if k=true then tc σ H3 λw' H4=>r' y w' H4 Q else Q (.bl false) H3)
theorem zeQ {op op':CmpOp}{r r':R2}(ho:OpR X (compareOp op) r) (ho':OpR X (compareOp op') r') (ha:PE X a ta) (hb:PE X b tb) (hc:PE X c tc)
  (hm:lastMarks [op,op'] [b,c]=false:=by with_unfolding_all rfl):PE X (.Compare a [op,op'] [b,c] pos) (zfF r r' ta tb tc):=by
 intro pz s σ H Q I h
 refine Compare_chain (thn (ha pz s σ H _ I h) λv s1 ⟨x,H1,I1,r1,q1⟩=>chain_link (thn (hb pz s1 σ H1 _ I1 q1) λu s2 ⟨y,H2,I2,r2,q2⟩ =>
  thn (ho pz s2 σ H2 x y v u _ I2 r1 r2 q2) λd s3 ⟨z,H3,I3,r3,k,e,q3⟩=>?_)) hm
 subst e
 cases r3
 refine uy ?_
 cases k with
 |false=>exact ite_ff ⟨.bl false,H3,I3,rfl,q3⟩
 |true=>exact ite_tt (chain_last (thn (hc pz s3 σ H3 _ I3 q3) λw' s4 ⟨z',H4,I4,r4,q4⟩=>ho' pz s4 σ H4 y z' u w' Q I4 r2 r4 q4))
theorem ze1 {op op':CmpOp}{r r':R2}(ho:OpR X (compareOp op) r) (ho':OpR X (compareOp op') r') (ha:PE X a ta) (hb:PE X b tb) (hc:PE X c tc)
  (hm:lastMarks [op,op'] [b,c]=false:=by with_unfolding_all rfl):PT X (.Compare a [op,op'] [b,c] pos) (zhQ (zfF r r' ta tb tc)):=by
 intro pz s σ H Q I h
 refine isTrue_chain (thn (ha pz s σ H _ I h) λv s1 ⟨x,H1,I1,r1,q1⟩=>test_link (thn (hb pz s1 σ H1 _ I1 q1) λu s2 ⟨y,H2,I2,r2,q2⟩ =>
  thn (ho pz s2 σ H2 x y v u _ I2 r1 r2 q2) λd s3 ⟨z,H3,I3,r3,k,e,q3⟩=>?_)) hm
 subst e
 cases r3
 refine uy ?_
 cases k with
 |false =>
  obtain⟨k',e',q'⟩:=q3
  cases e'
  exact ite_ff ⟨H3,I3,q'⟩
 |true =>
  refine ite_tt (test_last (thn (hc pz s3 σ H3 _ I3 q3) λw' s4 ⟨z',H4,I4,r4,q4⟩=>thn (ho' pz s4 σ H4 y z' u w' _ I4 r2 r4 q4) λd' s5 ⟨z2,H5,I5,r5,k2,e2,q5⟩=>?_))
  subst e2
  cases r5
  exact uy ⟨H5,I5,q5⟩
def zcR (K:Fg) (x:V) (H:Hp) (k:Bool):Prop :=
 match x with
 |.non=>k=false
 |.bl b=>k=b
 |.int i=>k=(i != 0)
 |.str y=>y.length<=sizeLine/\k=((y.length:Int) != 0)
 |.byt y=>y.size<=sizeLine/\k=((y.size:Int) != 0)
 |.ref p=>(∃xs,SqL K H p xs/\k = !xs.isEmpty)\/(∃xs,SqT K H p xs/\k = !xs.isEmpty)\/∃kvs,H p=some (.dK kvs)/\k = !kvs.isEmpty
 |_=>False
theorem zbt {κ:Type}{kvs:List (κ×V)}{vs:List (κ×Value)} (r:KV kvs vs):(!vs.isEmpty) = !kvs.isEmpty:=by
 cases r <;> rfl
theorem Vw {xs:List V}{its:List Value}(r:z6 xs its):(!its.toArray.isEmpty) = !xs.isEmpty:=by
 cases r <;> simp
theorem JX:(sizeLine:Nat)<2^63:=by rw[sizeLine_eq];decide
theorem zjF:TruR X (λx H Q=>∃k,zcR X.K x H k/\Q k H):=by
 intro pz s σ H x v Q I rx h
 obtain⟨k,e,q⟩:=h
 have hs:sizeLine=16777216:=sizeLine_eq
 cases x with
 |non =>
  cases rx
  have e':k=false:=e
  subst e'
  exact truthy_none ⟨H,I,q⟩
 |bl b =>
  cases rx
  have e':k=b:=e
  subst e'
  exact uy ⟨H,I,q⟩
 |int i =>
  obtain⟨t,rfl⟩:=rx
  have e':k=(i != 0):=e
  subst e'
  exact PySem.P.truthy_int ⟨H,I,q⟩
 |str y =>
  obtain⟨t,rfl⟩:=rx
  obtain⟨hy,e'⟩:y.length<=sizeLine/\k=((y.length:Int) != 0):=e
  subst e'
  exact PySem.P.truthy_str ∅ ⟨H,I.tok _,q⟩
 |byt y =>
  obtain⟨t,rfl⟩:=rx
  obtain⟨hy,e'⟩:y.size<=sizeLine/\k=((y.size:Int) != 0):=e
  subst e'
  exact PySem.W.truthy_bytes ∅ ⟨H,I.tok _,q⟩
 |ref p =>
  cases rx
  have e':(∃xs,SqL X.K H p xs/\k = !xs.isEmpty)\/(∃xs,SqT X.K H p xs/\k = !xs.isEmpty)\/∃kvs,H p=some (.dK kvs)/\k = !kvs.isEmpty:=e
  rcases e' with⟨xs,hx,e'⟩ | ⟨xs,hx,e'⟩ | ⟨kvs,hx,e'⟩
  ·subst e'
   obtain⟨its,r,pl,hz⟩:=I.list hx
   have hlen:=r.length
   exact wpAny_truthy_list pl.isList (by simp only[wN];lia) ⟨H,I.tok _,by rw[Vw r];exact q⟩
  ·subst e'
   obtain⟨its,r,pl,hz⟩:=I.tuple hx
   have hlen:=r.length
   exact truthy_tuple pl (by simp only[wN];lia) ⟨H,I.tok _,by rw[Vw r];exact q⟩
  ·subst e'
   obtain⟨hz,hS,vs,r,m⟩:kvs.length<=sizeLine/\(p == sysModules)=false/\∃vs,KV kvs vs/\s.heap.DictOf (qg X.prog X.w) p vs:=I.hok p _ hx
   have hlen:kvs.length=vs.length:=Paired.length r
   exact wpAny_truthy_dict hS m ∅ ⟨H,I.tok _,by rw[zbt r];exact q⟩
 |_=>exact(show False from e).elim
theorem qr (ha:PE X a ta) (he:∀whole,isTrue a X.env whole=(do let v <-whole;standAt a.pos;holding [v] (truthy v))) :
  PT X a (λσ H Q=>ta σ H λx H'=>∃k,zcR X.K x H' k/\Q k H'):=by
 intro pz s σ H Q I h
 exact isTrue_plain (thn (ha pz s σ H _ I h) λv s1 ⟨x,H1,I1,r1,q1⟩=>zjF pz s1 σ H1 x v Q I1 r1 q1) (he _)
theorem Z7 {x:V}{us:List Value}(r:z6 [x] us):∃u,us=[u]/\xl x u:=by
 cases r with
 |cons r1 r2=>cases r2;exact⟨_,rfl,r1⟩
theorem zcP {x y:V}{us:List Value}(r:z6 [x,y] us):∃u w',us=[u,w']/\xl x u/\xl y w':=by
 cases r with
 |cons r1 r2 =>
  cases r2 with
  |cons r3 r4=>cases r4;exact⟨_,_,rfl,r1,r3⟩
theorem qM:vK X (.builtin "abs") (λxs H Q=>∃i,xs=[.int i]/\Q (.int (if i<0 then -i else i)) H):=by
 intro pz s σ H xs us Q I r h
 obtain⟨i,rfl,q⟩:=h
 obtain⟨u,rfl,t,rfl⟩:=Z7 r
 exact call_abs_int λu tk=>⟨.int (if i<0 then -i else i),H,I.tok _,⟨_,rL⟩,q⟩
theorem V8 (hc:X.calm=true):vK X (.builtin "max") (λxs H Q=>∃i j,xs=[.int i,.int j]/\Q (.int (if j>i then j else i)) H):=by
 intro pz s σ H xs us Q I r h
 obtain⟨i,j,rfl,q⟩:=h
 obtain⟨u,w',rfl,⟨t,rfl⟩,⟨t',rfl⟩⟩:=zcP r
 refine max_two_ints (I.ok.hd hc) λh' tk k=>⟨_,H,I.kept k,?_,q⟩
 by_cases hj:j>i
 ·rw[if_pos hj,if_pos hj];exact⟨_,rfl⟩
 ·rw[if_neg hj,if_neg hj];exact⟨_,rfl⟩
theorem zcV (hc:X.calm=true):vK X (.builtin "min") (λxs H Q=>∃i j,xs=[.int i,.int j]/\Q (.int (if j<i then j else i)) H):=by
 intro pz s σ H xs us Q I r h
 obtain⟨i,j,rfl,q⟩:=h
 obtain⟨u,w',rfl,⟨t,rfl⟩,⟨t',rfl⟩⟩:=zcP r
 refine min_two_ints (I.ok.hd hc) λh' tk k=>⟨_,H,I.kept k,?_,q⟩
 by_cases hj:j<i
 ·rw[if_pos hj,if_pos hj];exact⟨_,rfl⟩
 ·rw[if_neg hj,if_neg hj];exact⟨_,rfl⟩
theorem Qw:vK X (.type "int") (λxs H Q=>(∃i,xs=[.int i]/\Q (.int i) H)\/∃k,xs=[.bl k]/\Q (.int (if k then 1 else 0)) H):=by
 intro pz s σ H xs us Q I r h
 rcases h with⟨i,rfl,q⟩ | ⟨k,rfl,q⟩
 ·obtain⟨u,rfl,t,rfl⟩:=Z7 r
  exact call_int_int ⟨.int i,H,I,⟨_,rL⟩,q⟩
 ·obtain⟨u,rfl,r1⟩:=Z7 r
  cases r1
  exact call_int_bool ⟨.int (if k then 1 else 0),H,I.tok _,⟨_,rL⟩,q⟩
end
structure zcQ (h:Heap) (x dx C:Addr) (mA:Str->Option Value):Prop where
 obj:h.get? x=some (PySem.W.instObj C dx)
 ns:h.Ns1 dx mA
 ne:dx≠x
def zde {h:Heap}{dx:Addr}{mA:Str->Option Value}(n:h.Ns1 dx mA):∃od,h.get? dx=some od/\∀name,PySem.W.lookIn name od=some (mA name):=by
 obtain⟨o,es,ep,ho,hd,hk,_,hm⟩:=n
 refine⟨o,ho,λname=>?_⟩
 have e:=hm name
 unfold nsFind findBy at e
 rw[<-Array.find?_toList]at e
 unfold PySem.W.lookIn
 rw[hd]
 nofun
 split
 ·rename_i y q
  rw[q]at e
  exact congrArg some e
 ·rename_i q
  rw[q]at e
  have a:es.toList.any (·.refKey)=false:=by
   rw[List.any_eq_false]
   intro y hy
   obtain⟨z,t,hkey⟩:=hk y (Array.mem_toList_iff.mp hy)
   simp[DictEntry.refKey,hkey]
  have a':¬es.toList.any (·.refKey)=true:=by rw[a];exact ya
  rw[if_neg a']
  exact congrArg some e
def zcQ.look {h:Heap}{x dx C:Addr}{mA:Str->Option Value}(I:zcQ h x dx C mA):∃od,PySem.W.InstAt h x (PySem.W.instObj C dx) C (some od)/\∀name,PySem.W.lookIn name od=some (mA name) :=
 let ⟨od,ho,hl⟩:=zde I.ns
 ⟨od,⟨I.obj,rfl,rfl,ho⟩,hl⟩
section
variable {prog:Program}{w:World}{A:Around}{E:Value->Shared->Prop}{s:Shared}{K:Fg}{x dx C f:Addr}{mA:Str->Option Value}{name:Str}{v:Value}
theorem zgj {expr:Bool}{Q:Value->Shared->Prop}(X:K.In s.heap) (I:zcQ s.heap x dx C mA) (hg:PySem.W.plainGet K C name=true) (hh:PySem.W.hasDictIn K C=true)
  (ha:PySem.W.findIn K (.ref C) name=some none) (hv:mA name=some v) (hv':PySem.W.handedIn v=true) (h:Q v { s with toks:=s.toks+1 }) :
  wpAny (model prog w) A (getAttr (.ref x) name expr) Q E s:=by
 obtain⟨od,J,hl⟩:=I.look
 exact PySem.W.get_value X J (PySem.W.plainGet_of hg).1 (PySem.W.findObj_own hh ha rfl (by rw[hl,hv])) hv' h
theorem zg2 {ns:List Str}{Q:Unit->Shared->Prop}(X:K.In s.heap) (I:zcQ s.heap x dx C mA)
  (hs:PySem.W.findIn K (.ref C) "__setattr__" = some (some (.builtin "object.__setattr__"))) (hp:PySem.W.plainOver K C=true) (ht:PySem.W.takerIn K C name=some none) (hh:PySem.W.hasDictIn K C=true)
  (hw:PySem.Within mA ns) (hsz:ns.length<=sizeLine)
  (h:∀h',zcQ h' x dx C (λy=>if y=name then some v else mA y)->Heap.SameBut dx s.heap h'->Q () { s with heap:=h',toks:=s.toks+2 }) :
  wpAny (model prog w) A (setAttr (.ref x) name v) Q E s:=by
 obtain⟨od,J,hl⟩:=I.look
 refine PySem.W.set_plain X J hs (PySem.W.osa_open (s:={ s with toks:=s.toks+1 }) (r:=none) X J hp ht λb=>?_)
 obtain⟨cd,hc,hd'⟩:=PySem.W.any_some hh
 have hx:s.heap.get? x=some ⟨.ref C,some dx,.plain,#[]⟩:=I.obj
 refine we (wn (we (we (wpAny_loadPart hx (we (PySem.W.Looks.here (s:={ s with toks:=s.toks+1 }) (PySem.W.looks_clsIn X hc) ?_))))))
 rw[hd']
 refine wn (a:=some dx) (we (wn (we ?_)))
 refine wpAny_nsSet1 (s:={ s with toks:=s.toks+1 }) I.ns λh' hn2 hs2=>?_
 obtain⟨oD,esD,epD,hoD,hdD,hcD⟩:=hn2.count (PySem.Within.cons name v hw)
 refine we (wpAny_lookBehind hoD (by rw[hdD];exact pastItsLine_dict (yJ hcD (by rw[wx];lia))) ?_)
 exact wn (h _ ⟨(hs2.2 _ (Ne.symm I.ne)).trans I.obj,hn2,I.ne⟩ hs2)
theorem zew {R:Result->Shared->Prop}{vs:List Value}{kw:List (Str×Value)} (X:K.In s.heap) (hm:PySem.W.makesIn K C=true)
  (hi:PySem.W.findIn K (.ref C) "__init__" = some (some (.ref f))) (hf:PySem.W.typeIn K (.ref f)=some (.type "function"))
  (h:codeAny (model prog w) (A.under (.builtin "type.__call__" ⟨.ref C::vs,kw⟩)) (.call (.ref f) ⟨.ref (s.heap.objs.size+1)::vs,kw⟩) (PySem.W.InitBack (s.heap.objs.size+1) R)
   { s with heap:=(s.heap.push PySem.W.emptyDict).push (PySem.W.instObj C s.heap.objs.size) }) :
  codeAny (model prog w) A (.call (.ref C) ⟨vs,kw⟩) R s:=by
 obtain⟨hh,g,d,t,os⟩:=s
 exact PySem.W.make_core (PySem.W.makes_of X hm) (PySem.W.looks_findIn X hi) (λself=>PySem.W.bind_fn X self hf) (.inl rL) h
end
def qe (f:Str) (v:V):List (Str×V)->List (Str×V)
 |[]=>[(f,v)]
 | (g,x)::r=>if g=f then(g,v)::r else(g,x)::qe f v r
def xA (f g:Str) (v:V):∀fs:List (Str×V),(qe f v fs).lookup g=if g=f then some v else fs.lookup g
 |[]=>by
  show List.lookup g [(f,v)]=_
  by_cases h:g=f
  ·have hb:(g == f)=true:=beq_iff_eq.mpr h
   simp only[List.lookup,hb,if_pos h]
  ·have hb:(g == f)=false:=beq_eq_false_iff_ne.mpr h
   simp only[List.lookup,hb,if_neg h]
 | (k,x)::r=>by
  have ih:=xA f g v r
  rw[show qe f v ((k,x)::r)=(if k=f then(k,v)::r else(k,x)::qe f v r)from rfl]
  by_cases hk:k=f
  ·rw[if_pos hk]
   by_cases h:g=k
   ·have hb:(g == k)=true:=beq_iff_eq.mpr h
    simp only[List.lookup,hb,if_pos (h.trans hk)]
   ·have hb:(g == k)=false:=beq_eq_false_iff_ne.mpr h
    simp only[List.lookup,hb,if_neg (λe:g=f=>h (e.trans hk.symm))]
  ·rw[if_neg hk]
   by_cases h:g=k
   ·have hb:(g == k)=true:=beq_iff_eq.mpr h
    simp only[List.lookup,hb,if_neg (λe:g=f=>hk (h.symm.trans e))]
   ·have hb:(g == k)=false:=beq_eq_false_iff_ne.mpr h
    simp only[List.lookup,hb]
    exact ih
def QC (f:Str) (v:V):∀fs:List (Str×V),f∈(qe f v fs).map (·.1)/\∀g,g∈fs.map (·.1)->g∈(qe f v fs).map (·.1)
 |[]=>⟨by simp[qe],λg h=>by simp at h⟩
 | (k,x)::r=>by
  obtain⟨i1,i2⟩:=QC f v r
  rw[show qe f v ((k,x)::r)=(if k=f then(k,v)::r else(k,x)::qe f v r)from rfl]
  by_cases hk:k=f
  ·rw[if_pos hk]
   subst hk
   exact⟨by simp,λg h=>↥h⟩
  ·rw[if_neg hk]
   refine⟨?_,λg h=>?_⟩
   ·rw[yg]
    exact wR _ i1
   ·rw[yg]at h ⊢
    rcases ww.mp h with e | e
    ·exact ww.mpr (.inl e)
    ·exact wR _ (i2 g e)
def QU (f:Str) (v:V):∀fs:List (Str×V),(qe f v fs).length<=fs.length+1
 |[]=>by simp[qe]
 | (k,x)::r=>by
  have ih:=QU f v r
  rw[show qe f v ((k,x)::r)=(if k=f then(k,v)::r else(k,x)::qe f v r)from rfl]
  by_cases hk:k=f
  ·rw[if_pos hk,wx,wx];lia
  ·rw[if_neg hk,wx,wx];lia
def Vp.some_of {v:V}{o:Option Value}(r:Vp (some v) o):∃u,o=some u/\xl v u:=by
 cases o with
 |none=>exact(show False from r).elim
 |some u=>exact⟨u,rfl,r⟩
def zc3 {v:V}{u:Value}(r:xl v u):PySem.W.handedIn u=true:=by
 cases v with
 |non=>cases(show u=Value.none from r);rfl
 |bl b=>cases(show u=Value.bool b from r);rfl
 |int i=>obtain⟨t,e⟩:=(show ∃t,u=Value.int i t from r);cases e;rfl
 |str x=>obtain⟨t,e⟩:=(show ∃t,u=Value.str x t from r);cases e;rfl
 |byt b=>obtain⟨t,e⟩:=(show ∃t,u=Value.bytes b t from r);cases e;rfl
 |flt b=>obtain⟨t,e⟩:=(show ∃t,u=Value.float b t from r);cases e;rfl
 |ref a=>cases(show u=Value.ref a from r);rfl
 |ty n=>cases(show u=Value.type n from r);rfl
section
variable {P:Program}{w:World}{H H':Hp}{h h':Heap}{a C dx:Addr}{fs fs':List (Str×V)}
theorem Qc (hok:HOk P w H h) (e:H a=some (.ins C dx fs)):∃mA,zcQ h a dx C mA/\(∀f,Vp (fs.lookup f) (mA f))/\PySem.Within mA (fs.map (·.1))/\fs.length<=1000/\H dx=some (.own a):=by
 obtain⟨d,z,ne,ob,mA,n,r,q⟩:=(show xP P w H h a (.ins C dx fs)from hok a _ e)
 exact⟨mA,⟨ob,n,ne⟩,r,q,z,d⟩
end
structure Cls (K:Fg) (C:Addr):Prop where
 pg:PySem.W.plainGet K C Str.empty=true
 hd:PySem.W.hasDictIn K C=true
 po:PySem.W.plainOver K C=true
 sa:PySem.W.findIn K (.ref C) "__setattr__" = some (some (.builtin "object.__setattr__"))
def Cls.get {K:Fg}{C:Addr}(c:Cls K C) (f:Str):PySem.W.plainGet K C f=true:=c.pg
def qx (K:Fg) (C:Addr) (f:Str):Prop:=PySem.W.findIn K (.ref C) f=some none
def qx.taker {K:Fg}{C:Addr}{f:Str}(n:qx K C f):PySem.W.takerIn K C f=some none:=by
 unfold PySem.W.takerIn
 rw[show PySem.W.findIn K (.ref C) f=some none from n]
 rfl
section
variable {X:Cx}{pz:List (Addr×Obj)}{σ:St}{H:Hp}{s:Shared}{a C dx:Addr}{fs:List (Str×V)}{f:Str}{v:V}{A:Around}{E:Value->Shared->Prop}
theorem Vv {b:Bool}{Q:Value->Shared->Prop}(I:Inv X pz σ H s) (e:H a=some (.ins C dx fs)) (c:Cls X.K C) (n:qx X.K C f) (l:fs.lookup f=some v)
  (h:∀u s',Inv X pz σ H s'->xl v u->Q u s'):wpAny (model X.prog X.w) A (getAttr (.ref a) f b) Q E s:=by
 obtain⟨mA,O,r,_,_,_⟩:=Qc I.hok e
 obtain⟨u,hu,ru⟩:=Vp.some_of (v:=v) (o:=mA f) (by rw[<-l];exact r f)
 exact zgj I.kIn O (c.get f) c.hd n hu (zc3 ru) (h u _ (I.tok _) ru)
theorem VL {y:V}{u:Value}{Q:Unit->Shared->Prop}(I:Inv X pz σ H s) (e:H a=some (.ins C dx fs)) (c:Cls X.K C) (n:qx X.K C f) (hl:fs.length<1000) (ry:xl y u)
  (h:∀s',Inv X pz σ (upd H a (.ins C dx (qe f y fs))) s'->Q () s'):wpAny (model X.prog X.w) A (setAttr (.ref a) f u) Q E s:=by
 obtain⟨mA,O,r,wi,_,ho⟩:=Qc I.hok e
 have hz:(fs.map (·.1)).length<=sizeLine:=by rw[wc,sizeLine_eq];lia
 refine zg2 I.kIn O c.sa c.po n.taker c.hd wi hz λh' O' sb=>h _ ?_
 have hd:∃o,h'.get? dx=some o:=let ⟨o,_,_,e',_⟩:=O'.ns;⟨o,e'⟩
 refine I.write (x:=a) (e:=dx) (by rw[e];exact True.intro) (.inr ho) (λb q hb z=>(sb.2 b hb).trans z) hd ?_
 refine⟨by rw[zT O.ne];exact ho,?_,O.ne,O'.obj,_,O'.ns,λg=>?_,λg hg=>?_⟩
 ·have:=QU f y fs;lia
 ·show Vp ((qe f y fs).lookup g) (if g=f then some u else mA g)
  rw[xA]
  by_cases q:g=f
  ·rw[if_pos q,if_pos q];exact ry
  ·rw[if_neg q,if_neg q];exact r g
 ·by_cases q:g=f
  ·rw[q];exact(QC f y fs).1
  ·refine(QC f y fs).2 g (wi g λz=>hg ?_)
   show (if g=f then some u else mA g)=none
   rw[if_neg q];exact z
theorem Inv.made (I:Inv X pz σ H s):Inv X pz σ (upd (upd H s.heap.objs.size (.own (s.heap.objs.size+1))) (s.heap.objs.size+1) (.ins C s.heap.objs.size []))
  { s with heap:=(s.heap.push PySem.W.emptyDict).push (PySem.W.instObj C s.heap.objs.size) }:=by
 have e1:(s.heap.push PySem.W.emptyDict).get? s.heap.objs.size=some PySem.W.emptyDict:=wH s.heap rfl
 have e2:((s.heap.push PySem.W.emptyDict).push (PySem.W.instObj C s.heap.objs.size)).get? (s.heap.objs.size+1)=some (PySem.W.instObj C s.heap.objs.size):=by
  have:=wH (s.heap.push PySem.W.emptyDict) (o:=PySem.W.instObj C s.heap.objs.size) rfl
  rwa [Wx]at this
 have e3:(s.heap.push PySem.W.emptyDict).Ns s.heap.objs.size (λ_=>none):=⟨PySem.W.emptyDict,#[],_,e1,rfl,(λe he=>absurd he (by simp)),λ_=>rfl⟩
 have I1:=I.laid (a:=s.heap.objs.size) (o:=.own (s.heap.objs.size+1)) (h':=s.heap.push PySem.W.emptyDict) (t':=s.toks) (λb u q=>wg _ q) (wo _) ⟨_,e1⟩
 refine I1.laid (a:=s.heap.objs.size+1) (o:=.ins C s.heap.objs.size []) (t':=s.toks) (λb u q=>wg _ q) (WX (Wx _ _)) ?_
 have ne:s.heap.objs.size≠s.heap.objs.size+1:=wZ (W6 _)
 refine⟨by rw[zT ne,zg],yb _,ne,e2,λ_=>none,(Heap.Ns1.of_empty e3).at λo q=>wg _ q,λ_=>True.intro,λy hy=>absurd rfl hy⟩
theorem zf2 {prog:Program}{w:World}{env:Env}{e:Expr}{f:Str}{pos:Pos}{s:Shared}{Q:Value->Shared->Prop}(hb:attributeBase e f env (eval e env)=eval e env)
  (h:wpAny (model prog w) A (eval e env) (λo s₁=>wpAny (model prog w) A (getAttr o f true) Q E s₁) E s):wpAny (model prog w) A (eval (.Attribute e f pos) env) Q E s :=
 Attribute_any_ h (by rw[arm_eval_Attribute,hb])
end
inductive zhO (K:Fg) (f:Str) (Q:VK) (x:V) (H1:Hp):Prop
 |mk:∀a C dx fs v,(x=.ref a)->(H1 a=some (.ins C dx fs))->(Cls K C)->(qx K C f)->(fs.lookup f=some v)->(Q v H1)->zhO K f Q x H1
def zkG (K:Fg) (ta:TE) (f:Str):TE:=λσ H Q=>ta σ H λx H1=>zhO K f Q x H1
def zi1 (K:Fg) (ta tv:TE) (f:Str):TS:=λD σ H=>tv σ H λy H1=>ta σ H1 λx H2=>∃a C dx fs,x=.ref a/\H2 a=some (.ins C dx fs)/\Cls K C/\qx K C f/\fs.length<1000 ∧
 D.nx σ (upd H2 a (.ins C dx (qe f y fs)))
def zjJ (X:Cx) (op:Operator) (rd:V->V->Hp->VK->Prop):Prop :=
 ∀(pz:List (Addr×Obj)) (s:Shared) (σ:St) (H:Hp) (x y:V) (u v:Value) (Q:VK),Inv X pz σ H s->xl x u->xl y v->rd x y H Q->wpAny (model X.prog X.w) X.A (inplaceOp op u v) (EP X pz σ Q) X.xe s
def zgT (K:Fg) (ta tv:TE) (rd:V->V->Hp->VK->Prop) (f:Str):TS:=λD σ H=>ta σ H λx H1=>∃a C dx fs v,x=.ref a/\H1 a=some (.ins C dx fs)/\Cls K C/\qx K C f/\fs.lookup f=some v ∧
 tv σ H1 λy H2=>rd v y H2 λz H3=>∃dx' fs',H3 a=some (.ins C dx' fs')/\fs'.length<1000/\D.nx σ (upd H3 a (.ins C dx' (qe f z fs')))
section
variable {X:Cx}{o e value:Expr}{f:Str}{pos pos' tpos:Pos}{ta tv:TE}
theorem xG (he:PE X e ta) (hb:attributeBase e f X.env (eval e X.env)=eval e X.env):PE X (.Attribute e f pos) (zkG X.K ta f):=by
 intro pz s σ H Q I h
 refine zf2 hb (thn (he pz s σ H _ I h) λu s1 ⟨x,H1,I1,rx,a,C,dx,fs,v,ex,ea,c,n,l,q⟩=>?_)
 subst ex
 obtain rfl:u=Value.ref a:=rx
 exact Vv I1 ea c n l λu' s2 I2 ru=>⟨v,H1,I2,ru,q⟩
theorem jZ (ha:PE X o ta) (hv:PE X value tv) (hs:swapsWith value (some (.Attribute o f pos')) pos.line X.env=pure false):PS X (.Assign [.Attribute o f pos'] value pos) (zi1 X.K ta tv f):=by
 intro pz s σ H D I h
 refine plainObj_wpAny_Assign_Attribute (thn (hv pz s σ H _ I h) λu s1 ⟨y,H1,I1,ry,q⟩=>thn (ha pz s1 σ H1 _ I1 q) λov s2 ⟨x,H2,I2,rx,a,C,dx,fs,ex,ea,c,n,l,q2⟩=>?_) hs
 subst ex
 obtain rfl:ov=Value.ref a:=rx
 exact VL I2 ea c n l ry λs3 I3=>⟨σ,_,I3,q2⟩
theorem Jr {op:Operator}{rd:V->V->Hp->VK->Prop}(ha:PE X o ta) (hv:PE X value tv) (hop:zjJ X op rd):PS X (.AugAssign (.Attribute o f tpos) op value pos) (zgT X.K ta tv rd f):=by
 intro pz s σ H D I h
 refine wpAny_AugAssign_AttributeAny (thn (ha pz s σ H _ I h) λov s1 ⟨x,H1,I1,rx,a,C,dx,fs,v,ex,ea,c,n,l,q⟩=>?_)
 subst ex
 obtain rfl:ov=Value.ref a:=rx
 refine Vv I1 ea c n l λu s2 I2 ru=>thn (hv pz s2 σ H1 _ I2 q) λw3 s3 ⟨y,H2,I3,ry,q3⟩=>thn (hop pz s3 σ H2 v y u w3 _ I3 ru ry q3) λw4 s4 ⟨z,H3,I4,rz,dx',fs',ea',l',q4⟩=>?_
 exact VL I4 ea' c n l' rz λs5 I5=>⟨σ,_,I5,q4⟩
end
section
variable {X:Cx}{pz:List (Addr×Obj)}{σ:St}{H:Hp}{s:Shared}{A:Around}{E:Value->Shared->Prop}{Q:Value->Shared->Prop}{c:Value}{b:Bool}
inductive Qv (K:Fg) (H:Hp):V->Value->Prop where
 |non:Qv K H .non (.type "NoneType")
 |bl (x:Bool):Qv K H (.bl x) (.type "bool")
 |int (i:Int):Qv K H (.int i) (.type "int")
 |str (x:Str):Qv K H (.str x) (.type "str")
 |flt (x:UInt64):Qv K H (.flt x) (.type "float")
 |lst {a:Addr}{xs:List V}(e:H a=some (.lst xs)):Qv K H (.ref a) (.type "list")
 |frz {a:Addr}{o:Obj}{xs:List V}(e:H a=some (.frz o (.lst xs))):Qv K H (.ref a) (.type "list")
 |tup {a:Addr}{xs:List V}(e:H a=some (.tup xs)):Qv K H (.ref a) (.type "tuple")
 |dK {a:Addr}{kvs:List (Key×V)} (e:H a=some (.dK kvs)):Qv K H (.ref a) (.type "dict")
 |dT {a:Addr}{kvs:List (List Key×V)} (e:H a=some (.dT kvs)):Qv K H (.ref a) (.type "dict")
 |ins {a C dx:Addr}{fs:List (Str×V)} (e:H a=some (.ins C dx fs)) (cl:Cls K C) (ha:PySem.W.findIn K (.ref C) "__class__" = some (some (.builtin "object.__class__")))
   (hn:PySem.W.specialIn K (.builtin "object.__class__") "__get__" = some (some (.builtin "getset_descriptor.__get__"))) (htk:PySem.W.takesIn K (.builtin "object.__class__")=some true)
   (hm:PySem.W.mroIn K C (.type "object")=some true):Qv K H (.ref a) (.ref C)
theorem zc6 {x:V}{u t:Value}(I:Inv X pz σ H s) (rx:xl x u) (ty:Qv X.K H x t) (e:PySem.W.kitOne X.K t c=some b) (h:∀tk,Q (.bool b) { s with toks:=tk }) :
  wpAny (model X.prog X.w) A (call (.builtin "isinstance") [u,c]) Q E s:=by
 cases ty with
 |non=>cases(show u=Value.none from rx);exact yW PySem.W.kitx_none I.kIn True.intro e (λz=>nomatch z) h
 |bl y=>cases(show u=Value.bool y from rx);exact yW PySem.W.kitx_bool I.kIn True.intro e (λz=>nomatch z) h
 |int i=>obtain⟨t,q⟩:=(show ∃t,u=Value.int i t from rx);cases q;exact yW PySem.W.kitx_int I.kIn True.intro e (λz=>nomatch z) h
 |str y=>obtain⟨t,q⟩:=(show ∃t,u=Value.str y t from rx);cases q;exact yW PySem.W.kitx_str I.kIn True.intro e (λz=>nomatch z) h
 |flt y=>obtain⟨t,q⟩:=(show ∃t,u=Value.float y t from rx);cases q;exact yW PySem.W.kitx_float I.kIn True.intro e (λz=>nomatch z) h
 |@lst a xs ea =>
  cases(show u=Value.ref a from rx)
  obtain⟨_,_,n,_,h1⟩:=(show xP X.prog X.w H s.heap a (.lst xs)from I.hok a _ ea)
  exact yW PySem.W.kitx_list I.kIn ⟨_,h1,rL⟩ e (λz=>nomatch z) h
 |@frz a ob xs ea =>
  cases(show u=Value.ref a from rx)
  obtain⟨_,_,_,n,_,h1⟩:=(show xP X.prog X.w H s.heap a (.frz ob (.lst xs))from I.hok a _ ea)
  exact yW PySem.W.kitx_list I.kIn ⟨_,h1,rL⟩ e (λz=>nomatch z) h
 |@tup a xs ea =>
  cases(show u=Value.ref a from rx)
  obtain⟨_,_,_,p⟩:=(show xP X.prog X.w H s.heap a (.tup xs)from I.hok a _ ea)
  obtain⟨o,h1,h2,_⟩:=p
  exact yW PySem.W.kitx_tuple I.kIn ⟨o,h1,h2⟩ e (λz=>nomatch z) h
 |@dK a kvs ea =>
  cases(show u=Value.ref a from rx)
  obtain⟨_,_,vs,_,p⟩:=(show xP X.prog X.w H s.heap a (.dK kvs)from I.hok a _ ea)
  obtain⟨o,es,ep,h1,h2,_⟩:=p
  exact yW PySem.W.kitx_dict I.kIn ⟨o,h1,h2.1⟩ e (λz=>nomatch z) h
 |@dT a kvs ea =>
  cases(show u=Value.ref a from rx)
  obtain⟨_,_,xs,_,o,es,ep,h1,h2,_⟩:=(show xP X.prog X.w H s.heap a (.dT kvs)from I.hok a _ ea)
  exact yW PySem.W.kitx_dict I.kIn ⟨o,h1,h2.1⟩ e (λz=>nomatch z) h
 |@ins a C dx fs ea cl ha hn htk hm =>
  cases(show u=Value.ref a from rx)
  obtain⟨mA,O,_⟩:=Qc I.hok ea
  obtain⟨od,J,_⟩:=O.look
  exact yW (PySem.W.kitx_own (cl.get _) cl.hd ha hn htk hm) I.kIn J e (λz=>nomatch z) h
end
structure xb (k:Nat) (A:Around):Prop where
 hd:A.handled=none
 dp:A.depth+3*k+5<recursionLimit
 un:A.units+16*k+200<cLine
def xb.mono {j k:Nat}{A:Around}(r:xb k A) (h:j<=k):xb j A:=⟨r.hd,by have:=r.dp;lia,by have:=r.un;lia⟩
def xb.md {j k:Nat}{A:Around}(r:xb k A) (h:j<=k:=by decide):xb j A:=r.mono h
def xb.deeper {k:Nat}{A:Around}(r:xb (k+1) A) (env:Env):xb k (A.deeper env) :=
 ⟨r.hd,by have:=r.dp;show A.depth+1+3*k+5<_;lia,by have:=r.un;show A.units+3+16*k+200<_;lia⟩
def zbA {A:Around}{C:Addr}{us:List Value}{kw:List (Str×Value)}:(A.under (.builtin "type.__call__" ⟨.ref C::us,kw⟩)).depth=A.depth+1:=by
 first | rfl | simp[Around.under,Code.weight,Code.isCreation,Code.isGuard,Code.isCaller,Code.frames,Code.isFrame,guardIds]
def zbB {A:Around}{C:Addr}{us:List Value}{kw:List (Str×Value)}:(A.under (.builtin "type.__call__" ⟨.ref C::us,kw⟩)).units=A.units+1:=by
 first | rfl | simp[Around.under,Code.cUnits,Code.frames,Code.isFrame]
def xb.make {k:Nat}{A:Around}(r:xb (k+1) A) (C:Addr) (us:List Value) (kw:List (Str×Value)):xb k (A.under (.builtin "type.__call__" ⟨.ref C::us,kw⟩)) :=
 ⟨r.hd,by have:=r.dp;rw[zbA];lia,by have:=r.un;rw[zbB];lia⟩
def xb.depth {k:Nat}{A:Around}(r:xb k A):A.depth<recursionLimit:=by have:=r.dp;lia
def xb.units {k:Nat}{A:Around}(r:xb k A):A.units+64<cLine:=by have:=r.un;lia
def Z6:TA:=λ_ H Q=>Q [] H
def xU (ta:TE) (tr:TA):TA:=λσ H Q=>ta σ H λx H1=>tr σ H1 λxs H2=>Q (x::xs) H2
section
variable {X:Cx}{e:Expr}{es:List Expr}{te:TE}{t:TA}{pos:Pos}
theorem zd:PA X [] Z6:=λ_ _ _ _ H Q I h=>Calls.spliced_nil ⟨[],H,I,.nil,h⟩
theorem za (ha:PE X e te) (hr:PA X es t) (hs:starEach (e::es) X.env=(false,eval e X.env)::starEach es X.env:=by rfl):PA X (e::es) (xU te t):=by
 intro pos pz s σ H Q I h
 rw[hs]
 show wpAny _ _ (spliced ((false,eval e X.env)::backTo pos (starEach es X.env))) _ _ s
 refine Calls.spliced_cons (thn (ha pz s σ H _ I h) λu s1 ⟨x,H1,I1,r1,q1⟩=>?_)
 exact thn (hr pos pz s1 σ H1 _ I1 q1) λus s2 ⟨xs,H2,I2,r2,q2⟩=>⟨x::xs,H2,I2,.cons r1 r2,q2⟩
def zjA (t:TA):TE:=λσ H Q=>t σ H λxs H1=>xs.length<=sizeLine/\∀p,H1 p=none->Q (.ref p) (upd H1 p (.tup xs))
def tLst (t:TA):TE:=λσ H Q=>t σ H λxs H1=>xs.length<=sizeLine/\∀p,H1 p=none->Q (.ref p) (upd H1 p (.lst xs))
theorem zS {x1} (h:PA X es t):PE X (.Tuple es x1 pos) (zjA t):=by
 intro pz s σ H Q I hq
 refine wpAny_Tuple_spliced (thn (h pos pz s σ H _ I hq) λus s1 ⟨xs,H1,I1,r,z,q⟩=>⟨by rw[<-r.length];exact z,?_⟩)
 have hf:H1 s1.heap.objs.size=none:=I1.hok.fresh (wo _)
 refine⟨.ref s1.heap.objs.size,upd H1 s1.heap.objs.size (.tup xs),I1.laid (t':=s1.toks) (λb u e=>wg _ e) (wo _) ?_,rL,q _ hf⟩
 exact⟨z,us,r,⟨_,wH _ rL,rL,_,rL⟩⟩
theorem xR (h:PA X es t):PE X (.List es pos) (tLst t):=by
 intro pz s σ H Q I hq
 refine wpAny_List_spliced (thn (h pos pz s σ H _ I hq) λus s1 ⟨xs,H1,I1,r,z,q⟩=>⟨by rw[<-r.length];exact z,?_⟩)
 have hf:H1 s1.heap.objs.size=none:=I1.hok.fresh (wo _)
 refine⟨.ref s1.heap.objs.size,upd H1 s1.heap.objs.size (.lst xs),I1.laid (t':=s1.toks) (λb u e=>wg _ e) (wo _) ?_,rL,q _ hf⟩
 exact⟨z,us,0,r,wH _ rL⟩
end
abbrev Sp:=List V->Hp->VK->XK->Prop
abbrev CXT:=List Env->Hp->Shared->XK->Value->Shared->Prop
structure zbd (P:Program) (w:World) (K:Fg) (mg:Str->Option Value) (base:Heap) (A:Around) (outer:List Env) (s:Shared) (H:Hp):Prop where
 frames:A.frames=some outer
 mod:Mod K mg base
 bs:∀b o,base.get? b=some o->s.heap.get? b=some o/\H b=none
 bsz:base.objs.size<=s.heap.objs.size
 funs:s.heap.FunFrames base outer
 frf:∀b∈frs outer,H b=none
 hok:HOk P w H s.heap
 bare:AllBare s.gens
def CE (outer:List Env) (P:Program) (w:World) (H:Hp) (s:Shared) (Q:VK) (u:Value) (s':Shared):Prop :=
 ∃v H',s'.os=s.os/\AllBare s'.gens/\Un (frs outer) [] H H' s.heap s'.heap/\HOk P w H' s'.heap/\xl v u/\Q v H'
def CR (CX:CXT) (outer:List Env) (P:Program) (w:World) (H:Hp) (s:Shared) (Q:VK) (E:XK) (r:Result) (s':Shared):Prop :=
 match r with
 |.ok (.ret u)=>CE outer P w H s Q u s'
 |.ok _=>False
 |.error e=>CX outer H s E e s'
structure ZH (P:Program) (w:World) (K:Fg) (mg:Str->Option Value) (base:Heap) (CX:CXT) (k:Nat) (f:Addr) (fd:FuncData) (ps:List Str) (sp:Sp):Prop where
 len:∀vs H Q E,sp vs H Q E->vs.length=ps.length
 run:∀(A:Around) (outer:List Env) (s:Shared) (H:Hp) (args:Args) (us:List Value) (vs:List V) (Q:VK) (E:XK),xb k A->zbd P w K mg base A outer s H->BindsTo s fd args (ps.zip us)->z6 vs us->sp vs H Q E →
  codeAny (model P w) A (.call (.ref f) args) (CR CX outer P w H s Q E) s
def zbd.make {P:Program}{w:World}{K:Fg}{mg:Str->Option Value}{base:Heap}{A:Around}{outer:List Env}{s:Shared}{H:Hp}(e:zbd P w K mg base A outer s H) (C:Addr) (us:List Value) (kw:List (Str×Value)) :
  zbd P w K mg base (A.under (.builtin "type.__call__" ⟨.ref C::us,kw⟩)) outer s H:=⟨by first | exact e.frames | (simpa [Around.under,Code.envs,Code.isFrame,pushEnvs]using e.frames),e.mod,e.bs,e.bsz,e.funs,e.frf,e.hok,e.bare⟩
section
variable {X:Cx}{pz:List (Addr×Obj)}{σ:St}{H:Hp}{s s':Shared}
theorem Inv.env0 (I:Inv X pz σ H s):zbd X.prog X.w X.K X.mg X.base X.A X.stack s H :=
 ⟨I.ok.frames,I.ok.mod,I.bs,yJ I.ok.bsz I.sz,I.stack,I.stkFree,I.hok,I.bare⟩
theorem Inv.after {Q:VK}{u:Value}(I:Inv X pz σ H s) (h:CE X.stack X.prog X.w H s Q u s'):EP X pz σ Q u s':=by
 obtain⟨v,H',os,bare,un,hok,r,q⟩:=h
 obtain⟨hh,g,d,t,os'⟩:=s'
 obtain rfl:os'=s.os:=os
 exact⟨v,H',I.call (h':=hh) (g':=g) (d':=d) (t':=t) (ch:=[]) un hok bare (λb z=>absurd z (by simp)),r,q⟩
end
def ZE (sp:Sp) (dvs:List V) (E:XK) (t:TA):TE:=λσ H Q=>t σ H λvs H1=>sp (vs++dvs) H1 Q E
def zkI (C:Addr) (sp:Sp) (dvs:List V) (E:XK) (t:TA):TE:=λσ H Q=>t σ H λvs H1=>∀x dx,H1 x=none->H1 dx=none->dx≠x →
 sp (.ref x::(vs++dvs)) (upd (upd H1 dx (.own x)) x (.ins C dx [])) (λv H2=>v=.non/\Q (.ref x) H2) E
def Ze (K:Fg) (fd:FuncData) (ps:List Str) (ds:List Value):Prop :=
 ∀(s:Shared) (us:List Value),K.In s.heap->(us++ds).length=ps.length->BindsTo s fd ⟨us,[]⟩ (ps.zip (us++ds))
def Ze.all {K:Fg}{fd:FuncData}{ps:List Str}(h:∀us:List Value,us.length=ps.length->bindArgs fd ⟨us,[]⟩=pure (ps.zip us)):Ze K fd ps []:=λs us _ hl=>by
 rw[yP]at hl ⊢
 exact .of_eq (h us hl)
def Vo (CX:CXT) (X:Cx) (E:XK):Prop:=∀(pz:List (Addr×Obj)) (σ:St) (H:Hp) (s:Shared) (e:Value) (s':Shared),Inv X pz σ H s->CX X.stack H s E e s'->X.xe e s'
section
variable {X:Cx}{CX:CXT}{k:Nat}{f C:Addr}{fd:FuncData}{ps:List Str}{sp:Sp}{dvs:List V}{ds:List Value}{E:XK}{x m:Str}{p pos apos:Pos}{e o:Expr}{es:List Expr}{ta:TE}{t:TA}
theorem zi0 {pz:List (Addr×Obj)}{σ:St}{H:Hp}{s:Shared}{Q:VK}{us:List Value}{vs:List V}(F:ZH X.prog X.w X.K X.mg X.base CX k f fd ps sp) (hr:xb k X.A) (hb:Ze X.K fd ps ds) (hd:z6 dvs ds) (hx:Vo CX X E)
  (I:Inv X pz σ H s) (r:z6 vs us) (h:sp (vs++dvs) H Q E):wpAny (model X.prog X.w) X.A (call (.ref f) us) (EP X pz σ Q) X.xe s:=by
 have r2:z6 (vs++dvs) (us++ds):=r.append hd
 have hl:(us++ds).length=ps.length:=by rw[<-r2.length];exact F.len _ _ _ _ h
 refine Ua (codeAny_mono (F.run X.A X.stack s H ⟨us,[]⟩ (us++ds) (vs++dvs) Q E hr I.env0 (hb s us I.kIn hl) r2 h) λr s' hq=>?_)
 cases r with
 |error e=>exact hx pz σ H s e s' I hq
 |ok fl =>
  cases fl with
  |ret u=>exact I.after hq
  |next=>exact False.elim hq
  |brk=>exact False.elim hq
  |cont=>exact False.elim hq
theorem zgH (F:ZH X.prog X.w X.K X.mg X.base CX k f fd ps sp) (hr:xb k X.A) (hg:Gl X x) (hm:X.mg x=some (.ref f)) (hk:PySem.W.keepIn X.K (.ref f)=true) (hb:Ze X.K fd ps ds) (hd:z6 dvs ds) (hx:Vo CX X E)
  (ha:PA X (e::es) t) (hdb:(x == ("__debug__":Str))=false:=by decide) (he:starEach (e::es) X.env=(false,eval e X.env)::starEach es X.env:=by rfl) (hpl:(backTo pos (starEach es X.env)).any (·.1)=false:=by rfl) :
  PE X (.Call (.Name x p) (e::es) [] pos) (ZE sp dvs E t):=by
 intro pz s σ H Q I h
 refine ui (Qf I hg hm ?_ hdb)
 refine Yp (h₀:=X.base) I.ok.mod.kin hk (thn (ha pos pz s σ H _ I h) λus s1 ⟨vs,H1,I1,r,q⟩=>⟨I1.kIn,?_⟩) he hpl
 exact zi0 F hr hb hd hx I1 r q
structure Mk (K:Fg) (C f:Addr):Prop where
 makes:PySem.W.makesIn K C=true
 init:PySem.W.findIn K (.ref C) "__init__" = some (some (.ref f))
 fn:PySem.W.isFn K (.ref f)=true
 kp:PySem.W.keepIn K (.ref C)=true
theorem ze9 {pz:List (Addr×Obj)}{σ:St}{H:Hp}{s:Shared}{Q:VK}{us:List Value}{vs:List V}(M:Mk X.K C f) (F:ZH X.prog X.w X.K X.mg X.base CX k f fd ps sp) (hr:xb (k+1) X.A) (hb:Ze X.K fd ps ds) (hd:z6 dvs ds)
  (hx:Vo CX X E) (I:Inv X pz σ H s) (r:z6 vs us)
  (h:∀x dx,H x=none->H dx=none->dx≠x->sp (.ref x::(vs++dvs)) (upd (upd H dx (.own x)) x (.ins C dx [])) (λv H2=>v=.non/\Q (.ref x) H2) E) :
  wpAny (model X.prog X.w) X.A (call (.ref C) us) (EP X pz σ Q) X.xe s:=by
 have hq:=h (s.heap.objs.size+1) s.heap.objs.size (I.hok.fresh (Nat.le_succ _)) (I.hok.fresh (wo _)) (wZ (W6 _))
 have I2:=Inv.made (C:=C) I
 have r2:z6 (V.ref (s.heap.objs.size+1)::(vs++dvs)) (Value.ref (s.heap.objs.size+1)::(us++ds)):=.cons rfl (r.append hd)
 have hl:(Value.ref (s.heap.objs.size+1)::us++ds).length=ps.length:=by
  have e:=r2.length
  rw[F.len _ _ _ _ hq]at e
  exact e.symm
 refine Ua (zew (f:=f) I.kIn M.makes M.init (beq_iff_eq.mp M.fn) (codeAny_mono (F.run _ X.stack _ _ ⟨Value.ref (s.heap.objs.size+1)::us,[]⟩ (Value.ref (s.heap.objs.size+1)::(us++ds)) _ _ E (hr.make C us [])
  (I2.env0.make C us []) (hb _ (Value.ref (s.heap.objs.size+1)::us) I2.kIn hl) r2 hq) λr s' hq'=>?_))
 cases r with
 |error e=>exact hx pz σ _ _ e s' I2 hq'
 |ok fl =>
  cases fl with
  |ret u =>
   obtain⟨v,H',I3,rv,ev,q3⟩:=I2.after hq'
   subst ev
   exact⟨rv,⟨V.ref (s.heap.objs.size+1),H',I3,rL,q3⟩⟩
  |next=>exact False.elim hq'
  |brk=>exact False.elim hq'
  |cont=>exact False.elim hq'
theorem zcv (M:Mk X.K C f) (F:ZH X.prog X.w X.K X.mg X.base CX k f fd ps sp) (hr:xb (k+1) X.A) (hg:Gl X x) (hm:X.mg x=some (.ref C)) (hb:Ze X.K fd ps ds) (hd:z6 dvs ds) (hx:Vo CX X E)
  (ha:PA X (e::es) t) (hdb:(x == ("__debug__":Str))=false:=by decide) (he:starEach (e::es) X.env=(false,eval e X.env)::starEach es X.env:=by rfl) (hpl:(backTo pos (starEach es X.env)).any (·.1)=false:=by rfl) :
  PE X (.Call (.Name x p) (e::es) [] pos) (zkI C sp dvs E t):=by
 intro pz s σ H Q I h
 refine ui (Qf I hg hm ?_ hdb)
 refine Yp (h₀:=X.base) I.ok.mod.kin M.kp (thn (ha pos pz s σ H _ I h) λus s1 ⟨vs,H1,I1,r,q⟩=>⟨I1.kIn,?_⟩) he hpl
 exact ze9 M F hr hb hd hx I1 r q
end
structure zB (N P:List Str) (sc:Scope):Prop where
 kind:sc.kind=.function
 co:sc.isCoroutine=false
 gen:sc.isGenerator=false
 nd:N.Nodup
 pre:N.take P.length=P
 par:∀x∈P,sc.names.lookup x=some .local ∨ sc.names.lookup x=some .cell
 nofree:∀y∈sc.names,y.2≠.free
def scq {N P:List Str}{sc:Scope}(a:sc.kind=.function:=by rfl) (b:sc.isCoroutine=false:=by rfl) (c:sc.isGenerator=false:=by rfl) (d:N.Nodup:=by decide +kernel) (e:N.take P.length=P:=by rfl) (f:∀x∈P,sc.names.lookup x=some .local ∨ sc.names.lookup x=some .cell:=by decide +kernel) (g:∀y∈sc.names,y.2≠.free:=by decide +kernel):zB N P sc:=⟨a,b,c,d,e,f,g⟩
def V7 {kindOf:Str->Option NameKind}{x:Str}:∀{binds:List (Str×Value)}{m:Str->Option Value},(∀v,(x,v)∉binds)->bindL kindOf binds m x=m x
 |[],_,_=>rfl
 | (n,v)::r,m,h=>by
  unfold bindL
  rw[V7 λw hw=>h w (wR _ hw)]
  split
  ·have:x≠n:=by rintro rfl;exact h v wB
   simp[this]
  ·rfl
def V5 {kindOf:Str->Option NameKind}{x:Str}:∀{binds:List (Str×Value)}{m:Str->Option Value},(∀v,(x,v)∉binds)->bindC kindOf binds m x=m x
 |[],_,_=>rfl
 | (n,v)::r,m,h=>by
  unfold bindC
  rw[V5 λw hw=>h w (wR _ hw)]
  split
  ·rfl
  ·have:x≠n:=by rintro rfl;exact h v wB
   simp[this]
def V6 {kindOf:Str->Option NameKind}{x:Str}{v:Value}:∀{P:List Str}{vs:List Value}{i:Nat}{m:Str->Option Value},P.Nodup->P[i]?=some x->vs[i]?=some v->kindOf x=some .local →
  bindL kindOf (P.zip vs) m x=some v
 |[],_,_,_,_,h,_,_=>by simp at h
 |_::_,[],_,_,_,_,h,_=>by simp at h
 |p::P,w::vs,0,m,nd,h1,h2,hk=>by
  simp at h1 h2;subst h1;subst h2
  show bindL kindOf ((p,w)::P.zip vs) m p=_
  unfold bindL
  rw[V7 λv hv=>(uz.mp nd).1 (YU hv).1,if_pos hk]
  simp
 |p::P,w::vs,i+1,m,nd,h1,h2,hk=>by
  show bindL kindOf ((p,w)::P.zip vs) m x=_
  unfold bindL
  exact V6 (i:=i) (uz.mp nd).2 ↥h1 ↥h2 hk
def V0 {kindOf:Str->Option NameKind}{x:Str}{v:Value}:∀{P:List Str}{vs:List Value}{i:Nat}{m:Str->Option Value},P.Nodup->P[i]?=some x->vs[i]?=some v->kindOf x≠some .local →
  bindC kindOf (P.zip vs) m x=some v
 |[],_,_,_,_,h,_,_=>by simp at h
 |_::_,[],_,_,_,_,h,_=>by simp at h
 |p::P,w::vs,0,m,nd,h1,h2,hk=>by
  simp at h1 h2;subst h1;subst h2
  show bindC kindOf ((p,w)::P.zip vs) m p=_
  unfold bindC
  rw[V5 λv hv=>(uz.mp nd).1 (YU hv).1,if_neg hk]
  simp
 |p::P,w::vs,i+1,m,nd,h1,h2,hk=>by
  show bindC kindOf ((p,w)::P.zip vs) m x=_
  unfold bindC
  exact V0 (i:=i) (uz.mp nd).2 ↥h1 ↥h2 hk
def vT (N:List Str) (vs:List V):St:=vs.map some++List.replicate (N.length-vs.length) none
def xc (CX:CXT) (P:Program) (w:World) (K:Fg) (mg:Str->Option Value) (base:Heap) (N:List Str) (qual:Str) (scope:Scope) (f:Addr) (cd:Value) (A:Around) (outer:List Env) (s:Shared) (H:Hp) (E:XK):Cx where
 prog:=P
 w:=w
 K:=K
 mg:=mg
 base:=base
 A:=A.deeper (envOfC qual scope s.heap.objs.size f cd)
 N:=N
 s₀:=s
 H₀:=H
 env:=envOfC qual scope s.heap.objs.size f cd
 outer:=outer
 stack:=envOfC qual scope s.heap.objs.size f cd::outer
 ex:=[]
 calm:=true
 fn:=λ_=>true
 pn:=[]
 xe:=λe s'=>wpAny (model P w) (A.deeper (envOfC qual scope s.heap.objs.size f cd)) (leaving (envOfC qual scope s.heap.objs.size f cd) e) (λ_ s''=>CX outer H s E e s'') (λe' s''=>CX outer H s E e' s'') s'
def zau {sc:Scope}{n:Nat}{x:Str}(h:sc.names.lookup x=some .cell):∃c,(cellsFrom n sc.names []).lookup x=some c:=by
 have q:=PySem.W.cellsFrom_some sc.names n [] (.inl h)
 exact Option.isSome_iff_exists.mp q
def zc5 {CX:CXT}{P:Program}{w:World}{K:Fg}{mg:Str->Option Value}{base:Heap}{N ps:List Str}{qual:Str}{scope:Scope}{f:Addr}{cd:Value}{A:Around}{outer:List Env}{s s1:Shared}{H:Hp}{E:XK}{us:List Value}{vs:List V}
  (S:zB N ps scope) (hd:A.handled=none) (e0:zbd P w K mg base A outer s H) (hl:vs.length=ps.length) (r:z6 vs us)
  (x:InCallC s s.heap.objs.size (bindL (envOfC qual scope s.heap.objs.size f cd).kindOf (ps.zip us) λ_=>none) (cellsFrom (s.heap.objs.size+1) scope.names []) (bindC (envOfC qual scope s.heap.objs.size f cd).kindOf (ps.zip us) λ_=>none) s1) :
  Inv (xc CX P w K mg base N qual scope f cd A outer s H E) [] (vT N vs) H s1:=by
 have hpl:ps.length<=N.length:=by have:=congrArg List.length S.pre;rw[yn]at this;lia
 obtain⟨h1,tk,rfl,hk⟩:=x.done
 have noA:∀b:Addr,b∉(xc CX P w K mg base N qual scope f cd A outer s H E).ex:=λb z=>absurd (show b∈([]:List Addr)from z) (by simp)
 refine⟨⟨e0.mod,S.kind,rL,rL,wo _,λy z c h1 h2=>?_,λy hy=>?_,λy c _ h=>?_,λ_=>hd,Around.frames_deeper e0.frames,.inr ⟨rL,rL⟩,λb z=>absurd z (noA b),e0.bs,e0.bsz,λb _ _=>noA b,λb z=>absurd z (noA b),e0.funs,e0.frf⟩,
  rfl,e0.bare,Un.kept hk,⟨_,x.toInCall.ns,λi y v h1 h2 h3=>?_⟩,λy c h=>⟨_,x.cell y c h⟩,e0.hok.fresh (wo _),λy c h=>?_,λp hp=>absurd (show p∈([]:List (Addr×Obj))from hp) (by simp),e0.hok.kept hk,?_⟩
 ·exact name_of_addr x.apart (PySem.mem_of_lookup h1) (PySem.mem_of_lookup h2)
 ·have hy:scope.names.lookup y=some .cell\/scope.names.lookup y=some .free:=hy
  rcases hy with hy | hy
  ·exact zau hy
  ·exact absurd rL (S.nofree _ (PySem.mem_of_lookup hy))
 ·exact Yn (x.above y c (PySem.mem_of_lookup h))
 ·have hi:i<vs.length:=by
   unfold vT at h2
   by_cases hi:i<vs.length
   ·exact hi
   ·rw[wT ↥hi]at h2
    rw[WJ]at h2
    split at h2 <;> cases h2
  have ha:vs[i]?=some v:=by
   unfold vT at h2
   rw[w8 ↥hi,wu]at h2
   cases e:vs[i]? with
   |none=>rw[e]at h2;cases h2
   |some a=>rw[e]at h2;cases h2;rfl
  obtain⟨u,hu,rv⟩:=r.get ha
  have hp:ps[i]?=some y:=by
   rw[<-S.pre,WE ∅];exact h1
  have ndP:ps.Nodup:=by rw[<-S.pre];exact S.nd.sublist (List.take_sublist _ _)
  refine⟨u,rv,?_⟩
  rcases S.par y (wL hp)with k | k
  ·exact .inl ⟨k,V6 ndP hp hu k⟩
  ·obtain⟨c,e⟩:=zau (n:=s.heap.objs.size+1) k
   refine .inr ⟨.inl k,c,e,?_⟩
   have q:=x.cell y c e
   rw[V0 ndP hp hu (by show scope.names.lookup y≠_;rw[k];decide)]at q
   exact q
 ·exact e0.hok.fresh (Yn (x.above y c (PySem.mem_of_lookup h)))
 ·unfold vT
  show _=N.length
  rw[wV,wc,uP]
  lia
def zd6 {CX:CXT}{P:Program}{w:World}{K:Fg}{mg:Str->Option Value}{base:Heap}{k:Nat}{f:Addr}{name qual:Str}{params:Arguments}{body:List Stmt}{scope:Scope}{dV kV doc pm cdv ct oc:Value}{an od:Option Addr}
  {osl:Array (Option Value)}{N ps:List Str}{sp:Sp}(lk:K.lookup f=some ⟨oc,od,.func (PySem.W.fnOf name qual params body scope dV kV doc pm an cdv ct),osl⟩) (hcd:PySem.W.codeIn K cdv qual=true) (S:zB N ps scope)
  (len:∀vs H Q E,sp vs H Q E->vs.length=ps.length)
  (hbody:∀(A:Around) (outer:List Env) (s:Shared) (H:Hp) (vs:List V) (Q:VK) (E:XK),xb k (A.deeper (envOfC qual scope s.heap.objs.size f cdv))->sp vs H Q E →
   ∃t,PSs (xc CX P w K mg base N qual scope f cdv A outer s H E) body t/\t { nx:=λ_ H'=>Q .non H',rt:=Q } (vT N vs) H) :
  ZH P w K mg base CX (k+1) f (PySem.W.fnOf name qual params body scope dV kV doc pm an cdv ct) ps sp:=by
 refine⟨len,λA outer s H args us vs Q E hr e0 hb r hsp=>?_⟩
 have hl:=len _ _ _ _ hsp
 have KX:K.In s.heap:=e0.mod.kin.keeps λb o e=>(e0.bs b o e).1
 have lim:s.heap.NoLimit:=e0.mod.nolimit.keeps λb o e=>(e0.bs b o e).1
 have hkind:∀y∈ps.zip us,scope.names.lookup y.1=some .local ∨ (scope.names.lookup y.1=some .cell/\((cellsFrom (s.heap.objs.size+1) scope.names []).lookup y.1).isSome=true):=λ⟨n,v⟩ hy=>by
  rcases S.par n (YU hy).1 with q | q
  ·exact .inl q
  ·exact .inr ⟨q,PySem.W.cellsFrom_some _ _ _ (.inl q)⟩
 refine codeAny_call_function hr.depth (KX _ _ lk) rL S.co S.gen rL (PySem.W.codeRec_of KX hcd) (hb _ _ _ _ ?_)
 refine wpAny_newFunctionEnv_cells S.kind hkind λenv he s1 x=>?_
 subst he
 refine⟨lim.keeps x.toInCall.keep,codeAny_func ?_⟩
 obtain⟨t,ht,hq⟩:=hbody A outer s H vs Q E (hr.deeper _) hsp
 have I:Inv (xc CX P w K mg base N qual scope f cdv A outer s H E) [] (vT N vs) H s1:=zc5 S hr.hd e0 hl r x
 refine uj (ht [] s1 (vT N vs) H _ I hq) (λfl s' hs=>?_) λe s' hs=>hs
 have fin:∀{σ':St}{H':Hp}{v:V}{u:Value},Inv (xc CX P w K mg base N qual scope f cdv A outer s H E) [] σ' H' s'->xl v u->Q v H'->CE outer P w H s Q u s' :=
  λ{σ' H' v u} J rv q=>⟨v,H',J.os,J.bare,J.base,J.hok,rv,q⟩
 cases fl with
 |ret u =>
  obtain⟨v,σ',H',J,rv,q⟩:=hs
  exact fin J rv q
 |next =>
  obtain⟨σ',H',J,q⟩:=hs
  exact fin (v:=V.non) (u:=Value.none) J rL q
 |brk =>
  obtain⟨_,_,_,q⟩:=hs
  exact False.elim q
 |cont =>
  obtain⟨_,_,_,q⟩:=hs
  exact False.elim q
section
variable {X:Cx}{x:Str}{p pos:Pos}{e:Expr}{es:List Expr}{t:TA}{id T:String}{r:List V->Hp->VK->Prop}
def tCB (r:List V->Hp->VK->Prop) (t:TA):TE:=λσ H Q=>t σ H λvs H1=>r vs H1 Q
theorem zQ (hc:vK X (.builtin id) r) (hg:Gl X x) (hm:X.mg x=none) (hv:bootBuiltins x=some (.builtin id)) (ha:PA X (e::es) t) (hn:x≠"__name__":=by decide) (hdb:(x == ("__debug__":Str))=false:=by decide)
  (he:starEach (e::es) X.env=(false,eval e X.env)::starEach es X.env:=by rfl) (hpl:(backTo pos (starEach es X.env)).any (·.1)=false:=by rfl):PE X (.Call (.Name x p) (e::es) [] pos) (tCB r t):=by
 intro pz s σ H Q I h
 refine ui (Zo I hg hm hv ?_ hn hdb)
 exact WY (thn (ha pos pz s σ H _ I h) λus s1 ⟨vs,H1,I1,r1,q1⟩=>hc pz s1 σ H1 vs us Q I1 r1 q1) he hpl
theorem vb (hc:vK X (.type T) r) (hg:Gl X x) (hm:X.mg x=none) (hv:bootBuiltins x=some (.type T)) (ha:PA X (e::es) t) (hn:x≠"__name__":=by decide) (hdb:(x == ("__debug__":Str))=false:=by decide)
  (he:starEach (e::es) X.env=(false,eval e X.env)::starEach es X.env:=by rfl) (hpl:(backTo pos (starEach es X.env)).any (·.1)=false:=by rfl):PE X (.Call (.Name x p) (e::es) [] pos) (tCB r t):=by
 intro pz s σ H Q I h
 refine ui (Zo I hg hm hv ?_ hn hdb)
 exact yO (thn (ha pos pz s σ H _ I h) λus s1 ⟨vs,H1,I1,r1,q1⟩=>hc pz s1 σ H1 vs us Q I1 r1 q1) he hpl
end
end L2
namespace HT
open PySem PyProof.Rows
end HT
namespace L2
open PySem PySem.Spec PyProof.Rows
def Xv {ns:List Int}:∀{us:List Value},z6 (ns.map V.int) us->IntsAre us ns:=by
 induction ns with
 |nil=>intro us r;rw[YV]at r;cases r;exact .nil
 |cons n ns ih =>
  intro us r
  rw[yg]at r
  cases r with
  |cons r1 r2 =>
   obtain⟨t,e⟩:=r1
   subst e
   exact .cons n t (ih r2)
def ixN (n:Nat) (i:Int):Option Nat:=if 0<=i then(if i<n then some i.toNat else none)else if -(n:Int)<=i then some (i+n).toNat else none
def atI {α:Type}(xs:List α) (i:Int):Option α:=(ixN xs.length i).bind λj=>xs[j]?
def zch {n:Nat}{i:Int}{j:Nat}(h:ixN n i=some j):seqIndex? i n=some j/\j<n ∧ -(n:Int)<=i/\i<n:=by
 unfold ixN at h
 by_cases h0:0<=i
 ·rw[if_pos h0]at h
  by_cases h1:i<n
  ·rw[if_pos h1]at h
   have e:i.toNat=j:=Option.some.inj h
   exact⟨by rw[seqIndex_of h0 h1,e],by lia,by lia,h1⟩
  ·rw[if_neg h1]at h;cases h
 ·rw[if_neg h0]at h
  by_cases h1 : -(n:Int)<=i
  ·rw[if_pos h1]at h
   have e:(i+n).toNat=j:=Option.some.inj h
   exact⟨by rw[seqIndex_neg ∅ h1,e],by lia,h1,by lia⟩
  ·rw[if_neg h1]at h;cases h
def zb2 {α:Type}{xs:List α}{i:Int}{v:α}(h:atI xs i=some v):∃j,seqIndex? i xs.length=some j/\xs[j]?=some v/\j<xs.length ∧ -(xs.length:Int)<=i/\i<xs.length:=by
 unfold atI at h
 cases e:ixN xs.length i with
 |none=>rw[e]at h;cases h
 |some j =>
  rw[e]at h
  obtain⟨h1,h2,h3,h4⟩:=zch e
  exact⟨j,h1,h,h2,h3,h4⟩
def JD {α:Type}{xs:List α}{j:Nat}{v:α}(h:xs[j]?=some v):atI xs (j:Int)=some v:=by
 have hj:j<xs.length:=(wS.mp h).1
 have e:ixN xs.length (j:Int)=some j:=by
  unfold ixN
  rw[if_pos ∅,if_pos ∅];simp
 unfold atI;rw[e];exact h
def zfW (b:Expr):Prop:=∀o i,subscripted b false o i=operate [o,i] (getItem o i)
def IxR (X:Cx) (r:R2):Prop :=
 ∀(value slice:Expr) (pz:List (Addr×Obj)) (s:Shared) (σ:St) (H:Hp) (x y:V) (v u:Value) (Q:VK),Inv X pz σ H s->xl x v->xl y u->r x y H Q →
  subscripted slice false v u=operate [v,u] (getItem v u)->wpAny (model X.prog X.w) X.A (subscriptTail value slice v u) (EP X pz σ Q) X.xe s
def MtR (X:Cx) (id:String) (r:V->List V->Hp->VK->Prop):Prop :=
 ∀(pz:List (Addr×Obj)) (s:Shared) (σ:St) (H:Hp) (x:V) (xs:List V) (v:Value) (us:List Value) (Q:VK),Inv X pz σ H s->xl x v->z6 xs us->r x xs H Q →
  wpAny (model X.prog X.w) X.A (call (.builtin id) (v::us)) (EP X pz σ Q) X.xe s
section
variable {X:Cx}{a b:Expr}{ta tb:TE}{pos:Pos}
theorem qp {r:R2}(hr:IxR X r) (ha:PE X a ta) (hb:PE X b tb) (hs:zfW b):PE X (.Subscript a b pos) (tOp r ta tb):=by
 intro pz s σ H Q I h
 exact Subscript_ (zhZ ha hb I h λv u s2 x y H2 I2 rx ry q=>hr a b pz s2 σ H2 x y v u Q I2 rx ry q (hs _ _))
inductive zhE (K:Fg) (x:V) (y:V) (H:Hp) (Q:VK):Prop
 |mk:∀p xs i v,(x=.ref p)->(y=.int i)->(SqL K H p xs)->(atI xs i=some v)->(Q v H)->zhE K x y H Q
def rIxL (K:Fg):R2:=λx y H Q=>zhE K x y H Q
inductive zhF (K:Fg) (x:V) (y:V) (H:Hp) (Q:VK):Prop
 |mk:∀p xs i v,(x=.ref p)->(y=.int i)->(SqT K H p xs)->(atI xs i=some v)->(Q v H)->zhF K x y H Q
def vE (K:Fg):R2:=λx y H Q=>zhF K x y H Q
theorem qy:IxR X (rIxL X.K):=by
 intro value slice pz s σ H x y v u Q I rx ry h hs
 obtain⟨p,xs,i,z,rfl,rfl,hq,he,q⟩:=h
 cases rx
 obtain⟨t,rfl⟩:=ry
 obtain⟨its,r,pl,hz⟩:=I.list hq
 obtain⟨j,h1,h2,h3,h4,h5⟩:=zb2 he
 obtain⟨w,ew,rw'⟩:=r.get h2
 have hl:=r.length
 have hn:=JX
 have fin:EP X pz σ Q w s:=⟨z,H,I,rw',q⟩
 by_cases h0:0<=i
 ·have hj:i.toNat=j:=by
   rw[seqIndex_of h0 h5]at h1
   exact Option.some.inj h1
  exact item_listR pl.isList h0 ∅ (by rw[hj];simpa using ew) fin hs
 ·have hj:(i+(its.toArray.size:Int)).toNat=j:=by
   rw[seqIndex_neg ∅ h4]at h1
   rw[wN,<-hl]
   exact Option.some.inj h1
  exact subscriptTail_builtinR (x:=w) pl.isList.typeIs slot_list_getitem.lookup
   (wpAny_getItem_list_neg (Q:=λr s'=>r=w/\EP X pz σ Q r s') pl.isList ∅ (by rw[wN] <;> lia) ∅ (by rw[hj];simpa using ew) ⟨rfl,fin⟩) hs
theorem JV:IxR X (vE X.K):=by
 intro value slice pz s σ H x y v u Q I rx ry h hs
 obtain⟨p,xs,i,z,rfl,rfl,hq,he,q⟩:=h
 cases rx
 obtain⟨t,rfl⟩:=ry
 obtain⟨its,r,pl,hz⟩:=I.tuple hq
 obtain⟨j,h1,h2,h3,h4,h5⟩:=zb2 he
 obtain⟨w,ew,rw'⟩:=r.get h2
 have hl:=r.length
 have hn:=JX
 have fin:EP X pz σ Q w s:=⟨z,H,I,rw',q⟩
 exact subscriptTail_builtinR (x:=w) pl.typeIs slot_tuple_getitem.lookup
  (getItem_tuple (j:=j) (Q:=λr s'=>r=w/\EP X pz σ Q r s') pl ∅ ∅ (by rw[wN,<-hl];exact h1) ↥ew ⟨rfl,fin⟩) hs
theorem pxt {a:Expr}{ta:TE}{i:Int}{j:_}{p q:Pos}(ha:PE X a ta):PE X (.Subscript a (.Constant (.int i) j p) q) (tOp (vE X.K) ta (tC (.int i))):=qp JV ha zi (λ_ _=>rfl)
theorem zbC (its:List Value) (n j:Nat) (u:Value):Obj.mapSeq (·.setIfInBounds j u) { cls:=.type "list",data:=.seq its.toArray n } = { cls:=.type "list",data:=.seq (its.set j u).toArray n }:=by
 simp[Obj.mapSeq]
theorem Inv.lst {pz:List (Addr×Obj)}{σ:St}{H:Hp}{s:Shared}{p:Addr}{xs:List V}(I:Inv X pz σ H s) (h:H p=some (.lst xs)) :
  ∃(its:List Value) (n:Nat),z6 xs its/\s.heap.get? p=some { cls:=.type "list",data:=.seq its.toArray n }/\xs.length<=sizeLine:=by
 obtain⟨z,its,n,r,e⟩:=I.hok p _ h
 exact⟨its,n,r,e,z⟩
theorem Inv.lstUpd {pz:List (Addr×Obj)}{σ:St}{H:Hp}{s:Shared}{p:Addr}{xs ys:List V}{its its':List Value}{n n':Nat}{f:Obj->Obj}(I:Inv X pz σ H s) (h:H p=some (.lst xs))
  (ho:s.heap.get? p=some { cls:=.type "list",data:=.seq its.toArray n }) (hf:f { cls:=.type "list",data:=.seq its.toArray n } = { cls:=.type "list",data:=.seq its'.toArray n' }) (r:z6 ys its') (hz:ys.length<=sizeLine) (t:Nat) :
  Inv X pz σ (upd H p (.lst ys)) { s with heap:=s.heap.update p f,toks:=t }:=by
 have e:(s.heap.update p f).get? p=some { cls:=.type "list",data:=.seq its'.toArray n' }:=by
  rw[yQ f ho (by rw[hf] <;> rfl),hf]
 refine I.write (x:=p) (e:=p) (by rw[h];trivial) (.inl rfl) (λb u hb q=>(yh _ _ (Ne.symm hb)).trans q) ⟨_,e⟩ ?_
 exact⟨hz,its',n',r,e⟩
def zkt:V->V->V->Hp->(Hp->Prop)->Prop:=λo i v H Q=>∃p xs k j,o=.ref p/\i=.int k/\H p=some (.lst xs)/\ixN xs.length k=some j/\Q (upd H p (.lst (xs.set j v)))
theorem zaY:zjM X zkt:=by
 intro pz s σ H o i v ov iv u Q I ro ri rv h
 obtain⟨p,xs,k,j,rfl,rfl,hp,hj,q⟩:=h
 cases ro
 obtain⟨t,rfl⟩:=ri
 obtain⟨its,n,r,ho,hz⟩:=I.lst hp
 obtain⟨h1,h2,h3,h4⟩:=zch hj
 have hl:=r.length
 have hn:=JX
 have I':Inv X pz σ (upd H p (.lst (xs.set j v))) { s with heap:=s.heap.update p (Obj.mapSeq (·.setIfInBounds j u)) } :=
  I.lstUpd hp ho (zbC its n j u) (r.set rv j) (by rw[List.length_set];exact hz) s.toks
 by_cases h0:0<=k
 ·have hk:k.toNat=j:=by
   rw[seqIndex_of h0 h4]at h1
   exact Option.some.inj h1
  exact PySem.W.ki_setAt ho h0 ∅ (by rw[wN,<-hl];exact h4) (by rw[hk];exact⟨_,I',q⟩)
 ·have hk:(k+(its.toArray.size:Int)).toNat=j:=by
   rw[seqIndex_neg ∅ h3]at h1
   rw[wN,<-hl]
   exact Option.some.inj h1
  exact PySem.W.ki_setBack ho ∅ (by rw[wN,<-hl];exact h3) ∅ (by rw[hk];exact⟨_,I',q⟩)
theorem xj:vK X (.builtin "len") (λxs H Q=>∃p ys,xs=[.ref p]/\(SqL X.K H p ys\/SqT X.K H p ys)/\Q (.int ys.length) H):=by
 intro pz s σ H xs us Q I r h
 obtain⟨p,ys,rfl,hq,q⟩:=h
 obtain⟨u,rfl,rx⟩:=Z7 r
 cases rx
 have hn:=JX
 rcases hq with hq | hq
 ·obtain⟨its,r',pl,hz⟩:=I.list hq
  have hlen:=r'.length
  exact Calls.call_len_list pl.isList (by simp only[wN] <;> lia) ⟨.int ys.length,H,I.tok _,⟨s.toks+1,by rw[wN,hlen]⟩,q⟩
 ·obtain⟨its,r',pl,hz⟩:=I.tuple hq
  have hlen:=r'.length
  exact len_tuple pl (by simp only[wN] <;> lia) ⟨.int ys.length,H,I.tok _,⟨s.toks+1,by rw[wN,hlen]⟩,q⟩
theorem JI:vK X (.type "list") (λxs H Q=>∃p ys,xs=[.ref p]/\(SqL X.K H p ys\/SqT X.K H p ys)/\∀l,H l=none->Q (.ref l) (upd H l (.lst ys))):=by
 intro pz s σ H xs us Q I r h
 obtain⟨p,ys,rfl,hq,q⟩:=h
 obtain⟨u,rfl,rx⟩:=Z7 r
 cases rx
 have fin:∀(its:List Value),z6 ys its->ys.length<=sizeLine->∀(h':Heap) (c':Nat),(∀b o',s.heap.get? b=some o'->h'.get? b=some o') →
   h'.get? s.heap.objs.size=some { cls:=.type "list",dict:=none,data:=.seq its.toArray c',slots:=#[] }->EP X pz σ Q (.ref s.heap.objs.size) { s with heap:=h' }:=λits r' hz h' c' kp e =>
  ⟨.ref s.heap.objs.size,_,I.laid (t':=s.toks) kp (wo _) (show xP X.prog X.w _ h' _ (.lst ys)from⟨hz,its,c',r',e⟩),rfl,q _ (I.hok.fresh (wo _))⟩
 rcases hq with hq | hq
 ·obtain⟨its,r',pl,hz⟩:=I.list hq
  have hlen:=r'.length
  obtain⟨o,ho,hc,n,hd⟩:=pl.isList
  exact call_list_seq p (.inl rfl) ho hc hd (λh' c' kp e=>fin its r' hz h' c' kp e) (by simp only[wN] <;> lia)
 ·obtain⟨its,r',pl,hz⟩:=I.tuple hq
  have hlen:=r'.length
  obtain⟨o,ho,hc,n,hd⟩:=pl
  exact call_list_seq p (.inr rfl) ho hc hd (λh' c' kp e=>fin its r' hz h' c' kp e) (by simp only[wN] <;> lia)
theorem jW:vK X (.type "tuple") (λxs H Q=>∃p ys,xs=[.ref p]/\((SqL X.K H p ys/\∀l,H l=none->Q (.ref l) (upd H l (.tup ys)))\/(SqT X.K H p ys/\Q (.ref p) H))):=by
 intro pz s σ H xs us Q I r h
 obtain⟨p,ys,rfl,h⟩:=h
 obtain⟨u,rfl,rx⟩:=Z7 r
 cases rx
 rcases h with⟨hq,q⟩ | ⟨hq,q⟩
 ·obtain⟨its,r',pl,hz⟩:=I.list hq
  have hlen:=r'.length
  refine call_tuple_list pl.isList (λh' kp=>?_) (by simp only[wN] <;> lia)
  have I1:Inv X pz σ H { s with heap:=h' }:=I.kept (t':=s.toks) kp
  have I2:Inv X pz σ (upd H h'.objs.size (.tup ys)) { s with heap:=h'.push { cls:=.type "tuple",data:=.seq its.toArray } } :=
   I1.laid (t':=s.toks) (λb o e=>wg _ e) (wo _) (show xP X.prog X.w _ _ _ (.tup ys)from⟨hz,its,r',IsTup.new _ _⟩)
  exact⟨.ref h'.objs.size,_,I2,rL,q _ (I1.hok.fresh (wo _))⟩
 ·obtain⟨its,r',pl,hz⟩:=I.tuple hq
  exact call_tuple_same pl ⟨.ref p,H,I,rL,q⟩
def tyV (K:Fg) (T:String) (x:V) (H:Hp):Prop:=match x with
 |.str _=>T = "str"
 |.int _=>T = "int"
 |.ref p=>(T = "list"/\∃xs,SqL K H p xs)\/(T = "tuple"/\∃o,K.lookup p=some o/\o.cls=.type "tuple"/\o.dict=none) ∨
   (T = "dict"/\((∃kvs,H p=some (.dK kvs))\/∃kvs,H p=some (.dT kvs)))\/(T = "set"/\∃S n,H p=some (.set S n))
 |_=>False
theorem zjG {pz:List (Addr×Obj)}{σ:St}{H:Hp}{s:Shared}{T:String}{x:V}{v:Value}(I:Inv X pz σ H s) (r:xl x v) (ty:tyV X.K T x H) :
  s.TypeIs v T/\∀a,v=.ref a->∃ob,s.heap.get? a=some ob/\ob.dict=none:=by
 cases x with
 |str z =>
  obtain⟨t,rfl⟩:=r
  cases(show T = "str" from ty)
  exact⟨typeIs_str s z t,λ_ e=>nomatch e⟩
 |int i =>
  obtain⟨t,rfl⟩:=r
  cases(show T = "int" from ty)
  exact⟨typeIs_int s i t,λ_ e=>nomatch e⟩
 |ref p =>
  cases r
  rcases ty with⟨rfl,xs,hq⟩ | ⟨rfl,o,hk,hc,hd⟩ | ⟨rfl,hk⟩ | ⟨rfl,S,n,hk⟩
  ·obtain⟨its,_,pl,_⟩:=I.list hq
   refine⟨pl.isList.typeIs,λa e=>?_⟩
   cases e
   obtain⟨o,n,e,c,hd,_⟩:=pl
   exact⟨o,e,hd⟩
  ·refine⟨⟨o,I.kIn p o hk,hc⟩,λa e=>?_⟩
   cases e
   exact⟨o,I.kIn _ o hk,hd⟩
  ·have z:∃o,s.heap.get? p=some o/\o.ExactDict:=by
    rcases hk with⟨kvs,hk⟩ | ⟨kvs,hk⟩
    ·obtain⟨_,_,_,_,o,_,_,e,ex,_⟩:=I.hok p _ hk
     exact⟨o,e,ex⟩
    ·obtain⟨_,_,_,_,o,_,_,e,ex,_⟩:=I.hok p _ hk
     exact⟨o,e,ex⟩
   obtain⟨o,e,ex⟩:=z
   refine⟨⟨o,e,ex.1⟩,λa e2=>?_⟩
   cases e2
   exact⟨o,e,ex.2.1⟩
  ·obtain⟨o,_,_,_,e,ex,_⟩:=I.hok p _ hk
   refine⟨⟨o,e,ex.1⟩,λa e2=>?_⟩
   cases e2
   exact⟨o,e,ex.2.1⟩
 |_=>exact False.elim ty
def tBM (K:Fg) (T:String) (r:V->List V->Hp->VK->Prop) (to:TE) (t:TA):TE:=λσ H Q=>to σ H λx H1=>tyV K T x H1/\t σ H1 λxs H2=>r x xs H2 Q
variable {o e:Expr}{es:List Expr}{to:TE}{t:TA}{name:Str}{apos cpos:Pos}{T id:String}{r:V->List V->Hp->VK->Prop}
theorem ZQ (pa:PlainAttrs T) (slot:Slot T name id) (hty:typeOf (.builtin id)=pure (.type "method_descriptor")) (hm:MtR X id r) (ho:PE X o to) (ha:PA X (e::es) t)
  (hbase:attributeBase o name X.env (eval o X.env)=eval o X.env:=by rfl)
  (hfew:((backTo cpos (starEach (e::es) X.env)).all (λx=>!x.1)&&(backToKw cpos (keywordEach [] X.env)).all (λx=>x.1.isSome)
   && decide ((e::es).length+([]:List Keyword).length+(if([]:List Keyword).isEmpty then 0 else 1)<30))=true:=by rfl)
  (hline:(apos.endLine == cpos.line)=true:=by rfl) (hs:starEach (e::es) X.env=(false,eval e X.env)::starEach es X.env:=by rfl) (hplain:(backTo cpos (starEach es X.env)).any (·.1)=false:=by rfl) :
  PE X (.Call (.Attribute o name apos) (e::es) [] cpos) (tBM X.K T r to t):=by
 intro pz s σ H Q I h
 refine wpAny_Call_method_late hbase hfew hline rL (thn (ho pz s σ H _ I h) λv s1 ⟨x,H1,I1,r1,ty,q1⟩=>?_)
 obtain⟨h1,h2⟩:=zjG I1 r1 ty
 refine⟨T,id,pa,slot,hty,h1,h2,?_⟩
 have hA:=ha cpos pz s1 σ H1 _ I1 q1
 rw[hs]at hA ⊢
 refine Calls.callWith_builtin (by show (false || (backTo cpos (starEach es X.env)).any (·.1))=false;rw[hplain] <;> rfl) (Calls.evalArgs_plain ?_)
 exact thn hA λus s2 ⟨vs,H2,I2,r2,q2⟩=>hm pz s2 σ H2 x vs v us Q I2 r1 r2 q2
end
def MtM (X:Cx) (id:String) (r:V->List V->Hp->VK->Prop):Prop :=
 ∀(pz:List (Addr×Obj)) (s:Shared) (σ:St) (H:Hp) (x:V) (xs:List V) (v:Value) (us:List Value) (Q:VK),Inv X pz σ H s->xl x v->z6 xs us->r x xs H Q →
  wpAny (model X.prog X.w) X.A (call (.builtin id) (v::us)) (EP X pz σ Q) X.xe s
def z6.one:∀{x:V}{us:List Value},z6 [x] us->∃u,us=[u]/\xl x u
 |_,_,.cons r .nil=>⟨_,rfl,r⟩
def z6.two:∀{x y:V}{us:List Value},z6 [x,y] us->∃u v,us=[u,v]/\xl x u/\xl y v
 |_,_,_,.cons r (.cons q .nil)=>⟨_,_,rfl,r,q⟩
section
variable {X:Cx}{pz:List (Addr×Obj)}{σ:St}{H:Hp}{s:Shared}{l b:Addr}{xs ys zs:List V}
theorem Inv.lset {its its':List Value}{n:Nat}{f:Array Value->Array Value}{t':Nat}(I:Inv X pz σ H s) (hH:H l=some (.lst xs))
  (e:s.heap.get? l=some { cls:=.type "list",data:=.seq its.toArray n }) (hf:f its.toArray=its'.toArray) (hv:z6 ys its') (hz:ys.length<=sizeLine) :
  Inv X pz σ (upd H l (.lst ys)) { s with heap:=s.heap.update l (Obj.mapSeq f),toks:=t' }:=by
 have q:=PySem.IsL.update e f
 rw[hf]at q
 refine I.write (x:=l) (e:=l) (by rw[hH];exact trivial) (.inl rfl) (λb' u hb hu=>(yh s.heap (Obj.mapSeq f) (Ne.symm hb)).trans hu) ⟨_,q⟩ ?_
 exact⟨hz,its',_,hv,q⟩
theorem Inv.lnew {its:List Value}{t':Nat}(I:Inv X pz σ H s) (hv:z6 ys its) (hz:ys.length<=sizeLine) :
  Inv X pz σ (upd H s.heap.objs.size (.lst ys)) { s with heap:=s.heap.push { cls:=.type "list",data:=.seq its.toArray },toks:=t' } :=
 I.laid (λ_ _ q=>wg _ q) (wo _) ⟨hz,its,0,hv,wH _ rfl⟩
theorem Inv.fresh (I:Inv X pz σ H s):H s.heap.objs.size=none:=I.hok.fresh (wo _)
theorem Inv.lstM (I:Inv X pz σ H s) (hH:H l=some (.lst xs)):xs.length<=sizeLine/\∃(its:List Value) (n:Nat),z6 xs its/\xs.length=its.length/\s.heap.get? l=some { cls:=.type "list",data:=.seq its.toArray n }:=by
 obtain⟨z,its,n,r,e⟩:=I.hok l _ hH
 exact⟨z,its,n,r,r.length,e⟩
theorem zeE {n:Nat}(h:n<=sizeLine):Builtin.List.listTooLong n=false:=by
 unfold Builtin.List.listTooLong
 exact wy ∅
end
section
variable {X:Cx}
def zgM:V->List V->Hp->VK->Prop:=λx vs H Q=>∃l xs y,x=.ref l/\vs=[y]/\H l=some (.lst xs)/\xs.length<sizeLine/\Q .non (upd H l (.lst (xs++[y])))
theorem qB:MtM X "list.append" zgM:=by
 intro pz s σ H x vs v us Q I rx rv h
 obtain⟨l,xs,y,rfl,rfl,hH,hz,q⟩:=h
 cases rx
 obtain⟨u,rfl,ru⟩:=rv.one
 obtain⟨z,its,n,r,hl,e⟩:=I.lstM hH
 refine call_meets F.slot_list_append ⟨_,e,rfl⟩ F.entry_list_append (F.args_list_append_2 _ _) (PySem.list_append l its.toArray n u (by rw[wN];lia)) ⟨e,?_⟩
 refine⟨.non,_,I.lset (its':=its++[u]) hH e (by simp) (r.append (.cons ru .nil)) ?_,rfl,q⟩
 rw[wV,yR]
 lia
inductive zhB (x:V) (y:V) (H:Hp) (Q:VK):Prop
 |mk:∀l b xs zs,(x=.ref l)->(y=.ref b)->(H l=some (.lst xs))->(H b=some (.lst zs))->(xs.length+zs.length<=sizeLine)->(∀p,H p=none->Q (.ref p) (upd H p (.lst (xs++zs))))->zhB x y H Q
def rCat:R2:=λx y H Q=>zhB x y H Q
theorem zeK:OpR X (binaryOp .Add) rCat:=by
 intro pz s σ H x y v u Q I rx ry h
 obtain⟨l,b,xs,zs,rfl,rfl,hH,hB,hz,q⟩:=h
 cases rx
 cases ry
 obtain⟨z,its,n,r,hl,e⟩:=I.lstM hH
 obtain⟨z2,its2,n2,r2,hl2,e2⟩:=I.lstM hB
 refine PySem.P.add_list e e2 ?_ (by rw[wN,wN];lia)
 have ea:its.toArray++its2.toArray=(its++its2).toArray:=by simp
 rw[ea]
 exact⟨.ref _,_,I.lnew (t':=s.toks) (r.append r2) (by rw[wV];lia),rfl,q _ I.fresh⟩
end
end L2
namespace Att
open PySem PySem.W PySem.Calls PyProof.Rows
def Q0 {P:Params}{h:Heap}:∀(ns:List Int) (vs:List Value),WellAll P h vs (ns.map WData.int)->IntsAre vs ns:=by
 intro ns
 induction ns with
 |nil =>
  intro vs w
  rw[YV]at w
  cases w
  exact .nil
 |cons n ns ih =>
  intro vs w
  rw[yg]at w
  cases w with
  |cons a b =>
   cases a
   exact .cons _ _ (ih _ b)
def zdt {l:OpenLaw}{n:Nat}(hn:l.most=some n){P:Params}{h:Heap}{args:List WData}{vals:List Value}
  (hpre:l.row.toRowW.claim.pre args=true) (hwl:WellAll P h vals args) :
  ∃a vs ns,vals=[Value.ref a]/\args=[WData.list (ns.map WData.int)]/\h.get? a=some { cls:=.type "list",data:=.seq vs.toArray }/\IntsAre vs ns/\ns.length<=n:=by
 have hsh:WShape.hasAll [] args [.list .int]=true:=(pre_splitW hpre).1
 have hc:l.pre.holds [] { args:=args }=true:=(pre_splitW hpre).2
 obtain⟨d,r,rfl,h1,h2⟩:=hasAllW_cons hsh
 obtain rfl:=hasAllW_nil h2
 obtain⟨xs,rfl,h3⟩:=hasW_list h1
 obtain⟨ns,rfl⟩:=items_int h3
 have hlen:ns.length<=n:=by
  unfold OpenLaw.pre at hc
  have h4:(WTm.not (.lt (.lit (.int (n:Int))) (.len (.arg 0)))).holds [] { args:=[.list (ns.map .int)] }=true:=by
   have h4:=(holds_andW hc).1
   rw[hn]at h4
   exact h4
  have h5:=condW_of h4 (w_not (w_lt w_lit (w_len_list (w_arg rfl))))
  rw[wc]at h5
  refine Nat.le_of_not_lt λq=>?_
  have q':(n:Int)<((ns.length:Nat):Int):=by omega
  first
   | (rw[wm q']at h5;exact absurd h5 (by decide))
   | (simp at h5;omega)
 cases hwl with
 |cons w1 w2 =>
  cases w2
  cases w1 with
  |list ho hall=>exact⟨_,_,ns,rfl,rfl,ho,Q0 ns _ hall,hlen⟩
def zdq (l:OpenLaw) (args:List WData):l.row.toRowW.claim.post args (.bool true) args=true :=
 postW_of (r:=l.row.toRowW) (X:=(true == true))
  (show WShape.has [] (.bool true) .bool=true by first | rfl | decide | simp[WShape.has,WShape.arms,WShape.armsAll])
  (show (WTm.eq .res (.lit (.bool true))).value [] { args:=args,res:=some (.bool true),after:=args }=some (.bool (true == true))from w_eq_bool (w_res rfl) w_lit) rfl
def attach_call {l:OpenLaw}{n:Nat}{q:Program}{loose:List Str}{XP:(Str->Option Value)->Heap->Prop}{YP:World->Heap->Prop}{d:DefRec}
  (hn:l.most=some n) (hdf:d.params.defaults=[])
  (call:∀(w:World) (s₀ s₁:Shared) (mg mb:Str->Option Value) (fa:Addr) (o:Obj) (pm cd doc:Value) (a:Addr) (vs:List Value) (ns:List Int),
   Ground q loose [] XP w s₀ mg mb s₁.heap->YP w s₁.heap →
   s₁.heap.get? fa=some o->o.data=.func (docDef d.name d.params d.body d.scope pm cd doc)->s₁.heap.CodeRec cd d.name->mg d.name=some (.ref fa) →
   s₁.heap.get? a=some { cls:=.type "list",data:=.seq vs.toArray }->IntsAre vs ns->ns.length<=n->s₁.gens = #[] →
   codeAny (model l.prog w) callerA (.call (.ref fa) ⟨[.ref a],[]⟩) (λr s'=>r=.ok (.ret (.bool true))/\OldK s₁.heap s'.heap/\s'.os=s₁.os/\AllBare s'.gens) s₁) :
  WalkO q loose XP YP l.row.toRowW d [] (λf vs=>PySem.call f vs):=by
 intro w s₀ s₁ mg mb G Y fa o pm cd doc dV kV ho hd hcd hD hmg hg args vals as hpre hlay hrd hwl hlo
 obtain rfl:dV=.none:=Dflts.none hD hdf
 obtain rfl:kV=.none:=Dflts.noKw hD
 obtain⟨a,vs,ns,rfl,rfl,hobj,hints,hlen⟩:=zdt hn hpre hwl
 refine enter_call (codeAny_mono (call w s₀ s₁ mg mb fa o pm cd doc a vs ns G Y ho (fd_plain hd) hcd hmg hobj hints hlen hg) λr s' hq=>?_)
 obtain⟨rfl,h2,h3,h4⟩:=hq
 exact⟨.inl ⟨.bool true,.bool true,[],rL,λ_=>rL,.bool true,zdq l _,λ_=>⟨List.Pairwise.nil,λ_ hm=>(nomatch hm)⟩⟩,h2,h3,h4⟩
end Att
namespace L2
open PySem PySem.Spec PyProof.Rows
def vJ:∀{vs:List Value}{ns:List Int},IntsAre vs ns->z6 (ns.map V.int) vs
 |_,_,.nil=>.nil
 |_,_,.cons n t h=>.cons ⟨t,rfl⟩ (vJ h)
def zhT (H:Hp):Prop:=∀b,H b=none\/∃o xs,H b=some (.frz o (.lst xs))
def zen {P:Program}{w:World}{K:Fg}{mg mb:Str->Option Value}{CX:CXT}{k:Nat}{fa a:Addr}{fd:FuncData}{x:Str}{sp:Sp}{s₁:Shared}{vs:List Value}{ns:List Int}
  (KX:K.In s₁.heap) (hns:s₁.heap.Ns mainGlobals mg) (hb:s₁.heap.Ns builtinsNs mb) (hbb:∀x:Str,x≠"__name__"->mb x=bootBuiltins x) (hlim:s₁.heap.NoLimit) (hg:s₁.gens = #[])
  (ha:s₁.heap.get? a=some { cls:=.type "list",data:=.seq vs.toArray }) (hi:IntsAre vs ns) (hl:ns.length<=sizeLine) (hr:xb k callerA)
  (F:∀base:Heap,K.In base->base.Ns mainGlobals mg->ZH P w K mg base CX k fa fd [x] sp) (hbind:∀(s:Shared) (u:Value),BindsTo s fd ⟨[u],[]⟩ [(x,u)])
  (hsp:∀H:Hp,zhT H->SqL K H a (ns.map V.int)->sp [.ref a] H (λv _=>v=.bl true) λ_ _ _=>False)
  (hCX:∀H e s',CX [] H s₁ (λ_ _ _=>False) e s'->False) :
  codeAny (model P w) callerA (.call (.ref fa) ⟨[.ref a],[]⟩) (λr s'=>r=.ok (.ret (.bool true))/\OldK s₁.heap s'.heap/\s'.os=s₁.os/\AllBare s'.gens) s₁:=by
 have rv:=vJ hi
 have lenV:=hi.length
 have core:∀H:Hp,zhT H->SqL K H a (ns.map V.int)->HOk P w H s₁.heap->(∀b,H b≠none->b=a)->(H a≠none->K.lookup a=none) →
   codeAny (model P w) callerA (.call (.ref fa) ⟨[.ref a],[]⟩) (λr s'=>r=.ok (.ret (.bool true))/\OldK s₁.heap s'.heap/\s'.os=s₁.os/\AllBare s'.gens) s₁:=by
  intro H hO hS hok hA hK
  have base_of:∀{b:Addr}{o:Obj},s₁.heap.get? b=some o->H b=none->(JT s₁.heap H).get? b=some o:=λe n=>zef e n
  have noA:∀{b:Addr}{o:Obj}{es:Array DictEntry}{ep:Nat},s₁.heap.get? b=some o->o.data=.dict es ep->H b=none:=λ{b o es ep} e d=>by
   cases q:H b with
   |none=>rfl
   |some u =>
    have e':b=a:=hA b (by rw[q];simp)
    subst e'
    rw[ha]at e;cases e
    have d':Data.seq vs.toArray _=Data.dict es ep:=d
    cases d'
  have nsK:∀{b:Addr}{m:Str->Option Value},s₁.heap.Ns b m->(JT s₁.heap H).Ns b m:=λ{b m} ⟨o,es,ep,e,d,r⟩=>⟨o,es,ep,base_of e (noA e d),d,r⟩
  have hKb:K.In (JT s₁.heap H):=λb o e=>base_of (KX b o e) (by
   cases q:H b with
   |none=>rfl
   |some u =>
    have e':b=a:=hA b (by rw[q];simp)
    subst e'
    rw[hK (by rw[q];simp)]at e;cases e)
  have hM:Mod K mg (JT s₁.heap H):=⟨hKb,nsK hns,⟨mb,nsK hb,hbb⟩,let ⟨mc,h1,h2⟩:=hlim;⟨mc,nsK h1,h2⟩⟩
  have e0:zbd P w K mg (JT s₁.heap H) callerA [] s₁ H:=⟨rfl,hM,λb o e=>zgu e,WX (zc4 _ _),trivial,λb hb=>absurd (show b∈([]:List Addr)from hb) (by simp),hok,.of_eq hg⟩
  refine codeAny_mono ((F _ hKb (nsK hns)).run callerA [] s₁ H ⟨[.ref a],[]⟩ [.ref a] [.ref a] _ _ hr e0 (hbind s₁ (.ref a)) (.cons rL .nil) (hsp H hO hS)) λr s' h=>?_
  cases r with
  |error e=>exact(hCX H e s' h).elim
  |ok fl =>
   cases fl with
   |next=>exact False.elim h
   |brk=>exact False.elim h
   |cont=>exact False.elim h
   |ret u =>
    obtain⟨v,H',os,bare,un,hok',r',q⟩:=h
    have q':v=.bl true:=q
    subst q'
    obtain rfl:u=Value.bool true:=r'
    refine⟨rL,OldK.of_keep λb o e=>?_,os,bare⟩
    cases q:H b with
    |none=>exact un.keep b o e q (by intro z;exact absurd (show b∈([]:List Addr)from z) (by simp)) (by simp)
    |some u =>
     rcases hO b with z | ⟨ob,xs,z⟩
     ·rw[q]at z;cases z
     ·have z2:=un.frzs b ob _ z
      obtain⟨e1,_⟩:=hok b _ z
      obtain⟨e2,_⟩:=hok' b _ z2
      rw[e]at e1;cases e1
      exact e2
 cases hk:K.lookup a with
 |some o =>
  have e:=KX a o hk
  rw[ha]at e
  cases e
  refine core (λ_=>none) (λ_=>.inl rfl) (.inr ⟨_,vs.toArray,_,hk,rfl,rfl,rfl,by rw[wN,lenV];exact hl,↥rv⟩) (λb u z=>by have z':(none:Option HO)=some u:=z;cases z') (λb z=>absurd rfl z) λz=>absurd rfl z
 |none =>
  refine core (λb=>if b=a then some (.frz { cls:=.type "list",data:=.seq vs.toArray } (.lst (ns.map V.int)))else none) (λb=>?_) (.inl (.inr ⟨{ cls:=.type "list",data:=.seq vs.toArray },if_pos rL⟩)) (λb u z=>?_) (λb z=>?_) λ_=>hk
  ·by_cases hb:b=a
   ·exact .inr ⟨_,_,if_pos hb⟩
   ·exact .inl (if_neg hb)
  ·by_cases hb:b=a
   ·have z':=(if_pos hb).symm.trans z
    cases z'
    subst hb
    exact⟨ha,by rw[wc];exact hl,vs,_,rv,ha⟩
   ·have z':=(if_neg hb).symm.trans z
    cases z'
  ·by_cases hb:b=a
   ·exact hb
   ·exact absurd (if_neg hb) z
def zhl {l:PySem.W.OpenLaw}{n k:Nat}{q:Program}{loose:List Str}{XP:(Str->Option Value)->Heap->Prop}{YP:World->Heap->Prop}{d:DefRec}{K:Params->Fg}{CX:World->CXT}{sp:World->Sp}{x:Str}
  (hn:l.most=some n) (hn2:n<=sizeLine) (hdf:d.params.defaults=[]) (hr:xb k callerA)
  (hY:∀(w:World) (h:Heap),YP w h->(K w.params).In h)
  (F:∀(w:World) (mg:Str->Option Value) (fa:Addr) (h:Heap),(K w.params).In h->h.Ns mainGlobals mg->mg d.name=some (.ref fa) →
   ∃fd:FuncData,(∀(s:Shared) (u:Value),BindsTo s fd ⟨[u],[]⟩ [(x,u)]) ∧
    ∀base:Heap,(K w.params).In base->base.Ns mainGlobals mg->ZH l.prog w (K w.params) mg base (CX w) k fa fd [x] (sp w))
  (hsp:∀(w:World) (H:Hp) (a:Addr) (ns:List Int),ns.length<=n->zhT H->SqL (K w.params) H a (ns.map V.int)->sp w [.ref a] H (λv _=>v=.bl true) λ_ _ _=>False)
  (hCX:∀(w:World) (H:Hp) (s:Shared) (e:Value) (s':Shared),CX w [] H s (λ_ _ _=>False) e s'->False) :
  PySem.W.WalkO q loose XP YP l.row.toRowW d [] (λf vs=>PySem.call f vs):=by
 refine Att.attach_call hn hdf λw s₀ s₁ mg mb fa o pm cd doc a vs ns G Y ho hd hcd hmg hobj hints hlen hg=>?_
 have KX:=hY w _ Y
 obtain⟨fd,hb,hF⟩:=F w mg fa _ KX G.T.g hmg
 exact zen KX G.T.g G.T.b G.T.builtins G.T.nolimit hg hobj hints (yJ hlen hn2) hr hF hb (λH hO hS=>hsp w H a ns hlen hO hS) λH e s'=>hCX w H s₁ e s'
def zgl (s:Stmt) (j:Nat):Stmt:=match s with
 |.ClassDef _ _ _ body _ _ _ _ _ _ _=>body.getD j (.Pass ⟨0,0,0,0⟩)
 |_=>.Pass ⟨0,0,0,0⟩
def xH (s:Stmt):Arguments:=match s with
 |.FunctionDef _ a _ _ _ _ _ _ _ _=>a
 |_=>{ posonlyargs:=[],args:=[],vararg:=none,kwonlyargs:=[],kw_defaults:=[],kwarg:=none,defaults:=[] }
def z7 (s:Stmt):List Stmt:=match s with
 |.FunctionDef _ _ b _ _ _ _ _ _ _=>b
 |_=>[]
def zj (s:Stmt):Scope:=match s with
 |.FunctionDef _ _ _ _ _ _ sc _ _ _=>sc
 |_=>{ kind:=.function,names:=[],isGenerator:=false,isCoroutine:=false }
abbrev CX0:CXT:=λ_ _ _ _ _ _=>False
abbrev E0:XK:=λ_ _ _=>False
def zeP {X:Cx}:Vo CX0 X E0:=λ_ _ _ _ _ _ _ h=>h.elim
structure Fun (K:Fg) (x qual:Str) (st:Stmt) (f:Addr) (fd:FuncData):Prop where
 ex:∃(oc:Value) (od:Option Addr) (kV doc pm:Value) (an:Option Addr) (cdv ct:Value) (osl:Array (Option Value)),
  fd=PySem.W.fnOf x qual (xH st) (z7 st) (zj st) .none kV doc pm an cdv ct/\K.lookup f=some ⟨oc,od,.func fd,osl⟩/\PySem.W.codeIn K cdv qual=true
 kp:PySem.W.keepIn K (.ref f)=true
section
variable {P:Program}{w:World}{K:Fg}{mg:Str->Option Value}{base:Heap}
theorem Fun.ok {x qual:Str}{st:Stmt}{f:Addr}{fd:FuncData}{N ps:List Str}{k:Nat}{sp:Sp}(F:Fun K x qual st f fd) (S:zB N ps (zj st)) (len:∀vs H Q E,sp vs H Q E->vs.length=ps.length)
  (hbody:∀(cdv:Value) (A:Around) (outer:List Env) (s:Shared) (H:Hp) (vs:List V) (Q:VK) (E:XK),xb k (A.deeper (envOfC qual (zj st) s.heap.objs.size f cdv))->sp vs H Q E →
   ∃t,PSs (xc CX0 P w K mg base N qual (zj st) f cdv A outer s H E).nox (z7 st) t/\t { nx:=λ_ H'=>Q .non H',rt:=Q } (vT N vs) H):ZH P w K mg base CX0 (k+1) f fd ps sp:=by
 obtain⟨oc,od,kV,doc,pm,an,cdv,ct,osl,rfl,lk,hcd⟩:=F.ex
 refine zd6 lk hcd S len λA outer s H vs Q E hr hsp=>?_
 obtain⟨t,h,q⟩:=hbody cdv A outer s H vs Q E hr hsp
 exact⟨t,h.nox,q⟩
theorem Fun.okq {x qual:Str}{st:Stmt}{f:Addr}{fd:FuncData}{N ps:List Str}{k:Nat}{sp:Sp}(F:Fun K x qual st f fd) (S:zB N ps (zj st))
  (hbody:∀(cdv:Value) (A:Around) (outer:List Env) (s:Shared) (H:Hp) (vs:List V) (Q:VK) (E:XK),xb k (A.deeper (envOfC qual (zj st) s.heap.objs.size f cdv))->sp vs H Q E →
   ∃t,PSs (xc CX0 P w K mg base N qual (zj st) f cdv A outer s H E).nox (z7 st) t/\t { nx:=λ_ H'=>Q .non H',rt:=Q } (vT N vs) H) (len:∀vs H Q E,sp vs H Q E->vs.length=ps.length:=by intro _ _ _ _ h;repeat (first | (cases h;subst_vars;rfl) | (obtain⟨rfl,_⟩:=h;rfl) | (obtain⟨_,h⟩:=h))):ZH P w K mg base CX0 (k+1) f fd ps sp:=F.ok S len hbody
theorem Fun.binds {x qual:Str}{st:Stmt}{f:Addr}{fd:FuncData}{ps:List Str}(F:Fun K x qual st f fd)
  (h:∀(kV doc pm:Value) (an:Option Addr) (cdv ct:Value) (us:List Value),us.length=ps.length->bindArgs (PySem.W.fnOf x qual (xH st) (z7 st) (zj st) .none kV doc pm an cdv ct) ⟨us,[]⟩=pure (ps.zip us)):Ze K fd ps []:=by
 obtain⟨oc,od,kV,doc,pm,an,cdv,ct,osl,rfl,lk,hcd⟩:=F.ex
 exact .all (h kV doc pm an cdv ct)
theorem zea {x qual:Str}{st:Stmt}{f:Addr}{oc:Value}{od an:Option Addr}{osl:Array (Option Value)}{kV doc pm cdv ct:Value}(l:K.lookup f=some ⟨oc,od,.func (PySem.W.fnOf x qual (xH st) (z7 st) (zj st) .none kV doc pm an cdv ct),osl⟩)
  (c:PySem.W.codeIn K cdv qual=true) (k:PySem.W.keepIn K (.ref f)=true):Fun K x qual st f (PySem.W.fnOf x qual (xH st) (z7 st) (zj st) .none kV doc pm an cdv ct):=⟨⟨oc,od,kV,doc,pm,an,cdv,ct,osl,rfl,l,c⟩,k⟩
end
def vH {n:Nat}(h:n<=1000):n<sizeLine:=WK h (by decide)
section
variable {X:Cx}
theorem pv (i:Nat){x:Str}{pos:Pos}(hN:X.N[i]?=some x:=by rfl) (hv:Vis X.env.scope x:=by first | exact Or.inl rfl | exact Or.inr (Or.inl rfl) | exact Or.inr (Or.inr rfl)) (hd:(x == ("__debug__":Str))=false:=by decide)
  (hcd:(x == ("__classdict__":Str))=false:=by decide):PE X (.Name x pos) (xw i):=ziP hN hv hd hcd
end
def hid {A:Prop}(h:∀P:Prop,(A->P)->P):A:=h A id
def xz {A B:Prop}(h:B):if false=true then A else B:=by
 rw[if_neg ya]
 exact h
def xO {A B:Prop}(h:A):if true=true then A else B:=by
 rw[if_pos rfl]
 exact h
def vu {c A B:Prop} [Decidable c] (h1:c->A) (h2:¬c->B):if c then A else B:=by
 by_cases h:c
 ·rw[if_pos h]
  exact h1 h
 ·rw[if_neg h]
  exact h2 h
def zk (H H':Hp):Prop:=∀b o,H b=some o->H' b=some o
def zk.refl (H:Hp):zk H H:=λ_ _ h=>h
def zk.trans {H H1 H2:Hp}(a:zk H H1) (b:zk H1 H2):zk H H2:=λc o h=>b c o (a c o h)
def zk.seq {K:Fg}{H H':Hp}{a:Addr}{xs:List V}(e:zk H H') (h:SqL K H a xs):SqL K H' a xs:=by
 rcases h with(h | ⟨o,h⟩) | h
 ·exact .inl (.inl (e _ _ h))
 ·exact .inl (.inr ⟨o,e _ _ h⟩)
 ·exact .inr h
section
variable {prog:Program}{w:World}{A:Around}{R:Result->Shared->Prop}{s:Shared}
theorem XY {elt F iter:Expr}{ifs:List Expr}{scope:Scope}{pos:Pos}{it G:Value}{env:Env}(I:Nat->Shared->Prop)
  (S:∀n s,I n s->wpAny (model prog w) A (pyNext it) (λr U=>match r with
   |none=>R (.ok .next) U
   |some v=>wpAny (model prog w) A (letOwnedTupleGo F it v) (λ_ s₀=>wpAny (model prog w) A (assign F env v) (λ_ s₂ =>
     wpAny (model prog w) A (forIn ifs true λc r=>if r=true then do let ok <-isTrue c env (eval c env);pure (ForInStep.yield ok)else pure (ForInStep.yield r)) (λok V =>
      if ok=true then wpAny (model prog w) A (eval elt env) (λx W =>
       wpAny (model prog w) A (call (.builtin "list.append") [G,x]) (λ_ s₅=>∃m,m<n/\I m s₅) (λ_ _=>False) W) (λ_ _=>False) V
      else ∃m,m<n/\I m V) (λ_ _=>False) s₂) (λ_ _=>False) s₀) (λ_ _=>False) U) (λ_ _=>False) s)
  (n:Nat) (h:I n s) :
  codeAny (model prog w) A (.compLoop (.ListComp elt [⟨F,iter,ifs,0⟩] scope pos) 0 it G env) R s:=by
 refine codeAny_loop rL I (λn s hI=>?_) n h
 show wpAny _ A ((compTurn (.ListComp elt [⟨F,iter,ifs,0⟩] scope pos) 0 it G env).onRaise (λx=>do noteFrame x env;theTreesLotGoes x)) _ _ s
 refine wpAny_noted ?_
 rw[compTurn_list]
 have O:∀{X:Prop},∀(e:Value) (s':Shared),(λ_ _=>False:Value->Shared->Prop) e s'->X:=λ_ _ z=>False.elim z
 refine we (YQ (we (uj (S n s hI) (λr U Y=>?_) λe s'=>O e s')))
 cases r with
 |none=>exact wn Y
 |some v =>
  refine we (uj Y (λ_ s₀ h₀=>?_) λe s'=>O e s')
  refine we (uj h₀ (λ_ s₂ h₂=>we (uj h₂ (λok V h₃=>?_) λe s'=>O e s')) λe s'=>O e s')
  cases ok with
  |false=>exact wn ⟨rfl,h₃⟩
  |true =>
   exact we (we (uj h₃ (λx W h₄=>we (uj h₄ (λ_ s₅ h₅=>wn (wn ⟨rL,h₅⟩)) λe s'=>O e s')) λe s'=>O e s'))
end
def qX (X:Cx) (NB:List Str) (scope:Scope) (s3:Shared) (H3:Hp) (fp:List Addr):Cx :=
 { X with N:=NB,s₀:=s3,H₀:=H3,env:=compEnv scope s3.heap.objs.size X.env,outer:=X.stack,stack:=X.stack,ex:=fp,fn:=λ_=>true,pn:=[],xe:=λ_ _=>False }
def PTs (X:Cx) (ifs:List Expr) (t:TT):Prop :=
 ∀(pz:List (Addr×Obj)) (s:Shared) (σ:St) (H:Hp) (Q:Bool->Hp->Prop),Inv X pz σ H s->t σ H Q →
  wpAny (model X.prog X.w) X.A (forIn ifs true λc r=>if r=true then do let ok <-isTrue c X.env (eval c X.env);pure (ForInStep.yield ok)else pure (ForInStep.yield r)) (TP X pz σ Q) X.xe s
def xI {X:Cx}:PTs X [] (λ_ H Q=>Q true H):=λ_ _ _ H _ I h=>wpAny_tests_nil ⟨H,I,h⟩
def Vf {X:Cx}{c:Expr}{t:TT}(h:PT X c t):PTs X [c] t:=λpz s σ H Q I q=>wpAny_tests_one (h pz s σ H Q I q)
def zcJ (n:Nat) (wi:TI) (g:TG) (tt:TT) (te:TE):TE:=λσ H Q=>wi σ H λJ H1=>∀D,H1 D=none->∃W:Nat->Nat->Hp->List V->Prop,(∃m,W 0 m (upd H1 D (.lst [])) []) ∧
 ∀i m H2 ys,W i m H2 ys->H2 D=some (.lst ys)->(J.stop i H2/\Q (.ref D) H2) ∨
  (J.go i H2/\∀σB x H3,σB.length=n->J.yld i H2 x H3->g x σB H3 λσ4 H4=>tt σ4 H4 λb H5=>if b=true then te σ4 H5 (λv H6=>H6 D=some (.lst ys)/\ys.length<sizeLine/\∃m',m'<m/\W (i+1) m' (upd H6 D (.lst (ys++[v]))) (ys++[v]))
   else H5 D=some (.lst ys)/\∃m',m'<m/\W (i+1) m' H5 ys)
def vD {X:Cx}{elt tg iter:Expr}{ifs:List Expr}{scope:Scope}{pos:Pos}{NB:List Str}{wi:TI}{g:TG}{tt:TT}{te:TE}
  (hc:X.calm=true) (hfree:∀x∈scope.names,x.2≠.free) (hcell:∀x∈scope.names,x.2≠.cell) (hkind:scope.kind=.function) (hnames:∀x∈scope.names,x.2=.local → scope.names.lookup x.1=some .local)
  (hi:PI X tg iter wi) (hb:∀s3 H3 fp,PG (qX X NB scope s3 H3 fp) tg g/\PTs (qX X NB scope s3 H3 fp) ifs tt/\PE (qX X NB scope s3 H3 fp) elt te)
  (hs:∀x,foldedSetIterable iter X.env x=pure x:=by intro _;rfl) :
  PE X (.ListComp elt [⟨tg,iter,ifs,0⟩] scope pos) (zcJ NB.length wi g tt te):=by
 intro pz s σ H Q I h
 refine wpAny_ListComp hfree hkind hnames (thn (hi pz s σ H _ I h) λv s1 h1=>thn h1 λitv s2 h2=>?_) hs
 obtain⟨it,fp,tn,J,H2,e,I2,T,st2,f2,q2⟩:=h2
 subst e
 have hf2:H2 s2.heap.objs.size=none:=I2.hok.fresh (wo _)
 obtain⟨W,⟨m0,w0⟩,turn⟩:=q2 _ hf2
 refine yI (hd:=by size_fits) ?_
 have I3:Inv X pz σ (upd H2 s2.heap.objs.size (.lst [])) { s2 with heap:=s2.heap.push { cls:=.type "list",dict:=none,data:=.seq ([]:List Value).toArray } } :=
  I2.laid (t':=s2.toks) (λb u e=>wg _ e) (wo _) ⟨by decide,[],0,.nil,wH _ rfl⟩
 generalize hD:s2.heap.objs.size=D at *
 generalize hs3:({ s2 with heap:=s2.heap.push { cls:=.type "list",dict:=none,data:=.seq ([]:List Value).toArray } }:Shared)=s3 at *
 generalize hH3:upd H2 D (.lst [])=H3 at *
 have h3D:H3 D=some (.lst []):=by rw[<-hH3];exact zg
 have fpD:∀b∈fp,b≠D:=λb hb=>by
  obtain⟨o,e,_⟩:=T.obj _ _ st2 b hb
  rw[<-hD];exact wZ (wF e)
 have k23:∀b u,s2.heap.get? b=some u->s3.heap.get? b=some u:=λb u e=>by rw[<-hs3];exact wg _ e
 have st3:tn 0 s3.heap:=T.keep _ _ _ st2 λb _ o e=>k23 b o e
 have f3:∀b∈fp,Vn X pz H3 b:=λb hb=>⟨by rw[<-hH3,zT (fpD b hb)];exact(f2 b hb).1,(f2 b hb).2⟩
 refine wpAny_newFunctionEnv hcell (by intro y hy;simp at hy) (λh4 hns4 hsb4=>?_) hkind
 have k34:∀b u,s3.heap.get? b=some u->h4.get? b=some u:=λb u e=>hsb4.extBut b u (wZ (wF e)) (wg _ e)
 have okB:(qX X NB scope s3 H3 fp).Ok:=by
  refine⟨I3.ok.mod,hkind,I3.ok.glob,I3.ok.blt,wo _,λx y c e _=>?_,λx e=>?_,λx c _ e=>?_,I3.ok.hd,I3.ok.frames,.inl rL,λb hb=>⟨?_,λx c e=>?_⟩,I3.bs,yJ I3.ok.bsz I3.sz,λb o e hb=>?_,λb hb z=>?_,I3.stack,I3.stkFree⟩
  ·exact absurd (show ([]:List (Str×Addr)).lookup x=some c from e) (by simp)
  ·have e':scope.names.lookup x=some .cell\/scope.names.lookup x=some .free:=e
   rcases e' with e' | e'
   ·exact absurd rL (hcell _ (PySem.mem_of_lookup e'))
   ·exact absurd rL (hfree _ (PySem.mem_of_lookup e'))
  ·exact absurd (show ([]:List (Str×Addr)).lookup x=some c from e) (by simp)
  ·obtain⟨o,e,_⟩:=T.obj _ _ st3 b hb
   exact wZ (wF e)
  ·exact absurd (show ([]:List (Str×Addr)).lookup x=some c from e) (by simp)
  ·obtain⟨_,_,_,z,_⟩:=f3 b hb
   rcases z with z | z
   ·exact I3.ok.noex b o e z
   ·exact absurd (w4 (wF e) (yJ I3.ok.bsz z)) (uF _)
  ·obtain⟨_,z1,z2,_⟩:=f3 b hb
   rcases ww.mp (I3.stkSub b z)with e | e
   ·exact z1 e
   ·exact z2 e
 have IB:Inv (qX X NB scope s3 H3 fp) [] (List.replicate NB.length none) H3 { s3 with heap:=h4,toks:=s3.toks+([]:List (Str×Value)).length }:=by
  refine⟨okB,rfl,I3.bare,Un.kept k34,⟨_,hns4,λi x v _ e _=>?_⟩,λx c e=>?_,I3.hok.fresh (wo _),λx c e=>?_,λp hp=>?_,I3.hok.kept k34,by simp[qX]⟩
  ·rw[WJ]at e
   split at e <;> cases e
  ·exact absurd (show ([]:List (Str×Addr)).lookup x=some c from e) (by simp)
  ·exact absurd (show ([]:List (Str×Addr)).lookup x=some c from e) (by simp)
  ·exact absurd (show p∈([]:List (Addr×Obj))from hp) (by simp)
 have st4:tn 0 h4:=T.keep _ _ _ st3 λb _ o e=>k34 b o e
 have C_ne:∀b∈fp,b≠s3.heap.objs.size:=λb hb=>(okB.exf b hb).1
 have stat:∀{H':Hp},(∀b∈fp,H' b=none)->∀b∈fp,Vn (qX X NB scope s3 H3 fp) [] H' b:=λhn b hb =>
  ⟨hn b hb,C_ne b hb,okB.exfs b hb,.inl hb,λx c e=>absurd (show ([]:List (Str×Addr)).lookup x=some c from e) (by simp),λp hp=>absurd (show p∈([]:List (Addr×Obj))from hp) (by simp)⟩
 obtain⟨hg,ht,he⟩:=hb s3 H3 fp
 have fin:∀{σ':St}{H':Hp}{s':Shared},Inv (qX X NB scope s3 H3 fp) [] σ' H' s'->Q (.ref D) H' →
   ∃m,s'.heap.Ns s3.heap.objs.size m/\∀h',Heap.SameBut s3.heap.objs.size s'.heap h'->EP X pz σ Q (.ref D) { s' with heap:=h' }:=λ{σ' H' s'} J q=>by
  obtain⟨m,hm,_⟩:=J.loc
  refine⟨m,hm,λh' sb=>⟨.ref D,H',?_,rL,q⟩⟩
  have neC:∀b o,s3.heap.get? b=some o->b≠s3.heap.objs.size:=λb o e=>wZ (wF e)
  have hfr:H' s3.heap.objs.size=none:=J.free
  have up:∀b o,b≠s3.heap.objs.size->s'.heap.get? b=some o->h'.get? b=some o:=λb o hb e=>(sb.2 b hb).trans e
  have hok':HOk X.prog X.w H' h':=λb ob e=>(J.hok b ob e).stay (λc w' hc q=>up c w' (by
   rintro rfl
   rcases hc with rfl | hc
   ·rw[hfr]at e;cases e
   ·rw[hfr]at hc;cases hc) q) (λ_ q=>q) λ_ _ q=>q
  have u:Un (frs X.stack) fp H3 H' s3.heap h' :=
   ⟨λb o e n hb hx=>up b o (neC b o e) (J.base.keep b o e n hb hx),λb o e n hb hx=>by
    obtain⟨sl,e'⟩:=J.base.slot b o e n hb hx
    exact⟨sl,up b _ (neC b o e) e'⟩,J.base.free,λb o e hx=>by
    obtain⟨o',e'⟩:=J.base.there b o e hx
    exact⟨o',up b _ (neC b o e) e'⟩,J.base.tups,J.base.frzs,J.base.tbls⟩
  refine I3.call' (s':={ s' with heap:=h' }) (ch:=fp) J.os u hok' J.bare λb hb=>?_
  obtain⟨z0,z1,z2,z3,z4,z5⟩:=f3 b hb
  exact⟨z3,z1,z4,z5⟩
 have loop:∀s5:Shared,s5 = { s3 with heap:=h4,toks:=s3.toks+([]:List (Str×Value)).length } →
   codeAny (model X.prog X.w) X.A (.compLoop (.ListComp elt [⟨tg,iter,ifs,0⟩] scope pos) 0 (.ref it) (.ref D) (compEnv scope s3.heap.objs.size X.env))
    (λr s'=>∃m,s'.heap.Ns s3.heap.objs.size m/\∀h',Heap.SameBut s3.heap.objs.size s'.heap h' →
     match r with | .ok _=>EP X pz σ Q (.ref D) { s' with heap:=h' } | .error x=>wpAny (model X.prog X.w) X.A (passOn "comprehension.variables-let-go" x (compEnv scope s3.heap.objs.size X.env)) (EP X pz σ Q) X.xe { s' with heap:=h' }) s5:=by
  rintro s5 rfl
  refine XY (λn s'=>∃i σ' H' ys,Inv (qX X NB scope s3 H3 fp) [] σ' H' s'/\tn i s'.heap/\(∀b∈fp,H' b=none)/\H' D=some (.lst ys)/\W i n H' ys) ?_ m0
   ⟨0,_,H3,[],IB,st4,λb hb=>(f3 b hb).1,h3D,by rw[<-hH3]at *;exact w0⟩
  rintro n s6 ⟨i,σ6,H6,ys,I6,st6,fr6,hD6,w6⟩
  rcases turn i n H6 ys w6 hD6 with⟨stop,qn⟩ | ⟨go,step⟩
  ·refine thn (T.done (qX X NB scope s3 H3 fp) rL rL rL hc i [] s6 σ6 H6 _ I6 (stat fr6) st6 stop) λr s7 ⟨hr,I7⟩=>?_
   subst hr
   exact fin I7 qn
  ·refine thn (T.item (qX X NB scope s3 H3 fp) rL rL rL hc i [] s6 σ6 H6 _ I6 (stat fr6) st6 go) λr s7 ⟨u,hr,h7⟩=>?_
   subst hr
   refine thn h7 λ_ s8 ⟨x,H8,I8,r8,y8,st8,fr8⟩=>?_
   have I8':=I8.pinned (stat fr8) (T.obj _ _ st8)
   have again:∀{σ9:St}{H9:Hp}{s9:Shared}{zs:List V}{m':Nat},Inv (qX X NB scope s3 H3 fp) ([]++QE fp s8.heap) σ9 H9 s9->H9 D=some (.lst zs)->m'<n->W (i+1) m' H9 zs →
     ∃m,m<n/\∃i σ' H' ys,Inv (qX X NB scope s3 H3 fp) [] σ' H' s9/\tn i s9.heap/\(∀b∈fp,H' b=none)/\H' D=some (.lst ys)/\W i m H' ys:=λ{σ9 H9 s9 zs m'} I9 hz hm w9=>by
    refine⟨m',hm,i+1,σ9,H9,zs,I9.unpinned,T.keep _ _ _ st8 λb hb o e=>(I9.pin (b,o) (ye _ (ye _ (va hb e)))).1,λb hb=>?_,hz,w9⟩
    obtain⟨o,e,d⟩:=T.obj _ _ st8 b hb
    exact(I9.pin (b,o) (ye _ (ye _ (va hb e)))).2.1
   refine thn (hg _ s8 σ6 H8 x u _ I8' r8 (step σ6 x H8 I6.len y8)) λ_ s9 ⟨σ9,H9,I9,q9⟩=>?_
   refine thn (ht _ s9 σ9 H9 _ I9 q9) λok s10 ⟨H10,I10,q10⟩=>?_
   cases ok with
   |false =>
    rw[if_neg (by decide)]at q10 ⊢
    obtain⟨hz,m',hm,w'⟩:=q10
    exact again I10 hz hm w'
   |true =>
    rw[if_pos rfl]at q10 ⊢
    refine thn (he _ s10 σ9 H10 _ I10 q10) λy s11 ⟨v,H11,I11,r11,hz,hlen,m',hm,w'⟩=>?_
    refine thn (qB _ s11 σ9 H11 (.ref D) [v] (.ref D) [y] (λ_ H12=>H12=upd H11 D (.lst (ys++[v]))) I11 rL (.cons r11 .nil) ⟨D,ys,v,rL,rL,hz,hlen,rL⟩) λ_ s12 ⟨_,H12,I12,_,e12⟩=>?_
    subst e12
    exact again I12 zg hm w'
 exact codeAny_compStart_list (loop _ rL) (T.self X.A 0 _ _ _ st4 (loop _ rL))
mutual
inductive RdD (H:Hp):V->PyData->Prop
 |non:RdD H .non .none
 |bl (b:Bool):RdD H (.bl b) (.bool b)
 |int (i:Int):RdD H (.int i) (.int i)
 |str (x:Str):RdD H (.str x) (.str x)
 |tup {a:Addr}{xs:List V}{ds:List PyData}:H a=some (.tup xs)->Qt H xs ds->RdD H (.ref a) (.tuple ds)
 |lst {a:Addr}{xs:List V}{ds:List PyData}:H a=some (.lst xs)->Qt H xs ds->RdD H (.ref a) (.list ds)
inductive Qt (H:Hp):List V->List PyData->Prop
 |nil:Qt H [] []
 |cons {x:V}{d:PyData}{xs:List V}{ds:List PyData}:RdD H x d->Qt H xs ds->Qt H (x::xs) (d::ds)
end
section
variable {X:Cx}{pz:List (Addr×Obj)}{σ:St}{H:Hp}{s:Shared}
mutual
theorem RdD.reads (I:Inv X pz σ H s):∀{x:V}{d:PyData},RdD H x d->∀{u:Value},xl x u->∃O,Reads s.heap u d O
 |_,_,.non,u,r=>by cases(show u=Value.none from r);exact⟨_,.none⟩
 |_,_,.bl b,u,r=>by cases(show u=Value.bool b from r);exact⟨_,.bool b⟩
 |_,_,.int i,u,r=>by obtain⟨t,e⟩:=(show ∃t,u=Value.int i t from r);subst e;exact⟨_,.int i t⟩
 |_,_,.str x,u,r=>by obtain⟨t,e⟩:=(show ∃t,u=Value.str x t from r);subst e;exact⟨_,.str x t⟩
 |_,_,@RdD.tup _ a xs ds e h,u,r=>by
  cases(show u=Value.ref a from r)
  obtain⟨_,G,F,o,h1,h2,n,U⟩:=(show xP X.prog X.w H s.heap a (.tup xs)from I.hok a _ e)
  obtain⟨O,S⟩:=Qt.reads I h F
  exact⟨_,.tuple h1 h2 U ↥S⟩
 |_,_,@RdD.lst _ a xs ds e h,u,r=>by
  cases(show u=Value.ref a from r)
  obtain⟨_,G,n,F,h1⟩:=(show xP X.prog X.w H s.heap a (.lst xs)from I.hok a _ e)
  obtain⟨O,S⟩:=Qt.reads I h F
  exact⟨_,.list h1 rfl rfl ↥S⟩
theorem Qt.reads (I:Inv X pz σ H s):∀{xs:List V}{ds:List PyData},Qt H xs ds->∀{us:List Value},z6 xs us->∃O,ReadsAll s.heap us ds O
 |_,_,.nil,us,r=>by cases r;exact⟨_,.nil⟩
 |_,_,.cons h t,us,r=>by
  cases r with
  |cons r1 r2 =>
   obtain⟨S,F⟩:=RdD.reads I h r1
   obtain⟨U,G⟩:=Qt.reads I t r2
   exact⟨_,.cons F G⟩
end
end
inductive zhC (x:V) (y:V) (H:Hp) (Q:VK):Prop
 |mk:∀d e,(RdD H x d)->(RdD H y e)->(SeqAt.shaped d=true)->(SeqAt.shaped e=true)->(Q (.bl (PyData.eqv d e)) H)->zhC x y H Q
def ziT:R2:=λx y H Q=>zhC x y H Q
inductive zhG (x:V) (y:V) (H:Hp) (Q:VK):Prop
 |mk:∀d e,(RdD H x d)->(RdD H y e)->(SeqAt.shaped d=true)->(SeqAt.shaped e=true)->(Q (.bl (!PyData.eqv d e)) H)->zhG x y H Q
def zks:R2:=λx y H Q=>zhG x y H Q
section
variable {X:Cx}
theorem jX (W:X.A.units+64<cLine):OpR X (compareOp .Eq) ziT:=by
 intro pz s σ H x y v u Q I Y V h
 obtain⟨d,e,hd,F,U,S,q⟩:=h
 obtain⟨as,O⟩:=hd.reads I Y
 obtain⟨bs,G⟩:=F.reads I V
 exact eq_dataH O G U S W ⟨.bl _,H,I,rL,q⟩
theorem zbI (W:X.A.units+64<cLine):OpR X (compareOp .NotEq) zks:=by
 intro pz s σ H x y v u Q I Y V h
 obtain⟨d,e,hd,F,U,S,q⟩:=h
 obtain⟨as,O⟩:=hd.reads I Y
 obtain⟨bs,G⟩:=F.reads I V
 exact ne_dataH O G U S W ⟨.bl _,H,I,rL,q⟩
def Bd (n:Nat) (i:Int):Prop:=i.natAbs<2^n
theorem Bd.mono {m n:Nat}{i:Int}(h:Bd m i) (l:m<=n):Bd n i:=w4 h (Nat.pow_le_pow_right (by decide) l)
theorem Bd.md {m n:Nat}{i:Int}(h:Bd m i) (l:m<=n:=by decide):Bd n i:=h.mono l
theorem Bd.bits {n:Nat}{i:Int}(h:Bd n i):Builtin.Int.intBits i<=n:=intBits_le_iff.mpr h
theorem Bd.of_bits {n:Nat}{i:Int}(h:Builtin.Int.intBits i<=n):Bd n i:=intBits_le_iff.mp h
theorem Bd.mul {m n:Nat}{i j:Int}(h:Bd m i) (k:Bd n j):Bd (m+n) (i*j):=.of_bits (intBits_mul_le h.bits k.bits)
theorem Bd.add {m n:Nat}{i j:Int}(h:Bd m i) (k:Bd n j):Bd (max m n+1) (i+j):=.of_bits (intBits_add_le h.bits k.bits)
theorem Bd.neg {n:Nat}{i:Int}(h:Bd n i):Bd n (-i):=by unfold Bd;rw[Int.natAbs_neg];exact h
theorem Bd.sub {m n:Nat}{i j:Int}(h:Bd m i) (k:Bd n j):Bd (max m n+1) (i-j):=by rw[Int.sub_eq_add_neg];exact h.add k.neg
def Vl (i j:Int):Prop:=Bd 1000000 i/\Bd 1000000 j
theorem zK:OpR X (binaryOp .Mult) (rI Vl λi j=>.int (i*j)):=opI λ_ _ _ _ _ _ _ F q=>mul_int q (IntMulOk.of_le F.1.bits F.2.bits (by decide))
def zaq (i j:Int):Prop:=j≠0/\Bd 8900 j
theorem xJ:OpR X (binaryOp .FloorDiv) (rI zaq λi j=>.int (i.fdiv j)):=opI λ_ j _ _ _ _ _ F q=>floordiv_int F.1 q (.inl (PyProof.noPylong_of_log2 (by
 have h1:j.natAbs≠0:=λz=>F.1 (Int.natAbs_eq_zero.mp z)
 have h2:j.natAbs<2^9000:=w4 F.2 (Nat.pow_le_pow_right (by decide) (by decide))
 exact(Nat.log2_lt h1).mpr h2)))
theorem vY:vK X (.builtin "isinstance") (λxs H Q=>∃x t n b,xs=[x,.ty n]/\Qv X.K H x t/\PySem.W.kitOne X.K t (.type n)=some b/\Q (.bl b) H):=by
 intro pz s σ H xs us Q I r h
 obtain⟨x,t,n,b,rfl,ty,e,q⟩:=h
 obtain⟨u,F,rfl,G,O⟩:=zcP r
 cases(show F=Value.type n from O)
 exact zc6 I G ty e λtk=>⟨.bl b,H,I.tok tk,rL,q⟩
end
end L2
namespace HT
open PySem PySem.Spec PyProof.Rows L2
section
variable {prog:Program}{w:World}{A:Around}{E:Value->Shared->Prop}{s:Shared}
theorem zbf (n:Nat):Builtin.Slice.sliceAdjust none none (-1) (n:Int)=((n:Int)-1,-1):=by
 unfold Builtin.Slice.sliceAdjust
 have h1:((-1:Int)<0):=by lia
 simp only[h1,if_true]
theorem zbK (n:Nat):Builtin.Slice.slicePlaces ((n:Int)-1) (-1) (-1)=n:=by
 unfold Builtin.Slice.slicePlaces
 have h1:¬((-1:Int)>0):=by lia
 simp only[h1,if_false]
 split
 ·rw[show (- -1:Int)=1 by decide,Int.ediv_one];lia
 ·lia
theorem zeW (xs:Array Value):((List.range xs.size).filterMap λ(m:Nat)=>xs[(((xs.size:Int)-1)+(m:Int)*(-1)).toNat]?).toArray=xs.toList.reverse.toArray:=by
 congr 1
 have e:(List.range xs.size).filterMap (λ(m:Nat)=>xs[(((xs.size:Int)-1)+(m:Int)*(-1)).toNat]?)=(List.range xs.size).filterMap (λm=>xs[xs.size-1-m]?):=by
  have hf:(λ(m:Nat)=>xs[(((xs.size:Int)-1)+(m:Int)*(-1)).toNat]?)=λm=>xs[xs.size-1-m]?:=by
   funext m
   have:(((xs.size:Int)-1)+(m:Int)*(-1)).toNat=xs.size-1-m:=by lia
   rw[this]
  rw[hf]
 rw[e]
 have e2:(List.range xs.size).filterMap (λm=>xs[xs.size-1-m]?)=((List.range xs.size).map λm=>xs.size-1-m).filterMap (xs[·]?):=by
  rw[List.filterMap_map];rfl
 rw[e2,PySem.W.krv_range,List.filterMap_reverse,PySem.W.krv_all]
theorem QS {sl:Addr}{t:Tok}{n:Nat}{Q:Int×Int×Nat->Shared->Prop}(hs:s.heap.IsSliceOf sl .none .none (.int (-1) t))
  (h:Q ((n:Int)-1,-1,n) s):wpAny (model prog w) A (Builtin.Slice.sliceApplied (.ref sl) (pure (n:Int))) Q E s:=by
 obtain⟨os,hos,hcs,hds⟩:=id hs
 unfold Builtin.Slice.sliceApplied Builtin.Slice.sliceFields
 refine we (we (WW hos hds (x:=.none) rL (we (WW hos hds (x:=.none) rL (we (WW hos hds (x:=.int (-1) t) rL (wn ?_)))))))
 refine we (slicePart_int ?_)
 show wpAny _ _ (if((-1:Int) == 0)=true then _ else _) _ _ s
 rw[if_neg (by decide)]
 refine we (slicePart_none (we (slicePart_none (we (wn ?_)))))
 show wpAny _ _ (match Builtin.Slice.sliceAdjust none none (-1) (n:Int)with | (lo,hi)=>pure (lo,(-1:Int),Builtin.Slice.slicePlaces lo hi (-1))) _ _ s
 rw[zbf n]
 show wpAny _ _ (pure ((n:Int)-1,(-1:Int),Builtin.Slice.slicePlaces ((n:Int)-1) (-1) (-1))) _ _ s
 rw[zbK]
 exact wn h
theorem getItem_tuple_rev {t sl:Addr}{items:Array Value}{tk:Tok}{Q:Value->Shared->Prop}(ht:IsTup s.heap t items) (hs:s.heap.IsSliceOf sl .none .none (.int (-1) tk))
  (h:Q (.ref s.heap.objs.size) { s with heap:=s.heap.push { cls:=.type "tuple",data:=.seq items.toList.reverse.toArray } })
  (hsz:items.size<=sizeLine):wpAny (model prog w) A (getItem (.ref t) (.ref sl)) Q E s:=by
 have htake:sizeOk (.seq items.toList.reverse.toArray):=by
  show items.toList.reverse.toArray.size<=sizeLine
  rw[wN,yp,wI]
  omega
 obtain⟨os,hos,hcs,hds⟩:=id hs
 have hTs:s.TypeIs (.ref sl) "slice":=⟨os,hos,hcs⟩
 unfold getItem
 try with_reducible refine yZ ?_
 first | refine we (wn ?_) | skip
 refine we (wpAny_sequenceKey ht.typeIs (by decide) ?_)
 refine we (wpAny_callSpecial?_slot (name:=Str.ofString "__getitem__") ht.typeIs uY
  (ut uY ht.typeIs entry_tuple_getitem ?_ (args_tuple_getitem _ _)))
 show wpAny _ _ (Builtin.Tuple.tupleItemsOf (.ref t) >>= _) _ _ s
 refine we (tupleItemsOf_ ht ?_)
 refine we (Yw hTs ?_)
 rw[if_pos (by decide)]
 refine we (QS hs ?_)
 have hno:¬((((items.size:Int)-1) == 0&&(-1:Int) == 1&&items.size == items.size)=true):=by
  intro q
  rw[uN,uN]at q
  exact absurd (eq_of_beq q.1.2) (by decide)
 show wpAny _ _ (if(((items.size:Int)-1) == 0&&(-1:Int) == 1&&items.size == items.size)=true then _ else _) _ _ s
 rw[if_neg hno,zeW]
 first
  |exact we (m:=Builtin.Tuple.tupleExact _) (yI (wn ⟨_,rfl,wn h⟩) htake)
  |exact we (m:=Builtin.Tuple.tupleExact _) (yI (we (wn (wn ⟨_,rfl,wn h⟩))) htake)
  |exact we (we (m:=Builtin.Tuple.tupleExact _) (yI (wn (wn ⟨_,rfl,wn h⟩)) htake))
  |exact we (we (m:=Builtin.Tuple.tupleExact _) (yI (wn ⟨_,rfl,wn h⟩) htake))
end
end HT
namespace L2
open PySem PySem.Spec PyProof.Rows
section
variable {X:Cx}{e st:Expr}{te:TE}{pos p2:Pos}
theorem z6.rev:∀{xs:List V}{us:List Value},z6 xs us->z6 xs.reverse us.reverse
 |_,_,.nil=>.nil
 |_,_,.cons r t=>by rw[List.reverse_cons,List.reverse_cons];exact(z6.rev t).append (.cons r .nil)
inductive zfK (K:Fg) (Q:VK) (x:V) (y:V) (H2:Hp):Prop
 |mk:∀a xs,(x=.ref a)->(y=.int (-1))->(SqT K H2 a xs)->(∀p,H2 p=none->Q (.ref p) (upd H2 p (.tup xs.reverse)))->zfK K Q x y H2
def zkL (K:Fg) (te ts:TE):TE:=λσ H Q=>te σ H λx H1=>ts σ H1 λy H2=>zfK K Q x y H2
theorem zgK {ts:TE}(he:PE X e te) (hs:PE X st ts):PE X (.Subscript e (.Slice none none (some st) p2) pos) (zkL X.K te ts):=by
 intro pz s σ H Q I h
 refine Subscript_ (thn (he pz s σ H _ I h) λv s1 ⟨x,H1,I1,r1,q1⟩=>?_)
 refine wpAny_Slice ?_
 rw[evalPart_none]
 refine wn (wn ?_)
 rw[evalPart_some]
 refine thn (hs pz s1 σ H1 _ I1 q1) λu s3 ⟨y,H3,I3,r3,q3⟩=>?_
 obtain⟨a,xs,rfl,rfl,hx,q⟩:=q3
 cases r1
 obtain⟨t,rfl⟩:=r3
 have I4:Inv X pz σ H3 { s3 with heap:=s3.heap.push { cls:=.type "slice",data:=.fields #[.none,.none,.int (-1) t] } }:=I3.kept (t':=s3.toks) λb ob q=>wg _ q
 obtain⟨its,r,ht,hz⟩:=I4.tuple hx
 have hlen:its.toArray.size=xs.length:=by rw[wN];exact r.length.symm
 show wpAny (model X.prog X.w) X.A (subscriptTail e (.Slice none none (some st) p2) (.ref a) (.ref s3.heap.objs.size)) (EP X pz σ Q) X.xe { s3 with heap:=s3.heap.push { cls:=.type "slice",data:=.fields #[.none,.none,.int (-1) t] } }
 refine tail_any (ops:=[.ref a,.ref s3.heap.objs.size]) ht.typeIs uY.lookup (HT.getItem_tuple_rev ht (Heap.IsSliceOf.new ..) ?_ (by rw[hlen];exact hz)) (by with_unfolding_all rfl)
 refine⟨.ref _,_,I4.laid (t':=s3.toks) (o:=.tup xs.reverse) (λb ob q=>wg _ q) (wo _) ?_,rL,q _ (I4.hok.fresh (wo _))⟩
 exact⟨by rw[yp];exact hz,_,r.rev,IsTup.new _ _⟩
end
end L2
namespace KM
def zaG {a b:Int}(G:0<=a) (F:0<b):Int.gcd b (a % b)=Int.gcd a b:=by
 obtain⟨m,rfl⟩:=WL G
 obtain⟨n,rfl⟩:=WL (yK F)
 rw[<-Int.natCast_emod,WZ (m:Int)]
 show Nat.gcd n (m % n)=Nat.gcd n m
 rw[Nat.gcd_comm n (m % n)]
 exact(Nat.gcd_rec n m).symm
def qN (q:Rat):(q.den:Int)≠0:=by have:=q.den_nz;lia
def den_pos (q:Rat):(0:Int)<q.den:=by have:=q.den_nz;omega
def dv (t b:Int):Int:=if b<0 then -(Int.gcd t b:Int)else(Int.gcd t b:Int)
def zgg {t b:Int}(F:b≠0):0<Int.gcd t b:=Ya _ F
def zhr {t b:Int}(F:b≠0):dv t b≠0:=by
 have:=zgg (t:=t) F
 unfold dv;split <;> omega
def zh1 {t b:Int}:(dv t b).natAbs=Int.gcd t b:=by
 unfold dv;split <;> lia
def zhq {t b:Int}(F:b≠0):(dv t b).natAbs<=b.natAbs:=by
 rw[zh1];exact YL ∅ (YC t b)
def zbn {t b:Int}(F:b≠0):t.fdiv (dv t b)=(Rat.divInt t b).num:=by
 rw[Rat.num_divInt,WZ b t]
 have h1:((Int.gcd t b:Nat):Int) ∣ t:=um ..
 unfold dv
 split
 ·rename_i h
  rw[uG (Int.neg_dvd.mpr h1),Int.ediv_neg,Int.sign_eq_neg_one_of_neg h]
  rw[show (-1*t)=-t by lia,Int.neg_ediv_of_dvd h1]
 ·rename_i h
  rw[uG h1,Int.sign_eq_one_of_pos ∅,uU]
def zdU {t b:Int}(F:b≠0):b.fdiv (dv t b)=((Rat.divInt t b).den:Int):=by
 rw[Rat.den_divInt,if_neg F,WZ b t]
 have h1:((Int.gcd t b:Nat):Int) ∣ b:=Wr ..
 have h2:Int.gcd t b ∣ b.natAbs:=YC t b
 unfold dv
 split
 ·rename_i h
  rw[uG (Int.neg_dvd.mpr h1),Int.ediv_neg]
  rw[Int.natCast_ediv,show ((b.natAbs:Nat):Int)=-b by lia,Int.neg_ediv_of_dvd h1]
 ·rename_i h
  rw[uG h1,Int.natCast_ediv,show ((b.natAbs:Nat):Int)=b by lia]
def JZ {t b:Int}(G:b≠0):(Rat.divInt t b).num.natAbs<=t.natAbs:=by
 rw[<-zbn G]
 have:t.fdiv (dv t b) ∣ t:=by
  have h1:dv t b ∣ t:=by
   unfold dv;split
   ·exact Int.neg_dvd.mpr (um ..)
   ·exact um ..
  obtain⟨c,F⟩:=h1
  rw[uG ⟨c,F⟩]
  refine⟨dv t b,?_⟩
  exact(Int.ediv_mul_cancel ⟨c,F⟩).symm
 by_cases h0:t=0
 ·subst h0;simp
 ·exact YL ∅ (uQ.mpr this)
def Xs {t b:Int}(F:b≠0):(Rat.divInt t b).den<=b.natAbs:=by
 rw[Rat.den_divInt,if_neg F];exact Nat.div_le_self _ _
def zcx (a b:Rat):Rat.divInt (a.num*b.den+b.num*a.den) (a.den*b.den)=a+b:=by
 rw[Rat.add_def',<-Rat.divInt_ofNat];simp
def za6 (a b:Rat):Rat.divInt (a.num*b.num) (a.den*b.den)=a*b:=by
 rw[Rat.mul_def',<-Rat.divInt_ofNat];simp
def zct (a b:Rat):Rat.divInt (a.num*b.den) (a.den*b.num)=a/b:=by
 rw[Wi,Rat.inv_def,<-ua,wW]
def vn (a b:Rat):a.num*b.den<b.num*a.den↔a<b:=(Rat.lt_iff a b).symm
def zeF (n:Int):Rat.divInt n 1=(n:Rat):=by simpa using wW (n:Rat)
structure Zl where
 pl:Rat
 sp:Rat
 wt:Int
end KM
namespace L2
open PySem PySem.Spec PyProof.Rows
structure Cal (P:Program) (w:World) (K:Fg) (mg:Str->Option Value) (base:Heap) (x:Str) (k:Nat) (ps:List Str) (dvs:List V) (sp:Sp):Prop where
 ex:∃f fd ds,ZH P w K mg base CX0 k f fd ps sp/\mg x=some (.ref f)/\PySem.W.keepIn K (.ref f)=true/\Ze K fd ps ds/\z6 dvs ds
def zC {X:Cx}{x:Str}{k:Nat}{ps:List Str}{dvs:List V}{sp:Sp}{p pos:Pos}{e:Expr}{es:List Expr}{t:TA}
  (c:Cal X.prog X.w X.K X.mg X.base x k ps dvs sp) (hr:xb k X.A) (Y:PA X (e::es) t) (W:Gl X x:=by rfl) (I:(x == ("__debug__":Str))=false:=by decide)
  (O:starEach (e::es) X.env=(false,eval e X.env)::starEach es X.env:=by rfl) (G:(backTo pos (starEach es X.env)).any (·.1)=false:=by rfl) :
  PE X (.Call (.Name x p) (e::es) [] pos) (ZE sp dvs E0 t):=by
 obtain⟨f,fd,ds,F,hm,S,U,hd⟩:=c.ex
 exact zgH F hr W hm S U hd zeP Y I O G
structure Df (K:Fg) (mg:Str->Option Value) (x:Str) (st:Stmt) (ps:List Str) (dvs:List V):Prop where
 ex:∃(f:Addr) (oc:Value) (od:Option Addr) (dV kV doc pm:Value) (an:Option Addr) (cdv ct:Value) (osl:Array (Option Value)) (ds:List Value),
  K.lookup f=some ⟨oc,od,.func (PySem.W.fnOf x x (xH st) (z7 st) (zj st) dV kV doc pm an cdv ct),osl⟩/\PySem.W.codeIn K cdv x=true/\PySem.W.keepIn K (.ref f)=true/\mg x=some (.ref f) ∧
  z6 dvs ds/\Ze K (PySem.W.fnOf x x (xH st) (z7 st) (zj st) dV kV doc pm an cdv ct) ps ds
section
variable {P:Program}{w:World}{K:Fg}{mg:Str->Option Value}{base:Heap}
theorem Df.cal {x:Str}{st:Stmt}{N ps:List Str}{dvs:List V}{k:Nat}{sp:Sp}(D:Df K mg x st ps dvs) (S:zB N ps (zj st)) (len:∀vs H Q E,sp vs H Q E->vs.length=ps.length)
  (F:∀(f:Addr) (cdv:Value) (A:Around) (outer:List Env) (s:Shared) (H:Hp) (vs:List V) (Q:VK) (E:XK),xb k (A.deeper (envOfC x (zj st) s.heap.objs.size f cdv))->sp vs H Q E →
   ∃t,PSs (xc CX0 P w K mg base N x (zj st) f cdv A outer s H E).nox (z7 st) t/\t { nx:=λ_ H'=>Q .non H',rt:=Q } (vT N vs) H):Cal P w K mg base x (k+1) ps dvs sp:=by
 obtain⟨f,oc,od,dV,kV,U,pm,an,cdv,ct,W,ds,lk,G,O,hm,Y,hb⟩:=D.ex
 refine⟨⟨f,_,ds,zd6 lk G S len λA outer s H vs Q E hr I=>?_,hm,O,hb,Y⟩⟩
 obtain⟨t,h,q⟩:=F f cdv A outer s H vs Q E hr I
 exact⟨t,h.nox,q⟩
theorem Df.calq {x:Str}{st:Stmt}{N ps:List Str}{dvs:List V}{k:Nat}{sp:Sp}(D:Df K mg x st ps dvs) (S:zB N ps (zj st))
  (F:∀(f:Addr) (cdv:Value) (A:Around) (outer:List Env) (s:Shared) (H:Hp) (vs:List V) (Q:VK) (E:XK),xb k (A.deeper (envOfC x (zj st) s.heap.objs.size f cdv))->sp vs H Q E →
   ∃t,PSs (xc CX0 P w K mg base N x (zj st) f cdv A outer s H E).nox (z7 st) t/\t { nx:=λ_ H'=>Q .non H',rt:=Q } (vT N vs) H) (len:∀vs H Q E,sp vs H Q E->vs.length=ps.length:=by intro _ _ _ _ h;repeat (first | (cases h;subst_vars;rfl) | (obtain⟨rfl,_⟩:=h;rfl) | (obtain⟨_,h⟩:=h))):Cal P w K mg base x (k+1) ps dvs sp:=D.cal S len F
theorem zjP {x:Str}{st:Stmt}{ps:List Str}{f:Addr}{V:Value}{U O:Option Addr}{G:Array (Option Value)}{I kV F S cdv ct:Value}
  (l:K.lookup f=some ⟨V,U,.func (PySem.W.fnOf x x (xH st) (z7 st) (zj st) I kV F S O cdv ct),G⟩) (c:PySem.W.codeIn K cdv x=true) (k:PySem.W.keepIn K (.ref f)=true) (m:mg x=some (.ref f))
  (Y:∀us:List Value,us.length=ps.length->bindArgs (PySem.W.fnOf x x (xH st) (z7 st) (zj st) I kV F S O cdv ct) ⟨us,[]⟩=pure (ps.zip us)):Df K mg x st ps [] :=
 ⟨⟨f,V,U,I,kV,F,S,O,cdv,ct,G,[],l,c,k,m,.nil,.all Y⟩⟩
end
def rp (q:Rat):List V:=[.int q.num,.int (q.den:Int)]
def zr (H:Hp) (p:Addr) (q:Rat):Prop:=H p=some (.tup (rp q))
def zr.same {H H':Hp}{p:Addr}{q:Rat}(h:zr H p q) (e:zk H H'):zr H' p q:=e _ _ h
def Sz (n:Nat) (q:Rat):Prop:=Bd n q.num/\Bd n (q.den:Int)
def Sz.mono {m n:Nat}{q:Rat}(h:Sz m q) (l:m<=n):Sz n q:=⟨h.1.mono l,h.2.mono l⟩
def Sz.md {m n:Nat}{q:Rat}(h:Sz m q) (l:m<=n:=by decide):Sz n q:=h.mono l
def Bd.of_le {n:Nat}{i j:Int}(h:i.natAbs<=j.natAbs) (b:Bd n j):Bd n i:=WK h b
def Sz.divInt {n:Nat}{t b:Int}(F:b≠0) (h1:Bd n t) (h2:Bd n b):Sz n (Rat.divInt t b) :=
 ⟨h1.of_le (KM.JZ F),h2.of_le (by have:=KM.Xs (t:=t) F;omega)⟩
def Sz.add {m n:Nat}{x y:Rat}(h:Sz m x) (k:Sz n y):Sz (m+n+1) (x+y):=by
 rw[<-KM.zcx]
 refine .divInt (uZ (KM.qN x) (KM.qN y)) ?_ ((h.2.mul k.2).mono ∅)
 exact((h.1.mul k.2).add (k.1.mul h.2)).mono ∅
def Sz.mul {m n:Nat}{x y:Rat}(h:Sz m x) (k:Sz n y):Sz (m+n) (x*y):=by
 rw[<-KM.za6]
 exact .divInt (uZ (KM.qN x) (KM.qN y)) (h.1.mul k.1) (h.2.mul k.2)
def zdu (q:Rat):SeqAt.shaped (.tuple [.int q.num,.int (q.den:Int)])=true:=rfl
def zr.rd {H:Hp}{p:Addr}{q:Rat}(h:zr H p q):RdD H (.ref p) (.tuple [.int q.num,.int (q.den:Int)]):=.tup h (.cons (.int _) (.cons (.int _) .nil))
def zdY (x y:Rat):PyData.eqv (.tuple [.int x.num,.int (x.den:Int)]) (.tuple [.int y.num,.int (y.den:Int)])=decide (x=y):=by
 simp only[PyData.eqv,PyData.eqvAll,Bool.and_true]
 rw[uX]
 simp only[uN,beq_iff_eq,yo]
 constructor
 ·rintro ⟨h1,h2⟩;exact Rat.ext h1 ∅
 ·rintro rfl;exact⟨rfl,rfl⟩
inductive vt  (vs:List V) (H:Hp) (Q:VK) (_e3:XK):Prop
 |mk:∀t b,(vs=[.int t,.int b])->(b≠0)->(Bd 8900 b)->(∀p H',zk H H'->zr H' p (Rat.divInt t b)->Q (.ref p) H')->vt vs H Q _e3
inductive qt (C:Rat->Rat->Prop) (f:Rat->Rat->Rat) (vs:List V) (H:Hp) (Q:VK) (_e3:XK):Prop
 |mk:∀p q x y,(vs=[.ref p,.ref q])->(zr H p x)->(zr H q y)->(C x y)->(∀r H',zk H H'->zr H' r (f x y)->Q (.ref r) H')->qt C f vs H Q _e3
def Sz2 (x y:Rat):Prop:=Sz 4000 x/\Sz 4000 y
def at0 {α:Type}(a b:α):atI [a,b] 0=some a:=rfl
def at1 {α:Type}(a b:α):atI [a,b] 1=some b:=rfl
def zk.upd {H:Hp}{p:Addr}{o:HO}(h:H p=none):zk H (upd H p o):=λb u e=>by rw[zT (zZ e h)];exact e
def TrX (h B:Heap) (e:Addr) (cls a0:Value) (dct:Option Addr) (fl:Value):Prop :=
 ∃oe vs T oT ts,h.get? e=some oe/\oe.cls=cls/\oe.dict=dct/\oe.data=.fields vs/\vs[0]?=some a0/\vs[1]?=some (.ref T)/\B.get? T=none/\T≠e/\h.get? T=some oT/\oT.data=.fields ts/\ts[3]?=some fl
def zdf (o:Obj) (f:Array Value->Array Value):(Obj.mapFields f o).dict=o.dict:=by
 unfold Obj.mapFields;split <;> rfl
section
variable {M:Model}{A:Around}{E:Value->Shared->Prop}{s:Shared}{B:Heap}{env:Env}{outer l:List Env}{L e:Addr}{oe:Obj}{vs:Array Value}{a0 cls fl:Value}{dct:Option Addr}{Q:Unit->Shared->Prop}
theorem zca {head:Value}{hadNext:Bool}(hfr:A.frames=some (env::outer)) (hl:s.heap.FunFrames B (env::outer)) (hf:env.frame=some L) (he:s.heap.get? e=some oe) (hB:B.StaysIn s.heap) (hn:B.get? e=none) (hd:oe.data=.fields vs) (hz:1<vs.size) (h0:vs[0]?=some a0)
  (q:∀h',B.StaysIn h'->h'.FunFrames B (env::outer)->TrX h' B e oe.cls a0 oe.dict (rawInt L)->s.heap.UpToSlots h'->Q () { s with heap:=h' }) :
  wpAny M A (do let a <-frameOf env;let pl <-entryPlaceOf L hadNext;let b <-EntryCells.newEntry head a .none (rawInt L) .none pl;setField (.ref e) 1 b) Q E s:=by
 have nf:e∉(env::outer).filterMap (·.frame):=λm=>by
  obtain⟨_,o,ho,hnf⟩:=hl.mem m
  rw[he]at ho;cases ho;exact hnf vs hd
 refine we (wpAny_frameOf_fun hfr hl hf λg1 k1=>we (wpAny_entryPlaceOf λpl hpl=>?_))
 unfold EntryCells.newEntry newFields
 have e1:g1.get? e=some oe:=(k1.2.1 e nf).trans he
 have B1:B.StaysIn g1:=λb o z=>(k1.2.1 b λm=>by rw[(hl.mem m).1]at z;cases z).trans (hB b o z)
 have fr:g1.objs.size≠e:=WD (wF e1)
 have d3:=Obj.data_mapFields hd (·.setIfInBounds 1 (Value.ref g1.objs.size))
 refine we (yI (Y5 (wg _ e1) hd hz (q _ (λb o z=>?_) (hl.of_keeps λb o hb nn=>?_) ?_ λb o hb nn=>?_)) (hpl.sizeOk5 _ _ _ _ _))
 ·have ne:e≠b:=λr=>by rw[<-r,hn]at z;cases z
  rw[yh _ _ ne]
  exact wg _ (B1 b o z)
 ·obtain⟨sl,z⟩:=k1.2.2 b o hb
  have ne:e≠b:=λr=>by rw[<-r,he]at hb;cases hb;exact nn vs hd
  exact⟨{ o with slots:=sl },by rw[yh _ _ ne];exact wg _ z,rfl⟩
 ·refine⟨_,_,g1.objs.size,_,_,yQ _ (wg _ e1) (Obj.isFreed_of_fields d3),Obj.cls_mapFields _ _,zdf _ _,d3,?_,by simp[hz],B1.fresh,fr,(yh _ _ (Ne.symm fr)).trans (wH g1 rfl),rfl,?_⟩
  ·rw[Array.getElem?_setIfInBounds_ne (by decide)];exact h0
  ·first | (simp;done) | (rcases hpl with rfl | ⟨_,_,_,_,_,_,_,rfl⟩ <;> simp)
 ·obtain⟨sl,z⟩:=k1.2.2 b o hb
  have ne:e≠b:=λr=>by rw[<-r,he]at hb;cases hb;exact nn vs hd
  exact⟨sl,by rw[yh _ _ ne];exact wg _ z⟩
theorem zbH (F:A.frames=some (env::outer)) (V:s.heap.FunFrames B (env::outer)) (I:env.frame=some L) (G:s.heap.get? e=some oe) (U:B.StaysIn s.heap) (O:B.get? e=none) (hd:oe.data=.fields vs) (h1:vs[1]?=some .none) (S:vs[0]?=some a0)
  (q:∀h',B.StaysIn h'->h'.FunFrames B (env::outer)->TrX h' B e oe.cls a0 oe.dict (rawInt L)->s.heap.UpToSlots h'->Q () { s with heap:=h' }):wpAny M A (noteFrame (.ref e) env) Q E s:=by
 unfold noteFrame
 simp only[I]
 refine we (WW G hd h1 ?_)
 rw[if_neg (by decide)]
 exact zca F V I G U O hd (wX.mp h1).1 S q
theorem zdl (S:A.frames=some (env::outer)) (hl:s.heap.FunFrames B (env::outer)) (V:env.frame=some L) (ht:TrX s.heap B e cls a0 dct .none) (hB:B.StaysIn s.heap) (hn:B.get? e=none)
  (q:∀h',B.StaysIn h'->h'.FunFrames B (env::outer)->TrX h' B e cls a0 dct (rawInt L)->s.heap.UpToSlots h'->Q () { s with heap:=h' }):wpAny M A (noteFrame (.ref e) env) Q E s:=by
 obtain⟨oe,vs,T,oT,ts,Y,rfl,rfl,hd,h0,h1,nT,Te,O,I,U⟩:=ht
 unfold noteFrame
 simp only[V]
 refine we (WW Y hd h1 ?_)
 rw[if_pos (show (Value.ref T != Value.none)=true from by simp)]
 refine we (WW O I U ?_)
 rw[if_neg (show ¬((Value.none == rawInt L)=true)from by simp[rawInt])]
 have G:∀b,b≠T->(s.heap.update T (Obj.mapFields (·.setIfInBounds 3 Value.none))).get? b=s.heap.get? b:=λb F=>yh _ _ (Ne.symm F)
 have W:∀b o,s.heap.get? b=some o->(∀vs,o.data≠.fields vs)->b≠T:=λb o F nn r=>by rw[r,O]at F;cases F;exact nn ts I
 refine we (Y5 O I (wX.mp U).1 (zca S (hl.of_keeps λb o F nn=>⟨o,(G b (W b o F nn)).trans F,rfl⟩) V ((G e (Ne.symm Te)).trans Y) (λb o z=>(G b λr=>by rw[r,nT]at z;cases z).trans (hB b o z)) hn hd (wX.mp h1).1 h0 λh' x1 x2 x3 x4=>q h' x1 x2 x3 λb o F nn=>x4 b o ((G b (W b o F nn)).trans F) nn))
theorem zd4 (hB:B.StaysIn s.heap) (hl:s.heap.FunFrames B l) (ht:TrX s.heap B e cls a0 dct fl)
  (q:∀h',B.StaysIn h'->h'.FunFrames B l->TrX h' B e cls a0 dct .none->s.heap.UpToSlots h'->Q () { s with heap:=h' }):wpAny M A (setFlight (.ref e) none) Q E s:=by
 obtain⟨oe,vs,T,oT,ts,V,hc,S,hd,h0,h1,Y,W,O,I,h3⟩:=ht
 have z3:3<ts.size:=(wX.mp h3).1
 have G:∀b,b≠T->(s.heap.update T (Obj.mapFields (·.setIfInBounds 3 ((none:Option Addr).elim Value.none λf=>rawInt f)))).get? b=s.heap.get? b:=λb F=>yh _ _ (Ne.symm F)
 have U:∀b o,s.heap.get? b=some o->(∀vs,o.data≠.fields vs)->b≠T:=λb o F nn r=>by rw[r,O]at F;cases F;exact nn ts I
 unfold setFlight
 refine we (WW V hd h1 ?_)
 rw[if_pos (show (Value.ref T != Value.none)=true from by simp)]
 exact Y5 O I z3 (q _ (λb o z=>(G b λr=>by rw[r,Y]at z;cases z).trans (hB b o z)) (hl.of_keeps λb o F nn=>⟨o,(G b (U b o F nn)).trans F,rfl⟩)
  ⟨oe,vs,T,_,_,(G e (Ne.symm W)).trans V,hc,S,hd,h0,h1,Y,W,yQ _ O (Obj.isFreed_of_fields (Obj.data_mapFields I _)),Obj.data_mapFields I _,by simp[z3]⟩ λb o F nn=>⟨o.slots,(G b (U b o F nn)).trans F⟩)
end
def FlX (B:Heap) (l:List Env) (e:Addr) (cls a0:Value) (dct:Option Addr) (h:Heap):Prop:=B.StaysIn h/\B.get? e=none/\h.FunFrames B l/\TrX h B e cls a0 dct .none
def HeX (B:Heap) (l:List Env) (e:Addr) (cls a0:Value) (dct:Option Addr) (h:Heap):Prop:=B.StaysIn h/\B.get? e=none/\h.FunFrames B l/\∃fl,TrX h B e cls a0 dct fl
section
variable {M:Model}{A:Around}{E:Value->Shared->Prop}{s:Shared}{B h:Heap}{env:Env}{outer l:List Env}{L e:Addr}{a0 cls:Value}{dct:Option Addr}{Q:Unit->Shared->Prop}
theorem zgq (F:A.frames=some (env::outer)) (O:env.frame=some L) (x:FlX B (env::outer) e cls a0 dct s.heap) (q:∀h',HeX B (env::outer) e cls a0 dct h'->s.heap.UpToSlots h'->Q () { s with heap:=h' }):wpAny M A (noteFrame (.ref e) env) Q E s :=
 zdl F x.2.2.1 O x.2.2.2 x.1 x.2.1 λh' G S U I=>q h' ⟨G,x.2.1,S,_,U⟩ I
theorem zcj (x:HeX B l e cls a0 dct s.heap) (q:∀h',FlX B l e cls a0 dct h'->s.heap.UpToSlots h'->Q () { s with heap:=h' }):wpAny M A (setFlight (.ref e) none) Q E s:=by
 obtain⟨I,S,V,fl,O⟩:=x
 exact zd4 I V O λh' W F G U=>q h' ⟨W,S,F,G⟩ U
theorem zeq (F:A.frames=some (env::outer)) (S:env.frame=some L) (x:FlX B (env::outer) e cls a0 dct s.heap) (q:∀h',FlX B outer e cls a0 dct h'->s.heap.UpToSlots h'->Q () { s with heap:=h' }):wpAny M A (leaving env (.ref e)) Q E s:=by
 unfold leaving
 refine we (zgq F S x λh' y up=>zcj (s:={ s with heap:=h' }) y λh2 z G=>?_)
 obtain⟨I,V,⟨_,_,U⟩,O⟩:=z
 exact q h2 ⟨I,V,U,O⟩ (up.trans G)
theorem zby {args:List Value}(G:A.frames=some (env::outer)) (hf:env.frame=some L) (S:B.StaysIn h) (hl:h.FunFrames B (env::outer)) (F:Heap.MadeExcOf h s.heap e cls args)
  (q:∀h' t,FlX B outer e cls (.ref t) none h'->s.heap.UpToSlots h'->Q () { s with heap:=h' }):wpAny M A (leaving env (.ref e)) Q E s:=by
 obtain⟨t,U,_,_⟩:=F.there
 have O:B.get? e=none:=by
  cases z:B.get? e with
  |none=>rfl
  |some o=>have:=S e o z;rw[F.new]at this;cases this
 unfold leaving
 refine we (zbH (a0:=.ref t) G (hl.of_keeps λb o V _=>⟨o,F.keeps b o V,rL⟩) hf U (λb o z=>F.keeps b o (S b o z)) O rL rL rL λh' W x2 x3 x4=>?_)
 refine zcj (s:={ s with heap:=h' }) ⟨W,O,x2,_,x3⟩ λh2 z I=>?_
 obtain⟨z1,z2,⟨_,_,z3⟩,Y⟩:=z
 exact q h2 t ⟨z1,z2,z3,Y⟩ (x4.trans I)
end
structure Fly (P:Program) (w:World) (l:List Env) (H:Hp) (s:Shared) (C:Addr) (H':Hp) (a:Addr) (s':Shared) (B:Heap) (a0:Value) (dct:Option Addr):Prop where
 os:s'.os=s.os
 bare:AllBare s'.gens
 un:Un (frs l) [] H H' s.heap s'.heap
 hok:HOk P w H' s'.heap
 fly:FlX B l a (.ref C) a0 dct s'.heap
 kb:∀b o,s.heap.get? b=some o->b∉frs l->(∃o',B.get? b=some o')/\(H b=none->B.get? b=some o)
 kt:∀b u,H' b=some u->∃o,B.get? b=some o
abbrev CX1 (P:Program) (w:World):CXT:=λouter H s E e s'=>∃a C H' B a0 dct,e=.ref a/\Fly P w outer H s C H' a s' B a0 dct/\E (.ref C) dct H'
section
variable {P:Program}{w:World}{H H':Hp}{h h' B:Heap}{a:Addr}{o:HO}
theorem xP.obj (x:xP P w H h a o):∃u,h.get? a=some u:=by
 cases o with
 |lst xs=>obtain⟨_,_,_,_,e⟩:=x;exact⟨_,e⟩
 |tup xs=>obtain⟨_,_,_,F,e,_⟩:=x;exact⟨_,e⟩
 |dK kvs=>obtain⟨_,_,_,_,o,_,_,e,_⟩:=x;exact⟨_,e⟩
 |dT kvs=>obtain⟨_,_,_,_,o,_,_,e,_⟩:=x;exact⟨_,e⟩
 |set S n=>obtain⟨o,_,_,_,e,_⟩:=x;exact⟨_,e⟩
 |ins C dx fs=>obtain⟨_,_,_,e,_⟩:=x;exact⟨_,e⟩
 |own y=>obtain⟨_,e⟩:=x;exact⟨_,e⟩
 |xd fs=>obtain⟨_,⟨_,_,_,e,_⟩,_⟩:=x;exact⟨_,e⟩
 |rng lo hi=>obtain⟨_,_,_,e⟩:=x;exact⟨_,e⟩
 |frz F u=>obtain⟨e,_⟩:=x;exact⟨_,e⟩
 |tbl ps=>exact⟨_,(show h.get? a=some _ from x)⟩
 |met f y=>exact⟨_,(show h.get? a=some _ from x)⟩
 |ext φ=>obtain⟨_,⟨_,e⟩,_⟩:=x;exact⟨_,e⟩
theorem zh5 (x:HOk P w H h) (k1:B.StaysIn h) (k2:B.StaysIn h') (kt:∀b u,H b=some u->∃o,B.get? b=some o):HOk P w H h':=λa o e =>
 (x a o e).stay (λb u G q=>by
  have O:∃v,H b=some v:=by
   rcases G with rfl | G
   ·exact⟨_,e⟩
   ·exact⟨_,G⟩
  obtain⟨v,S⟩:=O
  obtain⟨I,F⟩:=kt b v S
  rw[k1 b I F]at q;cases q;exact k2 b _ F) (λ_ q=>q) λ_ _ q=>q
end
section
variable {X:Cx}{pz:List (Addr×Obj)}{σ:St}{H H':Hp}{s:Shared}
theorem Inv.notfr (I:Inv X pz σ H s){b:Addr}{o:Obj}(e:X.s₀.heap.get? b=some o) (F:b∉X.fs):b∉frs X.stack:=λz=>by
 rcases ww.mp (I.stkSub b z)with r | r
 ·exact absurd (w4 (wF e) I.ok.above) (by rw[r];exact uF _)
 ·exact F r
theorem zd5 {g:Array GenState}{d:Drawn}{t:Nat}{C a:Addr}{B h1 h':Heap}{a0:Value}{dct:Option Addr}(I:Inv X pz σ H s) (O:X.ex=[]) (W:∀b∈X.fs,b∈frs X.stack) (u:Un (frs X.stack) [] H H' s.heap h1)
  (kb:∀b o,s.heap.get? b=some o->b∉frs X.stack->(∃o',B.get? b=some o')/\(H b=none->B.get? b=some o)) (kt:∀b u,H' b=some u->∃o,B.get? b=some o)
  (hok:HOk X.prog X.w H' h1) (k1:B.StaysIn h1) (V:h1.FunFrames B X.stack) (up:h1.UpToSlots h') (fl:FlX B X.outer a (.ref C) a0 dct h') (hg:AllBare g) :
  Fly X.prog X.w X.outer X.H₀ X.s₀ C H' a { s with heap:=h',gens:=g,drawn:=d,toks:=t } B a0 dct where
 os:=I.os
 bare:=hg
 un:={
  keep:=λb o q n G S=>by
   have F:b∉X.ex:=by rw[O];exact S
   exact fl.1 b o ((kb b o (I.base.keep b o q n G F) (I.notfr q G)).2 (I.base.free b o q n F))
  slot:=λb o q n G S=>by
   have F:b∉X.ex:=by rw[O];exact S
   obtain⟨sl,e⟩:=I.base.slot b o q n G F
   obtain⟨a1,e1⟩:=u.slot b _ e (I.base.free b o q n F) (W b G) S
   obtain⟨_,o',U,hd⟩:=V.mem (W b G)
   have z:=U.symm.trans e1
   cases z
   obtain⟨Y,e2⟩:=up b _ e1 hd
   exact⟨Y,e2⟩
  free:=λb o q n S=>by
   have F:b∉X.ex:=by rw[O];exact S
   obtain⟨o',e⟩:=I.base.there b o q F
   exact u.free b o' e (I.base.free b o q n F) S
  there:=λb o q S=>by
   have F:b∉X.ex:=by rw[O];exact S
   by_cases G:b∈X.fs
   ·obtain⟨_,o',U,_⟩:=fl.2.2.1.mem G
    exact⟨o',U⟩
   ·obtain⟨o',e⟩:=I.base.there b o q F
    obtain⟨o2,e2⟩:=(kb b o' e (I.notfr q G)).1
    exact⟨o2,fl.1 b o2 e2⟩
  tups:=λb xs q=>u.tups b xs (I.base.tups b xs q)
  frzs:=λb o xs q=>u.frzs b o xs (I.base.frzs b o xs q)
  tbls:=λb ps q=>by
   obtain⟨m1,e1⟩:=I.base.tbls b ps q
   obtain⟨m2,e2⟩:=u.tbls b _ e1
   exact⟨m1++m2,by rw[e2,WH]⟩ }
 hok:=zh5 hok k1 fl.1 kt
 fly:=fl
 kb:=λb o q G=>by
  have F:b∉X.ex:=by rw[O];exact List.not_mem_nil
  obtain⟨o',e⟩:=I.base.there b o q F
  have z:=kb b o' e (I.notfr q G)
  exact⟨z.1,λn=>(kb b o (I.base.keep b o q n G F) (I.notfr q G)).2 (I.base.free b o q n F)⟩
 kt:=kt
end
abbrev XJ:=Addr->Option Addr->St->Hp->Prop
def zdC (X:Cx) (J:XJ):Prop:=∀(pz:List (Addr×Obj)) (σ:St) (H:Hp) (s:Shared) (a C:Addr) (H':Hp) (s':Shared) (B:Heap) (a0:Value) (dct:Option Addr),
 Inv X pz σ H s->Fly X.prog X.w X.stack H s C H' a s' B a0 dct->J C dct σ H'->X.xe (.ref a) s'
def zap (X:Cx) (J:XJ):Prop:=∀(pz:List (Addr×Obj)) (σ:St) (H:Hp) (s:Shared) (h':Heap) (a C:Addr) (us:List Value),
 Inv X pz σ H s->Heap.MadeExcOf s.heap h' a (.ref C) us->J C none σ H->X.xe (.ref a) { s with heap:=h' }
def EJ (E:XK):XJ:=λC d _ H'=>E (.ref C) d H'
section
variable {P:Program}{w:World}{K:Fg}{mg:Str->Option Value}{base:Heap}{N:List Str}{qual:Str}{scope:Scope}{f:Addr}{cd:Value}{A:Around}{outer:List Env}{s:Shared}{H:Hp}{E:XK}
theorem VX:zdC (xc (CX1 P w) P w K mg base N qual scope f cd A outer s H E) (EJ E):=by
 intro pz σ H1 S a C H' s' B a0 dct I F q
 obtain⟨U,g,d,t,G⟩:=s'
 have e:G=S.os:=F.os
 subst e
 refine zeq (L:=s.heap.objs.size) I.ok.frames rL F.fly λh' fl up=>?_
 refine⟨a,C,H',B,a0,dct,rL,?_,q⟩
 have z:=zd5 (g:=g) (d:=d) (t:=t) I rfl (λb O=>wR _ O) F.un F.kb F.kt F.hok F.fly.1 F.fly.2.2.1 up fl F.bare
 exact z
theorem JF:zap (xc (CX1 P w) P w K mg base N qual scope f cd A outer s H E) (EJ E):=by
 intro pz σ H1 F h1 a C us I U q
 have G:∀b o,F.heap.get? b=some o->b∉frs (xc (CX1 P w) P w K mg base N qual scope f cd A outer s H E).stack →
   (PySem.W.hideAll F.heap (frs (xc (CX1 P w) P w K mg base N qual scope f cd A outer s H E).stack)).get? b=some o:=λb o e n=>PySem.W.hideAll_get _ e n
 have O:(PySem.W.hideAll F.heap (frs (xc (CX1 P w) P w K mg base N qual scope f cd A outer s H E).stack)).StaysIn F.heap:=λb o q=>PySem.W.of_hideAll _ q
 have S:F.heap.FunFrames (PySem.W.hideAll F.heap (frs (xc (CX1 P w) P w K mg base N qual scope f cd A outer s H E).stack)) (xc (CX1 P w) P w K mg base N qual scope f cd A outer s H E).stack :=
  PySem.W.funFrames_hide I.stack λenv Y b V=>Yo.mpr ⟨env,Y,V⟩
 refine zby (L:=s.heap.objs.size) (h:=F.heap) (s:={ F with heap:=h1 }) I.ok.frames rfl O S U λh' t fl up=>?_
 have z:=zd5 (g:=F.gens) (d:=F.drawn) (t:=F.toks) (h1:=h1) I rfl (λb V=>wR _ V) (Un.kept U.keeps) (λb o e n=>⟨⟨o,G b o e n⟩,λ_=>G b o e n⟩)
  (λb u e=>by
   obtain⟨o,ho⟩:=(I.hok b u e).obj
   exact⟨o,G b o ho λz=>by rw[I.stkFree b z]at e;cases e⟩) (I.hok.kept U.keeps) (λb o e=>U.keeps b o (O b o e)) (S.of_keeps λb o e _=>⟨o,U.keeps b o e,rfl⟩) up fl I.bare
 exact⟨a,C,H1,_,_,_,rL,z,q⟩
end
def zjw (sp:Sp) (dvs:List V) (J:XJ) (t:TA):TE:=λσ H Q=>t σ H λvs H1=>sp (vs++dvs) H1 Q λc d H'=>∃C,c=.ref C/\J C d σ H'
structure Vm (P:Program) (w:World) (K:Fg) (mg:Str->Option Value) (base:Heap) (x:Str) (k:Nat) (ps:List Str) (dvs:List V) (sp:Sp):Prop where
 ex:∃f fd ds,ZH P w K mg base (CX1 P w) k f fd ps sp/\mg x=some (.ref f)/\PySem.W.keepIn K (.ref f)=true/\Ze K fd ps ds/\z6 dvs ds
section
variable {X:Cx}{k:Nat}{f:Addr}{fd:FuncData}{ps:List Str}{sp:Sp}{dvs:List V}{ds:List Value}{J:XJ}{x:Str}{p pos:Pos}{e:Expr}{es:List Expr}{t:TA}
theorem zgS {pz:List (Addr×Obj)}{σ:St}{H:Hp}{s:Shared}{Q:VK}{us:List Value}{vs:List V}(F:ZH X.prog X.w X.K X.mg X.base (CX1 X.prog X.w) k f fd ps sp) (hr:xb k X.A) (S:Ze X.K fd ps ds) (hd:z6 dvs ds) (Y:zdC X J)
  (I:Inv X pz σ H s) (r:z6 vs us) (h:sp (vs++dvs) H Q λc d H'=>∃C,c=.ref C/\J C d σ H'):wpAny (model X.prog X.w) X.A (call (.ref f) us) (EP X pz σ Q) X.xe s:=by
 have O:z6 (vs++dvs) (us++ds):=r.append hd
 have W:(us++ds).length=ps.length:=by rw[<-O.length];exact F.len _ _ _ _ h
 refine Ua (codeAny_mono (F.run X.A X.stack s H ⟨us,[]⟩ (us++ds) (vs++dvs) Q _ hr I.env0 (S s us I.kIn W) O h) λr s' G=>?_)
 cases r with
 |error e =>
  obtain⟨a,C,H',B,a0,dct,rfl,F,C',U,q⟩:=G
  cases U
  exact Y pz σ H s a C H' s' B a0 dct I F q
 |ok fl =>
  cases fl with
  |ret u=>exact I.after G
  |next=>exact False.elim G
  |brk=>exact False.elim G
  |cont=>exact False.elim G
theorem zhy (c:Vm X.prog X.w X.K X.mg X.base x k ps dvs sp) (hr:xb k X.A) (hx:zdC X J) (ha:PA X (e::es) t) (Y:Gl X x:=by rfl) (O:(x == ("__debug__":Str))=false:=by decide)
  (S:starEach (e::es) X.env=(false,eval e X.env)::starEach es X.env:=by rfl) (G:(backTo pos (starEach es X.env)).any (·.1)=false:=by rfl) :
  PE X (.Call (.Name x p) (e::es) [] pos) (zjw sp dvs J t):=by
 obtain⟨f,fd,ds,F,hm,U,V,hd⟩:=c.ex
 intro pz s σ H Q I h
 refine ui (Qf I Y hm ?_ O)
 refine Yp (h₀:=X.base) I.ok.mod.kin U (thn (ha pos pz s σ H _ I h) λus s1 ⟨vs,H1,I1,r,q⟩=>⟨I1.kIn,?_⟩) S G
 exact zgS F hr V hd hx I1 r q
end
section
variable {P:Program}{w:World}{K:Fg}{mg:Str->Option Value}{base:Heap}
theorem Df.cal1 {x:Str}{st:Stmt}{N ps:List Str}{dvs:List V}{k:Nat}{sp:Sp}(D:Df K mg x st ps dvs) (S:zB N ps (zj st)) (len:∀vs H Q E,sp vs H Q E->vs.length=ps.length)
  (F:∀(f:Addr) (cdv:Value) (A:Around) (outer:List Env) (s:Shared) (H:Hp) (vs:List V) (Q:VK) (E:XK),xb k (A.deeper (envOfC x (zj st) s.heap.objs.size f cdv))->sp vs H Q E →
   ∃t,PSs (xc (CX1 P w) P w K mg base N x (zj st) f cdv A outer s H E) (z7 st) t/\t { nx:=λ_ H'=>Q .non H',rt:=Q } (vT N vs) H):Vm P w K mg base x (k+1) ps dvs sp:=by
 obtain⟨f,oc,od,dV,kV,U,pm,an,cdv,ct,W,ds,lk,G,O,hm,Y,hb⟩:=D.ex
 exact⟨⟨f,_,ds,zd6 lk G S len λA outer s H vs Q E hr I=>F f cdv A outer s H vs Q E hr I,hm,O,hb,Y⟩⟩
theorem Df.cal1q {x:Str}{st:Stmt}{N ps:List Str}{dvs:List V}{k:Nat}{sp:Sp}(D:Df K mg x st ps dvs) (S:zB N ps (zj st))
  (F:∀(f:Addr) (cdv:Value) (A:Around) (outer:List Env) (s:Shared) (H:Hp) (vs:List V) (Q:VK) (E:XK),xb k (A.deeper (envOfC x (zj st) s.heap.objs.size f cdv))->sp vs H Q E →
   ∃t,PSs (xc (CX1 P w) P w K mg base N x (zj st) f cdv A outer s H E) (z7 st) t/\t { nx:=λ_ H'=>Q .non H',rt:=Q } (vT N vs) H) (len:∀vs H Q E,sp vs H Q E->vs.length=ps.length:=by intro _ _ _ _ h;repeat (first | (cases h;subst_vars;rfl) | (obtain⟨rfl,_⟩:=h;rfl) | (obtain⟨_,h⟩:=h))):Vm P w K mg base x (k+1) ps dvs sp:=D.cal1 S len F
end
def zjz (C:Addr) (J:XJ) (t:TA):TS:=λ_ σ H=>t σ H λvs H1=>vs.length<=sizeLine/\J C none σ H1
section
variable {X:Cx}{J:XJ}{x:Str}{C:Addr}{bmB bmN:List Value}{newId Bn inN B nid initId:String}{np cpos pos:Pos}{e:Expr}{es:List Expr}{t:TA}
theorem ze0 (O:OwnCls x C bmB newId X.mg X.base) (Y:ExcBaseFacts Bn newId inN bmN) (S:bmB.contains (.type Bn)=true) (U:ExcBaseFacts B nid initId bmB) (hh:X.A.handled=none) (V:zap X J) (ha:PA X (e::es) t)
  (hg:Gl X x:=by rfl) (hd:(x == ("__debug__":Str))=false:=by decide)
  (W:starEach (e::es) X.env=(false,eval e X.env)::starEach es X.env:=by rfl) (F:(backTo cpos (starEach (e::es) X.env)).any (·.1)=false:=by rfl) :
  PS X (.Raise (some (.Call (.Name x np) (e::es) [] cpos)) none pos) (zjz C J t):=by
 intro pz s σ H D I h
 obtain⟨tl,N,nm,q,bs,hdct,sn,sub,ab,col,dd,k0,k1,k2,k3,k5,mN,hC,hN,G,T⟩:=O.obj
 refine wpAny_Raise_call_subU (C:=C) (N:=N) (bm:=tl) (nm:=nm) (q:=q) (bs:=bs) (hdct:=hdct) (sn:=sn) (sub:=sub) (ab:=ab) (col:=col) (dd:=dd) (k0:=k0) (k1:=k1) (k2:=k2) (k3:=k3) (k5:=k5) Y S U (mN:=mN) (T.hasType U.hasBase) hh F G (Qf I hg O.bound ⟨rL,?_⟩ hd)
 have hw:=ha cpos pz s σ H _ I h
 rw[W]at hw ⊢
 exact Calls.evalArgs_plain (uj hw (λvs s2 ⟨ws,H1,I1,r,z,q⟩=>⟨rfl,by rw[<-r.length];exact z,I1.bk _ _ hC,hN.keeps I1.bk,T.keeps I1.bk,λh' e hm=>V pz σ H1 s2 h' e C vs I1 hm q⟩) λ_ _ y=>y)
end
open PySem.W
def qL (σ:St) (js:List Nat):St:=js.map λj=>(σ[j]?).getD none
inductive XV (X:Cx) (scope:Scope) (cl:List (Str×Addr)):List Str->List Nat->Prop
 |nil:XV X scope cl [] []
 |cons {x:Str}{j:Nat}{r:List Str}{js:List Nat}:X.N[j]?=some x->X.env.kindOf x=some .cell->(relabel scope X.env).names.lookup x=some .cell->(∃c,cl.lookup x=some c)->XV X scope cl r js->XV X scope cl (x::r) (j::js)
section
variable {X:Cx}{scope:Scope}{cl:List (Str×Addr)}
theorem XV.length:∀{r:List Str}{js:List Nat},XV X scope cl r js->r.length=js.length
 |_,_,.nil=>rfl
 |_,_,.cons _ _ _ _ t=>by rw[wx,wx,XV.length t]
theorem XV.get:∀{r:List Str}{js:List Nat}{k:Nat}{x:Str},XV X scope cl r js->r[k]?=some x->∃j,js[k]?=some j/\X.N[j]?=some x/\X.env.kindOf x=some .cell/\(relabel scope X.env).names.lookup x=some .cell/\∃c,cl.lookup x=some c
 |_,_,_,_,.nil,e=>by simp at e
 |_,_,0,_,.cons h1 h2 h3 h4 _,e=>by
  simp at e;subst e
  exact⟨_,rL,h1,h2,h3,h4⟩
 |_,_,k+1,x,.cons _ _ _ _ t,e=>by
  obtain⟨j,r⟩:=XV.get (k:=k) t ↥e
  exact⟨j,↥r⟩
theorem XV.has {r:List Str}{js:List Nat}(h:XV X scope cl r js){x:Str}(G:x∈r):∃c,cl.lookup x=some c:=by
 obtain⟨k,F⟩:=List.getElem?_of_mem G
 obtain⟨_,_,_,_,_,z⟩:=h.get F
 exact z
end
def xS (X:Cx) (NB FR:List Str) (scope:Scope) (cl:List (Str×Addr)) (s3:Shared) (H3:Hp) (fp:List Addr):Cx :=
 { X with N:=NB++FR,s₀:=s3,H₀:=H3,env:=compEnvC scope cl s3.heap.objs.size X.env,outer:=X.stack,stack:=X.stack,ex:=fp,fn:=λ_=>false,pn:=[],xe:=λ_ _=>False }
def zan (n:Nat) (js:List Nat) (wi:TI) (g:TG) (tt:TT) (te:TE):TE:=λσ H Q=>wi σ H λJ H1=>∀D,H1 D=none->∃W:Nat->Nat->Hp->List V->Prop,(∃m,W 0 m (upd H1 D (.lst [])) []) ∧
 ∀i m H2 ys,W i m H2 ys->H2 D=some (.lst ys)->(J.stop i H2/\Q (.ref D) H2) ∨
  (J.go i H2/\∀zs x H3,zs.length=n->J.yld i H2 x H3->g x (zs++qL σ js) H3 λσ4 H4=>σ4.drop n=qL σ js/\tt σ4 H4 λb H5 =>
   if b=true then te σ4 H5 (λv H6=>H6 D=some (.lst ys)/\ys.length<sizeLine/\∃m',m'<m/\W (i+1) m' (upd H6 D (.lst (ys++[v]))) (ys++[v]))
   else H5 D=some (.lst ys)/\∃m',m'<m/\W (i+1) m' H5 ys)
def zaW {scope:Scope}{env:Env}{FR:List Str}{x:Str}(h:(relabel scope env).names.all (λy=>!(y.2 == .cell || y.2 == .free) || FR.contains y.1)=true)
  (e:(relabel scope env).names.lookup x=some .cell\/(relabel scope env).names.lookup x=some .free):x∈FR:=by
 have key:∀k:NameKind,(k == .cell || k == .free)=true->(x,k)∈(relabel scope env).names->x∈FR:=λk F G=>by
  have z:=W7.mp h _ G
  simp only[F,Bool.not_true,YM,List.contains_iff_mem]at z
  exact z
 rcases e with e | e
 ·exact key .cell rL (PySem.mem_of_lookup e)
 ·exact key .free rL (PySem.mem_of_lookup e)
def Jb {X:Cx}{elt tg iter:Expr}{ifs:List Expr}{scope:Scope}{cl:List (Str×Addr)}{pos:Pos}{NB FR:List Str}{js:List Nat}{wi:TI}{g:TG}{tt:TT}{te:TE}{Q:VK}{RR:Value->Addr->Result->Shared->Prop}
  {pz:List (Addr×Obj)}{s:Shared}{σ:St}{H:Hp}(hc:X.calm=true) (hcl:∀x c,cl.lookup x=some c->X.env.cells.lookup x=some c) (hcap:XV X scope cl FR js)
  (hnm:(relabel scope X.env).names.all (λy=>!(y.2 == .cell || y.2 == .free) || FR.contains y.1)=true) (hcell:∀x∈scope.names,x.2≠.cell) (hkind:scope.kind=.function)
  (hi:PI X tg iter wi) (hb:∀s3 H3 fp,PG (xS X NB FR scope cl s3 H3 fp) tg g/\PTs (xS X NB FR scope cl s3 H3 fp) ifs tt/\PE (xS X NB FR scope cl s3 H3 fp) elt te)
  (I:Inv X pz σ H s) (h:zan NB.length js wi g tt te σ H Q)
  (hRR:∀D C H' s',Inv X pz σ H' s'->Vn X pz H' C->(∃m,s'.heap.Ns C m)->Q (.ref D) H'->RR (.ref D) C (.ok .next) s') :
  wpAny (model X.prog X.w) X.A (eval iter X.env) (λv s1=>wpAny (model X.prog X.w) X.A (pyIter v) (λit s2=>wpAny (model X.prog X.w) X.A (newList []) (λacc s3 =>
   wpAny (model X.prog X.w) X.A (newFunctionEnv scope X.env.globals cl [] X.env.qual none .none (some X.env)) (λcenv s4 =>
    codeAny (model X.prog X.w) X.A (.compStart (.ListComp elt [⟨tg,iter,ifs,0⟩] scope pos) 0 it acc { cenv with scope:=relabel scope X.env }) (RR acc cenv.locals) s4) X.xe s3) X.xe s2) X.xe s1) X.xe s:=by
 refine thn (hi pz s σ H _ I h) λv s1 h1=>thn h1 λitv s2 h2=>?_
 obtain⟨it,fp,tn,J,H2,e,I2,T,st2,f2,q2⟩:=h2
 subst e
 have hf2:H2 s2.heap.objs.size=none:=I2.hok.fresh (wo _)
 obtain⟨W,⟨m0,w0⟩,turn⟩:=q2 _ hf2
 refine yI (hd:=by size_fits) ?_
 have I3:Inv X pz σ (upd H2 s2.heap.objs.size (.lst [])) { s2 with heap:=s2.heap.push { cls:=.type "list",dict:=none,data:=.seq ([]:List Value).toArray } } :=
  I2.laid (t':=s2.toks) (λb u e=>wg _ e) (wo _) ⟨by decide,[],0,.nil,wH _ rfl⟩
 generalize hD:s2.heap.objs.size=D at *
 generalize hs3:({ s2 with heap:=s2.heap.push { cls:=.type "list",dict:=none,data:=.seq ([]:List Value).toArray } }:Shared)=s3 at *
 generalize hH3:upd H2 D (.lst [])=H3 at *
 have h3D:H3 D=some (.lst []):=by rw[<-hH3];exact zg
 have fpD:∀b∈fp,b≠D:=λb hb=>by
  obtain⟨o,e,_⟩:=T.obj _ _ st2 b hb
  rw[<-hD];exact wZ (wF e)
 have k23:∀b u,s2.heap.get? b=some u->s3.heap.get? b=some u:=λb u e=>by rw[<-hs3];exact wg _ e
 have st3:tn 0 s3.heap:=T.keep _ _ _ st2 λb _ o e=>k23 b o e
 have f3:∀b∈fp,Vn X pz H3 b:=λb hb=>⟨by rw[<-hH3,zT (fpD b hb)];exact(f2 b hb).1,(f2 b hb).2⟩
 refine wpAny_newFunctionEnv hcell (by intro y hy;simp at hy) (λh4 hns4 hsb4=>?_) hkind
 have k34:∀b u,s3.heap.get? b=some u->h4.get? b=some u:=λb u e=>hsb4.extBut b u (wZ (wF e)) (wg _ e)
 have okB:(xS X NB FR scope cl s3 H3 fp).Ok:=by
  refine⟨I3.ok.mod,hkind,I3.ok.glob,I3.ok.blt,wo _,λx y c e1 e2=>I3.ok.inj x y c (hcl _ _ e1) (hcl _ _ e2),λx e=>hcap.has (zaW hnm e),(λx c e=>nomatch e),I3.ok.hd,I3.ok.frames,.inl rL,λb hb=>⟨?_,λx c e=>?_⟩,I3.bs,yJ I3.ok.bsz I3.sz,λb o e hb=>?_,λb hb z=>?_,I3.stack,I3.stkFree⟩
  ·obtain⟨o,e,_⟩:=T.obj _ _ st3 b hb
   exact wZ (wF e)
  ·exact(f3 b hb).2.2.2.2.1 x c (hcl _ _ e)
  ·obtain⟨_,_,_,z,_⟩:=f3 b hb
   rcases z with z | z
   ·exact I3.ok.noex b o e z
   ·exact absurd (w4 (wF e) (yJ I3.ok.bsz z)) (uF _)
  ·obtain⟨_,z1,z2,_⟩:=f3 b hb
   rcases ww.mp (I3.stkSub b z)with e | e
   ·exact z1 e
   ·exact z2 e
 have IB:Inv (xS X NB FR scope cl s3 H3 fp) [] (List.replicate NB.length none++qL σ js) H3 { s3 with heap:=h4,toks:=s3.toks+([]:List (Str×Value)).length }:=by
  refine⟨okB,rL,I3.bare,Un.kept k34,⟨_,hns4,λi x v e1 e2 e3=>?_⟩,λx c e=>?_,I3.hok.fresh (wo _),λx c e=>I3.freeC x c (hcl _ _ e),λp hp=>?_,I3.hok.kept k34,?_⟩
  ·by_cases hi:i<NB.length
   ·rw[w8 ↥hi,WJ,if_pos hi]at e2
    cases e2
   ·have e1':FR[i-NB.length]?=some x:=by
     have z:(NB++FR)[i]?=some x:=e1
     rw[wT (by omega)]at z;exact z
    rw[wT (by simp;omega),uP]at e2
    obtain⟨j,hj,hN,hk,hb',c,hc'⟩:=hcap.get e1'
    have e2':σ[j]?=some (some v):=by
     unfold qL at e2
     rw[wu,hj]at e2
     simp only[Option.map_some,Option.some.injEq]at e2
     cases hσ:σ[j]? with
     |none=>rw[hσ]at e2;cases e2
     |some o=>rw[hσ]at e2;simp only[YS]at e2;rw[e2]
    obtain⟨m,hn,hl⟩:=I3.loc
    obtain⟨u,ru,lu⟩:=hl j x v hN e2' (.inr (.inl hk))
    refine⟨u,ru,.inr ⟨.inl hb',c,hc',?_⟩⟩
    rcases lu with⟨z,_⟩ | ⟨_,c',z,q⟩
    ·rw[hk]at z;cases z
    ·rw[hcl _ _ hc']at z;cases z
     obtain⟨o,ho,hd⟩:=q
     exact⟨o,k34 _ _ ho,hd⟩
  ·obtain⟨v,o,ho,hd⟩:=I3.cell x c (hcl _ _ e)
   exact⟨v,o,k34 _ _ ho,hd⟩
  ·exact absurd (show p∈([]:List (Addr×Obj))from hp) (by simp)
  ·show _=(NB++FR).length
   rw[wV,wV,uP,hcap.length]
   unfold qL;rw[wc]
 have st4:tn 0 h4:=T.keep _ _ _ st3 λb _ o e=>k34 b o e
 have stat:∀{H':Hp},(∀b∈fp,H' b=none)->∀b∈fp,Vn (xS X NB FR scope cl s3 H3 fp) [] H' b:=λhn b hb =>
  ⟨hn b hb,(okB.exf b hb).1,okB.exfs b hb,.inl hb,λx c e=>(f3 b hb).2.2.2.2.1 x c (hcl _ _ e),λp hp=>absurd (show p∈([]:List (Addr×Obj))from hp) (by simp)⟩
 obtain⟨hg,ht,he⟩:=hb s3 H3 fp
 have fin:∀{σ':St}{H':Hp}{s':Shared},Inv (xS X NB FR scope cl s3 H3 fp) [] σ' H' s'->Q (.ref D) H'->RR (.ref D) s3.heap.objs.size (.ok .next) s':=λ{σ' H' s'} J q=>by
  have hm:∃m,s'.heap.Ns s3.heap.objs.size m:=by
   obtain⟨m,hm,_⟩:=J.loc
   exact⟨m,hm⟩
  refine hRR D _ H' s' (I3.call' (ch:=fp) J.os J.base J.hok J.bare λb hb=>?_) (I3.fpOk (wo _) J.free) hm q
  obtain⟨_,z1,z2,z3,z4,z5⟩:=f3 b hb
  exact⟨z3,z1,z4,z5⟩
 have loop:∀s5:Shared,s5 = { s3 with heap:=h4,toks:=s3.toks+([]:List (Str×Value)).length } →
   codeAny (model X.prog X.w) X.A (.compLoop (.ListComp elt [⟨tg,iter,ifs,0⟩] scope pos) 0 (.ref it) (.ref D) (compEnvC scope cl s3.heap.objs.size X.env)) (RR (.ref D) s3.heap.objs.size) s5:=by
  rintro s5 rfl
  refine XY (λn s'=>∃i zs H' ys,zs.length=NB.length/\Inv (xS X NB FR scope cl s3 H3 fp) [] (zs++qL σ js) H' s'/\tn i s'.heap/\(∀b∈fp,H' b=none)/\H' D=some (.lst ys)/\W i n H' ys) ?_ m0
   ⟨0,_,H3,[],uP,IB,st4,λb hb=>(f3 b hb).1,h3D,by rw[<-hH3]at *;exact w0⟩
  rintro n s6 ⟨i,zs,H6,ys,hzs,I6,st6,fr6,hD6,w6⟩
  rcases turn i n H6 ys w6 hD6 with⟨stop,qn⟩ | ⟨go,step⟩
  ·refine thn (T.done (xS X NB FR scope cl s3 H3 fp) rL rL rL hc i [] s6 _ H6 _ I6 (stat fr6) st6 stop) λr s7 ⟨hr,I7⟩=>?_
   subst hr
   exact fin I7 qn
  ·refine thn (T.item (xS X NB FR scope cl s3 H3 fp) rL rL rL hc i [] s6 _ H6 _ I6 (stat fr6) st6 go) λr s7 ⟨u,hr,h7⟩=>?_
   subst hr
   refine thn h7 λ_ s8 ⟨x,H8,I8,r8,y8,st8,fr8⟩=>?_
   have I8':=I8.pinned (stat fr8) (T.obj _ _ st8)
   have again:∀{σ9:St}{H9:Hp}{s9:Shared}{ws:List V}{m':Nat},σ9.drop NB.length=qL σ js->Inv (xS X NB FR scope cl s3 H3 fp) ([]++QE fp s8.heap) σ9 H9 s9->H9 D=some (.lst ws)->m'<n->W (i+1) m' H9 ws →
     ∃m,m<n/\∃i zs H' ys,zs.length=NB.length/\Inv (xS X NB FR scope cl s3 H3 fp) [] (zs++qL σ js) H' s9/\tn i s9.heap/\(∀b∈fp,H' b=none)/\H' D=some (.lst ys)/\W i m H' ys:=λ{σ9 H9 s9 ws m'} hdr I9 hz hm w9=>by
    have hl:σ9.length=(NB++FR).length:=I9.len
    rw[wV]at hl
    refine⟨m',hm,i+1,σ9.take NB.length,H9,ws,by rw[yn];omega,?_,T.keep _ _ _ st8 λb hb o e=>(I9.pin (b,o) (ye _ (ye _ (va hb e)))).1,λb hb=>?_,hz,w9⟩
    ·rw[<-hdr,uA];exact I9.unpinned
    ·obtain⟨o,e,d⟩:=T.obj _ _ st8 b hb
     exact(I9.pin (b,o) (ye _ (ye _ (va hb e)))).2.1
   refine thn (hg _ s8 _ H8 x u _ I8' r8 (step zs x H8 hzs y8)) λ_ s9 ⟨σ9,H9,I9,hdr,q9⟩=>?_
   refine thn (ht _ s9 σ9 H9 _ I9 q9) λok s10 ⟨H10,I10,q10⟩=>?_
   cases ok with
   |false =>
    rw[if_neg (by decide)]at q10 ⊢
    obtain⟨hz,m',hm,w'⟩:=q10
    exact again hdr I10 hz hm w'
   |true =>
    rw[if_pos rfl]at q10 ⊢
    refine thn (he _ s10 σ9 H10 _ I10 q10) λy s11 ⟨v,H11,I11,r11,hz,hlen,m',hm,w'⟩=>?_
    refine thn (qB _ s11 σ9 H11 (.ref D) [v] (.ref D) [y] (λ_ H12=>H12=upd H11 D (.lst (ys++[v]))) I11 rL (.cons r11 .nil) ⟨D,ys,v,rL,rL,hz,hlen,rL⟩) λ_ s12 ⟨_,H12,I12,_,e12⟩=>?_
    subst e12
    exact again hdr I12 zg hm w'
 exact codeAny_compStart_list (loop _ rL) (T.self X.A 0 _ _ _ st4 (loop _ rL))
section
variable {X:Cx}{elt tg iter:Expr}{ifs:List Expr}{scope:Scope}{cl:List (Str×Addr)}{pos spos py:Pos}{NB FR:List Str}{js:List Nat}{wi:TI}{g:TG}{tt:TT}{te:TE}
theorem qz (hc:X.calm=true) (hclos:closureFor scope X.env=pure cl) (hcl:∀x c,cl.lookup x=some c->X.env.cells.lookup x=some c) (hcap:XV X scope cl FR js)
  (hnm:(relabel scope X.env).names.all (λy=>!(y.2 == .cell || y.2 == .free) || FR.contains y.1)=true) (hcell:∀x∈scope.names,x.2≠.cell) (hkind:scope.kind=.function) (hnames:∀x∈scope.names,x.2=.local → scope.names.lookup x.1=some .local)
  (hi:PI X tg iter wi) (hb:∀s3 H3 fp,PG (xS X NB FR scope cl s3 H3 fp) tg g/\PTs (xS X NB FR scope cl s3 H3 fp) ifs tt/\PE (xS X NB FR scope cl s3 H3 fp) elt te)
  (hs:∀x,foldedSetIterable iter X.env x=pure x:=by intro _;rfl) :
  PE X (.ListComp elt [⟨tg,iter,ifs,0⟩] scope pos) (zan NB.length js wi g tt te):=by
 intro pz s σ H Q I h
 rw[eval_ListComp]
 refine YJ (use:=none) rL hs hclos hkind hnames (Jb (RR:=λacc C=>compPost (model X.prog X.w) X.A X.xe none (EP X pz σ Q) acc C) hc hcl hcap hnm hcell hkind hi hb I h ?_)
 intro D C H' s' I' ⟨f0,f1,f2,f3,f4,f5⟩ ⟨m,hm⟩ q
 exact⟨m,hm,λh' sb=>⟨.ref D,H',I'.turned (t':=s'.toks) (λb o hb e=>(sb.2 b hb).trans e) f0 f1 f3 f4 f5,rL,q⟩⟩
theorem Qk {i:Nat}{y:Str}(hc:X.calm=true) (hclos:closureFor scope X.env=pure cl) (hcl:∀x c,cl.lookup x=some c->X.env.cells.lookup x=some c) (hcap:XV X scope cl FR js)
  (hnm:(relabel scope X.env).names.all (λy=>!(y.2 == .cell || y.2 == .free) || FR.contains y.1)=true) (hcell:∀x∈scope.names,x.2≠.cell) (hkind:scope.kind=.function) (hnames:∀x∈scope.names,x.2=.local → scope.names.lookup x.1=some .local)
  (hN:X.N.Nodup) (hiN:X.N[i]?=some y) (hy:X.env.kindOf y=some .local) (hsw:swapsWith (.ListComp elt [⟨tg,iter,ifs,0⟩] scope pos) (some (.Name y py)) spos.line X.env=pure true)
  (hi:PI X tg iter wi) (hb:∀s3 H3 fp,PG (xS X NB FR scope cl s3 H3 fp) tg g/\PTs (xS X NB FR scope cl s3 H3 fp) ifs tt/\PE (xS X NB FR scope cl s3 H3 fp) elt te)
  (hs:∀x,foldedSetIterable iter X.env x=pure x:=by intro _;rfl) :
  PS X (.Assign [.Name y py] (.ListComp elt [⟨tg,iter,ifs,0⟩] scope pos) spos) (zdy (zan NB.length js wi g tt te) (zD i)):=by
 intro pz s σ H D I h
 rw[exec_Assign_Name_used _ _ _ _ hsw]
 refine we (YQ (we ?_))
 show wpAny _ _ (do let _ <-comprehension (.ListComp elt [⟨tg,iter,ifs,0⟩] scope pos) scope X.env _ (newList []) false (eval iter X.env) (some (assign (.Name y py) X.env))) _ _ s
 refine we (uj (YJ (use:=some (assign (.Name y py) X.env)) (Q:=λ_ s'=>SP X pz D .next s') rL hs hclos hkind hnames
  (Jb (RR:=λacc C=>compPost (model X.prog X.w) X.A X.xe (some (assign (.Name y py) X.env)) (λ_ s'=>SP X pz D .next s') acc C) hc hcl hcap hnm hcell hkind hi hb I h ?_)) (λ_ s' hq=>wn (wn hq)) λ_ _ e=>e)
 intro DD C H' s' I' ⟨f0,f1,f2,f3,f4,f5⟩ ⟨m,hm⟩ q
 show wpAny _ _ (assign (.Name y py) X.env (.ref DD)) _ _ s'
 refine wpAny_assign_Name (Jw (v:=.ref DD) I' hN hiN (.inl hy) rL (λs'' I'' ⟨a,sa,ha⟩=>?_) (.inr hy))
 have hCa:C≠a:=by
  rcases ha with rfl | ha
  ·exact f1
  ·exact λz=>f4 y a ha z.symm
 exact⟨m,hm.sameBut sa hCa,λh' sb=>⟨_,H',I''.turned (t':=s''.toks) (λb o hb e=>(sb.2 b hb).trans e) f0 f1 f3 f4 f5,q⟩⟩
end
section
variable {X:Cx}
theorem zb4:∀{bs:List Bool}{us:List Value}{i:Nat}{v:Value},z6 (bs.map V.bl) us->us[i]?=some v->∃b,bs[i]?=some b/\v=.bool b
 |[],_,_,_,r,e=>by cases r;simp at e
 |b::bs,_,i,v,r,e=>by
  cases r with
  |cons h t =>
   cases i with
   |zero=>simp at e;subst e;exact⟨b,rfl,h⟩
   |succ i=>obtain⟨c,e1,e2⟩:=zb4 (i:=i) t ↥e;exact⟨c,↥e1,e2⟩
theorem VW:∀(bs:List Bool) (k:Nat),((List.range' k bs.length).all λi=>(bs[i-k]?).getD true)=bs.all id
 |[],k=>rfl
 |b::bs,k=>by
  rw[wx,List.range'_succ,List.all_cons,List.all_cons]
  simp only[Wj,List.getElem?_cons_zero,YS,id]
  congr 1
  rw[<-VW bs (k+1)]
  apply uX.mpr
  simp only[W7,List.mem_range'_1]
  constructor
  ·intro h i hi
   have:=h i hi
   rw[show i-k=(i-(k+1))+1 by lia,uH]at this;exact this
  ·intro h i hi
   rw[show i-k=(i-(k+1))+1 by lia,uH];exact h i hi
theorem Vq (hc:X.calm=true):vK X (.builtin "all") (λxs H Q=>∃(p:Addr) (bs:List Bool),xs=[.ref p]/\SqL X.K H p (bs.map V.bl)/\Q (.bl (bs.all id)) H):=by
 intro pz s σ H xs us Q I r h
 obtain⟨p,bs,rfl,W,q⟩:=h
 obtain⟨u,rfl,ru⟩:=Z7 r
 cases ru
 obtain⟨G,S,pl,_⟩:=I.list W
 have O:p<s.heap.objs.size:=by obtain⟨o,n,e,_⟩:=pl;exact wF e
 have U:=S.length
 rw[wc]at U
 refine call_all_walk (YI pl.isList ⟨s.heap.objs.size,_,_,_,_,_,λi=>(bs[i]?).getD true,rL,Walks.list (A:=X.A.in1) (show X.A.in1.handled=none from I.ok.hd hc) s.heap.objs.size p (wZ O) G.toArray,
  ⟨⟨_,wH _ rfl,rfl,rfl⟩,pl.isList.push _⟩,λi v s' Q' E' Y F=>?_,λh' tk k=>⟨.bl (bs.all id),H,I.kept λb o e=>k b o (by simpa using wZ (wF e)) (wg _ e),?_,q⟩⟩)
 ·obtain⟨b,e1,rfl⟩:=zb4 S ↥Y
  simp only[e1,YS]at F
  exact wn F
 ·have:=VW bs 0
  simp only[Nat.sub_zero]at this
  rw[show G.toArray.size=bs.length by simp[U],List.range_eq_range',this];rfl
def zdD (K:Fg) (a:Addr) (i j:Int):Prop:=∃o t u n,K.lookup a=some o/\o.cls=.type "tuple"/\o.data=.seq #[.int i t,.int j u] n
inductive zhD (K:Fg) (x:V) (y:V) (H:Hp) (Q:VK):Prop
 |mk:∀d a i j,(RdD H x d)->(y=.ref a)->(zdD K a i j)->(SeqAt.shaped d=true)->(Q (.bl (PyData.eqv d (.tuple [.int i,.int j]))) H)->zhD K x y H Q
def zgN (K:Fg):R2:=λx y H Q=>zhD K x y H Q
theorem ziM (Y:X.A.units+64<cLine):OpR X (compareOp .Eq) (zgN X.K):=by
 intro pz s σ H x y v u Q I rx W h
 obtain⟨d,a,i,j,hd,rfl,⟨o,F,G,n,O,h1,h2⟩,V,q⟩:=h
 obtain⟨as,U⟩:=hd.reads I rx
 cases(show u=Value.ref a from W)
 have S:Reads s.heap (.ref a) (.tuple [.int i,.int j]) _:=.tuple (I.kIn _ _ O) h1 h2 (.cons (.int i F) (.cons (.int j G) .nil))
 exact eq_dataH U S V rL Y ⟨.bl _,H,I,rL,q⟩
end
end L2
namespace HT
open PySem PyProof.Rows
end HT
namespace L2
open PySem PySem.Spec PyProof.Rows
section
variable {J:It}{D:Addr}{N n:Nat}{js:List Nat}{σ:St}{g:TG}{tt:TT}{te:TE}{Q:VK}{H:Hp}
theorem Q9 (F:Nat->Hp->List V->Prop) (h0:F 0 (upd H D (.lst [])) []) (a1:∀i H ys,i<N->F i H ys->J.go i H) (a2:∀H ys,F N H ys->J.stop N H)
  (hs:∀i x zs H2 I ys (Nx:Hp->List V->Prop),(∀H ys,F (i+1) H ys->Nx H ys)->i<N->zs.length=n->J.yld i H2 x I->F i H2 ys->H2 D=some (.lst ys)->g x zs I λS H4=>tt S H4 λb O =>
   if b=true then te S O (λv Y=>Y D=some (.lst ys)/\ys.length<sizeLine/\Nx (upd Y D (.lst (ys++[v]))) (ys++[v]))else O D=some (.lst ys)/\Nx O ys)
  (hd:∀H ys,F N H ys->H D=some (.lst ys)->Q (.ref D) H) :
  ∃W:Nat->Nat->Hp->List V->Prop,(∃m,W 0 m (upd H D (.lst [])) [])/\∀i m H2 ys,W i m H2 ys->H2 D=some (.lst ys)->(J.stop i H2/\Q (.ref D) H2) ∨
   (J.go i H2/\∀σB x I,σB.length=n->J.yld i H2 x I->g x σB I λS H4=>tt S H4 λb O=>if b=true then te S O (λv Y=>Y D=some (.lst ys)/\ys.length<sizeLine/\∃G,G<m/\W (i+1) G (upd Y D (.lst (ys++[v]))) (ys++[v]))
    else O D=some (.lst ys)/\∃G,G<m/\W (i+1) G O ys):=by
 refine⟨λi m H ys=>m=N-i/\i<=N/\F i H ys,⟨N,by simp,yb _,h0⟩,?_⟩
 rintro i m H2 ys ⟨rfl,hi,p⟩ hD
 by_cases hlt:i<N
 ·exact .inr ⟨a1 i H2 ys hlt p,λσB x I hB y=>hs i x σB H2 I ys (λH' U=>∃G,G<N-i/\(G=N-(i+1)/\i+1<=N/\F (i+1) H' U)) (λH' U z=>⟨N-(i+1),by lia,rfl,hlt,z⟩) hlt hB y p hD⟩
 ·obtain rfl:i=N:=by lia
  exact .inl ⟨a2 H2 ys p,hd H2 ys p hD⟩
theorem ZN (F:Nat->Hp->List V->Prop) (h0:F 0 (upd H D (.lst [])) []) (a1:∀i H ys,i<N->F i H ys->J.go i H) (a2:∀H ys,F N H ys->J.stop N H)
  (hs:∀i x zs H2 I ys (Nx:Hp->List V->Prop),(∀H ys,F (i+1) H ys->Nx H ys)->i<N->zs.length=n->J.yld i H2 x I->F i H2 ys->H2 D=some (.lst ys)->g x (zs++qL σ js) I λO H4=>O.drop n=qL σ js/\tt O H4 λb S =>
   if b=true then te O S (λv Y=>Y D=some (.lst ys)/\ys.length<sizeLine/\Nx (upd Y D (.lst (ys++[v]))) (ys++[v]))else S D=some (.lst ys)/\Nx S ys)
  (hd:∀H ys,F N H ys->H D=some (.lst ys)->Q (.ref D) H) :
  ∃W:Nat->Nat->Hp->List V->Prop,(∃m,W 0 m (upd H D (.lst [])) [])/\∀i m H2 ys,W i m H2 ys->H2 D=some (.lst ys)->(J.stop i H2/\Q (.ref D) H2) ∨
   (J.go i H2/\∀zs x I,zs.length=n->J.yld i H2 x I->g x (zs++qL σ js) I λO H4=>O.drop n=qL σ js/\tt O H4 λb S=>if b=true then te O S (λv Y=>Y D=some (.lst ys)/\ys.length<sizeLine/\∃G,G<m/\W (i+1) G (upd Y D (.lst (ys++[v]))) (ys++[v]))
    else S D=some (.lst ys)/\∃G,G<m/\W (i+1) G S ys):=by
 refine⟨λi m H ys=>m=N-i/\i<=N/\F i H ys,⟨N,by simp,yb _,h0⟩,?_⟩
 rintro i m H2 ys ⟨rfl,hi,p⟩ hD
 by_cases hlt:i<N
 ·exact .inr ⟨a1 i H2 ys hlt p,λσB x I hB y=>hs i x σB H2 I ys (λH' U=>∃G,G<N-i/\(G=N-(i+1)/\i+1<=N/\F (i+1) H' U)) (λH' U z=>⟨N-(i+1),by lia,rfl,hlt,z⟩) hlt hB y p hD⟩
 ·obtain rfl:i=N:=by lia
  exact .inl ⟨a2 H2 ys p,hd H2 ys p hD⟩
end
def zab {H H2 F:Hp}{D:Addr}{o:HO}(G:H D=none) (e:zk H H2) (e2:zk H2 F):zk H (upd F D o):=λb u z=>by rw[zT (zZ z G)];exact e2 _ _ (e _ _ z)
def szl {n:Nat}(h:n<=1000):n<=sizeLine:=Yn (vH h)
inductive Bx (p:Prop):Prop
 |mk (h:p):Bx p
section
variable {X:Cx}
theorem XX {st:Stmt}{rest:List Stmt}{t u:TS}(h1:Bx (PS X st t)) (h2:Bx (PSs X rest u)):Bx (PSs X (st::rest) (zbU t u)):=by
 obtain⟨h1⟩:=h1;obtain⟨h2⟩:=h2;exact⟨ze h1 h2⟩
end
section
variable {P:Program}{w:World}{K:Fg}{mg:Str->Option Value}{base:Heap}
theorem Df.calB {x:Str}{st:Stmt}{N ps:List Str}{dvs:List V}{k:Nat}{sp:Sp}(D:Df K mg x st ps dvs) (S:zB N ps (zj st)) (len:∀vs H Q E,sp vs H Q E->vs.length=ps.length)
  (F:∀(f:Addr) (cdv:Value) (A:Around) (outer:List Env) (s:Shared) (H:Hp) (vs:List V) (Q:VK) (E:XK),xb k (A.deeper (envOfC x (zj st) s.heap.objs.size f cdv))->sp vs H Q E →
   ∃t,Bx (PSs (xc CX0 P w K mg base N x (zj st) f cdv A outer s H E).nox (z7 st) t)/\t { nx:=λ_ H'=>Q .non H',rt:=Q } (vT N vs) H):Cal P w K mg base x (k+1) ps dvs sp :=
 D.cal S len λf cdv A outer s H vs Q E hr h=>by
  obtain⟨t,⟨p⟩,q⟩:=F f cdv A outer s H vs Q E hr h
  exact⟨t,p,q⟩
theorem Df.calBq {x:Str}{st:Stmt}{N ps:List Str}{dvs:List V}{k:Nat}{sp:Sp}(D:Df K mg x st ps dvs) (S:zB N ps (zj st))
  (F:∀(f:Addr) (cdv:Value) (A:Around) (outer:List Env) (s:Shared) (H:Hp) (vs:List V) (Q:VK) (E:XK),xb k (A.deeper (envOfC x (zj st) s.heap.objs.size f cdv))->sp vs H Q E →
   ∃t,Bx (PSs (xc CX0 P w K mg base N x (zj st) f cdv A outer s H E).nox (z7 st) t)/\t { nx:=λ_ H'=>Q .non H',rt:=Q } (vT N vs) H) (len:∀vs H Q E,sp vs H Q E->vs.length=ps.length:=by intro _ _ _ _ h;repeat (first | (cases h;subst_vars;rfl) | (obtain⟨rfl,_⟩:=h;rfl) | (obtain⟨_,h⟩:=h))):Cal P w K mg base x (k+1) ps dvs sp:=D.calB S len F
end
abbrev zjH:List Value:=[.type "ValueError",.type "Exception",.type "BaseException",.type "object"]
open PySem.W
def xx (H H':Hp):Prop:=∀b xs,H b=some (.tup xs)->H' b=some (.tup xs)
def xx.of {H H':Hp}(h:zk H H'):xx H H':=λb xs e=>h b _ e
def xx.trans {H H1 H2:Hp}(a:xx H H1) (b:xx H1 H2):xx H H2:=λc xs e=>b c xs (a c xs e)
def xx.upd {H:Hp}{D:Addr}{ys:List V}{o:HO}(h:H D=some (.lst ys)):xx H (upd H D o):=λb xs e=>by rw[zT (λz=>by subst z;rw[h]at e;cases e)];exact e
structure zbe (J:It) (H:Hp) (xs:List V):Prop where
 go:∀i H',i<xs.length->zk H H'->J.go i H'
 stop:∀H',zk H H'->J.stop xs.length H'
 yld:∀i x H2 H3,zk H H2->J.yld i H2 x H3->H3=H2/\xs[i]?=some x
def xq {K:Fg}{H:Hp}{a:Addr}{xs:List V}(h:H a=some (.lst xs)):zbe (Itl K a) H xs :=
 ⟨λi H' hi s=>⟨xs,xs[i],.of (s _ _ h),by simp[hi]⟩,λH' s=>⟨xs,.of (s _ _ h),wo _⟩,λi x H2 F s y=>⟨y.1,y.2 xs (.of (s _ _ h))⟩⟩
def Qm {K:Fg}{H:Hp}{a:Addr}{xs:List V}(h:H a=some (.tup xs)):zbe (Itt K a) H xs :=
 ⟨λi H' hi s=>⟨xs,xs[i],.of (s _ _ h),by simp[hi]⟩,λH' s=>⟨xs,.of (s _ _ h),wo _⟩,λi x H2 F s y=>⟨y.1,y.2 xs (.of (s _ _ h))⟩⟩
section
variable {J:It}{D:Addr}{n:Nat}{js:List Nat}{σ:St}{g:TG}{te:TE}{Z:Hp->Prop}{H:Hp}{xs:List V}
theorem Zf (R:Nat->V->Hp->Prop) (hR:∀i v H H',xx H H'->R i v H->R i v H') (hD:H D=none) (hJ:zbe J H xs) (hl:xs.length<sizeLine)
  (hs:∀i x zs H2 Q',xs[i]?=some x->zs.length=n->zk H H2->(∀v F,zk H2 F->R i v F->Q' v F)->g x zs H2 λU Y=>te U Y Q')
  (k:∀ys H',zk H H'->H' D=some (.lst ys)->ys.length=xs.length->(∀i v,ys[i]?=some v->R i v H')->Z H') :
  ∃W:Nat->Nat->Hp->List V->Prop,(∃m,W 0 m (upd H D (.lst [])) [])/\∀i m H2 ys,W i m H2 ys->H2 D=some (.lst ys)->(J.stop i H2/\Z H2) ∨
   (J.go i H2/\∀σB x I,σB.length=n->J.yld i H2 x I->g x σB I λU Y=>(λ_ H Q=>Q true H:TT) U Y λb H5=>if b=true then te U H5 (λv F=>F D=some (.lst ys)/\ys.length<sizeLine/\∃G,G<m/\W (i+1) G (upd F D (.lst (ys++[v]))) (ys++[v]))
    else H5 D=some (.lst ys)/\∃G,G<m/\W (i+1) G H5 ys):=by
 refine Q9 (Q:=λ_ H=>Z H) (tt:=λ_ H Q=>Q true H) (N:=xs.length) (λi H2 ys=>zk H H2/\ys.length=i/\∀j v,ys[j]?=some v->R j v H2) ⟨zk.upd hD,rfl,λj v e=>by simp at e⟩ (λi H2 ys hi p=>hJ.go i H2 hi p.1) (λH2 ys p=>hJ.stop H2 p.1) ?_ (λH2 ys p e=>k ys H2 p.1 e p.2.1 p.2.2)
 rintro i x zs H2 I ys Nx hN hi hz hy ⟨s2,a2,a1⟩ O
 obtain⟨rfl,hx⟩:=hJ.yld i x H2 I s2 hy
 refine hs i x zs I _ hx hz s2 λv F S r6=>⟨S _ _ O,by lia,hN _ _ ⟨λc o e=>?_,by simp[a2],λj u e=>?_⟩⟩
 ·rw[zT (zZ e hD)];exact S _ _ (s2 _ _ e)
 ·have T6:xx F (upd F D (.lst (ys++[v]))):=.upd (S _ _ O)
  by_cases hj:j<ys.length
  ·rw[w8 hj]at e
   exact hR _ _ _ _ ((xx.of S).trans T6) (a1 j u e)
  ·rw[wT ∅]at e
   have:j-ys.length=0:=by
    rcases uC (j-ys.length)with z | z
    ·exact z
    ·rw[yF (by simp;lia)]at e;cases e
   rw[this]at e
   simp at e
   subst e
   rw[show j=i by lia]
   exact hR _ _ _ _ T6 r6
theorem xE (R:Nat->V->Hp->Prop) (hR:∀i v H H',xx H H'->R i v H->R i v H') (hD:H D=none) (hJ:zbe J H xs) (hl:xs.length<sizeLine)
  (hs:∀i x zs H2 Q',xs[i]?=some x->zs.length=n->zk H H2->(∀v F,zk H2 F->R i v F->Q' v F)->g x (zs++qL σ js) H2 λG Y=>G.drop n=qL σ js/\te G Y Q')
  (k:∀ys H',zk H H'->H' D=some (.lst ys)->ys.length=xs.length->(∀i v,ys[i]?=some v->R i v H')->Z H') :
  ∃W:Nat->Nat->Hp->List V->Prop,(∃m,W 0 m (upd H D (.lst [])) [])/\∀i m H2 ys,W i m H2 ys->H2 D=some (.lst ys)->(J.stop i H2/\Z H2) ∨
   (J.go i H2/\∀zs x O,zs.length=n->J.yld i H2 x O->g x (zs++qL σ js) O λG Y=>G.drop n=qL σ js/\(λ_ H Q=>Q true H:TT) G Y λb H5=>if b=true then te G H5 (λv F=>F D=some (.lst ys)/\ys.length<sizeLine/\∃I,I<m/\W (i+1) I (upd F D (.lst (ys++[v]))) (ys++[v]))
    else H5 D=some (.lst ys)/\∃I,I<m/\W (i+1) I H5 ys):=by
 refine ZN (Q:=λ_ H=>Z H) (tt:=λ_ H Q=>Q true H) (N:=xs.length) (λi H2 ys=>zk H H2/\ys.length=i/\∀j v,ys[j]?=some v->R j v H2) ⟨zk.upd hD,rfl,λj v e=>by simp at e⟩ (λi H2 ys hi p=>hJ.go i H2 hi p.1) (λH2 ys p=>hJ.stop H2 p.1) ?_ (λH2 ys p e=>k ys H2 p.1 e p.2.1 p.2.2)
 rintro i x zs H2 O ys Nx hN hi hz hy ⟨s2,a2,a1⟩ S
 obtain⟨rfl,hx⟩:=hJ.yld i x H2 O s2 hy
 refine hs i x zs O _ hx hz s2 λv F U r6=>⟨U _ _ S,by lia,hN _ _ ⟨λc o e=>?_,by simp[a2],λj u e=>?_⟩⟩
 ·rw[zT (zZ e hD)];exact U _ _ (s2 _ _ e)
 ·have T6:xx F (upd F D (.lst (ys++[v]))):=.upd (U _ _ S)
  by_cases hj:j<ys.length
  ·rw[w8 hj]at e
   exact hR _ _ _ _ ((xx.of U).trans T6) (a1 j u e)
  ·rw[wT ∅]at e
   have:j-ys.length=0:=by
    rcases uC (j-ys.length)with z | z
    ·exact z
    ·rw[yF (by simp;lia)]at e;cases e
   rw[this]at e
   simp at e
   subst e
   rw[show j=i by lia]
   exact hR _ _ _ _ T6 r6
end
section
variable {J:It}{D:Addr}{n:Nat}{σ:St}{g:TG}{tt:TT}{te:TE}{Z:Hp->Prop}{H:Hp}{xs:List V}
theorem zdP (p:V->Bool) (hD:H D=none) (Y:zbe J H xs) (hl:xs.length<sizeLine)
  (hs:∀(i:Nat) (x:V) (zs:St) (H2:Hp) (A:VK) (B:Hp->Prop),xs[i]?=some x->zs.length=n->zk H H2->(p x=true->A x H2)->(p x=false->B H2)->g x zs H2 λS H4=>tt S H4 λb F=>if b=true then te S F A else B F)
  (k:∀H',zk H H'->H' D=some (.lst (xs.filter p))->Z H') :
  ∃W:Nat->Nat->Hp->List V->Prop,(∃m,W 0 m (upd H D (.lst [])) [])/\∀i m H2 ys,W i m H2 ys->H2 D=some (.lst ys)->(J.stop i H2/\Z H2) ∨
   (J.go i H2/\∀σB x G,σB.length=n->J.yld i H2 x G->g x σB G λS H4=>tt S H4 λb F=>if b=true then te S F (λv H6=>H6 D=some (.lst ys)/\ys.length<sizeLine/\∃O,O<m/\W (i+1) O (upd H6 D (.lst (ys++[v]))) (ys++[v]))
    else F D=some (.lst ys)/\∃O,O<m/\W (i+1) O F ys):=by
 refine Q9 (Q:=λ_ H=>Z H) (tt:=tt) (N:=xs.length) (λi H2 ys=>zk H H2/\ys=(xs.take i).filter p) ⟨zk.upd hD,rfl⟩ (λi H2 ys hi p=>Y.go i H2 hi p.1) (λH2 ys p=>Y.stop H2 p.1) ?_ (λH2 ys q e=>k H2 q.1 (by rw[e,q.2,yq]))
 rintro i x zs H2 G ys Nx hN hi hz hy ⟨U,rfl⟩ I
 obtain⟨rfl,hx⟩:=Y.yld i x H2 G U hy
 have et:xs.take (i+1)=xs.take i++[x]:=by rw[yA,hx];rfl
 refine hs i x zs G _ _ hx hz U (λhp=>⟨I,?_,hN _ _ ⟨λc o e=>?_,?_⟩⟩) (λhp=>⟨I,hN _ _ ⟨U,?_⟩⟩)
 ·have:=uR p (xs.take i)
  have:=List.length_take_le i xs
  lia
 ·rw[zT (zZ e hD)];exact U _ _ e
 ·rw[et,ue];simp[hp]
 ·rw[et,ue];simp[hp]
end
end L2
namespace KM
def zbl (x s:Rat):(0:Int)<(x.den:Int)*s.den:=wQ (den_pos x) (den_pos s)
def zbg (x:Rat){d:Int}(hd:d≠0):x=Rat.divInt (x.num*d) (x.den*d):=by rw[Rat.divInt_mul_right hd,wW]
def qA {a b d:Int}(hd:0<d):Rat.divInt a d<Rat.divInt b d↔a<b:=by
 rw[wE,wE]
 have h:(0:Rat)<d:=wv.mpr hd
 rw[Rat.div_lt_iff h,uS (by grind)];exact yL
def Vs {a b d:Int}(hd:d≠0):Rat.divInt a d-Rat.divInt b d=Rat.divInt (a-b) d:=by
 rw[Rat.divInt_sub_divInt _ _ hd hd,<-Int.sub_mul,Rat.divInt_mul_right hd]
def Zn (d:Int):Rat.divInt 0 d=0:=by simp
def xM {a d:Int}(hd:0<d):0<Rat.divInt a d↔0<a:=by
 have:=qA (a:=0) (b:=a) hd
 rw[Zn]at this;exact this
def Jc {a d:Int}(hd:0<d) (h:0<=a):0<=Rat.divInt a d:=by
 have:=qA (a:=a) (b:=0) hd
 rw[Zn]at this
 rw[<-Rat.not_lt,this];lia
def rst (x s:Rat):Rat:=Rat.divInt ((x.num*s.den) % (s.num*x.den)) (x.den*s.den)
section
variable {x s:Rat}
theorem ze7 (hs:0<s.num):0<s.num*(x.den:Int):=wQ hs (den_pos x)
theorem zku (x s:Rat):s=Rat.divInt (s.num*x.den) (x.den*s.den):=by rw[uo (x.den:Int)];exact zbg s (qN x)
theorem Zu (hs:0<s.num):0<=rst x s:=Jc (zbl x s) (yS _ (by have:=ze7 (x:=x) hs;lia))
theorem Zv (hs:0<s.num):rst x s<s:=by
 have h:rst x s<Rat.divInt (s.num*x.den) (x.den*s.den):=(qA (zbl x s)).mpr (yV _ (ze7 hs))
 rw[<-zku]at h;exact h
theorem ze8 {r:Rat}(F:0<=r) (h1:r<s):rst r s=r:=by
 have h2:=(vn r s).mpr h1
 have G:0<=r.num:=Y2.mpr F
 unfold rst
 rw[Int.emod_eq_of_lt (Wy G (yK (den_pos s))) h2]
 exact(zbg r (qN s)).symm
theorem zaX (hs:0<s.num):x-rst x s=(((x.num*s.den)/(s.num*x.den):Int):Rat)*s:=by
 have G:=ze7 (x:=x) hs
 have e1:x-rst x s=Rat.divInt (x.num*s.den-(x.num*s.den) % (s.num*x.den)) (x.den*s.den):=by
  have:=Vs (a:=x.num*s.den) (b:=(x.num*s.den) % (s.num*x.den)) (yu (zbl x s))
  rw[<-zbg x (qN s)]at this;exact this
 have e2:x.num*s.den-(x.num*s.den) % (s.num*x.den)=((x.num*s.den)/(s.num*x.den))*(s.num*x.den):=by
  have:=Wk (x.num*s.den) (s.num*x.den)
  rw[uo (x.num*s.den/(s.num*x.den))];lia
 rw[e1,e2]
 have F:(((x.num*s.den)/(s.num*x.den):Int):Rat)*s=Rat.divInt ((x.num*s.den)/(s.num*x.den)) 1*Rat.divInt (s.num*x.den) (x.den*s.den):=by
  rw[<-zku,zeF]
 rw[F,ua,uU]
end
end KM
namespace L2
open PySem PySem.Spec PyProof.Rows
section
variable {κ:Type} [DecidableEq κ]
def ZI (kvs:List (κ×V)) (k:κ):Option V:=(kvs.find? λkv=>decide (kv.1=k)).map (·.2)
def zaT (kvs:List (κ×V)) (k:κ) (v:V):List (κ×V) :=
 if(kvs.any λkv=>decide (kv.1=k))=true then kvs.map (λkv=>if kv.1=k then(kv.1,v)else kv)else kvs++[(k,v)]
theorem Qq {p:κ×V}{r:List (κ×V)}{k:κ}(e:p.1=k):ZI (p::r) k=some p.2:=by simp[ZI,uM,e]
theorem Qp {p:κ×V}{r:List (κ×V)}{k:κ}(e:¬p.1=k):ZI (p::r) k=ZI r k:=by simp[ZI,uM,e]
theorem za9 (k:κ):∀kvs:List (κ×V),(kvs.any λF=>decide (F.1=k))=(ZI kvs k).isSome
 |[]=>rfl
 |p::r=>by
  rw[Yb]
  by_cases e:p.1=k
  ·simp only[Qq e,wm e,Bool.true_or,Option.isSome_some]
  ·rw[Qp e,wy e,YM];exact za9 k r
theorem zaJ (kvs:List (κ×V)) (k:κ) (v:V):(zaT kvs k v).length<=kvs.length+1:=by
 unfold zaT
 split
 ·rw[wc];lia
 ·rw[wV,wx,YW];lia
theorem KV.val {kvs:List (κ×V)}{vs:List (κ×Value)} (r:KV kvs vs) (k:κ):Vp (ZI kvs k) (valueAt vs k):=by
 unfold KV at r
 induction r with
 |nil=>exact True.intro
 |@cons p q ps qs h t ih =>
  obtain⟨h1,h2⟩:=h
  by_cases e:p.1=k
  ·have F:q.1=k:=h1.symm.trans e
   have b:valueAt (q::qs) k=some q.2:=by simp[valueAt,uM,F]
   rw[Qq e,b];exact h2
  ·have F:¬q.1=k:=λz=>e (h1.trans z)
   have b:valueAt (q::qs) k=valueAt qs k:=by simp[valueAt,uM,F]
   rw[Qp e,b];exact ih
theorem KV.any {kvs:List (κ×V)}{vs:List (κ×Value)} (r:KV kvs vs) (k:κ):(kvs.any λF=>decide (F.1=k))=vs.any λF=>decide (F.1=k):=by
 unfold KV at r
 induction r with
 |nil=>rfl
 |cons h t ih=>rw[Yb,Yb,ih,h.1]
theorem KV.repl {kvs:List (κ×V)}{vs:List (κ×Value)} (r:KV kvs vs) (k:κ){y:V}{u:Value}(G:xl y u) :
  KV (kvs.map λF=>if F.1=k then(F.1,y)else F) (vs.map λF=>if F.1=k then(F.1,u)else F):=by
 unfold KV at r ⊢
 induction r with
 |nil=>exact .nil
 |@cons p q ps qs h t ih =>
  rw[yg,yg]
  refine .cons ?_ ih
  obtain⟨h1,h2⟩:=h
  by_cases e:p.1=k
  ·rw[if_pos e,if_pos (h1.symm.trans e)];exact⟨h1,G⟩
  ·rw[if_neg e,if_neg (λz=>e (h1.trans z))];exact⟨h1,h2⟩
theorem KV.put {kvs:List (κ×V)}{vs:List (κ×Value)} (r:KV kvs vs) (k:κ){y:V}{u:Value}(F:xl y u):KV (zaT kvs k y) (stored vs k u):=by
 unfold zaT stored
 rw[r.any k]
 by_cases e:(vs.any λG=>decide (G.1=k))=true
 ·rw[if_pos e,if_pos e];exact r.repl k F
 ·rw[if_neg e,if_neg e];exact Paired.snoc r ⟨rfl,F⟩
theorem KV.keys {kvs:List (κ×V)}{vs:List (κ×Value)} (r:KV kvs vs):kvs.map (·.1)=vs.map (·.1):=by
 unfold KV at r
 induction r with
 |nil=>rfl
 |cons h t ih=>rw[yg,yg,ih,h.1]
theorem KV.length {kvs:List (κ×V)}{vs:List (κ×Value)} (r:KV kvs vs):kvs.length=vs.length:=Paired.length r
end
def zek {P:Program}{w:World}{k:Key}{u:Value}(r:xl (kV k) u):(qg P w).is k u=true:=by
 cases k with
 |inl i=>obtain⟨t,e⟩:=(show ∃t,u=Value.int i t from r);subst e;exact zaK P w i t
 |inr x=>obtain⟨t,e⟩:=(show ∃t,u=Value.str x t from r);subst e;exact zaL P w x t
def Jh {P:Program}{w:World}:∀{ks:List Key}{us:List Value},z6 (ks.map kV) us->ItemsAre (qg P w) ks us
 |[],_,r=>by rw[YV]at r;cases r;exact .nil
 |k::ks,_,r=>by
  rw[yg]at r
  cases r with
  |cons h t=>exact .cons (zek h) (Jh t)
abbrev KT (H:Hp):List (List Key×V)->List (List Key×Addr×Value)->Prop:=Paired λp q=>p.1=q.1/\H q.2.1=some (.tup (p.1.map kV))/\xl p.2 q.2.2
def KT.val {H:Hp}{kvs:List (List Key×V)}{xs:List (List Key×Addr×Value)} (r:KT H kvs xs) (k:List Key):Vp (ZI kvs k) ((atKey xs k).map (·.2)):=by
 induction r with
 |nil=>exact True.intro
 |@cons p q ps qs h t ih =>
  obtain⟨h1,_,h2⟩:=h
  by_cases e:p.1=k
  ·have F:q.1=k:=h1.symm.trans e
   have b:atKey (q::qs) k=some q.2:=by simp[atKey,uM,F]
   rw[Qq e,b];exact h2
  ·have F:¬q.1=k:=λz=>e (h1.trans z)
   have b:atKey (q::qs) k=atKey qs k:=by simp[atKey,uM,F]
   rw[Qp e,b];exact ih
section
variable {P:Program}{w:World}{H:Hp}{h:Heap}{a:Addr}
theorem zhH {u:HO}(ok:HOk P w H h) (e:Rd H a u):xP P w H h a u:=e.ok ok
theorem zdT {kvs:List (Key×V)} (ok:HOk P w H h) (e:Rd H a (.dK kvs)):kvs.length<=sizeLine/\(a == sysModules)=false/\∃vs,KV kvs vs/\h.DictOf (qg P w) a vs :=
 show xP P w H h a (.dK kvs)from zhH ok e
theorem zdS {kvs:List (Key×V)} (ok:HOk P w H h) (e:H a=some (.dK kvs)):kvs.length<=sizeLine/\(a == sysModules)=false/\∃vs,KV kvs vs/\h.DictOf (qg P w) a vs:=zdT ok (.inl e)
theorem zem {ks:List Key}(ok:HOk P w H h) (e:H a=some (.tup (ks.map kV))):(tupleKind (qg P w)).is h ks a:=by
 obtain⟨_,F,r,o,h1,h2,n,G⟩:=(show xP P w H h a (.tup (ks.map kV))from ok a _ e)
 exact⟨o,F.toArray,n,h1,h2,G,by simpa using Jh r⟩
theorem zhp {kvs:List (List Key×V)} (ok:HOk P w H h) (e:Rd H a (.dT kvs)):kvs.length<=sizeLine/\(a == sysModules)=false ∧
  ∃xs,KT H kvs xs/\h.DictOfH (tupleKind (qg P w)) a xs:=by
 obtain⟨z,y,xs,r,o,es,ep,h1,h2,G,I,O⟩:=(show xP P w H h a (.dT kvs)from zhH ok e)
 refine⟨z,y,xs,r,o,es,ep,h1,h2,G,I,λx F=>?_,O⟩
 have all:∀{l:List (List Key×V)}{m:List (List Key×Addr×Value)},KT H l m->∀x∈m,(tupleKind (qg P w)).is h x.1 x.2.1:=by
  intro l m q
  induction q with
  |nil=>intro x F;exact nomatch F
  |@cons p q ps qs hq t ih =>
   intro x F
   rcases ww.mp F with e | F
   ·subst e
    exact zem ok (by rw[<-hq.1];exact hq.2.1)
   ·exact ih x F
 exact all r x F
end
def zbc (H:Hp) (a:Addr) (y:V) (r:Option V):Prop :=
 (∃kvs k,Rd H a (.dK kvs)/\y=kV k/\r=ZI kvs k)\/∃kvs k b,Rd H a (.dT kvs)/\y=.ref b/\H b=some (.tup (k.map kV))/\r=ZI kvs k
def zbc.k {H:Hp}{a:Addr}{kvs:List (Key×V)}{k:Key}(e:H a=some (.dK kvs)):zbc H a (kV k) (ZI kvs k):=.inl ⟨kvs,k,.inl e,rfl,rfl⟩
section
variable {X:Cx}{pz:List (Addr×Obj)}{σ:St}{H:Hp}{s:Shared}{a:Addr}{y v:V}{u r:Value}{o:Option V}{A:Around}{E:Value->Shared->Prop}
theorem Inv.big (I:Inv X pz σ H s):sysModules<s.heap.objs.size:=by
 have h:mainGlobals<s.heap.objs.size:=(I.mod.glob.keeps I.bk).lt
 exact Nat.lt_trans (by decide) h
theorem zcZ {Q:Value->Shared->Prop}(hu:A.units+1<cLine) (I:Inv X pz σ H s) (g:zbc H a y (some v)) (V:xl y u) (h:∀O s',Inv X pz σ H s'->xl v O->Q O s') :
  wpAny (model X.prog X.w) A (getItem (.ref a) u) Q E s:=by
 rcases g with⟨kvs,k,e,U,l⟩ | ⟨kvs,k,b,e,U,W,l⟩
 ·subst U
  obtain⟨z,hd,vs,G,dd⟩:=zdT I.hok e
  obtain⟨O,hw,F⟩:=Vp.some_of (v:=v) (o:=valueAt vs k) (by rw[l];exact G.val k)
  exact wpAny_getItem_of (zek V) dd.mapOf hw (h O _ (I.tok _) F)
 ·subst U
  cases(show u=Value.ref b from V)
  obtain⟨z,hd,xs,G,dd⟩:=zhp I.hok e
  obtain⟨O,hw,F⟩:=Vp.some_of (v:=v) (o:=(atKey xs k).map (·.2)) (by rw[l];exact G.val k)
  obtain⟨p,Y,S⟩:=Option.map_eq_some_iff.mp hw
  refine wpAny_getItem_heap (tupleKind_room_in1 hu) (zem I.hok W) dd Y ?_
  rw[S]
  exact h O _ (I.tok _) F
theorem zf5 {h':Heap}{G:Nat}{F:HO}(I:Inv X pz σ H s) (S:Mut (H a)) (hs:Heap.SameBut a s.heap h') (O:∃q,h'.get? a=some q) (new:xP X.prog X.w (upd H a F) h' a F) :
  Inv X pz σ (upd H a F) { s with heap:=h',toks:=G } :=
 I.write (x:=a) (e:=a) S (.inl rfl) (λb q U z=>(hs.2 b U).trans z) O new
theorem zbm {P:Program}{w:World}{H':Hp}{h':Heap}{kvs:List (Key×V)}{vs:List (Key×Value)} (z:kvs.length<=sizeLine) (hd:(a == sysModules)=false) (F:KV kvs vs) (dd:h'.DictOf (qg P w) a vs) :
  xP P w H' h' a (.dK kvs):=⟨z,hd,vs,F,dd⟩
end
def zjK (i:Expr):Prop:=∀ov iv,subscripted i false ov iv=operate [ov,iv] (getItem ov iv)
def zhc {prog:Program}{w:World}{A:Around}{E:Value->Shared->Prop}{s:Shared}{env:Env}{value F:Expr}{pos:Pos}{T id:String}{Q:Value->Shared->Prop}
  (hl:typeLookup (.type T) "__getitem__" = pure (some (.builtin id))) (hs:zjK F)
  (h:wpAny (model prog w) A (eval value env) (λo U=>wpAny (model prog w) A (eval F env) (λi I=>I.TypeIs o T/\wpAny (model prog w) A (getItem o i) Q E I) E U) E s) :
  wpAny (model prog w) A (eval (.Subscript value F pos) env) Q E s:=by
 refine Subscript_ (uj h (λo U W=>uj W (λi I O=>?_) λ_ _ x=>x) λ_ _ x=>x)
 obtain⟨S,O⟩:=O
 unfold subscriptTail
 refine we ?_
 rw[getitemInPython_of_ne S.not_modules]
 refine we (wpAny_specialOf S hl ?_)
 have G:wpAny (model prog w) A (subscripted F false o i) (λr V=>wpAny (model prog w) A (letTemporaryGo value o r >>= λ_=>pure r) Q E V) E I:=by
  rw[hs o i]
  exact wpAny_operating (uj O (λr V Y=>we (wpAny_letTemporaryGo (wn Y))) λ_ _ x=>x)
 first
  |exact wn (we G)
  |exact we (wn (we G))
  |exact we G
def zaw {X:Cx}{pz:List (Addr×Obj)}{σ:St}{H:Hp}{s:Shared}{a:Addr}{y:V}{o:Option V}(I:Inv X pz σ H s) (g:zbc H a y o):s.TypeIs (.ref a) "dict":=by
 rcases g with⟨kvs,k,e,_,_⟩ | ⟨kvs,k,b,e,_,_,_⟩
 ·obtain⟨_,_,vs,_,dd⟩:=zdT I.hok e
  exact dd.typeIs
 ·obtain⟨_,_,xs,_,dd⟩:=zhp I.hok e
  exact dd.typeIs
inductive zfG (Q:VK) (x:V) (y:V) (H2:Hp):Prop
 |mk:∀a v,(x=.ref a)->(zbc H2 a y (some v))->(Q v H2)->zfG Q x y H2
def zkE (td ty:TE):TE:=λσ H Q=>td σ H λx H1=>ty σ H1 λy H2=>zfG Q x y H2
section
variable {X:Cx}{o i e value:Expr}{pos pos' tpos:Pos}{td ty tv:TE}
theorem zgI (O:X.A.units+1<cLine) (U:PE X o td) (hi:PE X i ty) (hs:zjK i):PE X (.Subscript o i pos) (zkE td ty):=by
 intro pz s σ H Q I h
 refine zhc PySem.F.slot_dict_getitem.lookup hs (thn (U pz s σ H _ I h) λu S ⟨x,H1,I1,rx,q1⟩=>thn (hi pz S σ H1 _ I1 q1) λW Y ⟨y,H2,I2,ry,a,v,ex,g,q2⟩=>?_)
 subst ex
 obtain rfl:u=Value.ref a:=rx
 exact⟨zaw I2 g,zcZ O I2 g ry λw' s3 V G=>⟨v,H2,V,G,q2⟩⟩
end
def zdR {P:Program}{w:World}{H:Hp}(h:Heap) (F:sysModules<h.objs.size):xP P w H (h.push { cls:=.type "dict",data:=.dict #[] }) h.objs.size (.dK []) :=
 ⟨yb _,beq_eq_false_iff_ne.mpr (Ne.symm (wZ F)),[],.nil,Heap.DictOf.new h⟩
def zjx:TE:=λ_ H Q=>∀p,H p=none->Q (.ref p) (upd H p (.dK []))
section
variable {X:Cx}{pos:Pos}
theorem zeR:PE X (.Dict [] [] pos) zjx:=λpz s σ H Q I h =>
 wpAny_Dict_empty ⟨.ref s.heap.objs.size,_,I.laid (a:=s.heap.objs.size) (o:=.dK []) (t':=s.toks) (λ_ _ q=>wg _ q) (wo _) (zdR s.heap I.big),rfl,h _ (I.hok.fresh (wo _))⟩
end
end L2
namespace Att
open PySem PySem.W PySem.Calls PyProof.Rows
end Att
namespace L2
open PySem PySem.Spec PyProof.Rows
open PySem.W
section
variable {X:Cx}
theorem zcU (hc:X.calm=true):vK X (.builtin "max") (λxs H Q=>∃(p:Addr) (ns:List Int),xs=[.ref p]/\SqL X.K H p (ns.map V.int)/\0<ns.length/\∀M,M∈ns->(∀a,a∈ns->a<=M)->Q (.int M) H):=by
 intro pz s σ H xs us Q I r h
 obtain⟨p,ns,rfl,hq,G,q⟩:=h
 obtain⟨u,rfl,ru⟩:=Z7 r
 cases ru
 obtain⟨S,rv,pl,_⟩:=I.list hq
 have hi:IntsAre S ns:=Xv rv
 obtain⟨ys,e⟩:=hi.allInts.items
 have Y:=pl.isList
 rw[e]at Y
 have F:ns=ys.toList.map (·.1):=by rw[<-hi.numsOf,<-nums_intItems,<-e]
 have O:0<ys.size:=by
  have U:=G;rw[F,wc,wI]at U;exact U
 refine max_intList (I.ok.hd hc) Y O λv h' tk hv hk=>?_
 obtain⟨t,rfl⟩:=intItems_at hv
 obtain⟨h1,h2⟩:=argBest_gt (numAt ys) (ys.size-1)
 refine⟨.int _,H,I.kept hk,⟨_,rL⟩,q _ ?_ λa W=>?_⟩
 ·rw[F,numAt_eq];exact getD_mem (by rw[wc,wI];omega)
 ·rw[F]at W
  obtain⟨j,hj,rfl⟩:=mem_getD W
  rw[wc,wI]at hj
  rw[<-numAt_eq];exact h2 j (by omega)
end
def zcA:V->List V->Hp->VK->Prop:=λx vs H Q=>∃a kvs k d,x=.ref a/\vs=[kV k,d]/\H a=some (.dK kvs)/\kvs.length<sizeLine/\(∀v,ZI kvs k=some v->Q v H)/\(ZI kvs k=none->Q d (upd H a (.dK (zaT kvs k d))))
section
variable {X:Cx}
theorem Jo:MtR X "dict.setdefault" zcA:=by
 intro pz s σ H x vs v us Q I rx Y h
 obtain⟨a,kvs,k,d,rfl,rfl,V,hz,q1,q2⟩:=h
 cases rx
 obtain⟨uk,ud,rfl,rk,rd⟩:=zcP Y
 obtain⟨z,hd,ws,G,dd⟩:=zdS I.hok V
 have hl:ws.length<=sizeLine:=by rw[<-G.length];lia
 have U:(zaT kvs k d).length<=sizeLine:=by have:=zaJ kvs k d;lia
 refine call_meetsIn F.slot_dict_setdefault dd.typeIs F.entry_dict_setdefault (F.args_dict_setdefault_3 _ _ _) (kt_meets_setdefault (qg X.prog X.w) a (zek rk) hd ud) ⟨ws,dd,hl,λw hw=>?_,λhn h' S hs=>?_⟩
 ·have r:=G.val k
  rw[hw]at r
  cases O:ZI kvs k with
  |none=>rw[O]at r;exact(show False from r).elim
  |some y=>rw[O]at r;exact⟨y,H,I.tok _,r,q1 y O⟩
 ·have r:=G.val k
  rw[hn]at r
  cases O:ZI kvs k with
  |some y=>rw[O]at r;exact(show False from r).elim
  |none =>
   have W:∃q,h'.get? a=some q:=let ⟨q,_,_,hq,_⟩:=S;⟨q,hq⟩
   exact⟨d,_,zf5 I (by rw[V];exact True.intro) hs W (zbm U hd (G.put k rd) S),rd,q2 O⟩
end
section
variable {prog:Program}{w:World}{A:Around}{E:Value->Shared->Prop}{s:Shared}
theorem zaH:∀{us:List Value}{ns:List Int},IntsAre us ns->us.length=ns.length:=λh=>by
 have:=(vJ h).length;simpa using this.symm
theorem Jn {x:Addr}{ns:List Int}{Q:Value->Shared->Prop}(h64:ns.length<64)
  (hcol:∀R:List Value->Shared->Prop,(∀(h1:Heap) (tk:Nat) (vs:List Value),IntsAre vs ns->(∀b o,s.heap.get? b=some o->h1.get? b=some o)->R vs { s with heap:=h1,toks:=tk })->wpAny (model prog w) A.in1 (collect (.ref x)) R E s)
  (h:∀(h1 h':Heap) (tk:Nat) (out:List Value) (c:Nat) (ns':List Int),(∀b o,s.heap.get? b=some o->h1.get? b=some o)->(∀b o,h1.get? b=some o->h'.get? b=some o)->h'.get? h1.objs.size=some (seqObj "list" (List.toArray out) c)->IntsAre out ns'->ns'.Perm ns->ns'.Pairwise (·<=·)->Q (.ref h1.objs.size) { s with heap:=h',toks:=tk }) :
  wpAny (model prog w) A (call (.builtin "sorted") [.ref x]) Q E s:=by
 refine Calls.call_function_entry kind_sorted plain_sorted entry_sorted (args_sorted1 _) ?_
 unfold Builtin.«sorted»
 refine we (m:=checkCount "sorted" 1 1 _) (wn (we (hcol _ λh1 tk vs hI k1=>we (YR ?_ (by have:=zaH hI;rw[sizeLine_eq];lia)))))
 have hvl:=zaH hI
 have hoL:(h1.push (seqObj "list" vs.toArray 0)).get? h1.objs.size=some (seqObj "list" vs.toArray 0):=wH _ rfl
 show wpAny _ _ _ _ _ { s with heap:=h1.push (seqObj "list" vs.toArray 0),toks:=tk }
 refine we (yZ (ut slot_list_sort ⟨_,hoL,rL⟩ entry_list_sort (list_sort_tree (s:={ s with heap:=h1.push (seqObj "list" vs.toArray 0),toks:=tk }) hoL hI ∅ λout ns' a1 a2 a3=>⟨_,rfl,?_⟩) (args_list_sort _)))
 obtain⟨c,hc⟩:∃c,(sortedHeap (h1.push (seqObj "list" vs.toArray 0)) h1.objs.size vs out).get? h1.objs.size=some (seqObj "list" out c):=sortedHeap_at hoL
 refine wn ⟨_,rfl,h h1 _ tk out.toList c ns' k1 (λb o e=>?_) ↥hc a1 a2 a3⟩
 have hlt:b<h1.objs.size:=wF e
 rw[sortedHeap_old (wZ hlt) (show b<(h1.push _).objs.size by rw[size_push'];exact u5 hlt)]
 exact wg _ e
end
section
variable {X:Cx}{pz:List (Addr×Obj)}{σ:St}{H:Hp}{s:Shared}
theorem zgs {P:Program}{w:World}{n:Int}{v:Value}(h:(qg P w).is (Sum.inl n) v=true):∃t,v=.int n t:=by
 exact Value.isInt_shape (k:=n) (v:=v) h
theorem JU:∀{us:List Value}{ns:List Int},us.length=ns.length->(∀(i:Nat) (v:Value) (n:Int),us[i]?=some v->ns[i]?=some n->∃t,v=.int n t)->IntsAre us ns
 |[],[],_,_=>.nil
 |[],_::_,h,_=>by simp at h
 |_::_,[],h,_=>by simp at h
 |u::us,n::ns,h,f=>by
  obtain⟨t,rfl⟩:=f 0 u n rfl rfl
  exact .cons n t (JU ↥h λi v m e1 e2=>f (i+1) v m ↥e1 ↥e2)
theorem Jt {ns F:List Int}{out:List Value}{h1 h':Heap}{tk c:Nat}{Q:VK}(I:Inv X pz σ H s) (U:ns.length<64) (k1:∀b o,s.heap.get? b=some o->h1.get? b=some o) (k2:∀b o,h1.get? b=some o->h'.get? b=some o)
  (S:h'.get? h1.objs.size=some (seqObj "list" (List.toArray out) c)) (O:IntsAre out F) (G:F.Perm ns) (hs:F.Pairwise (·<=·)) (q:∀D (ms:List Int),H D=none->ms.Perm ns->ms.Pairwise (·<=·)->Q (.ref D) (upd H D (.lst (ms.map V.int)))):EP X pz σ Q (.ref h1.objs.size) { s with heap:=h',toks:=tk }:=by
 have J:=I.kept (t':=tk) k1
 refine⟨.ref h1.objs.size,_,J.laid (t':=tk) (o:=.lst (F.map V.int)) k2 (wo _) ⟨?_,out,c,vJ O,S⟩,rL,q _ F (J.hok.fresh (wo _)) G hs⟩
 rw[wc,G.length_eq,sizeLine_eq];lia
theorem Vr:vK X (.builtin "sorted") (λvs H Q=>∃(p:Addr) (ns:List Int),vs=[.ref p]/\SqL X.K H p (ns.map V.int)/\ns.length<64/\∀D (ms:List Int),H D=none->ms.Perm ns->ms.Pairwise (·<=·)->Q (.ref D) (upd H D (.lst (ms.map V.int)))):=by
 intro pz s σ H vs us Q I r h
 obtain⟨p,ns,rfl,hq,h64,q⟩:=h
 obtain⟨u,rfl,ru⟩:=Z7 r
 cases ru
 obtain⟨its,rv,pl,hz⟩:=I.list hq
 have hl:=rv.length
 rw[wc]at hl
 refine Jn (ns:=ns) h64 (λR hR=>collect_list pl.isList (hR _ s.toks its (Xv rv) λb o e=>?_) (by rw[sizeLine_eq];lia)) λh1 h' tk out c ns' k1 k2 hD a1 a2 a3=>Jt I h64 k1 k2 hD a1 a2 a3 q
 have hlt:b<s.heap.objs.size:=wF e
 rw[Heap.get?_update_ne _ _ _ _ (wZ hlt),Heap.get?_push_ne _ _ _ (wZ hlt)]
 exact e
theorem zbh (hc:X.calm=true):vK X (.builtin "sorted") (λvs H Q=>∃(d:Addr) (kvs:List (Key×V)) (ns:List Int),vs=[.ref d]/\H d=some (.dK kvs)/\kvs.map Prod.fst=ns.map Sum.inl/\ns.length<64/\∀D (ms:List Int),H D=none->ms.Perm ns->ms.Pairwise (·<=·)->Q (.ref D) (upd H D (.lst (ms.map V.int)))):=by
 intro pz s σ H vs us Q I r h
 obtain⟨d,kvs,ns,rfl,hd,ek,h64,q⟩:=h
 obtain⟨u,rfl,ru⟩:=Z7 r
 cases ru
 obtain⟨z,lo,ws,rel,dd⟩:=zdS I.hok hd
 obtain⟨ep,hat⟩:=dd.dictAt
 have hk:=rel.keys
 have hwl:ws.length=ns.length:=by have:=congrArg List.length (hk.symm.trans ek);simpa using this
 refine Jn (ns:=ns) h64 (λR hR=>PySem.W.kdu_collect (PySem.W.kdl_dict (knd:=qg X.prog X.w) (kvs:=ws) (ep:=ep) lo) (I.ok.hd hc) hat (by rw[hwl,sizeLine_eq];lia) λh' tk acc k ha=>hR h' tk acc.toList ?_ k) λh1 h' tk out c ns' k1 k2 hD a1 a2 a3=>Jt I h64 k1 k2 hD a1 a2 a3 q
 refine JU (by rw[wI,ha.1];exact hwl) λi v n e1 e2=>?_
 obtain⟨kk,y,hy,hki⟩:=ha.2 i v (by rw[<-wO];exact e1)
 have e3:(ws.map Prod.fst)[i]?=some kk:=by rw[wu,hy];rfl
 rw[<-hk,ek,wu,e2]at e3
 cases e3
 exact zgs hki
theorem zcT:vK X (.builtin "len") (λxs H Q=>∃p kvs,xs=[.ref p]/\H p=some (.dK kvs)/\Q (.int kvs.length) H):=by
 intro pz s σ H xs us Q I r h
 obtain⟨p,kvs,rfl,hd,q⟩:=h
 obtain⟨u,rfl,O⟩:=Z7 r
 cases O
 obtain⟨z,lo,ws,F,dd⟩:=zdS I.hok hd
 have G:=F.length
 have hs:sizeLine=16777216:=sizeLine_eq
 exact call_len_dict lo dd ∅ ⟨.int kvs.length,H,I.tok _,⟨_,by rw[G]⟩,q⟩
end
end L2
namespace PySem
end PySem
namespace L2
open PySem PySem.Spec PyProof.Rows
end L2
namespace PySem
end PySem
namespace L2
open PySem PySem.Spec PyProof.Rows
open MeetsSeq MeetsSeq2 MeetsSeq3 SeqRoads2 SeqAt AutoSeq1
end L2
namespace TS
def hid {A:Prop}(h:∀P:Prop,(A->P)->P):A:=h A id
open PySem PySem.W PyProof.Rows
variable {J:Shared->Prop}{M:Model}{A:Around}{E:Value->Shared->Prop}
def TQ (J:Shared->Prop) (M:Model) (A:Around) (E:Value->Shared->Prop){α:Type}(m:StateT SortSt Sem α) (Q:α->SortSt->Prop) (st:SortSt):Prop :=
 ∀s,J s->wpAny M A (m.run st) (λr s'=>J s'/\Q r.1 r.2) E s
theorem zw {α:Type}{a:α}{Q:α->SortSt->Prop}{st:SortSt}(h:Q a st):TQ J M A E (pure a) Q st:=λs j=>by
 rw[StateT.run_pure];exact wn ⟨j,h⟩
theorem zq {α β:Type}{m:StateT SortSt Sem α}{f:α->StateT SortSt Sem β}{Q:β->SortSt->Prop}{st:SortSt}(h:TQ J M A E m (λa F=>TQ J M A E (f a) Q F) st):TQ J M A E (m >>= f) Q st:=λs j=>by
 rw[StateT.run_bind];exact we (uj (h s j) (λr s' q=>q.2 s' q.1) λ_ _ e=>e)
theorem zfS {α:Type}{c:Prop}{_:Decidable c}{X:Nat->StateT SortSt Sem α}{y:StateT SortSt Sem α}{g:Nat}{Q:α->SortSt->Prop}{st:SortSt}(I:y=X g) (h:∀G,TQ J M A E (X G) Q st) (F:Nat):TQ J M A E (if c then X F else y) Q st:=by subst I;split <;> exact h _
theorem qa {α:Type}{m:StateT SortSt Sem α}{Q G:α->SortSt->Prop}{st:SortSt}(h:TQ J M A E m Q st) (q:∀a F,Q a F->G a F):TQ J M A E m G st:=λs j =>
 uj (h s j) (λr s' z=>⟨z.1,q _ _ z.2⟩) λ_ _ e=>e
theorem vU {Q:SortSt->SortSt->Prop}{st:SortSt}(h:Q st st):TQ J M A E (get:StateT SortSt Sem SortSt) Q st:=λs j=>by
 rw[StateT.run_get];exact wn ⟨j,h⟩
theorem zjE {Q:PUnit->SortSt->Prop}{st F:SortSt}(h:Q ⟨⟩ F):TQ J M A E (set F:StateT SortSt Sem PUnit) Q st:=λs j=>by
 rw[StateT.run_set];exact wn ⟨j,h⟩
theorem qC {f:SortSt->SortSt}{Q:PUnit->SortSt->Prop}{st:SortSt}(h:Q ⟨⟩ (f st)):TQ J M A E (modify f:StateT SortSt Sem PUnit) Q st:=λs j=>by
 rw[StateT.run_modify];exact wn ⟨j,h⟩
theorem Xi {n:String}{Q:Unit->SortSt->Prop}{st:SortSt}(h:Q () st):TQ J M A E (liftM (rule n):StateT SortSt Sem Unit) Q st:=λs j=>by
 show wpAny M A ((StateT.lift (rule n):StateT SortSt Sem Unit).run st) _ E s
 rw[StateT.run_lift]
 exact we (Yf (wn ⟨j,h⟩))
def zfD {β:Type}(D N:β->SortSt->Prop):ForInStep β->SortSt->Prop
 |.done c,st=>D c st
 |.yield c,st=>N c st
theorem zcL {β γ:Type}{f:γ->β->StateT SortSt Sem (ForInStep β)}{Q:β->SortSt->Prop}(I:Nat->β->SortSt->Prop):∀{l:List γ}{k:Nat}{c:β}{st:SortSt},
  (∀i y c st,l[i]?=some y->I (k+i) c st->TQ J M A E (f y c) (zfD Q (I (k+i+1))) st)->(∀c st,I (k+l.length) c st->Q c st)->I k c st->TQ J M A E (forIn l c f) Q st
 |[],k,c,st,_,hd,h=>by rw[List.forIn_nil];exact zw (hd c st h)
 |y::l,k,c,st,hs,hd,h=>by
  rw[List.forIn_cons]
  refine zq (qa (hs 0 y c st rL h) λr F q=>?_)
  cases r with
  |done c'=>exact zw q
  |yield c' =>
   refine zcL I (k:=k+1) (λi y c st e z=>?_) (λc st z=>hd c st ?_) q
   ·have:=hs (i+1) y c st ↥e (by rw[show k+(i+1)=k+1+i by lia];exact z)
    rw[show k+(i+1)+1=k+1+i+1 by lia]at this;exact this
   ·rw[wx,show k+(l.length+1)=k+1+l.length by lia];exact z
theorem xZ {β:Type}{a b:Nat}{f:Nat->β->StateT SortSt Sem (ForInStep β)}{Q:β->SortSt->Prop}(I:Nat->β->SortSt->Prop){c:β}{st:SortSt}
  (hs:∀i c st,a<=i->i<b->I i c st->TQ J M A E (f i c) (zfD Q (I (i+1))) st) (hd:∀c st,I (max a b) c st->Q c st) (h:I a c st):TQ J M A E (forIn [a:b] c f) Q st:=by
 rw[Std.Legacy.Range.forIn_eq_forIn_range']
 have F:([a:b]:Std.Legacy.Range).size=b-a:=by simp[Std.Legacy.Range.size]
 show TQ J M A E (forIn (List.range' a ([a:b]:Std.Legacy.Range).size 1) c f) Q st
 rw[F]
 refine zcL I (k:=a) (λi y c st e z=>?_) (λc st z=>hd c st ?_) h
 ·obtain⟨hi,e⟩:=wS.mp e
  rw[List.getElem_range']at e
  rw[List.length_range']at hi
  have:y=a+i:=by lia
  subst this
  exact hs _ c st ∅ ∅ z
 ·rw[List.length_range']at z
  rw[show max a b=a+(b-a) by lia];exact z
variable {KY:Keyed->Int}{a₀:Array Keyed}{κ:SortKind}
def kx (KY:Keyed->Int) (xs:Array Keyed) (i:Nat):Int:=match xs[i]? with
 |some p=>KY p
 |none=>0
theorem xX {xs ys:Array Keyed}{i j:Nat}(h:xs[i]?=ys[j]?):kx KY xs i=kx KY ys j:=by unfold kx;rw[h]
theorem zV {xs:Array Keyed}{i:Nat}{p:Keyed}(h:xs[i]?=some p):kx KY xs i=KY p:=by unfold kx;rw[h]
def HLt (J:Shared->Prop) (M:Model) (A:Around) (E:Value->Shared->Prop) (κ:SortKind) (KY:Keyed->Int) (a₀:Array Keyed):Prop :=
 ∀(x y:Keyed) (st:SortSt) (Q:Option Bool->SortSt->Prop),x∈a₀.toList->y∈a₀.toList->kindOf st=κ->Q (some (decide (KY x<KY y))) st->TQ J M A E (lt' x y) Q st
def Sub (a₀ xs:Array Keyed):Prop:=∀p,p∈xs.toList->p∈a₀.toList
theorem Sub.get {xs:Array Keyed}(h:Sub a₀ xs){i:Nat}(hi:i<xs.size):∃p,xs[i]?=some p/\p∈a₀.toList:=⟨xs[i],wK hi,h _ (by simp)⟩
theorem xy {xs:Array Keyed}{i:Nat}{p:Keyed}{Q:Keyed->SortSt->Prop}{st:SortSt}(e:xs[i]?=some p) (h:Q p st):TQ J M A E (elem' xs i) Q st:=by
 rw[elem'_eq,e];exact zw h
theorem zhg (L:HLt J M A E κ KY a₀){i j:Nat}{Q:Option Bool->SortSt->Prop}{st:SortSt}(F:Sub a₀ (arrOf st)) (I:kindOf st=κ) (hi:i<(arrOf st).size) (S:j<(arrOf st).size)
  (h:Q (some (decide (kx KY (arrOf st) i<kx KY (arrOf st) j))) st):TQ J M A E (ltAt' i j) Q st:=by
 obtain⟨p,e1,O⟩:=F.get hi
 obtain⟨q,e2,G⟩:=F.get S
 rw[zV e1,zV e2]at h
 rw[ltAt'_eq]
 exact zq (vU (zq (xy e1 (zq (xy e2 (L p q st Q O G I h))))))
def Up (KY:Keyed->Int) (xs:Array Keyed) (lo hi:Nat):Prop:=∀i j,lo<=i->i<=j->j<hi->kx KY xs i<=kx KY xs j
def Dn (KY:Keyed->Int) (xs:Array Keyed) (lo hi:Nat):Prop:=∀i j,lo<=i->i<=j->j<hi->kx KY xs j<=kx KY xs i
structure Ch (lo hi:Nat) (st st':SortSt):Prop where
 kind:kindOf st'=kindOf st
 pend:pendingOf st'=pendingOf st
 fail:failedOf st'=failedOf st
 perm:(arrOf st').Perm (arrOf st)
 out:∀i,i<lo\/hi<=i->(arrOf st')[i]?=(arrOf st)[i]?
theorem Ch.refl {lo hi:Nat}{st:SortSt}:Ch lo hi st st:=⟨rfl,rfl,rfl,.refl _,λ_ _=>rfl⟩
theorem Ch.trans {lo hi:Nat}{F G I:SortSt}(h:Ch lo hi F G) (g:Ch lo hi G I):Ch lo hi F I:=⟨g.kind.trans h.kind,g.pend.trans h.pend,g.fail.trans h.fail,g.perm.trans h.perm,λi o=>(g.out i o).trans (h.out i o)⟩
theorem JJ {st:SortSt}{i j lo hi:Nat}(h1:lo<=i) (h2:j<=hi) (F:j<=(arrOf st).size):Ch lo hi st (setArr st (mirror (arrOf st) i j ((j-i)/2))):=by
 refine⟨rL,rL,rL,mirror_perm _ _ _ _,λk o=>?_⟩
 show (mirror (arrOf st) i j ((j-i)/2))[k]?=_
 rw[getElem?_mirror_all F,if_neg ∅]
theorem zbv {xs:Array Keyed}{i j:Nat}(F:j<=xs.size) (k:Nat):kx KY (mirror xs i j ((j-i)/2)) k=if i<=k/\k<j then kx KY xs (i+j-1-k)else kx KY xs k:=by
 have e:=getElem?_mirror_all (i:=i) F k
 by_cases c:i<=k/\k<j
 ·rw[if_pos c]at e ⊢;exact xX e
 ·rw[if_neg c]at e ⊢;exact xX e
theorem Vc {xs:Array Keyed}{i j:Nat}(F:j<=xs.size) (z:Int) (h:∀k,i<=k->k<j->kx KY xs k=z) (k:Nat):kx KY (mirror xs i j ((j-i)/2)) k=kx KY xs k:=by
 rw[zbv F]
 split
 ·rename_i c;rw[h _ (by omega) (by omega),h _ c.1 c.2]
 ·rfl
theorem zao {i j:Nat}{Q:Unit->SortSt->Prop}{st:SortSt}(h:Q () (setArr st (mirror (arrOf st) i j ((j-i)/2)))):TQ J M A E (reverseSlice' i j) Q st:=by
 rw[reverseSlice'_eq];exact qC h
variable {J:Shared->Prop}{M:Model}{A:Around}{E:Value->Shared->Prop}{KY:Keyed->Int}{a₀:Array Keyed}{κ:SortKind}
structure Bs (a₀:Array Keyed) (κ:SortKind) (st:SortSt):Prop where
 perm:(arrOf st).Perm a₀
 kind:kindOf st=κ
 fail:failedOf st=none
theorem Bs.sub {st:SortSt}(h:Bs a₀ κ st):Sub a₀ (arrOf st):=λq m=>(Yk.mp h.perm).mem_iff.mp m
theorem Bs.size {st:SortSt}(h:Bs a₀ κ st):(arrOf st).size=a₀.size:=h.perm.size_eq
theorem Bs.ch {st F:SortSt}{lo hi:Nat}(h:Bs a₀ κ st) (c:Ch lo hi st F):Bs a₀ κ F:=⟨c.perm.trans h.perm,c.kind.trans h.kind,c.fail.trans h.fail⟩
theorem JA (L:HLt J M A E κ KY a₀){i j:Nat}{Q:Option Bool->SortSt->Prop}{st:SortSt}(B:Bs a₀ κ st) (hi:i<a₀.size) (F:j<a₀.size)
  (h1:kx KY (arrOf st) i<kx KY (arrOf st) j->Q (some true) st) (h2:¬kx KY (arrOf st) i<kx KY (arrOf st) j->Q (some false) st):TQ J M A E (ltAt' i j) Q st:=by
 refine zhg L B.sub B.kind (by rw[B.size];exact hi) (by rw[B.size];exact F) ?_
 by_cases c:kx KY (arrOf st) i<kx KY (arrOf st) j
 ·rw[wm c];exact h1 c
 ·rw[wy c];exact h2 c
theorem zce {α:Type}{c:Prop} [Decidable c] {m P:StateT SortSt Sem α}{Q:α->SortSt->Prop}{st:SortSt}(G:SortSt->Prop) (h1:∀F,G F->TQ J M A E P Q F)
  (h2:c->(∀F,G F->TQ J M A E P Q F)->TQ J M A E m Q st) (I:¬c->G st):TQ J M A E (if c then m else P) Q st:=by
 by_cases h:c
 ·rw[if_pos h];exact h2 h h1
 ·rw[if_neg h];exact h1 st (I h)
theorem zfQ {f:Nat->Option (Option Nat)×Nat->StateT SortSt Sem (ForInStep (Option (Option Nat)×Nat))}{lo a F:Nat}{st:SortSt}{Q:Option (Option Nat)×Nat->SortSt->Prop} (h1:1<=a) (V:a<=F)
  (S:∀x m R,a<=m->m<F->(kx KY (arrOf st) (lo+m)<kx KY (arrOf st) (lo+m-1)->R (.done (none,m)) st)->(¬kx KY (arrOf st) (lo+m)<kx KY (arrOf st) (lo+m-1)->R (.yield (none,m+1)) st)->TQ J M A E (f x (none,m)) R st)
  (W:Up KY (arrOf st) lo (lo+a)) (h:∀n,a<=n->n<=F->Up KY (arrOf st) lo (lo+n)->(n=F\/kx KY (arrOf st) (lo+n)<kx KY (arrOf st) (lo+n-1))->Q (none,n) st) :
  TQ J M A E (forIn [a:F] (none,a) f) Q st:=by
 refine xZ (I:=λx c G=>G=st/\c=(none,x)/\Up KY (arrOf st) lo (lo+x)) ?_ ?_ ⟨rL,rL,W⟩
 ·rintro x c G h1 h2 ⟨rfl,rfl,u⟩
  refine S x x _ h1 h2 (λz=>h x h1 ∅ u (.inr z)) (λz=>⟨rL,rL,λi j O U Y=>?_⟩)
  by_cases c:j<lo+x
  ·exact u i j O U c
  ·obtain rfl:j=lo+x:=by lia
   by_cases d:i=lo+x
   ·rw[d];exact uV _
   ·exact yv (u i (lo+x-1) O ∅ ∅) (We.mp z)
 ·rintro c G ⟨rfl,rfl,u⟩
  rw[show max a F=F by lia]at u ⊢
  exact h F V (wo _) u (.inl rL)
theorem zfR (L:HLt J M A E κ KY a₀){lo F:Nat}{Q:Option Nat->SortSt->Prop}{st:SortSt}(h1:1<=F) (hn:lo+F<=a₀.size) (B:Bs a₀ κ st)
  (h:∀m G,Ch lo (lo+F) st G->1<=m->m<=F->Up KY (arrOf G) lo (lo+m)->Q (some m) G):TQ J M A E (countRun' lo F) Q st:=by
 refine zq ?_
 nofun
 refine zfQ (lo:=lo) (KY:=KY) (wo 1) h1 (λx m R m1 m2 r1 r2=>?_) (λi j a b c=>?_) (λn n1 n2 u o=>?_)
 ·exact zq (JA L B ∅ ∅ (λz=>zw (r1 z)) (λz=>zw (r2 z)))
 ·rw[show i=j by lia];exact uV _
 nofun
 by_cases c:n=F
 ·rw[if_pos ↥c];exact zw (h n st .refl n1 n2 u)
 rw[if_neg ↥c]
 have lt:=o.resolve_left c
 have sz:=B.size
 refine zce (λa1=>Ch lo (lo+F) st a1/\(∀k,kx KY (arrOf a1) k=kx KY (arrOf st) k)/\∀k,lo<=k->k<lo+n->kx KY (arrOf st) k=kx KY (arrOf st) (lo+n-1)) ?_ ?_ ?_
 rotate_left
 ·intro c1 k
  refine zq (JA L B ∅ ∅ (λz=>zw (h n st .refl n1 n2 u)) (λz=>?_))
  have eq:∀k,lo<=k->k<lo+n->kx KY (arrOf st) k=kx KY (arrOf st) (lo+n-1):=λk k1 k2 =>
   Int.le_antisymm (u k _ k1 ∅ ∅) (yv (We.mp z) (u lo k (wo _) k1 k2))
  exact zq (zao (k _ ⟨JJ ∅ ∅ ∅,λj=>Vc ∅ _ eq j,eq⟩))
 ·intro c1
  exact⟨.refl,λ_=>rfl,λk k1 k2=>by rw[show k=lo+n-1 by lia]⟩
 rintro a1 ⟨C1,K1,eq⟩
 refine zq (Xi ?_)
 have d1:Dn KY (arrOf a1) lo (lo+(n+1)):=λi j U i2 i3=>by
  rw[K1,K1]
  by_cases cj:j<lo+n
  ·rw[eq i U ∅,eq j ∅ cj];exact uV _
  ·obtain rfl:j=lo+n:=by lia
   by_cases ci:i=lo+n
   ·rw[ci];exact uV _
   ·rw[eq i U ∅];exact yK lt
 refine zq (qa (xZ (I:=λx c G=>∃q,c=(none,x,q)/\Ch lo (lo+F) st G/\Dn KY (arrOf G) lo (lo+x)/\q+1<=x/\∀i,lo+x-(q+1)<=i->i<lo+x->kx KY (arrOf G) i=kx KY (arrOf G) (lo+x-1))
  (Q:=λc G=>∃x q,c=(none,x,q)/\n+1<=x/\x<=F/\Ch lo (lo+F) st G/\Dn KY (arrOf G) lo (lo+x)/\q+1<=x/\∀i,lo+x-(q+1)<=i->i<lo+x->kx KY (arrOf G) i=kx KY (arrOf G) (lo+x-1)) ?_ ?_ ⟨0,rfl,C1,d1,by lia,λi a b=>by rw[show i=lo+(n+1)-1 by lia]⟩) ?_)
 ·rintro x c S x1 x2 W;rcases q:W with⟨q,rfl,V,Y,q1,e2⟩
  have B2:=B.ch V
  have s2:=B2.size
  nofun
  refine zq (JA L B2 ∅ ∅ (λz=>?_) (λz=>?_))
  ·nofun
   rw[if_pos rfl]
   have dn:∀xs:Array Keyed,(∀k,kx KY xs k=kx KY (arrOf S) k)->Dn KY xs lo (lo+(x+1)):=λxs hk i j U i2 i3=>by
    rw[hk,hk]
    by_cases cj:j<lo+x
    ·exact Y i j U i2 cj
    ·obtain rfl:j=lo+x:=by lia
     by_cases ci:i=lo+x
     ·rw[ci];exact uV _
     ·exact yv (yK z) (Y i (lo+x-1) U ∅ ∅)
   by_cases cq:q>0
   ·rw[if_pos cq]
    refine zq (zao (zw ⟨0,rfl,V.trans (JJ ∅ ∅ ∅),dn _ λk=>Vc ∅ _ e2 k,by lia,λi a b=>by rw[show i=lo+(x+1)-1 by lia]⟩))
   ·rw[if_neg cq]
    exact zw ⟨0,rfl,V,dn _ λk=>rfl,by lia,λi a b=>by rw[show i=lo+(x+1)-1 by lia]⟩
  ·nofun
   rw[if_neg (by simp)]
   refine zq (JA L B2 ∅ ∅ (λz2=>?_) (λz2=>?_))
   ·exact zw ⟨x,q,rfl,x1,by lia,V,Y,q1,e2⟩
   ·have ex:kx KY (arrOf S) (lo+x)=kx KY (arrOf S) (lo+x-1):=Int.le_antisymm (We.mp z2) (We.mp z)
    refine zw ⟨q+1,rfl,V,λi j U i2 i3=>?_,by lia,λi a b=>?_⟩
    ·by_cases cj:j<lo+x
     ·exact Y i j U i2 cj
     ·obtain rfl:j=lo+x:=by lia
      by_cases ci:i=lo+x
      ·rw[ci];exact uV _
      ·rw[ex];exact Y i (lo+x-1) U ∅ ∅
    ·rw[show lo+(x+1)-1=lo+x by lia]
     by_cases ci:i=lo+x
     ·rw[ci]
     ·rw[ex];exact e2 i ∅ ∅
 ·rintro c S W;rcases q:W with⟨q,rfl,V,Y,q1,e2⟩
  rw[show max (n+1) F=F by lia]at *
  exact⟨F,q,rfl,by lia,wo _,V,Y,q1,e2⟩
 rintro c' S W;rcases q:W with⟨x,q,rfl,x1,x2,V,Y,q1,e2⟩
 nofun
 have s2:=(B.ch V).size
 refine zce (λO=>Ch lo (lo+F) st O/\Dn KY (arrOf O) lo (lo+x)) ?_ (λc k=>zq (zao (k _ ⟨V.trans (JJ ∅ ∅ ∅),λi j U i2 i3=>?_⟩))) (λc=>⟨V,Y⟩)
 rotate_left
 ·show kx KY (mirror _ _ _ _) j<=kx KY (mirror _ _ _ _) i
  rw[Vc ∅ _ e2,Vc ∅ _ e2];exact Y i j U i2 i3
 rintro O ⟨C3,d3⟩
 have s3:=(B.ch C3).size
 refine zq (zao ?_)
 have C4:Ch lo (lo+F) st (setArr O (mirror (arrOf O) lo (lo+x) ((lo+x-lo)/2))):=C3.trans (JJ ∅ ∅ ∅)
 have u4:Up KY (mirror (arrOf O) lo (lo+x) ((lo+x-lo)/2)) lo (lo+x):=λi j U i2 i3=>by
  rw[zbv ∅,zbv ∅,if_pos ∅,if_pos ∅]
  exact d3 _ _ ∅ ∅ ∅
 have B4:=B.ch C4
 generalize hs4:setArr O (mirror (arrOf O) lo (lo+x) ((lo+x-lo)/2))=st4 at C4 B4 ⊢
 have a2:Up KY (arrOf st4) lo (lo+x):=by rw[<-hs4];exact u4
 refine zq (zfQ (lo:=lo) (KY:=KY) ∅ x2 (λy m R m1 m2 r1 r2=>?_) a2 (λm m1 m2 u o=>?_))
 ·exact zq (JA L B4 ∅ ∅ (λz=>zw (r1 z)) (λz=>zw (r2 z)))
 ·exact zw (h m st4 C4 ∅ m2 u)
theorem zjB (L:HLt J M A E κ KY a₀){lo n ok:Nat}{Q:Bool->SortSt->Prop}{st:SortSt}(hn:lo+n<=a₀.size) (ho:ok<=n) (B:Bs a₀ κ st) (u:Up KY (arrOf st) lo (lo+ok))
  (h:∀F,Ch lo (lo+n) st F->Up KY (arrOf F) lo (lo+n)->Q true F):TQ J M A E (binarySort' lo n ok) Q st:=by
 refine zq ?_
 nofun
 refine qa (xZ (I:=λk c F=>c=(none,())/\Ch lo (lo+n) st F/\Up KY (arrOf F) lo (lo+min k n)) (Q:=λc F=>c=(none,())/\Ch lo (lo+n) st F/\Up KY (arrOf F) lo (lo+n)) ?_ ?_ ⟨rL,.refl,λi j i1 i2 i3=>?_⟩) ?_
 ·rintro k c G k1 k2 ⟨rfl,W,V⟩
  rw[show min k n=k by lia]at V
  have B1:=B.ch W
  have s1:=B1.size
  refine zq (qa (xZ (I:=λx c F=>F=G/\∃l r,c=(none,l,r)/\l<=r/\r<=k/\r-l<=k-x/\(∀i,i<l->kx KY (arrOf G) (lo+i)<=kx KY (arrOf G) (lo+k))/\∀i,r<=i->i<k->kx KY (arrOf G) (lo+k)<kx KY (arrOf G) (lo+i))
   (Q:=λc F=>F=G/\∃l r,c=(none,l,r)/\l<=k/\(∀i,i<l->kx KY (arrOf G) (lo+i)<=kx KY (arrOf G) (lo+k))/\∀i,l<=i->i<k->kx KY (arrOf G) (lo+k)<kx KY (arrOf G) (lo+i)) ?_ ?_ ⟨rfl,0,k,rfl,by lia,by lia,by lia,λi a=>by lia,λi a b=>by lia⟩) ?_)
  ·rintro x c F x1 x2 U;rcases q:U with⟨rfl,l,r,rfl,lr,rk,m,S,O⟩
   nofun
   by_cases g:l>=r
   ·rw[if_pos g];obtain rfl:l=r:=by lia
    exact zw ⟨rL,l,l,rL,rk,S,O⟩
   ·rw[if_neg g]
    refine zq (JA L B1 ∅ ∅ (λz=>?_) (λz=>?_))
    ·exact zw ⟨rfl,l,(l+r)/2,rfl,by lia,by lia,by lia,S,λi a b=>Int.lt_of_lt_of_le z (V _ _ ∅ ∅ ∅)⟩
    ·exact zw ⟨rfl,(l+r)/2+1,r,rfl,by lia,by lia,by lia,λi a=>yv (V _ (lo+(l+r)/2) ∅ ∅ ∅) (We.mp z),O⟩
  ·rintro c F U;rcases q:U with⟨rfl,l,r,rfl,lr,rk,m,S,O⟩
   obtain rfl:l=r:=by lia
   exact⟨rL,l,l,rL,rk,S,O⟩
  ·rintro c F U;rcases q:U with⟨rfl,l,r,rfl,lk,S,O⟩
   nofun
   refine zq ?_
   show TQ J M A E (moveDown' _ _) _ _
   rw[moveDown'_eq]
   refine qC (zw ?_)
   have hs:lo+k<(arrOf F).size:=by lia
   have eb:=getElem?_bubble (xs:=arrOf F) hs (lo+k-(lo+l)) ∅
   refine⟨rL,W.trans ⟨rL,rL,rL,bubble_perm _ _ _,λi o=>?_⟩,?_⟩
   ·show (bubble (arrOf F) (lo+k) (lo+k-(lo+l)))[i]?=_
    rw[eb,if_neg ∅,if_neg ∅]
   ·rw[show min (k+1) n=k+1 by lia]
    intro i j i1 i2 i3
    show kx KY (bubble (arrOf F) (lo+k) (lo+k-(lo+l))) i<=kx KY (bubble (arrOf F) (lo+k) (lo+k-(lo+l))) j
    have kb:∀q,kx KY (bubble (arrOf F) (lo+k) (lo+k-(lo+l))) q=if q=lo+l then kx KY (arrOf F) (lo+k)else if lo+l<q/\q<=lo+k then kx KY (arrOf F) (q-1)else kx KY (arrOf F) q:=λq=>by
     have e:=eb q
     rw[show lo+k-(lo+k-(lo+l))=lo+l by lia]at e
     by_cases c1:q=lo+l
     ·rw[if_pos c1]at e ⊢;exact xX e
     ·rw[if_neg c1]at e ⊢
      by_cases c2:lo+l<q/\q<=lo+k
      ·rw[if_pos c2]at e ⊢;exact xX e
      ·rw[if_neg c2]at e ⊢;exact xX e
    have a1:∀q,lo<=q->q<lo+l->kx KY (arrOf F) q<=kx KY (arrOf F) (lo+k):=λq a b=>by have:=S (q-lo) ∅;rwa [show lo+(q-lo)=q by lia]at this
    have Y:∀q,lo+l<=q->q<lo+k->kx KY (arrOf F) (lo+k)<=kx KY (arrOf F) q:=λq a b=>by have:=O (q-lo) ∅ ∅;rw[show lo+(q-lo)=q by lia]at this;exact yK this
    rw[kb,kb]
    repeat' split
    all_goals first
     | (exfalso;lia)
     |exact uV _
     |exact a1 _ ∅ ∅
     |exact Y _ ∅ ∅
     |exact V _ _ ∅ ∅ ∅
 ·rintro c G ⟨rfl,W,V⟩
  rw[show min (max (max ok 1) n) n=n by lia]at V
  exact⟨rL,W,V⟩
 ·by_cases c:ok=0
  ·rw[show i=j by lia];exact uV _
  ·exact u i j i1 i2 ∅
 ·rintro c G ⟨rfl,W,V⟩
  exact zw (h G W V)
variable {J:Shared->Prop}{M:Model}{A:Around}{E:Value->Shared->Prop}{KY:Keyed->Int}{a₀:Array Keyed}{κ:SortKind}
def gall:Bool->Keyed->Array Keyed->Nat->Nat->Nat->StateT SortSt Sem (Option Nat):=sortPriv% PySem.Builtin.gallop
def bey (KY:Keyed->Int) (left:Bool) (key:Keyed) (xs:Array Keyed) (b i:Nat):Bool:=if left=true then decide (kx KY xs (b+i)<KY key)else !decide (KY key<kx KY xs (b+i))
theorem ZM {left:Bool}{key:Keyed}{xs:Array Keyed}{b n i j:Nat}(u:Up KY xs b (b+n)) (F:i<=j) (G:j<n) (h:bey KY left key xs b j=true):bey KY left key xs b i=true:=by
 have z:=u (b+i) (b+j) ∅ ∅ ∅
 unfold bey at h ⊢
 cases left with
 |true=>rw[if_pos rfl]at h ⊢;exact wm (Int.lt_of_le_of_lt z (wA h))
 |false =>
  rw[if_neg (by simp)]at h ⊢
  simp only[Bool.not_eq_true',decide_eq_false_iff_not,We]at h ⊢
  exact yv z h
theorem Xh (L:HLt J M A E κ KY a₀){left:Bool}{key:Keyed}{xs:Array Keyed}{b n F:Nat}{Q:Option Nat->SortSt->Prop}{st:SortSt}(hk:kindOf st=κ) (hS:Sub a₀ xs) (a1:key∈a₀.toList) (hb:b+n<=xs.size) (hh:F<n)
  (u:Up KY xs b (b+n)) (h:∀k,k<=n->(∀i,i<k->bey KY left key xs b i=true)->(∀i,k<=i->i<n->bey KY left key xs b i=false)->Q (some k) st):TQ J M A E (gall left key xs b n F) Q st:=by
 have up:∀{i j:Nat},i<=j->j<n->bey KY left key xs b i=false->bey KY left key xs b j=false:=λ{i j} a2 hj hf=>by
  cases c:bey KY left key xs b j with
  |false=>rfl
  |true=>rw[ZM u a2 hj c]at hf;cases hf
 have look:∀{α:Type}(i:Nat) (k:Option Bool->StateT SortSt Sem α) (R:α->SortSt->Prop),i<n->(bey KY left key xs b i=true->TQ J M A E (k (some true)) R st)->(bey KY left key xs b i=false->TQ J M A E (k (some false)) R st) →
   TQ J M A E ((do let x <-elem' xs (b+i);if left=true then lt' x key else do return (<-lt' key x).map (!·)) >>= k) R st:=λ{α} i k R hi h1 h2=>by
  obtain⟨p,e,m⟩:=hS.get (show b+i<xs.size by lia)
  have kp:=zV (KY:=KY) e
  refine zq (zq (xy e ?_))
  cases S:left with
  |true =>
   rw[if_pos rfl]
   refine L p key st _ m a1 hk ?_
   by_cases c:KY p<KY key
   ·rw[wm c];exact h1 (by unfold bey;rw[if_pos S,kp];exact wm c)
   ·rw[wy c];exact h2 (by unfold bey;rw[if_pos S,kp];exact wy c)
  |false =>
   rw[if_neg (by simp)]
   refine zq (L key p st _ a1 m hk ?_)
   have nl:¬left=true:=by rw[S];simp
   by_cases c:KY key<KY p
   ·rw[wm c];exact zw (h2 (by unfold bey;rw[if_neg nl,kp,wm c];rfl))
   ·rw[wy c];exact zw (h1 (by unfold bey;rw[if_neg nl,kp,wy c];rfl))
 refine(?_:TQ J M A E (_ >>= _) Q st)
 refine look F _ Q hh (λz=>?_) (λz=>?_)
 ·nofun
  rw[if_pos rfl]
  refine zq (qa (xZ (I:=λx c O=>O=st/\∃l o,c=(none,l,o)/\l<o/\x+1<=o/\F+l<n/\bey KY left key xs b (F+l)=true)
   (Q:=λc O=>O=st/\∃l o,c=(none,l,o)/\l<o/\F+l<n/\bey KY left key xs b (F+l)=true/\(n-F<=o\/F+o<n/\bey KY left key xs b (F+o)=false)) ?_ ?_ ⟨rfl,0,1,rfl,by lia,by lia,by lia,z⟩) ?_)
  ·rintro x c O x1 x2 G;rcases q:G with⟨rfl,l,o,rfl,lo,xo,S,Y⟩
   nofun
   by_cases g:o>=n-F
   ·rw[if_pos g];exact zw ⟨rfl,l,o,rfl,lo,S,Y,.inl g⟩
   ·rw[if_neg g]
    refine look (F+o) _ _ ∅ (λU=>?_) (λU=>?_)
    ·exact zw ⟨rfl,o,2*o+1,rfl,by lia,by lia,by lia,U⟩
    ·exact zw ⟨rfl,l,o,rfl,lo,S,Y,.inr ⟨by lia,U⟩⟩
  ·rintro c O G;rcases q:G with⟨rfl,l,o,rfl,lo,xo,S,Y⟩
   exact⟨rL,l,o,rL,lo,S,Y,.inl ∅⟩
  ·rintro c O G;rcases q:G with⟨rfl,l,o,rfl,lo,S,Y,hf⟩
   nofun
   have b1:∀i,i<F+l+1->bey KY left key xs b i=true:=λi hi=>ZM u (show i<=F+l by lia) S Y
   have b2:∀i,F+min o (n-F)<=i->i<n->bey KY left key xs b i=false:=λi h1 h2=>by
    rcases hf with hf | ⟨h3,h4⟩
    ·lia
    ·exact up ∅ h2 h4
   have b3:F+l+1<=F+min o (n-F):=by lia
   have b4:F+min o (n-F)<=n:=by lia
   generalize F+l+1=p at b1 b3
   generalize F+min o (n-F)=q at b2 b3 b4
   refine zq (qa (xZ (I:=λx c s'=>s'=O/\∃l r,c=(none,l,r)/\l<=r/\r<=n/\r-l<=n-x/\(∀i,i<l->bey KY left key xs b i=true)/\∀i,r<=i->i<n->bey KY left key xs b i=false)
    (Q:=λc s'=>s'=O/\∃l,c=(none,l,l)/\l<=n/\(∀i,i<l->bey KY left key xs b i=true)/\∀i,l<=i->i<n->bey KY left key xs b i=false) ?_ ?_ ⟨rfl,p,q,rfl,b3,b4,by lia,b1,b2⟩) ?_)
   ·rintro x c s' x1 x2 G;rcases q:G with⟨rfl,l,r,rfl,lr,rn,m,V,W⟩
    nofun
    by_cases g:l>=r
    ·rw[if_pos g];obtain rfl:l=r:=by lia
     exact zw ⟨rL,l,rL,rn,V,W⟩
    ·rw[if_neg g]
     refine look (l+(r-l)/2) _ _ ∅ (λU=>?_) (λU=>?_)
     ·exact zw ⟨rfl,l+(r-l)/2+1,r,rfl,by lia,by lia,by lia,λi hi=>ZM u (show i<=l+(r-l)/2 by lia) ∅ U,W⟩
     ·exact zw ⟨rfl,l,l+(r-l)/2,rfl,by lia,by lia,by lia,V,λi h1 h2=>up h1 h2 U⟩
   ·rintro c s' G;rcases q:G with⟨rfl,l,r,rfl,lr,rn,m,V,W⟩
    obtain rfl:l=r:=by lia
    exact⟨rL,l,rL,rn,V,W⟩
   ·rintro c s' G;rcases q:G with⟨rfl,l,rfl,ln,V,W⟩
    exact zw (h l ln V W)
 ·nofun
  rw[if_neg (by simp)]
  refine zq (qa (xZ (I:=λx c O=>O=st/\∃l o,c=(none,l,o)/\l<o/\x+1<=o/\l<=F/\bey KY left key xs b (F-l)=false)
   (Q:=λc O=>O=st/\∃l o,c=(none,l,o)/\l<o/\l<=F/\bey KY left key xs b (F-l)=false/\(F+1<=o\/o<=F/\bey KY left key xs b (F-o)=true)) ?_ ?_ ⟨rfl,0,1,rfl,by lia,by lia,by lia,z⟩) ?_)
  ·rintro x c O x1 x2 G;rcases q:G with⟨rfl,l,o,rfl,lo,xo,S,Y⟩
   nofun
   by_cases g:o>=F+1
   ·rw[if_pos g];exact zw ⟨rfl,l,o,rfl,lo,S,Y,.inl g⟩
   ·rw[if_neg g]
    refine look (F-o) _ _ ∅ (λU=>?_) (λU=>?_)
    ·exact zw ⟨rfl,l,o,rfl,lo,S,Y,.inr ⟨by lia,U⟩⟩
    ·exact zw ⟨rfl,o,2*o+1,rfl,by lia,by lia,by lia,U⟩
  ·rintro c O G;rcases q:G with⟨rfl,l,o,rfl,lo,xo,S,Y⟩
   exact⟨rL,l,o,rL,lo,S,Y,.inl ∅⟩
  ·rintro c O G;rcases q:G with⟨rfl,l,o,rfl,lo,S,Y,hf⟩
   nofun
   have b1:∀i,i<F+1-min o (F+1)->bey KY left key xs b i=true:=λi hi=>by
    rcases hf with hf | ⟨h3,h4⟩
    ·lia
    ·exact ZM u (show i<=F-o by lia) ∅ h4
   have b2:∀i,F-l<=i->i<n->bey KY left key xs b i=false:=λi h1 h2=>up h1 h2 Y
   have b3:F+1-min o (F+1)<=F-l:=by
    rcases hf with hf | ⟨h3,h4⟩ <;> lia
   have b4:F-l<=n:=by lia
   generalize F+1-min o (F+1)=p at b1 b3
   generalize F-l=q at b2 b3 b4
   refine zq (qa (xZ (I:=λx c s'=>s'=O/\∃l r,c=(none,l,r)/\l<=r/\r<=n/\r-l<=n-x/\(∀i,i<l->bey KY left key xs b i=true)/\∀i,r<=i->i<n->bey KY left key xs b i=false)
    (Q:=λc s'=>s'=O/\∃l,c=(none,l,l)/\l<=n/\(∀i,i<l->bey KY left key xs b i=true)/\∀i,l<=i->i<n->bey KY left key xs b i=false) ?_ ?_ ⟨rfl,p,q,rfl,b3,b4,by lia,b1,b2⟩) ?_)
   ·rintro x c s' x1 x2 G;rcases q:G with⟨rfl,l,r,rfl,lr,rn,m,V,W⟩
    nofun
    by_cases g:l>=r
    ·rw[if_pos g];obtain rfl:l=r:=by lia
     exact zw ⟨rL,l,rL,rn,V,W⟩
    ·rw[if_neg g]
     refine look (l+(r-l)/2) _ _ ∅ (λU=>?_) (λU=>?_)
     ·exact zw ⟨rfl,l+(r-l)/2+1,r,rfl,by lia,by lia,by lia,λi hi=>ZM u (show i<=l+(r-l)/2 by lia) ∅ U,W⟩
     ·exact zw ⟨rfl,l,l+(r-l)/2,rfl,by lia,by lia,by lia,V,λi h1 h2=>up h1 h2 U⟩
   ·rintro c s' G;rcases q:G with⟨rfl,l,r,rfl,lr,rn,m,V,W⟩
    obtain rfl:l=r:=by lia
    exact⟨rL,l,rL,rn,V,W⟩
   ·rintro c s' G;rcases q:G with⟨rfl,l,rfl,ln,V,W⟩
    exact zw (h l ln V W)
variable {J:Shared->Prop}{M:Model}{A:Around}{E:Value->Shared->Prop}{KY:Keyed->Int}{a₀:Array Keyed}{κ:SortKind}
structure Mg (KY:Keyed->Int) (a b out:Array Keyed) (ia ib:Nat):Prop where
 pm:(out.toList++(a.toList.drop ia++b.toList.drop ib)).Perm (a.toList++b.toList)
 so:out.toList.Pairwise λx y=>KY x<=KY y
 ca:∀x,x∈out.toList->∀i,ia<=i->i<a.size->KY x<=kx KY a i
 cb:∀x,x∈out.toList->∀j,ib<=j->j<b.size->KY x<=kx KY b j
structure Res (KY:Keyed->Int) (a b out:Array Keyed):Prop where
 pm:out.toList.Perm (a.toList++b.toList)
 so:out.toList.Pairwise λx y=>KY x<=KY y
theorem vM {xs:Array Keyed}{i k:Nat}{p:Keyed}(h:p∈(xs.extract i (i+k)).toList):∃n,i<=n/\n<i+k/\n<xs.size/\xs[n]?=some p:=by
 obtain⟨j,F⟩:=Wm.mp h
 rw[wO,Wg]at F
 split at F
 ·have:=(wX.mp F).1
  exact⟨i+j,by omega,by omega,this,F⟩
 ·cases F
theorem Xc {xs:Array Keyed}{i k:Nat}:(xs.extract i (i+k)).toList=(xs.toList.drop i).take k:=by
 rw[Array.toList_extract,Yy,show i+k-i=k by lia]
theorem Z9 {xs:Array Keyed}{i k:Nat}:xs.toList.drop i=(xs.extract i (i+k)).toList++xs.toList.drop (i+k):=by
 rw[Xc,<-List.drop_drop,uA]
theorem J3 {xs:Array Keyed}{i k:Nat}(u:Up KY xs 0 xs.size):(xs.extract i (i+k)).toList.Pairwise λx y=>KY x<=KY y:=by
 rw[uW]
 intro p q F I G
 have e1:(xs.extract i (i+k))[p]?=some ((xs.extract i (i+k)).toList[p]):=by rw[<-wO];exact wJ F
 have e2:(xs.extract i (i+k))[q]?=some ((xs.extract i (i+k)).toList[q]):=by rw[<-wO];exact wJ I
 rw[Wg]at e1 e2
 split at e1
 ·split at e2
  ·rw[<-zV (KY:=KY) e1,<-zV (KY:=KY) e2]
   have:=(wX.mp e2).1
   exact u _ _ (yb _) ∅ this
  ·cases e2
 ·cases e1
theorem Qi {l r:List Keyed}(h1:l.Pairwise λx y=>KY x<=KY y) (h2:r.Pairwise λx y=>KY x<=KY y) (F:∀x,x∈l->∀y,y∈r->KY x<=KY y):(l++r).Pairwise λx y=>KY x<=KY y :=
 List.pairwise_append.mpr ⟨h1,h2,F⟩
section
variable {a b out:Array Keyed}{ia ib:Nat}
theorem Mg.left (h:Mg KY a b out ia ib) (O:Up KY a 0 a.size){k:Nat}(V:∀i j,ia<=i->i<ia+k->i<a.size->ib<=j->j<b.size->kx KY a i<=kx KY b j):Mg KY a b (out++a.extract ia (ia+k)) (ia+k) ib:=by
 refine⟨?_,?_,λx m i h1 h2=>?_,λx m j h1 h2=>?_⟩
 ·have:=h.pm
  rw[Z9 (xs:=a) (i:=ia) (k:=k)]at this
  rw[yC]
  simpa [ym]using this
 ·rw[yC]
  refine Qi h.so (J3 O) λx S y U=>?_
  obtain⟨n,F,I,G,e⟩:=vM U
  rw[<-zV (KY:=KY) e];exact h.ca x S n F G
 ·rw[yC]at m
  rcases wY.mp m with m | m
  ·exact h.ca x m i ∅ h2
  ·obtain⟨n,F,I,G,e⟩:=vM m
   rw[<-zV (KY:=KY) e];exact O n i (yb _) ∅ h2
 ·rw[yC]at m
  rcases wY.mp m with m | m
  ·exact h.cb x m j h1 h2
  ·obtain⟨n,F,I,G,e⟩:=vM m
   rw[<-zV (KY:=KY) e];exact V n j F I G h1 h2
theorem Mg.right (h:Mg KY a b out ia ib) (O:Up KY b 0 b.size){k:Nat}(V:∀i j,ib<=j->j<ib+k->j<b.size->ia<=i->i<a.size->kx KY b j<=kx KY a i):Mg KY a b (out++b.extract ib (ib+k)) ia (ib+k):=by
 refine⟨?_,?_,λx m i h1 h2=>?_,λx m j h1 h2=>?_⟩
 ·have:=h.pm
  rw[Z9 (xs:=b) (i:=ib) (k:=k)]at this
  rw[yC]
  refine List.Perm.trans ?_ this
  rw[ym]
  refine List.Perm.append_left _ ?_
  rw[<-ym,<-ym]
  exact List.Perm.append_right _ Wn
 ·rw[yC]
  refine Qi h.so (J3 O) λx S y U=>?_
  obtain⟨n,F,I,G,e⟩:=vM U
  rw[<-zV (KY:=KY) e];exact h.cb x S n F G
 ·rw[yC]at m
  rcases wY.mp m with m | m
  ·exact h.ca x m i h1 h2
  ·obtain⟨n,F,I,G,e⟩:=vM m
   rw[<-zV (KY:=KY) e];exact V i n F I G h1 h2
 ·rw[yC]at m
  rcases wY.mp m with m | m
  ·exact h.cb x m j ∅ h2
  ·obtain⟨n,F,I,G,e⟩:=vM m
   rw[<-zV (KY:=KY) e];exact O n j (yb _) ∅ h2
theorem VA {xs:Array Keyed}{i:Nat}{p:Keyed}(e:xs[i]?=some p):xs.extract i (i+1) = #[p]:=by
 apply Array.ext_getElem?
 intro j
 rw[Wg]
 have:=(wX.mp e).1
 match j with
 |0=>rw[if_pos ∅];simpa using e
 |j+1=>rw[if_neg ∅];simp
theorem Mg.pushL (h:Mg KY a b out ia ib) (F:Up KY a 0 a.size){p:Keyed}(e:a[ia]?=some p) (I:∀j,ib<=j->j<b.size->kx KY a ia<=kx KY b j):Mg KY a b (out.push p) (ia+1) ib:=by
 have:=h.left F (k:=1) λi j h1 h2 S O G=>by rw[show i=ia by lia];exact I j O G
 rw[VA e]at this;exact this
theorem Mg.pushR (h:Mg KY a b out ia ib) (G:Up KY b 0 b.size){p:Keyed}(e:b[ib]?=some p) (I:∀i,ia<=i->i<a.size->kx KY b ib<=kx KY a i):Mg KY a b (out.push p) ia (ib+1):=by
 have:=h.right G (k:=1) λi j h1 h2 S O F=>by rw[show j=ib by lia];exact I i O F
 rw[VA e]at this;exact this
theorem Mg.all (h:Mg KY a b out ia ib) (F:a.size<=ia) (G:b.size<=ib):Res KY a b out:=by
 have:=h.pm
 rw[List.drop_eq_nil_of_le ↥F,List.drop_eq_nil_of_le ↥G,yP,yP]at this
 exact⟨this,h.so⟩
theorem Xf {xs:Array Keyed}{i:Nat}(h:i<=xs.size):xs.extract i xs.size=xs.extract i (i+(xs.size-i)):=by rw[show i+(xs.size-i)=xs.size by lia]
theorem Mg.done (h:Mg KY a b out ia ib) (F:Up KY a 0 a.size) (O:Up KY b 0 b.size) (U:ia<=a.size) (I:ib<=b.size) (e:ia=a.size\/ib=b.size):Res KY a b (out++a.extract ia a.size++b.extract ib b.size):=by
 rw[Xf U,Xf I]
 exact((h.left F (k:=a.size-ia) λi j h1 h2 S V G=>by lia).right O (k:=b.size-ib) λi j h1 h2 S V G=>by lia).all ∅ ∅
theorem Mg.last (h:Mg KY a b out ia ib) (G:Up KY a 0 a.size) (S:Up KY b 0 b.size) (O:ib<=b.size) (e:ia+1=a.size) (U:∀j,j<b.size->kx KY b j<=kx KY a (a.size-1)):Res KY a b (out++b.extract ib b.size++a.extract ia a.size):=by
 rw[Xf (show ia<=a.size by lia),Xf O]
 exact((h.right S (k:=b.size-ib) λi j h1 h2 F V I=>by rw[show i=a.size-1 by lia];exact U j F).left G (k:=a.size-ia) λi j h1 h2 F V I=>by lia).all ∅ ∅
end
structure Gs (st st':SortSt):Prop where
 kind:kindOf st'=kindOf st
 arr:arrOf st'=arrOf st
 pend:pendingOf st'=pendingOf st
 fail:failedOf st'=failedOf st
theorem Gs.refl {st:SortSt}:Gs st st:=⟨rfl,rfl,rfl,rfl⟩
theorem Gs.trans {F G I:SortSt}(h:Gs F G) (g:Gs G I):Gs F I:=⟨g.kind.trans h.kind,g.arr.trans h.arr,g.pend.trans h.pend,g.fail.trans h.fail⟩
def mlo:Array Keyed->Array Keyed->StateT SortSt Sem (Array Keyed):=sortPriv% PySem.Builtin.mergeLo
theorem zcM (L:HLt J M A E κ KY a₀){x y:Keyed}{Q:Option Bool->SortSt->Prop}{st:SortSt}(F:kindOf st=κ) (G:x∈a₀.toList) (I:y∈a₀.toList) (h1:KY x<KY y->Q (some true) st) (h2:¬KY x<KY y->Q (some false) st):TQ J M A E (lt' x y) Q st:=by
 refine L x y st Q G I F ?_
 by_cases c:KY x<KY y
 ·rw[wm c];exact h1 c
 ·rw[wy c];exact h2 c
def pace:Nat->StateT SortSt Sem Unit:=sortPriv% PySem.Builtin.setMinGallop
theorem zcN {n:Nat}{Q:Unit->SortSt->Prop}{st:SortSt}(h:∀F,Gs st F->Q () F):TQ J M A E (pace n) Q st:=by
 refine(?_:TQ J M A E (modify _) Q st)
 exact qC (h _ ⟨rL,rL,rL,rL⟩)
theorem VZ {key:Keyed}{xs:Array Keyed}{b i:Nat}:bey KY true key xs b i=decide (kx KY xs (b+i)<KY key):=rfl
theorem VY {key:Keyed}{xs:Array Keyed}{b i:Nat}:bey KY false key xs b i = !decide (KY key<kx KY xs (b+i)):=rfl
set_option maxHeartbeats 16000000 in
theorem zjD (L:HLt J M A E κ KY a₀){a b:Array Keyed}{Q:Array Keyed->SortSt->Prop}{st:SortSt}(hk:kindOf st=κ) (Sa:Sub a₀ a) (Sb:Sub a₀ b) (ha:1<=a.size) (hb:1<=b.size) (Y:Up KY a 0 a.size) (V:Up KY b 0 b.size)
  (h0:kx KY b 0<=kx KY a 0) (hl:∀j,j<b.size->kx KY b j<=kx KY a (a.size-1)) (h:∀out F,Res KY a b out->Gs st F->Q out F):TQ J M A E (mlo a b) Q st:=by
 refine zq (Xi ?_)
 nofun
 obtain⟨b0,a6,_⟩:=Sb.get hb
 refine zq (xy a6 ?_)
 have m0:Mg KY a b #[b0] 0 1:=by
  have:Mg KY a b #[] 0 0:=⟨by simp,by simp,λx m=>by simp at m,λx m=>by simp at m⟩
  have:=this.pushR V a6 λi h1 h2=>yv h0 (Y 0 i (wo _) h1 h2)
  simpa using this
 by_cases c1:1=b.size
 ·rw[if_pos ↥c1];exact zw (h _ _ (m0.done Y V ∅ ∅ (.inr c1)) .refl)
 rw[if_neg ↥c1]
 by_cases c2:0+1=a.size
 ·rw[if_pos ↥c2];exact zw (h _ _ (m0.last Y V ∅ c2 hl) .refl)
 rw[if_neg ↥c2]
 refine zq (vU ?_)
 refine zq (qa (xZ (I:=λx c F=>∃out ia ib g,c=(none,out,ia,ib,g)/\Mg KY a b out ia ib/\ia+1<a.size/\ib<b.size/\1+x<=ia+ib/\Gs st F)
  (Q:=λc F=>∃r,c.1=some r/\Res KY a b r/\Gs st F) ?_ ?_ ⟨_,0,1,_,rfl,m0,by lia,by lia,by lia,.refl⟩) ?_)
 rotate_left
 ·rintro c F ⟨out,ia,ib,g,rfl,m,i1,i2,i3,_⟩;lia
 ·rintro ⟨c,c'⟩ F ⟨r,e,R,G⟩
  subst e
  exact zw (h r F R G)
 rintro x c a5-hx U;rcases q:U with⟨out,ia,ib,g,rfl,m,i1,i2,i3,G1⟩
 nofun
 refine zq (qa (xZ (I:=λx c F=>F=a5/\∃out S W ac bc,c=(none,out,S,W,ac,bc)/\Mg KY a b out S W/\S+1<a.size/\W<b.size/\ia+ib<=S+W)
  (Q:=λc F=>F=a5/\((∃r,c.1=some r/\Res KY a b r)\/∃out S W ac bc,c=(none,out,S,W,ac,bc)/\Mg KY a b out S W/\S+1<a.size/\W<b.size/\ia+ib<=S+W)) ?_ ?_ ⟨rfl,out,ia,ib,0,0,rfl,m,i1,i2,wo _⟩) ?_)
 ·rintro y c a4-hy U;rcases q:U with⟨rfl,o,S,W,ac,bc,rfl,m2,j1,j2,j3⟩
  nofun
  obtain⟨p,ep,mp⟩:=Sb.get j2
  obtain⟨q,eq,mq⟩:=Sa.get (show S<a.size by lia)
  have kp:=zV (KY:=KY) ep
  have kq:=zV (KY:=KY) eq
  refine zq (xy ep (zq (xy eq (zq (zcM L (G1.kind.trans hk) mp mq (λz=>?_) (λz=>?_))))))
  ·nofun
   rw[if_pos rfl]
   refine zq (xy ep ?_)
   have m3:=m2.pushR V ep λi h1 h2=>by rw[kp];exact yv (yK z) (by rw[<-kq];exact Y S i (yb _) h1 h2)
   by_cases d:W+1=b.size
   ·rw[if_pos ↥d];exact zw ⟨rfl,.inl ⟨_,rfl,m3.done Y V ∅ ∅ (.inr d)⟩⟩
   rw[if_neg ↥d]
   split
   ·exact zw ⟨rfl,.inr ⟨_,_,_,_,_,rfl,m3,j1,by lia,by lia⟩⟩
   ·exact zw ⟨rfl,_,_,_,_,_,rfl,m3,j1,by lia,by lia⟩
  ·nofun
   rw[if_neg (by simp)]
   refine zq (xy eq ?_)
   have m3:=m2.pushL Y eq λj h1 h2=>by rw[kq];exact yv (We.mp z) (by rw[<-kp];exact V W j (yb _) h1 h2)
   by_cases d:S+1+1=a.size
   ·rw[if_pos ↥d];exact zw ⟨rfl,.inl ⟨_,rfl,m3.last Y V ∅ d hl⟩⟩
   rw[if_neg ↥d]
   split
   ·exact zw ⟨rfl,.inr ⟨_,_,_,_,_,rfl,m3,by lia,j2,by lia⟩⟩
   ·exact zw ⟨rfl,_,_,_,_,_,rfl,m3,by lia,j2,by lia⟩
 ·rintro c a4 U;rcases q:U with⟨rfl,o,S,W,ac,bc,rfl,m2,j1,j2,j3⟩
  exact⟨rL,.inr ⟨o,S,W,ac,bc,rL,m2,j1,j2,j3⟩⟩
 rintro c a4 ⟨rfl,⟨r,e,R⟩ | ⟨o,S,W,ac,bc,rfl,m2,j1,j2,j3⟩⟩
 ·obtain⟨c,c'⟩:=c
  cases e
  exact zw ⟨r,rL,R,G1⟩
 nofun
 refine zq (Xi ?_)
 refine zq (qa (xZ (I:=λx c F=>Gs st F/\∃out O kb g ac bc,c=(none,out,O,kb,g,ac,bc)/\Mg KY a b out O kb/\O+1<a.size/\kb<b.size/\ia+ib+min x 1<=O+kb)
  (Q:=λc F=>Gs st F/\((∃r,c.1=some r/\Res KY a b r)\/∃out O kb g ac bc,c=(none,out,O,kb,g,ac,bc)/\Mg KY a b out O kb/\O+1<a.size/\kb<b.size/\ia+ib+1<=O+kb)) ?_ ?_ ⟨G1,o,S,W,_,ac,bc,rfl,m2,j1,j2,by lia⟩) ?_)
 rotate_left
 ·rintro c a1 U;rcases q:U with⟨G3,o,O,kb,g,ac,bc,rfl,m3,k1,k2,k3⟩
  exact⟨G3,.inr ⟨o,O,kb,g,ac,bc,rfl,m3,k1,k2,by lia⟩⟩
 ·rintro c a1 ⟨G3,⟨r,e,R⟩ | ⟨o,O,kb,g,ac,bc,rfl,m3,k1,k2,k3⟩⟩
  ·obtain⟨c,c'⟩:=c
   cases e
   exact zw ⟨r,rL,R,G3⟩
  ·nofun
   exact zq (qC (zw ⟨o,O,kb,_,rfl,m3,k1,k2,by lia,G3.trans ⟨rfl,rfl,rfl,rfl⟩⟩))
 rintro y c a1-hy U;rcases q:U with⟨G3,o,O,kb,g,ac,bc,rfl,m3,k1,k2,k3⟩
 nofun
 obtain⟨p,ep,mp⟩:=Sb.get k2
 have kp:=zV (KY:=KY) ep
 generalize g-1=g1
 revert g1
 refine zfS (g:=g) rL λg=>?_
 all_goals
  refine zq (zcN λa9 G4=>zq (xy ep ?_))
  replace G4:=G3.trans G4
  clear G3 a1
  refine zq (Xh L (KY:=KY) (G4.kind.trans hk) Sa mp ∅ ∅ (λi j h1 h2 h3=>Y i j (yb _) h2 ∅) (λk kn kt kf=>?_))
  nofun
  have a7:∀i,O<=i->i<O+k->kx KY a i<=KY p:=λi h1 h2=>by
   have:=kt (i-O) ∅
   rw[VY,show O+(i-O)=i by lia]at this
   simpa using this
  have a2:∀i,O+k<=i->i<a.size->KY p<=kx KY a i:=λi h1 h2=>by
   have:=kf (i-O) ∅ ∅
   rw[VY,show O+(i-O)=i by lia]at this
   have:KY p<kx KY a i:=↥this
   exact yK this
  have m4:=m3.left Y (k:=k) λi j h1 h2 h3 h4 h5=>yv (a7 i h1 h2) (by rw[<-kp];exact V kb j (yb _) h4 h5)
  rcases uC k with k0 | k0
 all_goals first
  | (rw[if_neg (show ¬k>0 by lia)]
     have e0:o++a.extract O (O+k)=o:=by subst k0;apply Wc.mp;rw[yC,Xc,Wz,yP]
     rw[e0]at m4
     have i1:O+k+1<a.size:=by lia
     rw[show O+k=O by lia]at m4 i1 a2
     generalize hia:O=S at *
     generalize hoo:o=oo at *)
  | (rw[if_pos k0]
     by_cases d1:O+k+1=a.size
     ·rw[if_pos ↥d1];exact zw ⟨G4,.inl ⟨_,rfl,m4.last Y V ∅ d1 hl⟩⟩
     rw[if_neg ↥d1]
     by_cases d2:O+k=a.size
     ·rw[if_pos ↥d2];exact zw ⟨G4,.inl ⟨_,rfl,m4.done Y V ∅ ∅ (.inl d2)⟩⟩
     rw[if_neg ↥d2]
     have i1:O+k+1<a.size:=by lia
     generalize hia:O+k=S at *
     generalize hoo:o++a.extract O S=oo at *)
 all_goals
  refine zq (xy ep ?_)
  have m5:=m4.pushR V ep λi h1 h2=>by rw[kp];exact a2 i h1 h2
  generalize oo.push p=o5 at m5 ⊢
  by_cases d3:kb+1=b.size
  ·rw[if_pos ↥d3];exact zw ⟨G4,.inl ⟨_,rfl,m5.done Y V ∅ ∅ (.inr d3)⟩⟩
  rw[if_neg ↥d3]
  obtain⟨q,eq,mq⟩:=Sa.get (show S<a.size by lia)
  have kq:=zV (KY:=KY) eq
  refine zq (xy eq (zq ?_))
  refine Xh L (KY:=KY) (G4.kind.trans hk) Sb mq ∅ ∅ (λi j h1 h2 h3=>V i j (yb _) h2 ∅) (λr rn rt rf=>?_)
  nofun
  have a8:∀i,kb+1<=i->i<kb+1+r->kx KY b i<=KY q:=λi h1 h2=>by
   have:=rt (i-(kb+1)) ∅
   rw[VZ,show kb+1+(i-(kb+1))=i by lia]at this
   exact yK (wA this)
  have a3:∀i,kb+1+r<=i->i<b.size->KY q<=kx KY b i:=λi h1 h2=>by
   have:=rf (i-(kb+1)) ∅ ∅
   rw[VZ,show kb+1+(i-(kb+1))=i by lia]at this
   exact We.mp (of_decide_eq_false this)
  have m6:=m5.right V (k:=r) λi j h1 h2 h3 h4 h5=>yv (a8 j h1 h2) (by rw[<-kq];exact Y S i (yb _) h4 h5)
  rcases uC r with r0 | r0
 all_goals first
  | (rw[if_neg (show ¬r>0 by lia)]
     have e6:o5++b.extract (kb+1) (kb+1+r)=o5:=by subst r0;apply Wc.mp;rw[yC,Xc,Wz,yP]
     rw[e6]at m6
     rw[show kb+1+r=kb+1 by lia]at m6 a3
     have i6:kb+1<b.size:=by lia
     have j6:kb<=kb+1:=by lia
     generalize kb+1=kc at *
     generalize hoo6:o5=o6 at *)
  | (rw[if_pos r0]
     by_cases d4:kb+1+r=b.size
     ·rw[if_pos ↥d4];exact zw ⟨G4,.inl ⟨_,rfl,m6.done Y V ∅ ∅ (.inr d4)⟩⟩
     rw[if_neg ↥d4]
     have i6:kb+1+r<b.size:=by lia
     have j6:kb<=kb+1+r:=by lia
     generalize hoo6:o5++b.extract (kb+1) (kb+1+r)=o6 at *
     generalize kb+1+r=kc at *)
 all_goals
  refine zq (xy eq ?_)
  have m7:=m6.pushL Y eq λj h1 h2=>by rw[kq];exact a3 j h1 h2
  by_cases d5:S+1+1=a.size
  ·rw[if_pos ↥d5];exact zw ⟨G4,.inl ⟨_,rfl,m7.last Y V ∅ d5 hl⟩⟩
  rw[if_neg ↥d5]
  split
  ·exact zw ⟨G4,.inr ⟨_,_,_,_,_,_,rfl,m7,by lia,by lia,by lia⟩⟩
  ·exact zw ⟨G4,_,_,_,_,_,_,rfl,m7,by lia,by lia,by lia⟩
variable {J:Shared->Prop}{M:Model}{A:Around}{E:Value->Shared->Prop}{KY:Keyed->Int}{a₀:Array Keyed}{κ:SortKind}
structure Mh (KY:Keyed->Int) (a b out:Array Keyed) (na nb:Nat):Prop where
 pm:(a.toList.take na++(b.toList.take nb++out.toList.reverse)).Perm (a.toList++b.toList)
 so:out.toList.reverse.Pairwise λx y=>KY x<=KY y
 ca:∀x,x∈out.toList->∀i,i<na->i<a.size->kx KY a i<=KY x
 cb:∀x,x∈out.toList->∀j,j<nb->j<b.size->kx KY b j<=KY x
theorem Jz {xs:Array Keyed}{i n:Nat}(h:i<=n):xs.toList.take n=xs.toList.take i++(xs.extract i n).toList:=by
 have e:n=i+(n-i):=by omega
 rw[e,Xc,List.take_add]
theorem qZ {xs:Array Keyed}{i n:Nat}{p:Keyed}(h:p∈(xs.extract i n).toList):∃m,i<=m/\m<n/\m<xs.size/\xs[m]?=some p:=by
 rcases Nat.le_total i n with c | c
 ·rw[show n=i+(n-i) by omega]at h
  obtain⟨m,h1,h2,F,G⟩:=vM h
  exact⟨m,h1,by omega,F,G⟩
 ·have:(xs.extract i n).toList=[]:=by rw[Array.toList_extract,Yy,show n-i=0 by omega,Wz]
  rw[this]at h;cases h
theorem zaP {xs:Array Keyed}{i n:Nat}(u:Up KY xs 0 xs.size) (h:i<=n):(xs.extract i n).toList.Pairwise λx y=>KY x<=KY y:=by
 rw[show n=i+(n-i) by omega];exact J3 u
section
variable {a b out:Array Keyed}{na nb:Nat}
theorem Q8 (o p:Array Keyed):(o++p.reverse).toList.reverse=p.toList++o.toList.reverse:=by simp
theorem Vd {o p:Array Keyed}{x:Keyed}(h:x∈(o++p.reverse).toList):x∈o.toList\/x∈p.toList:=by
 rw[yC,wY,W9,uO]at h;exact h
theorem Mh.left (h:Mh KY a b out na nb) (S:Up KY a 0 a.size){m:Nat}(U:m<=na) (Y:∀i j,m<=i->i<na->i<a.size->j<nb->j<b.size->kx KY b j<=kx KY a i):Mh KY a b (out++(a.extract m na).reverse) m nb:=by
 refine⟨?_,?_,λx F i h1 h2=>?_,λx F j h1 h2=>?_⟩
 ·have:=h.pm
  rw[Jz (xs:=a) U]at this
  rw[Q8]
  refine List.Perm.trans ?_ this
  rw[ym]
  refine List.Perm.append_left _ ?_
  rw[<-ym,<-ym]
  exact List.Perm.append_right _ Wn
 ·rw[Q8]
  refine Qi (zaP S U) h.so λx W y V=>?_
  obtain⟨n,O,I,G,e⟩:=qZ W
  rw[<-zV (KY:=KY) e];exact h.ca y (uO.mp V) n I G
 ·rcases Vd F with F | F
  ·exact h.ca x F i ∅ h2
  ·obtain⟨n,O,I,G,e⟩:=qZ F
   rw[<-zV (KY:=KY) e];exact S i n (yb _) ∅ G
 ·rcases Vd F with F | F
  ·exact h.cb x F j h1 h2
  ·obtain⟨n,O,I,G,e⟩:=qZ F
   rw[<-zV (KY:=KY) e];exact Y n j O I G h1 h2
theorem Mh.right (h:Mh KY a b out na nb) (S:Up KY b 0 b.size){m:Nat}(U:m<=nb) (Y:∀i j,m<=j->j<nb->j<b.size->i<na->i<a.size->kx KY a i<=kx KY b j):Mh KY a b (out++(b.extract m nb).reverse) na m:=by
 refine⟨?_,?_,λx F i h1 h2=>?_,λx F j h1 h2=>?_⟩
 ·have:=h.pm
  rw[Jz (xs:=b) U]at this
  rw[Q8]
  simpa [ym]using this
 ·rw[Q8]
  refine Qi (zaP S U) h.so λx W y V=>?_
  obtain⟨n,O,I,G,e⟩:=qZ W
  rw[<-zV (KY:=KY) e];exact h.cb y (uO.mp V) n I G
 ·rcases Vd F with F | F
  ·exact h.ca x F i h1 h2
  ·obtain⟨n,O,I,G,e⟩:=qZ F
   rw[<-zV (KY:=KY) e];exact Y i n O I G h1 h2
 ·rcases Vd F with F | F
  ·exact h.cb x F j ∅ h2
  ·obtain⟨n,O,I,G,e⟩:=qZ F
   rw[<-zV (KY:=KY) e];exact S j n (yb _) ∅ G
theorem Jp {xs:Array Keyed}{n:Nat}{p:Keyed}(e:xs[n-1]?=some p) (h:1<=n):(xs.extract (n-1) n).reverse = #[p]:=by
 have:=VA e
 rw[show n-1+1=n by lia]at this
 rw[this];rfl
theorem Mh.pushL (h:Mh KY a b out na nb) (F:Up KY a 0 a.size){p:Keyed}(h1:1<=na) (e:a[na-1]?=some p) (I:∀j,j<nb->j<b.size->kx KY b j<=kx KY a (na-1)):Mh KY a b (out.push p) (na-1) nb:=by
 have:=h.left F (m:=na-1) ∅ λi j h1 h2 S O G=>by rw[show i=na-1 by lia];exact I j O G
 rw[Jp e h1]at this;exact this
theorem Mh.pushR (h:Mh KY a b out na nb) (G:Up KY b 0 b.size){p:Keyed}(h1:1<=nb) (e:b[nb-1]?=some p) (I:∀i,i<na->i<a.size->kx KY a i<=kx KY b (nb-1)):Mh KY a b (out.push p) na (nb-1):=by
 have:=h.right G (m:=nb-1) ∅ λi j h1 h2 S O F=>by rw[show j=nb-1 by lia];exact I i O F
 rw[Jp e h1]at this;exact this
theorem Mh.all (h:Mh KY a b out 0 0):Res KY a b out.reverse:=by
 have:=h.pm
 rw[Wz,Wz,WM,WM]at this
 exact⟨by rw[W9];exact this,by rw[W9];exact h.so⟩
theorem Vg (o p:Array Keyed):(o++p.reverse).reverse=p++o.reverse:=by
 apply Wc.mp;simp
theorem Mh.done (h:Mh KY a b out na nb) (F:Up KY a 0 a.size) (I:Up KY b 0 b.size) (e:na=0\/nb=0):Res KY a b (a.extract 0 na++b.extract 0 nb++out.reverse):=by
 have:=((h.right I (m:=0) ∅ λi j h1 h2 O S G=>by lia).left F (m:=0) ∅ λi j h1 h2 O S G=>by lia).all
 rw[Vg,Vg,<-WH]at this;exact this
theorem Mh.first (h:Mh KY a b out na nb) (F:Up KY a 0 a.size) (O:Up KY b 0 b.size) (e:nb=1) (S:kx KY b 0<=kx KY a 0):Res KY a b (b.extract 0 nb++a.extract 0 na++out.reverse):=by
 have:=((h.left F (m:=0) ∅ λi j h1 h2 G U I=>by rw[show j=0 by lia];exact yv S (F 0 i (wo _) ∅ G)).right O (m:=0) ∅ λi j h1 h2 G U I=>by lia).all
 rw[Vg,Vg,<-WH]at this;exact this
end
def mhi:Array Keyed->Array Keyed->StateT SortSt Sem (Array Keyed):=sortPriv% PySem.Builtin.mergeHi
set_option maxHeartbeats 16000000 in
theorem zjC (L:HLt J M A E κ KY a₀){a b:Array Keyed}{Q:Array Keyed->SortSt->Prop}{st:SortSt}(hk:kindOf st=κ) (Sa:Sub a₀ a) (Sb:Sub a₀ b) (ha:1<=a.size) (hb:1<=b.size) (S:Up KY a 0 a.size) (U:Up KY b 0 b.size)
  (h0:kx KY b 0<=kx KY a 0) (hl:∀j,j<b.size->kx KY b j<=kx KY a (a.size-1)) (h:∀out F,Res KY a b out->Gs st F->Q out F):TQ J M A E (mhi a b) Q st:=by
 refine zq (Xi ?_)
 nofun
 obtain⟨a0,a2,_⟩:=Sa.get (show a.size-1<a.size by lia)
 refine zq (xy a2 ?_)
 have m0:Mh KY a b #[a0] (a.size-1) b.size:=by
  have:Mh KY a b #[] a.size b.size:=⟨by rw[show a.size=a.toList.length by simp,show b.size=b.toList.length by simp,yq,yq];simp,by simp,λx m=>by simp at m,λx m=>by simp at m⟩
  have:=this.pushL S ha a2 λj h1 h2=>hl j h1
  simpa using this
 by_cases c1:a.size-1=0
 ·rw[if_pos ↥c1]
  have R:=m0.done S U (.inl c1)
  exact zw (h _ _ R .refl)
 rw[if_neg ↥c1]
 by_cases c2:b.size=1
 ·rw[if_pos ↥c2];exact zw (h _ _ (m0.first S U c2 h0) .refl)
 rw[if_neg ↥c2]
 refine zq (vU ?_)
 refine zq (qa (xZ (I:=λx c F=>∃na nb out g,c=(none,na,nb,out,g)/\Mh KY a b out na nb/\1<=na/\na<=a.size/\2<=nb/\nb<=b.size/\na+nb+1+x<=a.size+b.size/\Gs st F)
  (Q:=λc F=>∃r,c.1=some r/\Res KY a b r/\Gs st F) ?_ ?_ ⟨a.size-1,b.size,_,_,rfl,m0,by lia,by lia,by lia,by lia,by lia,.refl⟩) ?_)
 rotate_left
 ·rintro c F ⟨na,nb,out,g,rfl,m,i1,i2,i3,i4,i5,_⟩;lia
 ·rintro ⟨c,c'⟩ F ⟨r,e,R,G⟩
  subst e
  exact zw (h r F R G)
 rintro x c a4-hx Y;rcases q:Y with⟨na,nb,out,g,rfl,m,i1,i2,i3,i4,i5,G1⟩
 nofun
 refine zq (qa (xZ (I:=λx c F=>F=a4/\∃W V out ac bc,c=(none,W,V,out,ac,bc)/\Mh KY a b out W V/\1<=W/\W<=na/\2<=V/\V<=nb)
  (Q:=λc F=>F=a4/\((∃r,c.1=some r/\Res KY a b r)\/∃W V out ac bc,c=(none,W,V,out,ac,bc)/\Mh KY a b out W V/\1<=W/\W<=na/\2<=V/\V<=nb)) ?_ ?_ ⟨rfl,na,nb,out,0,0,rfl,m,i1,wo _,i3,wo _⟩) ?_)
 ·rintro y c a3-hy Y;rcases q:Y with⟨rfl,W,V,o,ac,bc,rfl,m2,j1,j2,j3,j4⟩
  nofun
  obtain⟨p,ep,mp⟩:=Sb.get (show V-1<b.size by lia)
  obtain⟨q,eq,mq⟩:=Sa.get (show W-1<a.size by lia)
  have kp:=zV (KY:=KY) ep
  have kq:=zV (KY:=KY) eq
  refine zq (xy ep (zq (xy eq (zq (zcM L (G1.kind.trans hk) mp mq (λz=>?_) (λz=>?_))))))
  ·nofun
   rw[if_pos rfl]
   refine zq (xy eq ?_)
   have m3:=m2.pushL S j1 eq λj h1 h2=>by rw[kq];exact yv (by rw[<-kp];exact U j (V-1) (yb _) ∅ ∅) (yK z)
   by_cases d:W-1=0
   ·rw[if_pos ↥d];exact zw ⟨rfl,.inl ⟨_,rfl,m3.done S U (.inl d)⟩⟩
   rw[if_neg ↥d]
   split
   ·exact zw ⟨rfl,.inr ⟨_,_,_,_,_,rfl,m3,by lia,by lia,j3,j4⟩⟩
   ·exact zw ⟨rfl,_,_,_,_,_,rfl,m3,by lia,by lia,j3,j4⟩
  ·nofun
   rw[if_neg (by simp)]
   refine zq (xy ep ?_)
   have m3:=m2.pushR U ∅ ep λi h1 h2=>by rw[kp];exact yv (by rw[<-kq];exact S i (W-1) (yb _) ∅ ∅) (We.mp z)
   by_cases d:V-1=1
   ·rw[if_pos ↥d];exact zw ⟨rfl,.inl ⟨_,rfl,m3.first S U d h0⟩⟩
   rw[if_neg ↥d]
   split
   ·exact zw ⟨rfl,.inr ⟨_,_,_,_,_,rfl,m3,j1,j2,by lia,by lia⟩⟩
   ·exact zw ⟨rfl,_,_,_,_,_,rfl,m3,j1,j2,by lia,by lia⟩
 ·rintro c a3 ⟨rfl,z⟩
  exact⟨rL,.inr z⟩
 rintro c a3 ⟨rfl,⟨r,e,R⟩ | ⟨W,V,o,ac,bc,rfl,m2,j1,j2,j3,j4⟩⟩
 ·obtain⟨c,c'⟩:=c
  cases e
  exact zw ⟨r,rL,R,G1⟩
 nofun
 refine zq (Xi ?_)
 refine zq (qa (xZ (I:=λx c F=>Gs st F/\∃O kb out g ac bc,c=(none,O,kb,out,g,ac,bc)/\Mh KY a b out O kb/\1<=O/\O<=na/\2<=kb/\kb<=nb/\O+kb+min x 1<=na+nb)
  (Q:=λc F=>Gs st F/\((∃r,c.1=some r/\Res KY a b r)\/∃O kb out g ac bc,c=(none,O,kb,out,g,ac,bc)/\Mh KY a b out O kb/\1<=O/\O<=na/\2<=kb/\kb<=nb/\O+kb+1<=na+nb)) ?_ ?_ ⟨G1,W,V,o,_,ac,bc,rfl,m2,j1,j2,j3,j4,by lia⟩) ?_)
 rotate_left
 ·rintro c a1 Y;rcases q:Y with⟨G3,O,kb,o,g,ac,bc,rfl,m3,k1,k2,k3,k4,k5⟩
  exact⟨G3,.inr ⟨O,kb,o,g,ac,bc,rfl,m3,k1,k2,k3,k4,by lia⟩⟩
 ·rintro c a1 ⟨G3,⟨r,e,R⟩ | ⟨O,kb,o,g,ac,bc,rfl,m3,k1,k2,k3,k4,k5⟩⟩
  ·obtain⟨c,c'⟩:=c
   cases e
   exact zw ⟨r,rL,R,G3⟩
  ·nofun
   exact zq (qC (zw ⟨O,kb,o,_,rfl,m3,k1,by lia,k3,by lia,by lia,G3.trans ⟨rfl,rfl,rfl,rfl⟩⟩))
 rintro y c a1-hy Y;rcases q:Y with⟨G3,O,kb,o,g,ac,bc,rfl,m3,k1,k2,k3,k4,k5⟩
 nofun
 obtain⟨p,ep,mp⟩:=Sb.get (show kb-1<b.size by lia)
 have kp:=zV (KY:=KY) ep
 generalize g-1=g1
 revert g1
 refine zfS (g:=g) rL λg=>?_
 all_goals
  refine zq (zcN λa9 G4=>zq (xy ep ?_))
  replace G4:=G3.trans G4
  clear G3 a1
  refine zq (Xh L (KY:=KY) (G4.kind.trans hk) Sa mp ∅ ∅ (λi j h1 h2 h3=>S i j (yb _) h2 ∅) (λk kn kt kf=>?_))
  nofun
  have a8:∀i,i<k->kx KY a i<=KY p:=λi h1=>by
   have:=kt i h1
   rw[VY,YX]at this
   simpa using this
  have a6:∀i,k<=i->i<O->KY p<=kx KY a i:=λi h1 h2=>by
   have:=kf i h1 h2
   rw[VY,YX]at this
   have:KY p<kx KY a i:=↥this
   exact yK this
  have m4:=m3.left S (m:=k) kn λi j h1 h2 h3 h4 h5=>yv (by rw[<-kp];exact U j (kb-1) (yb _) ∅ ∅) (a6 i h1 h2)
  rcases uC (O-k)with k0 | k0
 all_goals first
  | (rw[if_neg (show ¬O-k>0 by lia)]
     obtain rfl:k=O:=by lia
     have e0:o++(a.extract k k).reverse=o:=by apply Wc.mp;simp
     rw[e0]at m4
     have l1:1<=k:=k1
     have l2:k<=na:=k2
     generalize hia:k=la at *
     generalize hoo:o=oo at *)
  | (rw[if_pos k0]
     by_cases d1:k=0
     ·rw[if_pos ↥d1];exact zw ⟨G4,.inl ⟨_,rfl,m4.done S U (.inl d1)⟩⟩
     rw[if_neg ↥d1]
     have l1:1<=k:=by lia
     have l2:k<=na:=by lia
     generalize hoo:o++(a.extract k O).reverse=oo at *
     generalize hia:k=la at *)
 all_goals
  refine zq (xy ep ?_)
  have m5:=m4.pushR U ∅ ep λi h1 h2=>by rw[kp];exact a8 i h1
  generalize oo.push p=o5 at m5 ⊢
  by_cases d3:kb-1=1
  ·rw[if_pos ↥d3];exact zw ⟨G4,.inl ⟨_,rfl,m5.first S U d3 h0⟩⟩
  rw[if_neg ↥d3]
  obtain⟨q,eq,mq⟩:=Sa.get (show la-1<a.size by lia)
  have kq:=zV (KY:=KY) eq
  refine zq (xy eq (zq ?_))
  refine Xh L (KY:=KY) (G4.kind.trans hk) Sb mq ∅ ∅ (λi j h1 h2 h3=>U i j (yb _) h2 ∅) (λr rn rt rf=>?_)
  nofun
  have a5:∀i,i<r->kx KY b i<=KY q:=λi h1=>by
   have:=rt i h1
   rw[VZ,YX]at this
   exact yK (wA this)
  have a7:∀i,r<=i->i<kb-1->KY q<=kx KY b i:=λi h1 h2=>by
   have:=rf i h1 h2
   rw[VZ,YX]at this
   exact We.mp (of_decide_eq_false this)
  have m6:=m5.right U (m:=r) rn λi j h1 h2 h3 h4 h5=>yv (by rw[<-kq];exact S i (la-1) (yb _) ∅ ∅) (a7 j h1 h2)
  rcases uC (kb-1-r)with r0 | r0
 all_goals first
  | (rw[if_neg (show ¬kb-1-r>0 by lia)]
     have er:r=kb-1:=by lia
     have e6:o5++(b.extract r (kb-1)).reverse=o5:=by rw[er];apply Wc.mp;simp
     rw[e6,er]at m6
     rw[er]at a5
     have q1:2<=kb-1:=by lia
     have q2:kb-1+1<=kb:=by lia
     generalize kb-1=kc at *
     generalize hoo6:o5=o6 at *)
  | (rw[if_pos r0]
     by_cases d4:r=1
     ·rw[if_pos ↥d4];exact zw ⟨G4,.inl ⟨_,rfl,m6.first S U d4 h0⟩⟩
     rw[if_neg ↥d4]
     by_cases d5:r=0
     ·rw[if_pos ↥d5];exact zw ⟨G4,.inl ⟨_,rfl,m6.done S U (.inr d5)⟩⟩
     rw[if_neg ↥d5]
     have q1:2<=r:=by lia
     have q2:r+1<=kb:=by lia
     generalize hoo6:o5++(b.extract r (kb-1)).reverse=o6 at *
     generalize r=kc at *)
 all_goals
  refine zq (xy eq ?_)
  have m7:=m6.pushL S l1 eq λj h1 h2=>by rw[kq];exact a5 j h1
  by_cases d6:la-1=0
  ·rw[if_pos ↥d6];exact zw ⟨G4,.inl ⟨_,rfl,m7.done S U (.inl d6)⟩⟩
  rw[if_neg ↥d6]
  split
  ·exact zw ⟨G4,.inr ⟨_,_,_,_,_,_,rfl,m7,by lia,by lia,by lia,by lia,by lia⟩⟩
  ·exact zw ⟨G4,_,_,_,_,_,_,rfl,m7,by lia,by lia,by lia,by lia,by lia⟩
variable {J:Shared->Prop}{M:Model}{A:Around}{E:Value->Shared->Prop}{KY:Keyed->Int}{a₀:Array Keyed}{κ:SortKind}
def Rn (KY:Keyed->Int) (xs:Array Keyed):Nat->List (Nat×Nat×Nat)->Nat->Prop
 |s,[],e=>s=e
 |s,p::P,e=>p.1=s/\1<=p.2.1/\Up KY xs s (s+p.2.1)/\Rn KY xs (s+p.2.1) P e
theorem Rn.le {xs:Array Keyed}:∀{P:List (Nat×Nat×Nat)}{s e:Nat},Rn KY xs s P e->s+P.length<=e
 |[],s,e,h=>by have h':s=e:=h;rw[h'];exact wo _
 |p::P,s,e,h=>by
  obtain⟨_,h1,_,h2⟩:=h
  have:=Rn.le h2
  rw[wx];lia
theorem VE {xs:Array Keyed}:∀{P R:List (Nat×Nat×Nat)}{s e:Nat},Rn KY xs s (P++R) e↔∃m,Rn KY xs s P m/\Rn KY xs m R e
 |[],R,s,e=>⟨λh=>⟨s,rfl,h⟩,λ⟨m,h1,h2⟩=>by have h':s=m:=h1;rw[h'];exact h2⟩
 |p::P,R,s,e=>⟨λ⟨h1,h2,h3,h4⟩=>let ⟨m,h5,h6⟩:=VE.mp h4;⟨m,⟨h1,h2,h3,h5⟩,h6⟩,λ⟨m,⟨h1,h2,h3,h5⟩,h6⟩=>⟨h1,h2,h3,VE.mpr ⟨m,h5,h6⟩⟩⟩
theorem Rn.keep {xs ys:Array Keyed}:∀{P:List (Nat×Nat×Nat)}{s e:Nat},(∀i,s<=i->i<e->kx KY ys i=kx KY xs i)->Rn KY xs s P e->Rn KY ys s P e
 |[],s,e,_,h=>h
 |p::P,s,e,k,h=>by
  obtain⟨h1,h2,I,G⟩:=h
  have:=Rn.le G
  exact⟨h1,h2,λi j F O S=>by rw[k i F ∅,k j ∅ ∅];exact I i j F O S,Rn.keep (λi a b=>k i ∅ b) G⟩
theorem Rn.like {xs:Array Keyed}:∀{P R:List (Nat×Nat×Nat)}{s e:Nat},R.map (λp=>(p.1,p.2.1))=P.map (λp=>(p.1,p.2.1))->Rn KY xs s P e->Rn KY xs s R e
 |[],[],s,e,_,h=>h
 |[],_::_,s,e,z,h=>by simp at z
 |_::_,[],s,e,z,h=>by simp at z
 |p::P,r::R,s,e,z,h=>by
  obtain⟨h1,h2,I,U⟩:=h
  rw[yg,yg]at z
  obtain⟨G,S⟩:=List.cons.inj z
  obtain⟨O,F⟩:=Prod.mk.inj G
  exact⟨O.trans h1,by rw[F];exact h2,by rw[F];exact I,by rw[F];exact Rn.like S U⟩
theorem Vk {xs:Array Keyed}{s m e:Nat}(h1:Up KY xs s m) (h2:Up KY xs m e) (h:∀i j,s<=i->i<m->m<=j->j<e->kx KY xs i<=kx KY xs j):Up KY xs s e:=λi j F I G=>by
 by_cases c:j<m
 ·exact h1 i j F I c
 ·by_cases d:m<=i
  ·exact h2 i j d I G
  ·exact h i j F ∅ ∅ G
def wr (xs:Array Keyed) (o:Nat) (l:List Keyed) (n:Nat):Array Keyed:=(l.zipIdx n).foldl (λa x=>a.setIfInBounds (o+x.2) x.1) xs
theorem zbZ (o:Nat):∀(l:List Keyed) (n:Nat) (xs:Array Keyed),o+n+l.length<=xs.size->∀j,(wr xs o l n)[j]?=if o+n<=j/\j<o+n+l.length then l[j-(o+n)]? else xs[j]?
 |[],n,xs,h,j=>by rw[if_neg (by simp)];rfl
 |p::l,n,xs,h,j=>by
  rw[wx]at h ⊢
  show (wr (xs.setIfInBounds (o+n) p) o l (n+1))[j]?=_
  rw[zbZ o l (n+1) _ (by rw[Array.size_setIfInBounds];lia) j,Array.getElem?_setIfInBounds]
  by_cases c:j=o+n
  ·subst c
   rw[if_neg ∅,if_pos rfl,if_pos ∅,if_pos ∅,Wj];rfl
  ·rw[if_neg (show ¬o+n=j by lia)]
   by_cases d:o+n+1<=j/\j<o+n+1+l.length
   ·rw[if_pos ∅,if_pos ∅,show j-(o+n)=j-(o+(n+1))+1 by lia];rfl
   ·rw[if_neg ∅,if_neg ∅]
theorem zhm {xs:Array Keyed}{o:Nat}{l:List Keyed}(h:o+l.length<=xs.size):(wr xs o l 0).toList=xs.toList.take o++(l++xs.toList.drop (o+l.length)):=by
 apply uL
 intro j
 rw[wO,zbZ o l 0 xs ∅,Nat.add_zero]
 have hs:xs.toList.length=xs.size:=wI
 by_cases c1:j<o
 ·rw[if_neg ∅,w8 (by rw[yn];lia),WE c1,wO]
 ·rw[wT (by rw[yn];lia),yn,hs,show min o xs.size=o by lia]
  by_cases c2:j<o+l.length
  ·rw[if_pos ∅,w8 ∅]
  ·rw[if_neg ∅,wT ∅,WN,<-wO]
   congr 1;lia
theorem vi {xs:Array Keyed}{i n j:Nat}(h:i+j<n):kx KY (xs.extract i n) j=kx KY xs (i+j):=by
 refine xX ?_
 rw[Wg]
 by_cases c:i+j<xs.size
 ·rw[if_pos (by omega)]
 ·rw[if_neg (by omega),ux (by omega)]
theorem Vj {xs:Array Keyed}{i n:Nat}(h:n<=xs.size):(xs.extract i n).size=n-i:=by rw[Array.size_extract];lia
theorem Qo {xs:Array Keyed}{i n:Nat}(h:Sub a₀ xs):Sub a₀ (xs.extract i n):=λp m=>by
 obtain⟨q,_,_,_,e⟩:=qZ m
 exact h p (by obtain⟨h1,h2⟩:=wX.mp e;rw[<-h2];simp)
theorem Res.key {a b out:Array Keyed}(R:Res KY a b out){j:Nat}(F:j<out.size):(∃i,i<a.size/\kx KY out j=kx KY a i)\/∃i,i<b.size/\kx KY out j=kx KY b i:=by
 have e:out[j]?=some out[j]:=wK F
 have m:out[j]∈out.toList:=by simp
 rcases wY.mp (R.pm.mem_iff.mp m)with m | m
 ·obtain⟨i,hi⟩:=Wm.mp m
  rw[wO]at hi
  exact .inl ⟨i,(wX.mp hi).1,by rw[zV e,zV hi]⟩
 ·obtain⟨i,hi⟩:=Wm.mp m
  rw[wO]at hi
  exact .inr ⟨i,(wX.mp hi).1,by rw[zV e,zV hi]⟩
theorem Res.up {a b out:Array Keyed}(R:Res KY a b out):Up KY out 0 out.size:=λi j _ h2 F=>by
 rcases WO h2 with c | c
 ·rw[c];exact uV _
 ·have:=uW.mp R.so i j (by rw[wI];lia) (by rw[wI];exact F) c
  rw[zV (wK (show i<out.size by lia)),zV (wK F)]
  simpa using this
theorem zdg {xs out:Array Keyed}{F na nb k n:Nat}(hz:F+na+nb<=xs.size) (hk:k<na) (hn:n<=nb) (V:Up KY xs F (F+na)) (U:Up KY xs (F+na) (F+na+nb))
  (k1:∀i,i<k->kx KY xs (F+i)<=kx KY xs (F+na)) (k2:∀i,n<=i->i<nb->kx KY xs (F+na-1)<=kx KY xs (F+na+i)) (n0:1<=n)
  (R:Res KY (xs.extract (F+k) (F+na)) (xs.extract (F+na) (F+na+n)) out) :
  (wr xs (F+k) out.toList 0).Perm xs/\Up KY (wr xs (F+k) out.toList 0) F (F+na+nb)/\∀j,j<F\/F+na+nb<=j->(wr xs (F+k) out.toList 0)[j]?=xs[j]?:=by
 have s1:=Vj (xs:=xs) (i:=F+k) (n:=F+na) ∅
 have s2:=Vj (xs:=xs) (i:=F+na) (n:=F+na+n) ∅
 have so:out.toList.length=na-k+n:=by rw[R.pm.length_eq,wV,wI,wI,s1,s2];lia
 have a1:out.size=na-k+n:=by rw[<-so,wI]
 have hw:=zbZ (F+k) out.toList 0 xs ∅
 have O:∀j,F+k<=j->j<F+na+n->kx KY (wr xs (F+k) out.toList 0) j=kx KY out (j-(F+k)):=λj h1 h2=>xX (by rw[hw,if_pos ∅,wO,Nat.add_zero])
 have G:∀j,j<F+k\/F+na+n<=j->kx KY (wr xs (F+k) out.toList 0) j=kx KY xs j:=λj h1=>xX (by rw[hw,if_neg ∅])
 have mem:∀j,j<out.size->(∃i,k<=i/\i<na/\kx KY out j=kx KY xs (F+i))\/∃i,i<n/\kx KY out j=kx KY xs (F+na+i):=λj hj=>by
  rcases R.key hj with⟨i,h1,h2⟩ | ⟨i,h1,h2⟩
  ·rw[s1]at h1
   refine .inl ⟨k+i,by lia,by lia,?_⟩
   rw[h2,vi ∅,Nat.add_assoc]
  ·rw[s2]at h1
   exact .inr ⟨i,by lia,by rw[h2,vi ∅]⟩
 refine⟨?_,?_,λj h=>?_⟩
 ·rw[Yk,zhm ∅,so]
  have e1:xs.toList=xs.toList.take (F+k)++(((xs.extract (F+k) (F+na)).toList++(xs.extract (F+na) (F+na+n)).toList)++xs.toList.drop (F+na+n)):=by
   have h1:=Z9 (xs:=xs) (i:=F+k) (k:=na-k)
   have h2:=Z9 (xs:=xs) (i:=F+na) (k:=n)
   rw[show F+k+(na-k)=F+na by lia]at h1
   rw[ym,<-h2,<-h1,uA]
  have e2:F+k+(na-k+n)=F+na+n:=by lia
  rw[e2]
  refine List.Perm.trans ?_ (List.Perm.of_eq e1.symm)
  exact List.Perm.append_left _ (List.Perm.append_right _ R.pm)
 ·refine Vk (m:=F+k) (λi j h1 h2 I=>by rw[G i (.inl ∅),G j (.inl I)];exact V i j h1 h2 ∅) (Vk (m:=F+na+n) (λi j h1 h2 I=>by rw[O i h1 ∅,O j ∅ I];exact R.up _ _ (yb _) ∅ ∅) (λi j h1 h2 I=>by rw[G i (.inr h1),G j (.inr ∅)];exact U i j ∅ h2 I) ?_) ?_
  ·intro i j h1 h2 I Y
   rw[O i h1 h2,G j (.inr I)]
   have e:=k2 (j-(F+na)) ∅ ∅
   rw[show F+na+(j-(F+na))=j by lia]at e
   rcases mem (i-(F+k)) ∅with⟨q,W,q2,S⟩ | ⟨q,W,S⟩
   ·rw[S];exact yv (V _ (F+na-1) ∅ ∅ ∅) e
   ·rw[S];exact U _ _ ∅ ∅ Y
  ·intro i j h1 h2 I Y
   rw[G i (.inl h2)]
   have e:=k1 (i-F) ∅
   rw[show F+(i-F)=i by lia]at e
   by_cases c:j<F+na+n
   ·rw[O j I c]
    rcases mem (j-(F+k)) ∅with⟨q,W,q2,S⟩ | ⟨q,W,S⟩
    ·rw[S];exact V _ _ h1 ∅ ∅
    ·rw[S];exact yv e (U _ _ (wo _) ∅ ∅)
   ·rw[G j (.inr ∅)]
    exact yv e (U _ _ (wo _) ∅ Y)
 ·rw[hw,if_neg ∅]
variable {J:Shared->Prop}{M:Model}{A:Around}{E:Value->Shared->Prop}{KY:Keyed->Int}{a₀:Array Keyed}{κ:SortKind}
theorem zdx {α:Type}{l:List α}{i:Nat}(h:i+1<l.length):∃P p q R,l=P++p::q::R/\P.length=i:=by
 refine⟨l.take i,l[i],l[i+1],l.drop (i+2),?_,by rw[yn];lia⟩
 rw[show i+2=i+1+1 from rfl,List.getElem_cons_drop,List.getElem_cons_drop,uA]
theorem zhj {Q:PUnit->SortSt->Prop}{st F:SortSt}(h:∀z,z=F->Q ⟨⟩ z):TQ J M A E (set F:StateT SortSt Sem PUnit) Q st:=zjE (h _ rfl)
theorem za7 (L:HLt J M A E κ KY a₀){i lo:Nat}{Q:Bool->SortSt->Prop}{st:SortSt}(B:Bs a₀ κ st) (hr:Rn KY (arrOf st) 0 (pendingOf st).toList lo) (b0:lo<=a₀.size) (hi:i+1<(pendingOf st).size)
  (h:∀G,Bs a₀ κ G->Rn KY (arrOf G) 0 (pendingOf G).toList lo->(∀j,lo<=j->(arrOf G)[j]?=(arrOf st)[j]?)->(pendingOf G).size+1=(pendingOf st).size->Q true G):TQ J M A E (mergeAt' i) Q st:=by
 refine zq (vU ?_)
 nofun
 obtain⟨P,⟨sa,na,pw⟩,⟨sb,nb,pq⟩,R,eP,lP⟩:=zdx (l:=(pendingOf st).toList) (i:=i) (by rw[wI];exact hi)
 have g1:(pendingOf st)[i]?=some (sa,na,pw):=by rw[<-wO,eP,wT ∅,lP,Wj];rfl
 have g2:(pendingOf st)[i+1]?=some (sb,nb,pq):=by rw[<-wO,eP,wT ∅,lP,show i+1-i=1 by lia];rfl
 rw[eP]at hr
 rcases q:VE.mp hr with⟨m,r1,em,ha,W,en,hb,V,r2⟩
 dsimp only at em ha W en hb V r2
 have a8:m=sa:=em.symm
 subst a8
 have a9:m+na=sb:=en.symm
 subst a9
 clear em en
 have l2:=Rn.le r2
 have sz:=B.size
 have pe:(((pendingOf st).setIfInBounds i (m,na+nb,pw)).eraseIdxIfInBounds (i+1)).toList=P++(m,na+nb,pw)::R:=by
  rw[Array.toList_eraseIdxIfInBounds,Array.toList_setIfInBounds,eP,List.set_append_right _ _ ∅,lP,Wj,List.set_cons_zero,List.eraseIdx_append_of_length_le ∅,lP,show i+1-i=1 by lia];rfl
 have ps:(((pendingOf st).setIfInBounds i (m,na+nb,pw)).eraseIdxIfInBounds (i+1)).size+1=(pendingOf st).size:=by
  rw[<-wI,<-wI,pe,eP];simp;lia
 rw[g1,g2]
 nofun
 refine zq (zhj λI O=>?_)
 have S:Bs a₀ κ I:=by rw[O];exact⟨B.perm,B.kind,B.fail⟩
 have a1:arrOf I=arrOf st:=by rw[O]
 have p1:(pendingOf I).toList=P++(m,na+nb,pw)::R:=by rw[O];exact pe
 have z1:(pendingOf I).size+1=(pendingOf st).size:=by rw[O];exact ps
 clear O pe ps
 obtain⟨p,ep,mp⟩:=B.sub.get (show m+na<(arrOf st).size by lia)
 have kp:=zV (KY:=KY) ep
 refine zq (xy ep (zq ?_))
 have Y:∀G,Bs a₀ κ G->(pendingOf G)=(pendingOf I)->Up KY (arrOf G) m (m+na+nb)->(∀j,j<m\/m+na+nb<=j->(arrOf G)[j]?=(arrOf st)[j]?)->Q true G:=λG B' q' u' o'=>by
  refine h G B' ?_ (λj hj=>o' j (.inr ∅)) (by rw[q'];exact z1)
  rw[q',p1]
  refine VE.mpr ⟨m,r1.keep λj h1 h2=>xX (o' j (.inl h2)),rfl,by show 1<=na+nb;lia,by show Up KY (arrOf G) m (m+(na+nb));rw[<-Nat.add_assoc];exact u',?_⟩
  show Rn KY (arrOf G) (m+(na+nb)) R lo
  rw[<-Nat.add_assoc]
  exact r2.keep λj h1 h2=>xX (o' j (.inr h1))
 refine Xh L (KY:=KY) (xs:=arrOf st) S.kind B.sub mp (show m+na<=(arrOf st).size by lia) ∅ W (λk kn kt kf=>?_)
 nofun
 have a4:∀j,j<k->kx KY (arrOf st) (m+j)<=kx KY (arrOf st) (m+na):=λj h1=>by
  have:=kt j h1
  rw[VY]at this
  rw[kp];simpa using this
 have a6:∀j,k<=j->j<na->kx KY (arrOf st) (m+na)<=kx KY (arrOf st) (m+j):=λj h1 h2=>by
  have:=kf j h1 h2
  rw[VY]at this
  have:KY p<kx KY (arrOf st) (m+j):=↥this
  rw[kp];exact yK this
 by_cases c1:na-k=0
 ·rw[if_pos ↥c1]
  refine zw (Y I S rfl ?_ λj _=>by rw[a1])
  rw[a1]
  exact Vk W V λx y h1 h2 h3 h4=>by
   have:=a4 (x-m) ∅
   rw[show m+(x-m)=x by lia]at this
   exact yv this (V _ _ (wo _) h3 h4)
 rw[if_neg ↥c1]
 have a5:k<na:=by lia
 rw[show m+k+(na-k)-1=m+na-1 by lia]
 obtain⟨q,eq,mq⟩:=B.sub.get (show m+na-1<(arrOf st).size by lia)
 have kq:=zV (KY:=KY) eq
 refine zq (xy eq (zq ?_))
 refine Xh L (KY:=KY) (xs:=arrOf st) S.kind B.sub mq (show m+na+nb<=(arrOf st).size by lia) ∅ V (λn nn rt rf=>?_)
 nofun
 have a7:∀j,j<n->kx KY (arrOf st) (m+na+j)<=kx KY (arrOf st) (m+na-1):=λj h1=>by
  have:=rt j h1
  rw[VZ]at this
  rw[kq];exact yK (wA this)
 have a3:∀j,n<=j->j<nb->kx KY (arrOf st) (m+na-1)<=kx KY (arrOf st) (m+na+j):=λj h1 h2=>by
  have:=rf j h1 h2
  rw[VZ]at this
  rw[kq];exact We.mp (of_decide_eq_false this)
 by_cases c2:n=0
 ·rw[if_pos ↥c2]
  refine zw (Y I S rfl ?_ λj _=>by rw[a1])
  rw[a1]
  exact Vk W V λx y h1 h2 h3 h4=>by
   have:=a3 (y-(m+na)) ∅ ∅
   rw[show m+na+(y-(m+na))=y by lia]at this
   exact yv (W _ _ h1 ∅ ∅) this
 rw[if_neg ↥c2]
 have s1:=Vj (xs:=arrOf st) (i:=m+k) (n:=m+na) ∅
 have s2:=Vj (xs:=arrOf st) (i:=m+na) (n:=m+na+n) ∅
 have u1:Up KY ((arrOf st).extract (m+k) (m+na)) 0 ((arrOf st).extract (m+k) (m+na)).size:=λx y h1 h2 h3=>by
  rw[s1]at h3
  rw[vi ∅,vi ∅];exact W _ _ ∅ ∅ ∅
 have u2:Up KY ((arrOf st).extract (m+na) (m+na+n)) 0 ((arrOf st).extract (m+na) (m+na+n)).size:=λx y h1 h2 h3=>by
  rw[s2]at h3
  rw[vi ∅,vi ∅];exact V _ _ ∅ ∅ ∅
 have w0:kx KY ((arrOf st).extract (m+na) (m+na+n)) 0<=kx KY ((arrOf st).extract (m+k) (m+na)) 0:=by
  rw[vi ∅,vi ∅];exact a6 k (wo _) a5
 have wl:∀j,j<((arrOf st).extract (m+na) (m+na+n)).size->kx KY ((arrOf st).extract (m+na) (m+na+n)) j<=kx KY ((arrOf st).extract (m+k) (m+na)) (((arrOf st).extract (m+k) (m+na)).size-1):=λj hj=>by
  rw[s2]at hj
  rw[s1,vi ∅,vi ∅,show m+k+(m+na-(m+k)-1)=m+na-1 by lia];exact a7 j ∅
 have last:∀out F,Res KY ((arrOf st).extract (m+k) (m+na)) ((arrOf st).extract (m+na) (m+na+n)) out->Gs I F->Q (failedOf F).isNone (SortSt.mk' (kindOf F) (wr (arrOf F) (m+k) out.toList 0) (pendingOf F) (gallopOf F) (failedOf F)):=λout F R2 U=>by
  have f2:failedOf F=none:=U.fail.trans S.fail
  rw[f2]
  obtain⟨w1,w2,w3⟩:=zdg (xs:=arrOf st) ∅ a5 nn W V a4 a3 ∅ R2
  have a2:arrOf F=arrOf st:=U.arr.trans a1
  refine Y _ ⟨?_,U.kind.trans S.kind,rL⟩ U.pend ?_ ?_
  ·show (wr (arrOf F) (m+k) out.toList 0).Perm a₀
   rw[a2];exact w1.trans B.perm
  ·show Up KY (wr (arrOf F) (m+k) out.toList 0) _ _
   rw[a2];exact w2
  ·show ∀j,_->(wr (arrOf F) (m+k) out.toList 0)[j]?=_
   rw[a2];exact w3
 split
 ·exact zq (zjD L (a:=(arrOf st).extract (m+k) (m+na)) (b:=(arrOf st).extract (m+na) (m+na+n)) S.kind (Qo B.sub) (Qo B.sub) ∅ ∅ u1 u2 w0 wl λout F R2 U=>zq (qC (zq (vU (zw (last out F R2 U))))))
 ·exact zq (zjC L (a:=(arrOf st).extract (m+k) (m+na)) (b:=(arrOf st).extract (m+na) (m+na+n)) S.kind (Qo B.sub) (Qo B.sub) ∅ ∅ u1 u2 w0 wl λout F R2 U=>zq (qC (zq (vU (zw (last out F R2 U))))))
variable {J:Shared->Prop}{M:Model}{A:Around}{E:Value->Shared->Prop}{KY:Keyed->Int}{a₀:Array Keyed}{κ:SortKind}
theorem zeB:∀(f n r:Nat),1<=n->1<=minRun' f n r
 |0,n,r,h=>by show 1<=n+r;lia
 |f+1,n,r,h=>by
  rw[minRun'_succ]
  split
  ·lia
  ·exact zeB f _ _ ∅
theorem zgm {c:Prop}{d:Decidable c}{n:Nat}(h:2<=n):(@ite _ c d (n-2-1) (n-2))+1<n:=by
 split <;> omega
structure Wt (KY:Keyed->Int) (a₀:Array Keyed) (κ:SortKind) (lo:Nat) (st:SortSt):Prop where
 b:Bs a₀ κ st
 r:Rn KY (arrOf st) 0 (pendingOf st).toList lo
set_option maxHeartbeats 16000000 in
theorem zhh (L:HLt J M A E κ KY a₀){Q:Unit->SortSt->Prop}{st:SortSt}(B:Bs a₀ κ st) (hp:pendingOf st = #[]) (h:∀F,Bs a₀ κ F->Up KY (arrOf F) 0 a₀.size->Q () F):TQ J M A E sortRuns' Q st:=by
 refine zq (vU ?_)
 nofun
 have sz:(arrOf st).size=a₀.size:=B.size
 rw[sz]
 refine zq (qa (xZ (I:=λx c F=>∃lo,c=(none,lo)/\Wt KY a₀ κ lo F/\lo<=a₀.size/\min x a₀.size<=lo) (Q:=λc F=>c.1=none/\Wt KY a₀ κ a₀.size F) ?_ ?_ ⟨0,rfl,⟨B,by rw[hp];rfl⟩,yb _,by lia⟩) ?_)
 rotate_left
 ·rintro c a3 a2;rcases q:a2 with⟨lo,rfl,W,l1,l2⟩
  rw[show max 0 a₀.size=a₀.size by lia]at l2
  obtain rfl:lo=a₀.size:=by lia
  exact⟨rL,W⟩
 ·rintro ⟨c,c'⟩ a3 ⟨rfl,W⟩
  refine zq (qa (xZ (I:=λx c F=>c=(none,())/\Wt KY a₀ κ a₀.size F/\((pendingOf F).size+x<=a₀.size\/(pendingOf F).size<=1)) (Q:=λc F=>c=(none,())/\Wt KY a₀ κ a₀.size F/\(pendingOf F).size<=1) ?_ ?_ ⟨rL,W,.inl ?_⟩) ?_)
  ·rintro x c O-hx ⟨rfl,U,l2⟩
   refine zq (vU ?_)
   by_cases c1:(pendingOf O).size<=1
   ·rw[if_pos c1];exact zw ⟨rfl,U,c1⟩
   rw[if_neg c1]
   refine zq (za7 L U.b U.r (wo _) (by have c2:2<=(pendingOf O).size:=∅;exact zgm c2) λV B3 r3 _ z3=>?_)
   rw[if_neg (by simp)]
   exact zw ⟨rfl,⟨B3,r3⟩,by lia⟩
  ·rintro c O ⟨rfl,U,l2⟩
   exact⟨rfl,U,by lia⟩
  ·have:=Rn.le W.r
   rw[wI]at this
   lia
  ·rintro c O ⟨rfl,U,l2⟩
   refine zw (h O U.b ?_)
   have r:=U.r
   have hl:(pendingOf O).toList.length<=1:=by rw[wI];exact l2
   match hP:(pendingOf O).toList,hl with
   |[],_ =>
    rw[hP]at r
    have r':0=a₀.size:=r
    rw[<-r'];exact λi j _ _ h3=>absurd h3 (Nat.not_lt_zero _)
   |[p],_ =>
    rw[hP]at r
    obtain⟨_,_,u,e⟩:=r
    have e':0+p.2.1=a₀.size:=e
    rw[e']at u;exact u
 rintro x c a3-hx a2;rcases q:a2 with⟨lo,rfl,W,l1,l2⟩
 nofun
 by_cases c0:lo>=a₀.size
 ·rw[if_pos c0]
  obtain rfl:lo=a₀.size:=by lia
  exact zw ⟨rL,W⟩
 rw[if_neg c0]
 have a4:1<=(sortPriv% PySem.Builtin.minRun) a₀.size a₀.size 0:=zeB _ _ _ ∅
 generalize (sortPriv% PySem.Builtin.minRun) a₀.size a₀.size 0=mr at a4 ⊢
 refine zq (zfR L ∅ ∅ W.b λm O C2 m1 m2 u2=>?_)
 nofun
 have U:Wt KY a₀ κ lo O:=⟨W.b.ch C2,by rw[C2.pend];exact W.r.keep λi h1 h2=>xX (C2.out i (.inl h2))⟩
 clear C2 W
 rcases YY m mr with c1 | c1
 all_goals first
  | (rw[if_pos c1]
     refine zq (Xi (zq ?_))
     refine zjB L ∅ (show m<=min (a₀.size-lo) mr by lia) U.b u2 λV C3 u3=>?_
     rw[if_neg (by simp)]
     have W3:Wt KY a₀ κ lo V:=⟨U.b.ch C3,by rw[C3.pend];exact U.r.keep λi h1 h2=>xX (C3.out i (.inl h2))⟩
     have n1:1<=min (a₀.size-lo) mr:=by lia
     have n2:lo+min (a₀.size-lo) mr<=a₀.size:=by lia
     generalize min (a₀.size-lo) mr=n at *)
  | (rw[if_neg (show ¬m<mr by lia)]
     have W3:=U
     have u3:=u2
     have n1:1<=m:=m1
     have n2:lo+m<=a₀.size:=by lia
     generalize O=V at *
     generalize m=n at *)
 all_goals
  refine zq (vU ?_)
  have Y:∀G,Wt KY a₀ κ lo G->Up KY (arrOf G) lo (lo+n)->TQ J M A E (do modify (λs=>SortSt.mk' (kindOf s) (arrOf s) ((pendingOf s).push (lo,n,0)) (gallopOf s) (failedOf s));pure (ForInStep.yield ((none:Option Unit),lo+n)))
    (zfD (λc F=>c.1=none/\Wt KY a₀ κ a₀.size F) (λc F=>∃lo,c=(none,lo)/\Wt KY a₀ κ lo F/\lo<=a₀.size/\min (x+1) a₀.size<=lo)) G:=λG S u4=>by
   refine zq (qC (zw ⟨lo+n,rfl,⟨⟨S.b.perm,S.b.kind,S.b.fail⟩,?_⟩,n2,by lia⟩))
   show Rn KY (arrOf G) 0 ((pendingOf G).push (lo,n,0)).toList (lo+n)
   rw[YD]
   exact VE.mpr ⟨lo,S.r,rL,n1,u4,rL⟩
  cases hb:(pendingOf V).back? with
  |none=>exact Y V W3 u3
  |some p =>
   obtain⟨s1,a1,a6⟩:=p
   nofun
   generalize (sortPriv% PySem.Builtin.power) a₀.size (2*s1+a1) (2*s1+a1+a1+n) a₀.size=pw
   refine zq (qa (xZ (I:=λy c F=>c=(none,())/\Wt KY a₀ κ lo F/\Up KY (arrOf F) lo (lo+n)) (Q:=λc F=>c=(none,())/\Wt KY a₀ κ lo F/\Up KY (arrOf F) lo (lo+n)) ?_ (λ_ _ z=>z) ⟨rL,W3,u3⟩) ?_)
   ·rintro y c G-hy ⟨rfl,S,u4⟩
    refine zq (vU ?_)
    by_cases c2:(pendingOf G).size>1
    ·obtain⟨⟨f1,f2,a5⟩,ef⟩:∃p,(pendingOf G)[(pendingOf G).size-2]?=some p:=⟨_,wK ∅⟩
     rw[if_pos c2,ef]
     nofun
     split
     ·exact zw ⟨rL,S,u4⟩
     ·refine zq (za7 L S.b S.r ∅ (show (pendingOf G).size-2+1<(pendingOf G).size by lia) λa7 B5 r5 o5 z5=>?_)
      rw[if_neg (by simp)]
      exact zw ⟨rfl,⟨B5,r5⟩,λi j h1 h2 h3=>by rw[xX (o5 i h1),xX (o5 j ∅)];exact u4 i j h1 h2 h3⟩
    ·rw[if_neg c2]
     exact zw ⟨rL,S,u4⟩
   ·rintro c G ⟨rfl,S,u4⟩
    nofun
    refine zq (qC ?_)
    refine Y _ ⟨⟨S.b.perm,S.b.kind,S.b.fail⟩,?_⟩ u4
    refine Rn.like (P:=(pendingOf G).toList) ?_ S.r
    show (((pendingOf G).modify _ _).toList).map _=_
    rw[Array.toList_modify]
    apply uL
    intro i
    rw[wu,wu,List.getElem?_modify]
    split
    ·cases(pendingOf G).toList[i]? <;> rfl
    ·cases(pendingOf G).toList[i]? <;> rfl
end TS
namespace ST
open PySem
def Ris (xs:Array Nat):Prop:=∀(i j x y:Nat),i<j->xs[i]?=some x->xs[j]?=some y->x<y
def zdr (n:Nat):Ris (Array.range n):=λi j x y h e1 e2=>by
 obtain⟨h1,e1⟩:=wX.mp e1
 obtain⟨h2,e2⟩:=wX.mp e2
 rw[Array.getElem_range]at e1 e2
 lia
def Xq {xs:Array Nat}(R:Ris xs) (j:Nat):SetTable.below xs j<=xs.size/\(∀i x:Nat,i<SetTable.below xs j->xs[i]?=some x->x<j)/\∀i x:Nat,SetTable.below xs j<=i->xs[i]?=some x->j<=x:=by
 have V:∀(f lo hi:Nat),lo<=hi->hi<=xs.size->hi-lo<=f->(∀i x:Nat,i<lo->xs[i]?=some x->x<j)->(∀i x:Nat,hi<=i->xs[i]?=some x->j<=x) →
   SetTable.below.go xs j f lo hi<=xs.size/\(∀i x:Nat,i<SetTable.below.go xs j f lo hi->xs[i]?=some x->x<j)/\∀i x:Nat,SetTable.below.go xs j f lo hi<=i->xs[i]?=some x->j<=x:=by
  intro f
  induction f with
  |zero =>
   intro lo hi h1 h2 W O G
   obtain rfl:lo=hi:=by lia
   exact⟨h2,O,G⟩
  |succ f ih =>
   intro lo hi h1 h2 W O G
   unfold SetTable.below.go
   by_cases c:lo<hi
   ·rw[if_pos c]
    have S:(lo+hi)/2<xs.size:=by lia
    have I:xs[(lo+hi)/2]?=some xs[(lo+hi)/2]:=wK S
    have U:xs.getD ((lo+hi)/2) j=xs[(lo+hi)/2]:=by simp[Array.getD,S]
    nofun
    rw[U]
    by_cases d:xs[(lo+hi)/2]<j
    ·rw[if_pos d]
     refine ih _ _ ∅ h2 ∅ (λi x F ex=>?_) G
     rcases YY i ((lo+hi)/2)with q | q
     ·exact Nat.lt_trans (R i _ _ _ q ex I) d
     ·obtain rfl:i=(lo+hi)/2:=by lia
      rw[I]at ex;cases ex;exact d
    ·rw[if_neg d]
     refine ih _ _ ∅ ∅ ∅ O (λi x F ex=>?_)
     rcases WO F with q | q
     ·rw[<-q,I]at ex;cases ex;lia
     ·have:=R _ i _ _ q I ex;lia
   ·rw[if_neg c]
    obtain rfl:lo=hi:=by lia
    exact⟨h2,O,G⟩
 exact V xs.size 0 xs.size (yb _) (wo _) ∅ (λi x h=>absurd h (Nat.not_lt_zero _)) (λi x h e=>absurd (wX.mp e).1 ∅)
def Qc {α:Type}{xs:Array α}{p:Nat}{x:α}(G:p<=xs.size) (i:Nat):(SetTable.insertAt xs p x)[i]?=if i<p then xs[i]? else if i=p then some x else xs[i-1]?:=by
 rw[<-wO,SetTable.toList_insertAt]
 have F:(xs.toList.take p).length=p:=by rw[yn,wI];lia
 by_cases c:i<p
 ·rw[if_pos c,w8 ∅,WE c,wO]
 ·rw[if_neg c,wT ∅,F]
  by_cases d:i=p
  ·rw[if_pos d,d,Wj];rfl
  ·rw[if_neg d,show i-p=(i-p-1)+1 by lia,uH,WN,wO]
   congr 1;lia
def zgR {xs:Array Nat}(R:Ris xs){j:Nat}(S:∀i:Nat,xs[i]?≠some j):Ris (SetTable.insertAt xs (SetTable.below xs j) j):=by
 obtain⟨I,O,G⟩:=Xq R j
 generalize SetTable.below xs j=p at *
 intro i k x y F e1 e2
 rw[Qc I]at e1 e2
 by_cases c1:i<p
 ·rw[if_pos c1]at e1
  by_cases c2:k<p
  ·rw[if_pos c2]at e2;exact R i k x y F e1 e2
  ·rw[if_neg c2]at e2
   by_cases c3:k=p
   ·rw[if_pos c3]at e2;cases e2;exact O i x c1 e1
   ·rw[if_neg c3]at e2;exact R i (k-1) x y ∅ e1 e2
 ·rw[if_neg c1]at e1
  rw[if_neg ∅,if_neg ∅]at e2
  by_cases c4:i=p
  ·rw[if_pos c4]at e1;cases e1
   have h1:=G (k-1) y ∅ e2
   have h2:y≠j:=λz=>S (k-1) (by rw[e2,z])
   lia
  ·rw[if_neg c4]at e1;exact R (i-1) (k-1) x y ∅ e1 e2
def Jf {t:SetTable}(R:Ris t.place){j:Nat}(h:∀i:Nat,t.slot j≠.live i):∀i:Nat,t.place[i]?≠some j:=by
 obtain⟨O,G,I⟩:=Xq R j
 intro i e
 rcases Nat.lt_trichotomy i (SetTable.below t.place j)with c | c | c
 ·exact absurd (G i j c e) (uF _)
 ·refine h (SetTable.below t.place j) ?_
  unfold SetTable.slot
  nofun
  rw[<-c,e,if_pos (by simp)]
 ·have F:SetTable.below t.place j<t.place.size:=Nat.lt_trans c (wX.mp e).1
  have h1:=I _ _ (wo _) (wK F)
  have h2:=R _ i _ _ c (wK F) e
  lia
def Xx {t:SetTable}{hs:Nat->Int}{h:Int}:∀(f:Nat) (p:SetTable.Probe) (j:Nat) (d:Option Nat),(∀q,p.dummy=some q->∀i,t.slot q≠.live i)->SetTable.probe.go t hs h f p=some (.empty j d)->(∀i,t.slot j≠.live i)/\∀q,d=some q->∀i,t.slot q≠.live i
 |0,p,j,d,_,e=>by cases e
 |f+1,p,j,d,hp,e=>by
  unfold SetTable.probe.go at e
  have F:∀p:SetTable.Probe,(t.advance p).dummy=p.dummy:=λp=>by unfold SetTable.advance;split <;> rfl
  cases hs':t.slot p.j with
  |empty =>
   rw[hs']at e
   cases e
   exact⟨λi z=>by rw[hs']at z;simp at z,hp⟩
  |dummy =>
   rw[hs']at e
   refine Xx f _ j d (λq G i=>?_) e
   rw[F]at G
   cases G
   rw[hs'];simp
  |live i =>
   rw[hs']at e
   dsimp only at e
   split at e
   ·cases e
   ·exact Xx f _ j d (λq G=>by rw[F]at G;exact hp q G) e
def zaD {t:SetTable}(R:Ris t.place){h:Int}{j:Nat}{b:Bool}(e:t.freeSlot h=some (j,b)):∀i:Nat,t.place[i]?≠some j:=by
 unfold SetTable.freeSlot at e
 split at e
 ·rename_i j' d hp
  obtain⟨h1,h2⟩:=Xx _ _ _ _ (λq z=>by unfold SetTable.probeStart at z;cases z) hp
  have F:=Option.some.inj e
  have e1:d.getD j'=j:=congrArg Prod.fst F
  cases d with
  |none=>rw[<-e1];exact Jf R h1
  |some q=>rw[<-e1];exact Jf R (h2 q rfl)
 ·cases e
structure Gd (bt:Bool) (t:SetTable):Prop where
 ris:Ris t.place
 led:bt=false->t.led=true
def Qb {bt:Bool}{t:SetTable}{n:Nat}(h:bt=false->t.led=true):Gd bt (t.standIn n):=⟨zdr n,h⟩
def zjR {bt:Bool}{t:SetTable}{n:Nat}(h:Gd bt t):Gd bt (t.orStandIn n):=by
 unfold SetTable.orStandIn
 split
 ·exact h
 ·exact Qb h.led
def zh4 {bt:Bool}{t:SetTable}(G:Gd bt t) (es:Array (Int×Value)) (h:Int) (x:Value):Gd bt (layNew t es h x).2.1:=by
 unfold layNew
 split
 ·rename_i j b e
  exact zjR ⟨zgR G.ris (zaD G.ris e),G.led⟩
 ·exact Qb G.led
def ze4 (owner:Array (Option Nat)) (n:Nat):Ris (((List.range n).filterMap λj=>(owner.getD j none).map (j,·)).map (·.1)).toArray:=by
 have h:((List.range n).filterMap λj=>(owner.getD j none).map (j,·)).map (·.1)=(List.range n).filterMap λj=>(owner.getD j none).map λ_=>j:=by
  rw[List.map_filterMap]
  congr 1
  funext j
  cases owner.getD j none <;> rfl
 rw[h]
 have p:((List.range n).filterMap λj=>(owner.getD j none).map λ_=>j).Pairwise (· < ·):=by
  rw[List.pairwise_filterMap]
  refine(List.pairwise_lt_range (n:=n)).imp λ{a b} I x F y G=>?_
  cases ha:owner.getD a none with
  |none=>rw[ha]at F;cases F
  |some _ =>
   cases hb:owner.getD b none with
   |none=>rw[hb]at G;cases G
   |some _ =>
    rw[ha]at F;rw[hb]at G
    cases F;cases G;exact I
 intro i j x y O e1 e2
 rw[W1]at e1 e2
 obtain⟨h1,e1⟩:=wS.mp e1
 obtain⟨h2,e2⟩:=wS.mp e2
 rw[<-e1,<-e2]
 exact uW.mp p i j h1 h2 O
def zec {bt:Bool}{t:SetTable}(G:Gd bt t) (es:Array (Int×Value)) (n:Nat):Gd bt (relayAll t es n).2.1:=by
 unfold relayAll
 split
 ·rename_i t' order e
  nofun
  split
  ·unfold SetTable.relaid SetTable.laid at e
   cases hl:SetTable.layClean (SetTable.sizeAbove n-1) (es.map λx=>x.1)with
   |none=>rw[hl]at e;cases e
   |some owner =>
    rw[hl]at e
    have F:=Option.some.inj e
    have e1:=congrArg Prod.fst F
    rw[<-e1]
    exact⟨ze4 _ _,G.led⟩
  ·exact Qb G.led
 ·exact Qb G.led
open PyProof.Rows
variable {prog:Program}{w:World}{A:Around}{E:Value->Shared->Prop}{s:Shared}{bt:Bool}
def nm:Value->Int
 |.int n _=>n
 |_=>0
def SI (prog:Program) (w:World) (bt:Bool) (h:Heap) (a:Addr) (ks:List Int):Prop :=
 ∃(o:Obj) (es:Array (Int×Value)) (ep:Nat) (t:SetTable),h.get? a=some o/\o.ExactSet/\o.data=.set es ep t/\ElemsOf (intKind prog w) es.toList/\(es.toList.map λe=>nm e.2).Perm ks/\t.fits es.size=true/\Gd bt t
theorem zdV {es:List (Int×Value)} (h:ElemsOf (intKind prog w) es){e:Int×Value}(m:e∈es):∃tk,e.2=.int (nm e.2) tk:=by
 obtain⟨⟨k,F,_⟩,_⟩:=h e m
 obtain⟨tk,q⟩:=Value.isInt_shape (k:=k) (v:=e.2) F
 exact⟨tk,by rw[q];rfl⟩
theorem zjU {k:Int}{v:Value}(h:(intKind prog w).is k v=true):nm v=k:=by
 obtain⟨tk,q⟩:=Value.isInt_shape (k:=k) (v:=v) h
 rw[q];rfl
theorem zaj {h:Heap}{a:Addr}{ks:List Int}{es:Array (Int×Value)} (p:(es.toList.map λe=>nm e.2).Perm ks):es.size=ks.length:=by
 have:=p.length_eq
 rw[wc,wI]at this;exact this
theorem ze2 {h:Heap}{a:Addr}{o:Obj}{es es':Array (Int×Value)}{ep:Nat}{t t':SetTable}(ho:h.get? a=some o) (hd:o.data=.set es ep t):(h.update a (Obj.putSet es' t')).get? a=some { o with data:=.set es' (ep+1) t' }:=by
 have:=yQ (Obj.putSet es' t') ho (by rw[putSet_of es' t' hd];rfl)
 rw[putSet_of es' t' hd]at this;exact this
theorem zfa {a:Addr}{ks:List Int}{k:Int}{tk:Tok}{Q:Bool->Shared->Prop}(hS:SI prog w bt s.heap a ks) (hr:ks.length+1<scanBound)
  (h:∀h' b,Heap.SameBut a s.heap h'->SI prog w bt h' a (if k∈ks then ks else k::ks)->Q b { s with heap:=h' }):wpAny (model prog w) A (setAddHashed a (.int k tk) ((intKind prog w).hash k)) Q E s:=by
 obtain⟨o,es,ep,t,ho,hex,hd,hel,hp,hf,G⟩:=id hS
 have hz:=zaj (h:=s.heap) (a:=a) hp
 have hkey:(intKind prog w).is k (.int k tk)=true:=intKind_is _ _ _ _
 refine yZ (we (u9 ho hd hf ?_))
 nofun
 rw[byScan_of rfl (show es.size<scanBound by lia) hel]
 refine we (we (Yf (we (wpAny_setScan_of hkey ho hd hf hel ?_))))
 cases hr':List.findIdx? (λe=>(intKind prog w).is k e.2) es.toList with
 |some j =>
  obtain⟨hj,hpj,_⟩:=List.findIdx?_eq_some_iff_getElem.mp hr'
  have hm:k∈ks:=hp.mem_iff.mp (wf.mpr ⟨_,List.getElem_mem hj,zjU hpj⟩)
  have:=h s.heap false (Heap.SameBut.refl a s.heap)
  rw[if_pos hm]at this
  exact wn (wn (this hS))
 |none =>
  have hm:¬k∈ks:=λm=>by
   obtain⟨e,me,ek⟩:=wf.mp (hp.mem_iff.mpr m)
   obtain⟨tk',q⟩:=zdV hel me
   have:=List.findIdx?_eq_none_iff.mp hr' e me
   rw[q,ek]at this
   rw[intKind_is]at this;cases this
  have fin:∀h',Heap.SameBut a s.heap h'->SI prog w bt h' a (k::ks)->Q true { s with heap:=h' }:=λh' sb si=>h h' true sb (by rw[if_neg hm];exact si)
  nofun
  have lp:=layNew_perm t es ((intKind prog w).hash k) (.int k tk)
  have lf:=layNew_fits t es ((intKind prog w).hash k) (.int k tk)
  have lg:=zh4 G es ((intKind prog w).hash k) (.int k tk)
  generalize layNew t es ((intKind prog w).hash k) (.int k tk)=N at lp lf lg ⊢
  obtain⟨es1,t1,dm,gv⟩:=N
  dsimp only at lp lf lg ⊢
  rw[YD]at lp
  have hel1:ElemsOf (intKind prog w) es1.toList:=(hel.push hkey rfl).perm lp
  have hp1:(es1.toList.map λe=>nm e.2).Perm (k::ks):=by
   refine(lp.map _).trans ?_
   rw[yt]
   exact(Wn.trans (List.Perm.cons _ hp))
  have hz1:=zaj (h:=s.heap) (a:=a) hp1
  rw[wx]at hz1
  have gave:∀(b:Bool){st:Shared}{R:Unit->Shared->Prop},R () st->wpAny (model prog w) A (match b with | true=>rule "set.scan.the-table-gave-way" |false=>pure ()) R E st:=λb st R r=>by
   cases b with
   |true=>exact Yf r
   |false=>exact wn r
  refine we (gave gv ?_)
  rcases hpl:t1.plain with _ | _
  all_goals first
   | (rw[if_neg ya]
      refine we (wn ?_)
      simp only[if_true])
   | (rw[if_pos rfl]
      refine we ?_
      rw[hashByValue_scannable 8 rfl]
      refine wn ?_
      simp only[plainKind,if_true])
  all_goals
   refine we (wpAny_storeSet_of ho hd ?_ (fits_of_scanBound ∅))
   have e2:=ze2 (es':=es1) (t':=t1) ho hd
   have sb2:=Heap.SameBut.update s.heap a (Obj.putSet es1 t1)
   generalize s.heap.update a (Obj.putSet es1 t1)=h2 at e2 sb2 ⊢
   split
   ·have rp:=relayAll_perm t1 es1 (SetTable.grown es1.size)
    have rf:=relayAll_fits t1 es1 (SetTable.grown es1.size)
    have rg:=zec lg es1 (SetTable.grown es1.size)
    generalize relayAll t1 es1 (SetTable.grown es1.size)=L at rp rf rg ⊢
    obtain⟨es2,t3,g3⟩:=L
    dsimp only at rp rf rg ⊢
    have hp2:=(rp.map λe=>nm e.2).trans hp1
    have hz2:=zaj (h:=s.heap) (a:=a) hp2
    rw[wx]at hz2
    refine we (gave g3 ?_)
    refine we (wpAny_storeSet_of e2 rL ?_ (fits_of_scanBound ∅))
    exact wn (wn (fin _ (sb2.trans (Heap.SameBut.update _ a _)) ⟨_,es2,_,t3,ze2 e2 rL,hex,rL,hel1.perm rp,hp2,rf,rg⟩))
   ·exact wn (wn (fin h2 sb2 ⟨_,es1,_,t1,e2,hex,rL,hel1,hp1,lf,lg⟩))
theorem SI.same {h h':Heap}{a:Addr}{ks:List Int}(S:SI prog w bt h a ks) (k:∀o,h.get? a=some o->h'.get? a=some o):SI prog w bt h' a ks:=by
 obtain⟨o,es,ep,t,F,r⟩:=S
 exact⟨o,es,ep,t,k o F,r⟩
def uq:List Int->List Int
 |[]=>[]
 |k::r=>if k∈uq r then uq r else k::uq r
theorem uq_mem:∀{ns:List Int}{k:Int},k∈uq ns↔k∈ns
 |[],k=>Iff.rfl
 |n::r,k=>by
  unfold uq
  split
  ·rename_i c
   rw[uq_mem,ww]
   exact⟨.inr,λh=>h.elim (λe=>e ▸ uq_mem.mp c) id⟩
  ·rw[ww,ww,uq_mem]
theorem uq_nodup:∀(ns:List Int),(uq ns).Nodup
 |[]=>Y3
 |n::r=>by
  unfold uq
  split
  ·exact uq_nodup r
  ·rename_i c
   exact uz.mpr ⟨c,uq_nodup r⟩
theorem uq_len:∀(ns:List Int),(uq ns).length<=ns.length
 |[]=>wo _
 |n::r=>by
  unfold uq
  have:=uq_len r
  split <;> simp <;> lia
theorem zfN {ns:List Int}{i:Nat}{k:Int}(h:ns[i]?=some k):(ns.take (i+1)).reverse=k::(ns.take i).reverse:=by
 rw[yA,h]
 simp
theorem zfT {R:Result->Shared->Prop}{I l:Addr}{items:Array Value}{ns:List Int}(hh:A.handled=none) (hI:IntsAre items.toList ns) (hb:ns.length+1<scanBound) (Y:l≠I) (S:Addr) (h1:S≠I) (a1:S≠l) :
  ∀(k i:Nat) (s:Shared),ns.length-i=k->i<=ns.length->s.heap.IsListIter I l i->s.heap.IsList l items->SI prog w bt s.heap S (uq (ns.take i).reverse) →
   (∀h' tk,(∀b o,b≠S->b≠I->s.heap.get? b=some o->h'.get? b=some o)->SI prog w bt h' S (uq ns.reverse)->R (.ok (.ret .none)) { s with heap:=h',toks:=tk }) →
   codeAny (model prog w) A (.builtin "set.update.loop" ⟨[.ref S,.ref I],[]⟩) R s:=by
 have hl:items.size=ns.length:=by have:=hI.length;rw[wI]at this;exact this
 have W:=Walks.list (prog:=prog) (w:=w) (A:=A.in1) hh I l Y items
 intro k
 induction k with
 |zero =>
  intro i s hk hi it il U hR
  obtain rfl:i=ns.length:=by lia
  refine codeAny_builtin F.entry_set_update_loop ?_
  rw[Around.under_plainId F.plain_set_update_loop _]
  refine we (W.done s _ _ (by rw[hl];exact⟨it,il⟩) λh' tk G=>?_)
  refine wn (hR h' tk (λb o b1 V e=>G b o ↥V e) ?_)
  rw[yq]at U
  exact U.same λo e=>G S o ↥h1 e
 |succ k ih =>
  intro i s hk hi it il U hR
  have O:i<ns.length:=by lia
  refine codeAny_builtin F.entry_set_update_loop ?_
  rw[Around.under_plainId F.plain_set_update_loop _]
  refine we (W.item i s _ _ ∅ ⟨it,il⟩ λv h' tk hv st G=>?_)
  obtain⟨t,rfl⟩:=hI.int_at i v (by rw[wO];exact hv)
  have hn:ns[i]?=some (ns.getD i 0):=by rw[List.getD,wJ O];rfl
  have a5:SI prog w bt h' S (uq (ns.take i).reverse):=U.same λo e=>G S o ↥h1 e
  refine we (yZ (yZ (we ((intKind prog w).pyHash (k:=ns.getD i 0) (intKind_is _ _ _ _) ?_))))
  have hr:(uq (ns.take i).reverse).length+1<scanBound:=by
   have:=uq_len (ns.take i).reverse
   rw[yp,yn]at this
   lia
  refine zfa (bt:=bt) (s:={ s with heap:=h',toks:=tk+1 }) a5 hr λh2 b sb a6=>?_
  have a4:SI prog w bt h2 S (uq (ns.take (i+1)).reverse):=by
   rw[zfN hn];exact a6
  have keep:∀b o,b≠S->h'.get? b=some o->h2.get? b=some o:=λb o hb e=>by rw[sb.2 b hb];exact e
  refine wn ⟨plainId_quiet F.plain_set_update_loop _,ih (i+1) _ ∅ O (st.1.at λo e=>keep I o (Ne.symm h1) e) (st.2.at λo e=>keep l o (Ne.symm a1) e) a4 λh3 a3 k3 a2=>?_⟩
  exact hR h3 a3 (λb o b1 V e=>k3 b o b1 V (keep b o b1 (G b o ↥V e))) a2
variable {prog:Program}{w:World}{A:Around}{E:Value->Shared->Prop}{s:Shared}
abbrev byT (w:World):Bool:=w.params.followText "set-order"
def Q7 (w:World):Obj:={ cls:=.type "set",dict:=none,data:=.set #[] 0 (.fresh 0 0 !byT w) }
theorem zgt (a:Value){Q:Value->Shared->Prop}(h:Q (.ref s.heap.objs.size) { s with heap:=s.heap.push (Q7 w) }) :
  codeAny (model prog w) A (.call (.builtin "set.__new__") ⟨[.type "set",a],[]⟩) (wants Q E) s:=by
 refine codeAny_of_tree (we (Y8 (F.newCall_set_1 a) (wn ⟨plainId_quiet F.plain_set_new _,codeAny_builtin F.entry_set_new ?_⟩)))
 rw[Around.under_plainId F.plain_set_new _]
 unfold Builtin.«set.__new__» Builtin.Frozenset.newClass
 have G:=sub_set_self
 obtain⟨I,g,d,tk,os⟩:=s
 nofun
 wp_walk
 exact YT (wn (we (wpAny_alloc (wn (wn h)))))
theorem zjc {h:Heap}:SI prog w (byT w) (h.push (Q7 w)) h.objs.size []:=by
 refine⟨Q7 w,#[],0,_,wH _ rfl,?_,rfl,λe m=>by simp at m,by simp,by rfl,⟨λi j x y _ e1 _=>by simp[SetTable.fresh]at e1,λF=>?_⟩⟩
 ·exact⟨rL,rL,rL⟩
 ·show (!byT w)=true
  rw[F];rfl
theorem call_set {l:Addr}{items:Array Value}{ns:List Int}{Q:Value->Shared->Prop}(hh:A.handled=none) (hl:s.heap.IsList l items) (hI:IntsAre items.toList ns) (hb:ns.length+1<scanBound)
  (h:∀h' tk,SI prog w (byT w) h' s.heap.objs.size (uq ns.reverse)->(∀b o,s.heap.get? b=some o->h'.get? b=some o)->Q (.ref s.heap.objs.size) { s with heap:=h',toks:=tk }) :
  wpAny (model prog w) A (call (.type "set") [.ref l]) Q E s:=by
 have ct:=F.called_set
 obtain⟨c,tl,Y⟩:=ct.mro
 have e1:=ct.made
 have e2:=ct.sub
 have e5:=F.typeCall_set_1 (.ref l)
 have e6:=ct.init.lookup
 have e7:=ct.init.bind (.ref s.heap.objs.size)
 refine Ua (codeAny_of_tree (wn ⟨Code.quiet_builtin _ (by decide +kernel),codeAny_builtin F.entry_type_call ?_⟩))
 rw[Around.under_plain (weight_type_call_type "set" [.ref l] []) rfl]
 repeat (any_goals (first | assumption | wp_step))
 refine codeAny_mono (zgt (w:=w) (.ref l) (E:=E) (Q:=λv W=>v=.ref s.heap.objs.size/\W = { s with heap:=s.heap.push (Q7 w) }) ⟨rfl,rfl⟩) λr W hr=>?_
 cases r with
 |error e=>exact hr
 |ok fl =>
  cases fl with
  |ret obj =>
   obtain⟨rfl,rfl⟩:=hr
   have hS:(s.heap.push (Q7 w)).get? s.heap.objs.size=some (Q7 w):=wH _ rfl
   have hT:Shared.TypeIs { s with heap:=s.heap.push (Q7 w) } (.ref s.heap.objs.size) "set":=⟨_,hS,rfl⟩
   repeat (any_goals (first | assumption | wp_step))
   refine codeAny_mono (codeAny_call_builtin (R:=wants (λr V=>r=.none/\Q (.ref s.heap.objs.size) V) E) ct.init.plain F.entry_set_init (check_set_init_1 hT ?_)) λr₂ V G=>?_
   ·obtain⟨⟨oc,od,dt,a1⟩,O,c1,nl,c2⟩:=id hl
    dsimp only at c1 c2
    subst c1 c2
    have g1:=wg (Q7 w) O
    have f1:=F.sub_list_set
    have f2:=F.sub_list_frozenset
    have U:(s.heap.push (Q7 w)).IsList l items:=⟨_,g1,rfl,nl,rfl⟩
    unfold Builtin.«set.__init__» noKeywords Builtin.Frozenset.updateFrom
    generalize hpi:pyIter=PI
    wp_walk
    subst hpi
    refine YI U (we (wpAny_runValue ?_))
    have lt:=wF O
    have I:(s.heap.push (Q7 w)).objs.size=s.heap.objs.size+1:=Wx ..
    have n1:l≠(s.heap.push (Q7 w)).objs.size:=by rw[I];exact wZ (u5 lt)
    have n2:s.heap.objs.size≠(s.heap.push (Q7 w)).objs.size:=by rw[I];exact wZ (W6 _)
    refine zfT (bt:=byT w) (by simp[hh]) hI hb n1 s.heap.objs.size n2 (WD lt) _ 0 _ rfl (yb _) ⟨_,wH _ rfl,rfl,rfl⟩ (U.push _) ?_ λh' tk kk si=>?_
    ·rw[Wz]
     exact(zjc (prog:=prog)).same λo e=>wg _ e
    ·refine wn (wn ⟨rL,h h' tk si λb o e=>?_⟩)
     have S:=wF e
     exact kk b o (wZ S) (by rw[I];exact wZ (u5 S)) (wg _ (wg _ e))
   ·cases r₂ with
    |error e=>exact G
    |ok fl₂ =>
     cases fl₂ with
     |ret r =>
      obtain⟨rfl,q⟩:=G
      repeat (any_goals (first | assumption | wp_step))
     |_=>exact G.elim
  |_=>exact hr.elim
theorem zdW:entryFor table "set.__iter__" = some Builtin.«frozenset.__iter__»:=entryFor_alias (id':="frozenset.__iter__") (by kernel_rfl) rfl (by decide +kernel) (by kernel_rfl)
theorem vj:Slot "set_iterator" "__next__" "set_iterator.__next__" :=
 .of (owner:="set_iterator") (n:="__next__") (by rw[typeLookup_type,builtinLookup_eq_fast];kernel_rfl) (by decide +kernel) (by decide +kernel) (by decide +kernel) (.inl (by decide +kernel)) (by rw[isSubtype_type];kernel_rfl)
theorem JN:entryFor table "set_iterator.__next__" = some Builtin.«set_iterator.__next__»:=entryFor_of_tree (by kernel_rfl)
theorem JC (a:Value):argsOk "set_iterator.__next__" ⟨[a],[]⟩:=by unfold argsOk;kernel_rfl
theorem zaZ:Slot "set_iterator" "__iter__" "set_iterator.__iter__" :=
 .of (owner:="set_iterator") (n:="__iter__") (by rw[typeLookup_type,builtinLookup_eq_fast];kernel_rfl) (by decide +kernel) (by decide +kernel) (by decide +kernel) (.inl (by decide +kernel)) (by rw[isSubtype_type];kernel_rfl)
theorem zf8:entryFor table "set_iterator.__iter__" = some Builtin.«dict_keyiterator.__iter__»:=entryFor_alias (id':="dict_keyiterator.__iter__") (by kernel_rfl) (by decide +kernel) (by decide +kernel) (by kernel_rfl)
theorem zf1 (a:Value):argsOk "set_iterator.__iter__" ⟨[a],[]⟩:=by unfold argsOk;kernel_rfl
variable {prog:Program}{w:World}{A:Around}{E:Value->Shared->Prop}{s:Shared}
def itO (f:Value) (a:Addr) (i n ep:Nat):Obj:={ cls:=.type "set_iterator",data:=.fields #[f,rawInt i,.ref a,rawInt n,rawInt ep] }
def SAt (h:Heap) (a:Addr) (es:Array (Int×Value)) (ep:Nat) (t:SetTable):Prop:=∃o,h.get? a=some o/\o.ExactSet/\o.data=.set es ep t/\t.fits es.size=true
theorem SAt.at {h h':Heap}{a:Addr}{es:Array (Int×Value)}{ep:Nat}{t:SetTable}(S:SAt h a es ep t) (k:∀o,h.get? a=some o->h'.get? a=some o):SAt h' a es ep t:=let ⟨o,ho,r⟩:=S;⟨o,k o ho,r⟩
theorem ite_no {α:Type}{M:Model}{c:Prop}{d:Decidable c}{m n:Sem α}{Q:α->Shared->Prop}(F:¬c) (h:wpAny M A n Q E s):wpAny M A (@ite _ c d m n) Q E s:=by rw[if_neg F];exact h
theorem Vb {α:Type}{M:Model}{c:Prop}{d:Decidable c}{m n:Sem α}{Q:α->Shared->Prop}(F:c) (h:wpAny M A m Q E s):wpAny M A (@ite _ c d m n) Q E s:=by rw[if_pos F];exact h
section
variable {a:Addr}{es:Array (Int×Value)}{ep:Nat}{t:SetTable}
theorem Z8 {Q:Bool->Shared->Prop}(h:Q (byT w) s):wpAny (model prog w) A setsByText Q E s:=we (YT (wn h))
theorem zdk {F i:Nat}{Q:Option (Value×Nat)->Shared->Prop} (S:SAt s.heap a es ep t) (G:byT w=true) (h:Q (((pickOrder (w.params.setOrder a ep) es)[i]?).map λe=>(e.2,F)) s):wpAny (model prog w) A (setNext a F i ep) Q E s:=by
 obtain⟨o,O,U,hd,I⟩:=S
 unfold setNext
 refine we (u9 O hd I (we (Z8 ?_)))
 nofun
 rw[G,if_pos rfl,if_neg (by simp)]
 refine we ?_
 unfold setWalk
 refine we (u9 O hd I (we (Z8 ?_)))
 rw[G,if_pos rfl]
 exact we (YT (wn (wn h)))
theorem zbG {F i:Nat}{Q:Option (Value×Nat)->Shared->Prop} (S:SAt s.heap a es ep t) (O:byT w=false) (I:(!t.plain&&decide (es.size>1))=false) (G:Gd (byT w) t)
  (h:Q (match es[SetTable.below t.place F]?,t.place[SetTable.below t.place F]? with | some e,some j=>some (e.2,j+1) | _,_=>none) s):wpAny (model prog w) A (setNext a F i ep) Q E s:=by
 obtain⟨o,W,U,hd,V⟩:=S
 unfold setNext
 refine we (u9 W hd V (we (Z8 ?_)))
 nofun
 rw[O,if_neg ya]
 refine ite_no (λz=>by have z':(!t.plain&&decide (es.size>1))=true:=z;rw[I]at z';cases z') (we (ite_no (by rw[G.led O];simp) ?_))
 exact wn (wn (by revert h;cases es[SetTable.below t.place F]? <;> cases t.place[SetTable.below t.place F]? <;> exact id))
theorem zbF {k:Nat}{e:Int×Value}{Q:Value->Shared->Prop}(S:SAt s.heap a es ep t) (F:es[k]?=some e) (h:Q e.2 s):wpAny (model prog w) A (setNextDrawn a k ep) Q E s:=by
 obtain⟨o,G,O,hd,I⟩:=S
 unfold setNextDrawn
 refine we (u9 G hd I ?_)
 nofun
 rw[if_neg (by simp),F]
 exact wn h
theorem stop {α:Type}{Q:α->Shared->Prop}{F:Value->Shared->Prop}(G:A.handled=none) (h:∀x h',(∀b o,s.heap.get? b=some o->h'.get? b=some o)->Shared.TypeIs { s with heap:=h' } (.ref x) "StopIteration"->F (.ref x) { s with heap:=h' }) :
  wpAny (model prog w) A (newExc (.type "StopIteration") [] >>= λe=>raiseNew e:Sem α) Q F s:=by
 simp only[newExc,newTuple]
 refine we (we (yI ?_ (by size_fits)))
 refine we (m:=firstArgMember _ _) (Y8 (a:=Value.none) (by first | rfl | (simp only[firstArgMember];rfl)) ?_)
 refine yI ?_ (by size_fits)
 refine wpAny_raiseNew_none G (h _ _ (λb o e=>wg _ (wg _ e)) ⟨_,wH _ rL,rL⟩)
end
variable {prog:Program}{w:World}{A:Around}{E:Value->Shared->Prop}{s:Shared}{a it:Addr}{es:Array (Int×Value)}{ep:Nat}{t:SetTable}
theorem zcF {f g:Value}{i:Nat}{Q:Unit->Shared->Prop}(F:s.heap.get? it=some (itO f a i es.size ep)) (h:∀h',h'.get? it=some (itO g a i es.size ep)->Heap.SameBut it s.heap h'->Q () { s with heap:=h' }):wpAny (model prog w) A (setField (.ref it) 0 g) Q E s :=
 Yx F (by show 0<5;decide) h
theorem zcG {f:Value}{i:Nat}{Q:Unit->Shared->Prop}(F:s.heap.get? it=some (itO f a i es.size ep)) (h:∀h',h'.get? it=some (itO f a (i+1) es.size ep)->Heap.SameBut it s.heap h'->Q () { s with heap:=h' }):wpAny (model prog w) A (setField (.ref it) 1 (rawInt ((i:Int)+1))) Q E s :=
 Yx F (by show 1<5;decide) h
theorem zcE {f:Value}{i:Nat}{Q:Unit->Shared->Prop}(F:s.heap.get? it=some (itO f a i es.size ep)) (h:∀h',Heap.SameBut it s.heap h'->Q () { s with heap:=h' }):wpAny (model prog w) A (setField (.ref it) 2 .none) Q E s :=
 Yx F (by show 2<5;decide) λh' _ G=>h h' G
theorem SAt.but {h h':Heap}(S:SAt h a es ep t) (G:Heap.SameBut it h h') (F:it≠a):SAt h' a es ep t:=S.at λo e=>by rw[G.2 a (Ne.symm F)];exact e
theorem zcD {f:Value}{i:Nat}{Q:Value->Shared->Prop}(F:s.heap.get? it=some (itO f a i es.size ep)) (h:Q (.ref it) s):wpAny (model prog w) A (pyIter (.ref it)) Q E s:=by
 have G:s.TypeIs (.ref it) "set_iterator":=⟨_,F,rfl⟩
 refine wpAny_pyIter_slot G zaZ (ut zaZ G zf8 ?_ (zf1 _))
 exact wn ⟨_,rL,"set_iterator",_,G,vj.lookup,h⟩
theorem zjQ {Q:Option Value->Shared->Prop}{s':Shared}{x:Addr}(F:s'.TypeIs (.ref x) "StopIteration") (h:Q none s'):wpAny (model prog w) A (do
  let b <-isInstance (.ref x) (.type "StopIteration")
  if b=true then pure none else throw (.ref x)) Q E s' :=
 we (wpAny_isInstance F isSubtype_stop (Vb rfl (wn h)))
theorem zba (hh:A.handled=none) (W:it≠a){ys:List Value}(V:Nat->Nat) (hy:ys.length=es.size)
  (NX:∀(s:Shared) (i:Nat) (A:Around) (E:Value->Shared->Prop) (Q:Option (Value×Nat)->Shared->Prop),i<=es.size->SAt s.heap a es ep t->Q ((ys[i]?).map λy=>(y,V (i+1))) s->wpAny (model prog w) A (setNext a (V i) i ep) Q E s) :
  Walks prog w A it [it,a] [it] es.size (λi v=>ys[i]?=some v) (λi h=>h.get? it=some (itO (rawInt (V i)) a i es.size ep)/\SAt h a es ep t) where
 sub:=λb G=>by simp at G;simp[G]
 frame:=λi h h' st k=>⟨k it (by simp) _ st.1,st.2.at λo e=>k a (by simp) o e⟩
 item:=by
  intro i s Q E hi ⟨F,S⟩ k
  have I:s.TypeIs (.ref it) "set_iterator":=⟨_,F,rfl⟩
  obtain⟨o,ho,a3,hd,hf⟩:=id S
  unfold pyNext
  refine we (Ye (wpAny_callSpecial?_slot (name:=Str.ofString "__next__") I vj (ut vj I JN ?_ (JC _))))
  unfold Builtin.«set_iterator.__next__»
  refine we (wn (we (YB F rfl (we (Wa ho hd hf (ite_no (by simp) ?_))))))
  have U:ys[i]?=some ys[i]:=wJ ∅
  refine we (NX s i _ _ _ (Yn hi) S ?_)
  rw[U]
  refine we (zcF F λh1 e1 a2=>we (zcG e1 λh2 e2 Y=>wn ⟨_,rL,wn ?_⟩))
  have O:=a2.trans Y
  exact k _ _ _ U ⟨e2,S.but O W⟩ λb o G e=>by rw[O.2 b ↥G];exact e
 done:=by
  intro s Q E ⟨F,S⟩ k
  have I:s.TypeIs (.ref it) "set_iterator":=⟨_,F,rfl⟩
  obtain⟨o,ho,a3,hd,hf⟩:=id S
  unfold pyNext
  refine we (Ye (wpAny_callSpecial?_slot (name:=Str.ofString "__next__") I vj (ut vj I JN ?_ (JC _))))
  unfold Builtin.«set_iterator.__next__»
  refine we (wn (we (YB F rfl (we (Wa ho hd hf (ite_no (by simp) ?_))))))
  have U:ys[es.size]?=none:=yF ∅
  refine we (NX s _ _ _ _ (wo _) S ?_)
  rw[U]
  refine we (zcE F λh1 O=>stop (by simp[hh]) λx h2 kk a1=>zjQ a1 (k h2 _ λb o G e=>kk b o (by rw[O.2 b ↥G];exact e)))
 self:=λi s Q E st h=>zcD st.1 h
theorem zbX (hh:A.handled=none) (W:it≠a){p:Addr}(a4:it≠p){ks:List Nat}(hk:ks.Perm (List.range es.size)) :
  Walks prog w A it [it,a,p] [it] es.size (λi v=>(ks.map λk=>(es.getD k (0,.none)).2)[i]?=some v) (λi h=>h.get? it=some (itO (.ref p) a i es.size ep)/\SAt h a es ep t/\∃c I dd,h.get? p=some { cls:=c,dict:=dd,data:=.seq (ks.map λk=>rawInt (k:Nat)).toArray 0,slots:=I }) where
 sub:=λb G=>by simp at G;simp[G]
 frame:=λi h h' st k=>⟨k it (by simp) _ st.1,st.2.1.at λo e=>k a (by simp) o e,let ⟨c,I,dd,e⟩:=st.2.2;⟨c,I,dd,k p (by simp) _ e⟩⟩
 item:=by
  intro i s Q E hi ⟨F,S,c,I,dd,U⟩ k
  have O:s.TypeIs (.ref it) "set_iterator":=⟨_,F,rfl⟩
  obtain⟨o,ho,a3,hd,hf⟩:=id S
  unfold pyNext
  refine we (Ye (wpAny_callSpecial?_slot (name:=Str.ofString "__next__") O vj (ut vj O JN ?_ (JC _))))
  unfold Builtin.«set_iterator.__next__»
  refine we (wn (we (YB F rfl (we (Wa ho hd hf (ite_no (by simp) ?_))))))
  have lk:ks.length=es.size:=by rw[hk.length_eq,yU]
  have ek:ks[i]?=some ks[i]:=wJ (by omega)
  have hm:ks[i]<es.size:=Wd.mp (hk.mem_iff.mp (List.getElem_mem _))
  have ee:es[ks[i]]?=some es[ks[i]]:=wK hm
  refine we (we (Y9 U (wn ?_)))
  have e1:(ks.map λk=>rawInt (k:Nat)).toArray[((i:Nat):Int).toNat]?=some (rawInt ((ks[i]:Nat):Int)):=by
   rw[Int.toNat_natCast,W1,wu,ek];rfl
  nofun
  rw[e1]
  refine we (zbF (t:=t) S (k:=ks[i]) ee ?_)
  refine we (zcG F λh2 e2 V=>wn ⟨_,rL,wn ?_⟩)
  refine k _ _ _ ?_ ⟨e2,S.but V W,c,I,dd,by rw[V.2 p (Ne.symm a4)];exact U⟩ λb o G e=>by rw[V.2 b ↥G];exact e
  rw[wu,ek]
  simp[Array.getD,hm]
 done:=by
  intro s Q E ⟨F,S,c,I,dd,U⟩ k
  have O:s.TypeIs (.ref it) "set_iterator":=⟨_,F,rfl⟩
  obtain⟨o,ho,a3,hd,hf⟩:=id S
  unfold pyNext
  refine we (Ye (wpAny_callSpecial?_slot (name:=Str.ofString "__next__") O vj (ut vj O JN ?_ (JC _))))
  unfold Builtin.«set_iterator.__next__»
  refine we (wn (we (YB F rfl (we (Wa ho hd hf (ite_no (by simp) ?_))))))
  have lk:ks.length=es.size:=by rw[hk.length_eq,yU]
  refine we (we (Y9 U (wn ?_)))
  have e1:(ks.map λk=>rawInt (k:Nat)).toArray[((es.size:Nat):Int).toNat]?=none:=by
   rw[Int.toNat_natCast,W1,yF (by rw[wc];omega)]
  nofun
  rw[e1]
  refine we (zcF F λh1 e1 a2=>we (zcE e1 λh2 a1=>stop (by simp[hh]) λx h3 kk Y=>zjQ Y (k h3 _ λb o G e=>kk b o ?_)))
  rw[a1.2 b ↥G,a2.2 b ↥G];exact e
 self:=λi s Q E st h=>zcD st.1 h
variable {prog:Program}{w:World}{A:Around}{E:Value->Shared->Prop}{s:Shared}{a:Addr}{es:Array (Int×Value)}{ep:Nat}{t:SetTable}
theorem Zr {α:Type}:∀{l:List α}{i:Nat}{x:α},l[i]?=some x->(x::l.eraseIdx i).Perm l
 |[],i,x,h=>by cases h
 |y::l,0,x,h=>by cases h;exact .refl _
 |y::l,i+1,x,h=>by
  rw[List.eraseIdx_cons_succ]
  exact(List.Perm.swap y x _).trans (List.Perm.cons y (Zr ↥h))
theorem Jm {α:Type}{l:List α}{i:Nat}{x:α}(h:l[i]?=some x):(l.eraseIdx i).length+1=l.length:=by
 have:=(Zr h).length_eq
 rw[wx]at this;exact this
theorem Jq {α:Type}(nx:Nat->Nat) (xs:Array α):(pickOrder nx xs).toList.Perm xs.toList:=by
 have I:∀(f k:Nat) (l:List α) (o:Array α),l.length=f->(pickOrder.go nx f k l o).toList.Perm (o.toList++l):=by
  intro f
  induction f with
  |zero =>
   intro k l o G
   obtain rfl:=uf.mp G
   rw[yP];exact .refl _
  |succ f ih =>
   intro k l o G
   have F:nx k % l.length<l.length:=Nat.mod_lt _ ∅
   have ex:l[nx k % l.length]?=some l[nx k % l.length]:=wJ F
   unfold pickOrder.go
   rw[ex]
   refine(ih (k+1) _ _ (by have:=Jm ex;lia)).trans ?_
   rw[YD,ym]
   exact List.Perm.append_left _ (Zr ex)
 have:=I xs.size 0 xs.toList #[] (by simp)
 rw[show (#[]:Array α).toList=[]from rfl,WM]at this
 exact this
theorem zbi {M:Model}{n:Nat}{Q:Nat->Shared->Prop}(F:n≠0) (h:∀i d,i<n->Q i { s with drawn:=d }):wpAny M A (choose .order n) Q E s:=fun Γ p G=>⟨F,h _ _ (Nat.mod_lt _ (Nat.pos_of_ne_zero F))⟩
theorem Jd {α:Type}{M:Model}:∀{n:Nat}{l:List α}{s:Shared}{Q:List α->Shared->Prop},l.length=n->(∀xs d,xs.Perm l->Q xs { s with drawn:=d })->wpAny M A (drawOrder n l) Q E s
 |0,l,s,Q,hl,h=>by
  obtain rfl:=uf.mp hl
  exact wn (h [] s.drawn (.refl _))
 |n+1,l,s,Q,hl,h=>by
  match l,hl with
  |y::l,hl =>
   refine we (zbi (by simp) λi I F=>?_)
   have ex:(y::l)[i]?=some (y::l)[i]:=wJ F
   rw[ex]
   refine we (Jd (by have:=Jm ex;lia) λxs d G=>wn (h _ d ?_))
   exact(List.Perm.cons _ G).trans (Zr ex)
theorem zdM {xs:Array Nat}(R:Ris xs){i:Nat}(hi:i<=xs.size):SetTable.below xs (if i=0 then 0 else xs.getD (i-1) 0+1)=i:=by
 obtain⟨S,O,I⟩:=Xq R (if i=0 then 0 else xs.getD (i-1) 0+1)
 generalize hb:SetTable.below xs (if i=0 then 0 else xs.getD (i-1) 0+1)=b at *
 rcases Nat.lt_trichotomy b i with c | c | c
 ·have G:xs[b]?=some xs[b]:=wK ∅
  have h1:=I b _ (wo _) G
  rw[if_neg ∅]at h1
  have h2:i-1<xs.size:=by lia
  have e2:xs.getD (i-1) 0=xs[i-1]:=by simp[Array.getD,h2]
  rw[e2]at h1
  rcases WO (show b<=i-1 by lia)with q | q
  ·subst q;lia
  ·have:=R b (i-1) _ _ q G (wK h2);lia
 ·exact c
 ·have F:xs[i]?=some xs[i]:=wK ∅
  have h1:=O i _ c F
  by_cases z:i=0
  ·rw[if_pos z]at h1;lia
  ·rw[if_neg z]at h1
   have h2:i-1<xs.size:=by lia
   have e2:xs.getD (i-1) 0=xs[i-1]:=by simp[Array.getD,h2]
   rw[e2]at h1
   have:=R (i-1) i _ _ ∅ (wK h2) F
   lia
structure Itr (prog:Program) (w:World) (h0 h:Heap) (a it:Addr) (es:Array (Int×Value)) (ys:List Value) (fp:List Addr) (St:Nat->Heap->Prop):Prop where
 pm:ys.Perm (es.toList.map λe=>e.2)
 wk:∀A:Around,A.handled=none->Walks prog w A it fp [it] es.size (λi v=>ys[i]?=some v) St
 st:St 0 h
 kp:∀b o,h0.get? b=some o->h.get? b=some o
 fp:∀b∈fp,b=a\/h0.objs.size<=b
 it:h0.objs.size<=it
theorem zg3 {Q:Nat->Shared->Prop}(S:SAt s.heap a es ep t) (h:Q es.size s):wpAny (model prog w) A (Builtin.Frozenset.sizeOf a) Q E s:=by
 obtain⟨o,F,G,hd,I⟩:=S
 exact we (Wa F hd I (wn h))
theorem zfl {Q:Value->Shared->Prop}(S:SAt s.heap a es ep t) (G:Gd (byT w) t) (hz:es.size<=sizeLine) (h:∀it h' d ys V St,Itr prog w s.heap h' a it es ys V St->Q (.ref it) { s with heap:=h',drawn:=d }):wpAny (model prog w) A (pyIter (.ref a)) Q E s:=by
 obtain⟨o,Y,a2,hd,U⟩:=id S
 have lt:a<s.heap.objs.size:=wF Y
 have hT:s.TypeIs (.ref a) "set":=⟨o,Y,a2.1⟩
 have pz:t.place.size=es.size:=by
  unfold SetTable.fits at U
  simp only[uN,beq_iff_eq]at U
  exact U.1
 refine wpAny_pyIter_slot hT F.slot_set_iter (ut F.slot_set_iter hT zdW ?_ (F.args_set_iter_1 _))
 unfold Builtin.«frozenset.__iter__» Builtin.Frozenset.slot0
 refine we (wn (we (zg3 S ?_)))
 refine we ?_
 unfold setDrawn
 refine we (u9 Y hd U (we (Z8 (wn ?_))))
 have make:∀(f:Value) (h1:Heap) (d:Drawn) (ys:List Value) (V:Addr->List Addr) (St:Addr->Nat->Heap->Prop),(∀b o,s.heap.get? b=some o->h1.get? b=some o)->s.heap.objs.size<=h1.objs.size →
   ys.Perm (es.toList.map λe=>e.2)->(∀A:Around,A.handled=none->Walks prog w A h1.objs.size (V h1.objs.size) [h1.objs.size] es.size (λi v=>ys[i]?=some v) (St h1.objs.size))->(St h1.objs.size) 0 (h1.push (itO f a 0 es.size ep)) →
   (∀b∈V h1.objs.size,b=a\/s.heap.objs.size<=b) →
   wpAny (model prog w) A.in1 (setEpoch a >>= λe=>newFields "set_iterator" [f,rawInt 0,.ref a,rawInt es.size,rawInt e] >>= λv=>ret v) (λa1 s'=>∃v,a1=.done (.ret v)/\∃T' r,s'.TypeIs v T'/\typeLookup (.type T') (Str.ofString "__next__")=pure (some r)/\Q v s') E { s with heap:=h1,drawn:=d } :=
  λf h1 d ys V St k1 I pm wk st a3=>by
   refine we (wpAny_setEpoch_of (k1 _ _ Y) hd U (we (yI ?_ (by size_fits))))
   refine wn ⟨_,rL,"set_iterator",_,⟨_,wH _ rL,rL⟩,vj.lookup,?_⟩
   exact h h1.objs.size _ d ys _ _ ⟨pm,wk,st,λb o e=>wg _ (k1 b o e),a3,I⟩
 have ne:s.heap.objs.size≠a:=WD lt
 cases hb:byT w with
 |true =>
  refine ite_no (by simp) (we (wn ?_))
  refine make (rawInt 0) s.heap s.drawn ((pickOrder (w.params.setOrder a ep) es).toList.map λe=>e.2) (λit=>[it,a]) (λit i h=>h.get? it=some (itO (rawInt ((λ_=>0) i:Nat)) a i es.size ep)/\SAt h a es ep t) (λ_ _ e=>e) (wo _) ((Jq _ _).map _) (λA O=>zba O ne (λ_=>0) (by rw[wc,(Jq _ _).length_eq,wI]) λs i A E Q hi S q=>zdk S hb ?_) ⟨wH _ rfl,S.at λo e=>wg _ e⟩ (λb m=>?_)
  ·rw[wu,Option.map_map]at q
   rw[<-wO];exact q
  ·rcases ww.mp m with e | m
   ·exact .inr (WX e.symm)
   ·exact .inl (wU.mp m)
 |false =>
  by_cases hp:(!t.plain&&decide (es.size>1))=true
  ·refine Vb (by rw[Bool.not_false,YN];exact hp) (we (Jd (by rw[yU]) λks d W=>we (wpAny_newTuple ?_ (by rw[wc,W.length_eq,yU];exact hz))))
   ·have lk:ks.length=es.size:=by rw[W.length_eq,yU]
    have np:s.heap.objs.size+1≠s.heap.objs.size:=Nat.succ_ne_self _
    have I:(s.heap.push (seqObj "tuple" (ks.map λi=>rawInt (i:Nat)).toArray 0)).objs.size=s.heap.objs.size+1:=Wx ..
    refine make (.ref s.heap.objs.size) (s.heap.push (seqObj "tuple" (ks.map λi=>rawInt (i:Nat)).toArray 0)) d (ks.map λk=>(es.getD k (0,.none)).2) (λit=>[it,a,s.heap.objs.size]) (λit i h=>h.get? it=some (itO (.ref s.heap.objs.size) a i es.size ep)/\SAt h a es ep t/\∃c sl dd,h.get? s.heap.objs.size=some { cls:=c,dict:=dd,data:=.seq (ks.map λk=>rawInt (k:Nat)).toArray 0,slots:=sl }) (λ_ _ e=>wg _ e) (by rw[I];exact Nat.le_succ _) ?_ (λA O=>zbX O (by rw[I];exact WD (u5 lt)) (by rw[I];exact np) W) ⟨wH _ rfl,S.at λo e=>wg _ (wg _ e),_,_,_,wg _ (wH _ rfl)⟩ (λb m=>?_)
    ·have e1:(ks.map λk=>(es.getD k (0,.none)).2).Perm ((List.range es.size).map λk=>(es.getD k (0,.none)).2):=W.map _
     refine e1.trans (List.Perm.of_eq ?_)
     apply uL
     intro i
     rw[wu,wu,wO (xs:=es)]
     by_cases c:i<es.size
     ·rw[List.getElem?_range c,wK c];simp[Array.getD,c]
     ·rw[yF (by rw[yU];lia),ux ∅];rfl
    ·rcases ww.mp m with e | m
     ·refine .inr ?_
      rw[e,I];exact Nat.le_succ _
     ·rcases ww.mp m with e | m
      ·exact .inl e
      ·exact .inr (WX (wU.mp m).symm)
  ·refine ite_no (by rw[Bool.not_false,YN];exact hp) (we (wn ?_))
   refine make (rawInt 0) s.heap s.drawn (es.toList.map λe=>e.2) (λit=>[it,a]) (λit i h=>h.get? it=some (itO (rawInt ((λi=>if i=0 then 0 else t.place.getD (i-1) 0+1) i:Nat)) a i es.size ep)/\SAt h a es ep t) (λ_ _ e=>e) (wo _) (.refl _) (λA O=>zba O ne (λi=>if i=0 then 0 else t.place.getD (i-1) 0+1) (by rw[wc,wI]) λs i A E Q hi S q=>zbG S hb ↥hp G ?_) ⟨wH _ rfl,S.at λo e=>wg _ e⟩ (λb m=>?_)
   ·rw[zdM G.ris ∅]
    rw[wu,wO,Option.map_map]at q
    by_cases c:i<es.size
    ·rw[wK c,wK (show i<t.place.size by lia)]
     rw[wK c]at q
     have e2:t.place.getD (i+1-1) 0=t.place[i]'∅:=by simp[Array.getD,show i<t.place.size by lia]
     dsimp only[Option.map_some,Function.comp]at q
     rw[if_neg (Nat.succ_ne_zero _),e2]at q
     exact q
    ·rw[ux ∅,ux (show t.place.size<=i by lia)]
     rw[ux ∅]at q
     exact q
   ·rcases ww.mp m with e | m
    ·exact .inr (WX e.symm)
    ·exact .inl (wU.mp m)
variable {prog:Program}{w:World}{A:Around}{E:Value->Shared->Prop}{s:Shared}{a:Addr}
theorem zeg {Q:Bool->Shared->Prop}(G:s.TypeIs (.ref a) "set") (h:Q false s):wpAny (model prog w) A (Builtin.List.listLengthHint (.ref a)) Q E s:=by
 unfold Builtin.List.listLengthHint
 refine we (wpAny_specialOf G PySem.F.slot_set_len.lookup ?_)
 generalize hid:("set.__len__":String)=id0
 wp_delta
 have e:splitId id0=some ("set","__len__"):=by subst hid;decide +kernel
 rw[e]
 subst hid
 exact we (wpAny_isInstance (b:=true) G (by rw[isSubtype_type];kernel_rfl) (ite_no (by decide) (Vb (by decide +kernel) (we (Yw G (wn h))))))
theorem zbu {F:Array Value}{ys:List Value}(h:ItemsOf (λi v=>ys[i]?=some v) F ys.length):F.toList=ys:=by
 apply uL
 intro i
 rw[wO]
 by_cases c:i<ys.length
 ·have e:F[i]?=some (F[i]'(by rw[h.1];exact c)):=wK _
  rw[e,<-h.2 i _ e]
 ·rw[ux (by rw[h.1];lia),yF ∅]
theorem zcg:∀{vs:List Value},(∀v∈vs,∃tk,v=.int (nm v) tk)->IntsAre vs (vs.map nm)
 |[],_=>.nil
 |v::vs,h=>by
  obtain⟨tk,e⟩:=h v (wB ..)
  rw[yg,e]
  exact .cons _ tk (zcg λu m=>h u (wR _ m))
theorem set_collect {ks:List Int}{R:List Value->Shared->Prop}(hh:A.handled=none) (hS:SI prog w (byT w) s.heap a ks) (hz:ks.length<=1000000)
  (h:∀h' tk d vs ms,(∀b o,s.heap.get? b=some o->h'.get? b=some o)->IntsAre vs ms->ms.Perm ks->R vs { s with heap:=h',toks:=tk,drawn:=d }):wpAny (model prog w) A (collect (.ref a)) R E s:=by
 obtain⟨o,es,ep,t,ho,hex,hd,hel,hp,hf,G⟩:=hS
 have ez:=zaj (h:=s.heap) (a:=a) hp
 have lt:a<s.heap.objs.size:=wF ho
 have hn:es.size<=sizeLine:=by rw[sizeLine_eq];lia
 unfold collect
 refine we (wpAny_runValue (codeAny_builtin entry_proto_collect' ?_))
 rw[Around.under_plainId PySem.F.plain_proto_collect _]
 refine we (YR (wn ⟨plainId_quiet PySem.F.plain_list_iadd _,codeAny_builtin entry_list_iadd' ?_⟩))
 rw[Around.under_plainId PySem.F.plain_list_iadd _]
 refine(?_:wpAny _ A.in1 (Builtin.List.listExtendWith (.ref s.heap.objs.size) (.ref a) (.ref s.heap.objs.size)) _ _ _)
 have hL:(s.heap.push (seqObj "list" ([]:List Value).toArray 0)).get? s.heap.objs.size=some { cls:=.type "list",data:=.seq #[] }:=wH _ rfl
 have ne:s.heap.objs.size≠a:=WD lt
 unfold Builtin.List.listExtendWith
 have hT:Shared.TypeIs { s with heap:=s.heap.push (seqObj "list" ([]:List Value).toArray 0) } (.ref a) "set":=⟨o,wg _ ho,hex.1⟩
 refine we (Yw hT ?_)
 have c1:Builtin.List.listSameRef (.ref s.heap.objs.size) (.ref a)=false:=by simp[Builtin.List.listSameRef,ne]
 have c2:(Value.type "set" == Value.type "list")=false:=by decide
 have c3:(Value.type "set" == Value.type "tuple")=false:=by decide
 simp only[c1,c2,c3,Bool.or_false,Yq,if_false]
 refine we (zfl (es:=es) (ep:=ep) (t:=t) ⟨o,wg _ ho,hex,hd,hf⟩ G hn λit h1 d ys fp St I=>?_)
 refine we (yZ (zeg ⟨o,I.kp _ _ (wg _ ho),hex.1⟩ ?_))
 have z1:(s.heap.push (seqObj "list" ([]:List Value).toArray 0)).objs.size=s.heap.objs.size+1:=Wx ..
 have nf:s.heap.objs.size∉fp:=λm=>by
  rcases I.fp _ m with e | e
  ·exact ne e
  ·rw[z1]at e;exact absurd e (Nat.not_succ_le_self _)
 have ly:ys.length=es.size:=by rw[I.pm.length_eq,wc,wI]
 have hS1:=I.kp _ _ hL
 refine Vb (by decide +kernel) (we (Yf (we ?_)))
 refine(?_:wpAny _ _ (updateSeq _ _ >>= _) _ _ _)
 refine we (Yj hS1 rL ?_)
 have hS2:=yQ (Obj.mapSeq (·.push Value.none)) hS1 rfl
 refine Yj (hz:=by seq_fits) hS2 rfl ?_
 have hS3:=yQ (Obj.mapSeq (·.pop)) hS2 rfl
 have kk:∀b o,b≠s.heap.objs.size->h1.get? b=some o->((h1.update s.heap.objs.size (Obj.mapSeq (·.push Value.none))).update s.heap.objs.size (Obj.mapSeq (·.pop))).get? b=some o:=λb o hb e =>
  (yh _ _ (Ne.symm hb)).trans ((yh _ _ (Ne.symm hb)).trans e)
 have hA:A.in1.in1.handled=none:=by simp[hh]
 have st2:=(I.wk A.in1.in1 hA).frame 0 _ ((h1.update s.heap.objs.size (Obj.mapSeq (·.push Value.none))).update s.heap.objs.size (Obj.mapSeq (·.pop))) I.st λb m o e=>kk b o (λz=>nf (z ▸ m)) e
 refine wn ⟨plainId_quiet WB _,?_⟩
 refine codeAny_extend_loopS (W:=(I.wk A.in1 (by simp[hh])).toS) hn s.heap.objs.size nf (.ref s.heap.objs.size) es.size 0 _ #[] _ rfl (yb _) st2 hS3 (ItemsOf.nil _) λs' acc c hm hS' hacc=>?_
 rw[Moved.eq_with hm]
 refine we (Y9 hS' (wn ?_))
 rw[<-ly]at hacc
 have ea:=zbu hacc
 have hv:∀v∈acc.toList,∃tk,v=.int (nm v) tk:=λv m=>by
  rw[ea]at m
  obtain⟨e,me,rfl⟩:=wf.mp (I.pm.mem_iff.mp m)
  exact zdV hel me
 refine h s'.heap s'.toks d acc.toList _ (λb o' e=>?_) (zcg hv) ?_
 ·have hlt:=wF e
  refine hm.heap b o' (λm=>?_) (kk b o' (wZ hlt) (I.kp b o' (wg _ e)))
  rcases ww.mp m with q | q
  ·exact absurd q (wZ hlt)
  ·have:=I.it
   rw[z1,<-wU.mp q]at this
   exact absurd (w4 hlt (Nat.le_of_succ_le this)) (uF _)
 ·rw[ea]
  have:=I.pm.map nm
  rw[wD]at this
  exact this.trans hp
end ST
namespace TS
open PySem PySem.W PyProof.Rows ST
variable {prog:Program}{w:World}{A:Around}{E:Value->Shared->Prop}{s:Shared}
theorem zeh {vs:List Value}{ns:List Int}(G:IntsAre vs ns):HLt (λx=>x=s) (model prog w) A E oneType' (λp=>numOf p.1) (pairsOf vs):=by
 intro x y st Q O S I h
 obtain⟨n,t,ex⟩:=G.intKeys x O
 obtain⟨m,u,F⟩:=G.intKeys y S
 rw[lt'_eq]
 refine zq (vU ?_)
 rw[I,keyLt'_oneType,ex,F]
 replace h:Q (some (decide (numOf x.1<numOf y.1))) st:=h
 rw[ex,F]at h
 refine zq (λs' e=>?_)
 subst e
 show wpAny (model prog w) A ((StateT.lift _:StateT SortSt Sem _).run st) _ E s'
 rw[StateT.run_lift]
 exact we (Ye (oneLt_int (wn ⟨rL,zw h⟩)))
theorem zdv {a:Addr}{vs:List Value}{ns:List Int}{n:Nat}{P:PySem.Fin->Shared->Prop}(ho:s.heap.get? a=some (seqObj "list" vs.toArray n)) (hI:IntsAre vs ns) (hz:vs.length<=1000000)
  (h:∀out ns',IntsAre (Array.toList out) ns'->ns'.Perm ns->ns'.Pairwise (·<=·)->P (.done (.ret .none)) { s with heap:=sortedHeap s.heap a vs out }):wpAny (model prog w) A (Builtin.«list.sort» ⟨[.ref a],[]⟩) P E s:=by
 rcases YY vs.length 2 with c | c
 ·exact list_sort_tree ho hI (by omega) h
 rw[list_sort_plain]
 obtain⟨e1,g1⟩:∃e1,(s.heap.update a (Obj.mapSeq λ_=>#[])).get? a=some (seqObj "list" #[] e1):=⟨_,get?_update_seq ho λ_=>#[]⟩
 have g2:(((s.heap.update a (Obj.mapSeq λ_=>#[])).push (seqObj "tuple" vs.toArray 0)).push (seqObj "list" #[] 0)).get? a=some (seqObj "list" #[] e1):=wg _ (wg _ g1)
 have hs2:¬vs.toArray.size<2:=by rw[wN];omega
 refine we (listItems_at ho rfl (we (listUpdate_at ho rfl (we (seqEpoch_at g1 rfl (we (wpAny_newTuple (we (YR (yZ ?_))) (by rw[sizeLine_eq];show vs.length<=_;omega))))))))
 rw[if_neg hs2,if_neg hs2]
 have kk:keyKind' vs.toArray=pure oneType':=by
  match vs,c with
  |v1::v2::r,_=>exact keyKind_ints hI
 rw[kk]
 refine we (wn (we ?_))
 refine uj (zhh (a₀:=pairsOf vs) (κ:=oneType') (zeh hI) (Q:=λ_ st'=>(arrOf st').Perm (pairsOf vs)/\failedOf st'=none/\Up (λp=>numOf p.1) (arrOf st') 0 (pairsOf vs).size) (st:=SortSt.mk' oneType' (vs.toArray.zip vs.toArray) #[] 7 none) ⟨Array.Perm.refl _,rL,rL⟩ rL (λst' B u=>⟨B.perm,B.fail,u⟩) _ rL) ?_ λ_ _ e=>e
 rintro ⟨⟨⟩,st'⟩ s' ⟨rfl,hp,hf,u⟩
 obtain⟨ns',i1,i2,i3⟩:=sorted_out hI hp λi j h1 h2=>by
  have ek:∀k,kx (λp=>numOf p.1) (arrOf st') k=PyProof.Rows.K (arrOf st') k:=λk=>rfl
  rw[<-ek,<-ek];exact u i j (yb _) h1 h2
 refine we (seqEpoch_at g2 rL (we (listUpdate_at g2 rL ?_ (hsz2:=?_))))
 ·nofun
  rw[hf]
  simp only[bne_self_eq_false,Yq,if_false]
  exact wn (h _ ns' i1 i2 i3)
 ·refine yJ (WX ((Array.size_map ..).trans (hp.size_eq.trans (pairsOf_size _)))) ?_
  rw[sizeLine_eq];omega
theorem sorted_of {x:Addr}{ks:List Int}{Q:Value->Shared->Prop}(hz:ks.length<=1000000)
  (hc:∀R:List Value->Shared->Prop,(∀h1 tk d vs ms,(∀b o,s.heap.get? b=some o->h1.get? b=some o)->IntsAre vs ms->ms.Perm ks->R vs { s with heap:=h1,toks:=tk,drawn:=d })->wpAny (model prog w) A.in1 (collect (.ref x)) R E s)
  (h:∀(h1 h':Heap) tk d (out:List Value) c ms,(∀b o,s.heap.get? b=some o->h1.get? b=some o)->(∀b o,h1.get? b=some o->h'.get? b=some o)->h'.get? h1.objs.size=some (seqObj "list" (List.toArray out) c)->IntsAre out ms->ms.Perm ks->ms.Pairwise (·<=·)->Q (.ref h1.objs.size) { s with heap:=h',toks:=tk,drawn:=d }) :
  wpAny (model prog w) A (call (.builtin "sorted") [.ref x]) Q E s:=by
 refine Calls.call_function_entry kind_sorted plain_sorted entry_sorted (args_sorted1 _) ?_
 refine we (wn (we (hc _ λh1 tk d vs ms k1 hI hp=>?_)))
 have hl:vs.length=ms.length:=hI.length
 have hk:=hp.length_eq
 refine we (YR ?_ (by rw[sizeLine_eq];lia))
 have gL:(h1.push (seqObj "list" vs.toArray 0)).get? h1.objs.size=some (seqObj "list" vs.toArray 0):=wH _ rfl
 refine we (yZ (ut slot_list_sort ⟨_,gL,rL⟩ entry_list_sort (zdv gL hI ∅ λout ns' a1 a2 a3=>⟨_,rL,?_⟩) (args_list_sort _)))
 obtain⟨c,hc'⟩:∃c,(sortedHeap (h1.push (seqObj "list" vs.toArray 0)) h1.objs.size vs out).get? h1.objs.size=some (seqObj "list" out c):=sortedHeap_at gL
 refine wn ⟨_,rfl,h h1 _ tk d out.toList c ns' k1 (λb o e=>?_) ↥hc' a1 (a2.trans hp) a3⟩
 have hlt:=wF e
 rw[sortedHeap_old (wZ hlt) (by rw[size_push'];exact u5 hlt)]
 exact wg _ e
end TS
namespace L2
open PySem PySem.Spec PyProof.Rows
section
variable {X:Cx}{pz:List (Addr×Obj)}{σ:St}{H:Hp}{s:Shared}
theorem Inv.drawn (I:Inv X pz σ H s) (d:Drawn):Inv X pz σ H { s with drawn:=d }:=⟨I.ok,I.os,I.bare,I.base,I.loc,I.cell,I.free,I.freeC,I.pin,I.hok,I.len⟩
inductive Jy (K:Fg) (Q:VK) (x:V) (H1:Hp):Prop
 |mk:∀(p:Addr) (ns:List Int),(x=.ref p)->(SqL K H1 p (ns.map V.int))->(ns.length<4000)->(∀(D:Addr) (ms:List Int),H1 D=none->(∀k,k∈ms↔k∈ns)->ms.Nodup->ms.Pairwise (·<=·)->Q (.ref D) (upd H1 D (.lst (ms.map V.int))))->Jy K Q x H1
def zfL (K:Fg) (ta:TE):TE:=λσ H Q=>ta σ H λx H1=>Jy K Q x H1
theorem zbJ {a:Expr}{ta:TE}{p S pos pos2:Pos}(hc:X.calm=true) (hg:Gl X "sorted") (hm:X.mg "sorted" = none) (a1:Gl X "set") (Y:X.mg "set" = none) (ha:PE X a ta)
  (hs:starEach [a] X.env=(false,eval a X.env)::starEach [] X.env:=by rfl) (G:starEach [.Call (.Name "set" S) [a] [] pos2] X.env=(false,eval (.Call (.Name "set" S) [a] [] pos2) X.env)::starEach [] X.env:=by rfl)
  (h0:(backTo pos2 (starEach ([]:List Expr) X.env)).any (·.1)=false:=by rfl) (h1:(backTo pos (starEach ([]:List Expr) X.env)).any (·.1)=false:=by rfl) :
  PE X (.Call (.Name "sorted" p) [.Call (.Name "set" S) [a] [] pos2] [] pos) (zfL X.K ta):=by
 intro pz s σ H Q I h
 refine ui (Zo I hg hm boot_sorted (WY ?_ G h1))
 rw[G]
 refine Calls.spliced_cons (ui (Zo I a1 Y PyProof.Rows.boot_set (yO ?_ hs h0)))
 rw[hs]
 refine Calls.spliced_cons (thn (ha pz s σ H _ I h) λu s1 ⟨x,H1,I1,r1,q1⟩=>Calls.spliced_nil ?_)
 obtain⟨l,ns,rfl,hq,hz,k⟩:=q1
 cases r1
 obtain⟨a2,rv,pl,_⟩:=I1.list hq
 have hi:=Xv rv
 refine ST.call_set (I1.ok.hd hc) pl.isList ↥hi (by show ns.length+1<4096;lia) λh2 W si k2=>Calls.spliced_nil ?_
 have J:=I1.kept (h':=h2) (t':=W) k2
 have hl:(ST.uq ns.reverse).length<=1000000:=by
  have:=ST.uq_len ns.reverse
  rw[yp]at this
  lia
 refine TS.sorted_of hl (λR hR=>ST.set_collect (by simpa using I1.ok.hd hc) si hl λO tk d vs ms k3 U F=>hR O tk d vs ms k3 U F) λO h4 tk d out c ms k3 k4 hD U F s3=>?_
 have J1:=(J.drawn d).kept (h':=O) (t':=tk) k3
 refine⟨.ref O.objs.size,_,J1.laid (h':=h4) (t':=tk) (o:=.lst (ms.map V.int)) k4 (wo _) ⟨?_,out,c,vJ U,hD⟩,rL,k _ ms (J1.hok.fresh (wo _)) (λz=>?_) (F.nodup_iff.mpr (ST.uq_nodup _)) s3⟩
 ·have:=F.length_eq
  rw[wc,sizeLine_eq];lia
 ·rw[F.mem_iff,ST.uq_mem,uO]
end
def VF (a c:Int) (n:Nat):List Int:=(List.range n).map λi:Nat=>a+(i:Int)*c
section
variable {prog:Program}{w:World}{A:Around}{E:Value->Shared->Prop}{s:Shared}{r:Addr}{a b c:Int}{t u v:Tok}{n:Nat}
theorem ze5 {F:Array Value}(h:ItemsOf (λi v=>∃t,v=.int (a+i*c) t) F n):IntsAre F.toList (VF a c n):=by
 refine JU (by rw[wI,h.1];unfold VF;rw[wc,yU]) λi v m e1 e2=>?_
 rw[wO]at e1
 obtain⟨t,rfl⟩:=h.2 i v e1
 unfold VF at e2
 rw[wu]at e2
 have:i<n:=by have:=(wX.mp e1).1;rw[h.1]at this;exact this
 rw[List.getElem?_range this]at e2
 cases e2;exact⟨t,rfl⟩
theorem zdd {Q:Value->Shared->Prop}(hh:A.handled=none) (hr:IsRange s.heap r a b c t u v) (hb:Builtin.Range.small a b c=false) (hn:Builtin.Range.rangeSize a b c=n) (hz:n<=2^24)
  (hQ:∀h' tk acc c',(∀b o,s.heap.get? b=some o->h'.get? b=some o)->h'.get? s.heap.objs.size=some (seqObj "list" acc c')->ItemsOf (λi v=>∃t,v=.int (a+i*c) t) acc n->Q (.ref s.heap.objs.size) { s with heap:=h',toks:=tk }) :
  wpAny (model prog w) A (call (.type "list") [.ref r]) Q E s:=by
 have g0:(s.heap.push (seqObj "list" #[] 0)).get? s.heap.objs.size=some (seqObj "list" #[] 0):=wH _ rfl
 refine callType_codes (Q₁:=λv s₁=>v=.ref s.heap.objs.size/\s₁ = { s with heap:=s.heap.push (seqObj "list" #[] 0) }) PySem.F.called_list (PySem.F.typeCall_list_1 _) PySem.F.entry_list_init (code_list_new _ ⟨rfl,rfl⟩) λobj s₁ h₁=>?_
 obtain⟨rfl,rfl⟩:=h₁
 refine⟨⟨_,g0,rL⟩,PySem.F.args_list_init_2 _ _,?_⟩
 have lr:=wF hr
 generalize hS:s.heap.objs.size=S at *
 have nr:S≠r:=WD lr
 refine we (listItems_at g0 rL (we (listUpdate_at g0 rL (we (wpAny_letGo ?_)))))
 obtain⟨e1,g1⟩:∃e1,((s.heap.push (seqObj "list" #[] 0)).update S (Obj.mapSeq λ_=>#[])).get? S=some (seqObj "list" #[] e1):=⟨_,get?_update_seq g0 λ_=>#[]⟩
 have k1:∀x o,x≠S->s.heap.get? x=some o->((s.heap.push (seqObj "list" #[] 0)).update S (Obj.mapSeq λ_=>#[])).get? x=some o:=λx o hb e=>(yh _ _ (Ne.symm hb)).trans (wg _ e)
 have z1:((s.heap.push (seqObj "list" #[] 0)).update S (Obj.mapSeq λ_=>#[])).objs.size=S+1:=by rw[Heap.size_update,Wx,hS]
 have r1:=k1 r _ (Ne.symm nr) hr
 generalize (s.heap.push (seqObj "list" #[] 0)).update S (Obj.mapSeq λ_=>#[])=h1 at g1 k1 z1 r1
 refine(?_:wpAny _ _ (Builtin.List.listExtendWith _ _ _) _ _ _)
 unfold Builtin.List.listExtendWith
 refine we (Yw (T:="range") ⟨_,r1,rL⟩ ?_)
 have c1:Builtin.List.listSameRef (.ref S) (.ref r)=false:=by simp[Builtin.List.listSameRef,nr]
 have c2:(Value.type "range" == Value.type "list")=false:=by decide
 have c3:(Value.type "range" == Value.type "tuple")=false:=by decide
 simp only[c1,c2,c3,Bool.or_false,Yq,if_false]
 refine we (wpAny_pyIter_longrange r1 hb (we (yZ (wpAny_hint_range (n:=n) (wg _ r1) hn hz ?_))))
 have W:=(Walks.longrange (prog:=prog) (w:=w) (A:=A.in1.in1) (by simp[hh]) h1.objs.size a c n).toS
 have nI:S∉[h1.objs.size]:=by rw[z1,wU];exact wZ (W6 _)
 have it0:IsLongIter (h1.push { cls:=.type "longrange_iterator",data:=.fields #[rawInt a,rawInt (Builtin.Range.rangeSize a b c),rawInt c] }) h1.objs.size (a+((0:Nat):Int)*c) ((n:Int)-((0:Nat):Int)) c:=by
  show IsLongIter _ _ _ _ _;rw[hn];simpa using wH _ rfl
 have g2:=wg { cls:=.type "longrange_iterator",data:=.fields #[rawInt a,rawInt (Builtin.Range.rangeSize a b c),rawInt c] } g1
 have k2:∀x o,x≠S->s.heap.get? x=some o->(h1.push { cls:=.type "longrange_iterator",data:=.fields #[rawInt a,rawInt (Builtin.Range.rangeSize a b c),rawInt c] }).get? x=some o:=λx o hb e=>wg _ (k1 x o hb e)
 have zI:h1.objs.size=S+1:=z1
 have loop:∀(h:Heap) (e2 tk:Nat),IsLongIter h h1.objs.size (a+((0:Nat):Int)*c) ((n:Int)-((0:Nat):Int)) c->(∀x o,x≠S->s.heap.get? x=some o->h.get? x=some o)->h.get? S=some (seqObj "list" #[] e2) →
   codeAny (model prog w) A.in1 (.builtin "list.extend.loop" ⟨[.ref S,.ref h1.objs.size,.none],[]⟩) (wants (λr s₂=>r=.none/\Q (.ref S) s₂) E) { s with heap:=h,toks:=tk }:=λh e2 tk hi hk hg=>by
  refine codeAny_extend_loopS W (by rw[sizeLine_eq];lia) S nI .none n 0 _ #[] e2 rfl (yb _) hi hg (ItemsOf.nil _) λs' acc c' hm g' ha=>?_
  rw[Moved.eq_with hm]
  refine⟨rL,hQ s'.heap s'.toks acc c' (λb o e=>?_) g' ha⟩
  have hlt:=wF e
  rw[hS]at hlt
  refine hm.heap b o (λm=>?_) (hk b o (wZ hlt) e)
  rcases ww.mp m with q | q
  ·exact absurd q (wZ hlt)
  ·rw[wU,zI]at q
   exact absurd q (wZ (u5 hlt))
 refine wpAny_ite_split (λ_=>?_) (λ_=>wn ⟨plainId_quiet WB _,loop _ _ _ it0 k2 g2⟩)
 refine we (Yf (we ?_))
 refine(?_:wpAny _ _ (updateSeq _ _ >>= _) _ _ _)
 refine we (Yj g2 rL ?_ (hz:=yb _) (_hz':=?_))
 ·have g3:=yQ (Obj.mapSeq (·.push Value.none)) g2 rfl
  refine Yj g3 rL ?_ (hz:=?_) (_hz':=?_)
  ·have g4:=yQ (Obj.mapSeq (·.pop)) g3 rfl
   have keep:∀x o,x≠S->(h1.push { cls:=.type "longrange_iterator",data:=.fields #[rawInt a,rawInt (Builtin.Range.rangeSize a b c),rawInt c] }).get? x=some o->(((h1.push { cls:=.type "longrange_iterator",data:=.fields #[rawInt a,rawInt (Builtin.Range.rangeSize a b c),rawInt c] }).update S (Obj.mapSeq (·.push Value.none))).update S (Obj.mapSeq (·.pop))).get? x=some o :=
    λx o hb e=>(yh _ _ (Ne.symm hb)).trans ((yh _ _ (Ne.symm hb)).trans e)
   refine wn ⟨plainId_quiet WB _,loop _ _ _ (keep _ _ (λz=>nI (by rw[z];exact List.mem_singleton_self _)) it0) (λx o hb e=>keep x o hb (k2 x o hb e)) g4⟩
  ·rw[sizeLine_eq];show 1<=_;lia
  ·rw[sizeLine_eq];show 0<=_;lia
 ·rw[sizeLine_eq];show 1<=_;lia
end
inductive VN (Q:VK) (xs:List V) (H1:Hp):Prop
 |mk:∀(a b c:Int) (n:Nat),(xs=[.int a,.int b,.int c])->(c≠0)->(Bd 8900 c)->(Builtin.Range.rangeSize a b c=n)->(n<=10000)->(∀l,H1 l=none->Q (.ref l) (upd H1 l (.lst ((VF a c n).map V.int))))->VN Q xs H1
def zdz (ta:TA):TE:=λσ H Q=>ta σ H λxs H1=>VN Q xs H1
section
variable {X:Cx}
theorem zaR {a b d:Expr}{ta:TA}{p pos p2 pos2:Pos}(hc:X.calm=true) (hg:Gl X "list") (hm:X.mg "list" = none) (hg2:Gl X "range") (hm2:X.mg "range" = none) (ha:PA X [a,b,d] ta)
  (hs:starEach [a,b,d] X.env=[(false,eval a X.env),(false,eval b X.env),(false,eval d X.env)]:=by rfl) (hs1:starEach [b,d] X.env=[(false,eval b X.env),(false,eval d X.env)]:=by rfl) (hs2:starEach [.Call (.Name "range" p2) [a,b,d] [] pos2] X.env=[(false,eval (.Call (.Name "range" p2) [a,b,d] [] pos2) X.env)]:=by rfl) :
  PE X (.Call (.Name "list" p) [.Call (.Name "range" p2) [a,b,d] [] pos2] [] pos) (zdz ta):=by
 intro pz s σ H Q I h
 refine ui (Zo I hg hm PyProof.Rows.boot_list ?_)
 refine yO ?_ hs2 rL
 rw[hs2]
 refine Calls.spliced_cons (Call_ (Zo I hg2 hm2 PyProof.Rows.boot_range (yO (thn (ha pos2 pz s σ H _ I h) λus s1 ⟨vs,H1,I1,r1,q1⟩=>?_) (by rw[hs,hs1]) (by rw[hs1];rfl))))
 obtain⟨i,j,k,n,e,h0,bk,hn,hz,q⟩:=q1
 subst e
 obtain⟨u,v,w',rfl,⟨t,rfl⟩,⟨t',rfl⟩,⟨t'',rfl⟩⟩:∃u v w',us=[u,v,w']/\xl (.int i) u/\xl (.int j) v/\xl (.int k) w':=by
  cases r1 with
  |cons a1 r1=>cases r1 with
   |cons a2 r1=>cases r1 with
    |cons a3 r1=>cases r1;exact⟨_,_,_,rfl,a1,a2,a3⟩
 refine call_range_3 h0 (Calls.spliced_nil ?_) (Or.inl (PyProof.noPylong_of_log2 ?_))
 rotate_left
 ·by_cases z:k.natAbs=0
  ·rw[z];decide +kernel
  ·exact w4 ((Nat.log2_lt z).mpr bk) (by decide)
 have I2:Inv X pz σ H1 { s1 with heap:=s1.heap.push { cls:=.type "range",data:=.fields #[.int i t,.int j t',.int k t''] },toks:=s1.toks }:=I1.kept λb o e=>wg _ e
 have fin:∀h' tk acc c',(∀b o,(s1.heap.push { cls:=.type "range",data:=.fields #[.int i t,.int j t',.int k t''] }).get? b=some o->h'.get? b=some o)->h'.get? (s1.heap.push { cls:=.type "range",data:=.fields #[.int i t,.int j t',.int k t''] }).objs.size=some (seqObj "list" acc c')->ItemsOf (λx y=>∃t,y=.int (i+x*k) t) acc n →
   EP X pz σ Q (.ref (s1.heap.push { cls:=.type "range",data:=.fields #[.int i t,.int j t',.int k t''] }).objs.size) { s1 with heap:=h',toks:=tk }:=λh' tk acc c' hk hS ha=>by
  refine⟨.ref _,_,I2.laid (t':=tk) (o:=.lst ((VF i k n).map V.int)) hk (wo _) ⟨?_,acc.toList,c',vJ (ze5 ha),by rw[Array.toArray_toList];exact hS⟩,rfl,q _ (I2.hok.fresh (wo _))⟩
  unfold VF
  rw[wc,wc,yU,sizeLine_eq];lia
 have hz2:n<=2^24:=yJ hz (by decide)
 cases sm:Builtin.Range.small i j k with
 |true=>exact call_list_range (n:=n) (I1.ok.hd hc) (IsRange.new ..) sm hn hz2 λh' tk acc c' hk hS ha=>fin h' tk acc c' hk hS ha
 |false=>exact zdd (n:=n) (I1.ok.hd hc) (IsRange.new ..) sm hn hz2 λh' tk acc c' hk hS ha=>fin h' tk acc c' hk hS ha
end
open MeetsSeq MeetsSeq2 MeetsSeq3 SeqRoads2 SeqAt AutoSeq1
section
variable {X:Cx}
theorem zc1:fillsInplaceSlot (.type "list") "add" (Operator.Add == .Add)=pure false:=by
 unfold fillsInplaceSlot
 refine(?_:(typeLookup (.type "list") (dunderI "add") >>= _)=_)
 rw[WV.lookup];rfl
theorem zfk:seqSlot? (.type "list") (dunderI "add")=pure (some (.builtin "list.__iadd__")):=by
 unfold seqSlot?
 rw[WV.lookup];rfl
inductive zcz (x:V) (y:V) (H:Hp) (Q:VK):Prop
 |mk:∀l b xs zs,(x=.ref l)->(y=.ref b)->(H l=some (.lst xs))->(H b=some (.lst zs))->(xs.length+zs.length<=sizeLine)->(Q (.ref l) (upd H l (.lst (xs++zs))))->zcz x y H Q
def ziU:R2:=λx y H Q=>zcz x y H Q
theorem zej:OpR X (inplaceOp .Add) ziU:=by
 intro pz s σ H x y v u Q I rx ry h
 obtain⟨l,b,xs,zs,rfl,rfl,U,hB,hz,q⟩:=h
 cases rx
 cases ry
 obtain⟨z,O,n,r,hl,e⟩:=I.lstM U
 obtain⟨z2,G,n2,Y,W,e2⟩:=I.lstM hB
 have S:s.TypeIs (.ref l) "list":=⟨_,e,rfl⟩
 have V:s.TypeIs (.ref b) "list":=⟨_,e2,rfl⟩
 have sm:O.toArray.size+G.toArray.size<=sizeLine:=by rw[wN,wN];lia
 refine yZ (we (Yw S (we (Y8 zc1 ?_))))
 refine ST.ite_no ya (we (binaryOp1_none (nm:="add") S V noFill_list_add (we (Y8 zfk (we (Yf ?_))))))
 refine call_meets WV S PySem.F.entry_list_iadd (PySem.F.args_list_iadd_2 _ _) (list___iadd___list_list_0 l O.toArray n b G.toArray n2 (by rw[zeE sm,Bool.and_false];exact ya) (by rw[wN];lia) ∅) ⟨e,e2,?_⟩
 refine⟨.ref l,_,I.lset (its':=O++G) U e (by simp) (r.append Y) ?_,rfl,q⟩
 rw[wV];lia
theorem zav {p:Int}:∀{xs:List Int}{F:List Value},z6 (xs.map V.int) F->F.countP (λv=>decide (ST.nm v=p))=xs.countP λn=>decide (n=p)
 |[],F,r=>by cases r;rfl
 |x::xs,F,r=>by
  rw[yg]at r
  cases r with
  |cons rx rs =>
   obtain⟨t,rfl⟩:=rx
   rw[yY,yY,zav rs];rfl
def zkq:V->List V->Hp->VK->Prop:=λx vs H Q=>∃(l:Addr) (xs:List Int) (p:Int),x=.ref l/\vs=[.int p]/\H l=some (.lst (xs.map V.int))/\Q (.int ((xs.countP λn=>decide (n=p):Nat):Int)) H
theorem zdh (hu:X.A.units+64<cLine):MtR X "list.count" zkq:=by
 intro pz s σ H x vs v us Q I rx rv h
 obtain⟨l,xs,p,rfl,rfl,hl,k⟩:=h
 cases rx
 obtain⟨u,rfl,ru⟩:=rv.one
 obtain⟨t,rfl⟩:=ru
 obtain⟨z,O,n,r,hz,e⟩:=I.lstM hl
 obtain⟨bs,rb⟩:=(show RdD H (.int p) (.int p)from .int _).reads I ⟨t,rfl⟩
 have key:∀y,y∈O.toArray->EqAt X.A.in1 s y (.int p t) (decide (ST.nm y=p)):=λy hy=>by
  obtain⟨j,hj⟩:=Wm.mp (show y∈O by simpa using hy)
  have a2:=r.length
  have a1:=(wS.mp hj).1
  obtain⟨Y,G⟩:∃Y,(xs.map V.int)[j]?=some Y:=⟨_,wJ ∅⟩
  obtain⟨uv,S,U⟩:=r.get G
  rw[hj]at S;cases S
  rw[wu]at G
  cases hx:xs[j]? with
  |none=>rw[hx]at G;cases G
  |some m =>
   rw[hx]at G;cases G
   obtain⟨W,rfl⟩:=U
   obtain⟨as,ra⟩:=(show RdD H (.int m) (.int m)from .int _).reads I ⟨W,rfl⟩
   have ee:decide (ST.nm (.int m W)=p)=PyData.eqv (.int m) (.int p):=rfl
   rw[ee]
   exact eqAt_reads _ _ _ _ _ _ _ _ ra rb rfl rfl (by show X.A.units+1+min 0 0<cLine;lia)
 refine call_meets F.slot_list_count ⟨_,e,rL⟩ F.entry_list_count (F.args_list_count_2 _ _) (list_countAt l O.toArray n none #[] (.int p t) λy=>decide (ST.nm y=p)) ⟨e,key,?_⟩
 refine⟨.int _,H,I.tok _,⟨_,rL⟩,?_⟩
 rw[show O.toArray.toList=O from rfl,zav r]
 exact k
end
end L2
namespace KK
open PySem L2
variable {P:Program}{w:World}{K:Fg}{mg:Str->Option Value}{base:Heap}{aN:Addr}
def top (i:Nat):Stmt:=PySem.Challenge.pw_clackrow_k40_whole_first_moments_moved.main.body.getD i (.Pass ⟨0,0,0,0⟩)
abbrev XF:Stmt:=top 8
abbrev XE:Stmt:=top 9
abbrev qI:Stmt:=top 10
abbrev XB:Stmt:=top 11
abbrev ZB:Stmt:=top 12
abbrev zbM:Stmt:=top 13
abbrev zbL:Stmt:=top 14
abbrev ve:Stmt:=top 17
abbrev vv:Stmt:=top 18
abbrev XR:Stmt:=top 19
abbrev XQ:Stmt:=top 20
abbrev ZX:Stmt:=top 21
abbrev VH:Stmt:=top 22
abbrev QM:Stmt:=top 23
abbrev QH:Stmt:=top 26
abbrev vR:Stmt:=top 27
abbrev vQ:Stmt:=top 28
abbrev Zb:Stmt:=top 29
abbrev QG:Stmt:=top 30
abbrev XC:Stmt:=top 31
abbrev XA:Stmt:=top 33
abbrev vy:Stmt:=top 34
abbrev vx:Stmt:=top 35
abbrev vf:Stmt:=top 36
abbrev qS:Stmt:=top 37
abbrev QN:Stmt:=top 38
abbrev QL:Stmt:=top 39
abbrev VG:Stmt:=top 40
abbrev ZY:Stmt:=top 42
abbrev Za:Stmt:=top 43
abbrev vw:Stmt:=top 44
abbrev Zd:Stmt:=top 45
abbrev XO:Stmt:=top 46
abbrev QF:Stmt:=top 49
abbrev qT:Stmt:=top 50
abbrev qQ:Stmt:=top 51
abbrev ZW:Stmt:=top 52
abbrev XD:Stmt:=top 53
abbrev zbN:Stmt:=top 54
abbrev XG:Stmt:=top 56
abbrev QI:Stmt:=top 57
abbrev XL:Stmt:=top 58
abbrev Zw:Stmt:=top 59
abbrev QJ:Stmt:=top 60
abbrev ZA:Stmt:=top 62
abbrev XH:Stmt:=top 63
abbrev XI:Stmt:=top 64
abbrev QK:Stmt:=top 65
abbrev Zc:Stmt:=top 66
abbrev Zy:Stmt:=top 67
abbrev ZU:Stmt:=top 68
abbrev ZV:Stmt:=top 71
abbrev XM:Stmt:=top 72
abbrev XN:Stmt:=top 73
abbrev vS:Stmt:=top 74
abbrev Zx:Stmt:=top 75
abbrev qJ:Stmt:=top 76
abbrev s_law:Stmt:=top 77
abbrev qu:Stmt:=zgl (top 16) 0
structure TxB (K:Fg) (mg:Str->Option Value):Prop where
 ii:PySem.W.kitOne K (.type "int") (.type "int")=some true
 ib:PySem.W.kitOne K (.type "int") (.type "bool")=some false
 nIs:mg "isinstance" = none
 nInt:mg "int" = none
 nBool:mg "bool" = none
 nAbs:mg "abs" = none
 nLen:mg "len" = none
 nMax:mg "max" = none
 nMin:mg "min" = none
 nRange:mg "range" = none
 nTuple:mg "tuple" = none
 nSum:mg "sum" = none
inductive Qn  (vs:List V) (H:Hp) (Q:VK) (_e3:XK):Prop
 |mk:∀i,(vs=[.int i])->(Q (.bl true) H)->Qn vs H Q _e3
theorem zfj:zB ["thing"] ["thing"] (zj XF):=scq
theorem zeJ (D:Df K mg "is_whole" XF ["thing"] []) (T:TxB K mg):Cal P w K mg base "is_whole" 1 ["thing"] [] Qn:=by
 refine D.cal (k:=0) zfj (λvs H Q E h=>by obtain⟨i,rfl,_⟩:=h;rfl) (λf cdv A outer s H vs Q E hr h=>?_)
 obtain⟨i,rfl,k⟩:=h
 refine⟨_,zo (zE (qD
  (zQ vY rfl T.nIs uI (za (pv 0) (za (Ve (v:=.ty "int") (u:=.type "int") rfl T.nInt Wo rfl) zd)))
  (vc (zeS (zQ vY rfl T.nIs uI (za (pv 0) (za (Ve (v:=.ty "bool") (u:=.type "bool") rfl T.nBool (by decide +kernel) rfl) zd))))))),?_⟩
 refine⟨_,rL,_,_,_,true,rL,.int i,T.ii,true,rL,xO ?_⟩
 exact⟨_,rL,_,_,_,false,rL,.int i,T.ib,false,rL,k⟩
inductive Ju  (vs:List V) (H:Hp) (Q:VK) (_e3:XK):Prop
 |mk:∀a b:Int,(vs=[.int a,.int b])->(0<=a)->(0<=b)->(Q (.int (Int.gcd a b:Nat)) H)->Ju vs H Q _e3
theorem zfd:zB ["one","other"] ["one","other"] (zj qI):=scq
theorem ziq (D:Df K mg "greatest_divisor" qI ["one","other"] []):Cal P w K mg base "greatest_divisor" 1 ["one","other"] [] Ju:=by
 rcases r:D.cal (k:=0) zfd (λvs H Q E h=>by obtain⟨a,b,rfl,_⟩:=h;rfl) with⟨a,b,rfl,S,O,k⟩
 refine⟨_,ze (zaS PassesOwn.never (zH Xp (pv 1) zi (zF _))
   (zo (Xy (i:=0) (j:=1) rfl zfd.nd rfl rfl (by decide) rfl rfl (za (pv 1) (za (zu vN (pv 0) (pv 1)) zd)) (by rfl))))
  (zo (zE (pv 0))),?_⟩
 refine zbb (λσ H1=>H1=H/\∃x y:Int,σ=[Si x,Si y]/\0<=x/\0<=y/\Int.gcd x y=Int.gcd a b)
  (λσ _=>match σ with | [_,some (.int y)]=>y.toNat | _=>0) ⟨rfl,a,b,rfl,S,O,rfl⟩ ?_ ?_
 ·rintro σ H1 F;rcases q:F with⟨rfl,x,y,rfl,U,V,e⟩
  refine⟨_,rL,_,_,rL,rL,_,rL,vu (λh=>?_) (λh=>?_)⟩
  ·have h':0<y:=wA h
   refine⟨_,rL,_,rL,_,rL,_,_,rL,rL,h',_,_,rL,⟨rL,_,_,rL,V,yS _ ∅,?_⟩,?_⟩
   ·rw[KM.zaG U h'];exact e
   ·show (x % y).toNat<y.toNat
    have:=yV x h'
    lia
  ·have h':¬ 0<y:=λz=>h (wm z)
   have:y=0:=by lia
   subst this
   refine⟨_,rL,?_⟩
   have e2:x=(Int.gcd a b:Nat):=by rw[<-e,Int.gcd_zero_right];lia
   rw[e2];exact k
 ·rintro σ H1 Y W I F;rcases q:F with⟨v,e,i,j,e1,e2,k1,G,q⟩
  exact⟨v,e,i,j,e1,e2,k1,G,I _ _ q⟩
theorem VJ:zB ["top","bottom","divisor"] ["top","bottom"] (zj ZB):=scq
theorem jV (i:Int):(if i<0 then -i else i)=(i.natAbs:Int):=by split <;> lia
theorem zeH {dvs:List V}(D:Df K mg "ratio" ZB ["top","bottom"] dvs) (T:TxB K mg) (S:Cal P w K mg base "is_whole" 1 ["thing"] [] Qn) (U:Cal P w K mg base "greatest_divisor" 1 ["one","other"] [] Ju) :
  Cal P w K mg base "ratio" 2 ["top","bottom"] dvs vt:=by
 rcases r:D.cal (k:=1) VJ (λvs H Q E h=>by obtain⟨a,b,rfl,_⟩:=h;rfl) with⟨t,b,rfl,G,hz,k⟩
 refine⟨_,ze (xv (Ql (Zs (qr (zC S hr (za (pv 0) zd)) λ_=>rL)) (Ql (Zs (qr (zC S hr (za (pv 1) zd)) λ_=>rL)) (Xz (zH ZP (pv 1) zi (zF _))))).pt Zj zU)
  (ze (psl (i:=2) VJ.nd (zC U hr (za (zQ qM rfl T.nAbs yG (za (pv 0) zd)) (za (zQ qM rfl T.nAbs yG (za (pv 1) zd)) zd))))
  (ze (xv (zH Zi (pv 1) zi (zF _)) (zo (psl (i:=2) VJ.nd (vB qF (pv 2)))) zU)
  (zo (zE (zS (za (zu xJ (pv 0) (pv 2)) (za (zu xJ (pv 1) (pv 2)) zd))))))),?_⟩
 refine⟨_,rL,t,rL,true,rL,xz ?_⟩
 refine⟨_,rL,b,rL,true,rL,xz ?_⟩
 refine⟨_,rfl,rfl,_,rfl,vu (λh=>absurd (wA h) (by intro z;injection z with z;exact G z)) (λ_=>?_)⟩
 refine⟨_,rfl,t,rfl,⟨_,rfl,b,rfl,⟨_,_,rfl,(by rw[jV];lia),(by rw[jV];lia),?_⟩⟩⟩
 have hd:=KM.zhr (t:=t) G
 have I:Bd 8900 (KM.dv t b):=hz.of_le (KM.zhq G)
 have F:∀σ:St,σ=[Si t,Si b,some (.int (KM.dv t b))]->zdA (zjA (xU (tOp (rI zaq λi j=>V.int (i.fdiv j)) (xw 0) (xw 2)) (xU (tOp (rI zaq λi j=>V.int (i.fdiv j)) (xw 1) (xw 2)) Z6))) { nx:=λ_ H'=>Q .non H',rt:=Q } σ H:=by
  rintro σ rfl
  refine⟨_,rL,_,rL,_,_,rL,rL,⟨hd,I⟩,_,rL,_,rL,_,_,rL,rL,⟨hd,I⟩,?_⟩
  refine⟨zL2,λp W=>k p _ (zk.upd W) ?_⟩
  show upd H p _ p=_
  rw[zg]
  nofun
  rw[KM.zbn G,KM.zdU G];rfl
 have O:(Int.gcd (if t<0 then -t else t) (if b<0 then -b else b):Nat)=Int.gcd t b:=by
  rw[jV,jV];simp[Int.gcd]
 refine⟨_,rL,_,_,rL,rL,_,rL,vu (λh=>?_) (λh=>?_)⟩
 ·have h':b<0:=wA h
  refine⟨_,rL,_,rL,F _ ?_⟩
  rw[O];unfold KM.dv;rw[if_pos h'];rfl
 ·have h':¬b<0:=λz=>h (wm z)
  refine F _ ?_
  rw[O];unfold KM.dv;rw[if_neg h'];rfl
theorem Bd4 {x:Rat}(h:Sz 4000 x):Bd 1000000 x.num/\Bd 1000000 (x.den:Int):=⟨h.1.md,h.2.md⟩
section
variable {x y:Rat}{p q:Addr}{H:Hp}
theorem zgQ {Q:VK}(O:zr H p x) (G:zr H q y) (S:Sz 4000 x) (U:Sz 4000 y) (k:∀r H',zk H H'->zr H' r (x+y)->Q (.ref r) H') :
  zdA (ZE vt [] E0 (xU (tOp (rI0 λi j=>.int (i+j)) (tOp (rI Vl λi j=>.int (i*j)) (tOp (vE K) (xw 0) (tC (.int 0))) (tOp (vE K) (xw 1) (tC (.int 1)))) (tOp (rI Vl λi j=>.int (i*j)) (tOp (vE K) (xw 1) (tC (.int 0))) (tOp (vE K) (xw 0) (tC (.int 1)))))
   (xU (tOp (rI Vl λi j=>.int (i*j)) (tOp (vE K) (xw 0) (tC (.int 1))) (tOp (vE K) (xw 1) (tC (.int 1)))) Z6))) { nx:=λ_ H'=>Q .non H',rt:=Q } [some (.ref p),some (.ref q)] H:=by
 have I:=Bd4 S
 have F:=Bd4 U
 refine⟨_,rL,p,_,_,_,rL,rL,.of O,at0 ..,_,rL,q,_,_,_,rL,rL,.of G,at1 ..,_,_,rL,rL,⟨I.1,F.2⟩,?_⟩
 refine⟨_,rL,q,_,_,_,rL,rL,.of G,at0 ..,_,rL,p,_,_,_,rL,rL,.of O,at1 ..,_,_,rL,rL,⟨F.1,I.2⟩,_,_,rL,rL,?_⟩
 refine⟨_,rL,p,_,_,_,rL,rL,.of O,at1 ..,_,rL,q,_,_,_,rL,rL,.of G,at1 ..,_,_,rL,rL,⟨I.2,F.2⟩,?_⟩
 refine⟨_,_,rL,uZ (KM.qN x) (KM.qN y),(S.2.mul U.2).md,λr H' e h=>k r H' e ?_⟩
 rw[<-KM.zcx];exact h
theorem ze3 {Q:VK}(U:zr H p x) (G:zr H q y) (O:Sz 4000 x) (S:Sz 4000 y) (k:∀r H',zk H H'->zr H' r (x*y)->Q (.ref r) H') :
  zdA (ZE vt [] E0 (xU (tOp (rI Vl λi j=>.int (i*j)) (tOp (vE K) (xw 0) (tC (.int 0))) (tOp (vE K) (xw 1) (tC (.int 0))))
   (xU (tOp (rI Vl λi j=>.int (i*j)) (tOp (vE K) (xw 0) (tC (.int 1))) (tOp (vE K) (xw 1) (tC (.int 1)))) Z6))) { nx:=λ_ H'=>Q .non H',rt:=Q } [some (.ref p),some (.ref q)] H:=by
 have I:=Bd4 O
 have F:=Bd4 S
 refine⟨_,rL,p,_,_,_,rL,rL,.of U,at0 ..,_,rL,q,_,_,_,rL,rL,.of G,at0 ..,_,_,rL,rL,⟨I.1,F.1⟩,?_⟩
 refine⟨_,rL,p,_,_,_,rL,rL,.of U,at1 ..,_,rL,q,_,_,_,rL,rL,.of G,at1 ..,_,_,rL,rL,⟨I.2,F.2⟩,?_⟩
 refine⟨_,_,rL,uZ (KM.qN x) (KM.qN y),(O.2.mul S.2).md,λr H' e h=>k r H' e ?_⟩
 rw[<-KM.za6];exact h
end
theorem zgZ:zB ["one","other"] ["one","other"] (zj QK):=scq
theorem zgz (D:Df K mg "_law_sum" QK ["one","other"] []) (c:Cal P w K mg base "_law_lowest" 1 ["top","bottom"] [] vt):Cal P w K mg base "_law_sum" 2 ["one","other"] [] (qt Sz2 (· + ·)):=by
 rcases r:D.calq (k:=1) zgZ with⟨p,q,x,y,rfl,F,G,⟨I,O⟩,k⟩
 exact⟨_,zo (zE (zC c hr (za (zu xp (zu zK (pxt (pv 0)) (pxt (pv 1))) (zu zK (pxt (pv 1)) (pxt (pv 0))))
  (za (zu zK (pxt (pv 0)) (pxt (pv 1))) zd)))),zgQ F G I O k⟩
theorem zff:zB ["one","other"] ["one","other"] (zj Zc):=scq
theorem zeG (D:Df K mg "_law_product" Zc ["one","other"] []) (c:Cal P w K mg base "_law_lowest" 1 ["top","bottom"] [] vt):Cal P w K mg base "_law_product" 2 ["one","other"] [] (qt Sz2 (· * ·)):=by
 rcases r:D.calq (k:=1) zff with⟨p,q,x,y,rfl,F,G,⟨I,O⟩,k⟩
 exact⟨_,zo (zE (zC c hr (za (zu zK (pxt (pv 0)) (pxt (pv 1)))
  (za (zu zK (pxt (pv 0)) (pxt (pv 1))) zd)))),ze3 F G I O k⟩
theorem zg0:zB ["one","other"] ["one","other"] (zj zbM):=scq
theorem zgB (D:Df K mg "over" zbM ["one","other"] []) (c:Cal P w K mg base "ratio" 2 ["top","bottom"] [] vt):Cal P w K mg base "over" 3 ["one","other"] [] (qt (λx y=>Sz2 x y/\y≠0) (· / ·)):=by
 rcases r:D.calq (k:=2) zg0 with⟨p,q,x,y,rfl,V,I,⟨⟨S,U⟩,G⟩,k⟩
 have O:=Bd4 S
 have F:=Bd4 U
 refine⟨_,zo (zE (zC c hr (za (zu zK (pxt (pv 0)) (pxt (pv 1)))
  (za (zu zK (pxt (pv 0)) (pxt (pv 1))) zd)))),?_⟩
 refine⟨_,rL,p,_,_,_,rL,rL,.of V,at0 ..,_,rL,q,_,_,_,rL,rL,.of I,at1 ..,_,_,rL,rL,⟨O.1,F.2⟩,?_⟩
 refine⟨_,rL,p,_,_,_,rL,rL,.of V,at1 ..,_,rL,q,_,_,_,rL,rL,.of I,at0 ..,_,_,rL,rL,⟨O.2,F.1⟩,?_⟩
 refine⟨_,_,rL,uZ (KM.qN x) (λz=>G (Rat.num_eq_zero.mp z)),(S.2.mul U.1).md,λr H' e h=>k r H' e ?_⟩
 show zr H' r (x/y)
 rw[<-KM.zct];exact h
def vV (H:Hp) (p:Addr):Prop:=∃a b c:Int,H p=some (.lst [.int a,.int b,.int c])
structure xt (p:Addr) (H H':Hp):Prop where
 pool:vV H' p
 keep:∀b o,H b=some o->b≠p->H' b=some o
theorem xt.trans {p:Addr}{H H1 H2:Hp}(a:xt p H H1) (b:xt p H1 H2):xt p H H2:=⟨b.pool,λc o e n=>b.keep c o (a.keep c o e n) n⟩
theorem xt.same {p:Addr}{H H1 H2:Hp}(a:xt p H H1) (b:zk H1 H2):xt p H H2:=⟨by obtain⟨x,y,z,e⟩:=a.pool;exact⟨x,y,z,b _ _ e⟩,λc o e n=>b c o (a.keep c o e n)⟩
theorem xt.pre {p:Addr}{H H1 H2:Hp}(b:xt p H1 H2) (a:zk H H1):xt p H H2:=⟨b.pool,λc o e n=>b.keep c o (a c o e) n⟩
theorem vV.new {H:Hp}{p l:Addr}{o:HO}(h:vV H p) (F:H l=none):vV (upd H l o) p:=by obtain⟨a,b,c,e⟩:=h;exact⟨a,b,c,zk.upd F _ _ e⟩
theorem vV.ne {H:Hp}{p l:Addr}(h:vV H p) (F:H l=none):l≠p:=by obtain⟨a,b,c,e⟩:=h;exact(zZ e F).symm
theorem xt.refl {p:Addr}{H:Hp}(h:vV H p):xt p H H:=⟨h,λ_ _ e _=>e⟩
theorem xt.tup {p a:Addr}{H H':Hp}{xs:List V}(s:xt p H H') (F:vV H p) (h:H a=some (.tup xs)):H' a=some (.tup xs):=by
 obtain⟨_,_,_,e⟩:=F
 exact s.keep a _ h (zj0 h e (by intro z;cases z))
theorem xt.rat {p a:Addr}{H H':Hp}{q:Rat}(s:xt p H H') (F:vV H p) (h:zr H a q):zr H' a q:=s.tup F h
inductive zfm  (vs:List V) (H:Hp) (Q:VK) (_e3:XK):Prop
 |mk:∀c:Int,(vs=[.int c])->(∀p H',H p=none->zk H H'->vV H' p->Q (.ref p) H')->zfm vs H Q _e3
inductive XT  (vs:List V) (H:Hp) (Q:VK) (_e3:XK):Prop
 |mk:∀(p:Addr) (n:Int),(vs=[.ref p,.int n])->(0<n)->(n<1073741824)->(vV H p)->(∀(d:Int) H',0<=d->d<n->xt p H H'->Q (.int d) H')->XT vs H Q _e3
theorem Vh:zB ["pool","base","digit","mixed","stir"] ["pool","base"] (zj XL):=scq
theorem za5 {H:Hp}{p:Addr}{a b c:Int}:xt p H (upd H p (.lst [.int a,.int b,.int c])):=⟨⟨a,b,c,zg⟩,λd o e n=>by rw[zT n];exact e⟩
theorem zgA (D:Df K mg "_law_next" XL ["pool","base"] []):Cal P w K mg base "_law_next" 1 ["pool","base"] [] XT:=by
 rcases r:D.cal (k:=0) Vh (λvs H Q E h=>by obtain⟨a,b,rfl,_⟩:=h;rfl) with⟨p,n,rfl,G,I,⟨a,b,c,F⟩,k⟩
 refine⟨_,ze (xv (zH Xp (qp qy (pv 0) zi (λ_ _=>rL)) zi (zF _))
   (ze (psl (i:=2) Vh.nd (zu vN (qp qy (pv 0) zi (λ_ _=>rfl)) (pv 1)))
   (ze (vP (zu zcs (qp qy (pv 0) zi (λ_ _=>rfl)) (pv 1)) (zeU (pv 0) zi zaY))
   (zo (zE (pv 2))))) zU)
  (ze (vP (zu xp (qp qy (pv 0) zi (λ_ _=>rfl)) zi) (zeU (pv 0) zi zaY))
  (ze (psl (i:=3) Vh.nd (zu vN (zu xp (qp qy (pv 0) zi (λ_ _=>rfl)) (zu Xw zi (qp qy (pv 0) zi (λ_ _=>rfl)))) zi))
  (ze (psl (i:=4) Vh.nd (zu vN (zu Xw (zu xp (pv 3) zi) (zu xp (pv 3) zi)) zi))
  (zo (zE (zu vN (zu zcs (zu vN (zu Xw (pv 4) (pv 4)) zi) zi) (pv 1))))))),?_⟩
 refine⟨_,rL,p,_,_,_,rL,rL,.of F,rL,_,_,rL,rL,_,rL,vu (λh=>?_) (λh=>?_)⟩
 ·refine⟨_,rL,p,_,_,_,rL,rL,.of F,rL,_,rL,_,_,rL,rL,G,?_⟩
  refine⟨_,rL,p,_,_,_,rL,rL,.of F,rL,_,rL,_,_,rL,rL,⟨G,I⟩,?_⟩
  refine⟨_,rL,p,_,_,0,rL,rL,F,rL,?_⟩
  exact⟨_,rL,k _ _ (yS _ ∅) (yV _ G) za5⟩
 ·refine⟨_,rL,p,_,_,_,rL,rL,.of F,rL,_,_,rL,rL,?_⟩
  refine⟨_,rL,p,_,_,2,rL,rL,F,rL,?_⟩
  refine⟨_,rfl,p,_,_,_,rfl,rfl,.of zg,rfl,_,rfl,p,_,_,_,rfl,rfl,.of zg,rfl,_,_,rfl,rfl,.inl ⟨by decide,by decide⟩,_,_,rfl,rfl,_,_,rfl,rfl,(by show (0:Int)<1000000007;decide),?_⟩
  refine⟨_,rfl,_,_,rfl,rfl,_,rfl,_,_,rfl,rfl,_,_,rfl,rfl,.inl (by constructor <;> lia),_,_,rfl,rfl,(by show (0:Int)<998244353;decide),?_⟩
  refine⟨_,rfl,_,rfl,_,_,rfl,rfl,.inl (by constructor <;> lia),_,_,rfl,rfl,(by show (0:Int)<2147483647;decide),_,_,rfl,rfl,⟨by decide,by decide⟩,_,rfl,_,_,rfl,rfl,G,?_⟩
  exact k _ _ (yS _ ∅) (yV _ G) za5
inductive za1  (vs:List V) (H:Hp) (Q:VK) (_e3:XK):Prop
 |mk:∀(p:Addr),(vs=[.ref p])->(vV H p)->(∀(d:Int) H',0<=d->d<1000000000000000000000->xt p H H'->Q (.int d) H')->za1 vs H Q _e3
theorem zd2 {i:Nat}{f d:Int}(F:0<=f) (h1:f<10000000^i) (G:0<=d) (I:d<10000000):0<=f*10^7+d/\f*10^7+d<10000000^(i+1):=by
 have e:(10:Int)^7=10000000:=by decide
 rw[e,Int.pow_succ]
 generalize (10000000:Int)^i=B at *
 lia
open KM
inductive xC (H:Hp):List V->List Zl->Prop
 |nil:xC H [] []
 |cons {a p q:Addr}{b:Zl}{vs:List V}{bs:List Zl}:H a=some (.tup [.ref p,.ref q,.int b.wt])->zr H p b.pl->zr H q b.sp->xC H vs bs->xC H (.ref a::vs) (b::bs)
theorem xC.mono {H H':Hp}(m:∀b xs,H b=some (.tup xs)->H' b=some (.tup xs)):∀{vs:List V}{bs:List Zl},xC H vs bs->xC H' vs bs
 |_,_,.nil=>.nil
 |_,_,.cons h1 h2 h3 t=>.cons (m _ _ h1) (m _ _ h2) (m _ _ h3) (xC.mono m t)
theorem xC.same {H H':Hp}{vs:List V}{bs:List Zl}(h:xC H vs bs) (e:zk H H'):xC H' vs bs:=h.mono λb xs z=>e b _ z
theorem xC.length {H:Hp}:∀{vs:List V}{bs:List Zl},xC H vs bs->vs.length=bs.length
 |_,_,.nil=>rfl
 |_,_,.cons _ _ _ t=>by rw[wx,wx,xC.length t]
theorem xC.get {H:Hp}:∀{vs:List V}{bs:List Zl}{i:Nat}{v:V},xC H vs bs->vs[i]?=some v->∃(a p q:Addr) (b:Zl),bs[i]?=some b/\v=.ref a/\H a=some (.tup [.ref p,.ref q,.int b.wt])/\zr H p b.pl/\zr H q b.sp
 |_,_,_,_,.nil,e=>by simp at e
 |_,_,0,_,.cons h1 h2 h3 _,e=>by
  simp at e;subst e
  exact⟨_,_,_,_,rL,rL,h1,h2,h3⟩
 |_,_,i+1,v,.cons _ _ _ t,e=>by
  obtain⟨a,p,q,b,e1,r⟩:=xC.get (i:=i) t ↥e
  exact⟨a,p,q,b,↥e1,r⟩
inductive VM  (vs:List V) (H:Hp) (Q:VK) (_e3:XK):Prop
 |mk:∀p q x y,(vs=[.ref p,.ref q])->(zr H p x)->(zr H q y)->(Sz 4000 x)->(Sz 4000 y)->(Q (.bl (decide (x<y))) H)->VM vs H Q _e3
theorem Xd {X:Cx}{es:List Expr}{k:Nat}{pos:Pos}{t:TGs}{n:Nat}{K:Fg}(G:X.K=K) (I:X.calm=true) (h:PGs X es t)
  (O:(assignEach es X.env).length=n:=by rfl) (F:(assignEach es X.env).findIdx? (·.1)=none:=by rfl):PG X (.Tuple es k pos) (zaE K n t):=by subst G;exact qH I h O F
theorem v6 {X:Cx}{K:Fg}(F:X.K=K):IxR X (vE K):=by subst F;exact JV
theorem Bd9 {i:Int}(h:Bd 8900 i):Bd 1000000 i:=h.md
theorem zes (x y:Rat):decide (x.num*(y.den:Int)<y.num*(x.den:Int))=decide (x<y):=by
 by_cases h:x<y
 ·rw[wm h,wm ((KM.vn x y).mpr h)]
 ·rw[wy h,wy λz=>h ((KM.vn x y).mp z)]
def xT (ks:List Int):Int:=ks.foldl (λc n=>c/(Int.gcd c n:Int)*n) 1
theorem vL {c n:Int}(F:0<c) (G:0<n):0<c/(Int.gcd c n:Int)*n:=by
 refine wQ ?_ G
 have I:0<(Int.gcd c n:Int):=by have:=ug n (a:=c) ∅;lia
 exact Wv F ∅ (um c n)
theorem zep {c n:Int}(F:0<c) (G:0<n):c/(Int.gcd c n:Int)*n<=c*n:=by
 have I:0<(Int.gcd c n:Int):=by have:=ug n (a:=c) ∅;lia
 exact yx (W8 _ ∅) ∅
theorem JE {m n:Nat}{c k:Int}(G:0<c) (F:0<k) (h:Bd m c) (h':Bd n k):Bd (m+n) (c/(Int.gcd c k:Int)*k) :=
 (h.mul h').of_le (by have:=zep G F;have:=vL G F;omega)
def Pos (n:Nat) (ks:List Int):Prop:=∀k∈ks,0<k/\Bd n k
inductive Jv  (vs:List V) (H:Hp) (Q:VK) (_e3:XK):Prop
 |mk:∀p ks,(vs=[.ref p])->(H p=some (.lst (ks.map V.int)))->(Pos 400 ks)->(ks.length<=20)->(Q (.int (xT ks)) H)->Jv vs H Q _e3
theorem zae:zB ["numbers","common","number"] ["numbers"] (zj ve):=scq
theorem ziu (D:Df K mg "least_multiple" ve ["numbers"] []) (cG:Cal P w K mg base "greatest_divisor" 1 ["one","other"] [] Ju):Cal P w K mg base "least_multiple" 2 ["numbers"] [] Jv:=by
 rcases r:D.calq (k:=1) zae with⟨p,ks,rfl,Y,hk,hl,k⟩
 refine⟨_,(ze (psl (i:=1) zae.nd zi)
  (ze (vd PassesOwn.never rfl (xk (pv 0)) (pgl (i:=2) zae.nd) (zo (psl (i:=1) zae.nd (zu zK (zu xJ (pv 1) (zC cG hr (za (pv 1) (za (pv 2) zd)))) (pv 2)))))
  (zo (zE (pv 1))))),?_⟩
 try dsimp only[xc,Cx.nox]
 refine⟨_,rfl,p,rfl,⟨_,SqL.of Y⟩,vm (xs:=ks.map V.int) (λi σ H1=>H1=H/\∃z,σ=[Sr p,some (.int (xT (ks.take i))),z]/\0<xT (ks.take i)/\Bd (1+400*i) (xT (ks.take i))) ⟨rfl,none,rfl,(by show (0:Int)<1;decide),(show (1:Int).natAbs<2^1 by decide)⟩ ?_ ?_ ?_⟩
 ·rintro i σ H1 _ ⟨rfl,_⟩;exact .of Y
 ·rintro i x σ H1 W G;rcases q:G with⟨rfl,z,rfl,h1,h2⟩
  have hi:i<ks.length:=by
   have:=(wS.mp W).1
   simpa using this
  obtain⟨n,U,rfl⟩:∃n,ks[i]?=some n/\V.int n=x:=↥W
  have F:=hk n (wL U)
  have I:xT (ks.take (i+1))=xT (ks.take i)/(Int.gcd (xT (ks.take i)) n:Int)*n:=by
   rw[yA,U];simp[xT,YE]
  have hg:0<(Int.gcd (xT (ks.take i)) n:Int):=by have:=ug n (a:=xT (ks.take i)) ∅;lia
  have S:Bd 8900 (xT (ks.take i)):=h2.mono ∅
  have O:Bd 8900 (Int.gcd (xT (ks.take i)) n:Int):=S.of_le (by have:=Int.le_of_dvd h1 (um (xT (ks.take i)) n);lia)
  have hq:Bd 8900 ((xT (ks.take i)).fdiv (Int.gcd (xT (ks.take i)) n:Int)):=by
   rw[wC _ ∅]
   exact S.of_le (by have:=W8 (Int.gcd (xT (ks.take i)) n:Int) (a:=xT (ks.take i)) ∅;have:=WP (a:=xT (ks.take i)) (b:=(Int.gcd (xT (ks.take i)) n:Int)) ∅ ∅;lia)
  refine⟨_,rfl,_,rfl,_,rfl,⟨_,_,rfl,by lia,by lia,?_⟩⟩
  refine⟨_,_,rfl,rfl,⟨by lia,O⟩,_,rfl,_,_,rfl,rfl,⟨Bd9 hq,F.2.md⟩,?_⟩
  refine⟨rL,some (.int n),?_,?_,?_⟩
  ·rw[I,<-wC _ ∅];rfl
  ·rw[I];exact vL h1 F.1
  ·rw[I];exact(JE h1 F.1 h2 F.2).mono ∅
 ·rintro σ H1 ⟨rfl,z,rfl,_⟩
  refine⟨_,rL,?_⟩
  rw[wc,yq];exact k
def zhn (H:Hp) (us:List V) (qs:List Rat):Prop:=us.length=qs.length/\∀(i:Nat) (v:V),us[i]?=some v->∃a q,v=V.ref a/\qs[i]?=some q/\zr H a q
theorem zdX {α:Type}{f:α->V}{ys:List V}{qs:List α}(h:ys.length=qs.length) (k:∀(i:Nat) (v:V),ys[i]?=some v->∃q,qs[i]?=some q/\v=f q):ys=qs.map f:=by
 refine uL λi=>?_
 by_cases hi:i<ys.length
 ·obtain⟨q,e1,e2⟩:=k i ys[i] (by simp[hi])
  rw[wu,e1,wJ hi,e2];rfl
 ·rw[yF ∅,yF (by rw[wc];lia)]
theorem zer {σ:St}(h:σ.length=2):∃a b,σ=[a,b]:=by
 match σ,h with
 |[a,b],_=>exact⟨a,b,rfl⟩
theorem Xm {σ:St}(h:σ.length=1):∃a,σ=[a]:=by
 match σ,h with
 |[a],_=>exact⟨a,rfl⟩
theorem qo {n:Nat}(h:n<=20):n<sizeLine:=WK h (by decide)
def Q6 (qs:List Rat):Int:=xT (qs.map λq=>(q.den:Int))
inductive zje  (vs:List V) (H:Hp) (Q:VK) (_e3:XK):Prop
 |mk:∀p us qs,(vs=[.ref p])->(H p=some (.lst us))->(zhn H us qs)->((∀q∈qs,Bd 400 (q.den:Int)))->(qs.length<=20)->(∀H',zk H H'->Q (.int (Q6 qs)) H')->zje vs H Q _e3
theorem zkv:zB ["ratios"] ["ratios"] (zj vv):=scq
theorem zj2 (D:Df K mg "common_bottom" vv ["ratios"] []) (W:Cal P w K mg base "least_multiple" 2 ["numbers"] [] Jv):Cal P w K mg base "common_bottom" 3 ["ratios"] [] zje:=by
 rcases r:D.calq (k:=2) zkv with⟨p,us,qs,rfl,U,F,hb,S,k⟩
 refine⟨_,(zo (zE (zC W hr (za (vD (NB:=["top","bottom"]) rfl (by decide +kernel) (by decide +kernel) rfl (by decide +kernel) (xk (pv 0)) (by intro _ _ _;refine⟨?_,?_,?_⟩;(exact(Xd (K:=K) (n:=2) rfl rfl (zJ (pgl (i:=0) (show List.Nodup (["top","bottom"]:List Str) by decide +kernel)) (zJ (pgl (i:=1) (show List.Nodup (["top","bottom"]:List Str) by decide +kernel)) xL))));(exact xI);(exact(pv 1)))) zd)))),?_⟩
 try dsimp only[xc,Cx.nox]
 refine⟨_,rL,p,rL,⟨_,SqL.of U⟩,λDa hD=>?_⟩
 refine Zf (J:=Itl K p) (n:=2) (g:=zaE K 2 (v5 (zD 0) (v5 (zD 1) zbr))) (te:=xw 1) (xs:=us) (λi v _=>∃q:Rat,qs[i]?=some q/\v=.int (q.den:Int)) (λ_ _ _ _ _ z=>z) hD (xq U) (qo (by rw[F.1];exact S)) ?_ ?_
 ·intro i x zs H2 Q' hx hz s2 hk
  rcases q:F.2 i x hx with⟨a,q,rfl,G,Y⟩
  obtain⟨z1,z2,rfl⟩:=zer hz
  exact⟨a,_,rL,SqT.of (s2 _ _ Y),rL,_,_,rL,_,_,rL,rL,_,rL,hk _ _ (zk.refl _) ⟨q,G,rL⟩⟩
 ·intro ys H' s' hy O I
  have e:=zdX (f:=λq:Rat=>V.int (q.den:Int)) (O.trans F.1) I
  refine⟨Da,qs.map λq:Rat=>(q.den:Int),rfl,?_,λn hn=>?_,↥S,k H' s'⟩
  ·rw[hy,e,wD];rfl
  ·obtain⟨q,G,rfl⟩:=wf.mp hn
   exact⟨by have:=q.den_pos;lia,hb q G⟩
theorem zhX {a:V}{r:List V}:atI (a::r) 0=some a:=by
 unfold atI ixN;rw[if_pos (by decide),if_pos (by simp only[wx];lia)];rfl
theorem zhY {a b:V}{r:List V}:atI (a::b::r) 1=some b:=by
 unfold atI ixN;rw[if_pos (by decide),if_pos (by simp only[wx];lia)];rfl
structure TCo (K:Fg) (C:Addr):Prop where
 cls:Cls K C
 pb:qx K C "place_bottom"
 sb:qx K C "speed_bottom"
 tick:qx K C "tick"
 weights:qx K C "weights"
 tracks:qx K C "tracks"
 low:qx K C "low"
 high:qx K C "high"
def VR (H:Hp) (a:Addr) (x y:Rat):Prop:=∃p q r,H a=some (.tup (.ref p::.ref q::r))/\zr H p x/\zr H q y
theorem VR.keeps {H H':Hp}{a:Addr}{x y:Rat}(h:VR H a x y) (t:xx H H'):VR H' a x y:=by
 obtain⟨p,q,r,h1,h2,F⟩:=h
 exact⟨p,q,r,t _ _ h1,t _ _ h2,t _ _ F⟩
def byB (x:Rat) (b:Int):Int:=x.num*b.fdiv (x.den:Int)
inductive zfy (C:Addr) (vs:List V) (H:Hp) (Q:VK) (_e3:XK):Prop
 |mk:∀(c dx:Addr) (fs:List (Str×V)) (pb sb:Int),(H c=some (.ins C dx fs))->(fs.lookup ("place_bottom":Str)=some (V.int pb))->(fs.lookup ("speed_bottom":Str)=some (V.int sb))->(((vs=[.ref c,.non]/\Q .non H)\/∃a x y,vs=[.ref c,.ref a]/\VR H a x y/\Sz 400 x/\Sz 400 y/\0<pb/\0<sb/\Bd 8900 pb/\Bd 8900 sb/\∀r H',zk H H'->H' r=some (.tup [.int (byB x pb),.int (byB y sb)])->Q (.ref r) H'))->zfy C vs H Q _e3
theorem zhL:zB ["course","thing","start"] ["course","thing"] (zj XR):=scq
theorem zb3 {b d:Int}(F:0<b) (hd:0<d) (h:Bd 8900 b):Bd 8900 (b.fdiv d):=by
 rw[wC _ ∅]
 exact h.of_le (by have:=W8 d (a:=b) ∅;have:=WP (a:=b) (b:=d) ∅ ∅;lia)
theorem zkh {C:Addr}(D:Df K mg "track_of" XR ["course","thing"] []) (F:TCo K C):Cal P w K mg base "track_of" 1 ["course","thing"] [] (zfy C):=by
 rcases r:D.cal (k:=0) zhL (λvs H Q E h=>by obtain⟨_,_,_,_,_,_,_,_,⟨rfl,_⟩ | ⟨_,_,_,rfl,_⟩⟩:=h <;> rfl) with⟨c,dx,fs,pb,sb,V,e1,e2,h⟩
 refine⟨_,(ze (xv (zH qP (pv 1) xB (zF _)) (zo (zE xB)) zU)
  (ze (psl (i:=2) zhL.nd (zu zK (pxt (pxt (pv 1))) (zu xJ (xG (pv 0) rfl) (pxt (pxt (pv 1))))))
  (zo (zE (zS (za (pv 2) (za (zu zK (pxt (pxt (pv 1))) (zu xJ (xG (pv 0) rfl) (pxt (pxt (pv 1))))) zd))))))),?_⟩
 try dsimp only[xc,Cx.nox]
 rcases h with⟨rfl,k⟩ | ⟨a,x,y,rfl,⟨p,q,r,G,U,I⟩,O,S,p1,Y,b1,b2,k⟩
 ·refine⟨_,rL,rL,_,rL,xO k⟩
 ·refine⟨_,rL,rL,_,rL,xz ?_⟩
  have d1:0<(x.den:Int):=by have:=x.den_pos;lia
  have W:0<(y.den:Int):=by have:=y.den_pos;lia
  have z1:=zb3 p1 d1 b1
  have z2:=zb3 Y W b2
  refine⟨_,rfl,a,_,_,_,rfl,rfl,.of G,zhX,p,_,_,_,rfl,rfl,.of U,at0 ..,_,rfl,c,C,dx,fs,_,rfl,V,F.cls,F.pb,e1,_,rfl,a,_,_,_,rfl,rfl,.of G,zhX,p,_,_,_,rfl,rfl,.of U,at1 ..,_,_,rfl,rfl,⟨by lia,O.2.md⟩,_,_,rfl,rfl,⟨O.1.md,Bd9 z1⟩,?_⟩
  refine⟨_,rfl,_,rfl,a,_,_,_,rfl,rfl,.of G,zhY,q,_,_,_,rfl,rfl,.of I,at0 ..,_,rfl,c,C,dx,fs,_,rfl,V,F.cls,F.sb,e2,_,rfl,a,_,_,_,rfl,rfl,.of G,zhY,q,_,_,_,rfl,rfl,.of I,at1 ..,_,_,rfl,rfl,⟨by lia,S.2.md⟩,_,_,rfl,rfl,⟨S.1.md,Bd9 z2⟩,?_⟩
  exact⟨zL2,λr hr=>k r _ (zk.upd hr) (by rw[zg];rfl)⟩
theorem zcl {c n:Int}(G:0<c) (O:0<n):c ∣ c/(Int.gcd c n:Int)*n/\n ∣ c/(Int.gcd c n:Int)*n:=by
 refine⟨?_,Int.dvd_mul_left ..⟩
 obtain⟨m,F⟩:=Wr c n
 have I:0<(Int.gcd c n:Int):=by have:=ug n (a:=c) ∅;lia
 refine⟨m,?_⟩
 have e1:c/(Int.gcd c n:Int)*(Int.gcd c n:Int)=c:=Int.ediv_mul_cancel (um c n)
 calc c/(Int.gcd c n:Int)*n=c/(Int.gcd c n:Int)*((Int.gcd c n:Int)*m):=by rw[<-F]
  _=c/(Int.gcd c n:Int)*(Int.gcd c n:Int)*m:=by rw[WQ]
  _=c*m:=by rw[e1]
theorem Vx {n:Nat}:∀{ks:List Int}{c:Int}{m:Nat},0<c->Bd m c->Pos n ks →
  0<ks.foldl (λc n=>c/(Int.gcd c n:Int)*n) c/\Bd (m+n*ks.length) (ks.foldl (λc n=>c/(Int.gcd c n:Int)*n) c)/\c ∣ ks.foldl (λc n=>c/(Int.gcd c n:Int)*n) c/\∀k∈ks,k ∣ ks.foldl (λc n=>c/(Int.gcd c n:Int)*n) c
 |[],c,m,hc,hm,_=>⟨hc,hm,Yr c,λk F=>by cases F⟩
 |k::r,c,m,hc,hm,hp=>by
  have F:=hp k wB
  have d:=zcl hc F.1
  obtain⟨O,S,I,U⟩:=Vx (ks:=r) (vL hc F.1) (JE hc F.1 hm F.2) λx G=>hp x (wR _ G)
  refine⟨O,S.mono (by rw[wx,Y6];lia),Ws d.1 I,λx G=>?_⟩
  rcases ww.mp G with rfl | G
  ·exact Ws d.2 I
  ·exact U x G
theorem zck {qs:List Rat}(h:∀q∈qs,Bd 400 (q.den:Int)) (U:qs.length<=20):0<Q6 qs/\Bd 8900 (Q6 qs)/\∀q∈qs,(q.den:Int) ∣ Q6 qs:=by
 obtain⟨I,O,_,S⟩:=Vx (n:=400) (ks:=qs.map λq=>(q.den:Int)) (c:=1) (m:=1) (by decide) (show (1:Int).natAbs<2^1 by decide) (λk G=>by
  obtain⟨q,F,rfl⟩:=wf.mp G
  exact⟨by have:=q.den_pos;lia,h q F⟩)
 exact⟨I,O.mono (by rw[wc];lia),λq F=>S _ (wf.mpr ⟨q,F,rfl⟩)⟩
structure Bl where
 pl:Rat
 sp:Rat
 wt:Int
def Xj (H:Hp) (v:V) (b:Bl):Prop:=∃a p q,v=V.ref a/\H a=some (.tup [.ref p,.ref q,.int b.wt])/\zr H p b.pl/\zr H q b.sp
def qi (H:Hp) (us:List V) (bs:List Bl):Prop:=us.length=bs.length/\∀(i:Nat) (v:V),us[i]?=some v->∃b,bs[i]?=some b/\Xj H v b
def VT (H:Hp) (v:V):Option (Rat×Rat)->Prop
 |none=>v=.non
 |some w=>∃a,v=V.ref a/\VR H a w.1 w.2
theorem Xj.keeps {H H':Hp}{v:V}{b:Bl}(h:Xj H v b) (t:xx H H'):Xj H' v b:=by
 obtain⟨a,p,q,e,h1,h2,F⟩:=h
 exact⟨a,p,q,e,t _ _ h1,t _ _ h2,t _ _ F⟩
theorem qi.keeps {H H':Hp}{us:List V}{bs:List Bl}(h:qi H us bs) (t:xx H H'):qi H' us bs :=
 ⟨h.1,λi v e=>by obtain⟨b,e1,e2⟩:=h.2 i v e;exact⟨b,e1,e2.keeps t⟩⟩
theorem VT.keeps {H H':Hp}{v:V}{w:Option (Rat×Rat)} (h:VT H v w) (t:xx H H'):VT H' v w:=by
 cases w with
 |none=>exact h
 |some w=>obtain⟨a,e,h⟩:=h;exact⟨a,e,h.keeps t⟩
def TsI (H:Hp) (vs:List V) (ts:List (Rat×Rat)):Prop:=vs.length=ts.length/\∀(i:Nat) (v:V),vs[i]?=some v->∃t a,ts[i]?=some t/\v=V.ref a/\VR H a t.1 t.2
theorem TsI.keeps {H H':Hp}{vs:List V}{ts:List (Rat×Rat)} (h:TsI H vs ts) (t:xx H H'):TsI H' vs ts :=
 ⟨h.1,λi v e=>by obtain⟨x,a,e1,e2,F⟩:=h.2 i v e;exact⟨x,a,e1,e2,F.keeps t⟩⟩
theorem TsI.nil {H:Hp}:TsI H [] []:=⟨rfl,λi v e=>by simp at e⟩
theorem TsI.cons {H:Hp}{a:Addr}{t:Rat×Rat}{vs:List V}{ts:List (Rat×Rat)} (h:VR H a t.1 t.2) (r:TsI H vs ts):TsI H (.ref a::vs) (t::ts):=by
 refine⟨by simp[r.1],λi v e=>?_⟩
 cases i with
 |zero=>simp at e;subst e;exact⟨t,a,rfl,rfl,h⟩
 |succ i=>obtain⟨x,b,e1,e2⟩:=r.2 i v ↥e;exact⟨x,b,↥e1,e2⟩
theorem TsI.append {H:Hp}{vs G:List V}{ts F:List (Rat×Rat)} (h:TsI H vs ts) (h':TsI H G F):TsI H (vs++G) (ts++F):=by
 refine⟨by simp[h.1,h'.1],λi v e=>?_⟩
 by_cases hi:i<vs.length
 ·rw[w8 hi]at e
  rw[w8 (by rw[<-h.1];exact hi)]
  exact h.2 i v e
 ·rw[wT ∅]at e
  rw[wT (by rw[<-h.1];lia),<-h.1]
  exact h'.2 _ v e
theorem qi.ts {H:Hp}{us:List V}{bs:List Bl}(h:qi H us bs):TsI H us (bs.map λb=>(b.pl,b.sp)):=by
 refine⟨by simp[h.1],λi v e=>?_⟩
 obtain⟨b,e1,a,p,q,rfl,h1,h2,F⟩:=h.2 i v e
 exact⟨(b.pl,b.sp),a,by rw[wu,e1];rfl,rfl,p,q,_,h1,h2,F⟩
def Qh:Option (Rat×Rat)->List (Rat×Rat)
 |none=>[]
 |some w=>[w]
theorem zfV {H:Hp}{F v2:V}{lo hi:Option (Rat×Rat)} (h1:VT H F lo) (h2:VT H v2 hi):TsI H ([F,v2].filter λv=>!decide (v=.non)) (Qh lo++Qh hi):=by
 have one:∀{v:V}{w:Option (Rat×Rat)},VT H v w->TsI H ([v].filter λv=>!decide (v=.non)) (Qh w):=λ{v w} h=>by
  cases w with
  |none =>
   have e:v=.non:=h
   subst e;exact .nil
  |some w =>
   obtain⟨a,e,h⟩:=h
   subst e
   rw[List.filter_cons_of_pos (by simp)]
   exact .cons h .nil
 have e:([F,v2].filter λv=>!decide (v=.non))=([F].filter λv=>!decide (v=.non))++([v2].filter λv=>!decide (v=.non)):=by
  rw[<-ue];rfl
 rw[e];exact(one h1).append (one h2)
def xg (c:Addr) (H H':Hp):Prop:=∀b o,b≠c->H b=some o->H' b=some o
theorem xg.of {c:Addr}{H H':Hp}(h:zk H H'):xg c H H':=λb o _ e=>h b o e
theorem xg.trans {c:Addr}{H H1 H2:Hp}(a:xg c H H1) (b:xg c H1 H2):xg c H H2:=λx o n e=>b x o n (a x o n e)
theorem xg.upd {c:Addr}{H:Hp}{o:HO}:xg c H (upd H c o):=λb u n e=>by rw[zT n];exact e
theorem xg.tup {c C dx:Addr}{fs:List (Str×V)}{H H':Hp}(h:xg c H H') (e:H c=some (.ins C dx fs)):xx H H':=λb xs q=>h b _ (λz=>by subst z;rw[e]at q;cases q) q
structure TxQ (K:Fg) (mg:Str->Option Value):Prop extends TxB K mg where
 nList:mg "list" = none
 nZip:mg "zip" = none
def Qu (H:Hp) (v:V):Option (Int×Int)->Prop
 |none=>v=.non
 |some t=>∃a,v=V.ref a/\H a=some (.tup [.int t.1,.int t.2])
def VS (H:Hp) (vs:List V) (ts:List (Int×Int)):Prop:=vs.length=ts.length/\∀(i:Nat) (v:V),vs[i]?=some v->∃t,ts[i]?=some t/\Qu H v (some t)
theorem Qu.keeps {H H':Hp}{v:V}{w:Option (Int×Int)} (h:Qu H v w) (t:xx H H'):Qu H' v w:=by
 cases w with
 |none=>exact h
 |some w=>obtain⟨a,e,h⟩:=h;exact⟨a,e,t _ _ h⟩
theorem VS.keeps {H H':Hp}{vs:List V}{ts:List (Int×Int)} (h:VS H vs ts) (t:xx H H'):VS H' vs ts :=
 ⟨h.1,λi v e=>by obtain⟨x,e1,e2⟩:=h.2 i v e;exact⟨x,e1,e2.keeps t⟩⟩
structure CoF (H:Hp) (fs:List (Str×V)) (pb sb:Int) (tk:Rat) (ws:List Int) (trs:List (Int×Int)) (lo hi:Option (Int×Int)):Prop where
 pb:fs.lookup ("place_bottom":Str)=some (V.int pb)
 sb:fs.lookup ("speed_bottom":Str)=some (V.int sb)
 tick:∃tp,fs.lookup ("tick":Str)=some (V.ref tp)/\zr H tp tk
 weights:∃wl,fs.lookup ("weights":Str)=some (V.ref wl)/\H wl=some (.lst (ws.map V.int))
 tracks:∃tl tv,fs.lookup ("tracks":Str)=some (V.ref tl)/\H tl=some (.lst tv)/\VS H tv trs
 low:∃v,fs.lookup ("low":Str)=some v/\Qu H v lo
 high:∃v,fs.lookup ("high":Str)=some v/\Qu H v hi
 len:fs.length<=20
def Xk (H:Hp) (C c:Addr) (pb sb:Int) (tk:Rat) (ws:List Int) (trs:List (Int×Int)) (lo hi:Option (Int×Int)):Prop:=∃dx fs,H c=some (.ins C dx fs)/\CoF H fs pb sb tk ws trs lo hi
def CoN (H0 H:Hp) (C c:Addr) (pb sb:Int) (tk:Rat) (ws:List Int) (trs:List (Int×Int)) (lo hi:Option (Int×Int)):Prop:=∃dx fs tl,H c=some (.ins C dx fs)/\CoF H fs pb sb tk ws trs lo hi/\fs.lookup ("tracks":Str)=some (V.ref tl)/\H0 tl=none
theorem CoN.co {I H:Hp}{C c:Addr}{F G:Int}{tk:Rat}{ws:List Int}{trs:List (Int×Int)}{lo hi:Option (Int×Int)} (h:CoN I H C c F G tk ws trs lo hi):Xk H C c F G tk ws trs lo hi:=by
 obtain⟨dx,fs,O,h1,h2,_⟩:=h;exact⟨dx,fs,h1,h2⟩
def ths (bs:List Bl) (lo hi:Option (Rat×Rat)):List (Rat×Rat):=bs.map (λb=>(b.pl,b.sp))++(Qh lo++Qh hi)
def pbO (bs:List Bl) (lo hi:Option (Rat×Rat)):Int:=Q6 ((ths bs lo hi).map (·.1))
def sbO (bs:List Bl) (lo hi:Option (Rat×Rat)):Int:=Q6 ((ths bs lo hi).map (·.2))
def trB (pb sb:Int) (t:Rat×Rat):Int×Int:=(byB t.1 pb,byB t.2 sb)
inductive zg6 (C:Addr) (vs:List V) (H:Hp) (Q:VK) (_e3:XK):Prop
 |mk:∀c dx r wa us bs v1 v2 lo hi,(vs=[V.ref c,.ref r,.ref wa])->(H c=some (.ins C dx []))->(H r=some (.tup us))->(qi H us bs)->(H wa=some (.tup [v1,v2]))->(VT H v1 lo)->(VT H v2 hi)->(bs.length<=8)->((∀t∈ths bs lo hi,Sz 400 t.1/\Sz 400 t.2))->(∀H',xg c H H'->CoN H H' C c (pbO bs lo hi) (sbO bs lo hi) (Rat.divInt (sbO bs lo hi) (pbO bs lo hi)) (bs.map Bl.wt) (bs.map λb=>trB (pbO bs lo hi) (sbO bs lo hi) (b.pl,b.sp)) (lo.map (trB (pbO bs lo hi) (sbO bs lo hi))) (hi.map (trB (pbO bs lo hi) (sbO bs lo hi)))->Q .non H')->zg6 C vs H Q _e3
theorem zhK:zB ["self","row","walls","things"] ["self","row","walls"] (zj qu):=scq
theorem ZD {bs:List Bl}{lo hi:Option (Rat×Rat)} (h:bs.length<=8):(ths bs lo hi).length<=20:=by
 unfold ths
 have e:∀w:Option (Rat×Rat),(Qh w).length<=1:=λw=>by cases w <;> simp[Qh]
 have:=e lo
 have:=e hi
 simp only[wV,wc];lia
theorem zb6 {σ:St}{H:Hp}{Q:VK}{L:Addr}{vs:List V}{ts:List (Rat×Rat)}{j:Nat}{i:Int}(f:Rat×Rat->Rat) (Y:σ[j]?=some (some (.ref L))) (S:H L=some (.lst vs)) (G:TsI H vs ts) (hl:ts.length<=20)
  (hf:∀H2 a t,VR H2 a t.1 t.2->∃xs p,H2 a=some (.tup xs)/\atI xs i=some (.ref p)/\zr H2 p (f t))
  (k:∀D ys H',zk H H'->H' D=some (.lst ys)->zhn H' ys (ts.map f)->Q (.ref D) H') :
  zcJ 1 (zhs K (xw j)) (zD 0) (λ_ H Q=>Q true H) (tOp (vE K) (xw 0) (tC (.int i))) σ H Q:=by
 refine⟨_,Y,L,rL,⟨_,SqL.of S⟩,λD hD=>?_⟩
 refine Zf (J:=Itl K L) (n:=1) (g:=zD 0) (te:=tOp (vE K) (xw 0) (tC (.int i))) (xs:=vs) (λm v H=>∃t p,ts[m]?=some t/\v=.ref p/\zr H p (f t)) (λ_ _ _ _ t ⟨x,p,e1,e2,F⟩=>⟨x,p,e1,e2,t _ _ F⟩) hD (xq S) (qo (by rw[G.1];exact hl)) ?_ ?_
 ·intro m x zs H2 Q' hx hz s2 U
  obtain⟨t,a,e,rfl,ha⟩:=G.2 m x hx
  obtain⟨z1,rfl⟩:=Xm hz
  obtain⟨xs,p,h1,h2,h3⟩:=hf H2 a t (ha.keeps (.of s2))
  dsimp only[zD]
  try rw[if_pos rfl]
  exact⟨_,rL,a,_,_,_,rL,rL,.of h1,h2,U _ _ (zk.refl _) ⟨t,p,e,rL,h3⟩⟩
 ·intro ys H' s' W O I
  refine k D ys H' s' W ⟨by simp[O,G.1],λm v e=>?_⟩
  obtain⟨t,p,e1,e2,F⟩:=I m v e
  exact⟨p,f t,e2,by rw[wu,e1];rfl,F⟩
theorem th0:∀(H2:Hp) (a:Addr) (t:Rat×Rat),VR H2 a t.1 t.2->∃xs p,H2 a=some (.tup xs)/\atI xs 0=some (.ref p)/\zr H2 p t.1:=λH2 a t ⟨p,q,r,h1,h2,h3⟩=>⟨_,p,h1,zhX,h2⟩
theorem th1:∀(H2:Hp) (a:Addr) (t:Rat×Rat),VR H2 a t.1 t.2->∃xs p,H2 a=some (.tup xs)/\atI xs 1=some (.ref p)/\zr H2 p t.2:=λH2 a t ⟨p,q,r,h1,h2,h3⟩=>⟨_,q,h1,zhY,h3⟩
theorem jT {tv:TE}{rest:TS}{f:Str}{D:ZF}{σ:St}{H:Hp}(h:tv σ H λy H1=>xw 0 σ H1 λx H2=>∃a C dx fs,x=.ref a/\H2 a=some (.ins C dx fs)/\Cls K C/\qx K C f/\fs.length<1000/\rest D σ (upd H2 a (.ins C dx (qe f y fs)))):zbU (zi1 K (xw 0) tv f) rest D σ H:=h
theorem zcr {tv:TE}{f:Str}{D:ZF}{σ:St}{H:Hp}(h:tv σ H λy H1=>xw 0 σ H1 λx H2=>∃a C dx fs,x=.ref a/\H2 a=some (.ins C dx fs)/\Cls K C/\qx K C f/\fs.length<1000/\D.nx σ (upd H2 a (.ins C dx (qe f y fs)))):zi1 K (xw 0) tv f D σ H:=h
theorem zho {te:TE}{sp:Sp}{σ:St}{H:Hp}{Q:VK}(h:te σ H λx H1=>sp [x] H1 Q E0):ZE sp [] E0 (xU te Z6) σ H Q:=h
theorem zat {ta tb:TE}{sp:Sp}{σ:St}{H:Hp}{Q:VK}(h:ta σ H λx H1=>tb σ H1 λy H2=>sp [x,y] H2 Q E0):ZE sp [] E0 (xU ta (xU tb Z6)) σ H Q:=h
theorem qG {c C dx:Addr}{fs:List (Str×V)}{f:Str}{y:V}{rest:TS}{D:ZF}{σ:St}{F:Hp}(O:σ[0]?=some (some (.ref c))) (S:F c=some (.ins C dx fs)) (cl:Cls K C) (na:qx K C f) (I:fs.length<1000)
  (k:∀G,xg c F G->G c=some (.ins C dx (qe f y fs))->rest D σ G):xw 0 σ F λx H2=>∃a C dx fs,x=.ref a/\H2 a=some (.ins C dx fs)/\Cls K C/\qx K C f/\fs.length<1000/\rest D σ (upd H2 a (.ins C dx (qe f y fs))) :=
 ⟨_,O,c,C,dx,fs,rfl,S,cl,na,I,k _ .upd zg⟩
theorem zcO {C c dx:Addr}{fs:List (Str×V)}{I F:Int}{G:Hp}{v:V}{w:Option (Rat×Rat)}{Q:VK}{E:XK}(Y:G c=some (.ins C dx fs)) (e1:fs.lookup ("place_bottom":Str)=some (V.int I)) (e2:fs.lookup ("speed_bottom":Str)=some (V.int F)) (hw:VT G v w)
  (hz:∀t,w=some t->Sz 400 t.1/\Sz 400 t.2) (U:0<I/\Bd 8900 I) (O:0<F/\Bd 8900 F) (k:∀S H',zk G H'->Qu H' S (w.map (trB I F))->Q S H'):zfy C [.ref c,v] G Q E:=by
 refine⟨c,dx,fs,I,F,Y,e1,e2,?_⟩
 cases w with
 |none =>
  have e:v=.non:=hw
  subst e
  exact .inl ⟨rL,k _ _ (zk.refl _) rL⟩
 |some t =>
  obtain⟨a,rfl,W⟩:=hw
  have z:=hz t rfl
  exact .inr ⟨a,t.1,t.2,rL,W,z.1,z.2,U.1,O.1,U.2,O.2,λr H' s h=>k _ _ s ⟨r,rL,h⟩⟩
theorem zj4 {C f:Addr}{fd:FuncData}(F:Fun K "__init__" "Course.__init__" qu f fd) (T:TxQ K mg) (I:TCo K C) (cB:Cal P w K mg base "common_bottom" 3 ["ratios"] [] zje) (cR:Cal P w K mg base "ratio" 2 ["top","bottom"] [] vt)
  (cT:Cal P w K mg base "track_of" 1 ["course","thing"] [] (zfy C)):ZH P w K mg base CX0 4 f fd ["self","row","walls"] (zg6 C):=by
 refine F.okq (k:=3) zhK (λcdv A outer s H vs Q E hr h=>?_)
 rcases q:h with⟨c,dx,r,wa,us,bs,v1,v2,lo,hi,rfl,hc,W,hB,hw,h1,h2,hl,hz,k⟩
 have d8:xb 2 _:=hr.md
 have b1:xb 1 _:=hr.md
 refine⟨_,(ze (psl (i:=3) zhK.nd (zu zeK (vb JI (by rfl) T.nList PyProof.Rows.boot_list (za (pv 1) zd)) (vD (NB:=["wall"]) rfl (by decide +kernel) (by decide +kernel) rfl (by decide +kernel) (ZR (pv 2)) (by intro _ _ _;refine⟨?_,?_,?_⟩;(exact(pgl (i:=0) (show List.Nodup (["wall"]:List Str) by decide +kernel)));(exact(Vf (zH Zp (pv 0) xB (zF _))));(exact(pv 0))))))
  (ze (jZ (pv 0) (zC cB hr (za (vD (NB:=["thing"]) rfl (by decide +kernel) (by decide +kernel) rfl (by decide +kernel) (xk (pv 3)) (by intro _ _ _;refine⟨?_,?_,?_⟩;(exact(pgl (i:=0) (show List.Nodup (["thing"]:List Str) by decide +kernel)));(exact xI);(exact(qp (v6 (K:=K) rfl) (pv 0) zi (λ_ _=>rfl))))) zd)) rfl)
  (ze (jZ (pv 0) (zC cB hr (za (vD (NB:=["thing"]) rfl (by decide +kernel) (by decide +kernel) rfl (by decide +kernel) (xk (pv 3)) (by intro _ _ _;refine⟨?_,?_,?_⟩;(exact(pgl (i:=0) (show List.Nodup (["thing"]:List Str) by decide +kernel)));(exact xI);(exact(qp (v6 (K:=K) rfl) (pv 0) zi (λ_ _=>rfl))))) zd)) rfl)
  (ze (jZ (pv 0) (zC cR d8 (za (xG (pv 0) rfl) (za (xG (pv 0) rfl) zd))) rfl)
  (ze (jZ (pv 0) (vD (NB:=["ball"]) rfl (by decide +kernel) (by decide +kernel) rfl (by decide +kernel) (ZR (pv 1)) (by intro _ _ _;refine⟨?_,?_,?_⟩;(exact(pgl (i:=0) (show List.Nodup (["ball"]:List Str) by decide +kernel)));(exact xI);(exact(qp (v6 (K:=K) rfl) (pv 0) zi (λ_ _=>rfl))))) rfl)
  (ze (jZ (pv 0) (qz (NB:=["ball"]) (FR:=["self"]) (js:=[0]) rfl rfl (λ_ _ h=>h) (.cons rfl rfl rfl ⟨_,rfl⟩ .nil) rfl (by decide +kernel) rfl (by decide +kernel) (ZR (pv 1)) (by intro _ _ _;refine⟨?_,?_,?_⟩;(exact(pgl (i:=0) (show List.Nodup (["ball","self"]:List Str) by decide +kernel)));(exact xI);(exact(zC cT b1 (za (pv 1) (za (pv 0) zd)))))) rfl)
  (ze (jZ (pv 0) (zC cT b1 (za (pv 0) (za (pxt (pv 2)) zd))) rfl)
  (zo (jZ (pv 0) (zC cT b1 (za (pv 0) (za (pxt (pv 2)) zd))) rfl))))))))),?_⟩
 try dsimp only[xc,Cx.nox]
 refine⟨_,rL,r,us,rL,.inr (.of W),λl a6=>?_⟩
 refine⟨_,rL,wa,rL,⟨_,SqT.of (zk.upd a6 _ _ hw)⟩,λDa hD=>?_⟩
 refine zdP (J:=Itt K wa) (n:=1) (g:=zD 0) (te:=xw 0) (xs:=[v1,v2]) (λv=>!decide (v=.non)) hD (Qm (zk.upd a6 _ _ hw)) (qo (by show 2<=20;decide)) ?_ ?_
 ·intro m x zs H2 A2 B2 hx d6 s2 ka kb
  obtain⟨z1,rfl⟩:=Xm d6
  dsimp only[zD]
  refine⟨_,rL,rL,_,rL,?_⟩
  cases e:decide (x=V.non)with
  |true=>exact kb (by simp[e])
  |false=>exact⟨_,rfl,ka (by simp[e])⟩
 intro H1 s1 hy
 have e5:H1 l=some (.lst us):=s1 _ _ zg
 refine⟨l,Da,us,_,rL,rL,e5,hy,?_,λL hL=>?_⟩
 ·have z1:=uR (λv=>!decide (v=V.non)) [v1,v2]
  have z2:=hB.1
  have z3:20<sizeLine:=qo (wo _)
  simp only[wx,YW]at z1
  lia
 have S1:zk H H1:=(zk.upd a6).trans s1
 have S2:zk H (upd H1 L (.lst (us++[v1,v2].filter λv=>!decide (v=.non)))):=S1.trans (zk.upd hL)
 have hT:TsI H (us++[v1,v2].filter λv=>!decide (v=.non)) (ths bs lo hi):=hB.ts.append (zfV h1 h2)
 have a1:upd H1 L (.lst (us++[v1,v2].filter λv=>!decide (v=.non))) L=some (.lst (us++[v1,v2].filter λv=>!decide (v=.non))):=zg
 generalize upd H1 L (.lst (us++[v1,v2].filter λv=>!decide (v=.non)))=G0 at S2 a1
 generalize (us++[v1,v2].filter λv=>!decide (v=.non))=tv at hT a1
 have O:=S2 _ _ hc
 have cL:L≠c:=λz=>by subst z;rw[a1]at O;cases O
 dsimp only[zD]
 refine jT (K:=K) ?_
 refine zho ?_
 refine zb6 (λt=>t.1) (by rfl) a1 (hT.keeps (.of S2)) (ZD hl) th0 λD1 y1 H2 s2 e0 f5=>?_
 refine⟨D1,y1,_,rfl,e0,f5,λq hq=>?_,by rw[wc];exact ZD hl,λH3 s3=>?_⟩
 ·obtain⟨t,ht,rfl⟩:=wf.mp hq
  exact(hz t ht).1.2
 have p1:=zck (qs:=(ths bs lo hi).map (·.1)) (λq hq=>by obtain⟨t,ht,rfl⟩:=wf.mp hq;exact(hz t ht).1.2) (by rw[wc];exact ZD hl)
 have p2:=zck (qs:=(ths bs lo hi).map (·.2)) (λq hq=>by obtain⟨t,ht,rfl⟩:=wf.mp hq;exact(hz t ht).2.2) (by rw[wc];exact ZD hl)
 refine qG (by rfl) (s3 _ _ (s2 _ _ O)) I.cls I.pb (by decide) λG1 X1 c1=>?_
 replace X1:xg c G0 G1:=(xg.of (s2.trans s3)).trans X1
 have t1:xx H G1:=(xx.of S2).trans (X1.tup O)
 refine jT (K:=K) ?_
 refine zho ?_
 refine zb6 (λt=>t.2) (by rfl) (X1 _ _ cL a1) (hT.keeps t1) (ZD hl) th1 λD2 y2 H4 s4 f0 e9=>?_
 refine⟨D2,y2,_,rfl,f0,e9,λq hq=>?_,by rw[wc];exact ZD hl,λH5 s5=>?_⟩
 ·obtain⟨t,ht,rfl⟩:=wf.mp hq
  exact(hz t ht).2.2
 refine qG (by rfl) (s5 _ _ (s4 _ _ c1)) I.cls I.sb (by show 1<1000;decide) λG2 X2 c2=>?_
 replace X2:xg c G0 G2:=X1.trans ((xg.of (s4.trans s5)).trans X2)
 refine jT (K:=K) ?_
 refine⟨_,rfl,c,C,dx,_,_,rfl,c2,I.cls,I.sb,rfl,_,rfl,c,C,dx,_,_,rfl,c2,I.cls,I.pb,rfl,_,_,rfl,by have:=p1.1;lia,p1.2.1,λtp H6 s6 b4=>?_⟩
 refine qG (by rfl) (s6 _ _ c2) I.cls I.tick (by show 2<1000;decide) λG3 c8 c3=>?_
 have X3:xg c G0 G3:=X2.trans ((xg.of s6).trans c8)
 have a5:zr G3 tp _:=c8 _ _ (λz=>by subst z;have:=s6 _ _ c2;rw[b4]at this;cases this) b4
 have t3:xx H G3:=(xx.of S2).trans (X3.tup O)
 refine jT (K:=K) ?_
 have d0:us.length<sizeLine:=qo (by rw[hB.1];lia)
 refine⟨_,rL,r,rL,⟨_,SqT.of (t3 _ _ W)⟩,λD4 e3=>?_⟩
 refine Zf (J:=Itt K r) (n:=1) (g:=zD 0) (te:=tOp (vE K) (xw 0) (tC (.int 2))) (xs:=us) (λm v _=>∃b:Bl,bs[m]?=some b/\v=.int b.wt) (λ_ _ _ _ _ z=>z) e3 (Qm (t3 _ _ W)) d0 ?_ ?_
 ·intro m x zs H7 Q' hx d4 s7 hk
  rcases q:(hB.keeps (t3.trans (.of s7))).2 m x hx with⟨b,e,a,p,q,rfl,ha,_⟩
  obtain⟨z1,rfl⟩:=Xm d4
  dsimp only[zD]
  exact⟨_,rL,a,_,_,_,rL,rL,.of ha,rL,hk _ _ (zk.refl _) ⟨b,e,rL⟩⟩
 intro y4 H7 s7 b2 b9 c9
 have e4:y4=(bs.map Bl.wt).map V.int:=by
  rw[wD]
  exact zdX (b9.trans hB.1) c9
 refine qG (by rfl) (s7 _ _ c3) I.cls I.weights (by show 3<1000;decide) λG4 b0 c4=>?_
 have X4:xg c G0 G4:=X3.trans ((xg.of s7).trans b0)
 have nc:∀{G:Hp}{fs:List (Str×V)}{b:Addr}{o:HO},G c=some (.ins C dx fs)->G b=some o->(∀fs,o≠.ins C dx fs)->b≠c:=λh1 h2 h3 z=>by subst z;rw[h1]at h2;cases h2;exact h3 _ rfl
 have c0:G4 D4=some (.lst ((bs.map Bl.wt).map V.int)):=by
  rw[<-e4];exact b0 _ _ (nc (s7 _ _ c3) b2 (λ_ z=>by cases z)) b2
 have a3:zr G4 tp _:=b0 _ _ (nc (s7 _ _ c3) (s7 _ _ a5) (λ_ z=>by cases z)) (s7 _ _ a5)
 have t4:xx H G4:=(xx.of S2).trans (X4.tup O)
 refine jT (K:=K) ?_
 refine⟨_,rL,r,rL,⟨_,SqT.of (t4 _ _ W)⟩,λD5 Y=>?_⟩
 refine xE (J:=Itt K r) (n:=1) (js:=[0]) (g:=zD 0) (te:=ZE (zfy C) [] E0 (xU (xw 1) (xU (xw 0) Z6))) (xs:=us) (λm v H=>∃t,(bs.map λb=>trB (pbO bs lo hi) (sbO bs lo hi) (b.pl,b.sp))[m]?=some t/\Qu H v (some t)) (λ_ _ _ _ t ⟨x,e1,e2⟩=>⟨x,e1,e2.keeps t⟩) Y (Qm (t4 _ _ W)) d0 ?_ ?_
 ·intro m x zs H8 Q' hx d5 S hk
  rcases q:(hB.keeps (t4.trans (.of S))).2 m x hx with⟨b,e,a,p,q,rfl,ha,hp,hq⟩
  obtain⟨z1,rfl⟩:=Xm d5
  dsimp only[zD]
  have zb:=hz (b.pl,b.sp) (Ww _ (wf.mpr ⟨b,wL e,rfl⟩))
  refine⟨rfl,_,rfl,_,rfl,c,dx,_,_,_,S _ _ c4,rfl,rfl,.inr ⟨a,b.pl,b.sp,rfl,⟨p,q,_,ha,hp,hq⟩,zb.1,zb.2,p1.1,p2.1,p1.2.1,p2.2.1,λr' H9 s9 h9=>hk _ _ s9 ⟨_,by rw[wu,e];rfl,r',rfl,h9⟩⟩⟩
 intro y5 H8 S d2 b6 d1
 refine qG (by rfl) (S _ _ c4) I.cls I.tracks (by show 4<1000;decide) λG5 U c5=>?_
 have X5:xg c G0 G5:=X4.trans ((xg.of S).trans U)
 have b7:G5 D5=some (.lst y5):=U _ _ (nc (S _ _ c4) d2 (λ_ z=>by cases z)) d2
 have e7:VS G5 y5 (bs.map λb=>trB (pbO bs lo hi) (sbO bs lo hi) (b.pl,b.sp)):=⟨by rw[b6,wc,hB.1],λm v e=>by
  obtain⟨t,e1,e2⟩:=d1 m v e
  exact⟨t,e1,e2.keeps (U.tup (S _ _ c4))⟩⟩
 have b8:=U _ _ (nc (S _ _ c4) (S _ _ c0) (λ_ z=>by cases z)) (S _ _ c0)
 have a4:zr G5 tp _:=U _ _ (nc (S _ _ c4) (S _ _ a3) (λ_ z=>by cases z)) (S _ _ a3)
 have t5:xx H G5:=(xx.of S2).trans (X5.tup O)
 have d7:∀t,lo=some t->Sz 400 t.1/\Sz 400 t.2:=λt e=>hz t (by unfold ths;rw[e];simp[Qh])
 have d9:∀t,hi=some t->Sz 400 t.1/\Sz 400 t.2:=λt e=>hz t (by unfold ths;rw[e];simp[Qh])
 refine jT (K:=K) ?_
 refine zat ⟨_,rL,_,rL,wa,_,_,_,rL,rL,.of (t5 _ _ hw),at0 ..,?_⟩
 refine zcO c5 rL rL (h1.keeps t5) d7 ⟨p1.1,p1.2.1⟩ ⟨p2.1,p2.2.1⟩ λlv H9 s9 e8=>?_
 refine qG (by rfl) (s9 _ _ c5) I.cls I.low (by show 5<1000;decide) λG6 a9 c6=>?_
 have X6:xg c G0 G6:=X5.trans ((xg.of s9).trans a9)
 have t6:xx H G6:=(xx.of S2).trans (X6.tup O)
 have d3:xg c G5 G6:=(xg.of s9).trans a9
 refine zcr (K:=K) ?_
 refine zat ⟨_,rL,_,rL,wa,_,_,_,rL,rL,.of (t6 _ _ hw),at1 ..,?_⟩
 refine zcO c6 rL rL (h2.keeps t6) d9 ⟨p1.1,p1.2.1⟩ ⟨p2.1,p2.2.1⟩ λhv f6 a8 e6=>?_
 refine qG (rest:=ZF.nx) (by rfl) (a8 _ _ c6) I.cls I.high (by show 6<1000;decide) λG7 b3 c7=>?_
 have a7:xg c G6 G7:=(xg.of a8).trans b3
 have a2:xg c G5 G7:=d3.trans a7
 have X7:xg c G0 G7:=X6.trans a7
 have b5:H D5=none:=by
  cases e:H D5 with
  |none=>rfl
  |some o =>
   by_cases z:D5=c
   ·rw[z,c4]at Y;cases Y
   ·rw[X4 _ _ z (S2 _ _ e)]at Y;cases Y
 refine k G7 ((xg.of S2).trans X7) ⟨dx,_,D5,c7,⟨rfl,rfl,⟨tp,rfl,a2 _ _ (nc c5 a4 (λ_ z=>by cases z)) a4⟩,⟨D4,rfl,a2 _ _ (nc c5 b8 (λ_ z=>by cases z)) b8⟩,
  ⟨D5,y5,rfl,a2 _ _ (nc c5 b7 (λ_ z=>by cases z)) b7,e7.keeps (a2.tup c5)⟩,⟨lv,rfl,(e8.keeps (a9.tup (s9 _ _ c5))).keeps (a7.tup c6)⟩,⟨hv,rfl,e6.keeps (b3.tup (a8 _ _ c6))⟩,by show 7<=20;decide⟩,rfl,b5⟩
structure Tx3 (K:Fg) (mg:Str->Option Value) (aN:Addr):Prop where
 nAll:mg "all" = none
 nSorted:mg "sorted" = none
 nEnum:mg "enumerate" = none
 mn:mg "NOUGHT" = some (.ref aN)
 kn:zdD K aN 0 1
 tt:PySem.W.kitOne K (.type "tuple") (.type "tuple")=some true
abbrev Wl:=Option (Rat×Rat)
def xu (H:Hp) (v:V):Wl->Prop
 |none=>v=.non
 |some (x,y)=>∃a p q,v=.ref a/\H a=some (.tup [.ref p,.ref q])/\zr H p x/\zr H q y
theorem xu.same {H H':Hp}{v:V}{l:Wl}(h:xu H v l) (e:zk H H'):xu H' v l:=by
 cases l with
 |none=>exact h
 |some z=>obtain⟨a,p,q,e1,e2,F,G⟩:=h;exact⟨a,p,q,e1,e _ _ e2,F.same e,G.same e⟩
theorem iteD {c:Prop} [Decidable c] {A B:Prop}(e:¬c) (h:B):if decide c=true then A else B:=by
 rw[wy e];exact xz h
theorem zcK {α:Type}{l:List α}{i:Nat}{x:α}(h:l[i]?=some x):l.take (i+1)=l.take i++[x]:=by rw[yA,h];rfl
theorem ln1 {σ:St}(h:σ.length=1):∃a,σ=[a]:=by
 match σ,h with
 |[a],_=>exact⟨a,rfl⟩
inductive zdw  (vs:List V) (H:Hp) (Q:VK) (_e3:XK):Prop
 |mk:∀p xs n,(vs=[.ref p,.int n])->(H p=some (.tup xs))->(Q (.bl (decide (V.int (xs.length:Nat)=V.int n))) H)->zdw vs H Q _e3
theorem zfe:zB ["thing","many"] ["thing","many"] (zj XE):=scq
theorem zki (D:Df K mg "is_tuple" XE ["thing","many"] []) (T:TxB K mg) (G:Tx3 K mg aN):Cal P w K mg base "is_tuple" 1 ["thing","many"] [] zdw:=by
 rcases r:D.calq (k:=0) zfe with⟨p,xs,n,rfl,F,k⟩
 refine⟨_,(zo (zE (qD (zQ vY (by rfl) T.nIs uI (za (pv 0) (za (Ve (v:=.ty "tuple") (u:=.type "tuple") (by rfl) T.nTuple uJ rfl) zd))) (vc (xY ZP (zQ xj (by rfl) T.nLen PySem.boot_len (za (pv 0) zd)) (pv 1) (zF _)))))),?_⟩
 try dsimp only[xc,Cx.nox]
 exact⟨_,rL,_,_,_,true,rL,.tup F,G.tt,true,rL,xO ⟨_,rL,p,_,rL,.inr (SqT.of F),_,rL,rL,k⟩⟩
inductive zg7  (vs:List V) (H:Hp) (Q:VK) (_e3:XK):Prop
 |mk:∀p x,(vs=[.ref p])->(zr H p x)->(Q (.bl true) H)->zg7 vs H Q _e3
theorem zgh (x:Rat):(Int.gcd (if x.num<0 then -x.num else x.num) (x.den:Int):Int)=1:=by
 rw[jV]
 have:=x.reduced
 show ((Nat.gcd x.num.natAbs x.den:Nat):Int)=1
 rw[this];rfl
theorem zbO:zB ["thing","top","bottom"] ["thing"] (zj XB):=scq
theorem zj7 (D:Df K mg "is_ratio" XB ["thing"] []) (T:TxB K mg) (G:Cal P w K mg base "is_tuple" 1 ["thing","many"] [] zdw) (I:Cal P w K mg base "is_whole" 1 ["thing"] [] Qn) (S:Cal P w K mg base "greatest_divisor" 1 ["one","other"] [] Ju) :
  Cal P w K mg base "is_ratio" 2 ["thing"] [] zg7:=by
 refine D.calq (k:=1) zbO (λf cdv A outer s H vs Q E F h=>?_)
 rcases q:h with⟨p,x,rfl,O,k⟩
 refine⟨_,(ze (xv (Zs (qr (zC G F (za (pv 0) (za zi zd))) λ_=>rL)) (zo (zE VC)) zU)
  (ze (vP (pv 0) (qH rfl (zJ (pgl (i:=1) zbO.nd) (zJ (pgl (i:=2) zbO.nd) xL))))
  (ze (xv ((Ql (Zs (qr (zC I F (za (pv 1) zd)) λ_=>rfl)) (Ql (Zs (qr (zC I F (za (pv 2) zd)) λ_=>rfl)) (Xz (zH Zi (pv 2) zi (zF _)))))).pt (zo (zE VC)) zU)
  (zo (zE (xY ZP (zC S F (za (zQ qM (by rfl) T.nAbs yG (za (pv 1) zd)) (za (pv 2) zd))) zi (zF _))))))),?_⟩
 try dsimp only[xc,Cx.nox]
 refine⟨_,rL,p,_,_,rL,O,_,rL,xz ?_⟩
 refine⟨_,rL,p,_,rL,SqT.of O,rL,_,_,rL,_,_,rL,rL,?_⟩
 refine⟨_,rL,_,rL,true,rL,xz ⟨_,rL,_,rL,true,rL,xz ?_⟩⟩
 refine⟨_,rfl,_,_,rfl,rfl,_,rfl,iteD (by have:=den_pos x;lia) ?_⟩
 refine⟨_,rfl,_,rfl,_,rfl,_,_,rfl,(by rw[jV];lia),∅,rfl,?_⟩
 show Q (.bl (decide (V.int (Int.gcd (if x.num<0 then -x.num else x.num) (x.den:Int):Int)=V.int 1))) H
 rw[zgh,wm rfl];exact k
inductive zjs  (vs:List V) (H:Hp) (Q:VK) (_e3:XK):Prop
 |mk:∀v l,(vs=[v])->(xu H v l)->(Q (.bl true) H)->zjs vs H Q _e3
theorem zds:zB ["thing"] ["thing"] (zj QH):=scq
theorem zkj (D:Df K mg "is_wall" QH ["thing"] []) (S:Cal P w K mg base "is_tuple" 1 ["thing","many"] [] zdw) (G:Cal P w K mg base "is_ratio" 2 ["thing"] [] zg7):Cal P w K mg base "is_wall" 3 ["thing"] [] zjs:=by
 refine D.calq (k:=2) zds (λf cdv A outer s H vs Q E F h=>?_)
 rcases q:h with⟨v,l,rfl,hw,k⟩
 have I:xb 1 _:=F.md
 refine⟨_,(ze (xv (zH qP (pv 0) xB (zF _)) (zo (zE VC)) zU)
  (zo (zE (qD (zC S I (za (pv 0) (za zi zd))) (qD (zC G F (za (pxt (pv 0)) zd)) (vc (zC G F (za (pxt (pv 0)) zd)))))))),?_⟩
 try dsimp only[xc,Cx.nox]
 cases l with
 |none =>
  obtain rfl:v=.non:=hw
  exact⟨_,rL,rL,_,rL,xO k⟩
 |some z =>
  obtain⟨x,y⟩:=z
  rcases q:hw with⟨a,p,q,rfl,O,V,U⟩
  refine⟨_,rL,rL,_,rL,xz ?_⟩
  refine⟨_,rL,a,_,_,rL,O,true,rL,xO ?_⟩
  refine⟨_,rL,a,_,_,_,rL,rL,.of O,rL,p,x,rL,V,true,rL,xO ?_⟩
  exact⟨_,rL,a,_,_,_,rL,rL,.of O,rL,q,y,rL,U,k⟩
inductive zju  (vs:List V) (H:Hp) (Q:VK) (_e3:XK):Prop
 |mk:∀a v1 v2 l1 l2,(vs=[.ref a])->(H a=some (.tup [v1,v2]))->(xu H v1 l1)->(xu H v2 l2)->(Q (.bl true) H)->zju vs H Q _e3
theorem zgW:zB ["thing"] ["thing"] (zj vR):=scq
theorem zkl (D:Df K mg "is_wall_pair" vR ["thing"] []) (O:Cal P w K mg base "is_tuple" 1 ["thing","many"] [] zdw) (G:Cal P w K mg base "is_wall" 3 ["thing"] [] zjs):Cal P w K mg base "is_wall_pair" 4 ["thing"] [] zju:=by
 refine D.calq (k:=3) zgW (λf cdv A outer s H vs Q E F h=>?_)
 rcases q:h with⟨a,W,v2,V,U,rfl,S,h1,h2,k⟩
 have I:xb 1 _:=F.md
 refine⟨_,(zo (zE (qD (zC O I (za (pv 0) (za zi zd))) (qD (zC G F (za (pxt (pv 0)) zd)) (vc (zC G F (za (pxt (pv 0)) zd))))))),?_⟩
 try dsimp only[xc,Cx.nox]
 refine⟨_,rL,a,_,_,rL,S,true,rL,xO ?_⟩
 refine⟨_,rL,a,_,_,_,rL,rL,.of S,rL,W,V,rL,h1,true,rL,xO ?_⟩
 exact⟨_,rL,a,_,_,_,rL,rL,.of S,rL,v2,U,rL,h2,k⟩
inductive zjd  (vs:List V) (H:Hp) (Q:VK) (_e3:XK):Prop
 |mk:∀a p q x y n,(vs=[.ref a])->(H a=some (.tup [.ref p,.ref q,.int n]))->(zr H p x)->(zr H q y)->(Q (.bl true) H)->zjd vs H Q _e3
theorem zfb:zB ["thing"] ["thing"] (zj vQ):=scq
theorem zj1 (D:Df K mg "is_ball_form" vQ ["thing"] []) (S:Cal P w K mg base "is_tuple" 1 ["thing","many"] [] zdw) (I:Cal P w K mg base "is_ratio" 2 ["thing"] [] zg7) (V:Cal P w K mg base "is_whole" 1 ["thing"] [] Qn):Cal P w K mg base "is_ball_form" 3 ["thing"] [] zjd:=by
 refine D.calq (k:=2) zfb (λf cdv A outer s H vs Q E F h=>?_)
 rcases q:h with⟨a,p,q,x,y,n,rfl,O,W,U,k⟩
 have G:xb 1 _:=F.md
 refine⟨_,(zo (zE (qD (zC S G (za (pv 0) (za zi zd))) (qD (zC I F (za (pxt (pv 0)) zd)) (qD (zC I F (za (pxt (pv 0)) zd)) (vc (zC V G (za (pxt (pv 0)) zd)))))))),?_⟩
 try dsimp only[xc,Cx.nox]
 refine⟨_,rL,a,_,_,rL,O,true,rL,xO ?_⟩
 refine⟨_,rL,a,_,_,_,rL,rL,.of O,rL,p,x,rL,W,true,rL,xO ?_⟩
 refine⟨_,rL,a,_,_,_,rL,rL,.of O,rL,q,y,rL,U,true,rL,xO ?_⟩
 exact⟨_,rL,a,_,_,_,rL,rL,.of O,rL,n,rL,k⟩
theorem all_map (f:α->Bool) (l:List α):(l.map f).all id=l.all f:=by rw[List.all_map];rfl
theorem zbj {σ:St}{H:Hp}{Q:VK}{j:Nat}{sp:Sp}{r:Addr}{us:List V}{bs:List Zl}(hσ:σ[j]?=some (some (.ref r))) (hr:H r=some (.tup us)) (Y:xC H us bs) (U:bs.length<=8)
  (O:∀(H1:Hp) (v:V) (b:Zl) (Q:VK),zk H H1->b∈bs->(∃a p q,v=.ref a/\H1 a=some (.tup [.ref p,.ref q,.int b.wt])/\zr H1 p b.pl/\zr H1 q b.sp)->Q (.bl true) H1->sp [v] H1 Q E0)
  (k:∀D H',zk H H'->H' D=some (.lst ((List.replicate bs.length true).map V.bl))->Q (.ref D) H') :
  zcJ 1 (zgk K (xw j)) (zD 0) (λ_ H Q=>Q true H) (ZE sp [] E0 (xU (xw 0) Z6)) σ H Q:=by
 refine⟨_,hσ,r,rL,⟨_,SqT.of hr⟩,λD W=>?_⟩
 have hl:=Y.length
 refine Q9 (J:=Itt K r) (g:=zD 0) (tt:=λ_ H Q=>Q true H) (te:=ZE sp [] E0 (xU (xw 0) Z6)) (Q:=Q) (N:=us.length) (n:=1) (λi H2 ys=>zk H H2/\ys=(List.replicate i true).map V.bl) ⟨zk.upd W,rL⟩ (λi H2 ys hi ⟨F,_⟩=>?_) (λH2 ys ⟨F,_⟩=>?_) ?_ ?_
 ·exact⟨us,us[i],.of (F _ _ hr),wJ hi⟩
 ·exact⟨us,.of (F _ _ hr),wo _⟩
 ·rintro i x zs H2 H3 ys Nx S hi I ⟨rfl,f1⟩ ⟨F,rfl⟩ G
  obtain⟨z1,rfl⟩:=ln1 I
  obtain⟨a,p,q,b,eb,rfl,ha,hp,hq⟩:=Y.get (f1 us (.of (F _ _ hr)))
  dsimp only[zD]
  try rw[if_pos rfl]
  refine⟨_,rL,?_⟩
  refine O H3 (.ref a) b _ F (wL eb) ⟨a,p,q,rL,F _ _ ha,hp.same F,hq.same F⟩ ?_
  refine⟨G,?_,S _ _ ⟨zab W F (zk.refl _),?_⟩⟩
  ·rw[wc,uP];exact vH ∅
  ·rw[List.replicate_succ',yt];rfl
 ·rintro H2 ys ⟨F,rfl⟩ G
  rw[hl]at G
  exact k D H2 F G
theorem zdJ (n:Nat):(List.replicate n true).all id=true:=by simp
def evB (b0:Zl) (bs:List Zl):Bool:=bs.all λb=>decide (b.wt=b0.wt)
def xK:Wl->Bool
 |none=>true
 |some (_,y)=>decide (y=0)
theorem zgF {X:Cx}{K:Fg}(F:X.K=K) (G:X.A.units+64<cLine):OpR X (compareOp .Eq) (zgN K):=by subst F;exact ziM G
theorem zfU (i j:Int):decide (V.int i=V.int j)=decide (i=j):=by
 rw[uX,yo,yo]
 exact⟨λz=>by injection z,λz=>by rw[z]⟩
theorem zcY {σ:St}{H:Hp}{Q:VK}{r:Addr}{us:List V}{bs:List Zl}{I:Zl}(hσ:σ[0]?=some (some (.ref r))) (hr:H r=some (.tup us)) (U:xC H us bs) (h0:bs[0]?=some I) (a2:bs.length<=8)
  (k:∀D H',zk H H'->H' D=some (.lst ((bs.map λb=>decide (b.wt=I.wt)).map V.bl))->Q (.ref D) H') :
  zan 1 [0] (zgk K (xw 0)) (zD 0) (λ_ H Q=>Q true H) (tOp rEq (tOp (vE K) (xw 0) (tC (.int 2))) (tOp (vE K) (tOp (vE K) (xw 1) (tC (.int 0))) (tC (.int 2)))) σ H Q:=by
 have S:qL σ [0]=[some (.ref r)]:=by simp[qL,hσ]
 refine⟨_,hσ,r,rL,⟨_,SqT.of hr⟩,λD hD=>?_⟩
 have hl:=U.length
 have O:0<us.length:=by rw[hl];exact(wS.mp h0).1
 obtain⟨a0,p0,q0,a3,e0,f0,Y,_,_⟩:=U.get (i:=0) (wJ O)
 rw[h0]at e0;cases e0
 refine ZN (J:=Itt K r) (g:=zD 0) (tt:=λ_ H Q=>Q true H) (te:=tOp rEq (tOp (vE K) (xw 0) (tC (.int 2))) (tOp (vE K) (tOp (vE K) (xw 1) (tC (.int 0))) (tC (.int 2)))) (Q:=Q) (N:=us.length) (n:=1)
  (λi H2 ys=>zk H H2/\ys=((bs.map λb=>decide (b.wt=I.wt)).map V.bl).take i) ⟨zk.upd hD,rfl⟩ (λi H2 ys hi ⟨F,_⟩=>?_) (λH2 ys ⟨F,_⟩=>?_) ?_ ?_
 ·exact⟨us,us[i],.of (F _ _ hr),wJ hi⟩
 ·exact⟨us,.of (F _ _ hr),wo _⟩
 ·rintro i x zs H2 H3 ys Nx a1 hi W ⟨rfl,f1⟩ ⟨F,rfl⟩ G
  obtain⟨z1,rfl⟩:=ln1 W
  obtain⟨a,p,q,b,eb,rfl,ha,hp,hq⟩:=U.get (f1 us (.of (F _ _ hr)))
  rw[S]
  dsimp only[zD]
  refine⟨rL,?_⟩
  rw[if_pos rfl]
  refine⟨_,rfl,a,_,_,_,rfl,rfl,.of (F _ _ ha),rfl,_,rfl,r,_,_,_,rfl,rfl,.of (F _ _ hr),(by rw[<-f0];exact JD (j:=0) (wJ O)),a0,_,_,_,rfl,rfl,.of (F _ _ Y),rfl,rfl,?_⟩
  refine⟨G,?_,a1 _ _ ⟨zab hD F (zk.refl _),?_⟩⟩
  ·rw[yn];exact vH ∅
  ·rw[zcK (x:=V.bl (decide (b.wt=I.wt))) (by rw[wu,wu,eb];rfl)]
   show _++[V.bl (decide (V.int b.wt=V.int I.wt))]=_
   rw[zfU]
 ·rintro H2 ys ⟨F,rfl⟩ G
  rw[List.take_of_length_le (by rw[wc,wc,hl];exact wo _)]at G
  exact k D H2 F G
inductive zjf  (vs:List V) (H:Hp) (Q:VK) (_e3:XK):Prop
 |mk:∀r us bs b0,(vs=[.ref r])->(H r=some (.tup us))->(xC H us bs)->(bs[0]?=some b0)->(bs.length<=8)->(∀H',zk H H'->Q (.bl (evB b0 bs)) H')->zjf vs H Q _e3
theorem zgV:zB ["row"] ["row"] (zj QG):=scq
inductive zjn  (vs:List V) (H:Hp) (Q:VK) (_e3:XK):Prop
 |mk:∀r us bs,(vs=[.ref r])->(H r=some (.tup us))->(xC H us bs)->(0<bs.length)->(bs.length<=8)->(∀H',zk H H'->Q (.bl true) H')->zjn vs H Q _e3
theorem zfh:zB ["thing"] ["thing"] (zj Zb):=scq
theorem zeI (D:Df K mg "is_row_form" Zb ["thing"] []) (T:TxB K mg) (S:Tx3 K mg aN) (I:Cal P w K mg base "is_ball_form" 3 ["thing"] [] zjd):Cal P w K mg base "is_row_form" 4 ["thing"] [] zjn:=by
 refine D.calq (k:=3) zfh (λf cdv A outer s H vs Q E O h=>?_)
 rcases q:h with⟨r,us,bs,rfl,F,U,W,G,k⟩
 have Y:=U.length
 refine⟨_,(zo (zE (qD (zQ vY (by rfl) T.nIs uI (za (pv 0) (za (Ve (v:=.ty "tuple") (u:=.type "tuple") (by rfl) T.nTuple uJ rfl) zd))) (qD (xY Xp (zQ xj (by rfl) T.nLen PySem.boot_len (za (pv 0) zd)) zi (zF _)) (vc (zQ (Vq rfl) (by rfl) S.nAll (by decide +kernel) (za (vD (NB:=["ball"]) rfl (by decide +kernel) (by decide +kernel) rfl (by decide +kernel) (ZR (pv 0)) (by intro _ _ _;refine⟨?_,?_,?_⟩;(exact(pgl (i:=0) (show List.Nodup (["ball"]:List Str) by decide +kernel)));(exact xI);(exact(zC I O (za (pv 0) zd))))) zd))))))),?_⟩
 try dsimp only[xc,Cx.nox]
 refine⟨_,rL,_,_,_,true,rL,.tup F,S.tt,true,rL,xO ?_⟩
 refine⟨_,rL,r,_,rL,.inr (SqT.of F),_,_,rL,rL,_,rL,?_⟩
 rw[show decide ((0:Int)<((us.length:Nat):Int))=true from wm ∅]
 refine xO ?_
 unfold tCB xU
 refine zbj (K:=K) (j:=0) rL F U G (λH1 v b Q e mb ⟨a,p,q,e1,e2,e3,e4⟩ q'=>?_) λDD H2 e2 V=>⟨DD,_,rL,SqL.of V,?_⟩
 ·subst e1
  exact⟨a,p,q,b.pl,b.sp,b.wt,rL,e2,e3,e4,q'⟩
 ·rw[zdJ]
  exact k H2 e2
theorem zj5 (D:Df K mg "is_even" QG ["row"] []) (T:TxB K mg) (T3:Tx3 K mg aN) (S:Cal P w K mg base "is_row_form" 4 ["thing"] [] zjn):Cal P w K mg base "is_even" 5 ["row"] [] zjf:=by
 refine D.calq (k:=4) zgV (λf cdv A outer s H vs Q E O h=>?_)
 rcases q:h with⟨r,us,bs,b0,rfl,G,W,V,F,k⟩
 have U:0<bs.length:=(wS.mp V).1
 refine⟨_,(zo (zE (qD (zC S O (za (pv 0) zd)) (vc (zQ (Vq rfl) (by rfl) T3.nAll (by decide +kernel) (za (qz (NB:=["ball"]) (FR:=["row"]) (js:=[0]) rfl rfl (λ_ _ h=>h) (.cons rfl rfl rfl ⟨_,rfl⟩ .nil) rfl (by decide +kernel) rfl (by decide +kernel) (ZR (pv 0)) (by intro _ _ _;refine⟨?_,?_,?_⟩;(exact(pgl (i:=0) (show List.Nodup (["ball","row"]:List Str) by decide +kernel)));(exact xI);(exact(xY ZP (qp (v6 (K:=K) rfl) (pv 0) zi (λ_ _=>rfl)) (qp (v6 (K:=K) rfl) (qp (v6 (K:=K) rfl) (pv 1) zi (λ_ _=>rfl)) zi (λ_ _=>rfl)) (zF _))))) zd)))))),?_⟩
 try dsimp only[xc,Cx.nox]
 refine⟨_,rL,r,us,bs,rL,G,W,U,F,λH2 e2=>⟨true,rL,xO ?_⟩⟩
 unfold tCB xU
 refine zcY (K:=K) rL (e2 _ _ G) (W.same e2) V F λD3 H3 Y I=>⟨D3,_,rL,SqL.of I,?_⟩
 rw[all_map];exact k H3 (e2.trans Y)
theorem zbk {σ:St}{H:Hp}{Q:VK}{r:Addr}{v1 v2:V}{I G:Wl}(hN:zdD K aN 0 1) (hσ:σ[0]?=some (some (.ref r))) (hr:H r=some (.tup [v1,v2])) (h1:xu H v1 I) (h2:xu H v2 G)
  (k:∀D H',zk H H'->H' D=some (.lst ([xK I,xK G].map V.bl))->Q (.ref D) H') :
  zcJ 1 (zgk K (xw 0)) (zD 0) (λ_ H Q=>Q true H) (zjy (tOp (λx y H Q=>y=.non/\Q (.bl (decide (x=.non))) H) (xw 0) (tC .non)) (tOp (zgN K) (tOp (vE K) (xw 0) (tC (.int 1))) (tC (.ref aN)))) σ H Q:=by
 refine⟨_,hσ,r,rL,⟨_,SqT.of hr⟩,λD hD=>?_⟩
 refine Q9 (J:=Itt K r) (g:=zD 0) (tt:=λ_ H Q=>Q true H) (te:=zjy (tOp (λx y H Q=>y=.non/\Q (.bl (decide (x=.non))) H) (xw 0) (tC .non)) (tOp (zgN K) (tOp (vE K) (xw 0) (tC (.int 1))) (tC (.ref aN)))) (Q:=Q) (N:=2) (n:=1)
  (λi H2 ys=>zk H H2/\ys=([xK I,xK G].map V.bl).take i) ⟨zk.upd hD,rfl⟩ (λi H2 ys hi ⟨F,_⟩=>?_) (λH2 ys ⟨F,_⟩=>?_) ?_ ?_
 ·exact⟨_,[v1,v2][i],.of (F _ _ hr),wJ hi⟩
 ·exact⟨_,.of (F _ _ hr),wo _⟩
 ·rintro i x zs H2 Y ys Nx a1 hi W ⟨rfl,f1⟩ ⟨F,rfl⟩ O
  obtain⟨z1,rfl⟩:=ln1 W
  have U:=f1 _ (.of (F _ _ hr))
  obtain⟨l,hl,el⟩:∃l,xu Y x l/\([xK I,xK G].map V.bl)[i]?=some (.bl (xK l)):=by
   match i,hi with
   |0,_=>simp at U;subst U;exact⟨I,h1.same F,rfl⟩
   |1,_=>simp at U;subst U;exact⟨G,h2.same F,rfl⟩
  dsimp only[zD]
  try rw[if_pos rfl]
  have S:Y D=some (.lst (([xK I,xK G].map V.bl).take i))/\(([xK I,xK G].map V.bl).take i).length<sizeLine/\Nx (upd Y D (.lst (([xK I,xK G].map V.bl).take i++[.bl (xK l)]))) (([xK I,xK G].map V.bl).take i++[.bl (xK l)]):=by
   refine⟨O,?_,a1 _ _ ⟨zab hD F (zk.refl _),?_⟩⟩
   ·rw[yn];exact vH ∅
   ·rw[zcK el]
  cases l with
  |none =>
   obtain rfl:x=.non:=hl
   exact⟨_,rL,rL,true,rL,xO S⟩
  |some z =>
   obtain⟨px,py⟩:=z
   obtain⟨a,p,q,rfl,ha,hp,hq⟩:=hl
   refine⟨_,rL,rL,false,rL,xz ⟨_,rL,a,_,_,_,rL,rL,.of ha,rL,_,aN,0,1,hq.rd,rL,hN,zdu _,?_⟩⟩
   rw[show PyData.eqv (.tuple [.int py.num,.int (py.den:Int)]) (.tuple [.int 0,.int 1])=xK (some (px,py))from zdY py 0]
   exact S
 ·rintro H2 ys ⟨F,rfl⟩ O
  exact k D H2 F O
inductive zjq  (vs:List V) (H:Hp) (Q:VK) (_e3:XK):Prop
 |mk:∀a v1 v2 l1 l2,(vs=[.ref a])->(H a=some (.tup [v1,v2]))->(xu H v1 l1)->(xu H v2 l2)->(∀H',zk H H'->Q (.bl (xK l1&&xK l2)) H')->zjq vs H Q _e3
theorem zfi:zB ["walls"] ["walls"] (zj XC):=scq
theorem zkf (D:Df K mg "is_still" XC ["walls"] []) (O:Tx3 K mg aN) (I:Cal P w K mg base "is_wall_pair" 4 ["thing"] [] zju):Cal P w K mg base "is_still" 5 ["walls"] [] zjq:=by
 rcases r:D.calq (k:=4) zfi with⟨a,U,v2,G,F,rfl,S,h1,h2,k⟩
 have W:=hr.units
 refine⟨_,(zo (zE (qD (zC I hr (za (pv 0) zd)) (vc (zQ (Vq rfl) (by rfl) O.nAll (by decide +kernel) (za (vD (NB:=["wall"]) rfl (by decide +kernel) (by decide +kernel) rfl (by decide +kernel) (ZR (pv 0)) (by intro _ _ _;refine⟨?_,?_,?_⟩;(exact(pgl (i:=0) (show List.Nodup (["wall"]:List Str) by decide +kernel)));(exact xI);(exact(zhz (xY qP (pv 0) xB (zF _)) (vc (xY (zgF (K:=K) rfl W) (qp (v6 (K:=K) rfl) (pv 0) zi (λ_ _=>rfl)) (J5 (v:=.ref aN) (by rfl) O.mn rfl) (zF _))))))) zd)))))),?_⟩
 try dsimp only[xc,Cx.nox]
 refine⟨_,rL,a,U,v2,G,F,rL,S,h1,h2,true,rL,xO ?_⟩
 unfold tCB xU
 refine zbk (K:=K) O.kn rL S h1 h2 λDD H2 e2 V=>⟨DD,_,rL,SqL.of V,?_⟩
 rw[show ([xK G,xK F].all id)=(xK G&&xK F) by simp]
 exact k H2 e2
end KK
namespace L2
open PySem PySem.Spec PyProof.Rows PySem.W
def zcI {D:ZF}{σ:St}{H:Hp}(h:D.nx σ H):zfI D σ H:=h
def zG {t u:TS}{D:ZF}{σ:St}{H:Hp}(R:St->Hp->Prop) (h2:∀F H',R F H'->u D F H') (h1:∀nx:St->Hp->Prop,(∀F H',R F H'->nx F H')->t { D with nx:=nx } σ H):zbU t u D σ H:=h1 (u D) h2
end L2
namespace KK
open PySem L2 KM
variable {P:Program}{w:World}{K:Fg}{mg:Str->Option Value}{base:Heap}{C CE aN:Addr}
def lv:Option Int->V
 |none=>.non
 |some l=>.int l
def f1:Option Int->Option Int->Int->Int->Int×Int
 |some l,some h,s,v=>(l+(s-l) % (2*(h-l)),v)
 |some l,none,s,v=>if s<l then(2*l-s,-v)else(s,v)
 |none,_,s,v=>(s,v)
def f2:Option Int->Int×Int->Int×Int
 |some h,p=>if h<p.1 then(2*h-p.1,-p.2)else p
 |none,p=>p
def zY (i:Int):Int:=if i<0 then -i else i
def f3:Option Int->Int×Int->Int×Int
 |some l,p=>if p.1=l then(p.1,zY p.2)else p
 |none,p=>p
def f4:Option Int->Int×Int->Int×Int
 |some h,p=>if p.1=h then(p.1,-zY p.2)else p
 |none,p=>p
def QV (lo hi:Option Int) (s v:Int):Int×Int:=f4 hi (f3 lo (f2 hi (f1 lo hi s v)))
def wsc (w:Option (Int×Int)) (b:Int):Option Int:=w.map λt=>t.1*b
def Wb (w:Option (Int×Int)):Prop:=∀t,w=some t->Bd 2000 t.1
theorem zcb {H:Hp}{v:V}{w:Option (Int×Int)} (h:Qu H v w):(w=none/\v=.non)\/∃t a,w=some t/\v=.ref a/\H a=some (.tup [.int t.1,.int t.2]):=by
 cases w with
 |none=>exact .inl ⟨rfl,h⟩
 |some t=>obtain⟨a,e,h⟩:=h;exact .inr ⟨t,a,rfl,e,h⟩
theorem Xk.same {H H':Hp}{c:Addr}{I G:Int}{tk:Rat}{ws:List Int}{trs:List (Int×Int)}{lo hi:Option (Int×Int)} (h:Xk H C c I G tk ws trs lo hi) (e:zk H H'):Xk H' C c I G tk ws trs lo hi:=by
 obtain⟨dx,fs,h1,F⟩:=h
 obtain⟨tp,S,t2⟩:=F.tick
 obtain⟨wl,w1,W⟩:=F.weights
 obtain⟨tl,tv,Y,U,r3⟩:=F.tracks
 obtain⟨v,V,O⟩:=F.low
 obtain⟨u,g1,g2⟩:=F.high
 exact⟨dx,fs,e _ _ h1,F.pb,F.sb,⟨tp,S,e _ _ t2⟩,⟨wl,w1,e _ _ W⟩,⟨tl,tv,Y,e _ _ U,r3.keeps (.of e)⟩,⟨v,V,O.keeps (.of e)⟩,⟨u,g1,g2.keeps (.of e)⟩,F.len⟩
inductive zfo (C:Addr) (vs:List V) (H:Hp) (Q:VK) (_e3:XK):Prop
 |mk:∀c a t pb sb tk ws trs lo hi x v top bot,(vs=[.ref c,.ref a,.ref t])->(Xk H C c pb sb tk ws trs lo hi)->(H a=some (.tup [.int x,.int v]))->(H t=some (.tup [.int top,.int bot]))->(Bd 2000 x)->(Bd 2000 v)->(Bd 2000 top)->(Bd 2000 bot)->(0<bot)->(Wb lo)->(Wb hi)->((∀l h,lo=some l->hi=some h->l.1<h.1))->(∀r H',zk H H'->H' r=some (.tup [.int (QV (wsc lo bot) (wsc hi bot) (x*bot+v*top) v).1,.int (QV (wsc lo bot) (wsc hi bot) (x*bot+v*top) v).2])->Q (.ref r) H')->zfo C vs H Q _e3
theorem vz:zB ["course","track","ticks","top","bottom","spot","speed","low","high"] ["course","track","ticks"] (zj QL):=scq
theorem b2k {i:Int}(h:Bd 2000 i):Bd 1000000 i:=h.md
theorem b2i:Bd 1000000 (2:Int):=Bd.mono (m:=2) (show (2:Int).natAbs<2^2 by decide) (by decide)
theorem zis (D:Df K mg "line_at" QL ["course","track","ticks"] []) (T:TxB K mg) (U:TCo K C):Cal P w K mg base "line_at" 1 ["course","track","ticks"] [] (zfo C):=by
 rcases r:D.calq (k:=0) vz with⟨c,a,t,pb,sb,tk,ws,trs,lo,hi,x,v,top,O,rfl,a5,ha,ht,bx,bv,a1,S,a2,wl,wh,a3,k⟩
 obtain⟨dx,fs,hc,F⟩:=id a5
 obtain⟨vl,el,tl⟩:=F.low
 obtain⟨vh,eh,th⟩:=F.high
 refine⟨_,(ze (vP (pv 2) (qH rL (zJ (pgl (i:=3) vz.nd) (zJ (pgl (i:=4) vz.nd) xL))))
  (ze (psl (i:=5) vz.nd (zu xp (zu zK (pxt (pv 1)) (pv 4)) (zu zK (pxt (pv 1)) (pv 3))))
  (ze (psl (i:=6) vz.nd (pxt (pv 1)))
  (ze (psl (i:=7) vz.nd (Qj (zH qP (xG (pv 0) rfl) xB (zF _)) xB (zu zK (pxt (xG (pv 0) rfl)) (pv 4))))
  (ze (psl (i:=8) vz.nd (Qj (zH qP (xG (pv 0) rfl) xB (zF _)) xB (zu zK (pxt (xG (pv 0) rfl)) (pv 4))))
  (ze (xv ((ZT (zH Zp (pv 7) xB (zF _)) (jR (zH Zp (pv 8) xB (zF _))))).pt (zo (psl (i:=5) vz.nd (zu xp (pv 7) (zu vN (zu qh (pv 5) (pv 7)) (zu zK zi (zu qh (pv 8) (pv 7))))))) (zo (xv ((ZT (zH Zp (pv 7) xB (zF _)) (jR (zH Zi (pv 5) (pv 7) (zF _))))).pt (zo (Xy (i:=5) (j:=6) rfl vz.nd rfl rfl (by decide) rfl rfl (za (zu qh (zu zK zi (pv 7)) (pv 5)) (za (vB qF (pv 6)) zd)) (by rfl))) zU)))
  (ze (xv ((ZT (zH Zp (pv 8) xB (zF _)) (jR (zH Xp (pv 5) (pv 8) (zF _))))).pt (zo (Xy (i:=5) (j:=6) rfl vz.nd rfl rfl (by decide) rfl rfl (za (zu qh (zu zK zi (pv 8)) (pv 5)) (za (vB qF (pv 6)) zd)) (by rfl))) zU)
  (ze (xv ((ZT (zH Zp (pv 7) xB (zF _)) (jR (zH ZP (pv 5) (pv 7) (zF _))))).pt (zo (psl (i:=6) vz.nd (zQ qM (by rfl) T.nAbs yG (za (pv 6) zd)))) zU)
  (ze (xv ((ZT (zH Zp (pv 8) xB (zF _)) (jR (zH ZP (pv 5) (pv 8) (zF _))))).pt (zo (psl (i:=6) vz.nd (vB qF (zQ qM (by rfl) T.nAbs yG (za (pv 6) zd))))) zU)
  (zo (zE (zS (za (pv 5) (za (pv 6) zd)))))))))))))),?_⟩
 try dsimp only[xc,Cx.nox]
 refine⟨_,rL,t,_,rL,.of ht,rL,_,_,rL,_,_,rL,rL,?_⟩
 dsimp only[zD]
 refine⟨_,rL,a,_,_,_,rL,rL,.of ha,at0 ..,_,rL,_,_,rL,rL,⟨b2k bx,b2k S⟩,_,rL,a,_,_,_,rL,rL,.of ha,at1 ..,_,rL,_,_,rL,rL,⟨b2k bv,b2k a1⟩,_,_,rL,rL,?_⟩
 dsimp only[zD]
 refine⟨_,rL,a,_,_,_,rL,rL,.of ha,at1 ..,?_⟩
 dsimp only[zD]
 have a6:Bd 4001 (x*O+v*top):=((bx.mul S).add (bv.mul a1)).md
 generalize x*O+v*top=s0 at *
 refine zG (λW G=>H=G/\W=[Sr c,Sr a,Sr t,Si top,Si O,Si s0,Si v,some (lv (wsc lo O)),none]) ?_ ?_
 rotate_left
 ·intro nx I
  rcases zcb tl with⟨rfl,rfl⟩ | ⟨l,al,rfl,rfl,Y⟩
  ·exact⟨_,rL,c,C,dx,fs,_,rL,hc,U.cls,U.low,el,rL,_,rL,xO (I _ _ ⟨rL,rL⟩)⟩
  ·exact⟨_,rL,c,C,dx,fs,_,rL,hc,U.cls,U.low,el,rL,_,rL,xz ⟨_,rL,c,C,dx,fs,_,rL,hc,U.cls,U.low,el,al,_,_,_,rL,rL,.of Y,at0 ..,_,rL,_,_,rL,rL,⟨b2k (wl _ rL),b2k S⟩,I _ _ ⟨rL,rL⟩⟩⟩
 rintro σ1 G ⟨rfl,rfl⟩
 refine zG (λW G=>H=G/\W=[Sr c,Sr a,Sr t,Si top,Si O,Si s0,Si v,some (lv (wsc lo O)),some (lv (wsc hi O))]) ?_ ?_
 rotate_left
 ·intro nx I
  rcases zcb th with⟨rfl,rfl⟩ | ⟨l,al,rfl,rfl,Y⟩
  ·exact⟨_,rL,c,C,dx,fs,_,rL,hc,U.cls,U.high,eh,rL,_,rL,xO (I _ _ ⟨rL,rL⟩)⟩
  ·exact⟨_,rL,c,C,dx,fs,_,rL,hc,U.cls,U.high,eh,rL,_,rL,xz ⟨_,rL,c,C,dx,fs,_,rL,hc,U.cls,U.high,eh,al,_,_,_,rL,rL,.of Y,at0 ..,_,rL,_,_,rL,rL,⟨b2k (wh _ rL),b2k S⟩,I _ _ ⟨rL,rL⟩⟩⟩
 rintro σ1 G ⟨rfl,rfl⟩
 have bL:∀l,wsc lo O=some l->Bd 4000 l:=λl e=>by
  cases lo with
  |none=>cases e
  |some z=>cases e;exact(wl _ rfl).mul S
 have bH:∀l,wsc hi O=some l->Bd 4000 l:=λl e=>by
  cases hi with
  |none=>cases e
  |some z=>cases e;exact(wh _ rfl).mul S
 have a4:∀l h,wsc lo O=some l->wsc hi O=some h->l<h:=λl h e1 e2=>by
  cases lo with
  |none=>cases e1
  |some z =>
   cases hi with
   |none=>cases e2
   |some y=>cases e1;cases e2;exact uh (a3 _ _ rfl rfl) a2
 generalize wsc lo O=L at *
 generalize wsc hi O=R at *
 have b4:∀{i:Int},Bd 4000 i->Bd 1000000 i:=λh=>h.md
 refine zG (λW G=>H=G/\W=[Sr c,Sr a,Sr t,Si top,Si O,some (.int (f1 L R s0 v).1),some (.int (f1 L R s0 v).2),some (lv L),some (lv R)]) ?_ ?_
 rotate_left
 ·intro nx I
  cases L with
  |none=>exact⟨_,rfl,rfl,_,rfl,xz (xz ⟨_,rfl,rfl,_,rfl,xz (xz (I _ _ ⟨rfl,rfl⟩))⟩)⟩
  |some l =>
   cases R with
   |none =>
    refine⟨_,rL,rL,_,rL,xO ⟨_,rL,rL,_,rL,xz ?_⟩⟩
    refine⟨_,rL,rL,_,rL,xO ⟨_,rL,_,rL,_,_,rL,rL,_,rL,vu (λh=>?_) (λh=>?_)⟩⟩
    ·have h':s0<l:=wA h
     refine⟨_,rL,_,_,rL,rL,⟨b2i,b4 (bL _ rL)⟩,_,rL,_,_,rL,rL,_,rL,_,rL,_,_,rL,I _ _ ⟨rL,?_⟩⟩
     simp only[f1,if_pos h'] <;> rfl
    ·have h':¬s0<l:=λz=>h (wm z)
     refine I _ _ ⟨rL,?_⟩
     simp only[f1,if_neg h'] <;> rfl
   |some h =>
    have hp:0<2*(h-l):=by have:=a4 _ _ rfl rfl;lia
    exact⟨_,rL,rL,_,rL,xO ⟨_,rL,rL,_,rL,xO ⟨_,rL,_,rL,_,rL,_,_,rL,rL,_,rL,_,rL,_,_,rL,rL,_,_,rL,rL,⟨b2i,((bH _ rL).sub (bL _ rL)).md⟩,_,_,rL,rL,hp,_,_,rL,rL,I _ _ ⟨rL,rL⟩⟩⟩⟩
 rintro σ1 G ⟨rfl,rfl⟩
 generalize hp1:f1 L R s0 v=p1 at *
 obtain⟨s1,v1⟩:=p1
 refine zG (λW G=>H=G/\W=[Sr c,Sr a,Sr t,Si top,Si O,some (.int (f2 R (s1,v1)).1),some (.int (f2 R (s1,v1)).2),some (lv L),some (lv R)]) ?_ ?_
 rotate_left
 ·intro nx I
  cases R with
  |none=>exact⟨_,rfl,rfl,_,rfl,xz (xz (I _ _ ⟨rfl,rfl⟩))⟩
  |some h =>
   refine⟨_,rL,rL,_,rL,xO ⟨_,rL,_,rL,_,_,rL,rL,_,rL,vu (λz=>?_) (λz=>?_)⟩⟩
   ·have h':h<s1:=wA z
    refine⟨_,rL,_,_,rL,rL,⟨b2i,b4 (bH _ rL)⟩,_,rL,_,_,rL,rL,_,rL,_,rL,_,_,rL,I _ _ ⟨rL,?_⟩⟩
    simp only[f2,if_pos h'] <;> rfl
   ·have h':¬h<s1:=λy=>z (wm y)
    refine I _ _ ⟨rL,?_⟩
    simp only[f2,if_neg h'] <;> rfl
 rintro σ1 G ⟨rfl,rfl⟩
 generalize hp2:f2 R (s1,v1)=p2 at *
 obtain⟨s2,v2⟩:=p2
 refine zG (λW G=>H=G/\W=[Sr c,Sr a,Sr t,Si top,Si O,some (.int (f3 L (s2,v2)).1),some (.int (f3 L (s2,v2)).2),some (lv L),some (lv R)]) ?_ ?_
 rotate_left
 ·intro nx I
  cases L with
  |none=>exact⟨_,rfl,rfl,_,rfl,xz (xz (I _ _ ⟨rfl,rfl⟩))⟩
  |some l =>
   refine⟨_,rL,rL,_,rL,xO ⟨_,rL,_,rL,rL,_,rL,vu (λz=>?_) (λz=>?_)⟩⟩
   ·have h':s2=l:=by have:=wA z;injection this
    refine⟨_,rL,_,rL,I _ _ ⟨rL,?_⟩⟩
    simp only[f3,if_pos h'] <;> rfl
   ·have h':¬s2=l:=λy=>z (wm (p:=V.int s2=V.int l) (by rw[y]))
    refine I _ _ ⟨rL,?_⟩
    simp only[f3,if_neg h'] <;> rfl
 rintro σ1 G ⟨rfl,rfl⟩
 generalize hp3:f3 L (s2,v2)=p3 at *
 obtain⟨s3,v3⟩:=p3
 refine zG (λW G=>H=G/\W=[Sr c,Sr a,Sr t,Si top,Si O,some (.int (f4 R (s3,v3)).1),some (.int (f4 R (s3,v3)).2),some (lv L),some (lv R)]) ?_ ?_
 rotate_left
 ·intro nx I
  cases R with
  |none=>exact⟨_,rfl,rfl,_,rfl,xz (xz (I _ _ ⟨rfl,rfl⟩))⟩
  |some l =>
   refine⟨_,rL,rL,_,rL,xO ⟨_,rL,_,rL,rL,_,rL,vu (λz=>?_) (λz=>?_)⟩⟩
   ·have h':s3=l:=by have:=wA z;injection this
    refine⟨_,rL,_,rL,_,rL,I _ _ ⟨rL,?_⟩⟩
    simp only[f4,if_pos h'] <;> rfl
   ·have h':¬s3=l:=λy=>z (wm (p:=V.int s3=V.int l) (by rw[y]))
    refine I _ _ ⟨rL,?_⟩
    simp only[f4,if_neg h'] <;> rfl
 rintro σ1 G ⟨rfl,rfl⟩
 refine⟨_,rL,_,rL,zL2,λr hr=>k r _ (zk.upd hr) ?_⟩
 unfold QV
 rw[hp1,hp2,hp3]
 exact zg
abbrev zjL (x:Str) (C:Addr) (mg:Str->Option Value) (h:Heap):Prop:=PyProof.Rows.OwnCls x C zjH "ValueError.__new__" mg h
def VO (lo hi:Option (Int×Int)):Option Int:=match lo,hi with
 |some l,some h=>some (2*(h.1-l.1))
 |_,_=>none
inductive QT (C:Addr) (vs:List V) (H:Hp) (Q:VK) (_e3:XK):Prop
 |mk:∀c pb sb tk ws trs lo hi,(vs=[.ref c])->(Xk H C c pb sb tk ws trs lo hi)->(Wb lo)->(Wb hi)->(Q (lv (VO lo hi)) H)->QT C vs H Q _e3
theorem zg1:zB ["course"] ["course"] (zj QN):=scq
theorem zgD (D:Df K mg "trip_of" QN ["course"] []) (G:TCo K C):Cal P w K mg base "trip_of" 1 ["course"] [] (QT C):=by
 rcases r:D.calq (k:=0) zg1 with⟨c,pb,sb,tk,ws,trs,lo,hi,rfl,V,wl,wh,k⟩
 obtain⟨dx,fs,I,F⟩:=id V
 obtain⟨vl,O,tl⟩:=F.low
 obtain⟨vh,S,Y⟩:=F.high
 refine⟨_,(ze (xv ((Ql (zH qP (xG (pv 0) rL) xB (zF _)) (Xz (zH qP (xG (pv 0) rL) xB (zF _))))).pt (zo (zE xB)) zU)
  (zo (zE (zu zK zi (zu qh (pxt (xG (pv 0) rfl)) (pxt (xG (pv 0) rfl))))))),?_⟩
 try dsimp only[xc,Cx.nox]
 rcases zcb tl with⟨rfl,rfl⟩ | ⟨l,al,rfl,rfl,U⟩
 ·exact⟨_,rL,c,C,dx,fs,_,rL,I,G.cls,G.low,O,rL,_,rL,xO (xO k)⟩
 ·refine⟨_,rL,c,C,dx,fs,_,rL,I,G.cls,G.low,O,rL,_,rL,xz ?_⟩
  rcases zcb Y with⟨rfl,rfl⟩ | ⟨h,ah,rfl,rfl,W⟩
  ·exact⟨_,rL,c,C,dx,fs,_,rL,I,G.cls,G.high,S,rL,_,rL,xO k⟩
  ·refine⟨_,rL,c,C,dx,fs,_,rL,I,G.cls,G.high,S,rL,_,rL,xz ?_⟩
   exact⟨_,rL,c,C,dx,fs,_,rL,I,G.cls,G.high,S,ah,_,_,_,rL,rL,.of W,at0 ..,_,rL,c,C,dx,fs,_,rL,I,G.cls,G.low,O,al,_,_,_,rL,rL,.of U,at0 ..,_,_,rL,rL,_,_,rL,rL,⟨b2i,((wh _ rL).sub (wl _ rL)).md⟩,k⟩
def zaQ (s g:Int) (tr:Option Int) (top bot:Int):Int:=match tr with
 |none=>if 0<g/\0<=s*top-g*bot then 1 else 0
 |some t=>(s*top-g*bot).fdiv (t*bot)-(-g).fdiv t
def J4 (s g:Int) (tr:Option Int) (top bot:Int):Int:=if s<0 then zaQ (-s) (-g) tr top bot else zaQ s g tr top bot
inductive zft  (vs:List V) (H:Hp) (Q:VK) (_e3:XK):Prop
 |mk:∀s g tr t top bot,(vs=[.int s,.int g,lv tr,.ref t])->(H t=some (.tup [.int top,.int bot]))->(Bd 3000 s)->(Bd 3000 g)->((∀x,tr=some x->0<x/\Bd 3000 x))->(Bd 2000 top)->(Bd 2000 bot)->(0<bot)->(Q (.int (J4 s g tr top bot)) H)->zft vs H Q _e3
theorem VI:zB ["speed","gap","trip","ticks","top","bottom","beyond"] ["speed","gap","trip","ticks"] (zj VG):=scq
theorem ziH (D:Df K mg "passes" VG ["speed","gap","trip","ticks"] []):Cal P w K mg base "passes" 1 ["speed","gap","trip","ticks"] [] zft:=by
 rcases r:D.calq (k:=0) VI with⟨s0,g0,V,t,top,F,rfl,ht,S,U,a3,a4,I,a1,k⟩
 refine⟨_,(ze (xv (zH Zi (pv 0) zi (zF _)) (zo (Xy (i:=0) (j:=1) rfl VI.nd rfl rfl (by decide) rfl rfl (za (vB qF (pv 0)) (za (vB qF (pv 1)) zd)) (by rfl))) zU)
  (ze (vP (pv 3) (qH rfl (zJ (pgl (i:=4) VI.nd) (zJ (pgl (i:=5) VI.nd) xL))))
  (ze (psl (i:=6) VI.nd (zu qh (zu zK (pv 0) (pv 4)) (zu zK (pv 1) (pv 5))))
  (ze (xv (zH qP (pv 2) xB (zF _)) (zo (zE (Qj ((ZT (zH Xp (pv 1) zi (zF _)) (jR (zH zko (pv 6) zi (zF _))))).pt zi zi))) zU)
  (zo (zE (zu qh (zu xJ (pv 6) (zu zK (pv 2) (pv 5))) (zu xJ (vB qF (pv 1)) (pv 2))))))))),?_⟩
 try dsimp only[xc,Cx.nox]
 refine zG (λσ' G=>H=G/\∃s g,σ'=[Si s,Si g,some (lv V),Sr t,none,none,none]/\Bd 3000 s/\Bd 3000 g/\zaQ s g V top F=J4 s0 g0 V top F) ?_ ?_
 rotate_left
 ·intro nx O
  refine⟨_,rL,_,_,rL,rL,_,rL,vu (λz=>?_) (λz=>?_)⟩
  ·have h':s0<0:=wA z
   refine⟨_,rL,_,rL,_,rL,_,rL,_,_,rL,O _ _ ⟨rL,_,_,rL,S.neg,U.neg,?_⟩⟩
   unfold J4;rw[if_pos h']
  ·have h':¬s0<0:=λy=>z (wm y)
   refine O _ _ ⟨rL,_,_,rL,S,U,?_⟩
   unfold J4;rw[if_neg h']
 rintro σ1 G a2;rcases q:a2 with⟨rfl,s,g,rfl,bs,bg,e⟩
 rw[<-e]at k
 refine⟨_,rL,t,_,rL,.of ht,rL,_,_,rL,_,_,rL,rL,?_⟩
 dsimp only[zD]
 have W:∀{i:Int},Bd 3000 i->Bd 1000000 i:=λh=>h.md
 refine⟨_,rL,_,rL,_,_,rL,rL,⟨W bs,b2k a4⟩,_,rL,_,rL,_,_,rL,rL,⟨W bg,b2k I⟩,_,_,rL,rL,?_⟩
 dsimp only[zD]
 cases V with
 |none =>
  refine⟨_,rL,rL,_,rL,xO ?_⟩
  refine⟨_,rL,_,_,rL,rL,_,rL,vu (λz=>?_) (λz=>?_)⟩
  ·have h1:0<g:=wA z
   refine⟨_,rL,_,_,rL,rL,_,rL,vu (λz=>?_) (λz=>?_)⟩
   ·have h2:0<=s*top-g*F:=wA z
    have:zaQ s g none top F=1:=if_pos ⟨h1,h2⟩
    rw[this]at k;exact k
   ·have h2:¬ 0<=s*top-g*F:=λy=>z (wm y)
    have:zaQ s g none top F=0:=if_neg λy=>h2 y.2
    rw[this]at k;exact k
  ·have h1:¬ 0<g:=λy=>z (wm y)
   have:zaQ s g none top F=0:=if_neg λy=>h1 y.1
   rw[this]at k;exact xz k
 |some x =>
  obtain⟨px,Y⟩:=a3 x rfl
  refine⟨_,rL,rL,_,rL,xz ?_⟩
  refine⟨_,rL,_,rL,_,rL,_,_,rL,rL,⟨W Y,b2k I⟩,_,_,rL,rL,⟨yu (wQ px a1),(Y.mul I).md⟩,?_⟩
  exact⟨_,rL,_,rL,_,rL,_,_,rL,rL,⟨yu px,Y.md⟩,_,_,rL,rL,k⟩
end KK
namespace L2
open PySem
def zgJ {X:Cx}{K:Fg}{e:Expr}{ta:TE}{f:Str}{pos:Pos}(hK:X.K=K) (he:PE X e ta) (hb:attributeBase e f X.env (eval e X.env)=eval e X.env):PE X (.Attribute e f pos) (zkG K ta f):=by
 subst hK;exact xG he hb
def Qx {a b:Str}{m n:Addr}{cs:List (Str×Addr)} (h1:cs.lookup a=some m) (h2:cs.lookup b=some n) (x:Str) (c:Addr) (e:List.lookup x [(a,m),(b,n)]=some c):cs.lookup x=some c:=by
 simp only[List.lookup]at e
 cases q1:(x == a)with
 |true=>rw[q1]at e;cases e;rw[eq_of_beq q1];exact h1
 |false =>
  rw[q1]at e
  cases q2:(x == b)with
  |true=>rw[q2]at e;cases e;rw[eq_of_beq q2];exact h2
  |false=>rw[q2]at e;cases e
end L2
namespace KK
open PySem L2 KM
variable {P:Program}{w:World}{K:Fg}{mg:Str->Option Value}{base:Heap}{C CE aN:Addr}
theorem zhk {lo hi:Option (Int×Int)} (wl:Wb lo) (wh:Wb hi) (h:∀l r,lo=some l->hi=some r->l.1<r.1):∀x,VO lo hi=some x->0<x/\Bd 3000 x:=λx e=>by
 cases lo with
 |none=>cases e
 |some l =>
  cases hi with
  |none=>cases e
  |some r =>
   cases e
   have:=h _ _ rfl rfl
   exact⟨by lia,((show Bd 2 (2:Int) by show (2:Int).natAbs<2^2;decide).mul ((wh _ rfl).sub (wl _ rfl))).md⟩
inductive zjr (C:Addr) (vs:List V) (H:Hp) (Q:VK) (_e3:XK):Prop
 |mk:∀c m pb sb tk ws trs lo hi x,(vs=[.ref c,.ref m])->(Xk H C c pb sb tk ws trs lo hi)->(zr H m x)->(Sz2 x tk)->(tk≠0)->(∀r H',zk H H'->zr H' r (x/tk)->Q (.ref r) H')->zjr C vs H Q _e3
theorem zjb:zB ["course","moment"] ["course","moment"] (zj XQ):=scq
theorem zkg (D:Df K mg "ticks_of" XQ ["course","moment"] []) (TC:TCo K C) (cO:Cal P w K mg base "over" 3 ["one","other"] [] (qt (λx y=>Sz2 x y/\y≠0) (· / ·))):Cal P w K mg base "ticks_of" 4 ["course","moment"] [] (zjr C):=by
 rcases r:D.calq (k:=3) zjb with⟨c,m,pb,sb,tk,ws,trs,lo,hi,x,rfl,hco,hm,hz,h0,k⟩
 obtain⟨dx,fs,hc,F⟩:=id hco
 obtain⟨tp,et,ht⟩:=F.tick
 refine⟨_,(zo (zE (zC cO hr (za (pv 1) (za (xG (pv 0) rL) zd))))),?_⟩
 try dsimp only[xc,Cx.nox]
 exact⟨_,rL,_,rL,c,C,dx,fs,_,rL,hc,TC.cls,TC.tick,et,m,tp,x,tk,rL,hm,ht,⟨hz,h0⟩,k⟩
structure Pl (H:Hp) (r a:Addr) (bs:List Zl) (b0:Zl) (l1 l2:Wl):Prop where
 row:∃us,H r=some (.tup us)/\xC H us bs
 b0:bs[0]?=some b0
 len:bs.length<=8
 walls:∃v1 v2,H a=some (.tup [v1,v2])/\xu H v1 l1/\xu H v2 l2
def plB (b0:Zl) (bs:List Zl) (l1 l2:Wl):Bool:=evB b0 bs&&(xK l1&&xK l2)
inductive zjl  (vs:List V) (H:Hp) (Q:VK) (_e3:XK):Prop
 |mk:∀r a bs b0 l1 l2,(vs=[.ref r,.ref a])->(Pl H r a bs b0 l1 l2)->(∀H',zk H H'->Q (.bl (plB b0 bs l1 l2)) H')->zjl vs H Q _e3
theorem zfg:zB ["row","walls"] ["row","walls"] (zj XA):=scq
theorem zkc (D:Df K mg "is_plain" XA ["row","walls"] []) (cEv:Cal P w K mg base "is_even" 5 ["row"] [] zjf) (cSt:Cal P w K mg base "is_still" 5 ["walls"] [] zjq):Cal P w K mg base "is_plain" 6 ["row","walls"] [] zjl:=by
 rcases r:D.calq (k:=5) zfg with⟨r,a,bs,b0,l1,l2,rfl,pl,k⟩
 obtain⟨us,hrr,hB⟩:=pl.row
 rcases q:pl.walls with⟨v1,v2,ha,h1,h2⟩
 refine⟨_,(zo (zE (qD (zC cEv hr (za (pv 0) zd)) (vc (zC cSt hr (za (pv 1) zd)))))),?_⟩
 try dsimp only[xc,Cx.nox]
 refine⟨_,rL,r,us,bs,b0,rL,hrr,hB,pl.b0,pl.len,λH1 e1=>⟨_,rL,?_⟩⟩
 cases e:evB b0 bs with
 |false =>
  refine xz ?_
  have:=k H1 e1
  unfold plB at this;rw[e]at this;exact this
 |true =>
  refine xO ⟨_,rL,a,v1,v2,l1,l2,rL,e1 _ _ ha,h1.same e1,h2.same e1,λH2 e2=>?_⟩
  have:=k H2 (e1.trans e2)
  unfold plB at this;rw[e]at this;exact this
inductive zjo  (vs:List V) (H:Hp) (Q:VK) (_e3:XK):Prop
 |mk:∀r a bs b0 l1 l2,(vs=[.ref r,.ref a])->(Pl H r a bs b0 l1 l2)->(plB b0 bs l1 l2=true)->(∀H',zk H H'->Q .non H')->zjo vs H Q _e3
theorem zkz:zB ["row","walls"] ["row","walls"] (zj vy):=scq
theorem zke (D:Df K mg "refuse_uneven" vy ["row","walls"] []) (cPl:Cal P w K mg base "is_plain" 6 ["row","walls"] [] zjl):Cal P w K mg base "refuse_uneven" 7 ["row","walls"] [] zjo:=by
 rcases r:D.calq (k:=6) zkz with⟨r,a,bs,b0,l1,l2,rfl,pl,hp,k⟩
 refine⟨_,(zo (xv (Zs (qr (zC cPl hr (za (pv 0) (za (pv 1) zd))) λ_=>rL)) Zj zU)),?_⟩
 try dsimp only[xc,Cx.nox]
 refine⟨_,rL,_,rL,r,a,bs,b0,l1,l2,rL,pl,λH1 e1=>⟨_,rL,?_⟩⟩
 rw[hp]
 exact xz (k H1 e1)
inductive zjj  (vs:List V) (H:Hp) (Q:VK) (_e3:XK):Prop
 |mk:∀m k:Int,(vs=[.int m,.int k])->(0<=k)->(k<m)->(Q .non H)->zjj vs H Q _e3
theorem zkx:zB ["many","k"] ["many","k"] (zj vf):=scq
theorem zka (D:Df K mg "refuse_no_ball" vf ["many","k"] []):Cal P w K mg base "refuse_no_ball" 1 ["many","k"] [] zjj:=by
 rcases r:D.calq (k:=0) zkx with⟨m,k,rfl,h0,h1,q⟩
 refine⟨_,(zo (xv (Zs (ze1 zhx Zi zi (pv 1) (pv 0))) Zj zU)),?_⟩
 try dsimp only[xc,Cx.nox]
 refine⟨_,rL,_,_,rL,rL,_,rL,?_⟩
 rw[wm h0]
 refine xO ⟨_,rL,_,_,rL,rL,_,rL,?_⟩
 rw[wm h1]
 exact xz q
def tb (b:Bl):Zl:=⟨b.pl,b.sp,b.wt⟩
def Sm (x:Rat):Prop:=Bd 200 x.num/\Bd 20 (x.den:Int)
theorem Sm.sz {x:Rat}(h:Sm x):Sz 400 x:=⟨h.1.md,h.2.md⟩
structure Ln (H:Hp) (r a:Addr) (bs:List Bl) (lo hi:Wl):Prop where
 row:∃us,H r=some (.tup us)/\qi H us bs
 walls:∃v1 v2,H a=some (.tup [v1,v2])/\xu H v1 lo/\xu H v2 hi
 l1:1<=bs.length
 l8:bs.length<=8
theorem Ln.same {H H':Hp}{r a:Addr}{bs:List Bl}{lo hi:Wl}(h:Ln H r a bs lo hi) (e:zk H H'):Ln H' r a bs lo hi:=by
 obtain⟨us,h1,h2⟩:=h.row
 obtain⟨I,v2,F,O,G⟩:=h.walls
 exact⟨⟨us,e _ _ h1,h2.keeps (.of e)⟩,⟨I,v2,e _ _ F,O.same e,G.same e⟩,h.l1,h.l8⟩
structure LnZ (bs:List Bl) (lo hi:Wl):Prop where
 sz:∀t∈ths bs lo hi,Sm t.1/\Sm t.2
 lh:∀l h,lo=some l->hi=some h->l.1<h.1
theorem qi.balls {H:Hp}:∀{us:List V}{bs:List Bl},qi H us bs->xC H us (bs.map tb)
 |[],[],_=>.nil
 |[],_::_,h=>by have:=h.1;simp at this
 |_::_,[],h=>by have:=h.1;simp at this
 |u::us,b::bs,h=>by
  obtain⟨c,e,a,p,q,rfl,h1,h2,F⟩:=h.2 0 u rfl
  simp at e;subst e
  exact .cons (b:=tb b) h1 h2 F (qi.balls ⟨by have:=h.1;simpa using this,λi v e=>by simpa using h.2 (i+1) v ↥e⟩)
theorem xu.wl {H:Hp}{v:V}{l:Wl}(h:xu H v l):VT H v l:=by
 cases l with
 |none=>exact h
 |some z=>obtain⟨x,y⟩:=z;obtain⟨a,p,q,e1,e2,F,G⟩:=h;exact⟨a,e1,p,q,[],e2,F,G⟩
theorem Ln.pl {H:Hp}{r a:Addr}{bs:List Bl}{lo hi:Wl}(h:Ln H r a bs lo hi):∃F,bs[0]?=some F/\Pl H r a (bs.map tb) (tb F) lo hi:=by
 obtain⟨us,h1,h2⟩:=h.row
 have G:=h.l1
 refine⟨bs[0],wJ G,⟨us,h1,h2.balls⟩,by rw[wu,wJ G];rfl,by rw[wc];exact h.l8,h.walls⟩
theorem zjV {qs:List Rat}(h:∀q∈qs,Bd 20 (q.den:Int)) (U:qs.length<=20):0<Q6 qs/\Bd 401 (Q6 qs)/\∀q∈qs,(q.den:Int) ∣ Q6 qs:=by
 obtain⟨I,O,_,S⟩:=Vx (n:=20) (ks:=qs.map λq=>(q.den:Int)) (c:=1) (m:=1) (by decide) (show (1:Int).natAbs<2^1 by decide) (λk G=>by
  obtain⟨q,F,rfl⟩:=wf.mp G
  exact⟨by have:=q.den_pos;lia,h q F⟩)
 exact⟨I,O.mono (by rw[wc];lia),λq F=>S _ (wf.mpr ⟨q,F,rfl⟩)⟩
theorem JG {x:Rat}{b:Int}(F:Bd 200 x.num) (G:0<b) (h:Bd 401 b):Bd 2000 (byB x b):=by
 have I:0<(x.den:Int):=by have:=x.den_pos;lia
 unfold byB
 have z:Bd 401 (b.fdiv (x.den:Int)):=by
  rw[wC _ ∅]
  exact h.of_le (by have:=W8 (x.den:Int) (a:=b) ∅;have:=WP (a:=b) (b:=(x.den:Int)) ∅ ∅;lia)
 exact(F.mul z).md
theorem JH {x y:Rat}{b:Int}(V:0<b) (S:(x.den:Int) ∣ b) (I:(y.den:Int) ∣ b) (h:x<y):byB x b<byB y b:=by
 have W:=den_pos x
 have U:=den_pos y
 obtain⟨k,F⟩:=S
 obtain⟨m,G⟩:=I
 have f1:b.fdiv (x.den:Int)=k:=by rw[wC _ ∅,F];exact yf _ ∅
 have f2:b.fdiv (y.den:Int)=m:=by rw[wC _ ∅,G];exact yf _ ∅
 have k0:0<k:=by
  rcases yD 0 k with h | h
  ·exact h
  ·have:=uc (a:=(x.den:Int)) (b:=k) ∅ h;lia
 have O:0<m:=by
  rcases yD 0 m with h | h
  ·exact h
  ·have:=uc (a:=(y.den:Int)) (b:=m) ∅ h;lia
 unfold byB
 rw[f1,f2]
 have h':=(vn x y).mpr h
 have h2:=uh h' (wQ k0 O)
 refine Int.lt_of_mul_lt_mul_right (a:=b) ?_ ∅
 have e1:x.num*k*b=x.num*(y.den:Int)*(k*m):=by rw[G];simp only[WQ,uo,YF]
 have e2:y.num*m*b=y.num*(x.den:Int)*(k*m):=by rw[F];simp only[WQ,uo,YF]
 rw[e1,e2];exact h2
structure LnB (bs:List Bl) (lo hi:Wl) (p s:Int):Prop where
 pb:0<p/\Bd 401 p
 sb:0<s/\Bd 401 s
 tr:∀b∈bs,Bd 2000 (trB p s (b.pl,b.sp)).1/\Bd 2000 (trB p s (b.pl,b.sp)).2
 bl:Wb (lo.map (trB p s))
 bh:Wb (hi.map (trB p s))
 lh:∀l h,lo.map (trB p s)=some l->hi.map (trB p s)=some h->l.1<h.1
 t0:Rat.divInt s p≠0
 tz:Sz 401 (Rat.divInt s p)
theorem qK {bs:List Bl}{lo hi:Wl}{t:Rat×Rat}(e:lo=some t):t∈ths bs lo hi:=by unfold ths;rw[e];simp[Qh]
theorem vg {bs:List Bl}{lo hi:Wl}{t:Rat×Rat}(e:hi=some t):t∈ths bs lo hi:=by unfold ths;rw[e];simp[Qh]
theorem QZ {bs:List Bl}{lo hi:Wl}{b:Bl}(m:b∈bs):(b.pl,b.sp)∈ths bs lo hi:=by
 unfold ths;exact Ww _ (wf.mpr ⟨b,m,rfl⟩)
theorem LnZ.bd {bs:List Bl}{lo hi:Wl}(h:LnZ bs lo hi) (Y:bs.length<=8):LnB bs lo hi (pbO bs lo hi) (sbO bs lo hi):=by
 have V:=ZD (lo:=lo) (hi:=hi) Y
 obtain⟨F,O,W⟩:=zjV (qs:=(ths bs lo hi).map (·.1)) (λq m=>by obtain⟨t,G,rfl⟩:=wf.mp m;exact(h.sz t G).1.2) (by rw[wc];exact V)
 obtain⟨U,S,s3⟩:=zjV (qs:=(ths bs lo hi).map (·.2)) (λq m=>by obtain⟨t,G,rfl⟩:=wf.mp m;exact(h.sz t G).2.2) (by rw[wc];exact V)
 have I:∀t∈ths bs lo hi,Bd 2000 (trB (pbO bs lo hi) (sbO bs lo hi) t).1/\Bd 2000 (trB (pbO bs lo hi) (sbO bs lo hi) t).2:=λt m=>⟨JG (h.sz t m).1.1 F O,JG (h.sz t m).2.1 U S⟩
 refine⟨⟨F,O⟩,⟨U,S⟩,λb m=>I _ (QZ m),λt e=>?_,λt e=>?_,λl r e1 e2=>?_,?_,.divInt (by show pbO bs lo hi≠0;unfold pbO;lia) S O⟩
 ·cases lo with
  |none=>cases e
  |some z=>cases e;exact(I z (qK rfl)).1
 ·cases hi with
  |none=>cases e
  |some z=>cases e;exact(I z (vg rfl)).1
 ·cases lo with
  |none=>cases e1
  |some z =>
   cases hi with
   |none=>cases e2
   |some y =>
    cases e1;cases e2
    exact JH F (W _ (wf.mpr ⟨z,qK rL,rL⟩)) (W _ (wf.mpr ⟨y,vg rL,rL⟩)) (h.lh _ _ rL rL)
 ·intro z
  have h1:0<sbO bs lo hi:=U
  have h2:0<pbO bs lo hi:=F
  rw[show (0:Rat)=Rat.divInt 0 1 by rfl,uD ∅ (by decide)]at z
  lia
end KK
namespace L2
open PySem
def Xr {a:Str}{m:Addr}{F:List (Str×Addr)} (h1:F.lookup a=some m) (x:Str) (c:Addr) (e:List.lookup x [(a,m)]=some c):F.lookup x=some c:=by
 simp only[List.lookup]at e
 cases q1:(x == a)with
 |true=>rw[q1]at e;cases e;rw[eq_of_beq q1];exact h1
 |false=>rw[q1]at e;cases e
def Js {X:Cx}{K:Fg}{a:Expr}{ta:TE}(F:X.K=K) (G:PE X a ta) (I:∀whole,isTrue a X.env whole=(do let v <-whole;standAt a.pos;holding [v] (truthy v))):PT X a (λσ H Q=>ta σ H λx H'=>∃k,zcR K x H' k/\Q k H'):=by
 subst F;exact qr G I
end L2
namespace KK
open PySem L2 KM
variable {P:Program}{w:World}{K:Fg}{mg:Str->Option Value}{base:Heap}{C CE aN:Addr}
def ZJ (H:Hp) (us:List V) (ps:List (Int×Int)):Prop:=us.length=ps.length/\∀(i:Nat) (v:V),us[i]?=some v->∃u a,ps[i]?=some u/\v=.ref a/\H a=some (.tup [.int u.1,.int u.2])
theorem ZJ.tups {H H':Hp}{us:List V}{ps:List (Int×Int)} (h:ZJ H us ps) (t:xx H H'):ZJ H' us ps :=
 ⟨h.1,λi v e=>by obtain⟨u,a,e1,e2,F⟩:=h.2 i v e;exact⟨u,a,e1,e2,t _ _ F⟩⟩
theorem xu.tupsW {H H':Hp}{v:V}{l:Wl}(h:xu H v l) (e:xx H H'):xu H' v l:=by
 cases l with
 |none=>exact h
 |some z=>obtain⟨x,y⟩:=z;obtain⟨a,p,q,e1,e2,F,G⟩:=h;exact⟨a,p,q,e1,e _ _ e2,e _ _ F,e _ _ G⟩
abbrev Ent:Type:=Int×Addr×List Int
def Zm (ps:List (Int×List Int)) (k w:Int):List (Int×List Int):=if(ps.any λp=>decide (p.1=k))=true then ps.map (λp=>if p.1=k then(p.1,p.2++[w])else p)else ps++[(k,[w])]
def jY (l0 T:Int) (ps:List (Int×List Int)) (t:Int×Int):List (Int×List Int):=if 0<t.2 then Zm ps t.2 (t.1-l0)else if t.2<0 then Zm ps (-t.2) (T-(t.1-l0))else ps
def phO (l0 T:Int) (trs:List (Int×Int)):List (Int×List Int):=trs.foldl (jY l0 T) []
def Xo (es:List Ent):List (Int×List Int):=es.map λe=>(e.1,e.2.2)
def Xl (es:List Ent):List (Key×V):=es.map λe=>(Sum.inl e.1,V.ref e.2.1)
structure PhA (H G:Hp) (a:Addr) (es:List Ent):Prop where
 d:G a=some (.dK (Xl es))
 l:∀e∈es,G e.2.1=some (.lst (e.2.2.map V.int))
 n:(es.map (·.2.1)).Nodup
 f:∀e∈es,H e.2.1=none
 fa:H a=none
 k:(es.map (·.1)).Nodup
theorem PhA.same {H G F:Hp}{a:Addr}{es:List Ent}(h:PhA H G a es) (e:zk G F):PhA H F a es:=⟨e _ _ h.d,λx m=>e _ _ (h.l x m),h.n,h.f,h.fa,h.k⟩
theorem VQ (k:Int):∀es:List Ent,ZI (Xl es) (Sum.inl k)=(es.find? λe=>decide (e.1=k)).map λe=>V.ref e.2.1
 |[]=>rfl
 |e::es=>by
  show ZI ((Sum.inl e.1,V.ref e.2.1)::Xl es) (Sum.inl k)=_
  rw[uM]
  by_cases c:e.1=k
  ·rw[Qq (by rw[c]),wm c];rfl
  ·rw[Qp (λz=>c (Sum.inl.inj z)),wy c];exact VQ k es
theorem zdK (k:Int) (es:List Ent):(Xo es).any (λp=>decide (p.1=k))=(es.find? λe=>decide (e.1=k)).isSome:=by
 unfold Xo
 induction es with
 |nil=>rfl
 |cons e es ih =>
  rw[yg,Yb,uM]
  by_cases c:e.1=k
  ·simp[c]
  ·simp only[wy c,YM];exact ih
def VU (es:List Ent) (k w:Int):List Ent:=es.map λe=>if e.1=k then(e.1,e.2.1,e.2.2++[w])else e
theorem zeY {es:List Ent}{k w:Int}{e:Ent}(h:(es.find? λe=>decide (e.1=k))=some e):Xo (VU es k w)=Zm (Xo es) k w:=by
 unfold Zm
 rw[zdK,h,if_pos (show (some e).isSome=true from rfl)]
 unfold Xo VU
 rw[wD,wD]
 refine wG λx _=>?_
 show _=if x.1=k then(x.1,x.2.2++[w])else(x.1,x.2.2)
 show ((if x.1=k then(x.1,x.2.1,x.2.2++[w])else x).1,(if x.1=k then(x.1,x.2.1,x.2.2++[w])else x).2.2)=_
 split <;> rfl
theorem zeX {es:List Ent}{k w:Int}{l:Addr}(h:(es.find? λe=>decide (e.1=k))=none):Xo (es++[(k,l,[w])])=Zm (Xo es) k w:=by
 unfold Zm
 rw[zdK,h,if_neg (by decide)]
 unfold Xo
 rw[yt];rfl
theorem zbm {es:List Ent}{k:Int}{l:Addr}(w:Int) (h:(es.find? λe=>decide (e.1=k))=none):zaT (Xl es) (Sum.inl k) (V.ref l)=Xl (es++[(k,l,[w])]):=by
 unfold zaT
 rw[za9,VQ,h]
 rw[if_neg (by decide)]
 unfold Xl
 rw[yt];rfl
theorem PhA.put {H G:Hp}{a:Addr}{es:List Ent}{k w:Int}{e:Ent}(h:PhA H G a es) (hf:(es.find? λe=>decide (e.1=k))=some e):PhA H (upd G e.2.1 (.lst (e.2.2.map V.int++[.int w]))) a (VU es k w):=by
 have Y:e∈es:=yX hf
 have ke:e.1=k:=wA (YZ (p:=λe:Ent=>decide (e.1=k)) hf)
 have S:=h.l e Y
 have na:a≠e.2.1:=λz=>by rw[<-z,h.d]at S;cases S
 have e1:(VU es k w).map (·.1)=es.map (·.1):=by unfold VU;rw[wD];refine wG λx _=>?_;show (if x.1=k then _ else x).1=x.1;split <;> rfl
 have e2:(VU es k w).map (·.2.1)=es.map (·.2.1):=by unfold VU;rw[wD];refine wG λx _=>?_;show (if x.1=k then _ else x).2.1=x.2.1;split <;> rfl
 have e3:Xl (VU es k w)=Xl es:=by unfold Xl VU;rw[wD];refine wG λx _=>?_;show (Sum.inl (if x.1=k then _ else x).1,V.ref (if x.1=k then _ else x).2.1)=_;split <;> rfl
 refine⟨by rw[e3,zT na];exact h.d,λx m=>?_,by rw[e2];exact h.n,λx m=>?_,h.fa,by rw[e1];exact h.k⟩
 ·obtain⟨y,F,rfl⟩:=wf.mp m
  by_cases c:y.1=k
  ·have U:y=e:=by
    have hk:=h.k
    by_cases q:y=e
    ·exact q
    ·exfalso
     have:=(YG.mp hk)
     exact nodup_ne hk F Y q (c.trans ke.symm)
   subst U
   rw[if_pos c]
   show upd G y.2.1 _ y.2.1=_
   rw[zg,yt];rfl
  ·rw[if_neg c]
   have O:y.2.1≠e.2.1:=λz=>by
    have:y≠e:=λq=>c (by rw[q];exact ke)
    exact nodup_ne (f:=λe:Ent=>e.2.1) h.n F Y this z
   rw[zT O];exact h.l y F
 ·obtain⟨y,F,rfl⟩:=wf.mp m
  have:=h.f y F
  split
  ·exact this
  ·exact this
where
 nodup_ne {α β:Type}{f:α->β}:∀{l:List α}{x y:α},(l.map f).Nodup->x∈l->y∈l->x≠y->f x≠f y
 |[],_,_,_,h,_,_=>by cases h
 |a::l,x,y,O,mx,F,ne=>by
  rw[yg,uz]at O
  rcases ww.mp mx with ex | W
  ·rcases ww.mp F with U | I
   ·exact absurd (ex.trans U.symm) ne
   ·exact λe=>O.1 (by rw[<-ex,e];exact wf.mpr ⟨y,I,rfl⟩)
  ·rcases ww.mp F with U | I
   ·exact λe=>O.1 (by rw[<-U,<-e];exact wf.mpr ⟨x,W,rfl⟩)
   ·exact nodup_ne O.2 W I ne
theorem PhA.new {H G:Hp}{a l:Addr}{es:List Ent}{k w:Int}(h:PhA H G a es) (W:∀b o,H b=some o->G b=some o) (F:G l=none) (U:(es.find? λe=>decide (e.1=k))=none) :
  PhA H (upd (upd (upd G l (.lst [])) a (.dK (Xl (es++[(k,l,[w])])))) l (.lst [.int w])) a (es++[(k,l,[w])]):=by
 have na:a≠l:=λz=>by rw[<-z,h.d]at F;cases F
 have V:H l=none:=by
  cases q:H l with
  |none=>rfl
  |some o=>rw[W _ _ q]at F;cases F
 have ne:∀e∈es,e.2.1≠l:=λe m z=>by have:=h.l e m;rw[z,F]at this;cases this
 have S:∀e∈es,e.2.1≠a:=λe m z=>by have:=h.l e m;rw[z,h.d]at this;cases this
 refine⟨by rw[zT na];exact zg,λx m=>?_,?_,λx m=>?_,h.fa,?_⟩
 ·rcases wY.mp m with m | m
  ·rw[zT (ne x m),zT (S x m),zT (ne x m)];exact h.l x m
  ·cases wU.mp m;exact zg
 ·rw[yt]
  refine YH.mpr ⟨h.n,by simp,λb O c I=>?_⟩
  obtain⟨e,m,rfl⟩:=wf.mp O
  simp at I;subst I
  exact ne e m
 ·rcases wY.mp m with m | m
  ·exact h.f x m
  ·cases wU.mp m;exact V
 ·rw[yt]
  refine YH.mpr ⟨h.k,by simp,λb O c I=>?_⟩
  obtain⟨e,m,rfl⟩:=wf.mp O
  simp at I;subst I
  intro z
  have:=WR.mp U e m
  exact this (wm z)
inductive zjk (C:Addr) (vs:List V) (H:Hp) (Q:VK) (_e3:XK):Prop
 |mk:∀c pb sb tk ws trs lo hi,(vs=[.ref c])->(Xk H C c pb sb tk ws trs (some lo) (some hi))->(Wb (some lo))->(Wb (some hi))->(trs.length<=8)->(∀a es H',zk H H'->PhA H H' a es->Xo es=phO lo.1 (2*(hi.1-lo.1)) trs->Q (.ref a) H')->zjk C vs H Q _e3
theorem QR:zB ["course","trip","phases","start","speed","way"] ["course"] (zj ZY):=scq
theorem zbp (es:List Ent):(Xl es).length=es.length:=wc ..
theorem zeV {H G:Hp}{a l0:Addr}{es:List Ent}{k w:Int}{i:Nat}{R:VK}(h:PhA H G a es) (hS:zk H G) (hi:i<=1000) (hl:es.length<=i) (V:∀e∈es,e.2.2.length<=i) (I:G l0=none)
  (q:∀l xs Y O,Y l=some (.lst xs)->xs.length<sizeLine->PhA H (upd Y l (.lst (xs++[.int w]))) a O->zk H (upd Y l (.lst (xs++[.int w])))->Xo O=Zm (Xo es) k w->O.length<=i+1->(∀e∈O,e.2.2.length<=i+1)->R (.ref l) Y) :
  zcA (.ref a) [.int k,.ref l0] (upd G l0 (.lst [])) R:=by
 have na:a≠l0:=λz=>by have:=h.d;rw[z,I]at this;cases this
 have S1:zk G (upd G l0 (.lst [])):=zk.upd I
 have sz:(1000:Nat)<sizeLine:=by decide
 refine⟨a,Xl es,Sum.inl k,.ref l0,rfl,rfl,S1 _ _ h.d,by rw[zbp];lia,λv S=>?_,λS=>?_⟩
 ·rw[VQ]at S
  cases F:es.find? λe=>decide (e.1=k)with
  |none=>rw[F]at S;cases S
  |some e =>
   rw[F]at S;cases S
   have me:e∈es:=yX F
   have h1:=h.same S1
   have a1:=h1.l e me
   have a2:=V e me
   refine q _ _ _ _ a1 (by rw[wc];lia) (h1.put F) (λb o U=>?_) (zeY F) (by unfold VU;rw[wc];lia) λx m=>?_
   ·have:b≠e.2.1:=λz=>by rw[z,h.f e me]at U;cases U
    rw[zT this];exact S1 _ _ (hS _ _ U)
   ·obtain⟨y,my,rfl⟩:=wf.mp m
    have:=V y my
    split
    ·show (y.2.2++[w]).length<=_;simp;lia
    ·lia
 ·rw[VQ]at S
  have F:(es.find? λe=>decide (e.1=k))=none:=by
   cases F:es.find? λe=>decide (e.1=k)with
   |none=>rfl
   |some e=>rw[F]at S;cases S
  rw[zbm w F]
  have W:upd (upd G l0 (.lst [])) a (.dK (Xl (es++[(k,l0,[w])]))) l0=some (.lst []):=by rw[zT na.symm];exact zg
  refine q _ _ _ _ W (by show 0<sizeLine;lia) (h.new hS I F) (λb o U=>?_) (zeX F) (by simp;lia) λx m=>?_
  ·have n1:b≠l0:=λz=>by rw[<-z,hS _ _ U]at I;cases I
   have n2:b≠a:=λz=>by rw[z,h.fa]at U;cases U
   show upd (upd (upd G l0 (.lst [])) a _) l0 _ b=some o
   rw[zT n1,zT n2,zT n1];exact hS _ _ U
  ·rcases wY.mp m with m | m
   ·have:=V x m;lia
   ·cases wU.mp m;simp
theorem zkb (D:Df K mg "phases_of" ZY ["course"] []) (TC:TCo K C) (b1:Cal P w K mg base "trip_of" 1 ["course"] [] (QT C)):Cal P w K mg base "phases_of" 2 ["course"] [] (zjk C):=by
 rcases r:D.calq (k:=1) QR with⟨c,pb,sb,tk,ws,trs,lo,hi,rfl,a6,wl,wh,l8,k⟩
 obtain⟨dx,fs,hc,F⟩:=id a6
 obtain⟨vl,el,tl⟩:=F.low
 obtain⟨al,rfl,b0⟩:∃a,vl=V.ref a/\H a=some (.tup [.int lo.1,.int lo.2]):=tl
 rcases q:F.tracks with⟨L,tv,et,hL,hT⟩
 have a8:=hT.1
 refine⟨_,(ze (psl (i:=1) QR.nd (zC b1 hr (za (pv 0) zd)))
  (ze (psl (i:=2) QR.nd zeR)
  (ze (vd PassesOwn.never rfl (xk (xG (pv 0) rfl)) (qH rfl (zJ (pgl (i:=3) QR.nd) (zJ (pgl (i:=4) QR.nd) xL))) (ze (psl (i:=5) QR.nd (zu qh (pv 3) (pxt (xG (pv 0) rfl))))
  (zo (xv (zH Xp (pv 4) zi (zF _)) (zo (qm (ZQ yB yM yN qB (ZQ PySem.F.plainAttrs_dict Yc Yd Jo (pv 2) (za (pv 4) (za (xR zd) zd))) (za (pv 5) zd)))) (zo (xv (zH Zi (pv 4) zi (zF _)) (zo (qm (ZQ yB yM yN qB (ZQ PySem.F.plainAttrs_dict Yc Yd Jo (pv 2) (za (vB qF (pv 4)) (za (xR zd) zd))) (za (zu qh (pv 1) (pv 5)) zd)))) zU))))))
  (zo (zE (pv 2)))))),?_⟩
 try dsimp only[xc,Cx.nox]
 refine⟨_,rL,c,pb,sb,tk,ws,trs,some lo,some hi,rL,a6,wl,wh,?_⟩
 dsimp only[zD]
 refine λa ha=>?_
 dsimp only[zD]
 have S0:zk H (upd H a (.dK [])):=zk.upd ha
 have P0:PhA H (upd H a (.dK [])) a []:=⟨zg,(λe m=>by cases m),Y3,(λe m=>by cases m),ha,Y3⟩
 generalize upd H a (.dK [])=H0 at S0 P0
 refine zG (λσ' G=>∃es y3 y4 y5,σ'=[Sr c,some (lv (VO (some lo) (some hi))),Sr a,y3,y4,y5]/\zk H G/\PhA H G a es/\Xo es=phO lo.1 (2*(hi.1-lo.1)) trs) ?_ ?_
 ·rintro σ' G O;rcases q:O with⟨es,y3,y4,y5,rfl,S,U,e⟩
  exact⟨_,rL,k a es G S U e⟩
 intro nx a9
 refine⟨_,rL,c,C,dx,fs,_,rL,S0 _ _ hc,TC.cls,TC.tracks,et,L,rL,⟨_,SqL.of (S0 _ _ hL)⟩,?_⟩
 refine vm (xs:=tv) (λi σ' G=>∃es y3 y4 y5,σ'=[Sr c,some (lv (VO (some lo) (some hi))),Sr a,y3,y4,y5]/\zk H G/\PhA H G a es/\Xo es=phO lo.1 (2*(hi.1-lo.1)) (trs.take i)/\es.length<=i/\∀e∈es,e.2.2.length<=i)
  ⟨[],none,none,none,rfl,S0,P0,rfl,wo _,λe m=>by cases m⟩ (λi σ' G _ ⟨_,_,_,_,_,S,_⟩=>SqL.of (S _ _ hL)) ?_ ?_
 ·rintro i y σ' G hy O;rcases q:O with⟨es,y3,y4,y5,rfl,S,U,e,a5,a3⟩
  rcases q:hT.2 i y hy with⟨W,a4,p,rfl,hp⟩
  have b2:i<trs.length:=(wS.mp a4).1
  have I:phO lo.1 (2*(hi.1-lo.1)) (trs.take (i+1))=jY lo.1 (2*(hi.1-lo.1)) (Xo es) W:=by
   rw[yA,a4,e];unfold phO;rw[YE];rfl
  refine⟨p,_,rL,.of (S _ _ hp),rL,_,_,rL,_,_,rL,rL,?_⟩
  dsimp only[zD]
  have a7:=S _ _ b0
  refine⟨_,rL,_,rL,c,C,dx,fs,_,rL,S _ _ hc,TC.cls,TC.low,el,al,_,_,_,rL,rL,.of a7,at0 ..,_,_,rL,rL,?_⟩
  dsimp only[zD]
  unfold jY at I
  refine⟨_,rL,_,_,rL,rL,_,rL,vu (λz=>?_) (λz=>?_)⟩
  ·have h1:0<W.2:=wA z
   rw[if_pos h1]at I
   refine⟨_,rL,.inr (.inr (.inl ⟨rL,.inl ⟨_,U.d⟩⟩)),_,rL,zL0,λl0 a1=>?_⟩
   dsimp only[Z6]
   exact zeV (w:=W.1-lo.1) U S ∅ a5 a3 a1 λl xs G1 Y hl hx a2 S' e' q1 q2=>⟨.inl ⟨rfl,_,SqL.of hl⟩,_,rfl,l,_,_,rfl,rfl,hl,hx,⟨Y,_,_,_,rfl,S',a2,by rw[I];exact e',q1,q2⟩⟩
  ·have h1:¬ 0<W.2:=λq=>z (wm q)
   rw[if_neg h1]at I
   refine⟨_,rL,_,_,rL,rL,_,rL,vu (λz=>?_) (λz=>?_)⟩
   ·have h2:W.2<0:=wA z
    rw[if_pos h2]at I
    refine⟨_,rL,.inr (.inr (.inl ⟨rL,.inl ⟨_,U.d⟩⟩)),_,rL,_,rL,zL0,λl0 a1=>?_⟩
    dsimp only[Z6]
    exact zeV (k := -W.2) (w:=2*(hi.1-lo.1)-(W.1-lo.1)) U S ∅ a5 a3 a1 λl xs G1 Y hl hx a2 S' e' q1 q2=>⟨.inl ⟨rfl,_,SqL.of hl⟩,_,rfl,_,rfl,_,_,rfl,rfl,l,_,_,rfl,rfl,hl,hx,⟨Y,_,_,_,rfl,S',a2,by rw[I];exact e',q1,q2⟩⟩
   ·have h2:¬W.2<0:=λq=>z (wm q)
    rw[if_neg h2]at I
    exact⟨es,_,_,_,rfl,S,U,I.symm ▸ rfl,by lia,λx m=>by have:=a3 x m;lia⟩
 ·rintro σ' G O;rcases q:O with⟨es,y3,y4,y5,rfl,S,U,e,_,_⟩
  exact a9 _ _ ⟨es,y3,y4,y5,rfl,S,U,by rw[e,a8,yq]⟩
end KK
namespace L2
open PySem PySem.Spec PyProof.Rows
section
variable {J:It}{D:Addr}{N n:Nat}{js:List Nat}{σ:St}{g:TG}{tt:TT}{te:TE}{H:Hp}
theorem zcW {Z:Hp->Prop}(F:Nat->Hp->List V->Prop) (h0:F 0 (upd H D (.lst [])) []) (Y:∀i H ys,i<N->F i H ys->J.go i H) (a1:∀H ys,F N H ys->J.stop N H)
  (hs:∀i x zs H2 O ys (Nx:Hp->List V->Prop),(∀H ys,F (i+1) H ys->Nx H ys)->i<N->zs.length=n->J.yld i H2 x O->F i H2 ys->H2 D=some (.lst ys)->g x (zs++qL σ js) O λI H4=>I.drop n=qL σ js/\tt I H4 λb G =>
   if b=true then te I G (λv S=>S D=some (.lst ys)/\ys.length<sizeLine/\Nx (upd S D (.lst (ys++[v]))) (ys++[v]))else G D=some (.lst ys)/\Nx G ys)
  (hd:∀H ys,F N H ys->H D=some (.lst ys)->Z H) :
  ∃W:Nat->Nat->Hp->List V->Prop,(∃m,W 0 m (upd H D (.lst [])) [])/\∀i m H2 ys,W i m H2 ys->H2 D=some (.lst ys)->(J.stop i H2/\Z H2) ∨
   (J.go i H2/\∀zs x O,zs.length=n->J.yld i H2 x O->g x (zs++qL σ js) O λI H4=>I.drop n=qL σ js/\tt I H4 λb G=>if b=true then te I G (λv S=>S D=some (.lst ys)/\ys.length<sizeLine/\∃U,U<m/\W (i+1) U (upd S D (.lst (ys++[v]))) (ys++[v]))
    else G D=some (.lst ys)/\∃U,U<m/\W (i+1) U G ys) :=
 ZN (Q:=λ_ H=>Z H) F h0 Y a1 hs hd
end
end L2
namespace KK
open PySem L2 KM
variable {P:Program}{w:World}{K:Fg}{mg:Str->Option Value}{base:Heap}{C CE:Addr}{tM:Nat}
def za4 (l:List Int):List Int:=l.mergeSort λa b=>decide (a<=b)
theorem vI (l:List Int):(za4 l).Perm l:=List.mergeSort_perm ..
theorem zam (l:List Int):(za4 l).Pairwise (·<=·):=by
 have h:=List.pairwise_mergeSort (le:=λa b:Int=>decide (a<=b)) (λa b c h1 h2=>by simp only[yo]at *;lia) (λa b=>by simp only[Bool.or_eq_true,yo];lia) l
 exact h.imp λz=>wA z
theorem za0 {a b:List Int}(p:a.Perm b) (F:a.Pairwise (·<=·)) (G:b.Pairwise (·<=·)):a=b :=
 List.Perm.eq_of_pairwise (le:=(·<=·)) (λa b _ _ h1 h2=>by lia) F G p
theorem zal {a l:List Int}(p:a.Perm l) (F:a.Pairwise (·<=·)):a=za4 l:=za0 (p.trans (vI l).symm) F (zam l)
theorem zfA {a b:List Int}:za4 a=za4 b↔a.Perm b:=⟨λh=>(vI a).symm.trans (by rw[h];exact vI b),λh=>zal ((vI a).trans h) (zam a)⟩
def qc (ps:List Int) (T m:Int):Bool:=decide (za4 (ps.map (· * m))=za4 (ps.map λp=>(p*m+T) % (T*m)))
theorem V9 {ps:List Int}{T m:Int}:qc ps T m=true↔(ps.map (· * m)).Perm (ps.map λp=>(p*m+T) % (T*m)):=by
 unfold qc;rw[yo];exact zfA
theorem Ja {ps:List Int}{T:Int}(h:∀p∈ps,0<=p/\p<T):qc ps T 1=true:=by
 rw[V9]
 refine .of_eq (wG λp m=>?_)
 obtain⟨F,h1⟩:=h p m
 rw[YK,YK,show p+T=p+T*1 by lia,Int.add_mul_emod_self_left,Int.emod_eq_of_lt F h1]
theorem zax:∀(a b:List Int),PyData.eqvAll (a.map .int) (b.map .int)=decide (a=b)
 |[],[]=>rfl
 |[],_::_=>by simp[PyData.eqvAll]
 |_::_,[]=>by simp[PyData.eqvAll]
 |x::a,y::b=>by
  show (PyData.eqv (.int x) (.int y)&&PyData.eqvAll (a.map .int) (b.map .int))=_
  rw[zax a b]
  by_cases c:x=y
  ·subst c
   have e:PyData.eqv (.int x) (.int x)=true:=SeqAt.eqv_refl _ rfl
   rw[e,YN]
   by_cases d:a=b
   ·rw[wm d,wm (by rw[d])]
   ·rw[wy d,wy (λz=>d (by injection z))]
  ·have e:PyData.eqv (.int x) (.int y)=false:=by simp[PyData.eqv];exact c
   rw[e,Bool.false_and,wy (λz=>c (by injection z))]
theorem zkB (ds:List Int):SeqAt.shaped (.list (ds.map .int))=true:=by
 have k:PyData.canLayAll0 (ds.map .int)=true/\PyData.depthAll (ds.map .int)=0:=by
  induction ds with
  |nil=>exact⟨rfl,rfl⟩
  |cons d ds ih =>
   refine⟨?_,?_⟩
   ·show (PyData.canLay0 (.int d)&&_)=true
    rw[ih.1];rfl
   ·show max (PyData.depth (.int d)) _=0
    rw[ih.2];rfl
 have F:PyData.canLay0 (.list (ds.map .int))=true:=k.1
 have G:PyData.depth (.list (ds.map .int))=1:=by show _+1=1;rw[k.2]
 show (_&&decide (_<=64))=true
 rw[F,G];rfl
theorem VD {H:Hp}:∀ds:List Int,Qt H (ds.map V.int) (ds.map .int)
 |[]=>.nil
 |d::ds=>.cons (.int d) (VD ds)
theorem Qd {vs:List V}{ns:List Int}(F:vs.length=ns.length) (h:∀(i:Nat) (v:V),vs[i]?=some v->∃n,ns[i]?=some n/\v=.int n):vs=ns.map V.int:=by
 refine uL λi=>?_
 rw[wu]
 cases e:vs[i]? with
 |none =>
  have:ns.length<=i:=by rw[<-F];exact List.getElem?_eq_none_iff.mp e
  rw[yF this];rfl
 |some v=>obtain⟨n,e1,rfl⟩:=h i v e;rw[e1];rfl
section
variable {P:Program}{w:World}{K:Fg}{mg:Str->Option Value}{base:Heap}{C CE:Addr}{aN:Addr}
structure Phs (ps:List Int) (T:Int):Prop where
 T0:0<T
 bT:Bd 3000 T
 l8:ps.length<=8
 ps:∀p∈ps,0<=p/\p<T
theorem Phs.bp {ps:List Int}{T:Int}(h:Phs ps T){p:Int}(m:p∈ps):Bd 3000 p:=h.bT.of_le (by have:=h.ps p m;lia)
inductive zg5  (vs:List V) (H:Hp) (Q:VK) (_e3:XK):Prop
 |mk:∀L ps T m,(vs=[.ref L,.int T,.int m])->(H L=some (.lst (ps.map V.int)))->(Phs ps T)->(0<m)->(Bd 3000 m)->(∀H',zk H H'->Q (.bl (qc ps T m)) H')->zg5 vs H Q _e3
theorem zfc:zB ["phases","trip","many","wide"] ["phases","trip","many"] (zj Za):=scq
theorem zj3 (D:Df K mg "comes_again" Za ["phases","trip","many"] []) (T3:Tx3 K mg aN):Cal P w K mg base "comes_again" 1 ["phases","trip","many"] [] zg5:=by
 rcases r:D.calq (k:=0) zfc with⟨L,ps,T,m,rfl,hL,z,m0,bm,k⟩
 have hu:=hr.units
 have bM:∀{n:Nat}{i:Int},Bd n i->n<=1000000->Bd 1000000 i:=λh l=>h.mono l
 have l8:=z.l8
 refine⟨_,(ze (Qk (i:=3) (NB:=["phase"]) (FR:=["many"]) (js:=[2]) rfl rfl (λx c h=>Xr rfl x c h) (.cons rfl rfl rfl ⟨_,rfl⟩ .nil) rfl (by decide +kernel) rfl (by decide +kernel) zfc.nd rfl rfl (by rfl) (xk (pv 0)) (by intro _ _ _;refine⟨?_,?_,?_⟩;(exact(pgl (i:=0) (show List.Nodup (["phase","many"]:List Str) by decide +kernel)));(exact xI);(exact(zu zK (pv 0) (pv 1)))))
  (zo (zE (xY (jX hu) (zQ Vr (by rfl) T3.nSorted WF (za (pv 3) zd)) (zQ Vr (by rfl) T3.nSorted WF (za (qz (NB:=["phase"]) (FR:=["trip","many"]) (js:=[1,2]) rfl rfl (λx c h=>Qx rfl rfl x c h) (.cons rfl rfl rfl ⟨_,rfl⟩ (.cons rfl rfl rfl ⟨_,rfl⟩ .nil)) rfl (by decide +kernel) rfl (by decide +kernel) (xk (pv 3)) (by intro _ _ _;refine⟨?_,?_,?_⟩;(exact(pgl (i:=0) (show List.Nodup (["phase","trip","many"]:List Str) by decide +kernel)));(exact xI);(exact(zu vN (zu xp (pv 0) (pv 1)) (zu zK (pv 1) (pv 2)))))) zd)) (zF _))))),?_⟩
 try dsimp only[xc,Cx.nox]
 unfold zbU zdy
 refine⟨_,rL,L,rL,⟨_,SqL.of hL⟩,λDc a2=>?_⟩
 refine xE (js:=[2]) (J:=Itl K L) (g:=zD 0) (te:=_) (n:=1) (xs:=ps.map V.int) (λi v G=>∃n,(ps.map (· * m))[i]?=some n/\v=.int n) (λ_ _ _ _ _ h=>h) a2 (xq hL) (qo (by rw[wc];lia)) ?_ ?_
 ·intro i y zs G Q' F hz S hQ
  rw[wu]at F
  cases hp:ps[i]? with
  |none=>rw[hp]at F;cases F
  |some p =>
   rw[hp]at F;cases F
   obtain⟨w1,rfl⟩:=Xm hz
   exact⟨rfl,_,rfl,_,rfl,_,_,rfl,rfl,⟨bM (z.bp (wL hp)) (by decide),bM bm (by decide)⟩,hQ _ _ (zk.refl _) ⟨_,by rw[wu,hp];rfl,rfl⟩⟩
 intro us G S I a1 hR
 dsimp only[zD]
 have e1:us=(ps.map (· * m)).map V.int:=Qd (by rw[wc];rw[wc]at a1;exact a1) λi v e=>hR i v e
 rw[e1]at I
 refine⟨_,rfl,Dc,_,rfl,.of I,by rw[wc];lia,λD1 Y a7 p1 s1=>?_⟩
 have S1:=zk.upd (o:=.lst (Y.map V.int)) a7
 have O:upd G D1 (.lst (Y.map V.int)) D1=some (.lst (Y.map V.int)):=zg
 generalize upd G D1 (.lst (Y.map V.int))=G1 at S1 O
 refine⟨_,rL,Dc,rL,⟨_,SqL.of (S1 _ _ I)⟩,λDe a3=>?_⟩
 refine xE (js:=[1,2]) (J:=Itl K Dc) (g:=zD 0) (te:=_) (n:=1) (xs:=(ps.map (· * m)).map V.int) (λi v G=>∃n,(ps.map λp=>(p*m+T) % (T*m))[i]?=some n/\v=.int n) (λ_ _ _ _ _ h=>h) a3 (xq (S1 _ _ I)) (qo (by rw[wc,wc];lia)) ?_ ?_
 ·intro i y zs G2 Q' F hz S2 hQ
  rw[wD,wu]at F
  cases hp:ps[i]? with
  |none=>rw[hp]at F;cases F
  |some p =>
   rw[hp]at F;cases F
   obtain⟨w1,rfl⟩:=Xm hz
   exact⟨rfl,_,rfl,_,rfl,_,_,rfl,rfl,_,rfl,_,rfl,_,_,rfl,rfl,⟨bM z.bT (by decide),bM bm (by decide)⟩,_,_,rfl,rfl,wQ z.T0 m0,hQ _ _ (zk.refl _) ⟨_,by rw[wu,hp];rfl,rfl⟩⟩
 intro a6 G2 S2 U W a4
 have e2:a6=(ps.map λp=>(p*m+T) % (T*m)).map V.int:=Qd (by rw[wc];rw[wc,wc]at W;exact W) λi v e=>a4 i v e
 rw[e2]at U
 refine⟨De,_,rfl,.of U,by rw[wc];lia,λD2 m2 a5 p2 s2=>?_⟩
 have S3:=zk.upd (o:=.lst (m2.map V.int)) a5
 refine⟨_,_,.lst (S3 _ _ (S2 _ _ O)) (VD Y),.lst zg (VD m2),zkB Y,zkB m2,?_⟩
 have ev:PyData.eqv (.list (Y.map .int)) (.list (m2.map .int))=qc ps T m:=by
  show PyData.eqvAll (Y.map .int) (m2.map .int)=_
  rw[zax,zal p1 s1,zal p2 s2];rfl
 rw[ev]
 exact k _ (S.trans (S1.trans (S2.trans S3)))
inductive zjg  (vs:List V) (H:Hp) (Q:VK) (_e3:XK):Prop
 |mk:∀L ps T,(vs=[.ref L,.int T])->(H L=some (.lst (ps.map V.int)))->(Phs ps T)->(1<=ps.length)->(∀(M:Nat) H',zk H H'->1<=M->M<=ps.length->qc ps T M=true->(∀m:Nat,1<=m->m<=ps.length->qc ps T m=true->m<=M)->Q (.int M) H')->zjg vs H Q _e3
theorem zi3:zB ["phases","trip"] ["phases","trip"] (zj vw):=scq
theorem zj6 (D:Df K mg "greatest_many" vw ["phases","trip"] []) (T1:TxB K mg) (a1:Cal P w K mg base "comes_again" 1 ["phases","trip","many"] [] zg5):Cal P w K mg base "greatest_many" 2 ["phases","trip"] [] zjg:=by
 have T:=T1
 rcases r:D.calq (k:=1) zi3 with⟨L,ps,F,rfl,hL,z,l1,k⟩
 have l8:=z.l8
 refine⟨_,(zo (zE (zQ (zcU rfl) (by rfl) T.nMax W2 (za (qz (NB:=["many"]) (FR:=["phases","trip"]) (js:=[0,1]) rfl rfl (λx c h=>Qx rfl rfl x c h) (.cons rfl rfl rfl ⟨_,rfl⟩ (.cons rfl rfl rfl ⟨_,rfl⟩ .nil)) rfl (by decide +kernel) rfl (by decide +kernel) (zdo rfl T.nRange (za zi (za (zu xp (zQ xj (by rfl) T.nLen PySem.boot_len (za (pv 0) zd)) zi) zd))) (by intro _ _ _;refine⟨?_,?_,?_⟩;(exact(pgl (i:=0) (show List.Nodup (["many","phases","trip"]:List Str) by decide +kernel)));(exact(Vf (Js (K:=K) rfl (zC a1 hr (za (pv 1) (za (pv 2) (za (pv 0) zd)))) λ_=>rfl)));(exact(pv 0)))) zd)))),?_⟩
 try dsimp only[xc,Cx.nox]
 refine⟨_,rfl,L,_,rfl,.inl (.of hL),_,_,rfl,rfl,1,_,rfl,⟨by decide,by decide,by rw[wc];lia,by rw[wc];lia⟩,λDc Y=>?_⟩
 rw[show (((ps.map V.int).length:Int)+1-1).toNat=ps.length by rw[wc];lia]
 refine zcW (js:=[0,1]) (J:=Itr 1 ps.length) (g:=zD 0) (tt:=λσ H Q=>(ZE zg5 [] E0 (xU (xw 1) (xU (xw 2) (xU (xw 0) Z6)))) σ H λx H'=>∃k,zcR K x H' k/\Q k H') (te:=xw 0) (n:=1) (N:=ps.length) (λi G ys=>zk H G/\ys=((List.range i).filter λj:Nat=>qc ps F (1+(j:Int))).map λj:Nat=>V.int (1+(j:Int))) ⟨zk.upd Y,rL⟩ (λi G ys hi p=>hi) (λG ys p=>wo _) ?_ ?_
 ·rintro i x zs G2 G3 ys Nx hN hi hz hy ⟨S,rfl⟩ I
  obtain⟨rfl,rfl⟩:=hy
  obtain⟨w1,rfl⟩:=Xm hz
  refine⟨rfl,_,rfl,_,rfl,_,rfl,L,ps,F,1+(i:Int),rfl,S _ _ hL,z,by lia,?_,λG4 S4=>⟨qc ps F (1+(i:Int)),rfl,?_⟩⟩
  ·exact Bd.mono (m:=10) (show (1+(i:Int)).natAbs<2^10 by lia) (by decide)
  have W:(((List.range i).filter λj:Nat=>qc ps F (1+(j:Int))).map λj:Nat=>V.int (1+(j:Int))).length<sizeLine:=by
   have:=uR (λj:Nat=>qc ps F (1+(j:Int))) (List.range i)
   rw[yU]at this
   have:(1000:Nat)<sizeLine:=by decide
   rw[wc];lia
  cases hb:qc ps F (1+(i:Int))with
  |true =>
   refine xO ⟨_,rL,S4 _ _ I,W,hN _ _ ⟨λb o e=>?_,?_⟩⟩
   ·rw[zT (zZ e Y)];exact S4 _ _ (S _ _ e)
   ·rw[List.range_succ,ue,yt];simp[hb]
  |false =>
   refine xz ⟨S4 _ _ I,hN _ _ ⟨S.trans S4,?_⟩⟩
   rw[List.range_succ,ue,yt];simp[hb]
 rintro G ys ⟨S,rfl⟩ I
 have mem:∀M:Int,M∈(((List.range ps.length).filter λj:Nat=>qc ps F (1+(j:Int))).map λj:Nat=>(1+(j:Int)))↔∃j:Nat,j<ps.length/\qc ps F (1+(j:Int))=true/\M=1+(j:Int):=λM=>by
  rw[wf]
  constructor
  ·rintro ⟨j,hj,rfl⟩
   obtain⟨h1,h2⟩:=yr.mp hj
   exact⟨j,Wd.mp h1,h2,rL⟩
  ·rintro ⟨j,h1,h2,rfl⟩
   exact⟨j,yr.mpr ⟨Wd.mpr h1,h2⟩,rL⟩
 have O:(1:Int)∈(((List.range ps.length).filter λj:Nat=>qc ps F (1+(j:Int))).map λj:Nat=>(1+(j:Int))):=(mem 1).mpr ⟨0,by lia,by simpa using Ja z.ps,by simp⟩
 refine⟨Dc,_,rfl,by rw[show (((List.range ps.length).filter λj:Nat=>qc ps F (1+(j:Int))).map λj:Nat=>V.int (1+(j:Int)))=((((List.range ps.length).filter λj:Nat=>qc ps F (1+(j:Int))).map λj:Nat=>(1+(j:Int)))).map V.int by rw[wD];rfl]at I;exact .of I,List.length_pos_of_mem O,λM hM U=>?_⟩
 obtain⟨j,h1,h2,rfl⟩:=(mem M).mp hM
 have ej:(1+(j:Int))=((1+j:Nat):Int):=by lia
 rw[ej]at h2 ⊢
 refine k (1+j) G S ∅ ∅ h2 λm m1 m2 hm=>?_
 have:=U (m:Int) ((mem _).mpr ⟨m-1,by lia,by rw[show (1+((m-1:Nat):Int))=(m:Int) by lia];exact hm,by lia⟩)
 lia
inductive zfr (C:Addr) (vs:List V) (H:Hp) (Q:VK) (_e3:XK):Prop
 |mk:∀c t dx fs tp tk a b,(vs=[V.ref c,.ref t])->(H c=some (.ins C dx fs))->(fs.lookup ("tick":Str)=some (V.ref tp))->(zr H tp tk)->(H t=some (.tup [.int a,.int b]))->(b≠0)->(Bd 4400 a)->(Bd 4400 b)->(Sz 4400 tk)->(∀r H',zk H H'->zr H' r (Rat.divInt (a*tk.num) (b*(tk.den:Int)))->Q (.ref r) H')->zfr C vs H Q _e3
theorem zkw:zB ["course","ticks"] ["course","ticks"] (zj ZX):=scq
theorem zj9 {C:Addr}(D:Df K mg "moment_of" ZX ["course","ticks"] []) (G:TCo K C) (Y:Cal P w K mg base "ratio" 2 ["top","bottom"] [] vt):Cal P w K mg base "moment_of" 3 ["course","ticks"] [] (zfr C):=by
 rcases r:D.calq (k:=2) zkw with⟨c,t,dx,fs,O,tk,a,b,rfl,U,e,F,S,V,W,I,hz,k⟩
 refine⟨_,(zo (zE (zC Y hr (za (zu zK (pxt (pv 1)) (pxt (xG (pv 0) rL))) (za (zu zK (pxt (pv 1)) (pxt (xG (pv 0) rL))) zd))))),?_⟩
 try dsimp only[xc,Cx.nox]
 refine zat (Q:=Q) ?_
 refine⟨_,rL,t,_,_,_,rL,rL,.of S,at0 ..,_,rL,c,C,dx,fs,_,rL,U,G.cls,G.tick,e,O,_,_,_,rL,rL,.of F,at0 ..,_,_,rL,rL,⟨W.md,hz.1.md⟩,?_⟩
 refine⟨_,rL,t,_,_,_,rL,rL,.of S,at1 ..,_,rL,c,C,dx,fs,_,rL,U,G.cls,G.tick,e,O,_,_,_,rL,rL,.of F,at1 ..,_,_,rL,rL,⟨I.md,hz.2.md⟩,?_⟩
 exact⟨_,_,rL,uZ V (KM.qN tk),(I.mul hz.2).md,k⟩
def vO (T k g:Int) (tk:Rat):Rat:=Rat.divInt (T*tk.num) (g*k*(tk.den:Int))
def qO (qs:List Rat):Int:=qs.foldl (λd q=>((Int.gcd (q.den:Int) d:Nat):Int)) 0
theorem QA (qs:List Rat) (q:Rat):qO (qs++[q])=((Int.gcd (q.den:Int) (qO qs):Nat):Int):=by unfold qO;rw[YE];rfl
theorem zcd (qs:List Rat):0<=qO qs:=by
 rcases List.eq_nil_or_concat qs with rfl | ⟨l,q,rfl⟩
 ·exact uV _
 ·rw[List.concat_eq_append,QA];lia
theorem zaF (qs:List Rat):(∀q∈qs,qO qs ∣ (q.den:Int))/\∀d:Int,(∀q∈qs,d ∣ (q.den:Int))->d ∣ qO qs:=by
 suffices h:∀n,∀qs:List Rat,qs.length=n->(∀q∈qs,qO qs ∣ (q.den:Int))/\∀d:Int,(∀q∈qs,d ∣ (q.den:Int))->d ∣ qO qs from h _ qs rfl
 intro n
 induction n with
 |zero =>
  intro qs F
  cases uf.mp F
  exact⟨λq m=>(by cases m),λd _=>Int.dvd_zero d⟩
 |succ n ih =>
  intro qs F
  rcases List.eq_nil_or_concat qs with rfl | ⟨l,q,rfl⟩
  ·simp at F
  rw[List.concat_eq_append]at F ⊢
  rw[QA]
  obtain⟨G,I⟩:=ih l ↥F
  refine⟨λu m=>?_,λd hd=>?_⟩
  ·rcases wY.mp m with m | m
   ·exact Ws (Wr ..) (G u m)
   ·cases wU.mp m;exact um ..
  ·exact Int.dvd_coe_gcd (hd q (by simp)) (I d λu m=>hd u (by simp[m]))
theorem Qa {qs:List Rat}(h:1<=qs.length):0<qO qs/\∃q∈qs,qO qs<=(q.den:Int):=by
 match qs,h with
 |q::l,_ =>
  have d:=(zaF (q::l)).1 q (by simp)
  have p:=den_pos q
  have nn:=zcd (q::l)
  refine⟨?_,q,by simp,Int.le_of_dvd p d⟩
  rcases Int.lt_or_eq_of_le nn with z | z
  ·exact z
  ·rw[<-z]at d;have:=Int.zero_dvd.mp d;lia
def ptL (T:Int) (tk:Rat) (kgs:List (Int×Int)):List Rat:=kgs.map λu=>vO T u.1 u.2 tk
def xi (qs:List Rat):Rat:=Rat.divInt (xT (qs.map Rat.num)) (qO qs)
structure LrZ (T:Int) (tk:Rat) (kgs:List (Int×Int)):Prop where
 l1:1<=kgs.length
 l8:kgs.length<=8
 pos:∀u∈kgs,0<u.1/\0<u.2
 bk:∀u∈kgs,Bd 3000 u.1
 bg:∀u∈kgs,Bd 400 u.2
 num:∀q∈ptL T tk kgs,0<q.num
 bn:∀q∈ptL T tk kgs,Bd 400 q.num
 bd:∀q∈ptL T tk kgs,Bd 400 (q.den:Int)
 zt:Sz 4400 tk
inductive zfp (C:Addr) (vs:List V) (H:Hp) (Q:VK) (_e3:XK):Prop
 |mk:∀c A ys kgs pb sb tk ws trs lo hi,(vs=[.ref c,.ref A])->(Xk H C c pb sb tk ws trs (some lo) (some hi))->(Wb (some lo))->(Wb (some hi))->(lo.1<hi.1)->(H A=some (.lst ys))->(ZJ H ys kgs)->(LrZ (2*(hi.1-lo.1)) tk kgs)->(∀r H',zk H H'->zr H' r (xi (ptL (2*(hi.1-lo.1)) tk kgs))->Q (.ref r) H')->zfp C vs H Q _e3
theorem ZC:zB ["course","manies","trip","parts","divisor","top","bottom"] ["course","manies"] (zj Zd):=scq
def ZK (G:Hp) (us:List V) (qs:List Rat):Prop:=us.length=qs.length/\∀(i:Nat) (v:V),us[i]?=some v->∃q r,qs[i]?=some q/\v=.ref r/\zr G r q
theorem ziz (D:Df K mg "least_round" Zd ["course","manies"] []) (TC:TCo K C) (b5:Cal P w K mg base "trip_of" 1 ["course"] [] (QT C)) (cG:Cal P w K mg base "greatest_divisor" 1 ["one","other"] [] Ju) (cL:Cal P w K mg base "least_multiple" 2 ["numbers"] [] Jv) (cR:Cal P w K mg base "ratio" 2 ["top","bottom"] [] vt) (b3:Cal P w K mg base "moment_of" 3 ["course","ticks"] [] (zfr C)):Cal P w K mg base "least_round" 4 ["course","manies"] [] (zfp C):=by
 refine D.calq (k:=3) ZC (λf cdv A outer s H vs Q E a5 h=>?_)
 rcases q:h with⟨c,Am,ys,U,pb,sb,tk,ws,trs,lo,hi,rfl,a9,wl,wh,c1,hA,hP,Z,kk⟩
 have b0:xb 1 _:=a5.md
 have a6:xb 2 _:=a5.md
 obtain⟨dx,fs,hc,F⟩:=id a9
 obtain⟨tp,et,b2⟩:=F.tick
 refine⟨_,(ze (ZS (i:=2) ZC.nd rL (Or.inr rL) (zC b5 b0 (za (pv 0) zd)))
  (ze (Qk (i:=3) (NB:=["pace","many"]) (FR:=["course","trip"]) (js:=[0,2]) rfl rfl (λx c h=>Qx rfl rfl x c h) (.cons rfl rfl rfl ⟨_,rfl⟩ (.cons rfl rfl rfl ⟨_,rfl⟩ .nil)) rfl (by decide +kernel) rfl (by decide +kernel) ZC.nd rfl rfl (by rfl) (xk (pv 1)) (by intro _ _ _;refine⟨?_,?_,?_⟩;(exact(Xd (K:=K) (n:=2) rfl rfl (zJ (pgl (i:=0) (show List.Nodup (["pace","many","course","trip"]:List Str) by decide +kernel)) (zJ (pgl (i:=1) (show List.Nodup (["pace","many","course","trip"]:List Str) by decide +kernel)) xL))));(exact xI);(exact(zC b3 a5 (za (pv 2) (za (zS (za (pv 3) (za (zu zK (pv 1) (pv 0)) zd))) zd))))))
  (ze (psl (i:=4) ZC.nd zi)
  (ze (vd PassesOwn.never rfl (xk (pv 3)) (qH rfl (zJ (pgl (i:=5) ZC.nd) (zJ (pgl (i:=6) ZC.nd) xL))) (zo (psl (i:=4) ZC.nd (zC cG b0 (za (pv 6) (za (pv 4) zd))))))
  (zo (zE (zC cR a6 (za (zC cL a6 (za (vD (NB:=["top","bottom"]) rfl (by decide +kernel) (by decide +kernel) rfl (by decide +kernel) (xk (pv 3)) (by intro _ _ _;refine⟨?_,?_,?_⟩;(exact(Xd (K:=K) (n:=2) rfl rfl (zJ (pgl (i:=0) (show List.Nodup (["top","bottom"]:List Str) by decide +kernel)) (zJ (pgl (i:=1) (show List.Nodup (["top","bottom"]:List Str) by decide +kernel)) xL))));(exact xI);(exact(pv 0)))) zd)) (za (pv 4) zd))))))))),?_⟩
 try dsimp only[xc,Cx.nox]
 refine⟨_,rL,c,pb,sb,tk,ws,trs,some lo,some hi,rL,a9,wl,wh,?_⟩
 dsimp only[zD]
 have bT:Bd 3000 (2*(hi.1-lo.1)):=(zhk wl wh (λl r e1 e2=>by cases e1;cases e2;exact c1) _ rfl).2
 have hT:lv (VO (some lo) (some hi))=V.int (2*(hi.1-lo.1)):=rfl
 rw[hT]
 generalize 2*(hi.1-lo.1)=T at *
 have bM:∀{n:Nat}{i:Int},Bd n i->n<=1000000->Bd 1000000 i:=λh l=>h.mono l
 rcases q:Z with⟨l1,l8,pos,bk,bg,qn,b7,c2,zt⟩
 have yl:=hP.1
 have ql:(ptL T tk U).length=U.length:=wc ..
 refine zG (λO G=>∃Y us,O=[Sr c,Sr Am,Si T,Sr Y,none,none,none]/\zk H G/\G Y=some (.lst us)/\ZK G us (ptL T tk U)) ?_ ?_
 rotate_left
 ·intro nx W
  refine⟨_,rL,Am,rL,⟨_,SqL.of hA⟩,λY b9=>?_⟩
  refine xE (js:=[0,2]) (J:=Itl K Am) (g:=zaE K 2 (v5 (zD 0) (v5 (zD 1) zbr))) (te:=_) (n:=2) (xs:=ys) (λi v G=>∃q r,(ptL T tk U)[i]?=some q/\v=.ref r/\zr G r q) (λi v G G' e ⟨q,r,q0,q1,q2⟩=>⟨q,r,q0,q1,e _ _ q2⟩) b9 (xq hA) (qo ∅) ?_ ?_
  ·intro i y zs G Q' hy hz S hQ
   rcases q:hP.2 i y hy with⟨⟨k,g⟩,e,hu,rfl,he⟩
   have mu:=wL hu
   obtain⟨k0,g0⟩:=pos _ mu
   have a2:=bk _ mu
   have a4:=bg _ mu
   dsimp only at k0 g0 a2 a4 he
   obtain⟨w1,w2,rfl⟩:=zer hz
   refine⟨e,_,rL,.of (S _ _ he),rL,_,_,rL,_,_,rL,rL,⟨rL,?_⟩⟩
   refine⟨_,rfl,_,rfl,_,rfl,_,rfl,_,_,rfl,rfl,⟨bM a4 (by decide),bM a2 (by decide)⟩,zL2,λtq b6=>?_⟩
   have s1:=zk.upd (o:=.tup [.int T,.int (g*k)]) b6
   refine⟨c,tq,dx,fs,tp,tk,T,g*k,rfl,s1 _ _ (S _ _ hc),et,s1 _ _ (S _ _ b2),zg,yu (wQ g0 k0),bT.md,(a4.mul a2).md,zt,λr H' s2 hr=>hQ _ _ (s1.trans s2) ⟨_,r,by unfold ptL;rw[wu,hu];rfl,rfl,hr⟩⟩
  intro us G S I a8 hR
  exact W _ _ ⟨Y,us,rfl,S,I,by rw[ql];lia,hR⟩
 rintro σ0 G b8;rcases q:b8 with⟨Y,us,rfl,S,I,a8,a7⟩
 generalize hqs:ptL T tk U=qs at *
 refine zG (λO G'=>G=G'/\O=[Sr c,Sr Am,Si T,Sr Y,Si 0,none,none]) ?_ ?_
 rotate_left
 ·intro nx W
  exact W _ _ ⟨rL,rL⟩
 rintro σ1 G1 ⟨rfl,rfl⟩
 refine zG (λO G'=>G=G'/\∃y5 y6,O=[Sr c,Sr Am,Si T,Sr Y,some (.int (qO qs)),y5,y6]) ?_ ?_
 rotate_left
 ·intro nx W
  refine⟨_,rL,Y,rL,⟨_,SqL.of I⟩,?_⟩
  refine vm (K:=K) (xs:=us) (λi O G'=>G=G'/\∃y5 y6,O=[Sr c,Sr Am,Si T,Sr Y,some (.int (qO (qs.take i))),y5,y6]) ⟨rfl,none,none,rfl⟩ (λi O G' _ h=>by rw[<-h.1];exact SqL.of I) ?_ ?_
  ·rintro i x O G' hx ⟨rfl,y5,y6,rfl⟩
   rcases q:a7 i x hx with⟨q,r0,hq,rfl,a3⟩
   have dq:0<(q.den:Int):=den_pos q
   refine⟨r0,_,rL,.of a3,rL,_,_,rL,_,_,rL,rL,?_⟩
   dsimp only[zD]
   refine⟨_,rfl,_,rfl,(q.den:Int),qO (qs.take i),rfl,by lia,zcd _,?_⟩
   have eg:qO (qs.take (i+1))=((Int.gcd (q.den:Int) (qO (qs.take i)):Nat):Int):=by
    rw[yA,hq];exact QA ..
   dsimp only[zD]
   rw[<-eg]
   exact⟨rL,_,_,rL⟩
  ·rintro O G' ⟨rfl,y5,y6,rfl⟩
   exact W _ _ ⟨rfl,y5,y6,by rw[a8,yq]⟩
 rintro O G' ⟨rfl,y5,y6,rfl⟩
 refine⟨_,rL,Y,rL,⟨_,SqL.of I⟩,λDe b1=>?_⟩
 refine Zf (J:=Itl K Y) (g:=zaE K 2 (v5 (zD 0) (v5 (zD 1) zbr))) (te:=_) (n:=2) (xs:=us) (λi v G=>∃n,(qs.map Rat.num)[i]?=some n/\v=.int n) (λ_ _ _ _ _ h=>h) b1 (xq I) (qo ∅) ?_ ?_
 ·intro i y zs G2 Q' hy hz S2 hQ
  rcases q:a7 i y hy with⟨q,r0,hq,rfl,a3⟩
  obtain⟨w1,w2,rfl⟩:=zer hz
  exact⟨r0,_,rfl,.of (S2 _ _ a3),rfl,_,_,rfl,_,_,rfl,rfl,_,rfl,hQ _ _ (zk.refl _) ⟨_,by rw[wu,hq];rfl,rfl⟩⟩
 intro b4 G2 S2 a1 c3 c0
 have e2:b4=(qs.map Rat.num).map V.int:=Qd (by rw[wc];lia) λi v e=>c0 i v e
 rw[e2]at a1
 refine⟨De,qs.map Rat.num,rfl,a1,?_,by rw[wc];lia,_,rfl,?_⟩
 ·intro x m
  obtain⟨q,mq,rfl⟩:=wf.mp m
  exact⟨qn q mq,b7 q mq⟩
 obtain⟨g0,q,mq,gl⟩:=Qa (qs:=qs) ∅
 refine⟨xT (qs.map Rat.num),qO qs,rfl,by lia,(Bd.of_le (j:=(q.den:Int)) ∅ (c2 q mq)).md,λr H' s3 hr=>kk r H' (S.trans (S2.trans s3)) hr⟩
inductive zg8  (vs:List V) (H:Hp) (Q:VK) (_e3:XK):Prop
 |mk:∀r a bs b0 l1 l2,(vs=[.ref r,.ref a])->(Pl H r a bs b0 (some l1) (some l2))->(plB b0 bs (some l1) (some l2)=true)->(∀H',zk H H'->Q .non H')->zg8 vs H Q _e3
theorem zi8:zB ["row","walls"] ["row","walls"] (zj vx):=scq
theorem ziG (D:Df K mg "refuse_no_box" vx ["row","walls"] []) (G:Cal P w K mg base "refuse_uneven" 7 ["row","walls"] [] zjo):Cal P w K mg base "refuse_no_box" 8 ["row","walls"] [] zg8:=by
 refine D.calq (k:=7) zi8 (λf cdv A outer s H vs Q E I h=>?_)
 rcases q:h with⟨r,a,bs,U,W,V,rfl,pl,S,k⟩
 refine⟨_,(ze (qm (zC G I (za (pv 0) (za (pv 1) zd)))) (zo (xv ((Ql (zH qP (pxt (pv 1)) xB (zF _)) (Xz (zH qP (pxt (pv 1)) xB (zF _))))).pt Zj zU))),?_⟩
 try dsimp only[xc,Cx.nox]
 refine⟨_,rL,_,rL,r,a,bs,U,_,_,rL,pl,S,λH1 e1=>?_⟩
 nofun
 rcases q:pl.walls with⟨Y,v2,O,h1,h2⟩
 have F:=e1 _ _ O
 rcases q:h1 with⟨a1,_,_,rfl,_⟩
 rcases q:h2 with⟨a2,_,_,rfl,_⟩
 refine⟨_,rL,a,_,_,_,rL,rL,.of F,at0 ..,rL,_,rL,xz ⟨_,rL,a,_,_,_,rL,rL,.of F,at1 ..,rL,_,rL,xz (k H1 e1)⟩⟩
structure GmZ (T:Int) (ps:List Int) (M:Nat):Prop where
 m1:1<=M
 m2:M<=ps.length
 m3:qc ps T M=true
 m4:∀m:Nat,1<=m->m<=ps.length->qc ps T m=true->m<=M
theorem GmZ.uniq {T:Int}{ps:List Int}{M F:Nat}(h:GmZ T ps M) (h':GmZ T ps F):M=F:=Y0 (h'.m4 _ h.m1 h.m2 h.m3) (h.m4 _ h'.m1 h'.m2 h'.m3)
structure KgZ (T:Int) (pss:List (Int×List Int)) (kgs:List (Int×Int)):Prop where
 pm:(kgs.map Prod.fst).Perm (pss.map Prod.fst)
 so:(kgs.map Prod.fst).Pairwise (·<=·)
 gm:∀u∈kgs,∃ps M,(u.1,ps)∈pss/\u.2=((M:Nat):Int)/\GmZ T ps M
structure RoG (bs:List Bl) (lo hi:Rat×Rat) (T s:Int) (tk:Rat) (pss:List (Int×List Int)):Prop where
 esb:s=sbO bs (some lo) (some hi)
 etk:tk=Rat.divInt (sbO bs (some lo) (some hi)) (pbO bs (some lo) (some hi))
 eT:T=2*((trB (pbO bs (some lo) (some hi)) (sbO bs (some lo) (some hi)) hi).1-(trB (pbO bs (some lo) (some hi)) (sbO bs (some lo) (some hi)) lo).1)
 eph:phO (trB (pbO bs (some lo) (some hi)) (sbO bs (some lo) (some hi)) lo).1 T (bs.map λb=>trB (pbO bs (some lo) (some hi)) (sbO bs (some lo) (some hi)) (b.pl,b.sp))=pss
 l8:pss.length<=8
 zps:∀e∈pss,Phs e.2 T
 l1p:∀e∈pss,1<=e.2.length
 k0:∀e∈pss,0<e.1
 bk:∀e∈pss,Bd 3000 e.1
 pt:∀e∈pss,∀g:Nat,1<=g->g<=e.2.length->0<(vO T e.1 g tk).num/\Bd 400 (vO T e.1 g tk).num/\Bd 400 ((vO T e.1 g tk).den:Int)
def PcA (G:Hp) (us:List V) (s:Int) (kgs:List (Int×Int)):Prop:=us.length=kgs.length/\∀(i:Nat) (v:V),us[i]?=some v->∃u x y,kgs[i]?=some u/\v=.ref x/\G x=some (.tup [.ref y,.int u.2])/\zr G y (Rat.divInt u.1 s)
theorem PcA.same {G I:Hp}{us:List V}{s:Int}{F:List (Int×Int)} (h:PcA G us s F) (e:zk G I):PcA I us s F:=⟨h.1,λi v q=>let ⟨u,x,y,q1,q2,q3,q4⟩:=h.2 i v q;⟨u,x,y,q1,q2,e _ _ q3,e _ _ q4⟩⟩
inductive za3  (vs:List V) (H:Hp) (Q:VK) (_e3:XK):Prop
 |mk:∀r a bs b0 lo hi T s tk pss,(vs=[.ref r,.ref a])->(Ln H r a bs (some lo) (some hi))->(LnZ bs (some lo) (some hi))->(bs[0]?=some b0)->(plB (tb b0) (bs.map tb) (some lo) (some hi)=true)->(RoG bs lo hi T s tk pss)->((pss=[]->∀H',zk H H'->Q .non H'))->((pss≠[]->∀z H' kgs q l us,zk H H'->KgZ T pss kgs->H' z=some (.tup [.ref q,.ref l])->zr H' q (xi (ptL T tk kgs))->H l=none->H' l=some (.lst us)->PcA H' us s kgs->Q (.ref z) H'))->za3 vs H Q _e3
theorem zah:zB ["row","walls","course","phases","manies"] ["row","walls"] (zj XO):=scq
theorem zga {es:List Ent}(G:(es.map (·.1)).Nodup){e:Ent}(m:e∈es):(es.find? λx=>decide (x.1=e.1))=some e:=by
 cases hf:es.find? λx=>decide (x.1=e.1)with
 |none=>exact absurd (wm rfl) (WR.mp hf e m)
 |some x =>
  have F:=yX hf
  have kx:x.1=e.1:=wA (YZ (p:=λy:Ent=>decide (y.1=e.1)) hf)
  by_cases c:x=e
  ·rw[c]
  ·exact absurd kx (PhA.put.nodup_ne (f:=λy:Ent=>y.1) G F m c)
theorem zgL {H:Hp}{us:List V}{ms:List Int}{F:Int->Nat->Prop}(I:us.length=ms.length) (h:∀(i:Nat) (v:V),us[i]?=some v->∃(k:Int) (x:Addr) (M:Nat),ms[i]?=some k/\v=.ref x/\H x=some (.tup [.int k,.int M])/\F k M) :
  ∃G:List (Int×Int),G.map Prod.fst=ms/\ZJ H us G/\∀u∈G,∃M:Nat,u.2=(M:Int)/\F u.1 M:=by
 induction us generalizing ms with
 |nil =>
  cases ms with
  |nil=>exact⟨[],rfl,⟨rfl,λi v e=>by simp at e⟩,λu m=>by cases m⟩
  |cons=>simp at I
 |cons v us ih =>
  cases ms with
  |nil=>simp at I
  |cons k ms =>
   obtain⟨G,e1,e2,O⟩:=ih (ms:=ms) ↥I (λi v e=>by have:=h (i+1) v ↥e;simpa using this)
   obtain⟨Y,x,M,S,rfl,U,W⟩:=h 0 v rfl
   cases S
   refine⟨(k,(M:Int))::G,by rw[yg,e1],⟨by simp[e2.1],λi w e=>?_⟩,λu m=>?_⟩
   ·match i,e with
    |0,e=>cases e;exact⟨_,x,rfl,rfl,U⟩
    |i+1,e=>exact e2.2 i w ↥e
   ·rcases ww.mp m with rfl | m
    ·exact⟨M,rL,W⟩
    ·exact O u m
theorem ziK {fi:Addr}{c4:FuncData}(D:Df K mg "round_of" XO ["row","walls"] []) (T:TxB K mg) (T3:Tx3 K mg aN) (TC:TCo K C) (M:Mk K C fi) (Fi:ZH P w K mg base CX0 4 fi c4 ["self","row","walls"] (zg6 C)) (e6:mg "Course" = some (.ref C)) (Bi:Ze K c4 ["self","row","walls"] [])
  (g0:Cal P w K mg base "refuse_no_box" 8 ["row","walls"] [] zg8) (d3:Cal P w K mg base "phases_of" 2 ["course"] [] (zjk C)) (d4:Cal P w K mg base "greatest_many" 2 ["phases","trip"] [] zjg) (d1:Cal P w K mg base "trip_of" 1 ["course"] [] (QT C)) (g4:Cal P w K mg base "least_round" 4 ["course","manies"] [] (zfp C)) (cR:Cal P w K mg base "ratio" 2 ["top","bottom"] [] vt) :
  Cal P w K mg base "round_of" 9 ["row","walls"] [] za3:=by
 refine D.calq (k:=8) zah (λf cdv A outer s H vs Q E Y h=>?_)
 rcases q:h with⟨r,a,bs,b0,lo,hi,Tt,ss,tk,pss,rfl,ln,lz,h0,hp,Z0,kN,k⟩
 have d5:xb 5 _:=Y.md
 have f9:xb 4 _:=Y.md
 have b2:xb 2 _:=Y.md
 have g2:xb 1 _:=Y.md
 have hu:=WK (Nat.add_le_add_left (show 1<=64 by decide) _) Y.units
 obtain⟨g9,b6,pl⟩:=ln.pl
 rw[h0]at b6;cases b6
 refine⟨_,(ze (qm (zC g0 Y (za (pv 0) (za (pv 1) zd))))
  (ze (ZS (i:=2) zah.nd rfl (Or.inr rfl) (zcv M Fi d5 (by rfl) e6 Bi .nil zeP (za (pv 0) (za (pv 1) zd))))
  (ze (ZS (i:=3) zah.nd rfl (Or.inr rfl) (zC d3 b2 (za (pv 2) zd)))
  (ze (xv (zH ZP (zQ zcT (by rfl) T.nLen PySem.boot_len (za (pv 3) zd)) zi (zF _)) (zo (zE xB)) zU)
  (ze (Qk (i:=4) (NB:=["pace"]) (FR:=["phases","course"]) (js:=[3,2]) rfl rfl (λx c h=>Qx rfl rfl x c h) (.cons rfl rfl rfl ⟨_,rfl⟩ (.cons rfl rfl rfl ⟨_,rfl⟩ .nil)) rfl (by decide +kernel) rfl (by decide +kernel) zah.nd rfl rfl (by rfl) (xk (zQ (zbh rfl) (by rfl) T3.nSorted WF (za (pv 3) zd))) (by intro _ _ _;refine⟨?_,?_,?_⟩;(exact(pgl (i:=0) (show List.Nodup (["pace","phases","course"]:List Str) by decide +kernel)));(exact xI);(exact(zS (za (pv 0) (za (zC d4 b2 (za (zgI hu (pv 1) (pv 0) (λ_ _=>rfl)) (za (zC d1 g2 (za (pv 2) zd)) zd))) zd))))))
  (zo (zE (zS (za (zC g4 f9 (za (pv 2) (za (pv 4) zd))) (za (qz (NB:=["pace","many"]) (FR:=["course"]) (js:=[2]) rfl rfl (λx c h=>Xr rfl x c h) (.cons rfl rfl rfl ⟨_,rfl⟩ .nil) rfl (by decide +kernel) rfl (by decide +kernel) (xk (pv 4)) (by intro _ _ _;refine⟨?_,?_,?_⟩;(exact(Xd (K:=K) (n:=2) rfl rfl (zJ (pgl (i:=0) (show List.Nodup (["pace","many","course"]:List Str) by decide +kernel)) (zJ (pgl (i:=1) (show List.Nodup (["pace","many","course"]:List Str) by decide +kernel)) xL))));(exact xI);(exact(zS (za (zC cR b2 (za (pv 0) (za (zgJ (K:=K) rfl (pv 2) rfl) zd))) (za (pv 1) zd)))))) zd)))))))))),?_⟩
 try dsimp only[xc,Cx.nox]
 refine⟨_,rL,_,rL,r,a,_,_,lo,hi,rL,pl,hp,λH1 e1=>?_⟩
 nofun
 have ln1:=ln.same e1
 obtain⟨us,d9,hB⟩:=ln1.row
 rcases q:ln1.walls with⟨v1,v2,ha,h1,h2⟩
 refine⟨_,rL,_,rL,λc dx hc d6 ne=>?_⟩
 have S0:zk H1 (upd (upd H1 dx (.own c)) c (.ins C dx [])):=(zk.upd d6).trans (zk.upd (by rw[zT ne.symm];exact hc))
 refine⟨c,dx,r,a,us,bs,v1,v2,some lo,some hi,rL,zg,S0 _ _ d9,hB.keeps (.of S0),S0 _ _ ha,h1.wl.keeps (.of S0),h2.wl.keeps (.of S0),ln.l8,λt mt=>⟨(lz.sz t mt).1.sz,(lz.sz t mt).2.sz⟩,λH2 X1 f0=>⟨rL,?_⟩⟩
 have e7:=f0.co
 have S2:zk H H2:=e1.trans λb o e=>X1 b o (zZ e hc) (S0 b o e)
 dsimp only[zD]
 have Z:=lz.bd ln.l8
 rcases q:Z0 with⟨c6,c2,eT,e0,g7,c1,e4,k0,bk,pt⟩
 have a6:=e7
 rw[<-c2]at a6
 generalize hpb:pbO bs (some lo) (some hi)=pb at *
 generalize hsb:sbO bs (some lo) (some hi)=sb at *
 have f8:(trB pb sb lo).1<(trB pb sb hi).1:=Z.lh _ _ rfl rfl
 have wl:Wb (some (trB pb sb lo)):=Z.bl
 have wh:Wb (some (trB pb sb hi)):=Z.bh
 have a5:Xk H2 C c pb sb tk (bs.map Bl.wt) (bs.map λb=>trB pb sb (b.pl,b.sp)) (some (trB pb sb lo)) (some (trB pb sb hi)):=a6
 refine⟨_,rfl,c,pb,sb,_,_,_,_,_,rfl,a5,wl,wh,by rw[wc];exact ln.l8,λad es H3 S3 ph W=>?_⟩
 dsimp only[zD]
 rw[<-eT,e0]at W
 have hd:=ph.d
 have b8:es.length=pss.length:=by rw[<-W];unfold Xo;rw[wc]
 have b9:es.map (·.1)=pss.map Prod.fst:=by rw[<-W];unfold Xo;rw[wD];rfl
 have e5:∀e∈es,(e.1,e.2.2)∈pss:=λe m=>by rw[<-W];exact wf.mpr ⟨e,m,rfl⟩
 have b1:zk H H3:=S2.trans S3
 refine⟨_,rL,ad,_,rL,hd,rL,_,rL,vu (λzc=>?_) (λzc=>?_)⟩
 ·have z0:((Xl es).length:Int)=0:=V.int.inj (wA zc)
  rw[zbp,b8]at z0
  exact kN (uf.mp ∅) H3 b1
 refine zcI ?_
 have b5:pss≠[]:=λe=>zc (wm (by rw[zbp,b8,e];rfl))
 nofun
 have a8:=a5.same S3
 refine zG (λσ' G=>∃(Dm:Addr) (us:List V) (I:List (Int×Int)),σ'=[Sr r,Sr a,Sr c,Sr ad,Sr Dm]/\zk H3 G/\G Dm=some (.lst us)/\ZJ G us I/\KgZ Tt pss I) ?_ ?_
 rotate_left
 ·intro nx f6
  refine⟨_,rfl,ad,_,pss.map Prod.fst,rfl,hd,by rw[<-b9];unfold Xl;rw[wD,wD];rfl,by rw[wc];lia,λDs ms d8 pm sm=>?_⟩
  have S4:=zk.upd (o:=.lst (ms.map V.int)) d8
  have a2:upd H3 Ds (.lst (ms.map V.int)) Ds=some (.lst (ms.map V.int)):=zg
  generalize upd H3 Ds (.lst (ms.map V.int))=H4 at S4 a2
  have h3:ms.length=pss.length:=by rw[pm.length_eq,wc]
  refine⟨Ds,rL,⟨_,SqL.of a2⟩,λDm a4=>?_⟩
  refine xE (js:=[3,2]) (J:=Itl K Ds) (g:=zD 0) (te:=_) (n:=1) (xs:=ms.map V.int) (λi v G=>∃(kp:Int) (x:Addr) (M:Nat),ms[i]?=some kp/\v=.ref x/\G x=some (.tup [.int kp,.int M])/\∃ps,(kp,ps)∈pss/\GmZ Tt ps M) (λi v G G' e ⟨kp,x,M,q0,q1,q2,q3⟩=>⟨kp,x,M,q0,q1,e _ _ q2,q3⟩) a4 (xq a2) (qo (by rw[wc];lia)) ?_ ?_
  ·intro i y zs G Q' hy hz S hQ
   rw[wu]at hy
   cases hm:ms[i]? with
   |none=>rw[hm]at hy;cases hy
   |some kp =>
   rw[hm]at hy;cases hy
   obtain⟨w1,rfl⟩:=Xm hz
   have mk:kp∈es.map (·.1):=by rw[b9];exact pm.subset (wL hm)
   rcases q:wf.mp mk with⟨⟨a3,l,ps⟩,me,rfl⟩
   have mp:=e5 _ me
   have c5:=ph.l _ me
   dsimp only at mp c5 hm
   have SG:=S4.trans S
   have vk:ZI (Xl es) (Sum.inl a3)=some (.ref l):=by rw[VQ,zga ph.k me];rfl
   have gd:zbc G ad (.int a3) (some (.ref l)):=by have:=zbc.k (k:=Sum.inl a3) (SG _ _ hd);rw[vk]at this;exact this
   refine⟨rL,_,rL,_,rL,_,rL,ad,.ref l,rL,gd,_,rL,c,pb,sb,tk,_,_,some (trB pb sb lo),some (trB pb sb hi),rL,a8.same SG,wl,wh,?_⟩
   have g1:lv (VO (some (trB pb sb lo)) (some (trB pb sb hi)))=V.int Tt:=by rw[eT];rfl
   rw[g1]
   refine⟨l,ps,Tt,rL,SG _ _ c5,c1 _ mp,e4 _ mp,λM G1 S1 m1 m2 m3 m4=>⟨zL2,λe he=>hQ _ _ (S1.trans (zk.upd he)) ⟨a3,e,M,hm,rL,zg,ps,mp,m1,m2,m3,m4⟩⟩⟩
  intro us G S g3 c0 hR
  obtain⟨I,e1,e2,e3⟩:=zgL (H:=G) (us:=us) (ms:=ms) (F:=λkp M=>∃ps,(kp,ps)∈pss/\GmZ Tt ps M) (by rw[wc]at c0;exact c0) hR
  exact f6 _ _ ⟨Dm,us,I,rfl,S4.trans S,g3,e2,by rw[e1];exact pm,by rw[e1];exact sm,λu m=>let ⟨M,q1,ps,q2,q3⟩:=e3 u m;⟨ps,M,q2,q1,q3⟩⟩
 rintro σ' G d7;rcases q:d7 with⟨Dm,us,I,rfl,SG,a4,b3,kz⟩
 have a7:=a8.same SG
 have d0:Sz 4400 tk:=by rw[c2];exact Z.tz.md
 have b7:2*((trB pb sb hi).1-(trB pb sb lo).1)=Tt:=eT.symm
 have kl:I.length=pss.length:=by have:=kz.pm.length_eq;rw[wc,wc]at this;exact this
 have g8:1<=pss.length:=by rcases pss with _ | ⟨x,l⟩;exact absurd rfl b5;simp
 have U:∀u∈I,(0<u.1/\0<u.2)/\Bd 3000 u.1/\Bd 400 u.2/\0<(vO Tt u.1 u.2 tk).num/\Bd 400 (vO Tt u.1 u.2 tk).num/\Bd 400 ((vO Tt u.1 u.2 tk).den:Int):=λu m=>by
  rcases q:kz.gm u m with⟨ps,M,q1,q2,q3⟩
  have l8:=(c1 _ q1).l8
  have m1:=q3.m1
  have m2:=q3.m2
  dsimp only at l8
  rw[q2]
  exact⟨⟨k0 _ q1,by lia⟩,bk _ q1,Bd.mono (m:=10) (show (M:Int).natAbs<2^10 by lia) (by decide),pt _ q1 M m1 m2⟩
 have O:∀q∈ptL Tt tk I,0<q.num/\Bd 400 q.num/\Bd 400 (q.den:Int):=λq m=>by
  obtain⟨u,mu,rfl⟩:=wf.mp m
  exact(U u mu).2.2.2
 have c8:LrZ Tt tk I:=⟨by lia,by lia,λu m=>(U u m).1,λu m=>(U u m).2.1,λu m=>(U u m).2.2.1,λq m=>(O q m).1,λq m=>(O q m).2.1,λq m=>(O q m).2.2,d0⟩
 refine⟨_,rfl,_,rfl,c,Dm,us,I,pb,sb,tk,_,_,trB pb sb lo,trB pb sb hi,rfl,a7,wl,wh,f8,a4,b3,by rw[b7];exact c8,λq G1 S1 hq=>?_⟩
 rw[b7]at hq
 have a9:=S1 _ _ a4
 have h4:=b3.1
 refine⟨_,rL,Dm,rL,⟨_,SqL.of a9⟩,λDn b4=>?_⟩
 obtain⟨g5,e8,c7,F4⟩:=a7.same S1
 refine xE (js:=[2]) (J:=Itl K Dm) (g:=zaE K 2 (v5 (zD 0) (v5 (zD 1) zbr))) (te:=_) (n:=2) (xs:=us) (λi v G=>∃u x y,I[i]?=some u/\v=.ref x/\G x=some (.tup [.ref y,.int u.2])/\zr G y (Rat.divInt u.1 sb)) (λi v G G' e ⟨u,x,y,q0,q1,q2,q3⟩=>⟨u,x,y,q0,q1,e _ _ q2,e _ _ q3⟩) b4 (xq a9) (qo ∅) ?_ ?_
 ·intro i y zs G2 Q' hy hz a1 hQ
  rcases q:b3.2 i y hy with⟨u,e,e9,rfl,he⟩
  obtain⟨w1,w2,rfl⟩:=zer hz
  refine⟨e,_,rL,.of (a1 _ _ (S1 _ _ he)),rL,_,_,rL,_,_,rL,rL,⟨rL,?_⟩⟩
  refine⟨_,rL,_,rL,c,C,g5,e8,_,rL,a1 _ _ c7,TC.cls,TC.sb,F4.sb,u.1,sb,rL,yu Z.sb.1,Z.sb.2.md,λy G3 f5 d2=>?_⟩
  exact⟨_,rL,zL2,λx hx=>hQ _ _ (f5.trans (zk.upd hx)) ⟨u,x,y,e9,rL,zg,zk.upd hx _ _ d2⟩⟩
 intro c9 G2 a1 c3 g6 f7
 refine⟨zL2,λz hz=>?_⟩
 have SZ:=zk.upd (o:=.tup [.ref q,.ref Dn]) hz
 have fr:H Dn=none:=by
  cases e:H Dn with
  |none=>rfl
  |some o=>rw[S1 _ _ (SG _ _ (b1 _ _ e))]at b4;cases b4
 exact k b5 z _ I q Dn c9 (b1.trans (SG.trans (S1.trans (a1.trans SZ)))) kz zg (SZ _ _ (a1 _ _ hq)) fr (SZ _ _ c3) (PcA.same ⟨by lia,λi v e=>by rw[c6];exact f7 i v e⟩ SZ)
end
theorem zfC {t u:TS}{D:ZF}{σ:St}{G:Hp}(h:∀nx:St->Hp->Prop,(∀F I,u D F I->nx F I)->t { D with nx:=nx } σ G):zbU t u D σ G:=h _ λ_ _ q=>q
def Xu (l0 z:Int) (t:Int×Int):List (Int×Int):=if t.2=0 then []else [(t.2,z-t.1),(t.2,2*l0-z-t.1)]
def zP (l0 z:Int):List (Int×Int)->List (Int×Int)
 |[]=>[]
 |t::r=>Xu l0 z t++zP l0 z r
theorem Jg (l0 z:Int):∀a b:List (Int×Int),zP l0 z (a++b)=zP l0 z a++zP l0 z b
 |[],b=>rfl
 |t::a,b=>by show Xu l0 z t++zP l0 z (a++b)=_;rw[Jg l0 z a b,<-ym];rfl
theorem zbs {l0 z:Int}{trs:List (Int×Int)}{i:Nat}{t:Int×Int}(h:trs[i]?=some t):zP l0 z (trs.take (i+1))=zP l0 z (trs.take i)++Xu l0 z t:=by
 rw[yA,h,Jg]
 show _++(Xu l0 z t++[])=_
 rw[yP]
theorem Xa (l0 z:Int):∀a:List (Int×Int),(zP l0 z a).length<=2*a.length
 |[]=>wo _
 |t::a=>by
  have:=Xa l0 z a
  have h2:(Xu l0 z t).length<=2:=by unfold Xu;split <;> simp
  show (Xu l0 z t++zP l0 z a).length<=_
  rw[wV,wx];lia
theorem vG {H G:Hp}{L:Addr}{o:HO}(S:zk H G) (F:H L=none):zk H (upd G L o):=λb u e=>by rw[zT (zZ e F)];exact S b u e
theorem ZJ.add {H H':Hp}{us:List V}{ps:List (Int×Int)}{u:Int×Int}{a:Addr}(h:ZJ H us ps) (e:xx H H') (I:H' a=some (.tup [.int u.1,.int u.2])):ZJ H' (us++[.ref a]) (ps++[u]):=by
 have h':=h.tups e
 refine⟨by simp[h'.1],λi v F=>?_⟩
 by_cases c:i<us.length
 ·rw[w8 c]at F
  obtain⟨w,b,e1,e2,G⟩:=h'.2 i v F
  exact⟨w,b,by rw[w8 (by rw[<-h'.1];exact c)];exact e1,e2,G⟩
 ·rw[wT ∅]at F
  have:i=us.length:=by
   have:=(wS.mp F).1
   simp at this;lia
  subst this
  rw[Wj]at F
  cases F
  exact⟨u,a,by rw[wT (by rw[h'.1];exact wo _),h'.1,Wj];rfl,rfl,I⟩
section
variable {P:Program}{w:World}{K:Fg}{mg:Str->Option Value}{base:Heap}{C CE:Addr}{aN tM:Nat}
inductive zfn (C:Addr) (vs:List V) (H:Hp) (Q:VK) (_e3:XK):Prop
 |mk:∀c z pb sb tk ws trs l0 hi,(vs=[.ref c,.int z])->(Xk H C c pb sb tk ws trs (some l0) hi)->(trs.length<=8)->(Bd 2000 l0.1)->(∀L us H',zk H H'->H L=none->H' L=some (.lst us)->ZJ H' us (zP l0.1 z trs)->Q (.ref L) H')->zfn C vs H Q _e3
theorem zad:zB ["course","spot","gaps","start","speed"] ["course","spot"] (zj QF):=scq
theorem zio (D:Df K mg "gaps_to" QF ["course","spot"] []) (TC:TCo K C):Cal P w K mg base "gaps_to" 1 ["course","spot"] [] (zfn C):=by
 rcases r:D.calq (k:=0) zad with⟨c,z,pb,sb,tk,ws,trs,l0,hi,rfl,b3,b7,bl,k⟩
 obtain⟨dx,fs,hc,F⟩:=id b3
 rcases q:F.low with⟨vl,el,al,rfl,a7⟩
 rcases q:F.tracks with⟨tl,tv,et,a5,hT⟩
 refine⟨_,(ze (psl (i:=2) zad.nd (xR zd))
  (ze (vd PassesOwn.never rfl (xk (xG (pv 0) rfl)) (qH rfl (zJ (pgl (i:=3) zad.nd) (zJ (pgl (i:=4) zad.nd) xL))) (zo (xv (zH zkp (pv 4) zi (zF _)) (ze (qm (ZQ yB yM yN qB (pv 2) (za (zS (za (pv 4) (za (zu qh (pv 1) (pv 3)) zd))) zd)))
  (zo (qm (ZQ yB yM yN qB (pv 2) (za (zS (za (pv 4) (za (zu qh (zu qh (zu zK zi (pxt (xG (pv 0) rfl))) (pv 1)) (pv 3)) zd))) zd))))) zU)))
  (zo (zE (pv 2))))),?_⟩
 try dsimp only[xc,Cx.nox]
 refine⟨by show 0<=sizeLine;lia,λL hL=>?_⟩
 nofun
 have a9:=hT.1
 have S0:zk H (upd H L (.lst [])):=zk.upd hL
 have L0:upd H L (.lst []) L=some (.lst []):=zg
 generalize upd H L (.lst [])=H0 at S0 L0
 refine zG (λσ' G=>∃us x1 x2,σ'=[Sr c,Si z,Sr L,x1,x2]/\zk H G/\G L=some (.lst us)/\ZJ G us (zP l0.1 z trs)) ?_ ?_
 rotate_left
 ·intro nx b1
  refine⟨_,rL,c,C,dx,fs,_,rL,S0 _ _ hc,TC.cls,TC.tracks,et,tl,rL,⟨_,SqL.of (S0 _ _ a5)⟩,?_⟩
  refine vm (xs:=tv) (λi σ' G=>∃us x1 x2,σ'=[Sr c,Si z,Sr L,x1,x2]/\zk H G/\G L=some (.lst us)/\ZJ G us (zP l0.1 z (trs.take i)))
   ⟨[],none,none,rfl,S0,L0,⟨rfl,λi v e=>by cases e⟩⟩ (λi σ' G _ ⟨_,_,_,_,S,_⟩=>SqL.of (S _ _ a5)) ?_ ?_
  ·rintro i y σ' G hy U;rcases q:U with⟨us,x1,x2,rfl,S,hG,Y⟩
   rcases q:hT.2 i y hy with⟨I,b0,p,rfl,hp⟩
   have eg:=zbs (l0:=l0.1) (z:=z) b0
   have ul:us.length<=16:=by
    rw[Y.1]
    have:=Xa l0.1 z (trs.take i)
    rw[yn]at this
    lia
   have b6:=S _ _ a7
   refine⟨p,_,rL,.of (S _ _ hp),rL,_,_,rL,_,_,rL,rL,?_⟩
   dsimp only[zD]
   unfold Xu at eg
   refine⟨_,rL,rL,_,rL,vu (λq=>?_) (λq=>?_)⟩
   ·have h0:¬I.2=0:=λe=>by rw[wm (show V.int I.2=V.int 0 by rw[e])]at q;cases q
    rw[if_neg h0]at eg
    refine⟨_,rL,.inl ⟨rL,_,SqL.of hG⟩,_,rL,_,rL,_,rL,_,_,rL,rL,zL2,λO a1=>?_⟩
    have S1:zk G (upd G O (.tup [.int I.2,.int (z-I.1)])):=zk.upd a1
    have a4:=S1 _ _ hG
    have b5:=Y.tups (.of S1)
    refine⟨L,us,_,rL,rL,a4,szl ∅,?_⟩
    have nt:O≠L:=λe=>by rw[e,hG]at a1;cases a1
    have a8:ZJ (upd (upd G O (.tup [.int I.2,.int (z-I.1)])) L (.lst (us++[.ref O]))) (us++[.ref O]) (zP l0.1 z (trs.take i)++[(I.2,z-I.1)]) :=
     b5.add (xx.upd a4) (by rw[zT nt];exact zg)
    have S2:zk H (upd (upd G O (.tup [.int I.2,.int (z-I.1)])) L (.lst (us++[.ref O]))):=vG (S.trans S1) hL
    have W:upd (upd G O (.tup [.int I.2,.int (z-I.1)])) L (.lst (us++[.ref O])) L=some (.lst (us++[.ref O])):=zg
    generalize upd (upd G O (.tup [.int I.2,.int (z-I.1)])) L (.lst (us++[.ref O]))=G2 at a8 S2 W
    have a6:=S2 _ _ a7
    refine⟨_,rL,.inl ⟨rL,_,SqL.of W⟩,_,rL,_,rL,c,C,dx,fs,_,rL,S2 _ _ hc,TC.cls,TC.low,el,al,_,_,_,rL,rL,.of a6,at0 ..,_,_,rL,rL,⟨b2i,b2k bl⟩,_,rL,_,_,rL,rL,_,rL,_,_,rL,rL,zL2,λt2 a2=>?_⟩
    have S3:zk G2 (upd G2 t2 (.tup [.int I.2,.int (2*l0.1-z-I.1)])):=zk.upd a2
    have a3:=S3 _ _ W
    refine⟨L,_,_,rfl,rfl,a3,szl (by rw[wV,yR];lia),⟨_,_,_,rfl,vG (S2.trans S3) hL,zg,?_⟩⟩
    have b2:t2≠L:=λe=>by rw[e,W]at a2;cases a2
    rw[eg,show zP l0.1 z (trs.take i)++[(I.2,z-I.1),(I.2,2*l0.1-z-I.1)]=(zP l0.1 z (trs.take i)++[(I.2,z-I.1)])++[(I.2,2*l0.1-z-I.1)] by simp]
    exact(a8.tups (.of S3)).add (xx.upd a3) (by rw[zT b2];exact zg)
   ·have h0:I.2=0:=by
     rcases Decidable.em (I.2=0)with e | e
     ·exact e
     ·rw[wy (show ¬V.int I.2=V.int 0 from λz=>e (by injection z))]at q;exact absurd rfl q
    rw[if_pos h0,yP]at eg
    exact⟨us,_,_,rfl,S,hG,by rw[eg];exact Y⟩
  ·rintro σ' G U;rcases q:U with⟨us,x1,x2,rfl,S,hG,Y⟩
   exact b1 _ _ ⟨us,x1,x2,rfl,S,hG,by rw[a9,yq]at Y;exact Y⟩
 rintro σ' G U;rcases q:U with⟨us,x1,x2,rfl,S,b4,Y⟩
 exact⟨_,rL,k L us G S hL b4 Y⟩
end
section
variable {P:Program}{w:World}{K:Fg}{mg:Str->Option Value}{base:Heap}{C CE:Addr}{aN:Addr}{tM:Nat}
def dif (T:Int) (b e:Int×Int) (g:Int×Int):Int:=J4 g.1 g.2 (some T) e.1 e.2-J4 g.1 g.2 (some T) b.1 b.2
structure RtA (H:Hp) (vs:List V) (us:List V) (gs:List (Int×Int)) (T:Int) (b e:Int×Int):Prop where
 ex:∃L p q:Addr,vs=[.ref L,.int T,.ref p,.ref q]/\H L=some (.lst us)/\H p=some (.tup [.int b.1,.int b.2])/\H q=some (.tup [.int e.1,.int e.2])
 ps:ZJ H us gs
 l16:gs.length<=16
 bg:∀g∈gs,Bd 3000 g.1/\Bd 3000 g.2
 T0:0<T/\Bd 3000 T
 bb:Bd 2000 b.1/\Bd 2000 b.2/\0<b.2
 be:Bd 2000 e.1/\Bd 2000 e.2/\0<e.2
inductive zbT (C:Addr) (vs:List V) (H:Hp) (Q:VK) (E:XK):Prop
 |mk:∀us gs T b e,(RtA H vs us gs T b e)->(((∀g∈gs,dif T b e g<=1000)/\Q .non H\/(∃g∈gs,1000<dif T b e g)/\E (.ref C) none H))->zbT C vs H Q E
theorem zbR:zB ["gaps","trip","begin","end","speed","gap"] ["gaps","trip","begin","end"] (zj qT):=scq
theorem zgC (D:Df K mg "refuse_too_many" qT ["gaps","trip","begin","end"] []) (O:zjL "TooMany" CE mg base) (TM:mg "MOST_LOOKED_AT" = some (.int 1000 tM)) (V:Cal P w K mg base "passes" 1 ["speed","gap","trip","ticks"] [] zft):Vm P w K mg base "refuse_too_many" 2 ["gaps","trip","begin","end"] [] (zbT CE):=by
 rcases r:D.cal1 (k:=1) zbR (λvs H Q E h=>by obtain⟨_,_,_,_,_,h,_⟩:=h;obtain⟨_,_,_,rfl,_⟩:=h.ex;rfl) with⟨us,gs,T,b,e,R,K'⟩
 rcases q:R.ex with⟨L,p,q,rfl,hL,hp,hq⟩
 refine⟨_,(zo (vd PassesOwn.leaving rfl (xk (pv 0)) (qH rfl (zJ (pgl (i:=4) zbR.nd) (zJ (pgl (i:=5) zbR.nd) xL))) (zo (xv (zH Xp (zu qh (zC V hr (za (pv 4) (za (pv 5) (za (pv 1) (za (pv 3) zd))))) (zC V hr (za (pv 4) (za (pv 5) (za (pv 1) (za (pv 2) zd)))))) (J5 (v:=.int 1000) (by rfl) TM ⟨_,rfl⟩) (zF _)) (zo (ze0 O Yl (by decide +kernel) Yl hr.hd JF (za Zq zd))) zU)))),?_⟩
 try dsimp only[xc,Cx.nox]
 refine⟨_,rL,L,rL,⟨_,SqL.of hL⟩,?_⟩
 refine vm (xs:=us) (λi Y G=>G=H/\(∃x1 x2,Y=[Sr L,Si T,Sr p,Sr q,x1,x2])/\∀g∈gs.take i,dif T b e g<=1000) ⟨rfl,⟨none,none,rfl⟩,λg m=>by simp at m⟩ (λi Y G _ ⟨e,_⟩=>by rw[e];exact SqL.of hL) ?_ (λY G ⟨e,_,h⟩=>by
  rcases K' with⟨_,k⟩ | ⟨⟨g,m,hg⟩,_⟩
  ·rw[e];exact k
  rw[R.ps.1,yq]at h
  have:=h g m
  omega)
 rintro i y Y G hy a1;rcases q:a1 with⟨rfl,⟨x1,x2,rfl⟩,hi⟩
 rcases q:R.ps.2 i y hy with⟨g,a,eg,rfl,ha⟩
 have S:=wL eg
 obtain⟨U,W⟩:=R.bg g S
 refine⟨a,_,rL,.of ha,rL,_,_,rL,_,_,rL,rL,?_⟩
 dsimp only[zD]
 have bt:∀x,(some T:Option Int)=some x->0<x/\Bd 3000 x:=λx e=>by cases e;exact R.T0
 refine⟨_,rL,_,rL,_,rL,_,rL,g.1,g.2,some T,q,e.1,e.2,rL,hq,U,W,bt,R.be.1,R.be.2.1,R.be.2.2,?_⟩
 refine⟨_,rL,_,rL,_,rL,_,rL,g.1,g.2,some T,p,b.1,b.2,rL,hp,U,W,bt,R.bb.1,R.bb.2.1,R.bb.2.2,_,_,rL,rL,?_⟩
 refine⟨_,_,rL,rL,_,rL,vu (λz=>?_) (λz=>?_)⟩
 ·rcases K' with⟨hd,_⟩ | ⟨_,k⟩
  ·have:=hd g S;have:=wA z;unfold dif at *;omega
  ·exact⟨zL1,k⟩
 ·refine⟨rL,⟨_,_,rL⟩,λI m=>?_⟩
  rw[yA,eg]at m
  rcases wY.mp m with m | m
  ·exact hi I m
  ·have:I=g:=↥m
   subst this
   have:¬(1000:Int)<J4 I.1 I.2 (some T) e.1 e.2-J4 I.1 I.2 (some T) b.1 b.2:=λq=>z (wm q)
   unfold dif;omega
def vW (T F:Int) (g:Int×Int):Int:=T*F.fdiv (zY g.1)
def Xn (F:Int) (g:Int×Int):Int:=g.2*F.fdiv g.1
def zbz (T F b:Int) (g:Int×Int):Int:=b+1+(Xn F g-b-1) % vW T F g
def zgr (T F b:Int) (g:Int×Int) (n:Nat):List Int:=VF (zbz T F b g) (vW T F g) n
inductive zfs  (vs:List V) (H:Hp) (Q:VK) (_e3:XK):Prop
 |mk:∀a T F b e g n,(vs=[.ref a,.int T,.int F,.int b,.int e])->(H a=some (.tup [.int g.1,.int g.2]))->(g.1≠0)->(Bd 3000 g.1)->(Bd 3000 g.2)->(Bd 3000 T)->(Bd 2000 F)->(0<vW T F g)->(Builtin.Range.rangeSize (zbz T F b g) e (vW T F g)=((n:Nat):Int))->(n<=10000)->(∀l H',zk H H'->H l=none->H' l=some (.lst ((zgr T F b g n).map V.int))->Q (.ref l) H')->zfs vs H Q _e3
theorem QQ:zB ["gap","trip","bottom","begin","end","speed","way","offset","step","first"] ["gap","trip","bottom","begin","end"] (zj qQ):=scq
theorem JB {n:Nat}{i:Int}(h:Bd n i):Bd n (zY i):=by unfold zY;split;exact h.neg;exact h
theorem zfY {i:Int}(h:i≠0):zY i≠0:=by unfold zY;split <;> omega
theorem Va {n:Nat}{i j:Int}(h:Bd n i):Bd (n+1) (i.fdiv j):=by
 show (i.fdiv j).natAbs<2^(n+1)
 have h':i.natAbs<2^n:=h
 have p:2^(n+1)=2^n+2^n:=by rw[Nat.pow_succ];lia
 have:=Int.natAbs_fdiv_le_natAbs i j
 lia
theorem ziF (D:Df K mg "moments_between" qQ ["gap","trip","bottom","begin","end"] []) (T:TxB K mg) (V:mg "list" = none):Cal P w K mg base "moments_between" 1 ["gap","trip","bottom","begin","end"] [] zfs:=by
 rcases r:D.calq (k:=0) QQ with⟨a,T',F,b,e,g,n,rfl,ha,O,I,W,U,G,hs,Y,hz,k⟩
 refine⟨_,(ze (vP (pv 0) (qH rL (zJ (pgl (i:=5) QQ.nd) (zJ (pgl (i:=6) QQ.nd) xL))))
  (ze (psl (i:=7) QQ.nd (zu zK (pv 6) (zu xJ (pv 2) (pv 5))))
  (ze (psl (i:=8) QQ.nd (zu zK (pv 1) (zu xJ (pv 2) (zQ qM (by rfl) T.nAbs yG (za (pv 5) zd)))))
  (ze (psl (i:=9) QQ.nd (zu xp (zu xp (pv 3) zi) (zu vN (zu qh (zu qh (pv 7) (pv 3)) zi) (pv 8))))
  (zo (zE (zaR rfl (by rfl) V (by rfl) T.nRange (za (pv 9) (za (pv 4) (za (pv 8) zd)))))))))),?_⟩
 try dsimp only[xc,Cx.nox]
 refine⟨_,rL,a,_,rL,.of ha,rL,_,_,rL,_,_,rL,rL,?_⟩
 dsimp only[zD]
 have B:∀{n:Nat}{i:Int},Bd n i->n<=1000000->Bd 1000000 i:=λh l=>h.mono l
 refine⟨_,rfl,_,rfl,_,rfl,_,_,rfl,rfl,⟨O,I.md⟩,_,_,rfl,rfl,⟨B W (by decide),B (Va G) (by decide)⟩,?_⟩
 nofun
 refine⟨_,rfl,_,rfl,_,rfl,_,rfl,_,_,rfl,rfl,⟨zfY O,(JB I).md⟩,_,_,rfl,rfl,⟨B U (by decide),B (Va G) (by decide)⟩,?_⟩
 nofun
 refine⟨_,rL,_,_,rL,rL,_,rL,_,rL,_,_,rL,rL,_,_,rL,rL,_,rL,_,_,rL,rL,hs,_,_,rL,rL,?_⟩
 nofun
 refine⟨_,rL,_,rL,_,rL,_,_,_,n,rL,yu hs,?_,Y,hz,λl S=>k l _ (zk.upd S) S zg⟩
 exact(U.mul (Va (j:=zY g.1) G)).md
end
end KK
namespace L2
open PySem PySem.Spec PyProof.Rows
section
variable {X:Cx}
theorem zcf:zjJ X .Mult (rI Vl λi j=>.int (i*j)):=by
 rintro pz s σ H x y u v Q I S O ⟨i,j,rfl,rfl,G,q⟩
 obtain⟨t,rfl⟩:=(show ∃t,u=Value.int i t from S)
 obtain⟨F,rfl⟩:=(show ∃F,v=Value.int j F from O)
 exact PyProof.Rows.imul_int ⟨.int (i*j),H,I.tok _,⟨_,rfl⟩,q⟩ (IntMulOk.of_le G.1.bits G.2.bits (by decide))
theorem qY {f:Str}{v x:V}:∀{fs:List (Str×V)},fs.lookup f=some x->(qe f v fs).length=fs.length
 |[],h=>by cases h
 | (g,y)::r,h=>by
  unfold qe
  by_cases e:g=f
  ·rw[if_pos e];rfl
  ·rw[if_neg e]
   have:(f == g)=false:=beq_eq_false_iff_ne.mpr (λz=>e z.symm)
   rw[List.lookup_cons,this]at h
   rw[wx,wx,qY h]
end
end L2
namespace KK
open PySem L2 KM
variable {P:Program}{w:World}{K:Fg}{mg:Str->Option Value}{base:Heap}
def BdP (n:Nat) (t:Int×Int):Prop:=Bd n t.1/\Bd n t.2
theorem VS.map {H:Hp}{tv:List V}{trs:List (Int×Int)}{f:Int×Int->Int×Int}(F:tv.length=trs.length) (h:∀(i:Nat) (v:V),tv[i]?=some v->∃t,trs[i]?=some t/\Qu H v (some (f t))):VS H tv (trs.map f) :=
 ⟨by rw[wc];exact F,λi v e=>by obtain⟨t,e1,e2⟩:=h i v e;exact⟨f t,by rw[wu,e1];rfl,e2⟩⟩
def CoT (H:Hp) (C c tl:Addr) (pb sb:Int) (tk:Rat) (ws:List Int) (trs:List (Int×Int)) (lo hi:Option (Int×Int)):Prop:=∃dx fs tv,H c=some (.ins C dx fs)/\CoF H fs pb sb tk ws trs lo hi/\fs.lookup ("tracks":Str)=some (V.ref tl)/\H tl=some (.lst tv)/\VS H tv trs
def scT (m:Int) (t:Int×Int):Int×Int:=(t.1*m,t.2*m)
inductive zfu  (vs:List V) (H:Hp) (Q:VK) (_e3:XK):Prop
 |mk:∀v m o,(vs=[v,.int m])->(Qu H v o)->(Bd 5000 m)->((∀t,o=some t->BdP 5000 t))->(∀v' H',zk H H'->Qu H' v' (o.map (scT m))->Q v' H')->zfu vs H Q _e3
theorem zi9:zB ["track","many"] ["track","many"] (zj QM):=scq
theorem ziI (D:Df K mg "refined" QM ["track","many"] []):Cal P w K mg base "refined" 1 ["track","many"] [] zfu:=by
 rcases r:D.calq (k:=0) zi9 with⟨v,m,o,rfl,O,G,S,k⟩
 refine⟨_,(ze (xv (zH qP (pv 0) xB (zF _)) (zo (zE xB)) zU)
  (zo (zE (zS (za (zu zK (pxt (pv 0)) (pv 1)) (za (zu zK (pxt (pv 0)) (pv 1)) zd)))))),?_⟩
 try dsimp only[xc,Cx.nox]
 cases o with
 |none =>
  obtain rfl:v=.non:=O
  exact⟨_,rL,rL,_,rL,xO (k _ _ (zk.refl _) rL)⟩
 |some t =>
  obtain⟨a,rfl,I⟩:=O
  have z:=S t rfl
  refine⟨_,rL,rL,_,rL,xz ?_⟩
  refine⟨_,rL,a,_,_,_,rL,rL,.of I,rL,_,rL,_,_,rL,rL,⟨z.1.md,G.md⟩,_,rL,a,_,_,_,rL,rL,.of I,rL,_,rL,_,_,rL,rL,⟨z.2.md,G.md⟩,zL2,λU F=>?_⟩
  exact k _ _ (zk.upd F) ⟨U,rL,zg⟩
inductive zjm (C:Addr) (vs:List V) (H:Hp) (Q:VK) (_e3:XK):Prop
 |mk:∀c tl m pb sb tk ws trs lo hi,(vs=[V.ref c,.int m])->(CoT H C c tl pb sb tk ws trs lo hi)->(trs.length<=8)->(Bd 5000 m)->(Bd 5000 pb)->(Bd 5000 sb)->((∀t∈trs,BdP 5000 t))->((∀l,lo=some l->BdP 5000 l))->((∀l,hi=some l->BdP 5000 l))->(∀H' tl',xg c H H'->H tl'=none->CoT H' C c tl' (pb*m) (sb*m) tk ws (trs.map (scT m)) (lo.map (scT m)) (hi.map (scT m))->Q .non H')->zjm C vs H Q _e3
theorem zky:zB ["course","many"] ["course","many"] (zj VH):=scq
theorem zkd {C:Addr}(D:Df K mg "refine" VH ["course","many"] []) (I:TCo K C) (a3:Cal P w K mg base "refined" 1 ["track","many"] [] zfu):Cal P w K mg base "refine" 2 ["course","many"] [] (zjm C):=by
 rcases r:D.calBq (k:=1) zky with⟨c,tl,m,pb,sb,tk,ws,trs,lo,hi,rfl,⟨dx,fs,tv,W,F,elt,b1,a4⟩,d2,zm,c6,d0,zt,b7,c0,k⟩
 obtain⟨tp,f1,f2⟩:=F.tick
 obtain⟨b8,f3,f4⟩:=F.weights
 obtain⟨v1,f5,f6⟩:=F.low
 obtain⟨v2,f7,f8⟩:=F.high
 have d1:=F.len
 refine⟨_,(XX (Bx.mk (Jr (pv 0) (pv 1) zcf))
  (XX (Bx.mk (Jr (pv 0) (pv 1) zcf))
  (XX (Bx.mk (jZ (pv 0) (qz (NB:=["track"]) (FR:=["many"]) (js:=[1]) rfl rfl (λ_ _ h=>h) (.cons rfl rfl rfl ⟨_,rfl⟩ .nil) rfl (by decide +kernel) rfl (by decide +kernel) (xk (xG (pv 0) rfl)) (by intro _ _ _;refine⟨?_,?_,?_⟩;(exact(pgl (i:=0) (show List.Nodup (["track","many"]:List Str) by decide +kernel)));(exact xI);(exact(zC a3 hr (za (pv 0) (za (pv 1) zd)))))) rfl))
  (XX (Bx.mk (jZ (pv 0) (zC a3 hr (za (xG (pv 0) rfl) (za (pv 1) zd))) rfl))
  (Bx.mk (zo (jZ (pv 0) (zC a3 hr (za (xG (pv 0) rfl) (za (pv 1) zd))) rfl))))))),?_⟩
 try dsimp only[xc,Cx.nox]
 have nc:∀{G:Hp}{dx:Addr}{fs:List (Str×V)}{b:Addr}{o:HO},G c=some (.ins C dx fs)->G b=some o->(∀dx fs,o≠.ins C dx fs)->b≠c:=λh1 h2 h3 z=>by subst z;rw[h1]at h2;cases h2;exact h3 _ _ rfl
 refine⟨_,rfl,c,C,dx,fs,_,rfl,W,I.cls,I.pb,F.pb,_,rfl,_,_,rfl,rfl,⟨c6.md,zm.md⟩,dx,fs,W,by lia,?_⟩
 have l1:(qe ("place_bottom":Str) (.int (pb*m)) fs).length=fs.length:=qY F.pb
 have e1:∀g:Str,g≠"place_bottom"->(qe ("place_bottom":Str) (.int (pb*m)) fs).lookup g=fs.lookup g:=λg n=>by rw[xA,if_neg n]
 have p1:(qe ("place_bottom":Str) (.int (pb*m)) fs).lookup ("place_bottom":Str)=some (.int (pb*m)):=by rw[xA,if_pos rfl]
 generalize qe ("place_bottom":Str) (.int (pb*m)) fs=fs1 at l1 e1 p1
 have X1:xg c H (upd H c (.ins C dx fs1)):=.upd
 have c1:upd H c (.ins C dx fs1) c=some (.ins C dx fs1):=zg
 generalize upd H c (.ins C dx fs1)=G1 at X1 c1
 refine⟨_,rfl,c,C,dx,fs1,_,rfl,c1,I.cls,I.sb,(e1 _ (by decide)).trans F.sb,_,rfl,_,_,rfl,rfl,⟨d0.md,zm.md⟩,dx,fs1,c1,by lia,?_⟩
 have l2:(qe ("speed_bottom":Str) (.int (sb*m)) fs1).length=fs1.length:=qY ((e1 _ (by decide)).trans F.sb)
 have e2:∀g:Str,g≠"speed_bottom"->(qe ("speed_bottom":Str) (.int (sb*m)) fs1).lookup g=fs1.lookup g:=λg n=>by rw[xA,if_neg n]
 have p2:(qe ("speed_bottom":Str) (.int (sb*m)) fs1).lookup ("speed_bottom":Str)=some (.int (sb*m)):=by rw[xA,if_pos rfl]
 generalize qe ("speed_bottom":Str) (.int (sb*m)) fs1=fs2 at l2 e2 p2
 have X2:xg c H (upd G1 c (.ins C dx fs2)):=X1.trans .upd
 have c2:upd G1 c (.ins C dx fs2) c=some (.ins C dx fs2):=zg
 generalize upd G1 c (.ins C dx fs2)=G2 at X2 c2
 have t2:xx H G2:=X2.tup W
 have Y:=X2 _ _ (nc W b1 (λ_ _ z=>by cases z)) b1
 nofun
 refine jT (K:=K) ?_
 refine⟨_,rfl,c,C,dx,fs2,_,rfl,c2,I.cls,I.tracks,(e2 _ (by decide)).trans ((e1 _ (by decide)).trans elt),tl,rfl,⟨_,SqL.of Y⟩,λO S=>?_⟩
 refine xE (J:=Itl K tl) (n:=1) (js:=[1]) (g:=zD 0) (te:=_) (xs:=tv) (λi v G=>∃t,trs[i]?=some t/\Qu G v (some (scT m t))) (λ_ _ _ _ t ⟨x,h1,h2⟩=>⟨x,h1,h2.keeps t⟩) S (xq Y) (vH (by have:=a4.1;lia)) ?_ ?_
 ·intro i x zs H3 Q' hx hz s3 hk
  obtain⟨z1,rfl⟩:=Xm hz
  obtain⟨t,et,b9⟩:=(a4.keeps (t2.trans (.of s3))).2 i x hx
  dsimp only[zD]
  exact⟨rfl,_,rfl,_,rfl,x,m,some t,rfl,b9,zm,λu e=>by cases e;exact zt t (wL et),λv' H' s' h'=>hk _ _ s' ⟨t,et,h'⟩⟩
 intro y3 H3 s3 a6 a7 b5
 refine qG (by rfl) (s3 _ _ c2) I.cls I.tracks ∅ λG3 a2 c3=>?_
 have l3:(qe ("tracks":Str) (.ref O) fs2).length=fs2.length:=qY ((e2 _ (by decide)).trans ((e1 _ (by decide)).trans elt))
 have e3:∀g:Str,g≠"tracks"->(qe ("tracks":Str) (.ref O) fs2).lookup g=fs2.lookup g:=λg n=>by rw[xA,if_neg n]
 have p3:(qe ("tracks":Str) (.ref O) fs2).lookup ("tracks":Str)=some (.ref O):=by rw[xA,if_pos rfl]
 generalize qe ("tracks":Str) (.ref O) fs2=fs3 at l3 e3 p3 c3
 have X3:xg c H G3:=X2.trans ((xg.of s3).trans a2)
 have t3:xx H G3:=X3.tup W
 have U:G3 O=some (.lst y3):=a2 _ _ (nc (s3 _ _ c2) a6 (λ_ _ z=>by cases z)) a6
 have b3:H O=none:=by
  cases e:H O with
  |none=>rfl
  |some o =>
   by_cases hz:O=c
   ·rw[hz,c2]at S;cases S
   ·rw[X2 _ _ hz e]at S;cases S
 have c8:VS G3 y3 (trs.map (scT m)):=(VS.map (by rw[a7];exact a4.1) b5).keeps (a2.tup (s3 _ _ c2))
 have g5:fs3.lookup ("low":Str)=some v1:=(e3 _ (by decide)).trans ((e2 _ (by decide)).trans ((e1 _ (by decide)).trans f5))
 have g7:fs3.lookup ("high":Str)=some v2:=(e3 _ (by decide)).trans ((e2 _ (by decide)).trans ((e1 _ (by decide)).trans f7))
 refine jT (K:=K) ?_
 refine zat ⟨_,rL,c,C,dx,fs3,_,rL,c3,I.cls,I.low,g5,_,rL,v1,m,lo,rL,f6.keeps t3,zm,b7,λlv H4 s4 c9=>?_⟩
 refine qG (by rfl) (s4 _ _ c3) I.cls I.low ∅ λG4 b4 c4=>?_
 have l4:(qe ("low":Str) lv fs3).length=fs3.length:=qY g5
 have e4:∀g:Str,g≠"low"->(qe ("low":Str) lv fs3).lookup g=fs3.lookup g:=λg n=>by rw[xA,if_neg n]
 have p4:(qe ("low":Str) lv fs3).lookup ("low":Str)=some lv:=by rw[xA,if_pos rfl]
 generalize qe ("low":Str) lv fs3=fs4 at l4 e4 p4 c4
 have a8:xg c G3 G4:=(xg.of s4).trans b4
 have X4:xg c H G4:=X3.trans a8
 have t4:xx H G4:=X4.tup W
 have a9:=c9.keeps (b4.tup (s4 _ _ c3))
 have g8:fs4.lookup ("high":Str)=some v2:=(e4 _ (by decide)).trans g7
 refine zcr (K:=K) ?_
 refine zat ⟨_,rL,c,C,dx,fs4,_,rL,c4,I.cls,I.high,g8,_,rL,v2,m,hi,rL,f8.keeps t4,zm,c0,λhv H5 s5 c7=>?_⟩
 refine qG (rest:=ZF.nx) (by rfl) (s5 _ _ c4) I.cls I.high ∅ λG5 b0 c5=>?_
 have l5:(qe ("high":Str) hv fs4).length=fs4.length:=qY g8
 have e5:∀g:Str,g≠"high"->(qe ("high":Str) hv fs4).lookup g=fs4.lookup g:=λg n=>by rw[xA,if_neg n]
 have p5:(qe ("high":Str) hv fs4).lookup ("high":Str)=some hv:=by rw[xA,if_pos rfl]
 generalize qe ("high":Str) hv fs4=fs5 at l5 e5 p5 c5
 have a1:xg c G4 G5:=(xg.of s5).trans b0
 have b2:=a8.trans a1
 have X5:xg c H G5:=X4.trans a1
 have t5:xx H G5:=X5.tup W
 have b6:=b2 _ _ (nc c3 U (λ_ _ z=>by cases z)) U
 have a5:=c8.keeps (b2.tup c3)
 have q3:fs5.lookup ("tracks":Str)=some (.ref O):=(e5 _ (by decide)).trans ((e4 _ (by decide)).trans p3)
 refine k G5 O X5 b3 ⟨dx,fs5,y3,c5,⟨?_,?_,⟨tp,?_,t5 _ _ f2⟩,⟨b8,?_,X5 _ _ (nc W f4 (λ_ _ z=>by cases z)) f4⟩,⟨O,y3,q3,b6,a5⟩,⟨lv,(e5 _ (by decide)).trans p4,a9.keeps (a1.tup c4)⟩,⟨hv,p5,c7.keeps (b0.tup (s5 _ _ c4))⟩,by lia⟩,q3,b6,a5⟩
 ·exact(e5 _ (by decide)).trans ((e4 _ (by decide)).trans ((e3 _ (by decide)).trans ((e2 _ (by decide)).trans p1)))
 ·exact(e5 _ (by decide)).trans ((e4 _ (by decide)).trans ((e3 _ (by decide)).trans p2))
 ·exact(e5 _ (by decide)).trans ((e4 _ (by decide)).trans ((e3 _ (by decide)).trans ((e2 _ (by decide)).trans ((e1 _ (by decide)).trans f1))))
 ·exact(e5 _ (by decide)).trans ((e4 _ (by decide)).trans ((e3 _ (by decide)).trans ((e2 _ (by decide)).trans ((e1 _ (by decide)).trans f3))))
end KK
namespace L2
open PySem PySem.Spec PyProof.Rows
section
variable {J:It}{D:Addr}{n:Nat}{js:List Nat}{σ:St}{g:TG}{tt:TT}{te:TE}{Z:Hp->Prop}{H:Hp}{xs:List V}
theorem zcX (p:V->Bool) (hD:H D=none) (Y:zbe J H xs) (hl:xs.length<sizeLine)
  (hs:∀(i:Nat) (x:V) (zs:St) (H2:Hp) (A:VK) (B:Hp->Prop),xs[i]?=some x->zs.length=n->zk H H2->(p x=true->A x H2)->(p x=false->B H2)->g x (zs++qL σ js) H2 λF H4=>F.drop n=qL σ js/\tt F H4 λb G=>if b=true then te F G A else B G)
  (k:∀H',zk H H'->H' D=some (.lst (xs.filter p))->Z H') :
  ∃W:Nat->Nat->Hp->List V->Prop,(∃m,W 0 m (upd H D (.lst [])) [])/\∀i m H2 ys,W i m H2 ys->H2 D=some (.lst ys)->(J.stop i H2/\Z H2) ∨
   (J.go i H2/\∀zs x I,zs.length=n->J.yld i H2 x I->g x (zs++qL σ js) I λF H4=>F.drop n=qL σ js/\tt F H4 λb G=>if b=true then te F G (λv H6=>H6 D=some (.lst ys)/\ys.length<sizeLine/\∃S,S<m/\W (i+1) S (upd H6 D (.lst (ys++[v]))) (ys++[v]))
    else G D=some (.lst ys)/\∃S,S<m/\W (i+1) S G ys):=by
 refine ZN (Q:=λ_ H=>Z H) (tt:=tt) (N:=xs.length) (λi H2 ys=>zk H H2/\ys=(xs.take i).filter p) ⟨zk.upd hD,rfl⟩ (λi H2 ys hi p=>Y.go i H2 hi p.1) (λH2 ys p=>Y.stop H2 p.1) ?_ (λH2 ys q e=>k H2 q.1 (by rw[e,q.2,yq]))
 rintro i x zs H2 I ys Nx hN hi hz hy ⟨U,rfl⟩ O
 obtain⟨rfl,hx⟩:=Y.yld i x H2 I U hy
 have et:xs.take (i+1)=xs.take i++[x]:=by rw[yA,hx];rfl
 refine hs i x zs I _ _ hx hz U (λhp=>⟨O,?_,hN _ _ ⟨λc o e=>?_,?_⟩⟩) (λhp=>⟨O,hN _ _ ⟨U,?_⟩⟩)
 ·have:=uR p (xs.take i)
  have:=List.length_take_le i xs
  lia
 ·rw[zT (zZ e hD)];exact U _ _ e
 ·rw[et,ue];simp[hp]
 ·rw[et,ue];simp[hp]
end
end L2
namespace KK
open PySem L2 KM
variable {P:Program}{w:World}{K:Fg}{mg:Str->Option Value}{base:Heap}{C CE aN:Addr}{tM:Nat}{CB CP C0:Addr}
def Z4 (lo hi:Option (Int×Int)) (top bot:Int) (tr:Int×Int):Int:=(QV (wsc lo bot) (wsc hi bot) (tr.1*bot+tr.2*top) tr.2).1
def qV (lo hi:Option (Int×Int)) (trs:List (Int×Int)) (k z top bot:Int):Bool :=
 decide (((((trs.map (Z4 lo hi top bot)).countP λx=>decide (x<z*bot):Nat):Int)<=k)/\k<(((trs.map (Z4 lo hi top bot)).countP λx=>decide (x<z*bot):Nat):Int)+(((trs.map (Z4 lo hi top bot)).countP λx=>decide (x=z*bot):Nat):Int))
def ltI (n:Int):V->Bool
 |.int x=>decide (x<n)
 |_=>false
theorem zcn (n:Int):∀xs:List Int,((xs.map V.int).filter (ltI n)).length=xs.countP λx=>decide (x<n)
 |[]=>rfl
 |x::xs=>by
  rw[yg,List.filter_cons,yY,<-zcn n xs]
  show (if decide (x<n)=true then _ else _:List V).length=_
  split <;> simp
inductive zfx (C:Addr) (vs:List V) (H:Hp) (Q:VK) (_e3:XK):Prop
 |mk:∀c t k z pb sb tk ws trs lo hi top bot,(vs=[.ref c,.int k,.int z,.ref t])->(Xk H C c pb sb tk ws trs lo hi)->(H t=some (.tup [.int top,.int bot]))->(trs.length<=8)->((∀tr∈trs,Bd 2000 tr.1/\Bd 2000 tr.2))->(Bd 2000 z)->(Bd 2000 top)->(Bd 2000 bot)->(0<bot)->(Wb lo)->(Wb hi)->((∀l h,lo=some l->hi=some h->l.1<h.1))->(∀H',zk H H'->Q (.bl (qV lo hi trs k z top bot)) H')->zfx C vs H Q _e3
theorem zai:zB ["course","k","spot","ticks","spots","wide","below"] ["course","k","spot","ticks"] (zj XD):=scq
theorem ziL (D:Df K mg "is_there" XD ["course","k","spot","ticks"] []) (T:TxB K mg) (TC:TCo K C) (a9:Cal P w K mg base "line_at" 1 ["course","track","ticks"] [] (zfo C)):Cal P w K mg base "is_there" 2 ["course","k","spot","ticks"] [] (zfx C):=by
 rcases r:D.calq (k:=1) zai with⟨c,t,kk,z,pb,sb,tk,ws,trs,lo,hi,top,I,rfl,a3,ht,a6,bt,bz,b4,a4,a5,wl,wh,b0,k⟩
 obtain⟨dx,fs,hc,F⟩:=id a3
 rcases q:F.tracks with⟨tl,tv,et,a1,hT⟩
 have hu:=hr.units
 refine⟨_,(ze (Qk (i:=4) (NB:=["track"]) (FR:=["course","ticks"]) (js:=[0,3]) rfl rfl (λx c h=>Qx rfl rfl x c h) (.cons rfl rfl rfl ⟨_,rfl⟩ (.cons rfl rfl rfl ⟨_,rfl⟩ .nil)) rfl (by decide +kernel) rfl (by decide +kernel) zai.nd rfl rfl (by rfl) (xk (xG (pv 0) rfl)) (by intro _ _ _;refine⟨?_,?_,?_⟩;(exact(pgl (i:=0) (show List.Nodup (["track","course","ticks"]:List Str) by decide +kernel)));(exact xI);(exact(qp (v6 (K:=K) rfl) (zC a9 hr (za (pv 1) (za (pv 0) (za (pv 2) zd)))) zi (λ_ _=>rfl)))))
  (ze (ZS (i:=5) zai.nd rfl (Or.inr rfl) (zu zK (pv 2) (pxt (pv 3))))
  (ze (psl (i:=6) zai.nd (zQ xj (by rfl) T.nLen PySem.boot_len (za (qz (NB:=["one"]) (FR:=["wide"]) (js:=[5]) rfl rfl (λx c h=>Xr rfl x c h) (.cons rfl rfl rfl ⟨_,rfl⟩ .nil) rfl (by decide +kernel) rfl (by decide +kernel) (xk (pv 4)) (by intro _ _ _;refine⟨?_,?_,?_⟩;(exact(pgl (i:=0) (show List.Nodup (["one","wide"]:List Str) by decide +kernel)));(exact(Vf (zH Zi (pv 0) (pv 1) (zF _))));(exact(pv 0)))) zd)))
  (zo (zE (zeQ zhx Zi (pv 6) (pv 1) (zu xp (pv 6) (ZQ yB PySem.F.slot_list_count PySem.F.type_list_count (zdh (by show _+64<cLine;exact hu)) (pv 4) (za (pv 5) zd))))))))),?_⟩
 try dsimp only[xc,Cx.nox]
 unfold zbU zdy
 refine⟨_,rL,c,C,dx,fs,_,rL,hc,TC.cls,TC.tracks,et,tl,rL,⟨_,SqL.of a1⟩,λD1 b3=>?_⟩
 refine xE (js:=[0,3]) (J:=Itl K tl) (g:=zD 0) (te:=_) (n:=1) (xs:=tv) (λi v G=>∃n,(trs.map (Z4 lo hi top I))[i]?=some n/\v=.int n) (λ_ _ _ _ _ h=>h) b3 (xq a1) (qo (by rw[hT.1];lia)) ?_ ?_
 ·intro i y zs G Q' hy hz S hQ
  obtain⟨w1,rfl⟩:=Xm hz
  rcases q:hT.2 i y hy with⟨tr,W,p,rfl,hp⟩
  have b:=bt tr (wL W)
  dsimp only[zD]
  refine⟨rL,_,rL,_,rL,_,rL,c,p,t,pb,sb,tk,ws,trs,lo,hi,tr.1,tr.2,top,I,rL,a3.same S,S _ _ hp,S _ _ ht,b.1,b.2,b4,a4,a5,wl,wh,b0,λr H6 S6 a7=>?_⟩
  refine⟨r,_,_,_,rfl,rfl,.of a7,at0 ..,hQ _ _ S6 ⟨_,by rw[wu,W];rfl,rfl⟩⟩
 intro us G S O a8 hR
 dsimp only[zD]
 have eu:us=(trs.map (Z4 lo hi top I)).map V.int:=Qd (by rw[wc,a8,hT.1]) λi v e=>hR i v e
 rw[eu]at O
 generalize hsp:trs.map (Z4 lo hi top I)=sp at *
 have b5:sp.length<=8:=by rw[<-hsp,wc];exact a6
 have b2:=S _ _ ht
 refine⟨_,rL,_,rL,t,_,_,_,rL,rL,.of b2,at1 ..,_,_,rL,rL,⟨b2k bz,b2k a4⟩,?_⟩
 nofun
 refine⟨_,rL,D1,rL,⟨_,SqL.of O⟩,λD2 b1=>?_⟩
 refine zcX (js:=[5]) (J:=Itl K D1) (g:=zD 0) (te:=xw 0) (tt:=_) (n:=1) (xs:=sp.map V.int) (ltI (z*I)) b1 (xq O) (qo (by rw[wc];lia)) ?_ ?_
 ·intro i x zs H2 A B Y hz S2 hA hB
  obtain⟨w1,rfl⟩:=Xm hz
  rw[wu]at Y
  cases hm:sp[i]? with
  |none=>rw[hm]at Y;cases Y
  |some n =>
   rw[hm]at Y;cases Y
   dsimp only[zD]
   refine⟨rL,_,rL,_,rL,_,_,rL,rL,_,rL,?_⟩
   by_cases q:n<z*I
   ·rw[wm q];exact xO ⟨_,rfl,hA (wm q)⟩
   ·rw[wy q];exact xz (hB (wy q))
 intro G2 S2 a2
 have lf:((sp.map V.int).filter (ltI (z*I))).length=sp.countP λx=>decide (x<z*I):=zcn _ _
 refine⟨D2,_,rL,.inl (.of a2),?_⟩
 nofun
 rw[lf]
 have U:=S2 _ _ O
 have SS:=S.trans S2
 unfold qV at k
 rw[hsp]at k
 refine⟨_,rL,_,rL,_,_,rL,rL,?_⟩
 by_cases h0:(((sp.countP λx=>decide (x<z*I):Nat):Int))<=kk
 ·nofun
  rw[wm h0]
  refine⟨_,rL,xO ⟨_,rL,_,rL,.inl ⟨rL,_,SqL.of U⟩,_,rL,D1,sp,z*I,rL,rL,U,_,_,rL,rL,_,_,rL,rL,?_⟩⟩
  have:=k G2 SS
  rw[Bool.decide_and,wm h0,YN]at this
  exact this
 ·nofun
  rw[wy h0]
  refine⟨_,rL,xz ?_⟩
  have:=k G2 SS
  rw[wy (λq=>h0 q.1)]at this
  exact this
def lcF (c:Int) (ks:List Int):Int:=ks.foldl (λc n=>c/(Int.gcd c n:Int)*n) c
theorem zht {c n:Int}(I:0<n):c ∣ c/(Int.gcd c n:Int)*n:=by
 obtain⟨m,F⟩:=Wr c n
 obtain⟨d,hd⟩:=um c n
 have G:0<(Int.gcd c n:Int):=by have:=Ya c (b:=n) ∅;lia
 generalize (Int.gcd c n:Int)=g at *
 refine⟨m,?_⟩
 have:c/g=d:=by rw[hd];exact yf _ ∅
 rw[this,F,hd]
 rw[WQ g d m,YF]
theorem zhu {c n:Int}:n ∣ c/(Int.gcd c n:Int)*n:=⟨_,uo ..⟩
theorem zeo {n:Nat}:∀(ks:List Int) (c:Int) (m:Nat),0<c->Bd m c->Pos n ks->0<lcF c ks/\Bd (m+n*ks.length) (lcF c ks)/\c ∣ lcF c ks/\∀k∈ks,k ∣ lcF c ks
 |[],c,m,h,b,_=>⟨h,b,Yr _,λk q=>by cases q⟩
 |k::ks,c,m,h,b,p=>by
  have F:=p k wB
  obtain⟨S,O,G,I⟩:=zeo ks (c/(Int.gcd c k:Int)*k) (m+n) (vL h F.1) (JE h F.1 b F.2) λx q=>p x (wR _ q)
  refine⟨S,O.mono (by rw[wx,Y6];lia),Ws (zht F.1) G,λx q=>?_⟩
  rcases ww.mp q with rfl | q
  ·exact Ws zhu G
  ·exact I x q
theorem Vy {n:Nat}{ks:List Int}(p:Pos n ks):0<xT ks/\Bd (1+n*ks.length) (xT ks)/\∀k∈ks,k ∣ xT ks:=by
 obtain⟨a,b,_,d⟩:=zeo ks 1 1 (by decide) (show (1:Int).natAbs<2^1 by decide) p
 exact⟨a,b,d⟩
def lkB (b l:Int×Int):Int:=xT [b.2,l.2]
def lkF (b l:Int×Int):Int:=b.1*(lkB b l).fdiv b.2
def lkL (b l:Int×Int):Int:=lkF b l+l.1*(lkB b l).fdiv l.2
def lkN (b l:Int×Int) (gs:List (Int×Int)):Int:=xT (lkB b l::gs.map λg=>zY g.1)
def lkU (b l:Int×Int) (gs:List (Int×Int)) (x:Int):Int:=x*(lkN b l gs).fdiv (lkB b l)
def lkC (T F b e:Int) (g:Int×Int):Nat:=(Builtin.Range.rangeSize (zbz T F b g) e (vW T F g)).toNat
def lkW (T F b e:Int) (g:Int×Int):List Int:=zgr T F b g (lkC T F b e g)
def lkG (T F b e:Int):List (Int×Int)->List Int
 |[]=>[]
 |g::gs=>lkW T F b e g++lkG T F b e gs
theorem JY (T F b e:Int):∀xs ys,lkG T F b e (xs++ys)=lkG T F b e xs++lkG T F b e ys
 |[],ys=>rfl
 |x::xs,ys=>by show lkW T F b e x++lkG T F b e (xs++ys)=_;rw[JY T F b e xs ys,<-ym];rfl
theorem zeu {T F b e:Int}{gs:List (Int×Int)}{i:Nat}{g:Int×Int}(h:gs[i]?=some g):lkG T F b e (gs.take (i+1))=lkG T F b e (gs.take i)++lkW T F b e g:=by
 rw[yA,h,JY]
 show _++(lkW T F b e g++[])=_
 rw[yP]
theorem zig (T F b e:Int) (gs:List (Int×Int)) (i:Nat):(lkG T F b e (gs.take i)).length<=(lkG T F b e gs).length:=by
 conv=>rhs;rw[<-uA i gs,JY,wV]
 lia
def lkM (T:Int) (b l:Int×Int) (gs:List (Int×Int)):List Int:=lkU b l gs (lkF b l)::lkG T (lkN b l gs) (lkU b l gs (lkF b l)) (lkU b l gs (lkL b l)) gs
structure LkA (T:Int) (b l:Int×Int) (gs:List (Int×Int)):Prop where
 l16:gs.length<=16
 bg:∀g∈gs,g.1≠0/\Bd 400 g.1/\Bd 2001 g.2
 T0:0<T/\Bd 2000 T
 bb:Bd 260 b.1/\Bd 140 b.2/\0<b.2
 bl:Bd 140 l.1/\Bd 140 l.2/\0<l.2
structure LkG (T:Int) (b l:Int×Int) (gs:List (Int×Int)):Prop where
 df:∀g∈gs,dif T b (lkL b l,lkB b l) g<=1000
 bn:Bd 1300 (lkN b l gs)
 cn:∀g∈gs,lkC T (lkN b l gs) (lkU b l gs (lkF b l)) (lkU b l gs (lkL b l)) g<=1000
 ln:(lkM T b l gs).length<=3900
 mx:∀ms:List Int,(∀k,k∈ms↔k∈lkM T b l gs)->ms.Nodup->ms.length<=1000
theorem ZL {i:Int}(h:i≠0):0<zY i:=by unfold zY;split <;> lia
theorem bdx {n:Nat}{i j:Int}(F:Bd n j):Bd (n+1) (j.fdiv i):=Va F
section
variable {T:Int}{b l:Int×Int}{gs:List (Int×Int)}
theorem LkA.pos2 (h:LkA T b l gs):Pos 140 [b.2,l.2]:=λk m=>by
 rcases ww.mp m with rfl | m
 ·exact⟨h.bb.2.2,h.bb.2.1⟩
 ·rcases ww.mp m with rfl | m
  ·exact⟨h.bl.2.2,h.bl.2.1⟩
  ·cases m
theorem LkA.B (h:LkA T b l gs):0<lkB b l/\Bd 290 (lkB b l)/\b.2 ∣ lkB b l/\l.2 ∣ lkB b l:=by
 obtain⟨a,F,c⟩:=Vy h.pos2
 exact⟨a,F.mono (by show 1+140*2<=290;decide),c _ wB,c _ (wR _ wB)⟩
theorem LkA.F (h:LkA T b l gs):Bd 590 (lkF b l):=(h.bb.1.mul (bdx h.B.2.1)).md
theorem LkA.L (h:LkA T b l gs):Bd 591 (lkL b l):=by
 have h1:=h.F
 have h2:Bd 590 (l.1*(lkB b l).fdiv l.2):=(h.bl.1.mul (bdx h.B.2.1)).md
 unfold lkL
 have G:(lkF b l).natAbs<2^590:=h1
 have I:(l.1*(lkB b l).fdiv l.2).natAbs<2^590:=h2
 show (lkF b l+l.1*(lkB b l).fdiv l.2).natAbs<2^591
 have:2^591=2^590+2^590:=by rw[Nat.pow_succ];omega
 generalize 2^590=X at *
 omega
theorem LkA.posN (h:LkA T b l gs):Pos 400 (lkB b l::gs.map λg=>zY g.1):=λk m=>by
 rcases ww.mp m with rfl | m
 ·exact⟨h.B.1,h.B.2.1.md⟩
 ·obtain⟨g,mg,rfl⟩:=wf.mp m
  exact⟨ZL (h.bg g mg).1,JB (h.bg g mg).2.1⟩
theorem LkA.N (h:LkA T b l gs):0<lkN b l gs/\lkB b l ∣ lkN b l gs/\∀g∈gs,zY g.1 ∣ lkN b l gs:=by
 obtain⟨a,_,c⟩:=Vy h.posN
 exact⟨a,c _ wB,λg m=>c _ (wR _ (wf.mpr ⟨g,m,rL⟩))⟩
theorem LkA.stp (h:LkA T b l gs){g:Int×Int}(m:g∈gs):0<vW T (lkN b l gs) g:=by
 have p:=ZL (h.bg g m).1
 refine wQ h.T0.1 ?_
 rw[wC _ ∅]
 exact Wv h.N.1 ∅ (h.N.2.2 g m)
theorem ze6 {a b c:Int}(h:0<c):Builtin.Range.rangeSize a b c=(((Builtin.Range.rangeSize a b c).toNat:Nat):Int):=by
 have:0<=Builtin.Range.rangeSize a b c:=by
  unfold Builtin.Range.rangeSize
  rw[if_pos h]
  split
  ·have:=WP (a:=b-a-1) (b:=c) ∅ ∅;lia
  ·lia
 lia
end
def LzA (H:Hp) (v:V):Option (Int×Int)->Prop
 |none=>v=.non
 |some l=>∃q,v=.ref q/\H q=some (.tup [.int l.1,.int l.2])
def LkO (T:Int) (b:Int×Int) (gs:List (Int×Int)) (ms:List Int) (N:Int):Option (Int×Int)->Prop
 |none=>ms=[b.1]/\N=b.2
 |some l=>N=lkN b l gs/\(∀k,k∈ms↔k∈lkM T b l gs)/\ms.Nodup/\ms.Pairwise (·<=·)
structure LkP (C:Addr) (H:Hp) (vs:List V) (trs:List (Int×Int)) (l0 h0:Int×Int) (z:Int) (b:Int×Int) (lz:Option (Int×Int)):Prop where
 ex:∃c p v pb sb tk ws,vs=[.ref c,.int z,.ref p,v]/\Xk H C c pb sb tk ws trs (some l0) (some h0)/\H p=some (.tup [.int b.1,.int b.2])/\LzA H v lz
 l8:trs.length<=8
 bl:Bd 2000 l0.1
 wl:Wb (some l0)
 wh:Wb (some h0)
inductive zjh (C:Addr) (CE:Addr) (vs:List V) (H:Hp) (Q:VK) (E:XK):Prop
 |mk:∀trs l0 h0 z b lz,(LkP C H vs trs l0 h0 z b lz)->((((∀l,lz=some l->LkA (2*(h0.1-l0.1)) b l (zP l0.1 z trs)/\LkG (2*(h0.1-l0.1)) b l (zP l0.1 z trs))/\∀r L ms N H',zk H H'->H' r=some (.tup [.ref L,.int N])->H' L=some (.lst (ms.map V.int))->LkO (2*(h0.1-l0.1)) b (zP l0.1 z trs) ms N lz->Q (.ref r) H')\/(∃l,lz=some l/\LkA (2*(h0.1-l0.1)) b l (zP l0.1 z trs)/\(∃g∈zP l0.1 z trs,1000<dif (2*(h0.1-l0.1)) b (lkL b l,lkB b l) g)/\∀H',zk H H'->E (.ref CE) none H')))->zjh C CE vs H Q E
theorem ZZ:zB ["course","spot","begin","lasting","gaps","bottom","first","last","finer","moments","rising","gap"] ["course","spot","begin","lasting"] (zj ZW):=scq
theorem zj8 (D:Df K mg "looked_at" ZW ["course","spot","begin","lasting"] []) (T:TxB K mg) (TC:TCo K C) (TM:mg "MOST_LOOKED_AT" = some (.int 1000 tM)) (d4:mg "sorted" = none) (d2:mg "set" = none)
  (cL:Cal P w K mg base "least_multiple" 2 ["numbers"] [] Jv) (d6:Cal P w K mg base "gaps_to" 1 ["course","spot"] [] (zfn C)) (b7:Cal P w K mg base "trip_of" 1 ["course"] [] (QT C)) (c9:Vm P w K mg base "refuse_too_many" 2 ["gaps","trip","begin","end"] [] (zbT CE)) (c4:Cal P w K mg base "moments_between" 1 ["gap","trip","bottom","begin","end"] [] zfs) :
  Vm P w K mg base "looked_at" 3 ["course","spot","begin","lasting"] [] (zjh C CE):=by
 refine D.cal1 (k:=2) ZZ (λvs H Q E h=>by obtain⟨_,_,_,_,_,_,h,_⟩:=h;obtain⟨_,_,_,_,_,_,_,rfl,_⟩:=h.ex;rfl) (λf cdv A outer s H vs Q E a2 h=>?_)
 have a5:xb 1 _:=a2.md
 rcases q:h with⟨trs,l0,h0,z,b,lz,R,K'⟩
 rcases q:R.ex with⟨c,p,v,pb,sb,tk,ws,rfl,b2,hp,b6⟩
 refine⟨_,(ze (xv (zH qP (pv 3) xB (zF _)) (zo (zE (zS (za (xR (za (pxt (pv 2)) zd)) (za (pxt (pv 2)) zd))))) zU)
  (ze (psl (i:=4) ZZ.nd (zC d6 a5 (za (pv 0) (za (pv 1) zd))))
  (ze (psl (i:=5) ZZ.nd (zC cL a2 (za (xR (za (pxt (pv 2)) (za (pxt (pv 3)) zd))) zd)))
  (ze (psl (i:=6) ZZ.nd (zu zK (pxt (pv 2)) (zu xJ (pv 5) (pxt (pv 2)))))
  (ze (psl (i:=7) ZZ.nd (zu xp (pv 6) (zu zK (pxt (pv 3)) (zu xJ (pv 5) (pxt (pv 3))))))
  (ze (qm (zhy c9 a2 VX (za (pv 4) (za (zC b7 a5 (za (pv 0) zd)) (za (pv 2) (za (zS (za (pv 7) (za (pv 5) zd))) zd))))))
  (ze (psl (i:=8) ZZ.nd (zC cL a2 (za (zu zeK (xR (za (pv 5) zd)) (vD (NB:=["speed","gap"]) rfl (by decide +kernel) (by decide +kernel) rfl (by decide +kernel) (xk (pv 4)) (by intro _ _ _;refine⟨?_,?_,?_⟩;(exact(Xd (K:=K) (n:=2) rfl rfl (zJ (pgl (i:=0) (show List.Nodup (["speed","gap"]:List Str) by decide +kernel)) (zJ (pgl (i:=1) (show List.Nodup (["speed","gap"]:List Str) by decide +kernel)) xL))));(exact xI);(exact(zQ qM (by rfl) T.nAbs yG (za (pv 0) zd)))))) zd)))
  (ze (Xy (i:=6) (j:=7) rfl ZZ.nd rfl rfl (by decide) rfl rfl (za (zu zK (pv 6) (zu xJ (pv 8) (pv 5))) (za (zu zK (pv 7) (zu xJ (pv 8) (pv 5))) zd)) (by rfl))
  (ze (psl (i:=9) ZZ.nd (xR (za (pv 6) zd)))
  (ze (vd PassesOwn.leaving rfl (xk (pv 4)) (pgl (i:=11) ZZ.nd) (zo (ziS (i:=9) ZZ.nd rfl (Or.inl rfl) (zC c4 a5 (za (pv 11) (za (zC b7 a5 (za (pv 0) zd)) (za (pv 8) (za (pv 6) (za (pv 7) zd)))))) zej)))
  (ze (psl (i:=10) ZZ.nd (zbJ rfl (by rfl) d4 (by rfl) d2 (pv 9)))
  (ze (xv (zH Xp (zQ xj (by rfl) T.nLen PySem.boot_len (za (pv 10) zd)) (J5 (v:=.int 1000) (by rfl) TM ⟨_,rfl⟩) (zF _)) (zo zeZ) zU)
  (zo (zE (zS (za (pv 10) (za (pv 8) zd))))))))))))))))),?_⟩
 try dsimp only[xc,Cx.nox]
 rcases lz with _ | l
 ·obtain rfl:=b6
  rcases K' with⟨_,k⟩ | ⟨_,e,_⟩
  case inr=>cases e
  refine⟨_,rL,rL,_,rL,xO ⟨_,rL,p,_,_,_,rL,rL,.of hp,at0 ..,zL1,λL hL=>?_⟩⟩
  have S1:=zk.upd (o:=.lst [.int b.1]) hL
  have b3:=S1 _ _ hp
  refine⟨_,rL,p,_,_,_,rL,rL,.of b3,at1 ..,zL2,λr hr=>?_⟩
  have S2:=zk.upd (o:=.tup [.ref L,.int b.2]) hr
  exact k r L [b.1] b.2 _ (S1.trans S2) zg (S2 _ _ zg) ⟨rL,rL⟩
 obtain⟨q,rfl,hq⟩:=b6
 have I:LkA (2*(h0.1-l0.1)) b l (zP l0.1 z trs):=by
  rcases K' with⟨hG,_⟩ | ⟨_,e,I,_⟩
  ·exact(hG l rL).1
  ·cases e;exact I
 refine⟨_,rL,rL,_,rL,xz ?_⟩
 refine⟨_,rL,_,rL,c,z,pb,sb,tk,ws,trs,l0,some h0,rL,b2,R.l8,R.bl,λL us H1 S1 d9 hL hP=>?_⟩
 dsimp only[zD]
 have b3:=S1 _ _ hp
 have d1:=S1 _ _ hq
 have hT:lv (VO (some l0) (some h0))=V.int (2*(h0.1-l0.1)):=rfl
 generalize 2*(h0.1-l0.1)=T' at *
 generalize zP l0.1 z trs=gs at *
 obtain⟨B0,bB,_,_⟩:=I.B
 have bF:=I.F
 have bL:=I.L
 obtain⟨N0,_,_⟩:=I.N
 have bM:∀{n:Nat}{i:Int},Bd n i->n<=8000->Bd 1000000 i:=λh l=>h.mono ∅
 refine⟨_,rfl,p,_,_,_,rfl,rfl,.of b3,at1 ..,_,rfl,q,_,_,_,rfl,rfl,.of d1,at1 ..,zL2,λD1 a1=>⟨D1,[b.2,l.2],rfl,zg,λk m=>⟨(I.pos2 k m).1,(I.pos2 k m).2.md⟩,by show 2<=20;decide,?_⟩⟩
 have S2:=S1.trans (zk.upd (o:=.lst [.int b.2,.int l.2]) a1)
 have P2:=hP.tups (.of (zk.upd (o:=.lst [.int b.2,.int l.2]) a1))
 have L2:=(zk.upd (o:=.lst [.int b.2,.int l.2]) a1) _ _ hL
 dsimp only[List.map]
 generalize upd H1 D1 (.lst [.int b.2,.int l.2])=H2 at S2 P2 L2
 have b4:=S2 _ _ hp
 have b9:=S2 _ _ hq
 show _
 refine⟨_,rfl,p,_,_,_,rfl,rfl,.of b4,at0 ..,_,rfl,_,rfl,p,_,_,_,rfl,rfl,.of b4,at1 ..,_,_,rfl,rfl,⟨yu I.bb.2.2,I.bb.2.1.md⟩,_,_,rfl,rfl,⟨bM I.bb.1 (by decide),bM (bdx bB) (by decide)⟩,?_⟩
 nofun
 refine⟨_,rfl,_,rfl,q,_,_,_,rfl,rfl,.of b9,at0 ..,_,rfl,_,rfl,q,_,_,_,rfl,rfl,.of b9,at1 ..,_,_,rfl,rfl,⟨yu I.bl.2.2,I.bl.2.1.md⟩,_,_,rfl,rfl,⟨bM I.bl.1 (by decide),bM (bdx bB) (by decide)⟩,_,_,rfl,rfl,?_⟩
 nofun
 refine zG (λU G=>U=[Sr c,Si z,Sr p,Sr q,Sr L,some (.int (lkB b l)),some (.int (lkF b l)),some (.int (lkL b l)),none,none,none,none]/\zk H2 G/\LkG T' b l gs/\∀r L ms N H',zk H H'->H' r=some (.tup [.ref L,.int N])->H' L=some (.lst (ms.map V.int))->LkO T' b gs ms N (some l)->Q (.ref r) H') ?_ ?_
 rotate_left
 ·intro nx S
  refine⟨_,rL,_,rL,c,pb,sb,tk,ws,trs,some l0,some h0,rL,b2.same S2,R.wl,R.wh,?_⟩
  rw[hT]
  refine⟨_,rL,_,rL,_,rL,zL2,λe he=>?_⟩
  have O:=zk.upd (o:=.tup [.int (lkL b l),.int (lkB b l)]) he
  refine⟨us,gs,T',b,(lkL b l,lkB b l),⟨⟨L,p,e,rL,O _ _ L2,O _ _ b4,zg⟩,P2.tups (.of O),I.l16,λg m=>⟨(I.bg g m).2.1.md,(I.bg g m).2.2.md⟩,⟨I.T0.1,I.T0.2.md⟩,⟨I.bb.1.md,I.bb.2.1.md,I.bb.2.2⟩,⟨bL.md,bB.md,B0⟩⟩,?_⟩
  rcases K' with⟨hG,k⟩ | ⟨_,e',_,hd,k⟩
  ·exact .inl ⟨(hG l rL).2.df,S _ _ ⟨rL,O,(hG l rL).2,k⟩⟩
  ·cases e';exact .inr ⟨hd,CE,rfl,k _ (S2.trans O)⟩
 rintro σ3 H3 ⟨rfl,O,ZG,k⟩
 have S3:=S2.trans O
 have P3:=P2.tups (.of O)
 have L3:=O _ _ L2
 have lu:=hP.1
 have d8:=I.l16
 refine zG (λU G=>U=[Sr c,Si z,Sr p,Sr q,Sr L,some (.int (lkB b l)),some (.int (lkF b l)),some (.int (lkL b l)),some (.int (lkN b l gs)),none,none,none]/\zk H3 G/\ZJ G us gs/\G L=some (.lst us)) ?_ ?_
 rotate_left
 ·intro nx S
  refine⟨_,rL,zL1,λD1 a1=>?_⟩
  have a4:=zk.upd (o:=.lst [.int (lkB b l)]) a1
  have P4:=P3.tups (.of a4)
  have L4:=a4 _ _ L3
  have D4:upd H3 D1 (.lst [.int (lkB b l)]) D1=some (.lst [.int (lkB b l)]):=zg
  generalize upd H3 D1 (.lst [.int (lkB b l)])=H4 at a4 P4 L4 D4
  refine⟨_,rL,L,rL,⟨_,SqL.of L4⟩,λDe c5=>?_⟩
  refine Zf (J:=Itl K L) (g:=zaE K 2 (v5 (zD 0) (v5 (zD 1) zbr))) (te:=_) (n:=2) (xs:=us) (λi v G=>∃n,(gs.map λg=>zY g.1)[i]?=some n/\v=.int n) (λ_ _ _ _ _ h=>h) c5 (xq L4) (qo (by rw[lu];lia)) ?_ ?_
  ·intro i y zs G2 Q' hy hz S5 hQ
   rcases q:P4.2 i y hy with⟨g,a,hg,rfl,ha⟩
   obtain⟨w1,w2,rfl⟩:=zer hz
   exact⟨a,_,rfl,.of (S5 _ _ ha),rfl,_,_,rfl,_,_,rfl,rfl,_,rfl,_,rfl,hQ _ _ (zk.refl _) ⟨_,by rw[wu,hg];rfl,rfl⟩⟩
  intro c7 G2 S5 a8 d7 d5
  have e2:c7=(gs.map λg=>zY g.1).map V.int:=Qd (by rw[wc];lia) λi v e=>d5 i v e
  rw[e2]at a8
  have P5:=P4.tups (.of S5)
  have c8:=S5 _ _ L4
  have D5:=S5 _ _ D4
  refine⟨D1,De,_,_,rfl,rfl,D5,a8,szl (by rw[wc,wc,yR];lia),λp5 d3=>⟨p5,lkB b l::gs.map λg=>zY g.1,rfl,zg,I.posN,by rw[wx,wc];lia,?_⟩⟩
  have W:=zk.upd (o:=.lst ([.int (lkB b l)]++(gs.map λg=>zY g.1).map V.int)) d3
  have P6:=P5.tups (.of W)
  have L6:=W _ _ c8
  exact S _ _ ⟨rL,a4.trans (S5.trans W),P6,L6⟩
 rintro σ6 H6 ⟨rfl,W,P6,L6⟩
 have S6:=S3.trans W
 have bN:=ZG.bn
 have ND:Bd 1301 ((lkN b l gs).fdiv (lkB b l)):=bdx bN
 refine zG (λU G=>U=[Sr c,Si z,Sr p,Sr q,Sr L,some (.int (lkB b l)),some (.int (lkU b l gs (lkF b l))),some (.int (lkU b l gs (lkL b l))),some (.int (lkN b l gs)),none,none,none]/\G=H6) ?_ ?_
 rotate_left
 ·intro nx S
  refine⟨_,rfl,_,rfl,_,rfl,_,_,rfl,rfl,⟨yu B0,bB.md⟩,_,_,rfl,rfl,⟨bM bF (by decide),bM ND (by decide)⟩,?_⟩
  refine⟨_,rfl,_,rfl,_,rfl,_,_,rfl,rfl,⟨yu B0,bB.md⟩,_,_,rfl,rfl,⟨bM bL (by decide),bM ND (by decide)⟩,_,_,rfl,?_⟩
  exact S _ _ ⟨rL,rL⟩
 rintro σ7 _ ⟨rfl,rfl⟩
 refine zG (λU G=>∃M,U=[Sr c,Si z,Sr p,Sr q,Sr L,some (.int (lkB b l)),some (.int (lkU b l gs (lkF b l))),some (.int (lkU b l gs (lkL b l))),some (.int (lkN b l gs)),Sr M,none,none]/\zk H G/\G M=some (.lst ([lkU b l gs (lkF b l)].map V.int))/\G L=some (.lst us)/\ZJ G us gs/\M≠L/\H M=none) ?_ ?_
 rotate_left
 ·intro nx S
  refine⟨_,rL,zL1,λM hM=>?_⟩
  have b0:=zk.upd (o:=.lst [.int (lkU b l gs (lkF b l))]) hM
  refine S _ _ ⟨M,rfl,S6.trans b0,zg,b0 _ _ L6,P6.tups (.of b0),(λe=>by rw[e,L6]at hM;cases hM),?_⟩
  cases e:H M with
  |none=>rfl
  |some o=>rw[S6 _ _ e]at hM;cases hM
 rintro σ8 H7 Y;rcases q:Y with⟨M,rfl,S7,M7,L7,P7,c3,Mn⟩
 have b8:=ZG.ln
 unfold lkM at b8
 rw[wx]at b8
 generalize hF:lkU b l gs (lkF b l)=F at *
 generalize hE:lkU b l gs (lkL b l)=E' at *
 generalize hN:lkN b l gs=N at *
 have d0:∀{n:Nat},n<=9000->n<=sizeLine:=λh=>by rw[sizeLine_eq];lia
 refine zG (λU G=>∃x,U=[Sr c,Si z,Sr p,Sr q,Sr L,some (.int (lkB b l)),Si F,Si E',Si N,Sr M,none,x]/\zk H G/\G M=some (.lst ((F::lkG T' N F E' gs).map V.int))) ?_ ?_
 rotate_left
 ·intro nx S
  refine⟨_,rL,L,rL,⟨_,SqL.of L7⟩,?_⟩
  refine vm (xs:=us) (λi U G=>∃x,U=[Sr c,Si z,Sr p,Sr q,Sr L,some (.int (lkB b l)),Si F,Si E',Si N,Sr M,none,x]/\zk H G/\G M=some (.lst ((F::lkG T' N F E' (gs.take i)).map V.int))/\G L=some (.lst us)/\ZJ G us gs) ⟨none,rL,S7,M7,L7,P7⟩ (λi U G _ ⟨_,_,_,_,h,_⟩=>SqL.of h) ?_ ?_
  ·rintro i y U G hy Y;rcases q:Y with⟨x,rfl,SG,a3,c2,a9⟩
   rcases q:a9.2 i y hy with⟨g,a,eg,rfl,ha⟩
   have m:=wL eg
   have sp:=I.stp m
   rw[hN]at sp
   dsimp only[zD]
   refine⟨_,rL,_,rL,_,rL,c,pb,sb,tk,ws,trs,some l0,some h0,rL,b2.same SG,R.wl,R.wh,?_⟩
   rw[hT]
   have hc:=ZG.cn g m
   rw[hN,hF,hE]at hc
   refine⟨_,rfl,_,rfl,_,rfl,a,T',N,F,E',g,lkC T' N F E' g,rfl,ha,(I.bg g m).1,(I.bg g m).2.1.md,(I.bg g m).2.2.md,I.T0.2.md,bN.md,sp,ze6 sp,by lia,λl' H' S' e1 hl=>?_⟩
   have b5:=zig T' N F E' gs (i+1)
   have et:=zeu (T:=T') (F:=N) (b:=F) (e:=E') eg
   rw[et,wV]at b5
   have a6:=S' _ _ a3
   refine⟨M,l',_,_,rL,rL,a6,hl,d0 ?_,?_⟩
   ·rw[wc,wc,wx]
    unfold lkW at b5
    lia
   refine⟨_,rL,vG (SG.trans S') Mn,?_,?_,?_⟩
   ·rw[zg,<-yt,et];rfl
   ·rw[zT (Ne.symm c3)];exact S' _ _ c2
   ·exact(a9.tups (.of S')).tups (xx.upd a6)
  ·rintro U G Y;rcases q:Y with⟨x,rfl,SG,a3,c2,a9⟩
   rw[lu,yq]at a3
   exact S _ _ ⟨x,rL,SG,a3⟩
 rintro σ9 H9 ⟨x,rfl,S9,M9⟩
 refine⟨_,rfl,M,_,rfl,SqL.of M9,by rw[wx];lia,λDr ms c6 a7 nd pw=>?_⟩
 have b1:upd H9 Dr (.lst (ms.map V.int)) Dr=some (.lst (ms.map V.int)):=zg
 have c0:=S9.trans (zk.upd (o:=.lst (ms.map V.int)) c6)
 have e0:ms.length<=1000:=ZG.mx ms (by unfold lkM;rw[hN,hF,hE];exact a7) nd
 dsimp only[zD]
 generalize upd H9 Dr (.lst (ms.map V.int))=H10 at b1 c0
 refine⟨_,rL,Dr,_,rL,.inl (.of b1),_,_,rL,rL,_,rL,?_⟩
 rw[wc,wy ∅]
 refine xz ⟨_,rL,_,rL,zL2,λr hr=>?_⟩
 have c1:=zk.upd (o:=.tup [.ref Dr,.int N]) hr
 exact k r Dr ms N _ (c0.trans c1) zg (c1 _ _ b1) ⟨hN.symm,by unfold lkM;rw[hN,hF,hE];exact a7,nd,pw⟩
inductive zji  (vs:List V) (H:Hp) (Q:VK) (_e3:XK):Prop
 |mk:∀p q x y,(vs=[.ref p,.ref q])->(zr H p x)->(zr H q y)->(Sz2 x y)->(Q (.bl (decide (x<y))) H)->zji vs H Q _e3
theorem zi7:zB ["one","other"] ["one","other"] (zj zbL):=scq
theorem ziD (D:Df K mg "less" zbL ["one","other"] []):Cal P w K mg base "less" 1 ["one","other"] [] zji:=by
 rcases r:D.calq (k:=0) zi7 with⟨p,q,x,y,rfl,O,G,⟨S,U⟩,k⟩
 have I:=Bd4 S
 have F:=Bd4 U
 refine⟨_,(zo (zE (xY Zi (zu zK (pxt (pv 0)) (pxt (pv 1))) (zu zK (pxt (pv 1)) (pxt (pv 0))) (zF _)))),?_⟩
 try dsimp only[xc,Cx.nox]
 refine⟨_,rL,p,_,_,_,rL,rL,.of O,at0 ..,_,rL,q,_,_,_,rL,rL,.of G,at1 ..,_,_,rL,rL,⟨I.1,F.2⟩,_,rL,q,_,_,_,rL,rL,.of G,at0 ..,_,rL,p,_,_,_,rL,rL,.of O,at1 ..,_,_,rL,rL,⟨F.1,I.2⟩,_,_,rL,rL,?_⟩
 show Q (.bl (decide (x.num*(y.den:Int)<y.num*(x.den:Int)))) H
 rw[zes];exact k
structure zjN (H:Hp) (a:Addr) (lo hi:Rat):Prop where
 w:∃b c p q p' q',H a=some (.tup [.ref b,.ref c])/\H b=some (.tup [.ref p,.ref p'])/\H c=some (.tup [.ref q,.ref q'])/\zr H p lo/\zr H q hi
theorem Ln.ws {H:Hp}{r a:Addr}{bs:List Bl}{lo hi x y:Rat}(h:Ln H r a bs (some (lo,x)) (some (hi,y))):zjN H a lo hi:=by
 obtain⟨W,v2,h1,⟨b,p,q,rfl,G,U,V⟩,⟨c,F,S,rfl,O,I,Y⟩⟩:=h.walls
 exact⟨b,c,p,F,q,S,h1,G,O,U,I⟩
inductive zfv  (vs:List V) (H:Hp) (Q:VK) (_e3:XK):Prop
 |mk:∀a m lo hi y,(vs=[.ref a,.ref m])->(zjN H a lo hi)->(zr H m y)->(Sz 4000 lo)->(Sz 4000 hi)->(Sz 4000 y)->(lo<=y)->(y<=hi)->(Q .non H)->zfv vs H Q _e3
theorem zja:zB ["walls","place"] ["walls","place"] (zj qS):=scq
theorem ziJ (D:Df K mg "refuse_no_place" qS ["walls","place"] []) (F:Cal P w K mg base "less" 1 ["one","other"] [] zji):Cal P w K mg base "refuse_no_place" 2 ["walls","place"] [] zfv:=by
 rcases r:D.calq (k:=1) zja with⟨a,m,lo,hi,y,rfl,⟨b,c,p,q,p',q',h1,h2,U,W,O⟩,I,S,V,G,Y,y1,k⟩
 refine⟨_,(zo (xv ((Ql (qr (zC F hr (za (pv 1) (za (pxt (pxt (pv 0))) zd))) λ_=>rL) (Xz (qr (zC F hr (za (pxt (pxt (pv 0))) (za (pv 1) zd))) λ_=>rL)))).pt Zj zU)),?_⟩
 try dsimp only[xc,Cx.nox]
 refine⟨_,rL,_,rL,a,_,_,_,rL,rL,.of h1,at0 ..,b,_,_,_,rL,rL,.of h2,at0 ..,m,p,y,lo,rL,I,W,⟨G,S⟩,?_⟩
 rw[wy (show ¬y<lo by grind)]
 refine⟨_,rL,xz ⟨_,rL,a,_,_,_,rL,rL,.of h1,at1 ..,c,_,_,_,rL,rL,.of U,at0 ..,_,rL,q,m,hi,y,rL,O,I,⟨V,G⟩,?_⟩⟩
 rw[wy (show ¬hi<y by grind)]
 exact⟨_,rL,xz k⟩
theorem QY:zB ["row","walls","k","place","t","course","spot","found","lasting","moments","bottom","moment"] ["row","walls","k","place","t"] (zj zbN):=scq
theorem ziX {a b c:Int}{n:Nat}(O:0<c) (F:Builtin.Range.rangeSize a b c=(n:Int)){k:Int}(m:k∈VF a c n):a<=k/\k<b:=by
 obtain⟨i,I,rfl⟩:=wf.mp m
 have hi:=Wd.mp I
 unfold Builtin.Range.rangeSize at F
 rw[if_pos O]at F
 split at F
 ·have h1:=W4 (b-a-1) c
  have h2:=yS (b-a-1) (show c≠0 by lia)
  generalize (b-a-1)/c=q at *
  have G:(i:Int)<=q:=by lia
  have U:(i:Int)*c<=q*c:=yx G ∅
  have S:0<=(i:Int)*c:=Wy ∅ ∅
  rw[uo c q]at h1
  lia
 ·lia
theorem zet {T F b e:Int}:∀{gs:List (Int×Int)}{k:Int},(∀g∈gs,0<vW T F g)->k∈lkG T F b e gs->b<k/\k<e
 |[],k,_,m=>by cases m
 |g::gs,k,h,m=>by
  rcases wY.mp m with m | m
  ·have hs:=h g wB
   have:=ziX hs (ze6 hs) m
   have:=yS (Xn F g-b-1) (show vW T F g≠0 by omega)
   unfold zbz at *
   omega
  ·exact zet (λx q=>h x (wR _ q)) m
theorem zjX {T:Int}{b l:Int×Int}{gs:List (Int×Int)} (A:LkA T b l gs){k:Int}(m:k∈lkM T b l gs):k=lkU b l gs (lkF b l)\/(lkU b l gs (lkF b l)<k/\k<lkU b l gs (lkL b l)):=by
 rcases ww.mp m with h | h
 ·exact .inl h
 ·exact .inr (zet (λg q=>A.stp q) h)
theorem zjW {T:Int}{b l:Int×Int}{gs:List (Int×Int)} (A:LkA T b l gs) (G:LkG T b l gs){k:Int}(m:k∈lkM T b l gs):Bd 2000 k:=by
 have I:Bd 1301 ((lkN b l gs).fdiv (lkB b l)):=bdx G.bn
 have h1:Bd 2000 (lkU b l gs (lkF b l)):=(A.F.mul I).md
 have h2:Bd 2000 (lkU b l gs (lkL b l)):=(A.L.mul I).md
 rcases zjX A m with h | h
 ·rw[h];exact h1
 ·have O:(lkU b l gs (lkF b l)).natAbs<2^2000:=h1
  have S:(lkU b l gs (lkL b l)).natAbs<2^2000:=h2
  show k.natAbs<2^2000
  generalize 2^2000=X at *
  omega
theorem zev {T:Int}{b:Int×Int}{gs:List (Int×Int)}{ms:List Int}{N:Int}{lz:Option (Int×Int)} (F:Bd 260 b.1/\Bd 140 b.2/\0<b.2) (h:LkO T b gs ms N lz) (hz:∀l,lz=some l->LkA T b l gs/\LkG T b l gs):(∀k∈ms,Bd 2000 k)/\Bd 2000 N/\0<N/\ms.length<=1000:=by
 cases lz with
 |none =>
  obtain⟨rfl,rfl⟩:=h
  exact⟨λk m=>by rw[wU.mp m];exact F.1.md,F.2.1.md,F.2.2,by show 1<=1000;decide⟩
 |some l =>
  obtain⟨rfl,I,O,_⟩:=h
  obtain⟨A,G⟩:=hz l rfl
  exact⟨λk m=>zjW A G ((I k).mp m),G.bn.md,A.N.1,G.mx ms I O⟩
theorem CoT.same {H H':Hp}{C c S:Addr}{U O:Int}{tk:Rat}{ws:List Int}{trs:List (Int×Int)}{lo hi:Option (Int×Int)} (h:CoT H C c S U O tk ws trs lo hi) (e:zk H H'):CoT H' C c S U O tk ws trs lo hi:=by
 obtain⟨dx,fs,tv,h1,F,W,h4,V⟩:=h
 obtain⟨tp,t1,t2⟩:=F.tick
 obtain⟨wl,w1,Y⟩:=F.weights
 obtain⟨G,I,r1,r2,r3⟩:=F.tracks
 obtain⟨a,a1,a2⟩:=F.low
 obtain⟨b,b1,b2⟩:=F.high
 exact⟨dx,fs,tv,e _ _ h1,⟨F.pb,F.sb,⟨tp,t1,e _ _ t2⟩,⟨wl,w1,e _ _ Y⟩,⟨G,I,r1,e _ _ r2,r3.keeps (.of e)⟩,⟨a,a1,a2.keeps (.of e)⟩,⟨b,b1,b2.keeps (.of e)⟩,F.len⟩,W,e _ _ h4,V.keeps (.of e)⟩
theorem CoT.at {H:Hp}{C c O:Addr}{G I:Int}{tk:Rat}{ws:List Int}{trs:List (Int×Int)}{lo hi:Option (Int×Int)} (h:CoT H C c O G I tk ws trs lo hi):Xk H C c G I tk ws trs lo hi:=by
 obtain⟨dx,fs,tv,h1,F,_⟩:=h
 exact⟨dx,fs,h1,F⟩
def moQ (tk:Rat) (t N:Int):Rat:=Rat.divInt (t*tk.num) (N*(tk.den:Int))
structure WhZ (bs:List Bl) (lo hi:Rat×Rat) (y x:Rat) (p s m z:Int) (trs:List (Int×Int)) (l h:Int×Int) (tk:Rat) (b:Int×Int):Prop where
 ep:p=pbO bs (some lo) (some hi)
 es:s=sbO bs (some lo) (some hi)
 em:m=(xT [p,(y.den:Int)]).fdiv p
 et:trs=(bs.map λb=>trB p s (b.pl,b.sp)).map (scT m)
 el:l=scT m (trB p s lo)
 eh:h=scT m (trB p s hi)
 etk:tk=Rat.divInt s p
 ez:z=y.num*(p*m).fdiv (y.den:Int)
 eb:b=((x/tk).num,((x/tk).den:Int))
 bp:Bd 200 p
 yz:Sz 190 y
 tr:∀t∈trs,BdP 1900 t
 bl:Bd 1900 l.1
 bh:Bd 1900 h.1
 lh:l.1<h.1
 bz:Bd 2000 z
 zx:Sz2 x tk
 bb:Bd 260 b.1/\Bd 140 b.2
structure WhA (H:Hp) (vs:List V) (k:Int) (bs:List Bl) (lo hi:Rat×Rat) (y x:Rat):Prop where
 ex:∃r a q u,vs=[.ref r,.ref a,.int k,.ref q,.ref u]/\Ln H r a bs (some lo) (some hi)/\zr H q y/\zr H u x
 lz:LnZ bs (some lo) (some hi)
 b0:∃b0,bs[0]?=some b0/\plB (tb b0) (bs.map tb) (some lo) (some hi)=true
 hk:0<=k/\k<bs.length
 yi:lo.1<=y/\y<=hi.1
def LzZ (T:Int) (tk:Rat) (pss:List (Int×List Int)) (lz:Option (Int×Int)):Prop :=
 (pss=[]->lz=none)/\(pss≠[]->∀kgs,KgZ T pss kgs->Sz2 (xi (ptL T tk kgs)) tk/\lz=some ((xi (ptL T tk kgs)/tk).num,((xi (ptL T tk kgs)/tk).den:Int)))
inductive zha (CE:Addr) (vs:List V) (H:Hp) (Q:VK) (E:XK):Prop
 |mk:∀k bs lo hi y x p s m z trs l h tk b T pss lz,(WhA H vs k bs lo hi y x)->(WhZ bs lo hi y x p s m z trs l h tk b)->(RoG bs lo hi T s tk pss)->(LzZ T tk pss lz)->((((∀l',lz=some l'->LkA (2*(h.1-l.1)) b l' (zP l.1 z trs)/\LkG (2*(h.1-l.1)) b l' (zP l.1 z trs))/\∀ms N,LkO (2*(h.1-l.1)) b (zP l.1 z trs) ms N lz->(∀t,ms.find? (λt=>qV (some l) (some h) trs k z t N)=some t->∀r q H',zk H H'->H' r=some (.tup [.str "at",.ref q])->zr H' q (moQ tk t N)->Q (.ref r) H')/\(ms.find? (λt=>qV (some l) (some h) trs k z t N)=none->∀r L us H',zk H H'->H' r=some (.tup [.str "never",.ref L])->H' L=some (.lst us)->ZK H' us (ms.map λt=>moQ tk t N)->Q (.ref r) H'))\/∃l',lz=some l'/\LkA (2*(h.1-l.1)) b l' (zP l.1 z trs)/\(∃g∈zP l.1 z trs,1000<dif (2*(h.1-l.1)) b (lkL b l',lkB b l') g)/\∀H',zk H H'->E (.ref CE) none H'))->zha CE vs H Q E
theorem zkk {fi:Addr}{f5:FuncData}(D:Df K mg "when" zbN ["row","walls","k","place","t"] []) (T:TxB K mg) (TC:TCo K C) (M:Mk K C fi) (Fi:ZH P w K mg base CX0 4 fi f5 ["self","row","walls"] (zg6 C)) (i2:mg "Course" = some (.ref C)) (Bi:Ze K f5 ["self","row","walls"] [])
  (j5:Cal P w K mg base "refuse_no_box" 8 ["row","walls"] [] zg8) (g3:Cal P w K mg base "refuse_no_ball" 1 ["many","k"] [] zjj) (d3:Cal P w K mg base "refuse_no_place" 2 ["walls","place"] [] zfv)
  (h5:Cal P w K mg base "refine" 2 ["course","many"] [] (zjm C)) (cL:Cal P w K mg base "least_multiple" 2 ["numbers"] [] Jv) (j0:Cal P w K mg base "round_of" 9 ["row","walls"] [] za3) (e0:Cal P w K mg base "ticks_of" 4 ["course","moment"] [] (zjr C)) (j4:Vm P w K mg base "looked_at" 3 ["course","spot","begin","lasting"] [] (zjh C CE)) (d7:Cal P w K mg base "is_there" 2 ["course","k","spot","ticks"] [] (zfx C)) (d6:Cal P w K mg base "moment_of" 3 ["course","ticks"] [] (zfr C)) :
  Vm P w K mg base "when" 10 ["row","walls","k","place","t"] [] (zha CE):=by
 refine D.cal1 (k:=9) QY (λvs H Q E h=>by obtain⟨_,_,_,_,_,_,_,_,_,_,_,_,_,_,_,_,_,_,h,_⟩:=h;obtain⟨_,_,_,_,rfl,_⟩:=h.ex;rfl) (λf cdv A outer s0 H vs Q E U hh=>?_)
 have b6:xb 8 _:=U.md
 have g7:xb 5 _:=U.md
 have f6:xb 4 _:=U.md
 have d0:xb 3 _:=U.md
 have b3:xb 2 _:=U.md
 have j6:xb 1 _:=U.md
 rcases q:hh with⟨k,bs,lo,hi,y,x,p,s,m,z,trs,l,h,tk,b,T',pss,lz,WA,I,RG,LZ,K'⟩
 rcases q:WA.ex with⟨r,a,q,u,rfl,ln,hq,hu⟩
 obtain⟨b0,h0,hp⟩:=WA.b0
 have a1:=WA.lz
 have Z:=a1.bd ln.l8
 obtain⟨j8,d9,pl⟩:=ln.pl
 rw[h0]at d9;cases d9
 refine⟨_,(ze (qm (zC j5 b6 (za (pv 0) (za (pv 1) zd))))
  (ze (qm (zC g3 j6 (za (zQ xj (by rfl) T.nLen PySem.boot_len (za (pv 0) zd)) (za (pv 2) zd))))
  (ze (qm (zC d3 b3 (za (pv 1) (za (pv 3) zd))))
  (ze (ZS (i:=5) QY.nd rfl (Or.inr rfl) (zcv M Fi g7 (by rfl) i2 Bi .nil zeP (za (pv 0) (za (pv 1) zd))))
  (ze (qm (zC h5 b3 (za (pv 5) (za (zu xJ (zC cL b3 (za (xR (za (xG (pv 5) rfl) (za (pxt (pv 3)) zd))) zd)) (xG (pv 5) rfl)) zd))))
  (ze (psl (i:=6) QY.nd (zu zK (pxt (pv 3)) (zu xJ (xG (pv 5) rfl) (pxt (pv 3)))))
  (ze (psl (i:=7) QY.nd (zC j0 U (za (pv 0) (za (pv 1) zd))))
  (ze (psl (i:=8) QY.nd (Qj (zH qP (pv 7) xB (zF _)) xB (zC e0 f6 (za (pv 5) (za (pxt (pv 7)) zd)))))
  (ze (vP (zhy j4 d0 VX (za (pv 5) (za (pv 6) (za (zC e0 f6 (za (pv 5) (za (pv 4) zd))) (za (pv 8) zd))))) (qH rfl (zJ (pgl (i:=9) QY.nd) (zJ (J6 (i:=10) QY.nd rfl (Or.inr rfl)) xL))))
  (ze (vd PassesOwn.leaving rfl (xk (pv 9)) (pgl (i:=11) QY.nd) (zo (xv (qr (zC d7 b3 (za (pv 5) (za (pv 2) (za (pv 6) (za (zS (za (pv 11) (za (pv 10) zd))) zd))))) λ_=>rfl) (zo (zE (zS (za Zq (za (zC d6 d0 (za (pv 5) (za (zS (za (pv 11) (za (pv 10) zd))) zd))) zd))))) zU)))
  (zo (zE (zS (za Zq (za (qz (NB:=["moment"]) (FR:=["course","bottom"]) (js:=[5,10]) rfl rfl (λx c h=>Qx rfl rfl x c h) (.cons rfl rfl rfl ⟨_,rfl⟩ (.cons rfl rfl rfl ⟨_,rfl⟩ .nil)) rfl (by decide +kernel) rfl (by decide +kernel) (xk (pv 9)) (by intro _ _ _;refine⟨?_,?_,?_⟩;(exact(pgl (i:=0) (show List.Nodup (["moment","course","bottom"]:List Str) by decide +kernel)));(exact xI);(exact(zC d6 d0 (za (pv 1) (za (zS (za (pv 0) (za (pv 2) zd))) zd)))))) zd))))))))))))))),?_⟩
 try dsimp only[xc,Cx.nox]
 refine⟨_,rL,_,rL,r,a,_,_,lo,hi,rL,pl,hp,λH1 e1=>?_⟩
 have ln1:=ln.same e1
 obtain⟨us,Y,hB⟩:=ln1.row
 rcases q:ln1.walls with⟨v1,v2,ha,w1,w2⟩
 have i1:=hB.1
 refine⟨_,rfl,r,us,rfl,.inr (SqT.of Y),_,rfl,_,_,rfl,WA.hk.1,by rw[i1];exact WA.hk.2,?_⟩
 have i6:=hq.same e1
 have g2:=a1.sz _ (qK (bs:=bs) (hi:=some hi) (t:=lo) rfl)
 have j2:=a1.sz _ (vg (bs:=bs) (lo:=some lo) (t:=hi) rfl)
 refine⟨_,rL,_,rL,a,q,lo.1,hi.1,y,rL,ln1.ws,i6,g2.1.sz.md,j2.1.sz.md,I.yz.md,WA.yi.1,WA.yi.2,?_⟩
 nofun
 refine zG (λW G=>∃c tl,W=[Sr r,Sr a,Si k,Sr q,Sr u,Sr c,none,none,none,none,none,none]/\zk H G/\H c=none/\CoT G C c tl p s tk (bs.map Bl.wt) (bs.map λb=>trB p s (b.pl,b.sp)) (some (trB p s lo)) (some (trB p s hi))) ?_ ?_
 rotate_left
 ·intro nx O
  refine⟨_,rL,_,rL,λc dx hc g9 ne=>?_⟩
  have S0:zk H1 (upd (upd H1 dx (.own c)) c (.ins C dx [])):=(zk.upd g9).trans (zk.upd (by rw[zT ne.symm];exact hc))
  refine⟨c,dx,r,a,us,bs,v1,v2,some lo,some hi,rL,zg,S0 _ _ Y,hB.keeps (.of S0),S0 _ _ ha,w1.wl.keeps (.of S0),w2.wl.keeps (.of S0),ln.l8,λt mt=>⟨(a1.sz t mt).1.sz,(a1.sz t mt).2.sz⟩,λH2 X1 f0=>⟨rL,?_⟩⟩
  have S2:zk H H2:=e1.trans λb o e=>X1 b o (zZ e hc) (S0 b o e)
  have c8:H c=none:=by
   cases e:H c with
   |none=>rfl
   |some o=>rw[e1 _ _ e]at hc;cases hc
  rw[<-I.ep,<-I.es,<-I.etk]at f0
  rcases q:f0 with⟨i4,fs,tl,c1,c2,c3,_⟩
  rcases q:c2.tracks with⟨f8,tv,c4,c5,c6⟩
  rw[c3]at c4;cases c4
  exact O _ _ ⟨c,tl,rL,S2,c8,i4,fs,tv,c1,c2,c3,c5,c6⟩
 rintro σ1 H2 b9;rcases q:b9 with⟨c,tl,rfl,S2,c8,e9⟩
 have p0:0<p:=by rw[I.ep];exact Z.pb.1
 have pd:Pos 400 [p,(y.den:Int)]:=λk mk=>by
  rcases ww.mp mk with rfl | mk
  ·exact⟨p0,I.bp.md⟩
  ·rcases ww.mp mk with rfl | mk
   ·exact⟨den_pos y,I.yz.2.md⟩
   ·cases mk
 obtain⟨q0,qb,qd⟩:=Vy pd
 have g5:Bd 801 (xT [p,(y.den:Int)]):=qb.mono (by show 1+400*2<=801;decide)
 have m0:0<m:=by
  rw[I.em,wC _ ∅]
  exact Wv q0 ∅ (qd _ wB)
 have mb:Bd 802 m:=by rw[I.em];exact bdx g5
 have sb:0<s/\Bd 401 s:=by rw[I.es];exact Z.sb
 have c7:∀t∈ths bs (some lo) (some hi),BdP 2000 (trB p s t):=λt mt=>by
  rw[I.ep,I.es]
  exact⟨JG (a1.sz t mt).1.1 Z.pb.1 Z.pb.2,JG (a1.sz t mt).2.1 Z.sb.1 Z.sb.2⟩
 have BP:∀{t:Int×Int},BdP 2000 t->BdP 5000 t:=λh=>⟨h.1.md,h.2.md⟩
 have f7:trs.length<=8:=by rw[I.et,wc,wc];exact ln.l8
 have i8:∀{G G':Hp},zk H G->xg c G G'->zk H G':=λs1 s2 b o e=>s2 b o (zZ e c8) (s1 b o e)
 have g0:Sz 401 tk:=by rw[I.etk,I.ep,I.es];exact Z.tz
 have d5:tk≠0:=by rw[I.etk,I.ep,I.es];exact Z.t0
 refine zG (λW G=>W=[Sr r,Sr a,Si k,Sr q,Sr u,Sr c,none,none,none,none,none,none]/\zk H G/\Xk G C c (p*m) (s*m) tk (bs.map Bl.wt) trs (some l) (some h)) ?_ ?_
 rotate_left
 ·intro nx O
  rcases q:id e9 with⟨dx,fs,tv,hc,F,elt,j9,k1⟩
  have g4:=S2 _ _ hq
  refine⟨_,rfl,_,rfl,c,C,dx,fs,_,rfl,hc,TC.cls,TC.pb,F.pb,_,rfl,q,_,_,_,rfl,rfl,.of g4,at1 ..,zL2,λD1 h6=>⟨D1,[p,(y.den:Int)],rfl,zg,pd,by show 2<=20;decide,?_⟩⟩
  have c9:=zk.upd (o:=.lst [.int p,.int (y.den:Int)]) h6
  have a4:=e9.same c9
  have j3:=c9 _ _ hc
  nofun
  refine⟨_,rL,c,C,dx,fs,_,rL,j3,TC.cls,TC.pb,F.pb,_,_,rL,rL,⟨yu p0,I.bp.md⟩,?_⟩
  refine⟨c,tl,m,p,s,tk,_,_,_,_,by rw[I.em];rfl,a4,by rw[wc];exact ln.l8,mb.md,I.bp.md,sb.2.md,λt mt=>?_,λt e=>by cases e;exact BP (c7 _ (qK rfl)),λt e=>by cases e;exact BP (c7 _ (vg rfl)),λH4 f8 X4 _ h4=>?_⟩
  ·obtain⟨b',g6,rfl⟩:=wf.mp mt
   exact BP (c7 _ (QZ g6))
  ·rw[<-I.et,show (some (trB p s lo)).map (scT m)=some l by rw[I.el];rfl,show (some (trB p s hi)).map (scT m)=some h by rw[I.eh];rfl]at h4
   exact O _ _ ⟨rL,i8 (S2.trans c9) X4,h4.at⟩
 rintro σ2 H3 ⟨rfl,S3,a4⟩
 have wl:Wb (some l):=λt e=>by cases e;exact I.bl.md
 have wh:Wb (some h):=λt e=>by cases e;exact I.bh.md
 refine zG (λW G=>W=[Sr r,Sr a,Si k,Sr q,Sr u,Sr c,Si z,none,none,none,none,none]/\H3=G) ?_ ?_
 rotate_left
 ·intro nx O
  obtain⟨dx,fs,hc,F⟩:=id a4
  have e6:=S3 _ _ hq
  refine⟨_,rL,q,_,_,_,rL,rL,.of e6,at0 ..,_,rL,c,C,dx,fs,_,rL,hc,TC.cls,TC.pb,F.pb,_,rL,q,_,_,_,rL,rL,.of e6,at1 ..,_,_,rL,rL,⟨yu (den_pos y),I.yz.2.md⟩,_,_,rL,rL,⟨I.yz.1.md,(bdx (I.bp.mul mb)).md⟩,?_⟩
  exact O _ _ ⟨by rw[I.ez];rfl,rfl⟩
 rintro σ3 _ ⟨rfl,rfl⟩
 refine zG (λW G=>∃v7,W=[Sr r,Sr a,Si k,Sr q,Sr u,Sr c,Si z,some v7,none,none,none,none]/\zk H3 G/\((v7=.non/\lz=none)\/∃zz qq li lr,v7=.ref zz/\G zz=some (.tup [.ref qq,.ref li])/\zr G qq lr/\Sz2 lr tk/\lz=some ((lr/tk).num,((lr/tk).den:Int)))) ?_ ?_
 rotate_left
 ·intro nx O
  refine⟨_,rL,_,rL,r,a,bs,b0,lo,hi,T',s,tk,pss,rL,ln.same S3,a1,h0,hp,RG,λe G S=>O _ _ ⟨_,rL,S,.inl ⟨rL,LZ.1 e⟩⟩,λe zz G d8 qq li k0 S kz b7 c0 _ _ _=>O _ _ ⟨_,rL,S,.inr ⟨zz,qq,li,_,rL,b7,c0,(LZ.2 e d8 kz).1,(LZ.2 e d8 kz).2⟩⟩⟩
 rintro σ4 H4 ⟨v7,rfl,S4,h7⟩
 have b4:=a4.same S4
 have f9:=S3.trans S4
 refine zG (λW G=>∃v8,W=[Sr r,Sr a,Si k,Sr q,Sr u,Sr c,Si z,some v7,some v8,none,none,none]/\zk H4 G/\LzA G v8 lz) ?_ ?_
 rotate_left
 ·intro nx O
  rcases h7 with⟨rfl,e⟩ | ⟨zz,qq,li,lr,rfl,b7,c0,h9,e⟩
  ·refine⟨_,rL,rL,_,rL,xO ?_⟩
   exact O _ _ ⟨_,rfl,zk.refl _,by rw[e];rfl⟩
  ·refine⟨_,rL,rL,_,rL,xz ?_⟩
   refine⟨_,rL,_,rL,zz,_,_,_,rL,rL,.of b7,at0 ..,c,qq,p*m,s*m,tk,_,trs,some l,some h,lr,rL,b4,c0,h9,d5,λr8 G S b6=>?_⟩
   exact O _ _ ⟨_,rfl,S,by rw[e];exact⟨r8,rfl,b6⟩⟩
 rintro σ5 H5 ⟨v8,rfl,S5,h8⟩
 have a8:=b4.same S5
 have b8:=f9.trans S5
 refine zG (λW G=>∃L ms N,W=[Sr r,Sr a,Si k,Sr q,Sr u,Sr c,Si z,some v7,some v8,Sr L,Si N,none]/\zk H5 G/\G L=some (.lst (ms.map V.int))/\LkO (2*(h.1-l.1)) b (zP l.1 z trs) ms N lz/\(∀l',lz=some l'->LkA (2*(h.1-l.1)) b l' (zP l.1 z trs)/\LkG (2*(h.1-l.1)) b l' (zP l.1 z trs)) ∧  ∀ms N,LkO (2*(h.1-l.1)) b (zP l.1 z trs) ms N lz →    (∀t,ms.find? (λt=>qV (some l) (some h) trs k z t N)=some t->∀r q H',zk H H'->H' r=some (.tup [.str "at",.ref q])->zr H' q (moQ tk t N)->Q (.ref r) H') ∧    (ms.find? (λt=>qV (some l) (some h) trs k z t N)=none->∀r L us H',zk H H'->H' r=some (.tup [.str "never",.ref L])->H' L=some (.lst us)->ZK H' us (ms.map λt=>moQ tk t N)->Q (.ref r) H')) ?_ ?_
 rotate_left
 ·intro nx O
  refine⟨_,rL,_,rL,_,rL,_,rL,c,u,p*m,s*m,tk,_,trs,some l,some h,x,rL,a8,b8 _ _ hu,I.zx,d5,λr9 G S U=>?_⟩
  refine⟨_,rfl,trs,l,h,z,b,lz,⟨⟨c,r9,v8,p*m,s*m,tk,_,rfl,a8.same S,by rw[I.eb];exact U,?_⟩,f7,I.bl.md,wl,wh⟩,?_⟩
  ·cases lz with
   |none=>exact h8
   |some l'=>obtain⟨q8,e8,g8⟩:=h8;exact⟨q8,e8,S _ _ g8⟩
  rcases K' with⟨a5,kk⟩ | ⟨l',e',a5,hd,kk⟩
  ·refine .inl ⟨a5,λrr L ms N G2 a6 Y hL hO=>?_⟩
   refine⟨rr,_,rL,.of Y,rL,_,_,rL,_,_,rL,rL,?_⟩
   exact O _ _ ⟨L,ms,N,rL,S.trans a6,hL,hO,a5,kk⟩
  ·exact .inr ⟨l',e',a5,hd,λG2 a6=>⟨CE,rL,kk _ (b8.trans (S.trans a6))⟩⟩
 rintro σ6 H6 b9;rcases q:b9 with⟨L,ms,N,rfl,S6,hL,hO,a5,kk⟩
 have a7:=a8.same S6
 have d2:=b8.trans S6
 have b2:0<b.2:=by rw[I.eb];exact den_pos _
 obtain⟨bm,bN,N0,ml⟩:=zev ⟨I.bb.1,I.bb.2,b2⟩ hO a5
 obtain⟨kA,kN⟩:=kk ms N hO
 have j1:∀l' h',some l=some l'->some h=some h'->l'.1<h'.1:=λl' h' e1 e2=>by cases e1;cases e2;exact I.lh
 have i5:∀{n:Nat},n<=9000->n<sizeLine:=λh=>by rw[sizeLine_eq];lia
 have mo:∀(t:Int) (H':Hp) (e:Addr) (Q':VK),t∈ms->Xk H' C c (p*m) (s*m) tk (bs.map Bl.wt) trs (some l) (some h)->H' e=some (.tup [.int t,.int N])->(∀rq b1,zk H' b1->zr b1 rq (moQ tk t N)->Q' (.ref rq) b1)->∀E',zfr C [.ref c,.ref e] H' Q' E':=λt H' e Q' mt i3 he kq E'=>by
  obtain⟨dx,fs,hc,F⟩:=i3
  obtain⟨tp,f1,f2⟩:=F.tick
  exact⟨c,e,dx,fs,tp,tk,t,N,rL,hc,f1,f2,he,yu N0,(bm t mt).md,bN.md,g0.md,λrq b1 i0 e3=>kq rq b1 i0 e3⟩
 refine zG (λW G=>∃a3,W=[Sr r,Sr a,Si k,Sr q,Sr u,Sr c,Si z,some v7,some v8,Sr L,Si N,a3]/\zk H6 G/\ms.find? (λt=>qV (some l) (some h) trs k z t N)=none) ?_ ?_
 rotate_left
 ·intro nx O
  refine⟨_,rL,L,rL,⟨_,SqL.of hL⟩,?_⟩
  refine vm (xs:=ms.map V.int) (λi W G=>∃a3,W=[Sr r,Sr a,Si k,Sr q,Sr u,Sr c,Si z,some v7,some v8,Sr L,Si N,a3]/\zk H6 G/\∀t∈ms.take i,qV (some l) (some h) trs k z t N=false) ⟨none,rfl,zk.refl _,λt mt=>by simp at mt⟩ (λi W G _ ⟨_,_,S,_⟩=>SqL.of (S _ _ hL)) ?_ ?_
  ·rintro i v W G hv ⟨a3,rfl,S,a2⟩
   rw[wu]at hv
   cases hm:ms[i]? with
   |none=>rw[hm]at hv;cases hv
   |some t =>
   rw[hm]at hv;cases hv
   have mt:=wL hm
   have e7:=a7.same S
   dsimp only[zD]
   refine⟨_,rL,_,rL,_,rL,_,rL,_,rL,zL2,λe he=>?_⟩
   have Se:=zk.upd (o:=.tup [.int t,.int N]) he
   refine⟨c,e,k,z,p*m,s*m,tk,_,trs,some l,some h,t,N,rL,e7.same Se,zg,f7,λt' a9=>⟨(I.tr t' a9).1.md,(I.tr t' a9).2.md⟩,I.bz,bm t mt,bN,N0,wl,wh,j1,λG2 a6=>?_⟩
   refine⟨_,rL,?_⟩
   cases hb:qV (some l) (some h) trs k z t N with
   |true =>
    refine xO ?_
    have fa:ms.find? (λt=>qV (some l) (some h) trs k z t N)=some t:=by
     rw[W5]
     obtain⟨hi,e⟩:=wS.mp hm
     refine⟨hb,i,hi,e,λj hj=>?_⟩
     have:=a2 ms[j] (wL (i:=j) (by rw[Ys,if_pos hj];exact wJ ∅))
     rw[this];rfl
    have S7:=S.trans (Se.trans a6)
    refine⟨_,rL,_,rL,_,rL,zL2,λe2 g1=>?_⟩
    have d4:=zk.upd (o:=.tup [.int t,.int N]) g1
    dsimp only[Z6]
    refine mo t _ e2 _ mt (a7.same (S7.trans d4)) zg (λrq G3 d1 b5=>?_) _
    refine⟨zL2,λrr Y=>?_⟩
    have Sr:=zk.upd (o:=.tup [.str "at",.ref rq]) Y
    exact kA t fa rr rq _ (d2.trans (S7.trans (d4.trans (d1.trans Sr)))) zg (b5.same Sr)
   |false =>
    refine xz ⟨_,rL,S.trans (Se.trans a6),λt' a9=>?_⟩
    rw[yA,hm]at a9
    rcases wY.mp a9 with h' | h'
    ·exact a2 t' h'
    ·have:t'=t:=↥h'
     rw[this];exact hb
  ·rintro W G ⟨a3,rfl,S,a2⟩
   rw[wc,yq]at a2
   refine O _ _ ⟨a3,rL,S,?_⟩
   rw[WR]
   exact λt mt e=>by rw[a2 t mt]at e;cases e
 rintro σ7 H7 ⟨a3,rfl,S7,hn⟩
 have e4:=S7 _ _ hL
 refine⟨_,rL,L,rL,⟨_,SqL.of e4⟩,λDn i9=>?_⟩
 refine xE (js:=[5,10]) (J:=Itl K L) (g:=zD 0) (te:=_) (n:=1) (xs:=ms.map V.int) (λi v G=>∃t rq,ms[i]?=some t/\v=.ref rq/\zr G rq (moQ tk t N)) (λi v G G' e ⟨t,rq,q0,q1,q2⟩=>⟨t,rq,q0,q1,e _ _ q2⟩) i9 (xq e4) (i5 (by rw[wc];lia)) ?_ ?_
 ·intro i y zs G Q' hy hz S hQ
  rw[wu]at hy
  cases hm:ms[i]? with
  |none=>rw[hm]at hy;cases hy
  |some t =>
  rw[hm]at hy;cases hy
  obtain⟨w1,rfl⟩:=Xm hz
  refine⟨rL,_,rL,_,rL,_,rL,zL2,λe he=>?_⟩
  have Se:=zk.upd (o:=.tup [.int t,.int N]) he
  exact mo t _ e _ (wL hm) (a7.same (S7.trans (S.trans Se))) zg (λrq G3 d1 b5=>hQ _ _ (Se.trans d1) ⟨t,rq,hm,rL,b5⟩) E0
 intro i7 G S j7 e5 hR
 refine⟨zL2,λrr Y=>?_⟩
 have Sr:=zk.upd (o:=.tup [.str "never",.ref Dn]) Y
 refine kN hn rr Dn i7 _ (d2.trans (S7.trans (S.trans Sr))) zg (Sr _ _ j7) ⟨by rw[e5,wc,wc],λi v e=>?_⟩
 rcases q:hR i v e with⟨t,rq,h1,h2,h3⟩
 exact⟨_,rq,by rw[wu,h1];rfl,h2,h3.same Sr⟩
def raD (q:Rat):PyData:=.tuple [.int q.num,.int (q.den:Int)]
def zik (qs:List Rat):PyData:=.tuple [.str "never",.list (qs.map raD)]
def atD (q:Rat):PyData:=.tuple [.str "at",raD q]
def Lay (n:Nat) (d:PyData):Prop:=PyData.canLay0 d=true/\PyData.depth d<=n
theorem zc9 {n:Nat}:∀{ds:List PyData},(∀d∈ds,Lay n d)->PyData.canLayAll0 ds=true/\PyData.depthAll ds<=n
 |[],_=>⟨rfl,yb _⟩
 |d::ds,h=>by
  obtain⟨h1,h2⟩:=zc9 (ds:=ds) λe m=>h e (wR _ m)
  obtain⟨h3,h4⟩:=h d (wB ..)
  refine⟨?_,?_⟩
  ·show (PyData.canLay0 d&&_)=true
   rw[h1,h3];rfl
  ·show max (PyData.depth d) _<=n
   lia
theorem Lay.tup {n:Nat}{ds:List PyData}(h:∀d∈ds,Lay n d):Lay (n+1) (.tuple ds):=⟨(zc9 h).1,Nat.succ_le_succ (zc9 h).2⟩
theorem Lay.mono {m n:Nat}{d:PyData}(h:Lay m d) (e:m<=n):Lay n d:=⟨h.1,yJ h.2 e⟩
theorem Lay.md {m n:Nat}{d:PyData}(h:Lay m d) (e:m<=n:=by decide):Lay n d:=h.mono e
theorem Lay.int (i:Int):Lay 0 (.int i):=⟨rfl,wo _⟩
theorem Lay.rat (x:Rat):Lay 1 (raD x):=Lay.tup λd m=>by
 rcases ww.mp m with rfl | m
 ·exact .int _
 ·rcases ww.mp m with rfl | m
  ·exact .int _
  ·cases m
theorem Lay.shaped {n:Nat}{d:PyData}(h:Lay n d) (e:n<=64):SeqAt.shaped d=true:=by
 show (_&&_)=true
 rw[h.1,wm (yJ h.2 e)];rfl
theorem Lay.lst {n:Nat}{ds:List PyData}(h:∀d∈ds,Lay n d):Lay (n+1) (.list ds):=⟨(zc9 h).1,Nat.succ_le_succ (zc9 h).2⟩
theorem Lay.str {x:Str}(h:PyData.canLay0 (.str x)=true):Lay 0 (.str x):=⟨h,wo _⟩
theorem Lay.two {n:Nat}{a b:PyData}(h:Lay n a) (h':Lay n b):Lay (n+1) (.tuple [a,b]):=Lay.tup λd m=>by
 rcases ww.mp m with rfl | m
 ·exact h
 ·rw[wU.mp m];exact h'
theorem zeD (qs:List Rat):SeqAt.shaped (zik qs)=true:=(Lay.two (n:=2) ((Lay.str (by decide +kernel)).md) (Lay.lst λd m=>by obtain⟨q,_,rfl⟩:=wf.mp m;exact Lay.rat q)).shaped (by decide)
theorem zdL (q:Rat):SeqAt.shaped (atD q)=true:=(Lay.two (n:=1) ((Lay.str (by decide +kernel)).md) (Lay.rat q)).shaped (by decide)
theorem zr.rdD {H:Hp}{p:Addr}{q:Rat}(h:zr H p q):RdD H (.ref p) (raD q):=.tup h (.cons (.int _) (.cons (.int _) .nil))
theorem vq {H:Hp}:∀{us:List V}{qs:List Rat},ZK H us qs->Qt H us (qs.map raD)
 |[],[],_=>.nil
 |[],_::_,h=>by have:=h.1;simp at this
 |_::_,[],h=>by have:=h.1;simp at this
 |u::us,q::qs,h=>by
  obtain⟨q',r,e,e1,e2⟩:=h.2 0 u rfl
  simp at e;subst e;subst e1
  exact .cons (zr.rdD e2) (vq ⟨by have:=h.1;simpa using this,λi v e=>by simpa using h.2 (i+1) v ↥e⟩)
theorem ZK.same {H H':Hp}{us:List V}{qs:List Rat}(h:ZK H us qs) (e:zk H H'):ZK H' us qs:=⟨h.1,λi v q=>by obtain⟨x,r,e1,e2,e3⟩:=h.2 i v q;exact⟨x,r,e1,e2,e3.same e⟩⟩
theorem zh3 {A C M u v q:Int}(F:0<M) (I:0<u) (G:0<v) (h:C*u-A*v<=q*(M*(u*v))):C.fdiv (M*v)-A.fdiv (M*u)<=q:=by
 have V:0<M*v:=wQ F G
 have O:0<M*u:=wQ F I
 rw[wC _ ∅,wC _ ∅]
 have U:=W4 C (M*v)
 have W:=yS C (show M*v≠0 by lia)
 have Y:=W4 A (M*u)
 have a2:=yV A O
 generalize C/(M*v)=x at *
 generalize A/(M*u)=y at *
 rcases yD q (x-y)with k | k
 ·exfalso
  have h1:M*v*x*u<=C*u:=yx ∅ ∅
  have h2:A*v<(M*u*y+M*u)*v:=uh ∅ G
  have S:(q+1+y)*(M*(u*v))<=x*(M*(u*v)):=yx ∅ (yK (wQ F (wQ I G)))
  lia
 ·exact k
theorem zdG (a b:Int):(a<0/\zY a*b=-a*b)\/(0<=a/\zY a*b=a*b):=by
 unfold zY
 split
 ·exact .inl ⟨‹_›,rL⟩
 ·exact .inr ⟨by lia,rfl⟩
theorem dif_le {T q:Int}{b e g:Int×Int}(I:0<T) (G:0<b.2) (F:0<e.2) (h:zY g.1*(e.1*b.2-b.1*e.2)<=q*(T*(b.2*e.2))):dif T b e g<=q:=by
 have key:∀s w:Int,s*(e.1*b.2-b.1*e.2)<=q*(T*(b.2*e.2))->zaQ s w (some T) e.1 e.2-zaQ s w (some T) b.1 b.2<=q:=λs w h=>by
  show (s*e.1-w*e.2).fdiv (T*e.2)-(-w).fdiv T-((s*b.1-w*b.2).fdiv (T*b.2)-(-w).fdiv T)<=q
  have:=zh3 (A:=s*b.1-w*b.2) (C:=s*e.1-w*e.2) (q:=q) I G F (by
   have:(s*e.1-w*e.2)*b.2-(s*b.1-w*b.2)*e.2=s*(e.1*b.2-b.1*e.2):=by grind
   omega)
  omega
 unfold dif J4
 rcases zdG g.1 (e.1*b.2-b.1*e.2)with⟨c,k⟩ | ⟨c,k⟩
 ·rw[if_pos c,if_pos c];rw[k]at h;exact key _ _ h
 ·rw[if_neg (by omega),if_neg (by omega)];rw[k]at h;exact key _ _ h
section
variable {T:Int}{b l:Int×Int}{gs:List (Int×Int)}
theorem LkA.eF (h:LkA T b l gs):lkF b l*b.2=b.1*lkB b l:=by
 obtain⟨d,hd⟩:=h.B.2.2.1
 have:=h.bb.2.2
 unfold lkF
 rw[wC _ ∅]
 generalize lkB b l=B at *
 rw[hd,yf _ ∅]
 grind
theorem LkA.eL (h:LkA T b l gs):(lkL b l-lkF b l)*l.2=l.1*lkB b l:=by
 obtain⟨d,hd⟩:=h.B.2.2.2
 have:=h.bl.2.2
 unfold lkL
 rw[wC _ ∅]
 generalize lkB b l=B at *
 generalize lkF b l=F
 rw[hd,yf _ ∅]
 grind
theorem LkA.dif_le (h:LkA T b l gs){g:Int×Int}{q:Int}(S:zY g.1*l.1<=q*(T*l.2)):dif T b (lkL b l,lkB b l) g<=q:=by
 have F:=h.B.1
 have eF:=h.eF
 have eL:=h.eL
 have O:=h.bl.2.2
 have G:=h.bb.2.2
 refine KK.dif_le h.T0.1 G F ?_
 show zY g.1*(lkL b l*b.2-b.1*lkB b l)<=q*(T*(b.2*lkB b l))
 have e1:lkL b l*b.2-b.1*lkB b l=(lkL b l-lkF b l)*b.2:=by rw[<-eF];grind
 rw[e1]
 have h1:zY g.1*l.1*(b.2*lkB b l)<=q*(T*l.2)*(b.2*lkB b l):=yx S (yK (wQ G F))
 have e2:zY g.1*((lkL b l-lkF b l)*b.2)*l.2=zY g.1*l.1*(b.2*lkB b l):=by
  have:zY g.1*((lkL b l-lkF b l)*b.2)*l.2=zY g.1*b.2*((lkL b l-lkF b l)*l.2):=by grind
  rw[this,eL];grind
 have I:q*(T*(b.2*lkB b l))*l.2=q*(T*l.2)*(b.2*lkB b l):=by grind
 rw[<-e2,<-I]at h1
 exact Ym h1 O
theorem LkA.lkC_le (h:LkA T b l gs){g:Int×Int}(m:g∈gs){q:Nat}(V:zY g.1*l.1<=q*(T*l.2)):lkC T (lkN b l gs) (lkU b l gs (lkF b l)) (lkU b l gs (lkL b l)) g<=q:=by
 have W:=h.B.1
 have eL:=h.eL
 have U:=h.bl.2.2
 have st:=h.stp m
 have aV:=ZL (h.bg g m).1
 obtain⟨N0,I,G⟩:=h.N
 obtain⟨d,hd⟩:=I
 obtain⟨w,hw⟩:=G g m
 have S:0<d:=by
  rcases yD 0 d with c | c
  ·exact c
  ·have:=uc (show 0<=lkB b l by lia) c;lia
 have O:∀x,lkU b l gs x=x*d:=λx=>by
  unfold lkU
  rw[wC _ ∅,hd,yf _ ∅]
 have eS:vW T (lkN b l gs) g=T*w:=by
  unfold vW
  rw[wC _ ∅,hw,yf _ ∅]
 have Y:(lkL b l*d-lkF b l*d)<=(q:Int)*(T*w):=by
  have h1:zY g.1*l.1*(lkB b l*d)<=(q:Int)*(T*l.2)*(lkB b l*d):=yx V (yK (wQ W S))
  have e1:zY g.1*l.1*(lkB b l*d)=(lkL b l*d-lkF b l*d)*(zY g.1*l.2):=by
   have:(lkL b l*d-lkF b l*d)*(zY g.1*l.2)=zY g.1*d*((lkL b l-lkF b l)*l.2):=by grind
   rw[this,eL];grind
  have e2:(q:Int)*(T*l.2)*(lkB b l*d)=(q:Int)*(T*w)*(zY g.1*l.2):=by
   rw[<-hd,hw];grind
  rw[e1,e2]at h1
  exact Ym h1 (wQ aV U)
 unfold lkC zbz
 rw[O,O]
 rw[eS]at st ⊢
 have nn:=yS (Xn (lkN b l gs) g-lkF b l*d-1) (show T*w≠0 by lia)
 generalize (Xn (lkN b l gs) g-lkF b l*d-1) % (T*w)=r at *
 generalize lkL b l*d=E at *
 generalize lkF b l*d=F at *
 generalize T*w=c at *
 unfold Builtin.Range.rangeSize
 rw[if_pos st]
 split
 ·have:(E-(F+1+r)-1)/c<q:=Int.ediv_lt_of_lt_mul st ∅
  lia
 ·lia
end
theorem zhw {α:Type} [DecidableEq α]:∀{L ms:List α},ms.Nodup->(∀k∈ms,k∈L)->ms.length<=L.length
 |[],[],_,_=>wo _
 |[],m::ms,_,h=>by have:=h m wB;cases this
 |x::L,ms,nd,h=>by
  have h1:(ms.erase x).length<=L.length:=zhw (nd.erase x) λk m=>by
   have:=(nd.mem_erase_iff).mp m
   rcases ww.mp (h k this.2)with e | e
   ·exact absurd e this.1
   ·exact e
  have h2:ms.length<=(ms.erase x).length+1:=by
   rw[List.length_erase];split <;> lia
  rw[wx];lia
theorem zcm {T F b e:Int}{q:Nat}:∀{gs:List (Int×Int)},(∀g∈gs,lkC T F b e g<=q)->(lkG T F b e gs).length<=gs.length*q
 |[],_=>yb _
 |g::gs,h=>by
  have h1:=h g wB
  have h2:=zcm (gs:=gs) λx m=>h x (wR _ m)
  show (lkW T F b e g++lkG T F b e gs).length<=_
  rw[wV,wx,Nat.succ_mul]
  have:(lkW T F b e g).length=lkC T F b e g:=by unfold lkW zgr VF;rw[wc,yU]
  lia
theorem LkG.of {T:Int}{b l:Int×Int}{gs:List (Int×Int)} (h:LkA T b l gs) (O:Bd 1300 (lkN b l gs)){q:Nat}(G:∀g∈gs,zY g.1*l.1<=q*(T*l.2)) (W:1+gs.length*q<=1000) (I:q<=1000):LkG T b l gs:=by
 have F:∀g∈gs,lkC T (lkN b l gs) (lkU b l gs (lkF b l)) (lkU b l gs (lkL b l)) g<=q:=λg m=>h.lkC_le m (G g m)
 have S:(lkM T b l gs).length<=1000:=by
  unfold lkM
  rw[wx]
  have:=zcm F
  lia
 refine⟨λg m=>yv (h.dif_le (G g m)) ∅,O,λg m=>yJ (F g m) I,by lia,λms V U=>yJ (zhw U λk m=>(V k).mp m) S⟩
theorem zgo {c v:Int}(G:0<c) (F:0<v):(c/(Int.gcd c v:Int)*v)/(Int.gcd (c/(Int.gcd c v:Int)*v) v:Int)*v=c/(Int.gcd c v:Int)*v:=by
 generalize c/(Int.gcd c v:Int)=d
 have:(Int.gcd (d*v) v:Int)=v:=by
  unfold Int.gcd;rw[Wf,Nat.gcd_mul_left_left];lia
 rw[this,Int.mul_ediv_cancel _ ∅]
theorem JS {n:Nat}{l0 z:Int}:∀(trs:List (Int×Int)) (c:Int) (m:Nat),0<c->Bd m c->(∀t∈trs,Bd n t.2)->0<lcF c ((zP l0 z trs).map λg=>zY g.1)/\Bd (m+n*trs.length) (lcF c ((zP l0 z trs).map λg=>zY g.1))
 |[],c,m,h,b,_=>⟨h,b⟩
 |t::r,c,m,h,b,hb=>by
  have I:=hb t wB
  have hr:=λx q=>hb x (wR _ q)
  show 0<lcF c ((Xu l0 z t++zP l0 z r).map λg=>zY g.1)/\Bd _ (lcF c ((Xu l0 z t++zP l0 z r).map λg=>zY g.1))
  unfold Xu
  by_cases e:t.2=0
  ·rw[if_pos e,WM]
   obtain⟨G,F⟩:=JS r c m h b hr
   exact⟨G,F.mono (by rw[wx,Y6];lia)⟩
  ·rw[if_neg e,yt]
   have p:=ZL e
   have O:=vL h p
   show 0<lcF (c/(Int.gcd c (zY t.2):Int)*zY t.2/(Int.gcd (c/(Int.gcd c (zY t.2):Int)*zY t.2) (zY t.2):Int)*zY t.2) _/\Bd _ (lcF (c/(Int.gcd c (zY t.2):Int)*zY t.2/(Int.gcd (c/(Int.gcd c (zY t.2):Int)*zY t.2) (zY t.2):Int)*zY t.2) _)
   rw[zgo h p]
   obtain⟨G,F⟩:=JS r _ (m+n) O (JE h p b (JB I)) hr
   exact⟨G,F.mono (by rw[wx,Y6];lia)⟩
theorem zih {T l0 z:Int}{b l:Int×Int}{trs:List (Int×Int)}{n:Nat}(h:LkA T b l (zP l0 z trs)) (G:Bd 300 (lkB b l)) (F:∀t∈trs,Bd n t.2):Bd (300+n*trs.length) (lkN b l (zP l0 z trs)):=by
 have e:lkN b l (zP l0 z trs)=lcF (lkB b l) ((zP l0 z trs).map λg=>zY g.1):=by
  unfold lkN xT lcF
  rw[uB]
  congr 1
  rw[WZ,show (Int.gcd (lkB b l) 1:Int)=1 by rw[Int.gcd_one_right];rfl]
  lia
 rw[e]
 exact(JS trs _ 300 h.B.1 G F).2
theorem zf3 {x:Rat}{b:Int}(h:(x.den:Int) ∣ b):byB x b*(x.den:Int)=x.num*b:=by
 obtain⟨k,F⟩:=h
 have G:0<(x.den:Int):=by have:=x.den_pos;lia
 have f1:b.fdiv (x.den:Int)=k:=by rw[wC _ ∅,F];exact yf _ ∅
 unfold byB
 rw[f1,F,WQ,uo k]
theorem Qy {t b:Int}(F:b≠0):(Rat.divInt t b).num*b=t*((Rat.divInt t b).den:Int):=by
 have h:=wW (Rat.divInt t b)
 rw[uD (by have:=(Rat.divInt t b).den_pos;lia) F]at h
 exact h
theorem ZO {ps:List (Int×List Int)}{k w:Int}{e:Int×List Int}(m:e∈Zm ps k w):e=(k,[w])\/e∈ps\/∃o∈ps,o.1=k/\e=(k,o.2++[w]):=by
 unfold Zm at m
 split at m
 ·obtain⟨o,F,rfl⟩:=wf.mp m
  by_cases q:o.1=k
  ·rw[if_pos q];exact .inr (.inr ⟨o,F,q,by rw[q]⟩)
  ·rw[if_neg q];exact .inr (.inl F)
 ·rcases wY.mp m with m | m
  ·exact .inr (.inl m)
  ·exact .inl (wU.mp m)
theorem zdH (ps:List (Int×List Int)) (k w:Int):(Zm ps k w).length<=ps.length+1:=by
 unfold Zm
 split
 ·rw[wc];lia
 ·rw[wV];simp
theorem zfZ (ps:List (Int×List Int)) (k w:Int):Zm ps k w≠[]:=by
 unfold Zm
 split
 ·rename_i h
  intro z
  rw[List.map_eq_nil_iff.mp z]at h;cases h
 ·simp
theorem zb1 {ps:List (Int×List Int)}{k w:Int}(h:(ps.map Prod.fst).Nodup):((Zm ps k w).map Prod.fst).Nodup:=by
 unfold Zm
 split
 ·rw[wD]
  have:(ps.map (Prod.fst ∘ λp:Int×List Int=>if p.1=k then(p.1,p.2++[w])else p))=ps.map Prod.fst:=wG λp _=>by
   show (if p.1=k then(p.1,p.2++[w])else p).1=p.1
   split <;> rfl
  rw[this];exact h
 ·rename_i hn
  rw[yt]
  refine YH.mpr ⟨h,by simp,λb G c F=>?_⟩
  obtain⟨e,m,rfl⟩:=wf.mp G
  simp at F;subst F
  exact λz=>hn (List.any_eq_true.mpr ⟨e,m,wm z⟩)
structure PhJ (l T:Int) (js:List (Int×Int)) (ps:List (Int×List Int)):Prop where
 nd:(ps.map Prod.fst).Nodup
 k0:∀e∈ps,0<e.1
 l1:∀e∈ps,1<=e.2.length
 ll:∀e∈ps,e.2.length<=js.length
 pl:ps.length<=js.length
 of:∀e∈ps,∃u∈js,u.2=e.1\/u.2=-e.1
 inn:∀e∈ps,∀q∈e.2,0<=q/\q<T
 mv:ps=[]↔∀u∈js,u.2=0
theorem PhJ.add {l T:Int}{js:List (Int×Int)}{ps:List (Int×List Int)} (h:PhJ l T js ps){u:Int×Int}{k w:Int}(I:0<k) (O:u.2=k\/u.2=-k) (hw:0<=w/\w<T):PhJ l T (js++[u]) (Zm ps k w):=by
 have V:(js++[u]).length=js.length+1:=by simp
 refine⟨zb1 h.nd,λe m=>?_,λe m=>?_,λe m=>?_,by have:=zdH ps k w;have:=h.pl;lia,λe m=>?_,λe m=>?_,?_⟩
 ·rcases ZO m with rfl | m | ⟨o,F,q,rfl⟩
  ·exact I
  ·exact h.k0 e m
  ·exact I
 ·rcases ZO m with rfl | m | ⟨o,F,q,rfl⟩
  ·simp
  ·exact h.l1 e m
  ·simp
 ·rcases ZO m with rfl | m | ⟨o,F,q,rfl⟩
  ·simp
  ·have:=h.ll e m;lia
  ·have:=h.ll o F;simp;lia
 ·rcases ZO m with rfl | m | ⟨o,F,q,rfl⟩
  ·exact⟨u,by simp,O⟩
  ·obtain⟨v,U,q⟩:=h.of e m;exact⟨v,by simp[U],q⟩
  ·exact⟨u,by simp,O⟩
 ·rcases ZO m with rfl | m | ⟨o,F,q,rfl⟩
  ·intro q S;cases wU.mp S;exact hw
  ·exact h.inn e m
  ·intro x G
   rcases wY.mp G with G | G
   ·exact h.inn o F x G
   ·cases wU.mp G;exact hw
 ·constructor
  ·intro z;exact absurd z (zfZ ps k w)
  ·intro z
   have:=z u (by simp)
   lia
theorem ziR {l T:Int}{js:List (Int×Int)} (G:∀u∈js,(0<u.2->0<=u.1-l/\u.1-l<T)/\(u.2<0->0<=T-(u.1-l)/\T-(u.1-l)<T)):PhJ l T js (phO l T js):=by
 unfold phO
 suffices h:∀(ts ds:List (Int×Int)) ps,(∀u∈ts,u∈js)->PhJ l T ds ps->PhJ l T (ds++ts) (ts.foldl (jY l T) ps)from
  h js [] [] (λu m=>m) ⟨by simp,λe m=>(by cases m),λe m=>(by cases m),λe m=>(by cases m),by simp,λe m=>(by cases m),λe m=>(by cases m),by simp⟩
 intro ts
 induction ts with
 |nil=>intro ds ps _ h;rw[yP];exact h
 |cons t ts ih =>
  intro ds ps F h
  rw[uB,show ds++t::ts=(ds++[t])++ts by simp]
  refine ih _ _ (λu m=>F u (by simp[m])) ?_
  obtain⟨h1,h2⟩:=G t (F t (by simp))
  unfold jY
  by_cases a:0<t.2
  ·rw[if_pos a];exact h.add a (.inl rfl) (h1 a)
  ·rw[if_neg a]
   by_cases b:t.2<0
   ·rw[if_pos b];exact h.add ∅ (.inr ∅) (h2 b)
   ·rw[if_neg b]
    have I:(ds++[t]).length=ds.length+1:=by simp
    refine⟨h.nd,h.k0,h.l1,λe m=>by have:=h.ll e m;lia,by have:=h.pl;lia,λe m=>let ⟨v,mv,q⟩:=h.of e m;⟨v,by simp[mv],q⟩,h.inn,?_⟩
    rw[h.mv]
    constructor
    ·intro z u m
     rcases wY.mp m with m | m
     ·exact z u m
     ·cases wU.mp m;lia
    ·intro z u m;exact z u (by simp[m])
theorem JL {a b c:Int}(h:a ∣ b*c) (g:Int.gcd a b=1):a ∣ c:=by
 rw[<-uQ]at h ⊢
 rw[Wf]at h
 exact Nat.Coprime.dvd_of_dvd_mul_left g h
theorem zgi {c n:Int}(O:0<c):∃g F G:Int,g=(Int.gcd c n:Int)/\0<g/\c=g*F/\n=g*G/\Int.gcd F G=1:=by
 have I:0<Int.gcd c n:=ug _ ∅
 refine⟨(Int.gcd c n:Int),c/(Int.gcd c n:Int),n/(Int.gcd c n:Int),rfl,by lia,?_,?_,Int.gcd_ediv_gcd_ediv_gcd I⟩
 ·exact(Int.mul_ediv_cancel' (um ..)).symm
 ·exact(Int.mul_ediv_cancel' (Wr ..)).symm
theorem zda {c n X:Int}(U:0<c) (h1:c ∣ X) (h2:n ∣ X):c/(Int.gcd c n:Int)*n ∣ X:=by
 obtain⟨g,F,W,S,Y,e1,e2,co⟩:=zgi (c:=c) (n:=n) U
 rw[<-S]
 have I:c/g=F:=by rw[e1];exact yf _ ∅
 rw[I]
 obtain⟨x,G⟩:=h2
 have O:g*F ∣ g*(W*x):=by rw[<-e1,<-WQ,<-e2,<-G];exact h1
 have V:F ∣ x:=JL (Yh ∅ O) co
 rw[G,uo F n]
 exact Y1 (Yr n) V
theorem Qe:∀{ks:List Int}{c:Int},0<c->(∀k∈ks,0<k)->0<ks.foldl (λc n=>c/(Int.gcd c n:Int)*n) c/\c ∣ ks.foldl (λc n=>c/(Int.gcd c n:Int)*n) c/\(∀k∈ks,k ∣ ks.foldl (λc n=>c/(Int.gcd c n:Int)*n) c)/\∀X,c ∣ X->(∀k∈ks,k ∣ X)->ks.foldl (λc n=>c/(Int.gcd c n:Int)*n) c ∣ X
 |[],c,hc,_=>⟨hc,Yr c,λk m=>(by cases m),λX h _=>h⟩
 |n::ks,c,hc,hk=>by
  have G:=hk n (by simp)
  obtain⟨U,F,V,S⟩:=Qe (ks:=ks) (vL hc G) λk m=>hk k (by simp[m])
  obtain⟨O,I⟩:=zcl hc G
  rw[uB]
  refine⟨U,Ws O F,λk m=>?_,λX h1 h2=>S X (zda hc h1 (h2 n (by simp))) λk m=>h2 k (by simp[m])⟩
  rcases ww.mp m with rfl | m
  ·exact Ws I F
  ·exact V k m
theorem zeb {qs:List Rat}{D X:Int}(h:∀q∈qs,D ∣ X*(q.den:Int)):D ∣ X*qO qs:=by
 unfold qO
 suffices g:∀(qs:List Rat) (d:Int),(∀q∈qs,D ∣ X*(q.den:Int))->D ∣ X*d->D ∣ X*qs.foldl (λd q=>((Int.gcd (q.den:Int) d:Nat):Int)) d from g qs 0 h (by rw[Int.mul_zero];exact Int.dvd_zero D)
 intro qs
 induction qs with
 |nil=>intro d _ h;exact h
 |cons q qs ih =>
  intro d F hd
  rw[uB]
  refine ih _ (λr m=>F r (by simp[m])) ?_
  have h1:=F q (by simp)
  have h2:D ∣ ((Int.gcd (X*(q.den:Int)) (X*d):Nat):Int):=Int.dvd_coe_gcd h1 hd
  rw[Int.gcd_mul_left]at h2
  rw[<-uQ]at h2 ⊢
  rw[Wf]
  exact h2
theorem zbx {qs:List Rat}(G:1<=qs.length) (U:∀q∈qs,0<q.num){q:Rat}(m:q∈qs):q.num*((xi qs).den:Int) ∣ (xi qs).num*(q.den:Int):=by
 obtain⟨V,_⟩:=Qa G
 have O:∀t∈qs.map Rat.num,0<t:=λt m=>by
  obtain⟨q,I,rfl⟩:=wf.mp m
  exact U q I
 obtain⟨W,_,S,_⟩:=Qe (c:=1) (by decide) O
 have h1:q.num ∣ xT (qs.map Rat.num):=S _ (wf.mpr ⟨q,m,rfl⟩)
 have h2:=(zaF qs).1 q m
 have F:=Qy (t:=xT (qs.map Rat.num)) (b:=qO qs) ∅
 change (xi qs).num*qO qs=xT (qs.map Rat.num)*((xi qs).den:Int)at F
 have:qO qs*(q.num*((xi qs).den:Int)) ∣ qO qs*((xi qs).num*(q.den:Int)):=by
  rw[show qO qs*((xi qs).num*(q.den:Int))=(xi qs).num*qO qs*(q.den:Int) by grind,F,show qO qs*(q.num*((xi qs).den:Int))=q.num*((xi qs).den:Int)*qO qs by grind]
  exact Y1 (Y1 h1 (Yr _)) h2
 exact Yh ∅ this
structure RwZ (bs:List Bl) (lo hi:Rat×Rat):Prop where
 sp:∀t∈ths bs (some lo) (some hi),Bd 100 t.1.num/\Bd 12 (t.1.den:Int)
 ss:∀t∈ths bs (some lo) (some hi),Bd 80 t.2.num/\Bd 13 (t.2.den:Int)
 l5:bs.length<=5
 lh:lo.1<hi.1
 inn:∀b∈bs,lo.1<=b.pl/\b.pl<=hi.1
 off:∀b∈bs,b.sp<0->lo.1<b.pl
theorem zaI {n:Nat}{qs:List Rat}(h:∀q∈qs,Bd n (q.den:Int)):0<Q6 qs/\Bd (1+n*qs.length) (Q6 qs)/\∀q∈qs,(q.den:Int) ∣ Q6 qs:=by
 obtain⟨a,b,c⟩:=Vy (n:=n) (ks:=qs.map λq=>(q.den:Int)) (λk m=>by obtain⟨q,F,rfl⟩:=wf.mp m;exact⟨den_pos q,h q F⟩)
 exact⟨a,by rw[wc]at b;exact b,λq m=>c _ (wf.mpr ⟨q,m,rfl⟩)⟩
theorem zdN {x y:Rat}{b:Int}(F:0<b) (G:(x.den:Int) ∣ b) (I:(y.den:Int) ∣ b) (h:x<=y):byB x b<=byB y b:=by
 rcases Decidable.em (x=y)with e | e
 ·rw[e];exact uV _
 ·exact yK (JH F G I (by grind))
section
variable {bs:List Bl}{lo hi:Rat×Rat}
theorem ths5 (h:bs.length<=5):(ths bs (some lo) (some hi)).length<=7:=by
 unfold ths
 simp only[wV,wc,Qh,wx,YW]
 lia
structure RwF (bs:List Bl) (lo hi:Rat×Rat) (p s:Int):Prop where
 p0:0<p
 pb:Bd 85 p
 pd:∀t∈ths bs (some lo) (some hi),(t.1.den:Int) ∣ p
 s0:0<s
 sb:Bd 92 s
 sd:∀t∈ths bs (some lo) (some hi),(t.2.den:Int) ∣ s
 t1:∀t∈ths bs (some lo) (some hi),Bd 186 (trB p s t).1
 t2:∀t∈ths bs (some lo) (some hi),Bd 173 (trB p s t).2
 lh:(trB p s lo).1<(trB p s hi).1
theorem RwZ.f (z:RwZ bs lo hi):RwF bs lo hi (pbO bs (some lo) (some hi)) (sbO bs (some lo) (some hi)):=by
 have l7:=ths5 (lo:=lo) (hi:=hi) z.l5
 obtain⟨U,O,W⟩:=zaI (n:=12) (qs:=(ths bs (some lo) (some hi)).map (·.1)) (λq m=>by obtain⟨t,F,rfl⟩:=wf.mp m;exact(z.sp t F).2)
 obtain⟨Y,S,s3⟩:=zaI (n:=13) (qs:=(ths bs (some lo) (some hi)).map (·.2)) (λq m=>by obtain⟨t,F,rfl⟩:=wf.mp m;exact(z.ss t F).2)
 rw[wc]at O S
 have V:Bd 85 (pbO bs (some lo) (some hi)):=O.mono ∅
 have I:Bd 92 (sbO bs (some lo) (some hi)):=S.mono ∅
 have G:∀t∈ths bs (some lo) (some hi),(t.1.den:Int) ∣ pbO bs (some lo) (some hi):=λt m=>W _ (wf.mpr ⟨t,m,rfl⟩)
 exact⟨U,V,G,Y,I,λt m=>s3 _ (wf.mpr ⟨t,m,rL⟩),λt m=>((z.sp t m).1.mul (bdx V)).md,λt m=>((z.ss t m).1.mul (bdx I)).md,JH U (G _ (qK rL)) (G _ (vg rL)) z.lh⟩
theorem RwZ.lnz (z:RwZ bs lo hi):LnZ bs (some lo) (some hi) :=
 ⟨λt m=>⟨⟨(z.sp t m).1.md,(z.sp t m).2.md⟩,⟨(z.ss t m).1.md,(z.ss t m).2.md⟩⟩,λl h e1 e2=>by cases e1;cases e2;exact z.lh⟩
theorem zf4 {x:Rat}{b:Int}(F:0<b) (h:byB x b<0):x<0:=by
 have d:=den_pos x
 have f:0<=b.fdiv (x.den:Int):=by rw[wC _ ∅];exact WP ∅ ∅
 have n:x.num<0:=by
  rcases yD x.num 0 with c | c
  ·exact c
  ·have:=Wy c f
   unfold byB at h;lia
 have h2:¬ 0<=x:=λc=>by have:=Y2.mpr c;lia
 grind
theorem RwZ.rog (z:RwZ bs lo hi){p s T:Int}{tk:Rat}{pss:List (Int×List Int)} (ep:p=pbO bs (some lo) (some hi)) (es:s=sbO bs (some lo) (some hi)) (V:tk=Rat.divInt s p) (eT:T=2*((trB p s hi).1-(trB p s lo).1)) (S:pss=phO (trB p s lo).1 T (bs.map λb=>trB p s (b.pl,b.sp))) :
  RoG bs lo hi T s tk pss/\PhJ (trB p s lo).1 T (bs.map λb=>trB p s (b.pl,b.sp)) pss/\Sz 92 tk/\0<tk.num/\0<T/\Bd 190 T:=by
 have F:=z.f
 rw[<-ep,<-es]at F
 have U:∀b∈bs,(b.pl,b.sp)∈ths bs (some lo) (some hi):=λb m=>QZ m
 have W:0<T:=by have:=F.lh;lia
 have Y:Bd 190 T:=by
  have h1:(trB p s lo).1.natAbs<2^186:=F.t1 _ (qK rfl)
  have h2:(trB p s hi).1.natAbs<2^186:=F.t1 _ (vg rfl)
  show T.natAbs<2^190
  lia
 have O:Sz 92 tk:=by rw[V];exact .divInt (by have:=F.p0;lia) F.sb (F.pb.md)
 have tn:0<tk.num:=by
  rw[V]
  have h:=Qy (t:=s) (b:=p) (by have:=F.p0;lia)
  have d:=den_pos (Rat.divInt s p)
  have h2:0<s*((Rat.divInt s p).den:Int):=wQ F.s0 d
  rw[<-h]at h2
  rcases yD 0 (Rat.divInt s p).num with c | c
  ·exact c
  ·have:=WG c (show 0<=p by have:=F.p0;lia);lia
 have G:PhJ (trB p s lo).1 T (bs.map λb=>trB p s (b.pl,b.sp)) pss:=by
  rw[S]
  refine ziR λu m=>?_
  obtain⟨b,I,rfl⟩:=wf.mp m
  have i1:=zdN F.p0 (F.pd _ (qK rfl)) (F.pd _ (U b I)) (z.inn b I).1
  have i2:=zdN F.p0 (F.pd _ (U b I)) (F.pd _ (vg rfl)) (z.inn b I).2
  have hl:=F.lh
  dsimp only at i1 i2
  simp only[trB]at hl eT ⊢
  refine⟨λ_=>by lia,λh=>?_⟩
  have i3:=JH F.p0 (F.pd _ (qK rfl)) (F.pd _ (U b I)) (z.off b I (zf4 F.s0 h))
  dsimp only at i3
  lia
 have a1:=z.l5
 have lm:(bs.map λb=>trB p s (b.pl,b.sp)).length=bs.length:=wc ..
 have bk:∀e∈pss,Bd 173 e.1:=λe m=>by
  obtain⟨u,mu,h⟩:=G.of e m
  obtain⟨b,I,rfl⟩:=wf.mp mu
  have:=F.t2 _ (U b I)
  rcases h with h | h
  ·rw[<-h];exact this
  ·rw[show e.1=- -e.1 by lia,<-h];exact this.neg
 refine⟨⟨es,by rw[V,es,ep],by rw[eT,ep,es],by rw[S,ep,es],by have:=G.pl;lia,λe m=>⟨W,Y.md,by have:=G.ll e m;lia,G.inn e m⟩,G.l1,G.k0,λe m=>(bk e m).md,λe m g g1 g2=>?_⟩,G,O,tn,W,Y⟩
 have g8:g<=8:=by have:=G.ll e m;lia
 have bA:Bd 400 (T*tk.num):=(Y.mul O.1).md
 have bB:Bd 400 ((g:Int)*e.1*(tk.den:Int)):=(((show Bd 5 (g:Int)from(show (g:Int).natAbs<2^5 by lia)).mul (bk e m)).mul O.2).md
 have pB:0<(g:Int)*e.1*(tk.den:Int):=wQ (wQ ∅ (G.k0 e m)) (den_pos tk)
 have sz:Sz 400 (vO T e.1 g tk):=.divInt ∅ bA bB
 refine⟨?_,sz.1,sz.2⟩
 have h:=Qy (t:=T*tk.num) (b:=(g:Int)*e.1*(tk.den:Int)) ∅
 have d:=den_pos (Rat.divInt (T*tk.num) ((g:Int)*e.1*(tk.den:Int)))
 have h2:=wQ (wQ W tn) d
 rw[<-h]at h2
 show 0<(Rat.divInt (T*tk.num) ((g:Int)*e.1*(tk.den:Int))).num
 rcases yD 0 (Rat.divInt (T*tk.num) ((g:Int)*e.1*(tk.den:Int))).num with c | c
 ·exact c
 ·have:=WG c (show 0<=(g:Int)*e.1*(tk.den:Int) by lia);lia
end
theorem zcB (n:Int):(n:Rat)=Rat.divInt n 1:=by
 rw[wE]
 have:((1:Int):Rat)=1:=rfl
 rw[this]
 grind
theorem zhA (q:Rat):Int.gcd q.num (q.den:Int)=1:=q.reduced
theorem QW {X q:Rat}{n:Int}:X=(n:Rat)*q↔X.num*(q.den:Int)=n*q.num*(X.den:Int):=by
 have e1:X=Rat.divInt X.num (X.den:Int):=(wW X).symm
 have e2:(n:Rat)*q=Rat.divInt (n*q.num) (q.den:Int):=by
  have:(n:Rat)=Rat.divInt n 1:=zcB n
  rw[this]
  conv=>lhs;rw[<-wW q]
  rw[ua,uU]
 rw[e2]
 conv=>lhs;lhs;rw[e1]
 have:=den_pos X
 have:=den_pos q
 exact uD ∅ ∅
theorem v9 {X q:Rat}{n:Int}(h:X=(n:Rat)*q):q.num ∣ X.num/\(X.den:Int) ∣ (q.den:Int):=by
 have e:=QW.mp h
 constructor
 ·refine JL (a:=q.num) (b:=(q.den:Int)) (c:=X.num) ⟨n*(X.den:Int),by rw[uo,e];grind⟩ (zhA q)
 ·refine JL (a:=(X.den:Int)) (b:=X.num) (c:=(q.den:Int)) ⟨n*q.num,by rw[e];grind⟩ ?_
  rw[WZ];exact zhA X
theorem Jj {qs:List Rat}{X:Rat}(G:1<=qs.length) (S:∀q∈qs,0<q.num) (h:∀q∈qs,∃n:Int,X=(n:Rat)*q):∃n:Int,X=(n:Rat)*xi qs:=by
 obtain⟨W,_⟩:=Qa G
 have I:∀t∈qs.map Rat.num,0<t:=λt m=>by
  obtain⟨q,F,rfl⟩:=wf.mp m
  exact S q F
 obtain⟨Y,_,_,V⟩:=Qe (c:=1) (by decide) I
 have h1:xT (qs.map Rat.num) ∣ X.num:=V X.num (Int.one_dvd _) λt m=>by
  obtain⟨q,F,rfl⟩:=wf.mp m
  obtain⟨n,e⟩:=h q F
  exact(v9 e).1
 have h2:(X.den:Int) ∣ 1*qO qs:=zeb λq F=>by
  obtain⟨n,e⟩:=h q F
  rw[uU];exact(v9 e).2
 rw[uU]at h2
 obtain⟨a,U⟩:=h1
 obtain⟨g,O⟩:=h2
 refine⟨a*g,?_⟩
 have e1:X=Rat.divInt X.num (X.den:Int):=(wW X).symm
 have dX:=den_pos X
 have e2:((a*g:Int):Rat)*xi qs=Rat.divInt (a*g*xT (qs.map Rat.num)) (qO qs):=by
  have:((a*g:Int):Rat)=Rat.divInt (a*g) 1:=zcB _
  rw[this]
  unfold xi
  rw[ua,uU]
 rw[e2]
 conv=>lhs;rw[e1]
 rw[uD ∅ ∅,U,O]
 grind
theorem Jk {qs:List Rat}(G:1<=qs.length) (F:∀q∈qs,0<q.num){q:Rat}(m:q∈qs):∃n:Int,xi qs=(n:Rat)*q:=by
 obtain⟨n,e⟩:=zbx G F m
 have:=F q m
 refine⟨n,QW.mpr ?_⟩
 rw[e];grind
theorem Jl {qs:List Rat}(F:1<=qs.length) (U:∀q∈qs,0<q.num):0<xi qs:=by
 obtain⟨G,_⟩:=Qa F
 have O:∀t∈qs.map Rat.num,0<t:=λt m=>by
  obtain⟨q,I,rfl⟩:=wf.mp m
  exact U q I
 obtain⟨S,_⟩:=Qe (c:=1) (by decide) O
 unfold xi
 have:=(qA (a:=0) (b:=xT (qs.map Rat.num)) G).mpr S
 rw[Rat.zero_divInt]at this
 exact this
theorem vX {x:Rat}{b:Int}(h:(x.den:Int) ∣ b):(byB x b:Rat)=x*(b:Rat):=by
 have e:=zf3 h
 have d:=den_pos x
 have e1:x=Rat.divInt x.num (x.den:Int):=(wW x).symm
 have e2:Rat.divInt x.num (x.den:Int)*(b:Rat)=Rat.divInt (x.num*b) (x.den:Int):=by
  rw[zcB b,ua,YK]
 conv=>rhs;rw[e1]
 rw[e2,zcB (byB x b),uD (by decide) ∅,YK]
 exact e
structure RwU (bs:List Bl) (lo hi:Rat×Rat) (u:Rat) (q:Nat):Prop where
 u0:0<u
 q1:q<=1100
 sp:∀b∈bs,b.sp≠0->∃k:Nat,1<=k/\k<=q/\(b.sp=((k:Int):Rat)*u\/b.sp=-(((k:Int):Rat)*u))
 X:Bd 20 (2*(hi.1-lo.1)/u).num
 pd:∀b∈bs,b.sp≠0->∀k:Nat,(b.sp=((k:Int):Rat)*u\/b.sp=-(((k:Int):Rat)*u))->Bd 20 ((2*(hi.1-lo.1)/(((k:Int):Rat)*u)).den:Int)
theorem zaO {T g k:Int}{tk:Rat}(G:g≠0) (F:k≠0):vO T k g tk=(T:Rat)*tk/((g:Rat)*(k:Rat)):=by
 unfold vO
 have e:tk=(tk.num:Rat)/((tk.den:Int):Rat):=by rw[<-wE];exact(wW tk).symm
 have d:=den_pos tk
 rw[wE]
 conv=>rhs;rw[e]
 have h1:(g:Rat)≠0:=λz=>G (yH.mp z)
 have h2:(k:Rat)≠0:=λz=>F (yH.mp z)
 have I:((tk.den:Int):Rat)≠0:=λz=>(show (tk.den:Int)≠0 by lia) (yH.mp z)
 rw[wj,wj,wj]
 generalize (tk.num:Rat)=n
 generalize ((tk.den:Int):Rat)=d at *
 grind
theorem zil {x:Rat}{n:Int}{X:Rat}{m:Nat}(h:X=(n:Rat)*x) (F:0<X) (b:Bd m X.num):Bd m x.num:=by
 have d:=(v9 h).1
 have p:0<X.num:=by
  have:=(KM.vn 0 X).mpr F
  have e1:(0:Rat).num=0:=rfl
  have e2:((0:Rat).den:Int)=1:=rfl
  rw[e1,e2]at this;omega
 have:x.num.natAbs<=X.num.natAbs:=YL (by omega) (uQ.mpr d)
 exact b.of_le this
section
variable {bs:List Bl}{lo hi:Rat×Rat}{u:Rat}{q:Nat}{p s T:Int}{tk:Rat}{pss:List (Int×List Int)}
theorem zO {n:Int}(h:n≠0):(n:Rat)≠0:=λz=>h (yH.mp z)
structure RwR (bs:List Bl) (lo hi:Rat×Rat) (p s T:Int) (tk:Rat):Prop where
 T:(T:Rat)=2*(hi.1-lo.1)*(p:Rat)
 tk:tk=(s:Rat)/(p:Rat)
 v:∀b∈bs,(((trB p s (b.pl,b.sp)).2:Int):Rat)=b.sp*(s:Rat)
theorem RwZ.rat (z:RwZ bs lo hi) (ep:p=pbO bs (some lo) (some hi)) (es:s=sbO bs (some lo) (some hi)) (I:tk=Rat.divInt s p) (O:T=2*((trB p s hi).1-(trB p s lo).1)):RwR bs lo hi p s T tk:=by
 have F:=z.f
 rw[<-ep,<-es]at F
 refine⟨?_,by rw[I,wE],λb G=>vX (F.sd _ (QZ (lo:=some lo) (hi:=some hi) G))⟩
 have h1:=vX (F.pd _ (qK (bs:=bs) (hi:=some hi) rfl))
 have h2:=vX (F.pd _ (vg (bs:=bs) (lo:=some lo) rfl))
 rw[O,wj,yE]
 show ((2:Int):Rat)*((byB hi.1 p:Rat)-(byB lo.1 p:Rat))=_
 rw[h1,h2]
 have:((2:Int):Rat)=2:=rfl
 rw[this]
 grind
theorem zgn (z:RwZ bs lo hi) (U:RwU bs lo hi u q) (Rr:RwR bs lo hi p s T tk) (s0:0<s) (p0:0<p) (pj:PhJ (trB p s lo).1 T (bs.map λb=>trB p s (b.pl,b.sp)) pss){O:List (Int×Int)} (kz:KgZ T pss O){v:Int×Int}(m:v∈O) :
  ∃(k M:Nat) (b:Bl),b∈bs/\b.sp≠0/\(b.sp=((k:Int):Rat)*u\/b.sp=-(((k:Int):Rat)*u))/\1<=k/\k<=q/\1<=M/\M<=5/\vO T v.1 v.2 tk=2*(hi.1-lo.1)/(((k:Int):Rat)*u)/((M:Int):Rat):=by
 obtain⟨ps,M,h1,h2,h3⟩:=kz.gm v m
 obtain⟨t,mt,I⟩:=pj.of _ h1
 obtain⟨b,W,rfl⟩:=wf.mp mt
 have k0:=pj.k0 _ h1
 have ll:=pj.ll _ h1
 dsimp only at k0 ll I
 rw[wc]at ll
 have l5:=z.l5
 have S:=Rr.v b W
 have sn:=zO (show s≠0 by lia)
 have pn:=zO (show p≠0 by lia)
 have b0:b.sp≠0:=λe=>by
  have Y:(((trB p s (b.pl,b.sp)).2:Int):Rat)=0:=S.trans (by rw[e,ur])
  have:=yH.mp (Y.trans (show (0:Rat)=((0:Int):Rat)from rfl))
  lia
 obtain⟨k,V,a1,G⟩:=U.sp b W b0
 have m1:=h3.m1
 have m2:=h3.m2
 refine⟨k,M,b,W,b0,G,V,a1,m1,by lia,?_⟩
 have u0:=U.u0
 have un:u≠0:=by grind
 have kn:=zO (show (k:Int)≠0 by lia)
 have kp:(0:Rat)<((k:Int):Rat):=wv.mpr ∅
 have sp:(0:Rat)<(s:Rat):=wv.mpr s0
 have a2:(0:Rat)<((k:Int):Rat)*u*(s:Rat):=w5 (w5 kp u0) sp
 have F:(0:Rat)<(v.1:Rat):=wv.mpr k0
 have e1:(v.1:Rat)=((k:Int):Rat)*u*(s:Rat):=by
  rcases I with I | I <;> rcases G with G | G
  ·rw[<-I,S,G]
  ·exfalso;rw[<-I,S,G]at F;grind
  ·exfalso
   rw[show v.1=-(trB p s (b.pl,b.sp)).2 by lia,yT,S,G]at F;grind
  ·rw[show v.1=-(trB p s (b.pl,b.sp)).2 by lia,yT,S,G];grind
 have Mn:=zO (show (M:Int)≠0 by lia)
 rw[zaO ∅ ∅,e1,h2,Rr.T,Rr.tk]
 generalize ((k:Int):Rat)=k' at *
 generalize ((M:Int):Rat)=M' at *
 generalize (s:Rat)=s' at *
 generalize (p:Rat)=p' at *
 grind
end
theorem Zk {x y:Rat}(F:0<x) (G:0<y):0<x/y:=by rw[Wi];exact w5 F (YO.mpr G)
section
variable {bs:List Bl}{lo hi:Rat×Rat}{u:Rat}{q:Nat}{p s T:Int}{tk:Rat}{pss:List (Int×List Int)}
theorem zh0 {x:Rat}{M:Nat}{m:Nat}(S:1<=M) (U:M<=15) (G:0<x) (b:Bd m (x.den:Int)):0<x/((M:Int):Rat)/\Bd (m+4) ((x/((M:Int):Rat)).den:Int):=by
 have V:=zO (show (M:Int)≠0 by lia)
 have O:(0:Rat)<((M:Int):Rat):=wv.mpr ∅
 have e:x/((M:Int):Rat)=Rat.divInt x.num ((x.den:Int)*(M:Int)):=by
  rw[wE,wj]
  have I:x=(x.num:Rat)/((x.den:Int):Rat):=by rw[<-wE];exact(wW x).symm
  conv=>lhs;rw[I]
  have d:=zO (show (x.den:Int)≠0 by have:=den_pos x;lia)
  generalize ((M:Int):Rat)=M' at *
  generalize (x.num:Rat)=n at *
  generalize ((x.den:Int):Rat)=d' at *
  grind
 constructor
 ·exact Zk G O
 ·rw[e]
  have d:=den_pos x
  have h:=Xs (t:=x.num) (b:=(x.den:Int)*(M:Int)) (yu (wQ d ∅))
  have F:Bd (m+4) ((x.den:Int)*(M:Int)):=b.mul (show Bd 4 (M:Int)from(show (M:Int).natAbs<2^4 by lia))
  exact F.of_le ∅
structure RdF (R X:Rat):Prop where
 r0:0<R
 rn:Bd 20 R.num
 rd:Bd 24 (R.den:Int)
 le:R<=X
theorem QX (z:RwZ bs lo hi) (U:RwU bs lo hi u q) (Rr:RwR bs lo hi p s T tk) (s0:0<s) (p0:0<p) (pj:PhJ (trB p s lo).1 T (bs.map λb=>trB p s (b.pl,b.sp)) pss) (ne:pss≠[]){G:List (Int×Int)} (S:KgZ T pss G) (hn:∀e∈pss,∀g:Nat,1<=g->g<=e.2.length->0<(vO T e.1 g tk).num):RdF (xi (ptL T tk G)) (2*(hi.1-lo.1)/u):=by
 have kl:G.length=pss.length:=by have:=S.pm.length_eq;rw[wc,wc]at this;exact this
 have a1:1<=pss.length:=by rcases pss with _ | ⟨x,l⟩;exact absurd rfl ne;simp
 have I:1<=(ptL T tk G).length:=by unfold ptL;rw[wc];lia
 have W0:0<2*(hi.1-lo.1):=by have:=z.lh;grind
 have Y:=U.u0
 have X0:0<2*(hi.1-lo.1)/u:=Zk W0 Y
 have F:∀t∈ptL T tk G,0<t.num/\(∃n:Int,2*(hi.1-lo.1)/u=(n:Rat)*t)/\Bd 24 (t.den:Int):=λt O=>by
  obtain⟨v,mv,rfl⟩:=wf.mp O
  obtain⟨k,M,b,hb,b0,hk,k1,kq,M1,M5,e⟩:=zgn z U Rr s0 p0 pj S mv
  obtain⟨ps,M',h1,h2,h3⟩:=S.gm v mv
  have kn:=zO (show (k:Int)≠0 by lia)
  have Mn:=zO (show (M:Int)≠0 by lia)
  have kp:(0:Rat)<((k:Int):Rat):=wv.mpr ∅
  refine⟨by rw[h2];exact hn _ h1 M' h3.m1 h3.m2,⟨(k:Int)*(M:Int),?_⟩,?_⟩
  ·rw[e,wj]
   generalize ((k:Int):Rat)=k' at *
   generalize ((M:Int):Rat)=M' at *
   grind
  ·rw[e]
   have ku:0<((k:Int):Rat)*u:=w5 kp Y
   have x0:0<2*(hi.1-lo.1)/(((k:Int):Rat)*u):=Zk W0 ku
   exact(zh0 M1 ∅ x0 (U.pd b hb b0 k hk)).2
 obtain⟨n,hX⟩:=Jj I (λt m=>(F t m).1) (λt m=>(F t m).2.1)
 have W:=Jl I (λt m=>(F t m).1)
 obtain⟨t,O⟩:∃t,t∈ptL T tk G:=by
  generalize ptL T tk G=L at I
  rcases L with _ | ⟨t,L⟩
  ·simp at I
  ·exact⟨t,wB⟩
 obtain⟨j,hj⟩:=Jk I (λt m=>(F t m).1) O
 have dv:=(v9 hj).2
 refine⟨W,zil hX X0 U.X,(F t O).2.2.of_le (YL (by have:=t.den_pos;lia) (uQ.mpr dv)),?_⟩
 generalize xi (ptL T tk G)=R at *
 have n1:1<=n:=by
  rcases yD 0 n with c | c
  ·lia
  ·exfalso
   have:(n:Rat)<=0:=by have:=(yd (a:=n) (b:=0)).mpr c;exact this
   have:=wP this (yj W)
   grind
 have V:(1:Rat)<=(n:Rat):=by have:=(yd (a:=1) (b:=n)).mpr n1;exact this
 have:=wP V (yj W)
 grind
end
theorem zci {α:Type}:∀{l:List (Int×α)}{k:Int}{a b:α},(l.map Prod.fst).Nodup->(k,a)∈l->(k,b)∈l->a=b
 |[],_,_,_,_,m,_=>by cases m
 | (k',c)::l,k,a,b,nd,G,F=>by
  rw[yg,uz]at nd
  rcases ww.mp G with O | G
  ·rcases ww.mp F with I | F
   ·cases O;cases I;rfl
   ·cases O;exact absurd (wf.mpr ⟨_,F,rfl⟩) nd.1
  ·rcases ww.mp F with I | F
   ·cases I;exact absurd (wf.mpr ⟨_,G,rfl⟩) nd.1
   ·exact zci nd.2 G F
theorem KgZ.uniq {T:Int}{pss:List (Int×List Int)}{G F:List (Int×Int)} (nd:(pss.map Prod.fst).Nodup) (h:KgZ T pss G) (h':KgZ T pss F):G=F:=by
 have ef:G.map Prod.fst=F.map Prod.fst:=za0 (h.pm.trans h'.pm.symm) h.so h'.so
 have one:∀u∈G,∀v∈F,u.1=v.1->u=v:=λu W v U e=>by
  obtain⟨ps,M,a1,a2,V⟩:=h.gm u W
  obtain⟨a4,M',O,Y,S⟩:=h'.gm v U
  rw[<-e]at O
  cases zci nd a1 O
  cases V.uniq S
  exact Prod.ext e (by rw[a2,Y])
 refine uL λi=>?_
 have I:=congrArg (λl:List Int=>l[i]?) ef
 try dsimp only at I
 rw[wu,wu]at I
 cases a:G[i]? with
 |none =>
  cases b:F[i]? with
  |none=>rfl
  |some v=>rw[a,b]at I;cases I
 |some u =>
  cases b:F[i]? with
  |none=>rw[a,b]at I;cases I
  |some v =>
   rw[a,b]at I
   rw[one u (wL a) v (wL b) (Option.some.inj I)]
theorem zhI {p d:Int}(G:0<p) (F:0<d):0<(xT [p,d]).fdiv p/\(xT [p,d]).fdiv p<=d/\p*(xT [p,d]).fdiv p=xT [p,d]:=by
 have e:xT [p,d]=p/(Int.gcd p d:Int)*d:=by
  unfold xT
  rw[uB,uB,Y4]
  have:(1:Int)/(Int.gcd 1 p:Int)*p=p:=by
   rw[show (Int.gcd 1 p:Int)=1 by rw[WZ,Int.gcd_one_right];rfl]
   lia
  rw[this]
 have O:=vL G F
 have le:=zep G F
 have dv:p ∣ xT [p,d]:=by rw[e];exact zht F
 rw[<-e]at O le
 obtain⟨m,I⟩:=dv
 rw[wC _ ∅]
 generalize xT [p,d]=L at *
 rw[I,yf _ ∅]
 refine⟨?_,?_,rL⟩
 ·rcases yD 0 m with c | c
  ·exact c
  ·have:=uc (show 0<=p by lia) c;lia
 ·rw[I]at le;exact Int.le_of_mul_le_mul_left le G
theorem Xb {l0 z:Int}{g:Int×Int}:∀{trs:List (Int×Int)},g∈zP l0 z trs->∃t∈trs,t.2≠0/\g.1=t.2/\(g.2=z-t.1\/g.2=2*l0-z-t.1)
 |[],m=>by cases m
 |t::r,m=>by
  rcases wY.mp m with m | m
  ·unfold Xu at m
   split at m
   ·cases m
   ·rename_i h0
    rcases ww.mp m with rfl | m
    ·exact⟨t,wB,h0,rL,.inl rL⟩
    ·rw[wU.mp m];exact⟨t,wB,h0,rfl,.inr rfl⟩
  ·obtain⟨F,G,h⟩:=Xb m;exact⟨F,wR _ G,h⟩
theorem zhf {x tk:Rat}{p s:Int}{n m:Nat}(G:tk=Rat.divInt s p) (U:0<p) (F:0<s) (I:Bd n x.num) (hd:Bd m (x.den:Int)) (bp:Bd 85 p) (bs:Bd 92 s){k:Nat}(h1:n+85<=k) (h2:m+92<=k):Sz k (x/tk):=by
 have e:x/tk=Rat.divInt (x.num*p) ((x.den:Int)*s):=by
  have O:x=(x.num:Rat)/((x.den:Int):Rat):=by rw[<-wE];exact(wW x).symm
  rw[wE,wj,wj,G,wE]
  conv=>lhs;lhs;rw[O]
  have d:=zO (show (x.den:Int)≠0 by have:=den_pos x;lia)
  have s':=zO (show s≠0 by lia)
  have S:=zO (show p≠0 by lia)
  generalize (x.num:Rat)=a at *
  generalize ((x.den:Int):Rat)=b at *
  generalize (s:Rat)=c at *
  generalize (p:Rat)=d' at *
  grind
 rw[e]
 exact .divInt (yu (wQ (den_pos x) F)) ((I.mul bp).mono h1) ((hd.mul bs).mono h2)
theorem zfP {x tk:Rat}{p s:Int}{n m:Nat}(I:tk=Rat.divInt s p) (V:0<p) (G:0<s) (O:Bd n x.num) (hd:Bd m (x.den:Int)) (bp:Bd 85 p) (bs:Bd 92 s){k k2:Nat}(h1:n+85<=k) (h2:m+92<=k2):Bd k (x/tk).num/\Bd k2 ((x/tk).den:Int):=by
 have e:x/tk=Rat.divInt (x.num*p) ((x.den:Int)*s):=by
  have S:x=(x.num:Rat)/((x.den:Int):Rat):=by rw[<-wE];exact(wW x).symm
  rw[wE,wj,wj,I,wE]
  conv=>lhs;lhs;rw[S]
  have d:=zO (show (x.den:Int)≠0 by have:=den_pos x;lia)
  have s':=zO (show s≠0 by lia)
  have U:=zO (show p≠0 by lia)
  generalize (x.num:Rat)=a at *
  generalize ((x.den:Int):Rat)=b at *
  generalize (s:Rat)=c at *
  generalize (p:Rat)=d' at *
  grind
 rw[e]
 have F:=yu (wQ (den_pos x) G)
 exact⟨((O.mul bp).mono h1).of_le (JZ F),((hd.mul bs).mono h2).of_le (by have:=Xs (t:=x.num*p) F;lia)⟩
section
variable {bs:List Bl}{lo hi:Rat×Rat}{u:Rat}{q:Nat}{p s T m z:Int}{tk:Rat}{pss:List (Int×List Int)}{trs:List (Int×Int)}{l h b:Int×Int}{y x:Rat}
structure WhF (bs:List Bl) (lo hi:Rat×Rat) (q:Nat) (y x:Rat) (p s m z:Int) (trs:List (Int×Int)) (l h:Int×Int) (tk:Rat) (b:Int×Int) (T:Int) (pss:List (Int×List Int)) (lz:Option (Int×Int)):Prop where
 wz:WhZ bs lo hi y x p s m z trs l h tk b
 rg:RoG bs lo hi T s tk pss
 pj:PhJ (trB p s lo).1 T (bs.map λb=>trB p s (b.pl,b.sp)) pss
 lzz:LzZ T tk pss lz
 ka:∀l',lz=some l'->LkA (2*(h.1-l.1)) b l' (zP l.1 z trs)/\Bd 1300 (lkN b l' (zP l.1 z trs))/\∀g∈zP l.1 z trs,zY g.1*l'.1<=q*(2*(h.1-l.1)*l'.2)
 ex:∀l',lz=some l'->∃kgs,KgZ T pss kgs/\l'=((xi (ptL T tk kgs)/tk).num,((xi (ptL T tk kgs)/tk).den:Int))
theorem zh6 {V m I F S:Int}{k q:Nat}{r R W u:Rat}{p s:Int}(hV:(V:Rat)=((k:Int):Rat)*u*(s:Rat)) (hT:(S:Rat)=W*(p:Rat)*(m:Rat)) (hr:r=R/((s:Rat)/(p:Rat))) (hl:r=(I:Rat)/(F:Rat)) (Y:0<u) (s0:0<s) (p0:0<p) (m0:0<m) (O:0<F) (W0:0<W) (U:R<=W/u) (kq:k<=q):V*m*I<=q*(S*F):=by
 refine yd.mp ?_
 rw[wj,wj,wj,wj,hV,hT]
 have sp:(0:Rat)<(s:Rat):=wv.mpr s0
 have pp:(0:Rat)<(p:Rat):=wv.mpr p0
 have mp:(0:Rat)<(m:Rat):=wv.mpr m0
 have lp:(0:Rat)<(F:Rat):=wv.mpr O
 have G:((k:Int):Rat)<=((q:Int):Rat):=yd.mpr ∅
 have k0:(0:Rat)<=((k:Int):Rat):=Wh.mpr ∅
 generalize ((k:Int):Rat)=k' at *
 generalize ((q:Int):Rat)=q' at *
 generalize (s:Rat)=s' at *
 generalize (p:Rat)=p' at *
 generalize (m:Rat)=m' at *
 generalize (I:Rat)=a at *
 generalize (F:Rat)=c at *
 have e1:a=R*p'/s'*c:=by grind
 have e2:u*R<=W:=by
  have h1:=wP U (yj Y)
  have un:u≠0:=by grind
  have h2:W/u*u=W:=by clear h1 U;grind
  rw[h2,Yt]at h1
  exact h1
 have e3:k'*(u*R)<=k'*W:=uE e2 k0
 have e4:k'*W<=q'*W:=wP G (yj W0)
 have e5:k'*(u*R)<=q'*W:=Rat.le_trans e3 e4
 have e6:=wP e5 (yj (w5 (w5 mp pp) lp))
 have e7:k'*u*s'*m'*a=k'*(u*R)*(m'*p'*c):=by rw[e1];grind
 have e8:q'*(W*p'*m'*c)=q'*W*(m'*p'*c):=by grind
 rw[e7,e8]
 exact e6
end
section
variable {bs:List Bl}{lo hi:Rat×Rat}{u:Rat}{q:Nat}{y x:Rat}
open Classical in
theorem zjI (z:RwZ bs lo hi) (U:RwU bs lo hi u q) (hy:Bd 100 y.num) (a6:Bd 12 (y.den:Int)) (hx:Bd 150 x.num) (a5:Bd 44 (x.den:Int)):∃p s m O trs l h tk b T pss lz,WhF bs lo hi q y x p s m O trs l h tk b T pss lz:=by
 obtain⟨p,ep⟩:∃p,p=pbO bs (some lo) (some hi):=⟨_,rfl⟩
 obtain⟨s,es⟩:∃s,s=sbO bs (some lo) (some hi):=⟨_,rfl⟩
 obtain⟨tk,et⟩:∃tk,tk=Rat.divInt s p:=⟨_,rfl⟩
 obtain⟨T,eT⟩:∃T,T=2*((trB p s hi).1-(trB p s lo).1):=⟨_,rfl⟩
 obtain⟨pss,b5⟩:∃pss,pss=phO (trB p s lo).1 T (bs.map λb=>trB p s (b.pl,b.sp)):=⟨_,rfl⟩
 obtain⟨m,em⟩:∃m,m=(xT [p,(y.den:Int)]).fdiv p:=⟨_,rfl⟩
 obtain⟨trs,S⟩:∃trs,trs=(bs.map λb=>trB p s (b.pl,b.sp)).map (scT m):=⟨_,rfl⟩
 obtain⟨l,el⟩:∃l,l=scT m (trB p s lo):=⟨_,rfl⟩
 obtain⟨h,eh⟩:∃h,h=scT m (trB p s hi):=⟨_,rfl⟩
 obtain⟨O,ez⟩:∃O,O=y.num*(p*m).fdiv (y.den:Int):=⟨_,rfl⟩
 obtain⟨b,eb⟩:∃b:Int×Int,b=((x/tk).num,((x/tk).den:Int)):=⟨_,rfl⟩
 obtain⟨rg,pj,a8,tn,T0,bT⟩:=z.rog ep es et eT b5
 have Rr:=z.rat ep es et eT
 have F:=z.f
 rw[<-ep,<-es]at F
 obtain⟨m0,md,pm⟩:=zhI F.p0 (den_pos y)
 rw[<-em]at m0 md pm
 have bm:Bd 12 m:=a6.of_le (by omega)
 have a4:∀t∈ths bs (some lo) (some hi),Bd 198 (scT m (trB p s t)).1/\Bd 185 (scT m (trB p s t)).2:=λt I=>⟨((F.t1 t I).mul bm).md,((F.t2 t I).mul bm).md⟩
 have Y:∀t∈trs,Bd 198 t.1/\Bd 185 t.2:=λt I=>by
  rw[S,wD]at I
  obtain⟨c,hc,rfl⟩:=wf.mp I
  exact a4 _ (QZ hc)
 have bl:Bd 198 l.1:=by rw[el];exact(a4 _ (qK rfl)).1
 have bh:Bd 198 h.1:=by rw[eh];exact(a4 _ (vg rfl)).1
 have bz:Bd 198 O:=by rw[ez];exact(hy.mul (bdx (F.pb.mul bm))).md
 have a9:2*(h.1-l.1)=T*m:=by
  rw[el,eh,eT]
  show 2*((trB p s hi).1*m-(trB p s lo).1*m)=_
  grind
 have b4:0<T*m:=wQ T0 m0
 have zx:Bd 260 (x/tk).num/\Bd 140 ((x/tk).den:Int):=zfP et F.p0 F.s0 hx a5 F.pb F.sb (by decide) (by decide)
 have bb:Bd 260 b.1/\Bd 140 b.2:=by rw[eb];exact zx
 have wz:WhZ bs lo hi y x p s m O trs l h tk b:=⟨ep,es,em,S,el,eh,et,ez,eb,F.pb.md,⟨hy.md,a6.md⟩,λt I=>⟨(Y t I).1.md,(Y t I).2.md⟩,bl.md,bh.md,by
   have:=F.lh
   rw[el,eh]
   exact uh this m0,bz.md,⟨⟨hx.md,a5.md⟩,a8.md⟩,bb⟩
 have W0:0<2*(hi.1-lo.1):=by have:=z.lh;grind
 have b0:∀e∈pss,∀g:Nat,1<=g->g<=e.2.length->0<(vO T e.1 g tk).num:=λe me g g1 g2=>(rg.pt e me g g1 g2).1
 have key:∀G,KgZ T pss G->pss≠[]->Sz2 (xi (ptL T tk G)) tk/\∀l',l'=((xi (ptL T tk G)/tk).num,((xi (ptL T tk G)/tk).den:Int))->LkA (2*(h.1-l.1)) b l' (zP l.1 O trs)/\Bd 1300 (lkN b l' (zP l.1 O trs))/\∀g∈zP l.1 O trs,zY g.1*l'.1<=q*(2*(h.1-l.1)*l'.2):=λG kz ne=>by
  have RF:=QX z U Rr F.s0 F.p0 pj ne kz b0
  generalize xi (ptL T tk G)=R at *
  refine⟨⟨⟨RF.rn.md,RF.rd.md⟩,a8.md⟩,λl' e'=>?_⟩
  have zl:Sz 120 (R/tk):=zhf et F.p0 F.s0 RF.rn RF.rd F.pb F.sb (by decide) (by decide)
  have d1:=den_pos (R/tk)
  have d2:=den_pos (x/tk)
  have KA:LkA (2*(h.1-l.1)) b l' (zP l.1 O trs):=by
   refine⟨?_,λg mg=>?_,?_,⟨bb.1,bb.2,by rw[eb];exact d2⟩,by rw[e'];exact⟨zl.1.md,zl.2.md,d1⟩⟩
   ·have:=Xa l.1 O trs
    have:trs.length=bs.length:=by rw[S,wc,wc]
    have:=z.l5
    omega
   ·obtain⟨t,I,t0,e1,e2⟩:=Xb mg
    obtain⟨b1,b2⟩:=Y t I
    refine⟨by rw[e1];exact t0,by rw[e1];exact b2.md,Bd.mono (m:=201) ?_ (by decide)⟩
    have a1:t.1.natAbs<2^198:=b1
    have a2:l.1.natAbs<2^198:=bl
    have a3:O.natAbs<2^198:=bz
    show g.2.natAbs<2^201
    rcases e2 with e2 | e2 <;> rw[e2] <;> omega
   ·rw[a9];exact⟨b4,(bT.mul bm).md⟩
  refine⟨KA,?_,λg mg=>?_⟩
  ·have b7:Pos 140 [b.2,l'.2]:=KA.pos2
   have hB:Bd 300 (lkB b l'):=by
    have:Pos 140 [b.2,l'.2]:=λk mk=>by
     rcases ww.mp mk with rfl | mk
     ·refine⟨KA.bb.2.2,?_⟩
      have q2:Bd 140 ((x/tk).den:Int):=by
       have e:x/tk=Rat.divInt (x.num*p) ((x.den:Int)*s):=by
        have e0:x=(x.num:Rat)/((x.den:Int):Rat):=by rw[<-wE];exact(wW x).symm
        rw[wE,wj,wj,et,wE]
        conv=>lhs;lhs;rw[e0]
        have d:=zO (show (x.den:Int)≠0 by have:=den_pos x;omega)
        have s':=zO (show s≠0 by have:=F.s0;omega)
        have p':=zO (show p≠0 by have:=F.p0;omega)
        generalize (x.num:Rat)=a at *
        generalize ((x.den:Int):Rat)=b at *
        generalize (s:Rat)=c at *
        generalize (p:Rat)=d' at *
        grind
       have pos:=wQ (den_pos x) F.s0
       have h:=Xs (t:=x.num*p) (b:=(x.den:Int)*s) (by omega)
       rw[e]
       have b1:Bd 140 ((x.den:Int)*s):=(a5.mul F.sb).md
       exact b1.of_le (by omega)
      rw[eb];exact q2.md
     ·rcases ww.mp mk with rfl | mk
      ·exact⟨KA.bl.2.2,by rw[e'];exact zl.2.md⟩
      ·cases mk
    exact(Vy this).2.1.mono (by show 1+140*2<=300;decide)
   refine(zih (n:=185) KA hB λt I=>(Y t I).2).mono ?_
   have:trs.length=bs.length:=by rw[S,wc,wc]
   have:=z.l5
   omega
  ·obtain⟨t,I,t0,e1,_⟩:=Xb mg
   rw[S,wD]at I
   obtain⟨c,hc,rfl⟩:=wf.mp I
   have hv:=Rr.v c hc
   have e2:g.1=(trB p s (c.pl,c.sp)).2*m:=e1
   have v0:(trB p s (c.pl,c.sp)).2≠0:=λe=>t0 (by show (trB p s (c.pl,c.sp)).2*m=0;rw[e,Int.zero_mul])
   have c0:c.sp≠0:=λe=>v0 (yH.mp ((hv.trans (by rw[e,ur])).trans (show (0:Rat)=((0:Int):Rat)from rfl)))
   obtain⟨k,k1,kq,V⟩:=U.sp c hc c0
   have sp:(0:Rat)<(s:Rat):=wv.mpr F.s0
   have kp:(0:Rat)<((k:Int):Rat):=wv.mpr (by omega)
   have a7:0<((k:Int):Rat)*u*(s:Rat):=w5 (w5 kp U.u0) sp
   have ha:((zY (trB p s (c.pl,c.sp)).2:Int):Rat)=((k:Int):Rat)*u*(s:Rat):=by
    rcases V with V | V
    ·rw[V]at hv
     have:0<(trB p s (c.pl,c.sp)).2:=by
      refine wv.mp ?_
      rw[Rr.v c hc,V];exact a7
     unfold zY
     rw[if_neg (by omega),Rr.v c hc,V]
    ·have:0 < -(trB p s (c.pl,c.sp)).2:=by
      refine wv.mp ?_
      rw[yT,Rr.v c hc,V]
      rw[show -(-(((k:Int):Rat)*u)*(s:Rat))=((k:Int):Rat)*u*(s:Rat) by grind]
      exact a7
     unfold zY
     rw[if_pos (by omega),yT,Rr.v c hc,V]
     grind
   have ea:zY g.1=zY (trB p s (c.pl,c.sp)).2*m:=by
    rw[e2]
    unfold zY
    by_cases c1:(trB p s (c.pl,c.sp)).2<0
    ·rw[if_pos c1,if_pos (by have:=Int.mul_neg_of_neg_of_pos c1 m0;omega)];grind
    ·rw[if_neg c1,if_neg (by have:=Wy (show 0<=(trB p s (c.pl,c.sp)).2 by omega) (show 0<=m by omega);omega)]
   rw[ea,a9]
   refine zh6 (r:=R/tk) (R:=R) (W:=2*(hi.1-lo.1)) (u:=u) (p:=p) (s:=s) ha (by rw[wj,Rr.T]) (by rw[Rr.tk]) ?_ U.u0 F.s0 F.p0 m0 (by rw[e'];exact d1) W0 RF.le kq
   rw[e',<-wE];exact(wW _).symm
 by_cases ne:pss=[]
 ·exact⟨p,s,m,O,trs,l,h,tk,b,T,pss,none,wz,rg,pj,⟨λ_=>rfl,λc=>absurd ne c⟩,λl' e=>(by cases e),λl' e=>(by cases e)⟩
 ·by_cases V:∃G,KgZ T pss G
  ·obtain⟨G,kz⟩:=V
   refine⟨p,s,m,O,trs,l,h,tk,b,T,pss,some ((xi (ptL T tk G)/tk).num,((xi (ptL T tk G)/tk).den:Int)),wz,rg,pj,⟨λc=>absurd c ne,λ_ b6 b3=>?_⟩,λl' e=>?_,λl' e=>?_⟩
   ·rw[b3.uniq pj.nd kz];exact⟨(key G kz ne).1,rfl⟩
   ·cases e;exact(key G kz ne).2 _ rfl
   ·cases e;exact⟨G,kz,rfl⟩
  ·exact⟨p,s,m,O,trs,l,h,tk,b,T,pss,none,wz,rg,pj,⟨λ_=>rfl,λ_ G kz=>absurd ⟨G,kz⟩ V⟩,λl' e=>(by cases e),λl' e=>(by cases e)⟩
end
theorem zaf:zB ["top","bottom","one","other"] ["top","bottom"] (zj Zw):=scq
theorem ziy (D:Df K mg "_law_lowest" Zw ["top","bottom"] []) (T:TxB K mg):Cal P w K mg base "_law_lowest" 1 ["top","bottom"] [] vt:=by
 rcases r:D.cal (k:=0) zaf (λvs H Q E h=>by obtain⟨a,b,rfl,_⟩:=h;rfl) with⟨t,b,rfl,O,hz,k⟩
 refine⟨_,ze (Xy (i:=2) (j:=3) rfl zaf.nd rfl rfl (by decide) rfl rfl (za (zQ qM rfl T.nAbs yG (za (pv 0) zd)) (za (zQ qM rfl T.nAbs yG (za (pv 1) zd)) zd)) (by rfl))
  (ze (zaS PassesOwn.never (zH Xp (pv 3) zi (zF _))
   (zo (Xy (i:=2) (j:=3) rfl zaf.nd rfl rfl (by decide) rfl rfl (za (pv 3) (za (zu vN (pv 2) (pv 3)) zd)) (by rfl))))
  (ze (xv (zH Zi (pv 1) zi (zF _)) (zo (psl (i:=2) zaf.nd (vB qF (pv 2)))) zU)
  (zo (zE (zS (za (zu xJ (pv 0) (pv 2)) (za (zu xJ (pv 1) (pv 2)) zd))))))),?_⟩
 have hd:=KM.zhr (t:=t) O
 have I:Bd 8900 (KM.dv t b):=hz.of_le (KM.zhq O)
 have W:(Int.gcd (if t<0 then -t else t) (if b<0 then -b else b):Nat)=Int.gcd t b:=by
  rw[jV,jV];simp[Int.gcd]
 refine⟨_,rL,t,rL,⟨_,rL,b,rL,_,_,rL,?_⟩⟩
 have G:∀(σ:St) (z:Option V),σ=[Si t,Si b,some (.int (KM.dv t b)),z]->zdA (zjA (xU (tOp (rI zaq λi j=>V.int (i.fdiv j)) (xw 0) (xw 2)) (xU (tOp (rI zaq λi j=>V.int (i.fdiv j)) (xw 1) (xw 2)) Z6))) { nx:=λ_ H'=>Q .non H',rt:=Q } σ H:=by
  rintro σ z rfl
  refine⟨_,rL,_,rL,_,_,rL,rL,⟨hd,I⟩,_,rL,_,rL,_,_,rL,rL,⟨hd,I⟩,?_⟩
  refine⟨zL2,λp hp=>k p _ (zk.upd hp) ?_⟩
  show upd H p _ p=_
  rw[zg]
  nofun
  rw[KM.zbn O,KM.zdU O];rfl
 refine zbb (λσ H1=>H1=H/\∃x y:Int,σ=[Si t,Si b,Si x,Si y]/\0<=x/\0<=y/\Int.gcd x y=Int.gcd t b)
  (λσ _=>match σ with | [_,_,_,some (.int y)]=>y.toNat | _=>0) ⟨rfl,_,_,rfl,(by rw[jV];lia),(by rw[jV];lia),W⟩ ?_ ?_
 ·rintro σ H1 F;rcases q:F with⟨rfl,x,y,rfl,Y,hy,e⟩
  refine⟨_,rL,_,_,rL,rL,_,rL,vu (λh=>?_) (λh=>?_)⟩
  ·have h':0<y:=wA h
   refine⟨_,rL,_,rL,_,rL,_,_,rL,rL,h',_,_,rL,⟨rL,_,_,rL,hy,yS _ ∅,?_⟩,?_⟩
   ·rw[KM.zaG Y h'];exact e
   ·show (x % y).toNat<y.toNat
    have:=yV x h'
    lia
  ·have h':¬ 0<y:=λz=>h (wm z)
   have:y=0:=by lia
   subst this
   have e2:x=(Int.gcd t b:Nat):=by rw[<-e,Int.gcd_zero_right];lia
   refine⟨_,rL,_,_,rL,rL,_,rL,vu (λh=>?_) (λh=>?_)⟩
   ·have h':b<0:=wA h
    refine⟨_,rL,_,rL,G _ (some (.int 0)) ?_⟩
    rw[e2];unfold KM.dv;rw[if_pos h'];rfl
   ·have h':¬b<0:=λz=>h (wm z)
    refine G _ (some (.int 0)) ?_
    rw[e2];unfold KM.dv;rw[if_neg h']
 ·rintro σ H1 Q1 Q2 U F;rcases q:F with⟨v,e,i,j,e1,e2,k1,S,q⟩
  exact⟨v,e,i,j,e1,e2,k1,S,U _ _ q⟩
inductive zbS (K:Fg) (vs:List V) (H:Hp) (Q:VK) (_e3:XK):Prop
 |mk:∀(a:Addr) (ns:List Int) (k:Int),(vs=[.ref a,.int k])->(SqL K H a (ns.map V.int))->(0<=k)->(k<1000)->(∀i,Q (.int i) H)->zbS K vs H Q _e3
theorem zgU:zB ["script","k"] ["script","k"] (zj XG):=scq
theorem zgv (D:Df K mg "_law_cell" XG ["script","k"] []) (T:TxB K mg):Cal P w K mg base "_law_cell" 1 ["script","k"] [] (zbS K):=by
 rcases r:D.cal (k:=0) zgU (λvs H Q E h=>by obtain⟨a,ns,i,rfl,_⟩:=h;rfl) with⟨a,ns,i,rfl,F,I,h1,k⟩
 refine⟨_,ze (xv (zH Zi (pv 1) (zQ xj (by rfl) T.nLen PySem.boot_len (za (pv 0) zd)) (zF _)) (zo (zE (qp qy (pv 0) (pv 1) (λ_ _=>rfl)))) zU)
  (zo (zE (zu xp (zu Xw (zu Xw zi (pv 1)) (pv 1)) (zu Xw zi (pv 1))))),?_⟩
 refine⟨_,rL,_,rL,a,_,rL,.inl F,_,_,rL,rL,_,rL,vu (λh=>?_) (λh=>?_)⟩
 ·have h':i<((ns.map V.int).length:Int):=wA h
  rw[wc]at h'
  have G:i.toNat<ns.length:=by lia
  have e:(ns.map V.int)[i.toNat]?=some (.int ns[i.toNat]):=by rw[wu,wJ G];rfl
  have e2:=JD e
  rw[show ((i.toNat:Nat):Int)=i by lia]at e2
  exact⟨_,rL,_,rL,a,_,_,_,rL,rL,F,e2,k _⟩
 ·exact⟨_,rfl,_,_,rfl,rfl,.inl ⟨by decide,by decide⟩,_,rfl,_,_,rfl,rfl,.inr ⟨by lia,by lia⟩,_,rfl,_,_,rfl,rfl,.inl ⟨by decide,by decide⟩,_,_,rfl,rfl,k _⟩
theorem zi2:zB ["cell"] ["cell"] (zj QI):=scq
theorem zim (D:Df K mg "_law_dig" QI ["cell"] []) (T:TxB K mg):Cal P w K mg base "_law_dig" 1 ["cell"] [] zfm:=by
 refine D.cal (k:=0) zi2 (λvs H Q E h=>by obtain⟨a,rfl,_⟩:=h;rfl) (λf cdv A outer s H vs Q E hr h=>?_)
 obtain⟨c,rfl,k⟩:=h
 refine⟨_,zo (zE (xR (za (zQ (V8 rfl) (by rfl) T.nMax W2 (za zi (za (zu qh (pv 0) (zu VB zi zi)) zd))) (za (zu vN (pv 0) (zu VB zi zi)) (za zi zd))))),?_⟩
 refine⟨_,rfl,_,_,rfl,rfl,⟨by decide,by decide,by decide⟩,_,_,rfl,rfl,_,_,rfl,?_⟩
 refine⟨_,rfl,_,_,rfl,rfl,⟨by decide,by decide,by decide⟩,_,_,rfl,rfl,(by show (0:Int)<10^18;decide),(zL3),λp F=>?_⟩
 exact k p _ F (zk.upd F) ⟨_,_,_,zg⟩
theorem zac:zB ["pool","found","k"] ["pool"] (zj QJ):=scq
theorem zin (D:Df K mg "_law_far" QJ ["pool"] []) (T:TxB K mg) (S:Cal P w K mg base "_law_next" 1 ["pool","base"] [] XT):Cal P w K mg base "_law_far" 2 ["pool"] [] za1:=by
 refine D.cal (k:=1) zac (λvs H Q E h=>by obtain⟨a,rfl,_⟩:=h;rfl) (λf cdv A outer s H vs Q E hr h=>?_)
 obtain⟨p,rfl,U,k⟩:=h
 refine⟨_,ze (psl (i:=1) zac.nd zi)
  (ze (vd PassesOwn.never rfl (Xe rfl T.nRange (za (zu xp zi (zC S hr (za (pv 0) (za zi zd)))) zd)) (pgl (i:=2) zac.nd)
   (zo (psl (i:=1) zac.nd (zu xp (zu Xw (pv 1) (zu VB zi zi)) (zC S hr (za (pv 0) (za (zu VB zi zi) zd)))))))
  (zo (zE (pv 1)))),?_⟩
 refine⟨_,rfl,p,_,rfl,by decide,by decide,U,λd H1 d0 d1 W=>?_⟩
 refine⟨_,_,rL,rL,_,rL,∅,∅,?_⟩
 have hn:((1:Int)+d).toNat<=3:=by lia
 refine Je (n:=((1:Int)+d).toNat) (lo:=0) (λi σ H2=>∃(z:Option V) (g:Int),σ=[Sr p,Si g,z]/\0<=g/\g<10000000^i/\xt p H H2) ⟨none,0,rfl,by decide,by decide,W⟩ ?_ ?_
 ·rintro i σ H2 hi F;rcases q:F with⟨z,g,rfl,I,O,G⟩
  refine⟨_,rfl,_,_,rfl,rfl,⟨by decide,by decide,by decide⟩,_,_,rfl,rfl,.inr ⟨by decide,by decide⟩,?_⟩
  refine⟨_,rfl,_,_,rfl,rfl,⟨by decide,by decide,by decide⟩,p,_,rfl,by decide,by decide,G.pool,λe H3 Y e1 s3=>?_⟩
  have:=zd2 I O Y e1
  exact⟨_,_,rL,rL,_,_,rL,this.1,this.2,G.trans s3⟩
 ·rintro σ H2 F;rcases q:F with⟨z,g,rfl,I,O,G⟩
  refine⟨_,rL,k _ _ I ?_ G⟩
  have:((1:Int)+d).toNat=0\/((1:Int)+d).toNat=1\/((1:Int)+d).toNat=2\/((1:Int)+d).toNat=3:=by lia
  have e1:(10000000:Int)^0=1:=by decide
  have e2:(10000000:Int)^1=10000000:=by decide
  have e3:(10000000:Int)^2=100000000000000:=by decide
  have e4:(10000000:Int)^3=1000000000000000000000:=by decide
  rcases this with z | z | z | z <;> rw[z]at O <;> lia
theorem zgX:zB ["one","other"] ["one","other"] (zj XI):=scq
theorem zgw (D:Df K mg "_law_less" XI ["one","other"] []):Cal P w K mg base "_law_less" 1 ["one","other"] [] VM:=by
 rcases r:D.calq (k:=0) zgX with⟨p,q,x,y,rfl,O,G,S,U,k⟩
 have I:=Bd4 S
 have F:=Bd4 U
 refine⟨_,zo (zE (xY Zi (zu zK (pxt (pv 0)) (pxt (pv 1))) (zu zK (pxt (pv 1)) (pxt (pv 0))) (zF _))),?_⟩
 refine⟨_,rL,p,_,_,_,rL,rL,.of O,at0 ..,_,rL,q,_,_,_,rL,rL,.of G,at1 ..,_,_,rL,rL,⟨I.1,F.2⟩,?_⟩
 refine⟨_,rL,q,_,_,_,rL,rL,.of G,at0 ..,_,rL,p,_,_,_,rL,rL,.of O,at1 ..,_,_,rL,rL,⟨F.1,I.2⟩,_,_,rL,rL,?_⟩
 have e:decide (x.num*(y.den:Int)<y.num*(x.den:Int))=decide (x<y):=by
  by_cases h:x<y
  ·rw[wm h,wm ((KM.vn x y).mpr h)]
  ·rw[wy h,wy λz=>h ((KM.vn x y).mp z)]
 show Q (.bl (decide (x.num*(y.den:Int)<y.num*(x.den:Int)))) H
 rw[e];exact k
end KK
namespace L2
open PySem PySem.Spec PyProof.Rows
def Xt {lo:Int}{n:Nat}{g:TG}{tb:TS}{D:ZF}{σ:St}{H:Hp}(Pv:Nat->St->Hp->Prop) (h0:Pv 0 σ H)
  (hs:∀i σ H (N B:St->Hp->Prop),i<n->Pv i σ H->(∀σ H,Pv (i+1) σ H->N σ H)->g (.int (lo+i)) σ H λσ2 H2=>tb { D with nx:=N,ct:=N,bk:=B } σ2 H2) (hd:∀σ H,Pv n σ H->D.nx σ H) :
  ∃W:Nat->Nat->St->Hp->Prop,(∃m,W 0 m σ H)/\∀i m σ H,W i m σ H →
   ((Itr lo n).stop i H/\D.nx σ H)\/((Itr lo n).go i H/\∃N:St->Hp->Prop,(∀σ' H',N σ' H'->∃m',m'<m/\W (i+1) m' σ' H')/\∀x H',(Itr lo n).yld i H x H'->g x σ H' λσ2 H2=>tb { D with nx:=N,ct:=N,bk:=D.nx } σ2 H2) :=
 Je Pv h0 (λi σ H hi hp=>hs i σ H _ _ hi hp λ_ _ q=>q) hd
section
variable {X:Cx}
def zgO:V->List V->Hp->VK->Prop:=λx vs H Q=>∃(l:Addr) (xs:List V) (i:Int) (y:V),x=.ref l/\vs=[.int i,y]/\H l=some (.lst xs)/\0<=i/\i<=xs.length/\xs.length<=1000/\Q .non (upd H l (.lst (xs.take i.toNat++y::xs.drop i.toNat)))
theorem zh7 (its:List Value) (i:Int) (u:Value) (h0:0<=i) (h1:i<=its.length) :
  ((its.toArray.extract 0 (if i<0 then(i+((its.toArray.size:Nat):Int)).toNat else min i.toNat its.toArray.size)).push u++its.toArray.extract (if i<0 then(i+((its.toArray.size:Nat):Int)).toNat else min i.toNat its.toArray.size))=(its.take i.toNat++u::its.drop i.toNat).toArray:=by
 rw[if_neg ∅,wN,show min i.toNat its.length=i.toNat by lia]
 apply Wc.mp
 simp
 exact List.take_of_length_le (by simp)
theorem zdi:MtM X "list.insert" zgO:=by
 intro pz s σ H x vs v us Q I rx rv h
 obtain⟨l,xs,i,y,rfl,rfl,hH,h0,h1,hz,q⟩:=h
 cases rx
 obtain⟨u1,u2,rfl,⟨t,rfl⟩,ru⟩:=rv.two
 obtain⟨z,its,n,r,hl,e⟩:=I.lstM hH
 have hf:Builtin.List.listFitsIndex i=true:=fitsIndex_both ∅ ∅
 have hz2:its.toArray.size<=sizeLine:=by rw[wN,<-hl];exact z
 refine call_meets F.slot_list_insert ⟨_,e,rfl⟩ F.entry_list_insert (F.args_list_insert_3 _ _ _) (AutoSeq1.list_insert_list_int_val_1 l its.toArray n i t u2 (by simp[hf]) hz2) ⟨e,?_⟩
 refine⟨.non,_,I.lset (its':=its.take i.toNat++u2::its.drop i.toNat) hH e (zh7 its i u2 h0 ∅) ((r.take i.toNat).append (.cons ru (r.drop i.toNat))) ?_,rL,q⟩
 have:xs.length<sizeLine:=vH hz
 rw[wV,wx,yn,List.length_drop]
 lia
inductive zaU (x:V) (y:V) (H:Hp) (Q:VK):Prop
 |mk:∀d ds n,(RdD H x d)->(RdD H y (.list ds))->(PyData.canLayAll0 ds=true)->(PyData.canLay0 d=true)->(PyData.depth d<=n)->(n<=60)->(Q (.bl (!ds.any λe=>PyData.eqv e d)) H)->zaU x y H Q
def zgP:R2:=λx y H Q=>zaU x y H Q
theorem zdn (hu:X.A.units+64<cLine):OpR X (compareOp .NotIn) zgP:=by
 intro pz s σ H x y v u Q I rx ry h
 obtain⟨d,ds,n,hd,he,c1,c2,hn,n60,q⟩:=h
 obtain⟨as,r1⟩:=hd.reads I rx
 obtain⟨bs,r2⟩:=he.reads I ry
 refine SeqAt.notIn_list_reads r2 r1 c1 c2 ?_ ⟨.bl _,H,I,rL,q⟩
 have:min (PyData.depthAll ds) d.depth<=d.depth:=Nat.min_le_right ..
 lia
end
end L2
namespace KK
open PySem L2 KM
variable {P:Program}{w:World}{K:Fg}{mg:Str->Option Value}{base:Heap}{aN:Addr}
theorem zgY:zB ["one","other"] ["one","other"] (zj ZV):=scq
theorem zgx (D:Df K mg "_law_minus" ZV ["one","other"] []) (cS:Cal P w K mg base "_law_sum" 2 ["one","other"] [] (qt Sz2 (· + ·))) (cP:Cal P w K mg base "_law_product" 2 ["one","other"] [] (qt Sz2 (· * ·))):Cal P w K mg base "_law_minus" 3 ["one","other"] [] (qt Sz2 (· - ·)):=by
 refine D.calq (k:=2) zgY (λf cdv A outer s H vs Q E hr2 h=>?_)
 rcases q:h with⟨p,q,x,y,rfl,hp,hq,⟨zx,zy⟩,k⟩
 refine⟨_,(zo (zE (zC cS hr2 (za (pv 0) (za (zC cP hr2 (za (pv 1) (za (zS (za (vB qF zi) (za zi zd))) zd))) zd))))),?_⟩
 try dsimp only[xc,Cx.nox]
 refine⟨_,rL,_,rL,_,rL,zL2,λe he=>?_⟩
 have S1:=zk.upd (o:=.tup [.int (-1),.int 1]) he
 have hm:zr (upd H e (.tup [.int (-1),.int 1])) e (-1):=zg
 have z1:Sz 4000 (-1:Rat):=⟨Bd.mono (m:=2) (show (-1:Int).natAbs<2^2 by decide) (by decide),Bd.mono (m:=2) (show ((1:Nat):Int).natAbs<2^2 by decide) (by decide)⟩
 refine⟨q,e,y,-1,rL,hq.same S1,hm,⟨zy,z1⟩,λr H' S2 hr=>?_⟩
 have zy':Sz 4000 (y*(-1)):=by
  rw[show y*(-1)=-y by grind]
  exact⟨by show Bd 4000 (-y).num;rw[Y7];exact zy.1.neg,by show Bd 4000 ((-y).den:Int);rw[Rat.neg_den];exact zy.2⟩
 refine⟨p,r,x,_,rL,hp.same (S1.trans S2),hr,⟨zx,zy'⟩,λr' H'' S3 hr'=>k r' H'' (S1.trans (S2.trans S3)) ?_⟩
 show zr H'' r' (x-y)
 rw[show x-y=x+y*(-1) by grind];exact hr'
theorem zi5:zB ["one","other"] ["one","other"] (zj XM):=scq
theorem zix (D:Df K mg "_law_over" XM ["one","other"] []) (cLo:Cal P w K mg base "_law_lowest" 1 ["top","bottom"] [] vt):Cal P w K mg base "_law_over" 2 ["one","other"] [] (qt (λx y=>Sz2 x y/\y≠0) (· / ·)):=by
 refine D.calq (k:=1) zi5 (λf cdv A outer s H vs Q E hr1 h=>?_)
 rcases q:h with⟨p,q,x,y,rfl,hp,hq,⟨⟨hx,hy⟩,hy0⟩,k⟩
 have bx:=Bd4 hx
 have b_y:=Bd4 hy
 refine⟨_,(zo (zE (zC cLo hr1 (za (zu zK (pxt (pv 0)) (pxt (pv 1))) (za (zu zK (pxt (pv 0)) (pxt (pv 1))) zd))))),?_⟩
 try dsimp only[xc,Cx.nox]
 refine⟨_,rL,p,_,_,_,rL,rL,.of hp,at0 ..,_,rL,q,_,_,_,rL,rL,.of hq,at1 ..,_,_,rL,rL,⟨bx.1,b_y.2⟩,?_⟩
 refine⟨_,rL,p,_,_,_,rL,rL,.of hp,at1 ..,_,rL,q,_,_,_,rL,rL,.of hq,at0 ..,_,_,rL,rL,⟨bx.2,b_y.1⟩,?_⟩
 refine⟨_,_,rL,uZ (KM.qN x) (λz=>hy0 (Rat.num_eq_zero.mp z)),(hx.2.mul hy.1).md,λr H' e h=>k r H' e ?_⟩
 show zr H' r (x/y)
 rw[<-KM.zct];exact h
def bLt (b c:Bl):Bool:=if b.pl=c.pl then decide (b.sp<c.sp)else decide (b.pl<c.pl)
inductive zg4  (vs:List V) (H:Hp) (Q:VK) (_e3:XK):Prop
 |mk:∀v u b c,(vs=[v,u])->(Xj H v b)->(Xj H u c)->(Sz2 b.pl c.pl)->(Sz2 b.sp c.sp)->(Q (.bl (bLt b c)) H)->zg4 vs H Q _e3
theorem zi4:zB ["one","other"] ["one","other"] (zj ZU):=scq
theorem zf9 {x y:Rat}:PyData.eqv (raD x) (raD y)=decide (x=y):=zdY x y
theorem zir (D:Df K mg "_law_ahead" ZU ["one","other"] []) (cLs:Cal P w K mg base "_law_less" 1 ["one","other"] [] VM):Cal P w K mg base "_law_ahead" 2 ["one","other"] [] zg4:=by
 refine D.calq (k:=1) zi4 (λf cdv A outer s H vs Q E hr1 h=>?_)
 have hu:=hr1.units
 rcases q:h with⟨v,u,b,c,rfl,⟨a,p,q,rfl,ha,hp,hq⟩,⟨a',p',q',rfl,ha',hp',hq'⟩,⟨z1,z2⟩,⟨z3,z4⟩,k⟩
 refine⟨_,(ze (xv (zH (jX hu) (pxt (pv 0)) (pxt (pv 1)) (zF _)) (zo (zE (zC cLs hr1 (za (pxt (pv 0)) (za (pxt (pv 1)) zd))))) zU)
  (zo (zE (zC cLs hr1 (za (pxt (pv 0)) (za (pxt (pv 1)) zd)))))),?_⟩
 try dsimp only[xc,Cx.nox]
 refine⟨_,rL,a,_,_,_,rL,rL,.of ha,rL,_,rL,a',_,_,_,rL,rL,.of ha',rL,raD b.pl,raD c.pl,zr.rdD hp,zr.rdD hp',rL,rL,?_⟩
 rw[zf9]
 unfold bLt at k
 by_cases e:b.pl=c.pl
 ·rw[wm e]
  rw[if_pos e]at k
  exact⟨_,rL,xO ⟨_,rL,a,_,_,_,rL,rL,.of ha,rL,_,rL,a',_,_,_,rL,rL,.of ha',rL,q,q',b.sp,c.sp,rL,hq,hq',z3,z4,k⟩⟩
 ·rw[wy e]
  rw[if_neg e]at k
  exact⟨_,rL,xz ⟨_,rL,a,_,_,_,rL,rL,.of ha,rL,_,rL,a',_,_,_,rL,rL,.of ha',rL,p,p',b.pl,c.pl,rL,hp,hp',z1,z2,k⟩⟩
end KK
namespace L2
open PySem PySem.Spec PyProof.Rows
section
variable {J:It}{D:Addr}{n:Nat}{js:List Nat}{σ:St}{g:TG}{tt:TT}{te:TE}{Z:Hp->Prop}{H:Hp}{xs:List V}
theorem zdO (hD:H D=none) (Y:zbe J H xs) (hl:xs.length<sizeLine)
  (hs:∀(i:Nat) (x:V) (zs:St) (H2:Hp) (A:VK) (B:Hp->Prop),xs[i]?=some x->zs.length=n->zk H H2->A x H2->B H2->g x (zs++qL σ js) H2 λF H4=>F.drop n=qL σ js/\tt F H4 λb G=>if b=true then te F G A else B G)
  (k:∀ys H',zk H H'->H' D=some (.lst ys)->ys.length<=xs.length->Z H') :
  ∃W:Nat->Nat->Hp->List V->Prop,(∃m,W 0 m (upd H D (.lst [])) [])/\∀i m H2 ys,W i m H2 ys->H2 D=some (.lst ys)->(J.stop i H2/\Z H2) ∨
   (J.go i H2/\∀zs x I,zs.length=n->J.yld i H2 x I->g x (zs++qL σ js) I λF H4=>F.drop n=qL σ js/\tt F H4 λb G=>if b=true then te F G (λv H6=>H6 D=some (.lst ys)/\ys.length<sizeLine/\∃S,S<m/\W (i+1) S (upd H6 D (.lst (ys++[v]))) (ys++[v]))
    else G D=some (.lst ys)/\∃S,S<m/\W (i+1) S G ys):=by
 refine ZN (Q:=λ_ H=>Z H) (tt:=tt) (N:=xs.length) (λi H2 ys=>zk H H2/\ys.length<=i) ⟨zk.upd hD,wo _⟩ (λi H2 ys hi p=>Y.go i H2 hi p.1) (λH2 ys p=>Y.stop H2 p.1) ?_ (λH2 ys q e=>k ys H2 q.1 e q.2)
 rintro i x zs H2 I ys Nx hN hi hz hy ⟨U,a1⟩ O
 obtain⟨rfl,hx⟩:=Y.yld i x H2 I U hy
 refine hs i x zs I _ _ hx hz U ⟨O,?_,hN _ _ ⟨λc o e=>?_,?_⟩⟩ ⟨O,hN _ _ ⟨U,by lia⟩⟩
 ·lia
 ·rw[zT (zZ e hD)];exact U _ _ e
 ·rw[wV,yR];lia
end
end L2
namespace KK
open PySem L2 KM
variable {P:Program}{w:World}{K:Fg}{mg:Str->Option Value}{base:Heap}{aN:Addr}
theorem qi.ins {H:Hp}{us:List V}{bs:List Bl}{v:V}{b:Bl}(h:qi H us bs) (I:Xj H v b) (i:Nat) (hi:i<=us.length):qi H (us.take i++v::us.drop i) (bs.take i++b::bs.drop i):=by
 have l:=h.1
 refine⟨by simp only[wV,wx,yn,List.length_drop];lia,λj w e=>?_⟩
 have lt:(us.take i).length=i:=by rw[yn];lia
 have F:(bs.take i).length=i:=by rw[yn];lia
 by_cases c:j<i
 ·rw[w8 ∅,Ys,if_pos c]at e
  rw[w8 ∅,Ys,if_pos c]
  exact h.2 j w e
 ·rw[wT ∅,lt]at e
  rw[wT ∅,F]
  by_cases c2:j=i
  ·subst c2
   rw[Wj]at e ⊢
   cases e
   exact⟨b,rL,I⟩
  ·obtain⟨t,G⟩:∃t,j-i=t+1:=⟨j-i-1,by lia⟩
   rw[G,uH,WN]at e
   rw[G,uH,WN]
   exact h.2 _ w e
theorem zei {α:Type}(bs:List α) (b:α) (i:Nat):(bs.take i++b::bs.drop i).Perm (bs++[b]):=by
 refine(List.perm_middle).trans ?_
 rw[uA]
 exact(List.perm_append_singleton b bs).symm
def zdF (b:Bl):Prop:=Sz 4000 b.pl/\Sz 4000 b.sp
inductive zjp  (vs:List V) (H:Hp) (Q:VK) (_e3:XK):Prop
 |mk:∀L us bs,(vs=[.ref L])->(H L=some (.lst us))->(qi H us bs)->(bs.length<=8)->((∀b∈bs,zdF b))->(∀r us' bs' H',zk H H'->H' r=some (.tup us')->qi H' us' bs'->bs'.Perm bs->Q (.ref r) H')->zjp vs H Q _e3
theorem zag:zB ["balls","found","ball","at"] ["balls"] (zj Zy):=scq
theorem ziC (D:Df K mg "_law_sorted" Zy ["balls"] []) (T:TxB K mg) (a6:Cal P w K mg base "_law_ahead" 2 ["one","other"] [] zg4):Cal P w K mg base "_law_sorted" 3 ["balls"] [] zjp:=by
 refine D.calq (k:=2) zag (λf cdv A outer s H vs Q E b0 h=>?_)
 rcases q:h with⟨L,us,bs,rfl,hL,hR,l8,hz,k⟩
 have a7:=hR.1
 refine⟨_,(ze (psl (i:=1) zag.nd (xR zd))
  (ze (vd PassesOwn.never rfl (xk (pv 0)) (J6 (i:=2) zag.nd rfl (Or.inr rfl)) (ze (psl (i:=3) zag.nd (zQ xj (by rfl) T.nLen PySem.boot_len (za (qz (NB:=["other"]) (FR:=["ball"]) (js:=[2]) rfl rfl (λx c h=>Xr rfl x c h) (.cons rfl rfl rfl ⟨_,rfl⟩ .nil) rfl (by decide +kernel) rfl (by decide +kernel) (xk (pv 1)) (by intro _ _ _;refine⟨?_,?_,?_⟩;(exact(pgl (i:=0) (show List.Nodup (["other","ball"]:List Str) by decide +kernel)));(exact(Vf (Js (K:=K) rfl (zC a6 b0 (za (pv 0) (za (pv 1) zd))) λ_=>rfl)));(exact(pv 0)))) zd)))
  (zo (qm (ZQ yB PySem.F.slot_list_insert PySem.F.type_list_insert zdi (pv 1) (za (pv 3) (za (pv 2) zd)))))))
  (zo (zE (vb jW (by rfl) T.nTuple uJ (za (pv 1) zd)))))),?_⟩
 try dsimp only[xc,Cx.nox]
 refine zG (λV G=>∃F,V=[Sr L,Sr F,none,none]/\zk H G/\H F=none/\G F=some (.lst [])) ?_ ?_
 rotate_left
 ·intro nx a1
  exact⟨by show 0<=sizeLine;lia,λF hF=>a1 _ _ ⟨F,rfl,zk.upd hF,hF,zg⟩⟩
 rintro σ0 G0 O;rcases q:O with⟨F,rfl,S0,a3,hF⟩
 have b4:F≠L:=λe=>by rw[e,hL]at a3;cases a3
 refine zG (λV G=>∃ws S Y x3,V=[Sr L,Sr F,Y,x3]/\zk H G/\G F=some (.lst ws)/\qi G ws S/\S.Perm bs) ?_ ?_
 rotate_left
 ·intro nx a1
  refine⟨_,rL,L,rL,⟨_,SqL.of (S0 _ _ hL)⟩,?_⟩
  refine vm (xs:=us) (λi V G=>∃ws S Y x3,V=[Sr L,Sr F,Y,x3]/\zk H G/\G F=some (.lst ws)/\qi G ws S/\S.Perm (bs.take i)) ⟨[],[],none,none,rfl,S0,hF,⟨rfl,λi v e=>by cases e⟩,List.Perm.nil⟩ (λi V G _ ⟨_,_,_,_,_,h,_⟩=>SqL.of (h _ _ hL)) ?_ ?_
  ·rintro i y V G hy O;rcases q:O with⟨ws,S,Y,x3,rfl,SG,W,I,U⟩
   obtain⟨b,eb,hb⟩:=(hR.keeps (.of SG)).2 i y hy
   have mb:=wL eb
   have cl:S.length<=8:=by rw[U.length_eq,yn];lia
   have wl:=I.1
   dsimp only[zD]
   refine⟨_,rL,F,rL,⟨_,SqL.of W⟩,λD1 b3=>?_⟩
   refine zdO (js:=[2]) (J:=Itl K F) (g:=zD 0) (te:=xw 0) (tt:=λσ H Q=>ZE zg4 [] E0 (xU (xw 0) (xU (xw 1) Z6)) σ H λx H'=>∃k,zcR K x H' k/\Q k H') (n:=1) (xs:=ws) b3 (xq W) (qo ∅) ?_ ?_
   ·intro j x zs H2 A B hx b2 S2 hA hB
    obtain⟨w1,rfl⟩:=Xm b2
    obtain⟨c,ec,hc⟩:=(I.keeps (.of S2)).2 j x hx
    have mc:=U.subset (wL ec)
    have a4:=List.mem_of_mem_take mc
    dsimp only[zD]
    refine⟨rL,_,rL,_,rL,x,y,c,b,rL,hc,hb.keeps (.of S2),⟨(hz c a4).1,(hz b mb).1⟩,⟨(hz c a4).2,(hz b mb).2⟩,_,rL,?_⟩
    cases bLt c b with
    |true=>exact xO ⟨_,rfl,hA⟩
    |false=>exact xz hB
   intro ys H2 S2 b1 a5
   have a2:=S2 _ _ W
   refine⟨D1,ys,rL,.inl (.of b1),?_⟩
   nofun
   refine⟨_,rfl,.inl ⟨rfl,_,SqL.of a2⟩,_,rfl,_,rfl,F,ws,_,y,rfl,rfl,a2,by lia,by lia,by lia,?_⟩
   have en:((ys.length:Int)).toNat=ys.length:=by lia
   rw[en]
   have a8:=hb.keeps (.of S2)
   have a9:=I.keeps (.of S2)
   have tu:xx H2 (upd H2 F (.lst (ws.take ys.length++y::ws.drop ys.length))):=xx.upd a2
   refine⟨_,S.take ys.length++b::S.drop ys.length,_,_,rL,vG (SG.trans S2) a3,zg,(a9.ins a8 ys.length a5).keeps tu,?_⟩
   rw[yA,eb]
   exact(zei S b ys.length).trans (U.append_right [b])
  ·rintro V G O;rcases q:O with⟨ws,S,Y,x3,rfl,SG,W,I,U⟩
   rw[a7,yq]at U
   exact a1 _ _ ⟨ws,S,Y,x3,rL,SG,W,I,U⟩
 rintro σ1 G O;rcases q:O with⟨ws,S,Y,x3,rfl,SG,W,I,U⟩
 refine⟨_,rL,F,ws,rL,.inl ⟨SqL.of W,λr hr=>?_⟩⟩
 have Sr:=zk.upd (o:=.tup ws) hr
 exact k r ws S _ (SG.trans Sr) zg (I.keeps (.of Sr)) U
def qj (W:Rat) (c n:Int):Rat:=W*Rat.divInt c (4*n)
theorem xF {a b:Int}:Rat.divInt a b=(a:Rat)/(b:Rat):=wE a b
theorem zc0 {W:Rat}{d n:Int}(O:0<n):Rat.divInt (d*W.num) (4*(W.den:Int)*n)=qj W d n:=by
 unfold qj
 rw[xF,xF]
 have e:W=(W.num:Rat)/((W.den:Int):Rat):=by rw[<-wE];exact(wW W).symm
 conv=>rhs;rw[e]
 have I:=zO (show (W.den:Int)≠0 by have:=den_pos W;omega)
 have F:=zO (show n≠0 by omega)
 rw[wj,wj,wj,wj]
 have G:((4:Int):Rat)≠0:=zO (by decide)
 generalize (W.num:Rat)=a at *
 generalize ((W.den:Int):Rat)=b at *
 generalize (n:Rat)=n' at *
 generalize ((4:Int):Rat)=f at *
 generalize (d:Rat)=d' at *
 grind
theorem zgb {W:Rat}{d n:Int}{i:Int}(S:0<n):qj W d n+W*Rat.divInt (2*i) n=qj W (d+8*i) n:=by
 unfold qj
 rw[xF,xF,xF,wj,wj,yk,wj]
 have O:=zO (show n≠0 by lia)
 have I:((4:Int):Rat)=4:=rfl
 have G:((8:Int):Rat)=8:=rfl
 have F:((2:Int):Rat)=2:=rfl
 rw[I,G,F]
 generalize (n:Rat)=n' at *
 generalize (d:Rat)=d' at *
 generalize (i:Rat)=i' at *
 grind
theorem zbq {W:Rat}{c n:Int}(F:0<W) (G:0<n):qj W c n<W↔c<4*n:=by
 have h:Rat.divInt c (4*n)<1↔c<4*n:=by
  have e:(1:Rat)=Rat.divInt (4*n) (4*n):=by
   rw[xF]
   have:=zO (show 4*n≠0 by omega)
   generalize ((4*n:Int):Rat)=a at *
   grind
  rw[e];exact qA (by omega)
 rw[<-h]
 unfold qj
 constructor
 ·intro k
  rcases Decidable.em (Rat.divInt c (4*n)<1)with z | z
  ·exact z
  ·have:=uE (show (1:Rat)<=Rat.divInt c (4*n) by grind) (yj F)
   grind
 ·intro k
  have:=uw k F
  grind
theorem JQ {W:Rat}{c n:Int}{m:Nat}(G:Sz m W) (O:0<=c) (S:c<=64) (I:0<n) (F:n<=8):Sz (m+8) (qj W c n) :=
 G.mul (.divInt ∅ (show c.natAbs<2^8 by lia) (show (4*n).natAbs<2^8 by lia))
def SpB (L W v:Rat) (n:Int) (b:Bl):Prop:=b.wt=7/\∃c:Int,0<=c/\c<8*n/\((c<4*n/\b.pl=L+qj W c n/\b.sp=v)\/(4*n<=c/\b.pl=L+(W*2-qj W c n)/\b.sp=-v))
theorem Sz.neg' {n:Nat}{y:Rat}(F:Sz n y):Sz n (-y):=⟨by show Bd n (-y).num;rw[Y7];exact F.1.neg,by show Bd n ((-y).den:Int);rw[Rat.neg_den];exact F.2⟩
theorem Jx:Sz 4000 (-1:Rat):=⟨Bd.mono (m:=2) (show (-1:Int).natAbs<2^2 by decide) (by decide),Bd.mono (m:=2) (show ((1:Nat):Int).natAbs<2^2 by decide) (by decide)⟩
theorem zkC:Sz 4000 (2:Rat):=⟨Bd.mono (m:=2) (show (2:Int).natAbs<2^2 by decide) (by decide),Bd.mono (m:=2) (show ((1:Nat):Int).natAbs<2^2 by decide) (by decide)⟩
theorem qi.snoc {H:Hp}{us:List V}{bs:List Bl}{v:V}{b:Bl}(h:qi H us bs) (F:Xj H v b):qi H (us++[v]) (bs++[b]):=by
 have:=h.ins F us.length (wo _)
 rw[yq,List.drop_length,h.1,yq,List.drop_length]at this
 exact this
def zhN:Sp:=λvs H Q _=>∃p lw wd pc L W v,∃n:Nat,vs=[.ref p,.int n,.ref lw,.ref wd,.ref pc]/\1<=n/\n<=8/\vV H p/\zr H lw L/\zr H wd W/\zr H pc v/\Sz 200 L/\Sz 200 W/\Sz 200 v/\0<W ∧
 ∀F us bs H',xt p H H'->H F=none->H' F=some (.lst us)->qi H' us bs->bs.length=n->(∀b∈bs,SpB L W v n b)->Q (.ref F) H'
theorem jS:zB ["pool","many","low","wide","pace","first","found","k","far","speed"] ["pool","many","low","wide","pace"] (zj ZA):=scq
theorem zgy (D:Df K mg "_law_spaced" ZA ["pool","many","low","wide","pace"] []) (T:TxB K mg) (cN:Cal P w K mg base "_law_next" 1 ["pool","base"] [] XT) (b6:Cal P w K mg base "_law_lowest" 1 ["top","bottom"] [] vt) (cS:Cal P w K mg base "_law_sum" 2 ["one","other"] [] (qt Sz2 (· + ·))) (cP:Cal P w K mg base "_law_product" 2 ["one","other"] [] (qt Sz2 (· * ·))) (e5:Cal P w K mg base "_law_less" 1 ["one","other"] [] VM):Cal P w K mg base "_law_spaced" 3 ["pool","many","low","wide","pace"] [] zhN:=by
 refine D.calq (k:=2) jS (λf cdv A outer s H vs Q E O h=>?_)
 have b0:xb 1 _:=O.md
 rcases q:h with⟨p,lw,wd,pc,L,W,v,n,rfl,n1,n8,hp,hL,hW,hv,zL,zW,zv,W0,k⟩
 refine⟨_,(ze (psl (i:=5) jS.nd (zC b6 b0 (za (zu zK (zC cN b0 (za (pv 0) (za zi zd))) (pxt (pv 3))) (za (zu zK (zu zK zi (pxt (pv 3))) (pv 1)) zd))))
  (ze (psl (i:=6) jS.nd (xR zd))
  (ze (vd PassesOwn.never rfl (Xe rfl T.nRange (za (pv 1) zd)) (pgl (i:=7) jS.nd) (ze (psl (i:=8) jS.nd (zC cS O (za (pv 5) (za (zC cP O (za (pv 3) (za (zC b6 b0 (za (zu zK zi (pv 7)) (za (pv 1) zd))) zd))) zd))))
  (ze (psl (i:=9) jS.nd (pv 4))
  (ze (xv (Zs (qr (zC e5 b0 (za (pv 8) (za (pv 3) zd))) λ_=>rfl)) (ze (psl (i:=8) jS.nd (zC cS O (za (zC cP O (za (pv 3) (za (zS (za zi (za zi zd))) zd))) (za (zC cP O (za (pv 8) (za (zS (za (vB qF zi) (za zi zd))) zd))) zd))))
  (zo (psl (i:=9) jS.nd (zC cP O (za (pv 4) (za (zS (za (vB qF zi) (za zi zd))) zd)))))) zU)
  (zo (qm (ZQ yB yM yN qB (pv 6) (za (zS (za (zC cS O (za (pv 2) (za (pv 8) zd))) (za (pv 9) (za zi zd)))) zd))))))))
  (zo (zE (pv 6)))))),?_⟩
 try dsimp only[xc,Cx.nox]
 refine zG (λV G=>∃(ft:Addr) (d:Int),V=[Sr p,Si n,Sr lw,Sr wd,Sr pc,Sr ft,none,none,none,none]/\xt p H G/\0<=d/\d<4/\zr G ft (qj W d n)) ?_ ?_
 rotate_left
 ·intro nx a6
  refine⟨_,rfl,p,_,rfl,by decide,by decide,hp,λd H1 d0 d4 S1=>?_⟩
  have a1:=S1.rat hp hW
  have wb:=Bd4 (zW.mono (n:=4000) (by decide))
  have bi:∀{i:Int},i.natAbs<2^10->Bd 1000000 i:=λh=>Bd.mono (m:=10) h (by decide)
  refine⟨_,rL,wd,_,_,_,rL,rL,.of a1,at0 ..,_,_,rL,rL,⟨bi ∅,wb.1⟩,?_⟩
  refine⟨_,rfl,wd,_,_,_,rfl,rfl,.of a1,at1 ..,_,_,rfl,rfl,⟨bi (by decide),wb.2⟩,_,rfl,_,_,rfl,rfl,⟨?_,bi ∅⟩,?_⟩
  ·exact((Bd.mono (m:=10) (show (4:Int).natAbs<2^10 by decide) (by decide):Bd 10 (4:Int)).mul zW.2).md
  refine⟨_,_,rL,?_,?_,λft H2 S2 b4=>?_⟩
  ·have:=den_pos W
   exact yu (wQ ∅ ∅)
  ·exact(((show Bd 10 (4:Int)from(show (4:Int).natAbs<2^10 by decide)).mul zW.2).mul (show Bd 10 (n:Int)from(show (n:Int).natAbs<2^10 by lia))).md
  refine a6 _ _ ⟨ft,d,rL,S1.same S2,d0,d4,?_⟩
  rw[<-zc0 ∅];exact b4
 rintro σ1 H1 I;rcases q:I with⟨ft,d,rfl,S1,d0,d4,b4⟩
 have c7:=S1.rat hp hL
 have a1:=S1.rat hp hW
 have c3:=S1.rat hp hv
 refine zG (λV G=>∃F,V=[Sr p,Si n,Sr lw,Sr wd,Sr pc,Sr ft,Sr F,none,none,none]/\zk H1 G/\H1 F=none/\G F=some (.lst [])) ?_ ?_
 rotate_left
 ·intro nx a6
  exact⟨by show 0<=sizeLine;lia,λF hF=>a6 _ _ ⟨F,rfl,zk.upd hF,hF,zg⟩⟩
 rintro σ2 H2 I;rcases q:I with⟨F,rfl,S2,a5,hF⟩
 have d5:H F=none:=by
  cases e:H F with
  |none=>rfl
  |some o =>
   by_cases c:F=p
   ·obtain⟨_,_,_,e2⟩:=S1.pool;rw[c,e2]at a5;cases a5
   ·rw[S1.keep _ _ e c]at a5;cases a5
 have b1:Sz 4000 W:=zW.md
 have d6:Sz 4000 v:=zv.md
 have d7:Sz 4000 L:=zL.md
 refine zG (λV G=>∃x7 x8 x9 ws Y,V=[Sr p,Si n,Sr lw,Sr wd,Sr pc,Sr ft,Sr F,x7,x8,x9]/\zk H1 G/\G F=some (.lst ws)/\qi G ws Y/\Y.length=n/\∀b∈Y,SpB L W v n b) ?_ ?_
 rotate_left
 ·intro nx a6
  refine⟨_,rfl,_,rfl,by lia,by lia,?_⟩
  refine Xt (n:=((n:Int)).toNat) (lo:=0) (λi V G=>∃x7 x8 x9 ws Y,V=[Sr p,Si n,Sr lw,Sr wd,Sr pc,Sr ft,Sr F,x7,x8,x9]/\zk H1 G/\G F=some (.lst ws)/\qi G ws Y/\Y.length=i/\∀b∈Y,SpB L W v n b) ⟨none,none,none,[],[],rfl,S2,hF,⟨rfl,λi v e=>by cases e⟩,rfl,λb m=>by cases m⟩ ?_ ?_
  ·rintro i V G N B hi ⟨x7,x8,x9,ws,Y,rfl,SG,hG,hR,b3,a4⟩ hN
   have e7:i<n:=by lia
   dsimp only[zD]
   have c0:0<=d+8*(i:Int):=by lia
   have c8:d+8*(i:Int)<8*n:=by lia
   have zf:Sz 208 (qj W (d+8*(i:Int)) n):=JQ zW c0 ∅ ∅ ∅
   have a7:Sz 4000 (qj W (d+8*(i:Int)) n):=zf.md
   refine zG (λV G'=>∃q8,V=[Sr p,Si n,Sr lw,Sr wd,Sr pc,Sr ft,Sr F,some (.int (0+(i:Int))),Sr q8,x9]/\zk G G'/\zr G' q8 (qj W (d+8*(i:Int)) n)) ?_ ?_
   rotate_left
   ·intro c6 U
    refine⟨_,rfl,_,rfl,_,rfl,_,_,rfl,rfl,⟨Bd.mono (m:=10) (show (2:Int).natAbs<2^10 by decide) (by decide),Bd.mono (m:=10) (show (0+(i:Int)).natAbs<2^10 by lia) (by decide)⟩,_,rfl,_,_,rfl,by lia,Bd.mono (m:=10) (show (n:Int).natAbs<2^10 by lia) (by decide),λq1 G1 T1 d8=>?_⟩
    refine⟨wd,q1,W,_,rfl,a1.same (SG.trans T1),d8,⟨b1,(Sz.divInt (n:=10) ∅ (show (2*(0+(i:Int))).natAbs<2^10 by lia) (show (n:Int).natAbs<2^10 by lia)).md⟩,λq2 G2 T2 c9=>?_⟩
    refine⟨ft,q2,_,_,rL,b4.same (SG.trans (T1.trans T2)),c9,⟨(JQ zW d0 ∅ ∅ ∅).md,?_⟩,λq3 G3 T3 b8=>?_⟩
    ·exact(zW.mul (Sz.divInt (n:=10) ∅ (show (2*(0+(i:Int))).natAbs<2^10 by lia) (show (n:Int).natAbs<2^10 by lia))).md
    refine U _ _ ⟨q3,rL,T1.trans (T2.trans T3),?_⟩
    have e:=zgb (W:=W) (d:=d) (n:=n) (i:=(i:Int)) ∅
    rw[<-e]
    rw[show (0:Int)+(i:Int)=(i:Int) by lia]at b8
    exact b8
   rintro σ4 G1 ⟨q8,rfl,T1,b2⟩
   refine⟨_,rL,?_⟩
   dsimp only[zD]
   have a3:=SG.trans T1
   refine zG (λV G'=>∃a8 a9 S a2,V=[Sr p,Si n,Sr lw,Sr wd,Sr pc,Sr ft,Sr F,some (.int (0+(i:Int))),Sr a8,Sr a9]/\zk G1 G'/\zr G' a8 S/\zr G' a9 a2/\Sz 4000 S/\SpB L W v n ⟨L+S,a2,7⟩) ?_ ?_
   rotate_left
   ·intro c6 U
    refine⟨_,rL,_,rL,q8,wd,_,W,rL,b2,a1.same a3,a7,b1,_,rL,?_⟩
    have c1:=zbq (c:=d+8*(i:Int)) (n:=(n:Int)) W0 ∅
    by_cases hc:qj W (d+8*(i:Int)) n<W
    ·rw[wm hc]
     refine xz ?_
     exact U _ _ ⟨q8,pc,_,v,rL,zk.refl _,b2,c3.same a3,a7,rL,d+8*(i:Int),c0,c8,.inl ⟨c1.mp hc,rL,rL⟩⟩
    ·rw[wy hc]
     have d2:4*(n:Int)<=d+8*(i:Int):=by
      rcases yD (d+8*(i:Int)) (4*(n:Int))with z | z
      ·exact absurd (c1.mpr z) hc
      ·exact z
     refine xO ?_
     have zn:Sz 4000 (qj W (d+8*(i:Int)) n*(-1)):=by
      rw[show qj W (d+8*(i:Int)) n*(-1)=-qj W (d+8*(i:Int)) n by grind];exact Sz.neg' a7
     have b7:Sz 300 (W*2):=(zW.mul (show Sz 10 (2:Rat)from⟨show (2:Int).natAbs<2^10 by decide,show ((1:Nat):Int).natAbs<2^10 by decide⟩)).md
     have d1:Sz 300 (qj W (d+8*(i:Int)) n*(-1)):=by
      rw[show qj W (d+8*(i:Int)) n*(-1)=-qj W (d+8*(i:Int)) n by grind];exact Sz.neg' (Sz.mono zf (by decide))
     refine⟨_,rL,zL2,λe1 d9=>?_⟩
     have U1:=zk.upd (o:=.tup [.int 2,.int 1]) d9
     have g1:zr (upd G1 e1 (.tup [.int 2,.int 1])) e1 2:=zg
     refine⟨wd,e1,W,2,rL,a1.same (a3.trans U1),g1,⟨b1,zkC⟩,λr1 G2 U2 h2=>?_⟩
     refine⟨_,rL,_,rL,zL2,λe2 c5=>?_⟩
     have U3:=zk.upd (o:=.tup [.int (-1),.int 1]) c5
     have g3:zr (upd G2 e2 (.tup [.int (-1),.int 1])) e2 (-1):=zg
     refine⟨q8,e2,_,-1,rL,b2.same (U1.trans (U2.trans U3)),g3,⟨a7,Jx⟩,λr2 G4 U4 h4=>?_⟩
     refine⟨r1,r2,_,_,rL,h2.same (U3.trans U4),h4,⟨b7.md,zn⟩,λr3 G5 U5 h5=>?_⟩
     have UU:=U1.trans (U2.trans (U3.trans (U4.trans U5)))
     refine⟨_,rL,_,rL,zL2,λe3 c4=>?_⟩
     have U6:=zk.upd (o:=.tup [.int (-1),.int 1]) c4
     have g6:zr (upd G5 e3 (.tup [.int (-1),.int 1])) e3 (-1):=zg
     refine⟨pc,e3,v,-1,rL,c3.same (a3.trans (UU.trans U6)),g6,⟨d6,Jx⟩,λr4 G6 U7 h7=>?_⟩
     refine U _ _ ⟨r3,r4,_,_,rL,UU.trans (U6.trans U7),h5.same (U6.trans U7),h7,(b7.add d1).md,rL,d+8*(i:Int),c0,c8,.inr ⟨d2,?_,?_⟩⟩
     ·show L+(W*2+qj W (d+8*(i:Int)) n*(-1))=L+(W*2-qj W (d+8*(i:Int)) n)
      grind
     ·show v*(-1)=-v
      grind
   rintro σ5 G2 I;rcases q:I with⟨a8,a9,S,a2,rfl,T2,h8,h9,z8,hB⟩
   have b9:=a3.trans T2
   have b5:=T2 _ _ (T1 _ _ hG)
   have e0:=(hR.keeps (.of T1)).keeps (.of T2)
   refine⟨_,rL,.inl ⟨rL,_,SqL.of b5⟩,_,rL,_,rL,lw,a8,L,S,rL,c7.same b9,h8,⟨d7,z8⟩,λr5 G3 T3 h5=>?_⟩
   refine⟨_,rL,zL3,λbl d3=>?_⟩
   have T4:=zk.upd (o:=.tup [.ref r5,.ref a9,.int 7]) d3
   have c2:=T4 _ _ (T3 _ _ b5)
   have e6:Xj (upd G3 bl (.tup [.ref r5,.ref a9,.int 7])) (.ref bl) ⟨L+S,a2,7⟩:=⟨bl,r5,a9,rfl,zg,h5.same T4,h9.same (T3.trans T4)⟩
   have e4:=((e0.keeps (.of T3)).keeps (.of T4)).snoc e6
   have wl:=hR.1
   refine⟨F,ws,_,rL,rL,c2,szl ∅,?_⟩
   refine hN _ _ ⟨_,_,_,_,Y++[⟨L+S,a2,7⟩],rfl,vG (b9.trans (T3.trans T4)) a5,zg,e4.keeps (xx.upd c2),by rw[wV,yR];lia,λb m=>?_⟩
   rcases wY.mp m with m | m
   ·exact a4 b m
   ·rw[wU.mp m];exact hB
  ·rintro V G I;rcases q:I with⟨x7,x8,x9,ws,Y,rfl,SG,hG,hR,b3,a4⟩
   exact a6 _ _ ⟨x7,x8,x9,ws,Y,rfl,SG,hG,hR,by lia,a4⟩
 rintro σ3 G I;rcases q:I with⟨x7,x8,x9,ws,Y,rfl,SG,hG,hR,b3,a4⟩
 exact⟨_,rL,k F ws Y G (S1.same SG) d5 hG hR b3 a4⟩
theorem zeA {d:Int}{u v x w:V}(F:0<=d) (h1:d<4):∃y,atI [u,v,x,w] d=some y/\(y=u\/y=v\/y=x\/y=w):=by
 have:d=0\/d=1\/d=2\/d=3:=by lia
 rcases this with rfl | rfl | rfl | rfl
 ·exact⟨_,rL,.inl rL⟩
 ·exact⟨_,rL,.inr (.inl rL)⟩
 ·exact⟨_,rL,.inr (.inr (.inl rL))⟩
 ·exact⟨_,rL,.inr (.inr (.inr rL))⟩
structure EvG (g j d c w jp dp:Int):Prop where
 g1:1<=g
 g2:g<=1000000000000000000000
 j : -6<=j/\j<=6
 d:d=1\/d=2
 c:c=1\/c=2\/c=3
 w:2<=w/\w<=10
 jp:1<=jp/\jp<=5
 dp:dp=1\/dp=2\/dp=3
theorem gBd {g:Int}(h1:1<=g) (h2:g<=1000000000000000000000):Bd 71 g:=by
 have:(2361183241434822606848:Nat)=2^71:=by decide
 show g.natAbs<2^71
 lia
def zA (g j d:Int):Rat:=Rat.divInt (j*g) d
def zN (g c:Int):Rat:=Rat.divInt g c
def GrS (g jp dp:Int) (v:Rat):Prop:=v=zA g jp dp\/v=-zA g jp dp\/v=0\/∃k e:Int,-6<=k/\k<=6/\(e=1\/e=2)/\v=zA g k e
def GrB (g j d c w jp dp wt:Int) (b:Bl):Prop:=b.wt=wt/\∃t:Int,0<=t/\t<=w/\b.pl=zA g j d+zN g c*(t:Rat) ∧
 GrS g jp dp b.sp/\(t=0->0<=b.sp)/\(t=w->b.sp<=0)
def EvB (g j d c w jp dp:Int) (n:Nat) (bs:List Bl):Prop:=(∀b∈bs,SpB (zA g j d) (zN g c*(w:Rat)) (zA g jp dp) n b)\/∃wt,∀b∈bs,GrB g j d c w jp dp wt b
theorem J0 {x:Rat}:x.num<0↔x<0:=by
 have:=Y2 (q:=x)
 constructor
 ·intro h;have:¬ 0<=x:=λc=>by have:=this.mpr c;omega
  grind
 ·intro h
  rcases yD x.num 0 with c | c
  ·exact c
  ·have:=this.mp c;grind
theorem zcq {x:Rat}:0<x.num↔0<x:=by
 have h1:=J0 (x := -x)
 rw[Y7]at h1
 constructor
 ·intro h;have:=h1.mp ∅;grind
 ·intro h;have:=h1.mpr (by grind);lia
theorem zay {g k e:Int} : -zA g k e=zA g (-k) e:=by
 unfold zA
 rw[Int.neg_mul,Rat.neg_divInt]
theorem GrS.neg {g jp dp:Int}{v:Rat}(h:GrS g jp dp v):GrS g jp dp (-v):=by
 rcases h with rfl | rfl | rfl | ⟨k,e,h1,h2,F,rfl⟩
 ·exact .inr (.inl rL)
 ·exact .inl (by grind)
 ·exact .inr (.inr (.inl (by grind)))
 ·exact .inr (.inr (.inr ⟨-k,e,by lia,by lia,F,zay⟩))
def blD (b:Bl):PyData:=.tuple [raD b.pl,raD b.sp,.int b.wt]
theorem Xj.rdD {H:Hp}{v:V}{b:Bl}(h:Xj H v b):RdD H v (blD b):=by
 obtain⟨a,p,q,rfl,h1,h2,F⟩:=h
 exact .tup h1 (.cons (zr.rdD h2) (.cons (zr.rdD F) (.cons (.int _) .nil)))
theorem zcC {H:Hp}:∀{us:List V}{bs:List Bl},qi H us bs->Qt H us (bs.map blD)
 |[],[],_=>.nil
 |[],_::_,h=>by have:=h.1;simp at this
 |_::_,[],h=>by have:=h.1;simp at this
 |u::us,b::bs,h=>by
  obtain⟨c,e,F⟩:=h.2 0 u rfl
  simp at e;subst e
  exact .cons (Xj.rdD F) (zcC ⟨by have:=h.1;simpa using this,λi v e=>by simpa using h.2 (i+1) v ↥e⟩)
theorem zbw (b:Bl):Lay 2 (blD b):=Lay.tup λd m=>by
 rcases ww.mp m with rfl | m
 ·exact Lay.rat _
 ·rcases ww.mp m with rfl | m
  ·exact Lay.rat _
  ·rw[wU.mp m];exact(Lay.int _).md
def zhM:Sp:=λvs H Q _=>∃p,∃m:Int,vs=[.ref p,.int m]/\1<=m/\m<=5/\vV H p/\∀t r a us bs g j d c w' jp dp H',∀n:Nat,xt p H H'->H' t=some (.tup [.ref r,.ref a])->H' r=some (.tup us)->qi H' us bs->1<=bs.length->bs.length<=n->n<=5->EvG g j d c w' jp dp->EvB g j d c w' jp dp n bs →
 (∃v1 v2,H' a=some (.tup [v1,v2])/\xu H' v1 (some (zA g j d,0))/\xu H' v2 (some (zA g j d+zN g c*(w':Rat),0)))->Q (.ref t) H'
theorem qE:zB ["pool","most","many","great","low","step","wide","pace","weight","walls","balls","k","at","other","speed","ball"] ["pool","most"] (zj XH):=scq
theorem ziv (D:Df K mg "_law_even" XH ["pool","most"] []) (T:TxB K mg) (cN:Cal P w K mg base "_law_next" 1 ["pool","base"] [] XT) (cF:Cal P w K mg base "_law_far" 2 ["pool"] [] za1) (g8:Cal P w K mg base "_law_lowest" 1 ["top","bottom"] [] vt) (cS:Cal P w K mg base "_law_sum" 2 ["one","other"] [] (qt Sz2 (· + ·))) (cP:Cal P w K mg base "_law_product" 2 ["one","other"] [] (qt Sz2 (· * ·))) (m3:Cal P w K mg base "_law_sorted" 3 ["balls"] [] zjp) (o0:Cal P w K mg base "_law_spaced" 3 ["pool","many","low","wide","pace"] [] zhN) :
  Cal P w K mg base "_law_even" 4 ["pool","most"] [] zhM:=by
 refine D.calq (k:=3) qE (λf cdv A outer s H vs Q E f0 h=>?_)
 rcases q:h with⟨p,m,rfl,m1,m5,hP,k⟩
 have Y:xb 1 _:=f0.md
 have d0:xb 2 _:=f0.md
 have hu:=f0.units
 refine⟨_,(ze (psl (i:=2) qE.nd (zu xp zi (zC cN Y (za (pv 0) (za (pv 1) zd)))))
  (ze (psl (i:=3) qE.nd (qp qy (xR (za zi (za (zu xp zi (zC cF d0 (za (pv 0) zd))) zd))) (vb Qw (by rfl) T.nInt Wo (za (xY ZP (zC cN Y (za (pv 0) (za zi zd))) zi (zF _)) zd)) (λ_ _=>rfl)))
  (ze (psl (i:=4) qE.nd (zC g8 Y (za (zu zK (zu qh (zC cN Y (za (pv 0) (za zi zd))) zi) (pv 3)) (za (zu xp zi (zC cN Y (za (pv 0) (za zi zd)))) zd))))
  (ze (psl (i:=5) qE.nd (zC g8 Y (za (pv 3) (za (qp qy (xR (za zi (za zi (za zi (za zi zd))))) (zC cN Y (za (pv 0) (za zi zd))) (λ_ _=>rfl)) zd))))
  (ze (psl (i:=6) qE.nd (zu xp zi (zC cN Y (za (pv 0) (za zi zd)))))
  (ze (psl (i:=7) qE.nd (zC g8 Y (za (zu zK (zu xp zi (zC cN Y (za (pv 0) (za zi zd)))) (pv 3)) (za (zu xp zi (zC cN Y (za (pv 0) (za zi zd)))) zd))))
  (ze (psl (i:=8) qE.nd (zu xp zi (zC cN Y (za (pv 0) (za zi zd)))))
  (ze (psl (i:=9) qE.nd (zS (za (zS (za (pv 4) (za (zS (za zi (za zi zd))) zd))) (za (zS (za (zC cS d0 (za (pv 4) (za (zC cP d0 (za (pv 5) (za (zS (za (pv 6) (za zi zd))) zd))) zd))) (za (zS (za zi (za zi zd))) zd))) zd))))
  (ze (xv (zH ZP (zC cN Y (za (pv 0) (za zi zd))) zi (zF _)) (zo (zE (zS (za (zC m3 f0 (za (zC o0 f0 (za (pv 0) (za (pv 2) (za (pv 4) (za (zC cP d0 (za (pv 5) (za (zS (za (pv 6) (za zi zd))) zd))) (za (pv 7) zd)))))) zd)) (za (pv 9) zd))))) zU)
  (ze (psl (i:=10) qE.nd (xR zd))
  (ze (vd PassesOwn.never rfl (Xe rfl T.nRange (za (pv 2) zd)) (pgl (i:=11) qE.nd) (ze (psl (i:=12) qE.nd (zC cN Y (za (pv 0) (za (zu xp (pv 6) zi) zd))))
  (ze (psl (i:=13) qE.nd (zC g8 Y (za (zu zK (zu qh (zC cN Y (za (pv 0) (za zi zd))) zi) (pv 3)) (za (zu xp zi (zC cN Y (za (pv 0) (za zi zd)))) zd))))
  (ze (psl (i:=14) qE.nd (qp qy (xR (za (pv 7) (za (zC cP d0 (za (pv 7) (za (zS (za (vB qF zi) (za zi zd))) zd))) (za (zS (za zi (za zi zd))) (za (pv 13) zd))))) (zC cN Y (za (pv 0) (za zi zd))) (λ_ _=>rfl)))
  (ze (xv (Ql ((ZT (zH ZP (pv 12) zi (zF _)) (jR (zH Zi (pxt (pv 14)) zi (zF _))))).pt (Xz ((ZT (zH ZP (pv 12) (pv 6) (zF _)) (jR (zH Xp (pxt (pv 14)) zi (zF _))))).pt)).pt (zo (psl (i:=14) qE.nd (zC cP d0 (za (pv 14) (za (zS (za (vB qF zi) (za zi zd))) zd))))) zU)
  (ze (psl (i:=15) qE.nd (zS (za (zC cS d0 (za (pv 4) (za (zC cP d0 (za (pv 5) (za (zS (za (pv 12) (za zi zd))) zd))) zd))) (za (pv 14) (za (pv 8) zd)))))
  (zo (xv (zH (zdn hu) (pv 15) (pv 10) rfl) (zo (qm (ZQ yB yM yN qB (pv 10) (za (pv 15) zd)))) zU))))))))
  (zo (zE (zS (za (zC m3 f0 (za (pv 10) zd)) (za (pv 9) zd)))))))))))))))),?_⟩
 try dsimp only[xc,Cx.nox]
 refine⟨_,rfl,_,rfl,p,m,rfl,by lia,by lia,hP,λd1 G1 a1 b1 t1=>⟨_,_,rfl,rfl,?_⟩⟩
 dsimp only[zD]
 refine zG (λσ' G=>∃g:Int,σ'=[Sr p,Si m,some (.int (1+d1)),Si g,none,none,none,none,none,none,none,none,none,none,none,none]/\xt p H G/\1<=g/\g<=1000000000000000000000) ?_ ?_
 rotate_left
 ·intro nx b9
  refine⟨_,rL,p,rL,t1.pool,λfr G2 a2 b2 t2=>⟨_,_,rL,rL,zL2,λl1 d5=>?_⟩⟩
  have T2:=t1.trans t2
  refine⟨_,rfl,p,_,rfl,by decide,by decide,T2.pool.new d5,λd2 G3 a3 b3 t3=>?_⟩
  refine⟨rL,.inr ⟨_,rL,?_⟩⟩
  have hl:=t3.keep l1 _ zg (T2.pool.ne d5)
  have T3:xt p H G3:=T2.trans (t3.pre (zk.upd d5))
  by_cases c:V.int d2=V.int 0
  ·rw[wm c]
   refine⟨l1,_,_,_,rL,rL,.of hl,rL,?_⟩
   exact b9 _ _ ⟨_,rfl,T3,by lia,by lia⟩
  ·rw[wy c]
   refine⟨l1,_,_,_,rL,rL,.of hl,rL,?_⟩
   exact b9 _ _ ⟨1,rfl,T3,by lia,by lia⟩
 rintro σ3 G3 U;rcases q:U with⟨g,rfl,T3,g1,g2⟩
 have bg:=gBd g1 g2
 have j3:∀{x:Int},0<=x+20->x<=20->Bd 1000000 x:=λh1 h2=>Bd.mono (m:=10) (show _<2^10 by lia) (by decide)
 have bi:∀{x:Int},1<=x->x<=12->x≠0/\Bd 8900 x:=λh1 h2=>⟨by lia,Bd.mono (m:=10) (show _<2^10 by lia) (by decide)⟩
 have j4:Bd 1000000 g:=bg.md
 refine zG (λσ' G=>∃rl j d,σ'=[Sr p,Si m,some (.int (1+d1)),Si g,Sr rl,none,none,none,none,none,none,none,none,none,none,none]/\xt p H G/\(-6<=j/\j<=6)/\(d=1\/d=2)/\zr G rl (zA g j d)) ?_ ?_
 rotate_left
 ·intro nx b9
  refine⟨_,rfl,p,_,rfl,by decide,by decide,T3.pool,λe1 G4 a4 b4 t4=>⟨_,_,rfl,rfl,_,rfl,_,_,rfl,rfl,⟨j3 ∅ ∅,j4⟩,?_⟩⟩
  have T4:=T3.trans t4
  refine⟨_,rfl,p,_,rfl,by decide,by decide,T4.pool,λe2 G5 a5 b5 t5=>⟨_,_,rfl,rfl,_,_,rfl,(bi ∅ ∅).1,(bi ∅ ∅).2,λrl G6 s6 hl=>?_⟩⟩
  exact b9 _ _ ⟨rl,e1-6,1+e2,rfl,(T4.trans t5).same s6,by lia,by lia,hl⟩
 rintro σ4 G4 U;rcases q:U with⟨rl,j,d,rfl,T4,hj,hd,g9⟩
 refine zG (λσ' G=>∃rs c,σ'=[Sr p,Si m,some (.int (1+d1)),Si g,Sr rl,Sr rs,none,none,none,none,none,none,none,none,none,none]/\xt p H G/\(c=1\/c=2\/c=3)/\zr G rl (zA g j d)/\zr G rs (zN g c)) ?_ ?_
 rotate_left
 ·intro nx b9
  refine⟨_,rL,zL4,λl1 d5=>?_⟩
  refine⟨_,rfl,p,_,rfl,by decide,by decide,T4.pool.new d5,λe1 G5 a5 b5 t5=>?_⟩
  have hl:=t5.keep l1 _ zg (T4.pool.ne d5)
  have l5:=t5.pre (zk.upd d5)
  obtain⟨y,ey,hy⟩:=zeA (u:=V.int 1) (v:=.int 1) (x:=.int 2) (w:=.int 3) a5 b5
  obtain⟨c,rfl,hc⟩:∃c:Int,y=.int c/\(c=1\/c=2\/c=3):=by
   rcases hy with rfl | rfl | rfl | rfl
   ·exact⟨1,rL,.inl rL⟩
   ·exact⟨1,rL,.inl rL⟩
   ·exact⟨2,rL,.inr (.inl rL)⟩
   ·exact⟨3,rL,.inr (.inr rL)⟩
  refine⟨l1,_,_,_,rL,rL,.of hl,ey,_,_,rL,(bi ∅ ∅).1,(bi ∅ ∅).2,λrs G6 s6 hs=>?_⟩
  exact b9 _ _ ⟨rs,c,rL,(T4.trans l5).same s6,hc,(l5.rat T4.pool g9).same s6,hs⟩
 rintro σ5 G5 U;rcases q:U with⟨rs,c,rfl,T5,hc,g9,k7⟩
 refine⟨_,rfl,p,_,rfl,by decide,by decide,T5.pool,λe6 G6 a6 b6 t6=>⟨_,_,rfl,rfl,?_⟩⟩
 have T6:=T5.trans t6
 have i0:=t6.rat T5.pool g9
 have h7:=t6.rat T5.pool k7
 clear g9 k7
 obtain⟨O,ew⟩:∃O:Int,O=2+e6:=⟨_,rfl⟩
 dsimp only[zD]
 refine zG (λσ' G=>∃S jp dp,σ'=[Sr p,Si m,some (.int (1+d1)),Si g,Sr rl,Sr rs,Si O,Sr S,none,none,none,none,none,none,none,none]/\xt p H G/\(1<=jp/\jp<=5)/\(dp=1\/dp=2\/dp=3)/\zr G rl (zA g j d)/\zr G rs (zN g c)/\zr G S (zA g jp dp)) ?_ ?_
 rotate_left
 ·intro nx b9
  refine⟨_,rfl,p,_,rfl,by decide,by decide,T6.pool,λe1 G7 a7 b7 t7=>⟨_,_,rfl,rfl,_,rfl,_,_,rfl,rfl,⟨j3 ∅ ∅,j4⟩,?_⟩⟩
  have T7:=T6.trans t7
  refine⟨_,rfl,p,_,rfl,by decide,by decide,T7.pool,λe2 G8 a8 b8 t8=>⟨_,_,rfl,rfl,_,_,rfl,(bi ∅ ∅).1,(bi ∅ ∅).2,λS G9 s9 hp=>?_⟩⟩
  have k4:=t7.trans t8
  exact b9 _ _ ⟨S,1+e1,1+e2,by rw[ew];rfl,(T7.trans t8).same s9,by lia,by lia,(k4.rat T6.pool i0).same s9,(k4.rat T6.pool h7).same s9,hp⟩
 rintro σ7 G7 U;rcases q:U with⟨S,jp,dp,rfl,T7,p2,o2,i4,i6,i3⟩
 clear i0 h7
 refine⟨_,rfl,p,_,rfl,by decide,by decide,T7.pool,λe8 G8 a8 b8 t8=>⟨_,_,rfl,rfl,?_⟩⟩
 have T8:=T7.trans t8
 have d9:=t8.rat T7.pool i4
 have g0:=t8.rat T7.pool i6
 have i2:=t8.rat T7.pool i3
 clear i4 i6 i3
 have n9:2<=O/\O<=10:=by lia
 dsimp only[zD]
 have EG:EvG g j d c O jp dp:=⟨g1,g2,hj,hd,hc,n9,p2,o2⟩
 have e7:Sz 80 (zA g j d):=.divInt ∅ (((show Bd 4 j from(show j.natAbs<2^4 by lia)).mul bg).md) (Bd.mono (m:=4) (show d.natAbs<2^4 by lia) (by decide))
 have e3:Sz 80 (zN g c):=.divInt ∅ (bg.md) (Bd.mono (m:=4) (show c.natAbs<2^4 by lia) (by decide))
 have e5:Sz 80 (zA g jp dp):=.divInt ∅ (((show Bd 4 jp from(show jp.natAbs<2^4 by lia)).mul bg).md) (Bd.mono (m:=4) (show dp.natAbs<2^4 by lia) (by decide))
 have c7:∀{x:Int},0<=x->x<=20->Sz 10 (x:Rat):=λ{x} h1 h2=>⟨show (x:Rat).num.natAbs<2^10 by rw[Wp];lia,show (((x:Rat).den:Int)).natAbs<2^10 by rw[WS];decide⟩
 have f9:∀{G:Hp}{e:Addr}{x:Int},G e=some (.tup [.int x,.int 1])->zr G e (x:Rat):=λ{G e x} h=>by
  unfold zr rp;rw[Wp,WS];exact h
 have zW:Sz 90 (zN g c*(O:Rat)):=(e3.mul (c7 ∅ ∅)).md
 refine zG (λσ' G=>∃rw,σ'=[Sr p,Si m,some (.int (1+d1)),Si g,Sr rl,Sr rs,Si O,Sr S,some (.int (1+e8)),Sr rw,none,none,none,none,none,none]/\zk G8 G/\∃v1 v2,G rw=some (.tup [v1,v2])/\xu G v1 (some (zA g j d,0))/\xu G v2 (some (zA g j d+zN g c*(O:Rat),0))) ?_ ?_
 rotate_left
 ·intro nx b9
  refine⟨_,rL,zL2,λz1 m9=>?_⟩
  have U1:=zk.upd (o:=.tup [.int 0,.int 1]) m9
  have q1:zr (upd G8 z1 (.tup [.int 0,.int 1])) z1 0:=zg
  generalize upd G8 z1 (.tup [.int 0,.int 1])=K1 at U1 q1
  refine⟨zL2,λw1 n0=>?_⟩
  have U2:=zk.upd (o:=.tup [.ref rl,.ref z1]) n0
  have q2:upd K1 w1 (.tup [.ref rl,.ref z1]) w1=some (.tup [.ref rl,.ref z1]):=zg
  generalize upd K1 w1 (.tup [.ref rl,.ref z1])=K2 at U2 q2
  refine⟨_,rL,_,rL,_,rL,zL2,λi1 g3=>?_⟩
  have U3:=zk.upd (o:=.tup [.int O,.int 1]) g3
  have q3:zr (upd K2 i1 (.tup [.int O,.int 1])) i1 (O:Rat):=f9 zg
  generalize upd K2 i1 (.tup [.int O,.int 1])=K3 at U3 q3
  have l7:=U1.trans (U2.trans U3)
  refine⟨rs,i1,zN g c,(O:Rat),rL,g0.same l7,q3,⟨e3.md,(c7 ∅ ∅).md⟩,λpr K4 U4 q4=>?_⟩
  refine⟨rl,pr,zA g j d,zN g c*(O:Rat),rL,d9.same (l7.trans U4),q4,⟨e7.md,zW.md⟩,λsm K5 U5 q5=>?_⟩
  refine⟨zL2,λz2 n6=>?_⟩
  have U6:=zk.upd (o:=.tup [.int 0,.int 1]) n6
  have q6:zr (upd K5 z2 (.tup [.int 0,.int 1])) z2 0:=zg
  generalize upd K5 z2 (.tup [.int 0,.int 1])=K6 at U6 q6
  refine⟨zL2,λw2 n7=>?_⟩
  have U7:=zk.upd (o:=.tup [.ref sm,.ref z2]) n7
  have q7:upd K6 w2 (.tup [.ref sm,.ref z2]) w2=some (.tup [.ref sm,.ref z2]):=zg
  generalize upd K6 w2 (.tup [.ref sm,.ref z2])=K7 at U7 q7
  refine⟨zL2,λa9 n5=>?_⟩
  have U8:=zk.upd (o:=.tup [.ref w1,.ref w2]) n5
  have g6:=U3.trans (U4.trans (U5.trans (U6.trans (U7.trans U8))))
  refine b9 _ _ ⟨a9,rL,U1.trans (U2.trans g6),.ref w1,.ref w2,zg,⟨w1,rl,z1,rL,g6 _ _ q2,d9.same (U1.trans (U2.trans g6)),q1.same (U2.trans g6)⟩,⟨w2,sm,z2,rL,U8 _ _ q7,q5.same (U6.trans (U7.trans U8)),q6.same (U7.trans U8)⟩⟩
 rintro σ9 G9 ⟨a9,rfl,S9,e0⟩
 have T9:=T8.same S9
 have i8:=d9.same S9
 have i7:=g0.same S9
 have h9:=i2.same S9
 clear d9 g0 i2
 refine⟨_,rfl,p,_,rfl,by decide,by decide,T9.pool,λe9 b0 p6 p8 c5=>?_⟩
 have d6:=T9.trans c5
 have f8:=c5.rat T9.pool i8
 have f6:=c5.rat T9.pool i7
 have g5:=c5.rat T9.pool h9
 have c8:∃v1 v2,b0 a9=some (.tup [v1,v2])/\xu b0 v1 (some (zA g j d,0))/\xu b0 v2 (some (zA g j d+zN g c*(O:Rat),0)):=by
  rcases q:e0 with⟨v1,v2,h1,⟨a,b,e,r1,r2,r3,r4⟩,⟨a',b',e',o6,m6,p0,n8⟩⟩
  exact⟨v1,v2,c5.tup T9.pool h1,⟨a,b,e,r1,c5.tup T9.pool r2,c5.rat T9.pool r3,c5.rat T9.pool r4⟩,⟨a',b',e',o6,c5.tup T9.pool m6,c5.rat T9.pool p0,c5.rat T9.pool n8⟩⟩
 clear i8 i7 h9 e0
 obtain⟨n,en⟩:∃n:Nat,(1:Int)+d1=(n:Int):=⟨(1+d1).toNat,by lia⟩
 have W0:0<zN g c*(O:Rat):=w5 ((xM ∅).mpr ∅) (wv.mpr ∅)
 refine⟨rL,_,rL,vu (λ_=>?_) (λ_=>?_)⟩
 ·rw[en]
  refine⟨_,rL,_,rL,_,rL,_,rL,_,rL,zL2,λi1 g3=>?_⟩
  have U1:=zk.upd (o:=.tup [.int O,.int 1]) g3
  have q1:zr (upd b0 i1 (.tup [.int O,.int 1])) i1 (O:Rat):=f9 zg
  generalize upd b0 i1 (.tup [.int O,.int 1])=K1 at U1 q1
  refine⟨rs,i1,zN g c,(O:Rat),rL,f6.same U1,q1,⟨e3.md,(c7 ∅ ∅).md⟩,λpr K2 U2 q2=>?_⟩
  have h5:=U1.trans U2
  have j6:=d6.same h5
  refine⟨_,rfl,p,rl,pr,S,zA g j d,zN g c*(O:Rat),zA g jp dp,n,rfl,by lia,by lia,j6.pool,f8.same h5,q2,g5.same h5,e7.md,zW.md,e5.md,W0,λF us bs K3 k9 hF n1 hR j1 hB=>?_⟩
  have n2:∀b∈bs,zdF b:=λb mb=>by
   rcases q:hB b mb with⟨_,c',h0,h8,hh⟩
   have zf:Sz 98 (qj (zN g c*(O:Rat)) c' n):=JQ zW h0 ∅ ∅ ∅
   have z2:Sz 100 (zN g c*(O:Rat)*2):=(zW.mul (show Sz 4 (2:Rat)from⟨show (2:Int).natAbs<2^4 by decide,show ((1:Nat):Int).natAbs<2^4 by decide⟩)).md
   rcases hh with⟨_,h1,h2⟩ | ⟨_,h1,h2⟩
   ·refine⟨?_,by rw[h2];exact e5.md⟩
    rw[h1];exact(e7.add zf).md
   ·refine⟨?_,by rw[h2];exact Sz.neg' (e5.md)⟩
    rw[h1]
    have:zN g c*(O:Rat)*2-qj (zN g c*(O:Rat)) c' n=zN g c*(O:Rat)*2 + -qj (zN g c*(O:Rat)) c' n:=by grind
    rw[this]
    exact(e7.add (z2.add (Sz.neg' zf))).md
  refine⟨F,us,bs,rfl,n1,hR,by lia,n2,λr k1 j5 K4 U4 i9 j7 pm=>?_⟩
  refine⟨_,rL,zL2,λt ht=>?_⟩
  have U5:=zk.upd (o:=.tup [.ref r,.ref a9]) ht
  have tu:xx b0 (upd K4 t (.tup [.ref r,.ref a9])):=λa xs h=>U5 _ _ (U4 _ _ (k9.tup j6.pool (h5 _ _ h)))
  rcases q:c8 with⟨v1,v2,hw,h1,h2⟩
  have pl:=pm.length_eq
  exact k t r a9 k1 j5 g j d c O jp dp _ n ((j6.trans k9).same (U4.trans U5)) zg (U5 _ _ i9) (j7.keeps (.of U5)) ∅ ∅ ∅ EG (.inl λb mb=>hB b (pm.subset mb)) ⟨v1,v2,tu _ _ hw,h1.tupsW tu,h2.tupsW tu⟩
 refine zcI ?_
 nofun
 refine zG (λσ' G=>∃F,σ'=[Sr p,Si m,some (.int (1+d1)),Si g,Sr rl,Sr rs,Si O,Sr S,some (.int (1+e8)),Sr a9,Sr F,none,none,none,none,none]/\zk b0 G/\b0 F=none/\G F=some (.lst [])) ?_ ?_
 rotate_left
 ·intro nx b9
  exact⟨by show 0<=sizeLine;lia,λF hF=>b9 _ _ ⟨F,rfl,zk.upd hF,hF,zg⟩⟩
 rintro r6 o3 U;rcases q:U with⟨F,rfl,o7,i5,m4⟩
 have l8:F≠p:=d6.pool.ne i5
 have m8:xt p b0 o3:=(xt.refl d6.pool).same o7
 refine zG (λσ' G=>∃d4 d3 d8 c9 c6 ws cs,σ'=[Sr p,Si m,some (.int (1+d1)),Si g,Sr rl,Sr rs,Si O,Sr S,some (.int (1+e8)),Sr a9,Sr F,d4,d3,d8,c9,c6]/\xt p b0 G/\G F=some (.lst ws)/\qi G ws cs/\cs.length<=n/\1<=cs.length/\∀b∈cs,GrB g j d c O jp dp (1+e8) b/\zdF b) ?_ ?_
 rotate_left
 ·intro nx b9
  refine⟨_,rfl,_,rfl,by lia,by lia,?_⟩
  refine Xt (n:=(1+d1).toNat) (lo:=0) (λi σ' G=>∃d4 d3 d8 c9 c6 ws cs,σ'=[Sr p,Si m,some (.int (1+d1)),Si g,Sr rl,Sr rs,Si O,Sr S,some (.int (1+e8)),Sr a9,Sr F,d4,d3,d8,c9,c6]/\xt p b0 G/\G F=some (.lst ws)/\qi G ws cs/\cs.length<=i/\(1<=i->1<=cs.length)/\∀b∈cs,GrB g j d c O jp dp (1+e8) b/\zdF b) ⟨none,none,none,none,none,[],[],rfl,m8,m4,⟨rfl,λi v e=>by cases e⟩,wo _,λh=>by lia,λb mb=>by cases mb⟩ ?_ ?_
  ·rintro i σ' G N B hi ⟨d4,d3,d8,c9,c6,ws,cs,rfl,TG,hG,hR,l6,j2,d7⟩ hN
   have r0:i<5:=by lia
   dsimp only[zD]
   refine⟨_,rfl,_,rfl,_,_,rfl,rfl,p,_,rfl,by lia,by lia,TG.pool,λI K1 a1 b1 t1=>?_⟩
   dsimp only[zD]
   refine zG (λσ' G'=>∃ro ov,σ'=[Sr p,Si m,some (.int (1+d1)),Si g,Sr rl,Sr rs,Si O,Sr S,some (.int (1+e8)),Sr a9,Sr F,some (.int (0+(i:Int))),Si I,Sr ro,c9,c6]/\xt p G G'/\zr G' ro ov/\GrS g jp dp ov/\Sz 80 ov) ?_ ?_
   rotate_left
   ·intro g7 W
    refine⟨_,rfl,p,_,rfl,by decide,by decide,t1.pool,λe1 K2 a2 b2 t2=>⟨_,_,rfl,rfl,_,rfl,_,_,rfl,rfl,⟨j3 ∅ ∅,j4⟩,?_⟩⟩
    have m0:=t1.trans t2
    refine⟨_,rfl,p,_,rfl,by decide,by decide,m0.pool,λe2 K3 a3 b3 t3=>⟨_,_,rfl,rfl,_,_,rfl,(bi ∅ ∅).1,(bi ∅ ∅).2,λro K4 s4 ho=>?_⟩⟩
    refine W _ _ ⟨ro,zA g (e1-6) (1+e2),rfl,(m0.trans t3).same s4,ho,.inr (.inr (.inr ⟨e1-6,1+e2,by lia,by lia,by lia,rfl⟩)),?_⟩
    exact .divInt ∅ (((show Bd 4 (e1-6)from(show (e1-6).natAbs<2^4 by lia)).mul bg).md) (Bd.mono (m:=4) (show (1+e2).natAbs<2^4 by lia) (by decide))
   rintro p9 h3 U;rcases q:U with⟨ro,ov,rfl,u1,n4,n3,p3⟩
   clear t1
   have TK:=TG.trans u1
   have h6:zr h3 S (zA g jp dp):=TK.rat d6.pool g5
   refine zG (λσ' G'=>∃rq qv,σ'=[Sr p,Si m,some (.int (1+d1)),Si g,Sr rl,Sr rs,Si O,Sr S,some (.int (1+e8)),Sr a9,Sr F,some (.int (0+(i:Int))),Si I,Sr ro,Sr rq,c6]/\xt p h3 G'/\zr G' rq qv/\GrS g jp dp qv/\Sz 80 qv) ?_ ?_
   rotate_left
   ·intro g7 W
    refine⟨_,rL,_,rL,_,rL,zL2,λm1 p1=>?_⟩
    have V1:=zk.upd (o:=.tup [.int (-1),.int 1]) p1
    have q1:zr (upd h3 m1 (.tup [.int (-1),.int 1])) m1 (-1):=zg
    refine⟨S,m1,_,-1,rL,h6.same V1,q1,⟨e5.md,Jx⟩,λnp K2 V2 q2=>?_⟩
    refine⟨zL2,λz9 m7=>?_⟩
    have V3:=zk.upd (o:=.tup [.int 0,.int 1]) m7
    have q3:zr (upd K2 z9 (.tup [.int 0,.int 1])) z9 0:=zg
    generalize upd K2 z9 (.tup [.int 0,.int 1])=K3 at V3 q3
    refine⟨_,rL,zL4,λl9 k5=>?_⟩
    have V4:=zk.upd (o:=.lst [.ref S,.ref np,.ref z9,.ref ro]) k5
    have k6:=V1.trans (V2.trans (V3.trans V4))
    have l2:=u1.same k6
    refine⟨_,rfl,p,_,rfl,by decide,by decide,l2.pool,λe4 K5 a4 b4 t4=>?_⟩
    have hl:=t4.keep l9 _ zg ((u1.same (V1.trans (V2.trans V3))).pool.ne k5)
    obtain⟨y,ey,hy⟩:=zeA (u:=V.ref S) (v:=.ref np) (x:=.ref z9) (w:=.ref ro) a4 b4
    have h4:∀{e:Addr}{v:Rat},zr K3 e v->zr K5 e v:=λh=>t4.rat l2.pool (h.same V4)
    refine⟨l9,_,_,_,rL,rL,.of hl,ey,?_⟩
    have st:xt p h3 K5:=t4.pre k6
    rcases hy with rfl | rfl | rfl | rfl
    ·exact W _ _ ⟨S,_,rL,st,h4 (h6.same (V1.trans (V2.trans V3))),.inl rL,e5⟩
    ·refine W _ _ ⟨np,-zA g jp dp,rL,st,h4 ?_,.inr (.inl rL),Sz.neg' e5⟩
     have:=q2.same V3
     rw[show -zA g jp dp=zA g jp dp*(-1) by grind];exact this
    ·exact W _ _ ⟨z9,0,rfl,st,h4 q3,.inr (.inr (.inl rfl)),⟨by show Bd 80 0;exact(show (0:Int).natAbs<2^80 by decide),by show Bd 80 1;exact(show (1:Int).natAbs<2^80 by decide)⟩⟩
    ·exact W _ _ ⟨ro,ov,rL,st,h4 (n4.same (V1.trans (V2.trans V3))),n3,p3⟩
   rintro p4 K2 U;rcases q:U with⟨rq,qv,rfl,u2,f5,k2,f7⟩
   refine zG (λσ' G'=>∃r2 v2,σ'=[Sr p,Si m,some (.int (1+d1)),Si g,Sr rl,Sr rs,Si O,Sr S,some (.int (1+e8)),Sr a9,Sr F,some (.int (0+(i:Int))),Si I,Sr ro,Sr r2,c6]/\zk K2 G'/\zr G' r2 v2/\GrS g jp dp v2/\Sz 80 v2/\(I=0->0<=v2)/\(I=O->v2<=0)) ?_ ?_
   rotate_left
   ·intro g7 W
    have nt:(I=0->0<=qv)->(I=O->qv<=0)->g7 [some (.ref p),some (.int m),some (.int (1+d1)),some (.int g),some (.ref rl),some (.ref rs),some (.int O),some (.ref S),some (.int (1+e8)),some (.ref a9),some (.ref F),some (.int (0+(i:Int))),some (.int I),some (.ref ro),some (.ref rq),c6] K2:=λh1 h2=>W _ _ ⟨rq,qv,rfl,zk.refl _,f5,k2,f7,h1,h2⟩
    refine⟨_,rL,rL,_,rL,vu (λc1=>?_) (λc1=>?_)⟩
    ·have z0:I=0:=V.int.inj (wA c1)
     refine⟨_,rL,rq,_,_,_,rL,rL,.of f5,at0 ..,_,_,rL,rL,_,rL,vu (λc2=>?_) (λc2=>?_)⟩
     ·have l0:qv<0:=J0.mp (wA c2)
      refine xO ?_
      refine⟨_,rL,_,rL,zL2,λe1 j9=>?_⟩
      have V1:=zk.upd (o:=.tup [.int (-1),.int 1]) j9
      have q1:zr (upd K2 e1 (.tup [.int (-1),.int 1])) e1 (-1):=zg
      refine⟨rq,e1,qv,-1,rL,f5.same V1,q1,⟨f7.md,Jx⟩,λr2 K3 V2 q2=>?_⟩
      exact W _ _ ⟨r2,-qv,rfl,V1.trans V2,by rw[show -qv=qv*(-1) by grind];exact q2,k2.neg,Sz.neg' f7,(λ_=>by grind),(λe=>by lia)⟩
     ·have l0:¬qv<0:=λz=>c2 (wm (J0.mpr z))
      refine⟨_,rL,_,rL,rL,_,rL,vu (λc3=>?_) (λc3=>?_)⟩
      ·have:I=O:=V.int.inj (wA c3)
       lia
      ·exact xz (nt (λ_=>by grind) (λe=>by lia))
    ·have z0:¬I=0:=λe=>c1 (wm (by rw[e]))
     refine xz ⟨_,rL,_,rL,rL,_,rL,vu (λc3=>?_) (λc3=>?_)⟩
     ·refine⟨_,rL,rq,_,_,_,rL,rL,.of f5,at0 ..,_,_,rL,rL,_,rL,vu (λc4=>?_) (λc4=>?_)⟩
      ·have l0:0<qv:=zcq.mp (wA c4)
       refine⟨_,rL,_,rL,zL2,λe1 j9=>?_⟩
       have V1:=zk.upd (o:=.tup [.int (-1),.int 1]) j9
       have q1:zr (upd K2 e1 (.tup [.int (-1),.int 1])) e1 (-1):=zg
       refine⟨rq,e1,qv,-1,rL,f5.same V1,q1,⟨f7.md,Jx⟩,λr2 K3 V2 q2=>?_⟩
       exact W _ _ ⟨r2,-qv,rfl,V1.trans V2,by rw[show -qv=qv*(-1) by grind];exact q2,k2.neg,Sz.neg' f7,(λe=>absurd e z0),(λ_=>by grind)⟩
      ·have l0:¬ 0<qv:=λz=>c4 (wm (zcq.mpr z))
       exact nt (λe=>absurd e z0) (λ_=>by grind)
     ·have w0:¬I=O:=λe=>c3 (wm (by rw[e]))
      exact xz (nt (λe=>absurd e z0) (λe=>absurd e w0))
   rintro r5 K3 U;rcases q:U with⟨r2,v2,rfl,S3,h2,o8,z2,m2,o9⟩
   have l4:xx b0 K3:=λa xs h=>S3 _ _ (u2.tup u1.pool (TK.tup d6.pool h))
   have l3:zr K3 rl (zA g j d):=l4 _ _ f8
   have k3:zr K3 rs (zN g c):=l4 _ _ f6
   have UU:xt p G K3:=(u1.trans u2).same S3
   have o5:qi K3 ws cs:=hR.keeps (λa xs h=>UU.tup TG.pool h)
   have o1:K3 F=some (.lst ws):=UU.keep _ _ hG l8
   have k8:0<=I/\I<=O:=by lia
   refine zG (λσ' G'=>∃rb,σ'=[Sr p,Si m,some (.int (1+d1)),Si g,Sr rl,Sr rs,Si O,Sr S,some (.int (1+e8)),Sr a9,Sr F,some (.int (0+(i:Int))),Si I,Sr ro,Sr r2,Sr rb]/\zk K3 G'/\Xj G' (.ref rb) ⟨zA g j d+zN g c*(I:Rat),v2,1+e8⟩) ?_ ?_
   rotate_left
   ·intro g7 W
    refine⟨_,rL,_,rL,_,rL,zL2,λi1 g3=>?_⟩
    have V1:=zk.upd (o:=.tup [.int I,.int 1]) g3
    have q1:zr (upd K3 i1 (.tup [.int I,.int 1])) i1 (I:Rat):=f9 zg
    generalize upd K3 i1 (.tup [.int I,.int 1])=K4 at V1 q1
    refine⟨rs,i1,_,_,rL,k3.same V1,q1,⟨e3.md,(c7 ∅ ∅).md⟩,λpr K5 V2 q2=>?_⟩
    refine⟨rl,pr,_,_,rL,l3.same (V1.trans V2),q2,⟨e7.md,(e3.mul (c7 ∅ ∅)).md⟩,λsm K6 V3 q3=>?_⟩
    refine⟨_,rL,_,rL,zL3,λrb o4=>?_⟩
    have V4:=zk.upd (o:=.tup [.ref sm,.ref r2,.int (1+e8)]) o4
    exact W _ _ ⟨rb,rL,V1.trans (V2.trans (V3.trans V4)),rb,sm,r2,rL,zg,q3.same V4,h2.same (V1.trans (V2.trans (V3.trans V4)))⟩
   rintro r7 K4 ⟨rb,rfl,S4,j1⟩
   have g4:=S4 _ _ o1
   have k0:=o5.keeps (.of S4)
   have j0:xt p b0 K4:=(TG.trans UU).same S4
   have j8:PyData.canLayAll0 (cs.map blD)=true:=(zc9 (n:=2) λdd md=>by obtain⟨b,_,rfl⟩:=wf.mp md;exact zbw b).1
   have wl:=hR.1
   have gb:GrB g j d c O jp dp (1+e8) ⟨zA g j d+zN g c*(I:Rat),v2,1+e8⟩:=⟨rfl,I,k8.1,k8.2,rfl,o8,m2,o9⟩
   have zb:zdF ⟨zA g j d+zN g c*(I:Rat),v2,1+e8⟩:=⟨(e7.add (e3.mul (c7 ∅ ∅))).md,z2.md⟩
   refine⟨_,rfl,_,rfl,blD _,cs.map blD,2,Xj.rdD j1,.lst g4 (zcC k0),j8,(zbw _).1,(zbw _).2,by decide,_,rfl,?_⟩
   cases hb:(!(cs.map blD).any λe=>PyData.eqv e (blD ⟨zA g j d+zN g c*(I:Rat),v2,1+e8⟩))with
   |true =>
    refine xO ⟨_,rL,.inl ⟨rL,_,SqL.of g4⟩,_,rL,F,ws,_,rL,rL,g4,szl ∅,?_⟩
    refine hN _ _ ⟨_,_,_,_,_,_,cs++[⟨zA g j d+zN g c*(I:Rat),v2,1+e8⟩],rL,?_,zg,(k0.snoc j1).keeps (xx.upd g4),?_,λ_=>?_,λb mb=>?_⟩
    ·refine⟨?_,λb o e ne=>?_⟩
     ·obtain⟨x,y,z,e⟩:=j0.pool
      exact⟨x,y,z,by rw[zT (Ne.symm l8)];exact e⟩
     ·rw[zT (zZ e i5)];exact j0.keep _ _ e ne
    ·rw[wV,yR];lia
    ·rw[wV,yR];lia
    ·rcases wY.mp mb with mb | mb
     ·exact d7 b mb
     ·rw[wU.mp mb];exact⟨gb,zb⟩
   |false =>
    refine xz (hN _ _ ⟨_,_,_,_,_,ws,cs,rfl,j0,g4,k0,by lia,λ_=>?_,d7⟩)
    rcases uC cs.length with c0 | c0
    ·rw[uf.mp c0]at hb;cases hb
    ·exact c0
  ·rintro σ' G U;rcases q:U with⟨d4,d3,d8,c9,c6,ws,cs,rfl,TG,hG,hR,l6,j2,d7⟩
   exact b9 _ _ ⟨d4,d3,d8,c9,c6,ws,cs,rfl,TG,hG,hR,by lia,j2 ∅,d7⟩
 rintro p4 p5 U;rcases q:U with⟨d4,d3,d8,c9,c6,ws,cs,rfl,TG,hG,hR,l6,j2,d7⟩
 refine⟨_,rfl,F,ws,cs,rfl,hG,hR,by lia,λb mb=>(d7 b mb).2,λr k1 j5 K4 U4 i9 j7 pm=>?_⟩
 refine⟨_,rL,zL2,λt ht=>?_⟩
 have U5:=zk.upd (o:=.tup [.ref r,.ref a9]) ht
 have tu:xx b0 (upd K4 t (.tup [.ref r,.ref a9])):=λa xs h=>U5 _ _ (U4 _ _ (TG.tup d6.pool h))
 rcases q:c8 with⟨v1,v2,hw,h1,h2⟩
 have pl:=pm.length_eq
 exact k t r a9 k1 j5 g j d c O jp dp _ n ((d6.trans TG).same (U4.trans U5)) zg (U5 _ _ i9) (j7.keeps (.of U5)) ∅ ∅ ∅ EG (.inr ⟨1+e8,λb mb=>(d7 b (pm.subset mb)).1⟩) ⟨v1,v2,tu _ _ hw,h1.tupsW tu,h2.tupsW tu⟩
theorem vo {A B:Int}{n m:Nat}(O:0<B) (G:Bd n A) (F:Bd m B) (I:m<=n):Bd n (Rat.divInt A B).num/\Bd m ((Rat.divInt A B).den:Int):=by
 refine⟨(Sz.divInt ∅ G (F.mono I)).1,F.of_le ?_⟩
 have:=Xs (t:=A) (b:=B) ∅
 lia
theorem zfB {g j d c t:Int}(hd:0<d) (G:0<c):zA g j d+zN g c*(t:Rat)=Rat.divInt (g*(j*c+t*d)) (d*c):=by
 unfold zA zN
 rw[xF,xF,xF,wj,wj,wj,yk,wj,wj]
 have I:=zO (show d≠0 by lia)
 have F:=zO (show c≠0 by lia)
 generalize (g:Rat)=g' at *
 generalize (j:Rat)=j' at *
 generalize (d:Rat)=d' at *
 generalize (c:Rat)=c' at *
 generalize (t:Rat)=t' at *
 grind
theorem zdZ {g j d c w e n:Int}(hd:0<d) (U:0<c) (S:0<n):zA g j d+qj (zN g c*(w:Rat)) e n=Rat.divInt (g*(j*(c*(4*n))+w*e*d)) (d*(c*(4*n))):=by
 have G:0<4*n:=by lia
 unfold zA zN qj
 generalize 4*n=N at *
 have I:=zO (show d≠0 by lia)
 have F:=zO (show c≠0 by lia)
 have O:=zO (show N≠0 by lia)
 simp only[xF,wj,yk]
 generalize (g:Rat)=g' at *
 generalize (j:Rat)=j' at *
 generalize (d:Rat)=d' at *
 generalize (c:Rat)=c' at *
 generalize (w:Rat)=w' at *
 generalize (e:Rat)=e' at *
 generalize (N:Rat)=n' at *
 grind
theorem zaA {W:Rat}{e n:Int}(O:0<n):W*2-qj W e n=qj W (8*n-e) n:=by
 unfold qj
 rw[xF,xF,yE,wj,wj]
 have I:=zO (show n≠0 by omega)
 have G:((4:Int):Rat)=4:=rfl
 have F:((8:Int):Rat)=8:=rfl
 rw[G,F]
 generalize (n:Rat)=n' at *
 generalize (e:Rat)=e' at *
 grind
theorem zaz {g k e:Int}(I:0<g) (G:0<k) (F:0<e):0<zA g k e:=(xM F).mpr (wQ G I)
theorem JP {g k e f:Int}(G:0<e) (h:e*f=6):zA g k e=((k*f:Int):Rat)*Rat.divInt g 6:=by
 unfold zA
 rw[xF,xF,wj,wj]
 have h':(e:Rat)*(f:Rat)=((6:Int):Rat):=by rw[<-wj,h]
 have I:=zO (show e≠0 by lia)
 rw[<-h']
 have F:=zO (show f≠0 by intro z;rw[z]at h;lia)
 generalize (g:Rat)=g' at *
 generalize (k:Rat)=k' at *
 generalize (e:Rat)=e' at *
 generalize (f:Rat)=f' at *
 grind
structure BlF (lo hi:Rat) (u:Rat) (b:Bl):Prop where
 p:Bd 100 b.pl.num/\Bd 12 (b.pl.den:Int)
 s:Bd 80 b.sp.num/\Bd 13 (b.sp.den:Int)
 i:lo<=b.pl/\b.pl<=hi
 o:b.sp<0->lo<b.pl
 k:b.sp≠0->∃k:Nat,1<=k/\k<=36/\(b.sp=((k:Int):Rat)*u\/b.sp=-(((k:Int):Rat)*u))
section
variable {g j d c w jp dp:Int}
theorem EvG.pos (h:EvG g j d c w jp dp):0<g/\0<d/\0<c/\0<dp:=⟨by have:=h.g1;lia,by have:=h.d;lia,by have:=h.c;lia,by have:=h.dp;lia⟩
theorem zjv {k e:Int}(W:0<g) (U : -6<=k/\k<=6) (G:e=1\/e=2\/(e=3 ∧ -5<=k/\k<=5)) (S:zA g k e≠0):∃n:Nat,1<=n/\n<=36/\(zA g k e=((n:Int):Rat)*Rat.divInt g 6\/zA g k e=-(((n:Int):Rat)*Rat.divInt g 6)):=by
 obtain⟨f,F,O,I⟩:∃f:Int,0<e/\e*f=6/\(f=6\/f=3\/f=2):=by
  rcases G with rfl | rfl | ⟨rfl,_⟩
  ·exact⟨6,by decide,by decide,.inl rfl⟩
  ·exact⟨3,by decide,by decide,.inr (.inl rfl)⟩
  ·exact⟨2,by decide,by decide,.inr (.inr rfl)⟩
 have e1:=JP (g:=g) (k:=k) F O
 have k0:k≠0:=λz=>S (by rw[e1,z,Int.zero_mul];show (0:Rat)*_=0;rw[ur])
 have V : -36<=k*f/\k*f<=36/\k*f≠0:=by
  rcases I with rfl | rfl | rfl <;> lia
 refine⟨(k*f).natAbs,by lia,by lia,?_⟩
 rcases yD 0 (k*f)with z | z
 ·exact .inl (by rw[e1,show (((k*f).natAbs:Nat):Int)=k*f by lia])
 ·refine .inr ?_
  rw[e1,show (((k*f).natAbs:Nat):Int)=-(k*f) by lia,yT]
  grind
theorem zfz {k e:Int}(F:1<=g) (G:g<=1000000000000000000000) (S : -6<=k/\k<=6) (O:1<=e/\e<=3):Bd 80 (zA g k e).num/\Bd 13 ((zA g k e).den:Int):=by
 have I:=gBd F G
 exact vo ∅ (((show Bd 4 k from(show k.natAbs<2^4 by lia)).mul I).md) (show e.natAbs<2^13 by lia) (by decide)
theorem GrS.fit (h:EvG g j d c w jp dp){v:Rat}(O:GrS g jp dp v):(Bd 80 v.num/\Bd 13 (v.den:Int))/\(v≠0->∃k:Nat,1<=k/\k<=36/\(v=((k:Int):Rat)*Rat.divInt g 6\/v=-(((k:Int):Rat)*Rat.divInt g 6))):=by
 have F:=h.pos
 have I:=h.jp
 have G:=h.dp
 rcases O with rfl | rfl | rfl | ⟨k,e,k1,k2,S,rfl⟩
 ·exact⟨zfz h.g1 h.g2 ∅ ∅,λz=>zjv F.1 ∅ ∅ z⟩
 ·rw[zay]
  exact⟨zfz h.g1 h.g2 ∅ ∅,λz=>zjv F.1 ∅ ∅ z⟩
 ·exact⟨⟨by show Bd 80 0;exact(show (0:Int).natAbs<2^80 by decide),by show Bd 13 1;exact(show (1:Int).natAbs<2^13 by decide)⟩,λz=>absurd rfl z⟩
 ·exact⟨zfz h.g1 h.g2 ⟨k1,k2⟩ ∅,λz=>zjv F.1 ⟨k1,k2⟩ ∅ z⟩
theorem GrB.fit (h:EvG g j d c w jp dp){U:Int}{b:Bl}(Y:GrB g j d c w jp dp U b):BlF (zA g j d) (zA g j d+zN g c*(w:Rat)) (Rat.divInt g 6) b:=by
 obtain⟨_,t,W,tw,e1,hs,h1,h2⟩:=Y
 have F:=h.pos
 have hj:=h.j
 have hd:=h.d
 have S:=h.c
 have hw:=h.w
 have bg:=gBd h.g1 h.g2
 have G:0<zN g c:=(xM F.2.2.1).mpr F.1
 have f:=GrS.fit h hs
 have O:(0:Rat)<=(t:Rat):=Wh.mpr W
 have I:(t:Rat)<=(w:Rat):=yd.mpr tw
 have m1:=uK (yj G) O
 have m2:=uE I (yj G)
 refine⟨?_,f.1,by rw[e1];constructor <;> grind,λhn=>?_,f.2⟩
 ·rw[e1,zfB F.2.1 F.2.2.1]
  refine vo (wQ F.2.1 F.2.2.1) ((bg.mul (show Bd 10 (j*c+t*d)from ?_)).md) ?_ (by decide)
  ·show (j*c+t*d).natAbs<2^10
   rcases S with rfl | rfl | rfl <;> rcases hd with rfl | rfl <;> lia
  ·show (d*c).natAbs<2^12
   rcases S with rfl | rfl | rfl <;> rcases hd with rfl | rfl <;> decide
 ·have V:0<t:=by
   rcases yD 0 t with z | z
   ·exact z
   ·have:=h1 ∅;grind
  have:=w5 G (wv.mpr V)
  rw[e1];grind
theorem zd1 {W:Rat}{e n:Int}(hW:0<W) (hn:0<n) (h:0<=e):0<=qj W e n:=uK (yj hW) (Jc ∅ h)
theorem zgc {W:Rat}{e n:Int}(hW:0<W) (hn:0<n) (h:0<e):0<qj W e n:=w5 hW ((xM ∅).mpr h)
theorem zd0 {W:Rat}{e n:Int}(hW:0<W) (hn:0<n) (h:e<=4*n):qj W e n<=W:=by
 rcases yD e (4*n)with z | z
 ·exact yj ((zbq hW hn).mpr z)
 ·have e1:e=4*n:=by lia
  have e2:Rat.divInt (4*n) (4*n)=1:=by
   rw[xF]
   have:=zO (show 4*n≠0 by lia)
   generalize ((4*n:Int):Rat)=a at *
   grind
  unfold qj
  rw[e1,e2]
  grind
theorem EvG.W0 (h:EvG g j d c w jp dp):0<zN g c*(w:Rat):=by
 have hp:=h.pos
 have:=h.w
 exact w5 ((xM hp.2.2.1).mpr hp.1) (wv.mpr ∅)
theorem SpB.fit (h:EvG g j d c w jp dp){n:Nat}(n1:1<=n) (n5:n<=5){b:Bl}(hb:SpB (zA g j d) (zN g c*(w:Rat)) (zA g jp dp) n b):BlF (zA g j d) (zA g j d+zN g c*(w:Rat)) (Rat.divInt g 6) b:=by
 have hp:=h.pos
 have hj:=h.j
 have hd:=h.d
 have hc:=h.c
 have hw:=h.w
 have hjp:=h.jp
 have bg:=gBd h.g1 h.g2
 have W0:=h.W0
 have v0:0<zA g jp dp:=zaz hp.1 ∅ hp.2.2.2
 obtain⟨_,e,e0,e8,hh⟩:=hb
 obtain⟨e',h0,h4,e1,hs,ho⟩:∃e':Int,0<=e'/\e'<=4*(n:Int)/\b.pl=zA g j d+qj (zN g c*(w:Rat)) e' n/\GrS g jp dp b.sp/\(b.sp<0->0<e'):=by
  rcases hh with⟨k1,k2,k3⟩ | ⟨k1,k2,k3⟩
  ·exact⟨e,e0,by lia,k2,.inl k3,λz=>by rw[k3]at z;grind⟩
  ·exact⟨8*n-e,by lia,by lia,by rw[k2,zaA ∅],.inr (.inl k3),λ_=>by lia⟩
 have f:=GrS.fit h hs
 have nn:=zd1 (n:=(n:Int)) W0 ∅ h0
 have le:=zd0 (n:=(n:Int)) W0 ∅ h4
 refine⟨?_,f.1,by rw[e1];constructor <;> grind,λhn=>?_,f.2⟩
 ·rw[e1,zdZ hp.2.1 hp.2.2.1 ∅]
  have cn:Bd 6 (c*(4*(n:Int))):=by show (c*(4*(n:Int))).natAbs<2^6;rcases hc with rfl | rfl | rfl <;> lia
  have bd:Bd 2 d:=(show d.natAbs<2^2 by lia)
  have bw:Bd 10 (w*e'):=(show Bd 4 w from(show w.natAbs<2^4 by lia)).mul (show Bd 6 e' from(show e'.natAbs<2^6 by lia))
  exact vo (wQ hp.2.1 (wQ hp.2.2.1 ∅)) ((bg.mul (((show Bd 3 j from(show j.natAbs<2^3 by lia)).mul cn).add (bw.mul bd))).md) ((bd.mul cn).md) (by decide)
 ·have:=zgc (n:=(n:Int)) W0 ∅ (ho hn)
  rw[e1];grind
theorem EvB.fit (h:EvG g j d c w jp dp){n:Nat}(n1:1<=n) (n5:n<=5){bs:List Bl}(hb:EvB g j d c w jp dp n bs):(∀b∈bs,BlF (zA g j d) (zA g j d+zN g c*(w:Rat)) (Rat.divInt g 6) b)/\∃wt,∀b∈bs,b.wt=wt:=by
 rcases hb with hb | ⟨wt,hb⟩
 ·exact⟨λb m=>SpB.fit h n1 n5 (hb b m),7,λb m=>(hb b m).1⟩
 ·exact⟨λb m=>GrB.fit h (hb b m),wt,λb m=>(hb b m).1⟩
theorem zhV {lo:Rat}{k:Int}(hg:0<g) (hc:0<c) (hk:0<k):2*(lo+zN g c*(w:Rat)-lo)/((k:Rat)*Rat.divInt g 6)=Rat.divInt (12*w) (c*k):=by
 unfold zN
 have d1:=zO (show g≠0 by lia)
 have d2:=zO (show c≠0 by lia)
 have d3:=zO (show k≠0 by lia)
 simp only[xF,wj]
 have e6:((6:Int):Rat)=6:=rfl
 have e12:((12:Int):Rat)=12:=rfl
 rw[e6,e12]
 generalize (g:Rat)=g' at *
 generalize (c:Rat)=c' at *
 generalize (w:Rat)=w' at *
 generalize (k:Rat)=k' at *
 grind
theorem zel {u v:Rat}{k k':Nat}(hu:0<u) (k1:1<=k') (h:v=((k:Int):Rat)*u\/v=-(((k:Int):Rat)*u)) (h':v=((k':Int):Rat)*u\/v=-(((k':Int):Rat)*u)):k=k':=by
 have p0:(0:Rat)<=((k:Int):Rat):=Wh.mpr ∅
 have p1:(0:Rat)<((k':Int):Rat):=wv.mpr ∅
 have m0:=uK p0 (yj hu)
 have m1:=w5 p1 hu
 have e:((k:Int):Rat)*u=((k':Int):Rat)*u:=by
  rcases h with h | h <;> rcases h' with h' | h'
  ·rw[<-h,<-h']
  ·exfalso;rw[h]at h';grind
  ·exfalso;rw[h]at h';grind
  ·rw[h]at h';grind
 have e2:((k:Int):Rat)=((k':Int):Rat):=by
  have un:u≠0:=by grind
  clear m0 m1 p0 p1 h h'
  generalize ((k:Int):Rat)=a at *
  generalize ((k':Int):Rat)=b at *
  grind
 have:=yH.mp e2
 lia
theorem zd3 (h:EvG g j d c w jp dp){bs:List Bl}(l1:1<=bs.length) (l5:bs.length<=5) (hf:∀b∈bs,BlF (zA g j d) (zA g j d+zN g c*(w:Rat)) (Rat.divInt g 6) b){wt:Int}(hwt:∀b∈bs,b.wt=wt) :
  RwZ bs (zA g j d,0) (zA g j d+zN g c*(w:Rat),0)/\RwU bs (zA g j d,0) (zA g j d+zN g c*(w:Rat),0) (Rat.divInt g 6) 36 ∧
  ∃b0,bs[0]?=some b0/\plB (tb b0) (bs.map tb) (some (zA g j d,0)) (some (zA g j d+zN g c*(w:Rat),0))=true:=by
 have hp:=h.pos
 have hj:=h.j
 have hd:=h.d
 have hc:=h.c
 have hw:=h.w
 have bg:=gBd h.g1 h.g2
 have W0:=h.W0
 have b0:Bd 80 (0:Rat).num/\Bd 13 ((0:Rat).den:Int):=⟨by show Bd 80 0;exact(show (0:Int).natAbs<2^80 by decide),by show Bd 13 1;exact(show (1:Int).natAbs<2^13 by decide)⟩
 have blo:Bd 100 (zA g j d).num/\Bd 12 ((zA g j d).den:Int):=vo hp.2.1 (((show Bd 4 j from(show j.natAbs<2^4 by lia)).mul bg).md) (show d.natAbs<2^12 by lia) (by decide)
 have bhi:Bd 100 (zA g j d+zN g c*(w:Rat)).num/\Bd 12 ((zA g j d+zN g c*(w:Rat)).den:Int):=by
  rw[zfB hp.2.1 hp.2.2.1]
  refine vo (wQ hp.2.1 hp.2.2.1) ((bg.mul (show Bd 10 (j*c+w*d)from ?_)).md) ?_ (by decide)
  ·show (j*c+w*d).natAbs<2^10
   rcases hc with rfl | rfl | rfl <;> rcases hd with rfl | rfl <;> lia
  ·show (d*c).natAbs<2^12
   rcases hc with rfl | rfl | rfl <;> rcases hd with rfl | rfl <;> decide
 have mem:∀t∈ths bs (some (zA g j d,0)) (some (zA g j d+zN g c*(w:Rat),0)),(∃b∈bs,t=(b.pl,b.sp))\/t=(zA g j d,0)\/t=(zA g j d+zN g c*(w:Rat),0):=λt m=>by
  unfold ths at m
  rcases wY.mp m with m | m
  ·obtain⟨b,mb,rfl⟩:=wf.mp m;exact .inl ⟨b,mb,rfl⟩
  ·simp only[Qh,wY,wU]at m
   rcases m with m | m
   ·exact .inr (.inl m)
   ·exact .inr (.inr m)
 refine⟨⟨λt m=>?_,λt m=>?_,by lia,by show zA g j d<zA g j d+zN g c*(w:Rat);grind,λb m=>(hf b m).i,λb m=>(hf b m).o⟩,⟨(xM (by decide)).mpr hp.1,by decide,λb m=>(hf b m).k,?_,λb m b0 k hk=>?_⟩,?_⟩
 ·rcases mem t m with⟨b,mb,rfl⟩ | rfl | rfl
  ·exact(hf b mb).p
  ·exact blo
  ·exact bhi
 ·rcases mem t m with⟨b,mb,rfl⟩ | rfl | rfl
  ·exact(hf b mb).s
  ·exact b0
  ·exact b0
 ·have e:=zhV (lo:=zA g j d) (w:=w) (k:=1) hp.1 hp.2.2.1 (by decide)
  have e1:((1:Int):Rat)=1:=rfl
  rw[e1,WC]at e
  show Bd 20 (2*(zA g j d+zN g c*(w:Rat)-zA g j d)/Rat.divInt g 6).num
  rw[e]
  exact(vo (n:=20) (m:=20) ∅ (show (12*w).natAbs<2^20 by lia) (show (c*1).natAbs<2^20 by lia) (by decide)).1
 ·obtain⟨k',k1,k36,hk'⟩:=(hf b m).k b0
  have u0:0<Rat.divInt g 6:=(xM (by decide)).mpr hp.1
  have ek:=zel u0 k1 hk hk'
  subst ek
  show Bd 20 ((2*(zA g j d+zN g c*(w:Rat)-zA g j d)/(((k:Int):Rat)*Rat.divInt g 6)).den:Int)
  rw[zhV hp.1 hp.2.2.1 ∅]
  have bc:Bd 20 (c*(k:Int)):=((show Bd 4 c from(show c.natAbs<2^4 by lia)).mul (show Bd 6 (k:Int)from(show (k:Int).natAbs<2^6 by lia))).md
  exact(vo (n:=20) (m:=20) (wQ hp.2.2.1 ∅) (show (12*w).natAbs<2^20 by lia) bc (by decide)).2
 ·match bs,l1 with
  |b::r,_ =>
   refine⟨b,rL,?_⟩
   unfold plB evB
   rw[uN,W7]
   refine⟨λt mt=>?_,?_⟩
   ·obtain⟨x,mx,rfl⟩:=wf.mp mt
    show decide (x.wt=b.wt)=true
    rw[hwt x mx,hwt b wB];exact wm rfl
   ·show (decide ((0:Rat)=0)&&decide ((0:Rat)=0))=true
    rw[wm rfl];rfl
end
end KK
namespace KM
def xa {s:Rat}(h:0<s):0<s.num:=by have:=(vn 0 s).mpr h;simpa using this
def zdj {k:Int}{s r F:Rat}(G:0<=r) (h1:r<s) (h2:0<=F) (I:F<s) (e:r=F+(k:Rat)*s):r=F:=by
 have hs:0<s:=by grind
 have:k=0:=by
  rcases Int.lt_trichotomy k 0 with h | h | h
  ·have:(k:Rat)<=((-1:Int):Rat):=yd.mpr ∅
   have:=wP this (yj hs)
   grind
  ·exact h
  ·have:((1:Int):Rat)<=k:=yd.mpr ∅
   have:=wP this (yj hs)
   grind
 subst this
 grind
def zaa {x s r:Rat}{k:Int}(F:0<=r) (h1:r<s) (e:x=r+(k:Rat)*s):rst x s=r:=by
 have hs:0<s:=by grind
 have n:=xa hs
 have m:=zaX (x:=x) (s:=s) n
 generalize hk:(x.num*(s.den:Int))/(s.num*(x.den:Int))=j at m
 refine zdj (k:=k-j) (Zu n) (Zv n) F h1 ?_
 rw[yE]
 grind
def Zt {x s:Rat}(hs:0<s):∃k:Int,x=rst x s+(k:Rat)*s:=by
 have m:=zaX (x:=x) (s:=s) (xa hs)
 exact⟨_,by rw[<-m];grind⟩
def xN (lo hi z:Rat):Rat:=if hi-lo<rst (z-lo) (hi-lo+(hi-lo))then lo+(hi-lo+(hi-lo)-rst (z-lo) (hi-lo+(hi-lo)))else lo+rst (z-lo) (hi-lo+(hi-lo))
section
variable {lo hi z:Rat}
theorem zcc (h:lo<hi):lo<=xN lo hi z/\xN lo hi z<=hi:=by
 have F:0<hi-lo+(hi-lo):=by grind
 have a:=Zu (x:=z-lo) (xa F)
 have b:=Zv (x:=z-lo) (xa F)
 unfold xN
 generalize rst (z-lo) (hi-lo+(hi-lo))=r at a b ⊢
 split <;> grind
theorem vC {r:Rat}{k:Int}(h:lo<hi) (F:0<=r) (h1:r<hi-lo+(hi-lo)) (e:z-lo=r+(k:Rat)*(hi-lo+(hi-lo))):xN lo hi z=if hi-lo<r then lo+(hi-lo+(hi-lo)-r)else lo+r:=by
 unfold xN
 rw[zaa F h1 e]
theorem vF (h:lo<hi) (k:Int):xN lo hi (z+(k:Rat)*(hi-lo+(hi-lo)))=xN lo hi z:=by
 have F:0<hi-lo+(hi-lo):=by grind
 obtain⟨j,G⟩:=Zt (x:=z-lo) F
 have a:=Zu (x:=z-lo) (xa F)
 have b:=Zv (x:=z-lo) (xa F)
 rw[vC h a b G,vC (k:=j+k) h a b (by rw[yk];grind)]
theorem zd7 (h:lo<hi) (F:lo<=z) (h1:z<=hi):xN lo hi z=z:=by
 rw[vC (r:=z-lo) (k:=0) h (by grind) (by grind) (by grind),if_neg (by grind)]
 grind
theorem zd8 (h:lo<hi) (F:hi<=z) (h1:z<=hi+(hi-lo)):xN lo hi z=2*hi-z:=by
 by_cases e:z=hi+(hi-lo)
 ·rw[vC (r:=0) (k:=1) h (by grind) (by grind) (by grind),if_neg (by grind)]
  grind
 ·rw[vC (r:=z-lo) (k:=0) h (by grind) (by grind) (by grind)]
  by_cases e2:z=hi
  ·rw[if_neg (by grind)];grind
  ·rw[if_pos (by grind)];grind
end
section
variable {α β:Type} [Add α] [Sub α] [LE α] [DecidableLE α] [Add β] [Sub β] [LE β] [DecidableLE β] {φ:α->β}
structure Emb (φ:α->β):Prop where
 le:∀a b,φ a<=φ b↔a<=b
 ad:∀a b,φ (a+b)=φ a+φ b
 su:∀a b,φ (a-b)=φ a-φ b
end
def zf7 {D:Int}(h:0<D):Emb (λi:Int=>Rat.divInt i D):=by
 have su:∀a b:Int,Rat.divInt (a-b) D=Rat.divInt a D-Rat.divInt b D:=λa b=>(Vs ∅).symm
 refine⟨λa b=>?_,λa b=>?_,su⟩
 ·have:=qA (a:=b) (b:=a) h
  show Rat.divInt a D<=Rat.divInt b D↔a<=b
  constructor
  ·intro q
   rcases yD b a with e | e
   ·have:=this.mpr e;grind
   ·exact e
  ·intro q
   by_cases e:Rat.divInt b D<Rat.divInt a D
   ·have:=this.mp e;lia
   ·grind
 ·show Rat.divInt (a+b) D=Rat.divInt a D+Rat.divInt b D
  have:=su (a+b) b
  rw[show a+b-b=a by lia]at this
  grind
def zf6 {D:Int}(k a:Int):Rat.divInt (k*a) D=(k:Rat)*Rat.divInt a D:=by
 rw[<-zeF,ua,uU]
end KM
namespace KK
open PySem L2 KM
def zdb (l h s v:Int):(QV (some l) (some h) s v).1=if h<l+(s-l) % (2*(h-l))then 2*h-(l+(s-l) % (2*(h-l)))else l+(s-l) % (2*(h-l)):=by
 have e4:∀(w:Option Int) (p:Int×Int),(f4 w p).1=p.1:=λw p=>by
  cases w with
  |none=>rfl
  |some w=>show (if p.1=w then(p.1,-zY p.2)else p).1=p.1;split <;> rfl
 have e3:∀(w:Option Int) (p:Int×Int),(f3 w p).1=p.1:=λw p=>by
  cases w with
  |none=>rfl
  |some w=>show (if p.1=w then(p.1,zY p.2)else p).1=p.1;split <;> rfl
 unfold QV
 rw[e4,e3]
 unfold f1 f2
 nofun
 split <;> rfl
def zdc {l h s v D:Int}(hD:0<D) (hl:l<h):Rat.divInt (QV (some l) (some h) s v).1 D=xN (Rat.divInt l D) (Rat.divInt h D) (Rat.divInt s D):=by
 have E:=zf7 hD
 have lt:∀a b:Int,Rat.divInt a D<Rat.divInt b D↔a<b:=λa b=>qA hD
 have r0:=yS (s-l) (b:=2*(h-l)) ∅
 have r1:=yV (s-l) (b:=2*(h-l)) ∅
 have rk:=Wk (s-l) (2*(h-l))
 rw[zdb]
 generalize (s-l) % (2*(h-l))=r at r0 r1 rk ⊢
 generalize (s-l)/(2*(h-l))=k at rk
 have z0:Rat.divInt 0 D=0:=Zn D
 have hh:Rat.divInt h D-Rat.divInt l D=Rat.divInt (h-l) D:=(E.su h l).symm
 have h2:Rat.divInt h D-Rat.divInt l D+(Rat.divInt h D-Rat.divInt l D)=Rat.divInt (2*(h-l)) D:=by
  rw[hh,show 2*(h-l)=(h-l)+(h-l) by lia];exact(E.ad _ _).symm
 have ez:Rat.divInt s D-Rat.divInt l D=Rat.divInt r D+(k:Rat)*(Rat.divInt h D-Rat.divInt l D+(Rat.divInt h D-Rat.divInt l D)):=by
  rw[h2,<-zf6]
  have a1:=E.su s l
  have a2:=E.ad r (k*(2*(h-l)))
  rw[<-a1,<-a2,<-rk,uo k]
 rw[vC (r:=Rat.divInt r D) (k:=k) ((lt _ _).mpr hl) (by rw[<-z0];exact(E.le _ _).mpr r0) (by rw[h2];exact(lt _ _).mpr r1) ez]
 have a1:=E.ad l r
 have a2:=E.su (2*h) (l+r)
 have a3:Rat.divInt (2*h) D=Rat.divInt h D+Rat.divInt h D:=by rw[show 2*h=h+h by lia];exact E.ad h h
 have a5:=lt (h-l) r
 rw[hh]
 by_cases c:h<l+r
 ·rw[if_pos c,if_pos (a5.mpr ∅),a2,a1,a3,<-hh];grind
 ·rw[if_neg c,if_neg λq=>c (by have:=a5.mp q;lia),a1]
end KK
namespace KM
section
variable {lo hi y z z':Rat}
theorem Vu (h:lo<hi) (F:lo<=y) (h1:y<=hi) (k:Int):xN lo hi (2*lo-y+(k:Rat)*(hi-lo+(hi-lo)))=y:=by
 have e:2*lo-y+(k:Rat)*(hi-lo+(hi-lo))=(2*lo-y+(hi-lo+(hi-lo)))+((k-1:Int):Rat)*(hi-lo+(hi-lo)):=by rw[yE];grind
 rw[e,vF h,zd8 h (by grind) (by grind)]
 grind
theorem JR (h:lo<hi) (F:lo<=y) (h1:y<=hi) (k:Int):xN lo hi (y+(k:Rat)*(hi-lo+(hi-lo)))=y:=by
 rw[vF h,zd7 h F h1]
theorem zgd (h:lo<hi) (I:lo<=y) (h1:y<=hi) (c:xN lo hi z<y):∃k:Int,2*lo-y+(k:Rat)*(hi-lo+(hi-lo))<z/\z<y+(k:Rat)*(hi-lo+(hi-lo)):=by
 have F:0<hi-lo+(hi-lo):=by grind
 obtain⟨k,G⟩:=Zt (x:=z-lo) F
 have a:=Zu (x:=z-lo) (xa F)
 have b:=Zv (x:=z-lo) (xa F)
 rw[vC h a b G]at c
 generalize rst (z-lo) (hi-lo+(hi-lo))=r at *
 by_cases q:hi-lo<r
 ·rw[if_pos q]at c
  refine⟨k+1,?_,?_⟩ <;> rw[yk] <;> grind
 ·rw[if_neg q]at c
  exact⟨k,by grind,by grind⟩
theorem zd9 (h:lo<hi) (F:lo<=y) (h1:y<=hi){k:Int}(I:2*lo-y+(k:Rat)*(hi-lo+(hi-lo))<z) (G:z<y+(k:Rat)*(hi-lo+(hi-lo))):xN lo hi z<y:=by
 have e:z=(z-(k:Rat)*(hi-lo+(hi-lo)))+(k:Rat)*(hi-lo+(hi-lo)):=by grind
 rw[e,vF h]
 generalize z-(k:Rat)*(hi-lo+(hi-lo))=w at *
 by_cases q:lo<=w
 ·rw[zd7 h q (by grind)];grind
 ·have e2:w=(w+(hi-lo+(hi-lo)))+((-1:Int):Rat)*(hi-lo+(hi-lo)):=by
   have:((-1:Int):Rat)=-1:=rfl
   rw[this];grind
  rw[e2,vF h,zd8 h (by grind) (by grind)]
  grind
theorem Vt (h:lo<hi) (F:lo<=y) (h1:y<=hi) (c:xN lo hi z<y) (G:y<xN lo hi z'):∃w,xN lo hi w=y/\(z<w/\w<z'\/z'<w/\w<z):=by
 obtain⟨k,k1,k2⟩:=zgd h F h1 c
 have e1:=JR h F h1 k
 have e2:=Vu h F h1 k
 have n:¬(2*lo-y+(k:Rat)*(hi-lo+(hi-lo))<z'/\z'<y+(k:Rat)*(hi-lo+(hi-lo))):=λq=>by
  have:=zd9 h F h1 q.1 q.2
  grind
 by_cases q:z'<z
 ·refine⟨_,e2,.inr ⟨?_,k1⟩⟩
  by_cases q2:z'=2*lo-y+(k:Rat)*(hi-lo+(hi-lo))
  ·rw[<-q2]at e2;grind
  ·grind
 ·refine⟨_,e1,.inl ⟨k2,?_⟩⟩
  by_cases q2:z'=y+(k:Rat)*(hi-lo+(hi-lo))
  ·rw[<-q2]at e1;grind
  ·grind
end
def xD (lo hi m:Rat) (u:Rat×Rat):Rat:=xN lo hi (u.1+u.2*m)
def LeR (y:Rat) (x:Rat):Bool:=decide (x<=y)
def LtR (y:Rat) (x:Rat):Bool:=decide (x<y)
def ThQ (ps:List Rat) (k:Int) (y:Rat):Prop:=((ps.countP (LtR y):Nat):Int)<=k/\k<((ps.countP (LeR y):Nat):Int)
def PsQ (lo hi:Rat) (ls:List (Rat×Rat)) (y m:Rat):Prop:=∃u∈ls,u.2≠0/\xD lo hi m u=y
section
variable {lo hi y e m:Rat}{ls:List (Rat×Rat)}
theorem qf {v a b:Rat}(F:0<v):v*a<v*b↔a<b:=by
 constructor
 ·intro h
  by_cases c:b<=a
  ·have:=uE c (yj F);grind
  ·grind
 ·intro h;exact uw h F
theorem zdp (h:lo<hi) (S:lo<=y) (h1:y<=hi){u:Rat×Rat}(W:u.2≠0) (c:xD lo hi e u<y/\y<xD lo hi m u\/y<xD lo hi e u/\xD lo hi m u<y) (V:e<m):∃x,e<x/\x<m/\xD lo hi x u=y:=by
 obtain⟨w,hw,U⟩:∃w,xN lo hi w=y/\(u.1+u.2*e<w/\w<u.1+u.2*m\/u.1+u.2*m<w/\w<u.1+u.2*e):=by
  rcases c with⟨F,G⟩ | ⟨F,G⟩
  ·exact Vt h S h1 F G
  ·obtain⟨w,hw,U⟩:=Vt h S h1 G F
   exact⟨w,hw,by grind⟩
 have I:w=u.1+u.2*((w-u.1)/u.2):=by grind
 refine⟨(w-u.1)/u.2,?_,?_,by unfold xD;rw[<-I];exact hw⟩
 all_goals
  generalize (w-u.1)/u.2=x at I
  subst I
  by_cases n:u.2<0
  ·have O:0 < -u.2:=by grind
   have a:=qf (a:=x) (b:=m) O
   have b:=qf (a:=e) (b:=x) O
   have d:=qf (a:=e) (b:=m) O
   grind
  ·have n:0<u.2:=by grind
   have a:=qf (a:=x) (b:=m) n
   have b:=qf (a:=e) (b:=x) n
   have d:=qf (a:=e) (b:=m) n
   grind
theorem XZ {α:Type}{p q:α->Bool}:∀{l:List α},(∀x∈l,p x=true->q x=true)->l.countP p<=l.countP q:=λh=>List.countP_mono_left h
theorem zhe {k:Int}(h:lo<hi) (S:lo<=y) (h1:y<=hi) (em:e<=m) (np:∀x,e<x->x<=m->¬PsQ lo hi ls y x) (t:ThQ (ls.map (xD lo hi m)) k y):ThQ (ls.map (xD lo hi e)) k y:=by
 by_cases q:e=m
 ·rw[q];exact t
 have G:e<m:=by grind
 obtain⟨I,V⟩:=t
 rw[u6]at I V
 have key:∀u∈ls,(xD lo hi e u<y->xD lo hi m u<y)/\(xD lo hi m u<=y->xD lo hi e u<=y):=λu F=>by
  by_cases hu:u.2=0
  ·have:xD lo hi e u=xD lo hi m u:=by unfold xD;rw[hu,ur,ur]
   rw[this];exact⟨id,id⟩
  ·have Y:xD lo hi m u≠y:=λz=>np m G (by grind) ⟨u,F,hu,z⟩
   have n2:¬(xD lo hi e u<y/\y<xD lo hi m u\/y<xD lo hi e u/\xD lo hi m u<y):=λc=>by
    obtain⟨x,O,W,U⟩:=zdp h S h1 hu c G
    exact np x O (by grind) ⟨u,F,hu,U⟩
   constructor <;> intro a <;> grind
 have a1:=XZ (l:=ls) (p:=LtR y ∘ xD lo hi e) (q:=LtR y ∘ xD lo hi m) λu F a=>wm ((key u F).1 (wA a))
 have a2:=XZ (l:=ls) (p:=LeR y ∘ xD lo hi m) (q:=LeR y ∘ xD lo hi e) λu F a=>wm ((key u F).2 (wA a))
 refine⟨?_,?_⟩ <;> rw[u6] <;> lia
end
def zee {x:Rat}:∀{ms:List Rat},(∃z∈ms,z<=x)->∃e∈ms,e<=x/\∀z∈ms,z<=x->z<=e
 |[],h=>by obtain⟨_,m,_⟩:=h;cases m
 |a::ms,h=>by
  by_cases c:∃z∈ms,z<=x
  ·obtain⟨e,m,e1,e2⟩:=zee c
   by_cases q:e<a/\a<=x
   ·refine⟨a,wB,q.2,λz mz hz=>?_⟩
    rcases ww.mp mz with rfl | mz
    ·exact Rat.le_refl
    ·have:=e2 z mz hz;grind
   ·refine⟨e,wR _ m,e1,λz mz hz=>?_⟩
    rcases ww.mp mz with rfl | mz
    ·grind
    ·exact e2 z mz hz
  ·obtain⟨z,mz,hz⟩:=h
   rcases ww.mp mz with rfl | mz
   ·refine⟨z,wB,hz,λw mw hw=>?_⟩
    rcases ww.mp mw with rfl | mw
    ·exact Rat.le_refl
    ·exact absurd ⟨w,mw,hw⟩ c
   ·exact absurd ⟨z,mz,hz⟩ c
def AtQ (Th:Rat->Prop) (t m:Rat):Prop:=t<=m/\Th m/\∀x,t<=x->x<m->¬Th x
def NvQ (Th:Rat->Prop) (t:Rat):Prop:=∀x,t<=x->¬Th x
def LkQ (Ps:Rat->Prop) (t:Rat) (R:Option Rat) (ms:List Rat):Prop:=ms.Pairwise (· < ·)/\∀x,x∈ms↔x=t\/∃r,R=some r/\t<x/\x<t+r/\Ps x
def zak:∀{a b:List Rat},a.Pairwise (· < ·)->b.Pairwise (· < ·)->(∀x,x∈a↔x∈b)->a=b
 |[],[],_,_,_=>rfl
 |[],y::b,_,_,h=>by have:=(h y).mpr wB;cases this
 |x::a,[],_,_,h=>by have:=(h x).mp wB;cases this
 |x::a,y::b,ha,hb,h=>by
  obtain⟨a1,a2⟩:=List.pairwise_cons.mp ha
  obtain⟨b1,b2⟩:=List.pairwise_cons.mp hb
  have e:x=y:=by
   rcases ww.mp ((h x).mp wB)with e | m
   ·exact e
   rcases ww.mp ((h y).mpr wB)with e | m'
   ·exact e.symm
   have:=b1 x m;have:=a1 y m';grind
  subst e
  rw[zak a2 b2 λz=>?_]
  have:=h z
  rw[ww,ww]at this
  constructor
  ·intro m
   rcases this.mp (.inr m)with e | e
   ·subst e;have:=a1 z m;grind
   ·exact e
  ·intro m
   rcases this.mpr (.inr m)with e | e
   ·subst e;have:=b1 z m;grind
   ·exact e
def LkQ.uniq {Ps:Rat->Prop}{t:Rat}{R:Option Rat}{a b:List Rat}(h:LkQ Ps t R a) (h':LkQ Ps t R b):a=b:=zak h.1 h'.1 λx=>(h.2 x).trans (h'.2 x).symm
def LkQ.map {Ps Ps':Rat->Prop}{t t':Rat}{R R':Option Rat}{ms:List Rat}(f g:Rat->Rat) (fg:∀x,f (g x)=x) (gf:∀x,g (f x)=x) (mono:∀x y,x<y->f x<f y) (et:f t=t') (hp:∀x,(x=t'\/∃r,R'=some r/\t'<x/\x<t'+r/\Ps' x)↔(g x=t\/∃r,R=some r/\t<g x/\g x<t+r/\Ps (g x))) (h:LkQ Ps t R ms):LkQ Ps' t' R' (ms.map f):=by
 refine⟨YG.mpr (h.1.imp λq=>mono _ _ q),λx=>?_⟩
 rw[hp,<-h.2 (g x)]
 constructor
 ·intro m
  obtain⟨y,my,rfl⟩:=wf.mp m
  rw[gf];exact my
 ·intro m;exact wf.mpr ⟨_,m,fg x⟩
section
variable {Th Ps:Rat->Prop}{t:Rat}{R:Option Rat}{ms:List Rat}{p:Rat->Bool}
theorem LkQ.at (h:LkQ Ps t R ms) (bk:∀e m,e<=m->(∀x,e<x->x<=m->¬Ps x)->Th m->Th e) (hp:∀x,p x=true↔Th x) (fr:R=none->∀x,¬Ps x){m:Rat}(f:ms.find? p=some m):AtQ Th t m:=by
 have mm:=yX f
 have lt:∀x∈ms,t<=x:=λx mx=>by
  rcases(h.2 x).mp mx with e | ⟨r,_,q,_⟩ <;> grind
 refine⟨lt m mm,(hp m).mp (YZ f),λx tx xm hx=>?_⟩
 obtain⟨e,me,ex,gr⟩:=zee (x:=x) (ms:=ms) ⟨t,(h.2 t).mpr (.inl rfl),tx⟩
 have te:Th e:=bk e x ex (λz ez zx hz=>by
  cases hR:R with
  |none=>exact fr hR z hz
  |some r =>
   have te:=lt e me
   have:z∈ms:=(h.2 z).mpr (.inr ⟨r,hR,by grind,by
    rcases(h.2 m).mp mm with q | ⟨r',hr',_,q,_⟩
    ·grind
    ·rw[hR]at hr';cases hr';grind,hz⟩)
   have:=gr z this zx
   grind) hx
 obtain⟨hm,i,hi,e1,pre⟩:=W5.mp f
 obtain⟨j,hj,e2⟩:=List.getElem_of_mem me
 have sl:∀a b (ha:a<ms.length) (hb:b<ms.length),a<b->ms[a]<ms[b]:=uW.mp h.1
 rcases YY j i with c | c
 ·have:=pre j c
  rw[e2,(hp e).mpr te]at this
  cases this
 ·rcases WO c with c | c
  ·subst c;grind
  ·have:=sl i j hi hj c;grind
theorem LkQ.nv (h:LkQ Ps t R ms) (bk:∀e m,e<=m->(∀x,e<x->x<=m->¬Ps x)->Th m->Th e) (hp:∀x,p x=true↔Th x) (fr:R=none->∀x,¬Ps x) (r0:∀r,R=some r->0<r/\∀x,Th (x+r)->Th x) (f:ms.find? p=none):NvQ Th t:=by
 have lt:∀x∈ms,t<=x:=λx mx=>by
  rcases(h.2 x).mp mx with e | ⟨r,_,q,_⟩ <;> grind
 have no:∀e∈ms,¬Th e:=λe me he=>by
  have:=WR.mp f e me
  exact this ((hp e).mpr he)
 have near:∀x,t<=x->(∀r,R=some r->x<t+r)->¬Th x:=λx tx xr hx=>by
  obtain⟨e,me,ex,gr⟩:=zee (x:=x) (ms:=ms) ⟨t,(h.2 t).mpr (.inl rfl),tx⟩
  refine no e me (bk e x ex (λz ez zx hz=>?_) hx)
  cases hR:R with
  |none=>exact fr hR z hz
  |some r =>
   have te:=lt e me
   have xr':=xr r hR
   have:z∈ms:=(h.2 z).mpr (.inr ⟨r,hR,by grind,by grind,hz⟩)
   have:=gr z this zx
   grind
 intro x tx hx
 cases hR:R with
 |none=>exact near x tx (λr e=>by rw[hR]at e;cases e) hx
 |some r =>
  obtain⟨rp,per⟩:=r0 r hR
  have back:∀(n:Nat) x,t<=x->x<t+((n:Int):Rat)*r+r->Th x->False:=by
   intro n
   induction n with
   |zero=>intro x tx xn hx;exact near x tx (λr' e=>by rw[hR]at e;cases e;have z:(((0:Nat):Int):Rat)=0:=rfl;rw[z]at xn;grind) hx
   |succ n ih =>
    intro x tx xn hx
    by_cases c:x<t+r
    ·exact near x tx (λr' e=>by rw[hR]at e;cases e;exact c) hx
    ·refine ih (x-r) (by grind) ?_ (per _ (by rw[show x-r+r=x by grind];exact hx))
     have e:(((n+1:Nat):Int):Rat)=((n:Int):Rat)+1:=by
      rw[show ((n+1:Nat):Int)=(n:Int)+1 by lia,yk];rfl
     rw[e]at xn;grind
  obtain⟨k,ek⟩:=Zt (x:=x-t) rp
  have a:=Zu (x:=x-t) (xa rp)
  have b:=Zv (x:=x-t) (xa rp)
  generalize rst (x-t) r=q at *
  have k0:0<=k:=by
   rcases yD k 0 with c | c
   ·exfalso
    have:(k:Rat)<=((-1:Int):Rat):=yd.mpr ∅
    have:=wP this (yj rp)
    have e1:((-1:Int):Rat)=-1:=rfl
    rw[e1]at this
    grind
   ·exact c
  have:=back k.toNat x tx (by rw[show ((k.toNat:Nat):Int)=k by lia];grind) hx
  exact this
theorem AtQ.uniq {m m':Rat}(h:AtQ Th t m) (h':AtQ Th t m'):m=m':=by
 obtain⟨a1,a2,a3⟩:=h
 obtain⟨b1,b2,b3⟩:=h'
 by_cases c:m<m'
 ·exact absurd a2 (b3 m a1 c)
 ·by_cases d:m'<m
  ·exact absurd b2 (a3 m' b1 d)
  ·grind
theorem AtQ.nn {m:Rat}(h:AtQ Th t m) (h':NvQ Th t):False:=h' m h.1 h.2.1
end
def J9 {T a b:Rat}(h:0<T):rst (rst a T+b) T=rst (a+b) T:=by
 obtain⟨k,F⟩:=Zt (x:=a) h
 obtain⟨j,G⟩:=Zt (x:=a+b) h
 have n:=xa h
 refine zaa (k:=j-k) (Zu n) (Zv n) ?_
 rw[yE]
 grind
def ziZ {T a:Rat}(h:0<T) (k:Int):rst (a+(k:Rat)*T) T=rst a T:=by
 obtain⟨j,F⟩:=Zt (x:=a) h
 have n:=xa h
 refine zaa (k:=j+k) (Zu n) (Zv n) ?_
 rw[yk]
 grind
def JK (T:Rat) (hs:List Rat) (m:Nat):Prop:=(hs.map λh=>rst h T).Perm (hs.map λh=>rst (h+T/((m:Int):Rat)) T)
structure GrR (T:Rat) (hs:List Rat) (M:Nat):Prop where
 m1:1<=M
 m2:M<=hs.length
 m3:JK T hs M
 m4:∀m:Nat,1<=m->m<=hs.length->JK T hs m->m<=M
section
variable {T:Rat}{hs hs':List Rat}{m M:Nat}
theorem JK.iter (F:0<T) (h:JK T hs m):∀(n:Nat) (a:Rat),(hs.map λh=>rst (h+a) T).Perm (hs.map λh=>rst (h+((n:Int):Rat)*(T/((m:Int):Rat))+a) T)
 |0,a=>.of_eq (wG λx _=>by have z:(((0:Nat):Int):Rat)=0:=rfl;rw[z,ur,Yu])
 |n+1,a=>by
  refine(JK.iter F h n a).trans ?_
  have:=h.map λq=>rst (q+(((n:Int):Rat)*(T/((m:Int):Rat))+a)) T
  rw[wD,wD]at this
  refine(List.Perm.of_eq (wG λx _=>?_)).trans (this.trans (.of_eq (wG λx _=>?_)))
  ·show _=rst (rst x T+_) T
   rw[J9 F];congr 1;grind
  ·show rst (rst _ T+_) T=_
   rw[J9 F]
   have e:(((n+1:Nat):Int):Rat)=((n:Int):Rat)+1:=by rw[show ((n+1:Nat):Int)=(n:Int)+1 by lia,yk];rfl
   rw[e];congr 1;grind
def AlR (T a:Rat) (hs hs':List Rat):Prop:=(hs'.map λh=>rst h T).Perm (hs.map λh=>rst (h+a) T)
theorem AlR.len {a:Rat}(h:AlR T a hs hs'):hs'.length=hs.length:=by have:=h.length_eq;rw[wc,wc]at this;exact this
theorem AlR.on {a:Rat}(F:0<T) (h:AlR T a hs hs') (b:Rat):(hs'.map λh=>rst (h+b) T).Perm (hs.map λh=>rst (h+(a+b)) T):=by
 have:=h.map λq=>rst (q+b) T
 rw[wD,wD]at this
 refine(List.Perm.of_eq (wG λx _=>?_)).trans (this.trans (.of_eq (wG λx _=>?_)))
 ·show _=rst (rst x T+_) T
  rw[J9 F]
 ·show rst (rst _ T+_) T=_
  rw[J9 F];congr 1;grind
theorem AlR.symm {a:Rat}(F:0<T) (h:AlR T a hs hs'):AlR T (-a) hs' hs:=by
 have:=AlR.on F h (-a)
 refine(List.Perm.trans this (.of_eq (wG λx _=>?_))).symm
 congr 1;grind
theorem AlR.com {a:Rat}(F:0<T) (h:AlR T a hs hs') (c:JK T hs m):JK T hs' m:=by
 have h1:=AlR.on F h (T/((m:Int):Rat))
 have h2:=c.iter F 1 a
 refine(List.Perm.trans h ?_).trans h1.symm
 refine h2.trans (.of_eq (wG λx _=>?_))
 have z:(((1:Nat):Int):Rat)=1:=rfl
 rw[z];congr 1;grind
theorem AlR.gr {a:Rat}(F:0<T) (h:AlR T a hs hs') (g:GrR T hs M):GrR T hs' M:=by
 have l:=AlR.len h
 exact⟨g.m1,by rw[l];exact g.m2,AlR.com F h g.m3,λm I G c=>g.m4 m I (by rw[<-l];exact G) (AlR.com F (AlR.symm F h) c)⟩
end
def xQ (u:Rat×Rat):Rat:=if u.2<0 then -u.2 else u.2
def Qr (lo hi:Rat) (u:Rat×Rat):Rat:=if 0<u.2 then u.1-lo else hi-lo+(hi-lo)-(u.1-lo)
def ofP (c:Rat) (u:Rat×Rat):Bool:=decide (xQ u=c)
def QB (lo hi c:Rat) (ls:List (Rat×Rat)):List Rat:=(ls.filter (ofP c)).map (Qr lo hi)
structure qW (lo hi:Rat) (ls:List (Rat×Rat)) (R:Rat):Prop where
 r0:0<R
 part:∀c,0<c->(∃u∈ls,xQ u=c)->∃M,GrR (hi-lo+(hi-lo)) (QB lo hi c ls) M/\∃n:Int,R=(n:Rat)*((hi-lo+(hi-lo))/(((M:Int):Rat)*c))
 univ:∀X,(∀c,0<c->(∃u∈ls,xQ u=c)->∀M,GrR (hi-lo+(hi-lo)) (QB lo hi c ls) M->∃n:Int,X=(n:Rat)*((hi-lo+(hi-lo))/(((M:Int):Rat)*c)))->∃n:Int,X=(n:Rat)*R
section
variable {lo hi R:Rat}{ls ls':List (Rat×Rat)}
theorem zcy (h:lo<hi){u:Rat×Rat}(W:u.2≠0) (x:Rat):xD lo hi x u=xN lo hi (lo+rst (Qr lo hi u+xQ u*x) (hi-lo+(hi-lo))):=by
 have F:0<hi-lo+(hi-lo):=by grind
 have I:∀z,xN lo hi (lo+rst z (hi-lo+(hi-lo)))=xN lo hi (lo+z):=λz=>by
  obtain⟨k,U⟩:=Zt (x:=z) F
  have:=vF (z:=lo+rst z (hi-lo+(hi-lo))) h k
  rw[<-this];congr 1;grind
 rw[I]
 unfold xD Qr xQ
 by_cases c:0<u.2
 ·rw[if_pos c,if_neg (by grind)];congr 1;grind
 ·rw[if_neg c,if_pos (by grind)]
  have O:∀z,xN lo hi (2*lo-z)=xN lo hi z:=λz=>by
   obtain⟨S,V⟩:=zcc (z:=z) h
   obtain⟨k,G⟩:∃k:Int,z=xN lo hi z+(k:Rat)*(hi-lo+(hi-lo))\/z=2*lo-xN lo hi z+(k:Rat)*(hi-lo+(hi-lo)):=by
    obtain⟨k,U⟩:=Zt (x:=z-lo) F
    have a:=Zu (x:=z-lo) (xa F)
    have b:=Zv (x:=z-lo) (xa F)
    have e:=vC h a b U
    generalize rst (z-lo) (hi-lo+(hi-lo))=r at *
    rw[e]
    by_cases q:hi-lo<r
    ·rw[if_pos q];refine⟨k+1,.inr ?_⟩;rw[yk];grind
    ·rw[if_neg q];exact⟨k,.inl (by grind)⟩
   rcases G with G | G
   ·have e:2*lo-z=2*lo-xN lo hi z+((-k:Int):Rat)*(hi-lo+(hi-lo)):=by rw[yT];grind
    rw[e,Vu h S V]
   ·have e:2*lo-z=xN lo hi z+((-k:Int):Rat)*(hi-lo+(hi-lo)):=by rw[yT];grind
    rw[e,JR h S V]
  rw[<-O]
  have:=vF (z:=2*lo-(u.1+u.2*x)) h 1
  rw[<-this]
  congr 1
  have:((1:Int):Rat)=1:=rfl
  rw[this];grind
theorem zcw {α β:Type}(key:α->Rat) (f g:α->β):∀(n:Nat) (l:List α),l.length<=n->(∀c,(∃u∈l,key u=c)->((l.filter λu=>decide (key u=c)).map f).Perm ((l.filter λu=>decide (key u=c)).map g))->(l.map f).Perm (l.map g)
 |_,[],_,_=>.refl _
 |0,a::l,h,_=>by simp at h
 |n+1,a::l,hl,h=>by
  have O:=List.filter_append_perm (λu=>decide (key u=key a)) (a::l)
  have h1:=h (key a) ⟨a,wB,rfl⟩
  have sub:((a::l).filter λu=>! decide (key u=key a)).length<=n:=by
   rw[List.filter_cons_of_neg (by simp)]
   have:=uR (λu=>! decide (key u=key a)) l
   rw[wx]at hl;lia
  have h2:=zcw key f g n ((a::l).filter λu=>! decide (key u=key a)) sub λc U=>by
   obtain⟨u,S,I⟩:=U
   obtain⟨G,F⟩:=yr.mp S
   have ne:c≠key a:=λe=>by rw[I,e]at F;simp at F
   rw[Yv]
   have:((a::l).filter λu=>decide (key u=c)&&! decide (key u=key a))=(a::l).filter λu=>decide (key u=c):=u7 λv _=>by
    by_cases q:key v=c
    ·rw[wm q,wy (by rw[q];exact ne)];rfl
    ·rw[wy q];rfl
   rw[this]
   exact h c ⟨u,G,I⟩
  have:=(h1.append h2)
  rw[<-yt,<-yt]at this
  exact((O.map f).symm.trans this).trans (O.map g)
theorem zeO {u:Rat×Rat}(h:xQ u=0):u.2=0:=by unfold xQ at h;split at h <;> grind
theorem zeN (u:Rat×Rat):0<=xQ u:=by unfold xQ;split <;> grind
theorem zbE {n:Int}{R q:Rat}(h:R=(n:Rat)*q) (G:0<R) (F:0<q):∃k:Nat,n=(k:Int):=by
 rcases yD n 0 with c | c
 ·exfalso
  have:(n:Rat)<=((0:Int):Rat):=yd.mpr ∅
  have:=wP this (yj F)
  have z:((0:Int):Rat)=0:=rfl
  rw[z]at this
  grind
 ·exact⟨n.toNat,by lia⟩
theorem X9 {x y:Rat}(F:0<x) (G:0<y):0<x/y:=by rw[Wi];exact w5 F (YO.mpr G)
theorem X8 {M:Nat}(h:1<=M):(0:Rat)<((M:Int):Rat):=wv.mpr (by omega)
theorem qW.per (h:lo<hi) (r:qW lo hi ls R) (x:Rat):(ls.map (xD lo hi (x+R))).Perm (ls.map (xD lo hi x)):=by
 have S:0<hi-lo+(hi-lo):=by grind
 refine zcw xQ _ _ ls.length ls (wo _) λc hc=>?_
 by_cases c0:c=0
 ·subst c0
  refine .of_eq (wG λu G=>?_)
  have e0:=zeO (wA (yr.mp G).2)
  unfold xD;rw[e0,ur,ur]
 obtain⟨u,G,Y⟩:=hc
 have U:0<c:=by have:=zeN u;grind
 obtain⟨M,g,n,V⟩:=r.part c U ⟨u,G,Y⟩
 have Mp:=X8 g.m1
 have W:0<(hi-lo+(hi-lo))/(((M:Int):Rat)*c):=X9 S (w5 Mp U)
 obtain⟨k,rfl⟩:=zbE V r.r0 W
 have it:=(g.m3.iter S k (c*x)).map λq=>xN lo hi (lo+q)
 unfold QB at it
 rw[wD,wD,wD,wD]at it
 have cR:c*R=((k:Int):Rat)*((hi-lo+(hi-lo))/((M:Int):Rat)):=by
  rw[V]
  generalize ((M:Int):Rat)=M' at *
  generalize (hi-lo+(hi-lo))=T at *
  generalize ((k:Int):Rat)=k' at *
  grind
 refine((List.Perm.of_eq (wG λv I=>?_)).trans it.symm).trans (.of_eq (wG λv I=>?_))
 all_goals
  have F:xQ v=c:=wA (yr.mp I).2
  have O:v.2≠0:=λz=>by unfold xQ at F;rw[z]at F;split at F <;> grind
 ·rw[zcy h O,F]
  show _=xN lo hi (lo+rst (Qr lo hi v+((k:Int):Rat)*((hi-lo+(hi-lo))/((M:Int):Rat))+c*x) (hi-lo+(hi-lo)))
  congr 3
  rw[<-cR];grind
 ·rw[zcy h O,F];rfl
theorem qW.two (h:lo<hi){U ρ:Rat}{S O:Rat}(eW:O-S=hi-lo) (hρ:0<ρ) (r:qW lo hi ls R) (r':qW S O ls' U)
  (hp:∀c,0<c->((∃u∈ls',xQ u=ρ*c)↔∃u∈ls,xQ u=c)) (hg:∀c,0<c->(∃u∈ls,xQ u=c)->∃a,AlR (hi-lo+(hi-lo)) a (QB lo hi c ls) (QB S O (ρ*c) ls')):R=ρ*U:=by
 have s0:0<hi-lo+(hi-lo):=by grind
 have ρn:ρ≠0:=by grind
 obtain⟨n,en⟩:∃n:Int,ρ*U=(n:Rat)*R:=r.univ _ λc I hc M g=>by
  obtain⟨a,al⟩:=hg c I hc
  have F:=AlR.gr s0 al g
  obtain⟨W,G,n,e⟩:=r'.part (ρ*c) (w5 hρ I) ((hp c I).mpr hc)
  rw[eW]at G e
  have eM:W=M:=Y0 (F.m4 _ G.m1 G.m2 G.m3) (G.m4 _ F.m1 F.m2 F.m3)
  subst eM
  refine⟨n,?_⟩
  rw[e]
  have Mp:=X8 g.m1
  generalize ((W:Int):Rat)=M at *
  generalize (hi-lo+(hi-lo))=T at *
  generalize (n:Rat)=k at *
  have:ρ*c≠0:=by have:=w5 hρ I;grind
  grind
 obtain⟨m,em⟩:∃m:Int,R/ρ=(m:Rat)*U:=r'.univ _ λc' a2 a1 W F=>by
  have I:0<c'/ρ:=X9 a2 hρ
  have ec:ρ*(c'/ρ)=c':=by grind
  rw[<-ec]at a1 F
  have hc:=(hp _ I).mp a1
  obtain⟨a,al⟩:=hg _ I hc
  obtain⟨M,g,n,e⟩:=r.part _ I hc
  have G:=AlR.gr s0 al g
  rw[eW]at F
  have eM:W=M:=Y0 (G.m4 _ F.m1 F.m2 F.m3) (F.m4 _ G.m1 G.m2 G.m3)
  subst eM
  refine⟨n,?_⟩
  rw[eW]
  have Mp:=X8 g.m1
  conv=>lhs;rw[e]
  generalize ((W:Int):Rat)=M at *
  generalize (hi-lo+(hi-lo))=T at *
  generalize (n:Rat)=k at *
  grind
 have p1:0<ρ*U:=w5 hρ r'.r0
 obtain⟨V,rfl⟩:=zbE en p1 r.r0
 obtain⟨Y,rfl⟩:=zbE em (X9 r.r0 hρ) r'.r0
 have R0:=r.r0
 have e3:R=(((Y:Int):Rat)*((V:Int):Rat))*R:=by
  have:R=((Y:Int):Rat)*(ρ*U):=by
   have e4:R=ρ*(R/ρ):=by grind
   rw[em]at e4;grind
  rw[en]at this;grind
 have e5:((Y:Int):Rat)*((V:Int):Rat)=1:=by grind
 rw[<-wj]at e5
 have e6:(Y:Int)*(V:Int)=1:=yH.mp (e5.trans (show (1:Rat)=((1:Int):Rat)from rfl))
 have e7:(V:Int)=1:=by
  have:(V:Int) ∣ 1:=⟨Y,by rw[uo];exact e6.symm⟩
  have:=Int.le_of_dvd (by decide) this
  have:V≠0:=λz=>by rw[z]at e6;simp at e6
  lia
 rw[e7]at en
 have:((1:Int):Rat)=1:=rfl
 rw[this]at en
 grind
end
end KM
namespace KK
open PySem L2 KM
def lsQ (bs:List Bl):List (Rat×Rat):=bs.map λb=>(b.pl,b.sp)
def trF (p s m:Int) (b:Bl):Int×Int:=scT m (trB p s (b.pl,b.sp))
structure WhR (bs:List Bl) (lo hi:Rat×Rat) (y:Rat) (p s m z:Int) (trs:List (Int×Int)) (l h:Int×Int) (tk:Rat):Prop where
 p0:0<p
 s0:0<s
 m0:0<m
 lh:lo.1<hi.1
 el:(l.1:Rat)=lo.1*((p:Rat)*(m:Rat))
 eh:(h.1:Rat)=hi.1*((p:Rat)*(m:Rat))
 ez:(z:Rat)=y*((p:Rat)*(m:Rat))
 et:trs=bs.map (trF p s m)
 e1:∀b∈bs,(((trF p s m b).1:Int):Rat)=b.pl*((p:Rat)*(m:Rat))
 e2:∀b∈bs,(((trF p s m b).2:Int):Rat)=b.sp*((s:Rat)*(m:Rat))
 tk:tk=(s:Rat)/(p:Rat)
section
variable {bs:List Bl}{lo hi:Rat×Rat}{y x:Rat}{p s m z:Int}{trs:List (Int×Int)}{l h b:Int×Int}{tk:Rat}
theorem RwZ.whr (Z:RwZ bs lo hi) (w:WhZ bs lo hi y x p s m z trs l h tk b):WhR bs lo hi y p s m z trs l h tk:=by
 have F:=Z.f
 rw[<-w.ep,<-w.es]at F
 obtain⟨U,_,V⟩:=zhI F.p0 (den_pos y)
 rw[<-w.em]at U V
 have W:(y.den:Int) ∣ p*m:=by
  rw[V]
  unfold xT
  rw[uB,uB,Y4]
  exact zhu
 have I:∀q:Rat,(q.den:Int) ∣ p->((byB q p*m:Int):Rat)=q*((p:Rat)*(m:Rat)):=λq G=>by
  rw[wj,vX G];grind
 have O:∀q:Rat,(q.den:Int) ∣ s->((byB q s*m:Int):Rat)=q*((s:Rat)*(m:Rat)):=λq G=>by
  rw[wj,vX G];grind
 refine⟨F.p0,F.s0,U,Z.lh,?_,?_,?_,?_,λc S=>?_,λc S=>?_,by rw[w.etk,wE]⟩
 ·rw[w.el];exact I _ (F.pd _ (qK rfl))
 ·rw[w.eh];exact I _ (F.pd _ (vg rfl))
 ·have:=vX W
  rw[wj]at this
  rw[w.ez];exact this
 ·rw[w.et,wD];rfl
 ·exact I _ (F.pd _ (QZ S))
 ·exact O _ (F.sd _ (QZ S))
theorem JM {a D:Int}{q d:Rat}(h:(a:Rat)=q*d) (F:(D:Rat)=d) (G:d≠0):Rat.divInt a D=q:=by
 rw[wE,h,F];grind
theorem QD (tk:Rat) (t N:Int):moQ tk t N=(t:Rat)/(N:Rat)*tk:=by
 unfold moQ
 rw[<-ua,wE,wW]
theorem WhR.spt (w:WhR bs lo hi y p s m z trs l h tk){t N:Int}(I:0<N){c:Bl}(V:c∈bs):Rat.divInt (Z4 (some l) (some h) t N (trF p s m c)) (p*m*N)=xD lo.1 hi.1 (moQ tk t N) (c.pl,c.sp):=by
 have F:0<p*m:=wQ w.p0 w.m0
 have W:0<p*m*N:=wQ F I
 have G:((p*m*N:Int):Rat)=(p:Rat)*(m:Rat)*(N:Rat):=by rw[wj,wj]
 have U:(0:Rat)<(p:Rat):=wv.mpr w.p0
 have S:(0:Rat)<(m:Rat):=wv.mpr w.m0
 have np:(0:Rat)<(N:Rat):=wv.mpr I
 have O:(p:Rat)*(m:Rat)*(N:Rat)≠0:=by have:=w5 (w5 U S) np;grind
 have lh:l.1<h.1:=by
  refine yL.mp ?_
  rw[w.el,w.eh]
  exact Wq w.lh (w5 U S)
 show Rat.divInt (QV (some (l.1*N)) (some (h.1*N)) ((trF p s m c).1*N+(trF p s m c).2*t) (trF p s m c).2).1 (p*m*N)=_
 rw[zdc W (uh lh I)]
 have f1:Rat.divInt (l.1*N) (p*m*N)=lo.1:=JM (by rw[wj,w.el];grind) G O
 have f2:Rat.divInt (h.1*N) (p*m*N)=hi.1:=JM (by rw[wj,w.eh];grind) G O
 have f3:Rat.divInt ((trF p s m c).1*N+(trF p s m c).2*t) (p*m*N)=c.pl+c.sp*moQ tk t N:=JM (by
  rw[yk,wj,wj,w.e1 c V,w.e2 c V,QD,w.tk]
  generalize (p:Rat)=p' at *
  generalize (m:Rat)=m' at *
  generalize (N:Rat)=N' at *
  generalize (s:Rat)=s' at *
  generalize (t:Rat)=t' at *
  grind) G O
 rw[f1,f2,f3];rfl
theorem WhR.there (w:WhR bs lo hi y p s m z trs l h tk){t N:Int}(I:0<N) (k:Int):qV (some l) (some h) trs k z t N=true↔ThQ ((lsQ bs).map (xD lo.1 hi.1 (moQ tk t N))) k y:=by
 have O:0<p*m:=wQ w.p0 w.m0
 have V:0<p*m*N:=wQ O I
 have eD:((p*m*N:Int):Rat)=(p:Rat)*(m:Rat)*(N:Rat):=by rw[wj,wj]
 have pp:(0:Rat)<(p:Rat):=wv.mpr w.p0
 have mp:(0:Rat)<(m:Rat):=wv.mpr w.m0
 have np:(0:Rat)<(N:Rat):=wv.mpr I
 have dn:(p:Rat)*(m:Rat)*(N:Rat)≠0:=by have:=w5 (w5 pp mp) np;grind
 have Y:Rat.divInt (z*N) (p*m*N)=y:=JM (by rw[wj,w.ez];grind) eD dn
 have lt:∀c∈bs,(Z4 (some l) (some h) t N (trF p s m c)<z*N↔xD lo.1 hi.1 (moQ tk t N) (c.pl,c.sp)<y):=λc F=>by
  rw[<-w.spt I F,<-qA V,Y]
 have gt:∀c∈bs,(z*N<Z4 (some l) (some h) t N (trF p s m c)↔y<xD lo.1 hi.1 (moQ tk t N) (c.pl,c.sp)):=λc F=>by
  rw[<-w.spt I F,<-qA V,Y]
 have S:(bs.map (trF p s m)).map (Z4 (some l) (some h) t N)=bs.map λc=>Z4 (some l) (some h) t N (trF p s m c):=by rw[wD];rfl
 have U:(lsQ bs).map (xD lo.1 hi.1 (moQ tk t N))=bs.map λc=>xD lo.1 hi.1 (moQ tk t N) (c.pl,c.sp):=by unfold lsQ;rw[wD];rfl
 have W:((trs.map (Z4 (some l) (some h) t N)).countP λx=>decide (x<z*N))=((lsQ bs).map (xD lo.1 hi.1 (moQ tk t N))).countP (LtR y):=by
  rw[w.et,S,U,u6,u6]
  refine List.countP_congr λc F=>?_
  show decide _=true↔decide _=true
  rw[yo,yo];exact lt c F
 have n2:((trs.map (Z4 (some l) (some h) t N)).countP λx=>decide (x<z*N))+((trs.map (Z4 (some l) (some h) t N)).countP λx=>decide (x=z*N))=((lsQ bs).map (xD lo.1 hi.1 (moQ tk t N))).countP (LeR y):=by
  rw[w.et,S,U,u6,u6,u6]
  clear W S U
  have:∀G:List Bl,(∀c∈G,c∈bs)->List.countP ((λx=>decide (x<z*N)) ∘ λc=>Z4 (some l) (some h) t N (trF p s m c)) G+List.countP ((λx=>decide (x=z*N)) ∘ λc=>Z4 (some l) (some h) t N (trF p s m c)) G=List.countP (LeR y ∘ λc:Bl=>xD lo.1 hi.1 (moQ tk t N) (c.pl,c.sp)) G:=by
   intro G
   induction G with
   |nil=>intro _;rfl
   |cons c G ih =>
    intro F
    have:=ih λd hd=>F d (wR _ hd)
    have a:=lt c (F c wB)
    have b:=gt c (F c wB)
    rw[yY,yY,yY,<-this]
    show _+(if decide _=true then 1 else 0)+(_+if decide _=true then 1 else 0)=_+if decide _=true then 1 else 0
    simp only[yo]
    generalize Z4 (some l) (some h) t N (trF p s m c)=u at *
    generalize xD lo.1 hi.1 (moQ tk t N) (c.pl,c.sp)=v at *
    rcases Int.lt_trichotomy u (z*N)with q | q | q
    ·rw[if_pos q,if_neg ∅,if_pos (by have:=a.mp q;grind)];lia
    ·rw[if_neg ∅,if_pos q,if_pos (by
      by_cases r:y<v
      ·have:=b.mpr r;lia
      ·grind)];lia
    ·rw[if_neg ∅,if_neg ∅,if_neg (by have:=b.mp q;grind)];lia
  exact this bs λ_ h=>h
 unfold qV ThQ
 rw[yo,<-W,<-n2]
 constructor
 ·rintro ⟨a,b⟩;exact⟨a,by lia⟩
 ·rintro ⟨a,b⟩;exact⟨a,by lia⟩
end
end KK
namespace KM
def Zh {lo hi y z:Rat}(h:lo<hi) (G:lo<=y) (h1:y<=hi):xN lo hi z=y↔∃n:Int,z=y+(n:Rat)*(hi-lo+(hi-lo))\/z=2*lo-y+(n:Rat)*(hi-lo+(hi-lo)):=by
 have F:0<hi-lo+(hi-lo):=by grind
 constructor
 ·intro e
  obtain⟨k,I⟩:=Zt (x:=z-lo) F
  have a:=Zu (x:=z-lo) (xa F)
  have b:=Zv (x:=z-lo) (xa F)
  have f:=vC h a b I
  generalize rst (z-lo) (hi-lo+(hi-lo))=r at *
  by_cases q:hi-lo<r
  ·rw[if_pos q]at f;refine⟨k+1,.inr ?_⟩;rw[yk];grind
  ·rw[if_neg q]at f;exact⟨k,.inl (by grind)⟩
 ·rintro ⟨n,e | e⟩
  ·rw[e];exact JR h G h1 n
  ·rw[e];exact Vu h G h1 n
end KM
namespace KK
open PySem L2 KM
def zey {a c j:Int}{n:Nat}:j∈VF a c n↔∃i:Nat,i<n/\j=a+(i:Int)*c:=by
 unfold VF
 rw[wf]
 constructor
 ·rintro ⟨i,hi,e⟩;exact⟨i,Wd.mp hi,e.symm⟩
 ·rintro ⟨i,hi,e⟩;exact⟨i,Wd.mpr hi,e.symm⟩
def zcp {T F b e j:Int}{g:Int×Int}(hs:0<vW T F g):j∈lkW T F b e g↔b<j/\j<e/\∃n:Int,j=Xn F g+n*vW T F g:=by
 unfold lkW zgr lkC
 rw[zey]
 have O:=yS (Xn F g-b-1) (b:=vW T F g) ∅
 have I:=yV (Xn F g-b-1) hs
 have G:=Wk (Xn F g-b-1) (vW T F g)
 have S:zbz T F b g=b+1+(Xn F g-b-1) % vW T F g:=rfl
 generalize (Xn F g-b-1) % vW T F g=r at *
 generalize (Xn F g-b-1)/vW T F g=q at *
 generalize zbz T F b g=a at *
 generalize Xn F g=o at *
 generalize vW T F g=c at *
 have sz:∀i:Nat,(i<(Builtin.Range.rangeSize a e c).toNat↔a+(i:Int)*c<e):=λi=>by
  unfold Builtin.Range.rangeSize
  rw[if_pos hs]
  split
  ·rename_i h
   have d:=Int.le_ediv_iff_mul_le (a:=(i:Int)) (b:=e-a-1) hs
   lia
  ·rename_i h
   have:=Wy (show (0:Int)<=(i:Int) by lia) (show 0<=c by lia)
   constructor
   ·intro z;exact absurd z (by simp)
   ·intro z;lia
 constructor
 ·rintro ⟨i,hi,e1⟩
  have h:=(sz i).mp hi
  have:=Wy (show (0:Int)<=(i:Int) by lia) (show 0<=c by lia)
  refine⟨by lia,by lia,(i:Int)-q,?_⟩
  rw[Int.sub_mul,uo q c];lia
 ·rintro ⟨h1,h2,n,e1⟩
  have e2:j=a+(n+q)*c:=by rw[Int.add_mul,uo q c];lia
  have k0:0<=n+q:=by
   rcases yD (n+q) 0 with z | z
   ·exfalso
    have:=yx (show n+q ≤ -1 by lia) (show 0<=c by lia)
    lia
   ·exact z
  refine⟨(n+q).toNat,(sz _).mpr ?_,?_⟩ <;> rw[show (((n+q).toNat:Nat):Int)=n+q by lia] <;> lia
def zco {T F b e j:Int}:∀{gs:List (Int×Int)},j∈lkG T F b e gs↔∃g∈gs,j∈lkW T F b e g
 |[]=>⟨λm=>(by cases m),λh=>(by obtain⟨_,m,_⟩:=h;cases m)⟩
 |g::gs=>by
  show j∈lkW T F b e g++lkG T F b e gs↔_
  rw[wY,zco]
  constructor
  ·rintro (m | ⟨G,m,h⟩)
   ·exact⟨g,wB,m⟩
   ·exact⟨G,wR _ m,h⟩
  ·rintro ⟨G,m,h⟩
   rcases ww.mp m with rfl | m
   ·exact .inl h
   ·exact .inr ⟨G,m,h⟩
def Qz {l0 z:Int}{t:Int×Int}(F:t.2≠0):∀{trs:List (Int×Int)},t∈trs->(t.2,z-t.1)∈zP l0 z trs/\(t.2,2*l0-z-t.1)∈zP l0 z trs
 |[],m=>by cases m
 |u::r,m=>by
  show _∈Xu l0 z u++zP l0 z r/\_∈Xu l0 z u++zP l0 z r
  rw[wY,wY]
  rcases ww.mp m with rfl | m
  ·unfold Xu;rw[if_neg F];exact⟨.inl (by simp),.inl (by simp)⟩
  ·have:=Qz F (z:=z) (l0:=l0) m;exact⟨.inr this.1,.inr this.2⟩
def J2 {T F j:Int}{g:Int×Int}(I:g.1≠0) (hd:zY g.1 ∣ F):(∃n:Int,j=Xn F g+n*vW T F g)↔∃n:Int,g.1*j=g.2*F+n*(T*F):=by
 unfold Xn vW
 obtain⟨d,hd⟩:=hd
 have a0:=ZL I
 have e2:F.fdiv (zY g.1)=d:=by rw[wC _ ∅,hd,yf _ ∅]
 rw[e2]
 by_cases c:g.1<0
 ·have G:zY g.1=-g.1:=by unfold zY;rw[if_pos c]
  have e1:F.fdiv g.1=-d:=by
   rw[hd,G,show -g.1*d=g.1 * -d by grind]
   exact Int.mul_fdiv_cancel_left _ I
  rw[e1]
  rw[G]at hd
  constructor
  ·rintro ⟨n,e⟩;refine⟨-n,?_⟩;rw[e,hd];grind
  ·rintro ⟨n,e⟩
   refine⟨-n,?_⟩
   have:g.1*j=g.1*(g.2 * -d + -n*(T*d)):=by rw[e,hd];grind
   exact Yz I this
 ·have G:zY g.1=g.1:=by unfold zY;rw[if_neg c]
  have e1:F.fdiv g.1=d:=by rw[<-G];exact e2
  rw[e1]
  rw[G]at hd
  constructor
  ·rintro ⟨n,e⟩;refine⟨n,?_⟩;rw[e,hd];grind
  ·rintro ⟨n,e⟩
   refine⟨n,?_⟩
   have:g.1*j=g.1*(g.2*d+n*(T*d)):=by rw[e,hd];grind
   exact Yz I this
section
variable {bs:List Bl}{lo hi:Rat×Rat}{y x R:Rat}{p s m z:Int}{trs:List (Int×Int)}{l h b l':Int×Int}{tk:Rat}
theorem WhR.tk0 (w:WhR bs lo hi y p s m z trs l h tk):0<tk:=by rw[w.tk];exact Zk (wv.mpr w.s0) (wv.mpr w.p0)
theorem WhR.eqn (w:WhR bs lo hi y p s m z trs l h tk){c:Bl}(G:c∈bs){N j n v:Int}{V:Rat}(W:0<N) (I:(v:Rat)=V*((p:Rat)*(m:Rat))):(trF p s m c).2*j=(v-(trF p s m c).1)*N+n*(2*(h.1-l.1)*N)↔c.pl+c.sp*moQ tk j N=V+(n:Rat)*(hi.1-lo.1+(hi.1-lo.1)):=by
 have U:(0:Rat)<(p:Rat):=wv.mpr w.p0
 have O:(0:Rat)<(m:Rat):=wv.mpr w.m0
 have np:(0:Rat)<(N:Rat):=wv.mpr W
 rw[<-yH,wj,yk,wj,wj,yE,wj,wj,yE,w.e1 c G,w.e2 c G,w.el,w.eh,I,QD,w.tk]
 have two:((2:Int):Rat)=2:=rfl
 rw[two]
 have S:=w5 (w5 U O) np
 generalize (p:Rat)=p' at *
 generalize (m:Rat)=m' at *
 generalize (N:Rat)=N' at *
 generalize (s:Rat)=s' at *
 generalize (j:Rat)=t' at *
 generalize (n:Rat)=n' at *
 have pn:p'≠0:=by grind
 have Y:N'≠0:=by grind
 have e1:c.sp*(s'*m')*t'=c.sp*(t'/N'*(s'/p'))*(p'*m'*N'):=by grind
 have e2:(V*(p'*m')-c.pl*(p'*m'))*N'+n'*(2*(hi.1*(p'*m')-lo.1*(p'*m'))*N')=(V-c.pl+n'*(hi.1-lo.1+(hi.1-lo.1)))*(p'*m'*N'):=by grind
 rw[e1,e2]
 have F:p'*m'*N'≠0:=by grind
 constructor
 ·intro e
  have:c.sp*(t'/N'*(s'/p'))=V-c.pl+n'*(hi.1-lo.1+(hi.1-lo.1)):=by
   have:=congrArg (· / (p'*m'*N')) e
   try dsimp only at this
   rw[uT F,uT F]at this
   exact this
  rw[this];grind
 ·intro e
  have:c.sp*(t'/N'*(s'/p'))=V-c.pl+n'*(hi.1-lo.1+(hi.1-lo.1)):=by grind
  rw[this]
theorem WhR.v2 (w:WhR bs lo hi y p s m z trs l h tk):((2*l.1-z:Int):Rat)=(2*lo.1-y)*((p:Rat)*(m:Rat)):=by
 rw[yE,wj,w.el,w.ez]
 have two:((2:Int):Rat)=2:=rfl
 rw[two];grind
theorem WhR.sp0 (w:WhR bs lo hi y p s m z trs l h tk){c:Bl}(F:c∈bs):(trF p s m c).2=0↔c.sp=0:=by
 have sp:(0:Rat)<(s:Rat):=wv.mpr w.s0
 have G:(0:Rat)<(m:Rat):=wv.mpr w.m0
 have e:=w.e2 c F
 have I:=w5 sp G
 constructor
 ·intro q
  rw[q]at e
  have z:((0:Int):Rat)=0:=rfl
  rw[z]at e
  have:(s:Rat)*(m:Rat)≠0:=by grind
  rcases WT.mp e.symm with q | q
  ·exact q
  ·exact absurd q this
 ·intro q
  rw[q,ur]at e
  exact yH.mp (e.trans (show (0:Rat)=((0:Int):Rat)from rL))
theorem WhR.gaps (w:WhR bs lo hi y p s m z trs l h tk) (V:lo.1<=y) (Y:y<=hi.1){N:Int}(O:0<N) (dv:∀g∈zP l.1 z trs,zY g.1 ∣ N){j:Int}:(∃g∈zP l.1 z trs,∃n:Int,j=Xn N g+n*vW (2*(h.1-l.1)) N g)↔PsQ lo.1 hi.1 (lsQ bs) y (moQ tk j N):=by
 constructor
 ·rintro ⟨g,mg,hn⟩
  obtain⟨t,S,G,e1,e2⟩:=Xb mg
  rw[w.et]at S
  obtain⟨c,F,rfl⟩:=wf.mp S
  obtain⟨n,I⟩:=(J2 (by rw[e1];exact G) (dv g mg)).mp hn
  refine⟨(c.pl,c.sp),wf.mpr ⟨c,F,rL⟩,λq=>G ((w.sp0 F).mpr q),?_⟩
  refine(Zh w.lh V Y).mpr ⟨n,?_⟩
  rw[e1]at I
  rcases e2 with e2 | e2
  ·rw[e2]at I;exact .inl ((w.eqn F O w.ez).mp I)
  ·rw[e2]at I;exact .inr ((w.eqn F O w.v2).mp I)
 ·rintro ⟨u,mu,u0,e⟩
  obtain⟨c,F,rfl⟩:=wf.mp mu
  have G:(trF p s m c).2≠0:=λq=>u0 ((w.sp0 F).mp q)
  obtain⟨W,U⟩:=Qz (l0:=l.1) (z:=z) (trs:=trs) G (by rw[w.et];exact wf.mpr ⟨c,F,rfl⟩)
  obtain⟨n,e | e⟩:=(Zh w.lh V Y).mp e
  ·exact⟨_,W,(J2 G (dv _ W)).mpr ⟨n,(w.eqn F O w.ez).mpr e⟩⟩
  ·exact⟨_,U,(J2 G (dv _ U)).mpr ⟨n,(w.eqn F O w.v2).mpr e⟩⟩
theorem WhR.whole (w:WhR bs lo hi y p s m z trs l h tk) (y0:lo.1<=y) (y1:y<=hi.1){N:Int}(N0:0<N) (dv:∀g∈zP l.1 z trs,zY g.1 ∣ N){X:Rat}(P:PsQ lo.1 hi.1 (lsQ bs) y X):∃j:Int,X=moQ tk j N:=by
 obtain⟨u,mu,U,e⟩:=P
 obtain⟨c,O,rfl⟩:=wf.mp mu
 have t0:(trF p s m c).2≠0:=λq=>U ((w.sp0 O).mp q)
 obtain⟨g1,S⟩:=Qz (l0:=l.1) (z:=z) (trs:=trs) t0 (by rw[w.et];exact wf.mpr ⟨c,O,rfl⟩)
 have G:∀(V:Rat) (v:Int) (n:Int),(v:Rat)=V*((p:Rat)*(m:Rat))->((trF p s m c).2,v-(trF p s m c).1)∈zP l.1 z trs->c.pl+c.sp*X=V+(n:Rat)*(hi.1-lo.1+(hi.1-lo.1))->∃j:Int,X=moQ tk j N:=λV v n W mg e=>by
  obtain⟨d,hd⟩:=dv _ mg
  obtain⟨F,I⟩:∃F:Int,N=(trF p s m c).2*F:=by
   by_cases q:(trF p s m c).2<0
   ·refine⟨-d,?_⟩;rw[hd];show zY (trF p s m c).2*d=_;unfold zY;rw[if_pos q];grind
   ·refine⟨d,?_⟩;rw[hd];show zY (trF p s m c).2*d=_;unfold zY;rw[if_neg q]
  refine⟨(v-(trF p s m c).1+n*(2*(h.1-l.1)))*F,?_⟩
  have q:=(w.eqn O (j:=(v-(trF p s m c).1+n*(2*(h.1-l.1)))*F) (n:=n) N0 W).mp (by
   conv=>rhs;rw[I]
   grind)
  have:c.sp*X=c.sp*moQ tk ((v-(trF p s m c).1+n*(2*(h.1-l.1)))*F) N:=by grind
  generalize moQ tk ((v-(trF p s m c).1+n*(2*(h.1-l.1)))*F) N=Y at this
  clear q e
  grind
 obtain⟨n,e | e⟩:=(Zh w.lh y0 y1).mp e
 ·exact G y z n w.ez g1 e
 ·exact G _ (2*l.1-z) n w.v2 S e
theorem zaM {tk:Rat}(G:0<tk){N:Int}(F:0<N){i j:Int}:moQ tk i N<moQ tk j N↔i<j:=by
 rw[QD,QD]
 have np:(0:Rat)<(N:Rat):=wv.mpr F
 have e:∀a:Int,(a:Rat)/(N:Rat)*tk=(tk/(N:Rat))*(a:Rat):=λa=>by
  generalize (N:Rat)=n at *;generalize (a:Rat)=a' ;grind
 rw[e,e,qf (Zk G np)]
 exact yL
theorem LkO.q (w:WhR bs lo hi y p s m z trs l h tk) (W:lo.1<=y) (y1:y<=hi.1) (eb:b=((x/tk).num,((x/tk).den:Int))) (A:LkA (2*(h.1-l.1)) b l' (zP l.1 z trs)) (el:l'=((R/tk).num,((R/tk).den:Int))){ms:List Int}{N:Int}(O:LkO (2*(h.1-l.1)) b (zP l.1 z trs) ms N (some l')):0<N/\LkQ (PsQ lo.1 hi.1 (lsQ bs) y) x (some R) (ms.map λt=>moQ tk t N):=by
 obtain⟨rfl,V,nd,so⟩:=O
 have U:=w.tk0
 have tn:tk≠0:=by grind
 have F:=A.N.1
 have dv:=A.N.2.2
 have B0:=A.B.1
 have NB:=A.N.2.1
 have eF:=A.eF
 have eL:=A.eL
 have I:=A.bb.2.2
 have l2:=A.bl.2.2
 have bp:(0:Rat)<((lkB b l':Int):Rat):=wv.mpr B0
 have a1:(0:Rat)<((b.2:Int):Rat):=wv.mpr I
 have a2:(0:Rat)<((l'.2:Int):Rat):=wv.mpr l2
 have S:∀v:Int,moQ tk (lkU b l' (zP l.1 z trs) v) (lkN b l' (zP l.1 z trs))=(v:Rat)/((lkB b l':Int):Rat)*tk:=λv=>by
  unfold lkU
  obtain⟨d,hd⟩:=NB
  have e:(lkN b l' (zP l.1 z trs)).fdiv (lkB b l')=d:=by rw[wC _ ∅,hd,yf _ ∅]
  rw[QD,e,hd,wj,wj]
  have dp:((d:Int):Rat)≠0:=λq=>by
   have:d=0:=yH.mp (q.trans (show (0:Rat)=((0:Int):Rat)from rfl))
   rw[this,Int.mul_zero]at hd;lia
  generalize ((lkB b l':Int):Rat)=B at *
  generalize ((d:Int):Rat)=d' at *
  generalize (v:Rat)=v' at *
  clear hd e V eF eL
  congr 1
  have Bn:B≠0:=by grind
  grind
 have ex:(b.1:Rat)/(b.2:Rat)=x/tk:=by rw[eb];show ((x/tk).num:Rat)/(((x/tk).den:Int):Rat)=_;rw[<-wE];exact wW _
 have er:(l'.1:Rat)/(l'.2:Rat)=R/tk:=by rw[el];show ((R/tk).num:Rat)/(((R/tk).den:Int):Rat)=_;rw[<-wE];exact wW _
 have e1:moQ tk (lkU b l' (zP l.1 z trs) (lkF b l')) (lkN b l' (zP l.1 z trs))=x:=by
  rw[S]
  have:=congrArg (λi:Int=>(i:Rat)) eF
  try dsimp only at this
  rw[wj,wj]at this
  have e:((lkF b l':Int):Rat)/((lkB b l':Int):Rat)=(b.1:Rat)/(b.2:Rat):=by
   generalize ((lkF b l':Int):Rat)=f at *
   generalize ((lkB b l':Int):Rat)=B at *
   generalize ((b.1:Int):Rat)=b1 at *
   generalize ((b.2:Int):Rat)=I at *
   clear V eF eL ex er S
   have Bn:B≠0:=by grind
   have bn:I≠0:=by grind
   grind
  rw[e,ex];exact uS tn
 have e2:moQ tk (lkU b l' (zP l.1 z trs) (lkL b l')) (lkN b l' (zP l.1 z trs))=x+R:=by
  rw[S]
  rw[S]at e1
  have:=congrArg (λi:Int=>(i:Rat)) eL
  try dsimp only at this
  rw[wj,wj,yE]at this
  have eR:R=(l'.1:Rat)/(l'.2:Rat)*tk:=by rw[er];exact(uS tn).symm
  rw[eR,<-e1]
  generalize ((lkF b l':Int):Rat)=f at *
  generalize ((lkL b l':Int):Rat)=L at *
  generalize ((lkB b l':Int):Rat)=B at *
  generalize ((l'.1:Int):Rat)=b1 at *
  generalize ((l'.2:Int):Rat)=I at *
  clear V eF eL ex er S e1 eR
  have Bn:B≠0:=by grind
  have bn:I≠0:=by grind
  have:L/B=f/B+b1/I:=by grind
  rw[this];grind
 refine⟨F,YG.mpr ?_,λX=>?_⟩
 ·refine List.Pairwise.imp_of_mem (R:=λa b=>a<=b/\a≠b) (λ_ _ q=>(zaM U F).mpr (by have:=q.1;have:=q.2;lia)) (so.and nd)
 ·have key:∀j,j∈ms↔j=lkU b l' (zP l.1 z trs) (lkF b l')\/(lkU b l' (zP l.1 z trs) (lkF b l')<j/\j<lkU b l' (zP l.1 z trs) (lkL b l')/\∃g∈zP l.1 z trs,∃n:Int,j=Xn (lkN b l' (zP l.1 z trs)) g+n*vW (2*(h.1-l.1)) (lkN b l' (zP l.1 z trs)) g):=λj=>by
   rw[V]
   unfold lkM
   rw[ww,zco]
   constructor
   ·rintro (e | ⟨g,mg,hg⟩)
    ·exact .inl e
    ·obtain⟨h1,h2,G⟩:=(zcp (A.stp mg)).mp hg
     exact .inr ⟨h1,h2,g,mg,G⟩
   ·rintro (e | ⟨h1,h2,g,mg,G⟩)
    ·exact .inl e
    ·exact .inr ⟨g,mg,(zcp (A.stp mg)).mpr ⟨h1,h2,G⟩⟩
  constructor
  ·intro mX
   obtain⟨j,mj,rfl⟩:=wf.mp mX
   rcases(key j).mp mj with e | ⟨h1,h2,G⟩
   ·left;nofun
    rw[e];exact e1
   ·refine .inr ⟨R,rL,?_,?_,(w.gaps W y1 F dv).mp G⟩
    ·rw[<-e1];exact(zaM U F).mpr h1
    ·rw[<-e2];exact(zaM U F).mpr h2
  ·rintro (e | ⟨r,Y,h1,h2,G⟩)
   ·exact wf.mpr ⟨_,(key _).mpr (.inl rfl),by rw[e];exact e1⟩
   ·cases Y
    obtain⟨j,rfl⟩:=w.whole W y1 F dv G
    refine wf.mpr ⟨j,(key j).mpr (.inr ⟨?_,?_,(w.gaps W y1 F dv).mpr G⟩),rL⟩
    ·refine(zaM U F).mp ?_;rw[e1];exact h1
    ·refine(zaM U F).mp ?_;rw[e2];exact h2
end
def v4 (pss:List (Int×List Int)):List (Int×Int):=pss.flatMap λe=>e.2.map λq=>(e.1,q)
def Zg (e:Int×List Int) (pss:List (Int×List Int)):v4 (e::pss)=(e.2.map λq=>(e.1,q))++v4 pss:=List.flatMap_cons
def za8 {k w:Int}:∀{ps:List (Int×List Int)},(∀p∈ps,p.1≠k)->ps.map (λp=>if p.1=k then(p.1,p.2++[w])else p)=ps
 |[],_=>rfl
 |p::ps,h=>by rw[yg,if_neg (h p (.head _)),za8 λq m=>h q (.tail _ m)]
def zaC {k w:Int}:∀{ps:List (Int×List Int)},(ps.map Prod.fst).Nodup->(ps.any λp=>decide (p.1=k))=true->(v4 (ps.map λp=>if p.1=k then(p.1,p.2++[w])else p)).Perm (v4 ps++[(k,w)])
 |[],_,h=>by simp at h
 |p::ps,nd,h=>by
  rw[yg]at nd
  obtain⟨na,F⟩:=uz.mp nd
  rw[yg]
  by_cases c:p.1=k
  ·rw[if_pos c,za8 λq m e=>na (by rw[c,<-e];exact wf.mpr ⟨q,m,rfl⟩),Zg,Zg]
   show (((p.2++[w]).map λq=>(p.1,q))++v4 ps).Perm _
   rw[yt,c,ym,ym]
   exact(Wn).append_left _
  ·rw[if_neg c,Zg,Zg,ym]
   refine List.Perm.append_left _ (zaC F ?_)
   rw[Yb,wy c,YM]at h
   exact h
def zc2 {k w:Int}{ps:List (Int×List Int)} (F:(ps.map Prod.fst).Nodup):(v4 (Zm ps k w)).Perm (v4 ps++[(k,w)]):=by
 unfold Zm
 split
 ·rename_i h;exact zaC F h
 ·unfold v4
  rw[List.flatMap_append]
  exact .refl _
def phW (l T:Int) (u:Int×Int):Int×Int:=(zY u.2,if u.2<0 then T-(u.1-l)else u.1-l)
def Vz (u:Int×Int):Bool:=decide (u.2≠0)
def J7 {l T:Int}:∀(js:List (Int×Int)) (ps:List (Int×List Int)),(ps.map Prod.fst).Nodup->(v4 (js.foldl (jY l T) ps)).Perm (v4 ps++(js.filter Vz).map (phW l T))
 |[],ps,_=>by rw[Y4,List.filter_nil,YV,yP]
 |u::js,ps,nd=>by
  rw[uB]
  by_cases c:u.2=0
  ·have e1:jY l T ps u=ps:=by unfold jY;rw[if_neg ∅,if_neg ∅]
   rw[e1,List.filter_cons_of_neg (by unfold Vz;simp[c])]
   exact J7 js ps nd
  ·have e1:jY l T ps u=Zm ps (phW l T u).1 (phW l T u).2:=by
    unfold jY phW zY
    by_cases a:0<u.2
    ·rw[if_pos a];simp only;rw[if_neg ∅,if_neg ∅]
    ·rw[if_neg a,if_pos ∅];simp only;rw[if_pos ∅,if_pos ∅]
   rw[e1,List.filter_cons_of_pos (by unfold Vz;simp[c]),yg]
   refine(J7 js _ (zb1 nd)).trans ?_
   have:=(zc2 (k:=(phW l T u).1) (w:=(phW l T u).2) nd).append_right ((js.filter Vz).map (phW l T))
   refine this.trans ?_
   rw[ym];exact .refl _
def zaB {e:Int×List Int}:∀{pss:List (Int×List Int)},(pss.map Prod.fst).Nodup->e∈pss->(v4 pss).filter (λw=>decide (w.1=e.1))=e.2.map λq=>(e.1,q)
 |[],_,m=>by cases m
 |p::pss,nd,m=>by
  rw[yg]at nd
  obtain⟨na,I⟩:=uz.mp nd
  rw[Zg,ue]
  have all:∀(k:Int) (l:List Int),(l.map λq=>(k,q)).filter (λw=>decide (w.1=k))=l.map λq=>(k,q):=λk l=>List.filter_eq_self.mpr λa F=>by
   obtain⟨q,_,rfl⟩:=wf.mp F;exact wm rfl
  have S:∀(k G:Int) (l:List Int),k≠G->(l.map λq=>(k,q)).filter (λw=>decide (w.1=G))=[]:=λk G l h=>List.filter_eq_nil_iff.mpr λa F=>by
   obtain⟨q,_,rfl⟩:=wf.mp F;simpa using h
  rcases ww.mp m with rfl | m
  ·rw[all]
   have:(v4 pss).filter (λw=>decide (w.1=e.1))=[]:=List.filter_eq_nil_iff.mpr λa F=>by
    obtain⟨x,O,F⟩:=List.mem_flatMap.mp F
    obtain⟨q,_,rfl⟩:=wf.mp F
    simp only[yo]
    exact λz=>na (by rw[<-z];exact wf.mpr ⟨x,O,rfl⟩)
   rw[this,yP]
  ·rw[S _ _ _ (λz=>na (by rw[z];exact wf.mpr ⟨e,m,rfl⟩)),WM]
   exact zaB I m
def zex {P:Nat->Prop}:∀n:Nat,(∃m,1<=m/\m<=n/\P m)->∃M,1<=M/\M<=n/\P M/\∀m,1<=m->m<=n->P m->m<=M
 |0,h=>by obtain⟨m,h1,h2,_⟩:=h;lia
 |n+1,h=>by
  rcases Classical.em (P (n+1))with c | c
  ·exact⟨n+1,by lia,wo _,c,λm _ h _=>h⟩
  ·obtain⟨m,h1,h2,F⟩:=h
   have ne:m≠n+1:=λe=>c (e ▸ F)
   obtain⟨M,I,S,G,O⟩:=zex n ⟨m,h1,by lia,F⟩
   exact⟨M,I,by lia,G,λk k1 k2 k3=>O k k1 (by
    have:k≠n+1:=λe=>c (e ▸ k3)
    lia) k3⟩
def KgZ.ex {l T:Int}{js:List (Int×Int)}{pss:List (Int×List Int)} (I:PhJ l T js pss):∃F,KgZ T pss F:=by
 have S:∀e∈pss,∃M,GmZ T e.2 M:=λe G=>by
  obtain⟨M,W,Y,V,a4⟩:=zex (P:=λm=>qc e.2 T (m:Int)=true) e.2.length ⟨1,wo _,I.l1 e G,Ja (I.inn e G)⟩
  exact⟨M,W,Y,V,a4⟩
 have:∀ks:List Int,(∀k∈ks,k∈pss.map Prod.fst)->∃F:List (Int×Int),F.map Prod.fst=ks/\∀u∈F,∃ps M,(u.1,ps)∈pss/\u.2=((M:Nat):Int)/\GmZ T ps M:=by
  intro ks
  induction ks with
  |nil=>intro _;exact⟨[],rfl,λu m=>by cases m⟩
  |cons k ks ih =>
   intro h
   obtain⟨F,e1,e2⟩:=ih λx m=>h x (wR _ m)
   obtain⟨e,G,U⟩:=wf.mp (h k wB)
   obtain⟨M,O⟩:=S e G
   refine⟨(k,(M:Int))::F,by rw[yg,e1],λu m=>?_⟩
   rcases ww.mp m with rfl | m
   ·exact⟨e.2,M,by rw[<-U];exact G,rfl,O⟩
   ·exact e2 u m
 obtain⟨F,e1,e2⟩:=this (za4 (pss.map Prod.fst)) λk m=>(vI _).mem_iff.mp m
 exact⟨F,by rw[e1];exact vI _,by rw[e1];exact zam _,e2⟩
def zeT {α β:Type}{f:α->β}{g:β->α}(h:∀x,g (f x)=x){a b:List α}:(a.map f).Perm (b.map f)↔a.Perm b:=by
 constructor
 ·intro p
  have:=p.map g
  rw[wD,wD]at this
  have e:∀l:List α,l.map (g ∘ f)=l:=λl=>by
   conv=>rhs;rw[<-List.map_id l]
   exact wG λx _=>h x
  rw[e,e]at this
  exact this
 ·exact λp=>p.map f
def zb5 {p T:Int}{F:Rat}(p0:0<p) (eT:(T:Rat)=F*(p:Rat)) (T0:0<T){ps:List Int}(V:∀q∈ps,0<=q/\q<T){m:Nat}(m1:1<=m):qc ps T (m:Int)=true↔JK F (ps.map λq:Int=>(q:Rat)/(p:Rat)) m:=by
 rw[V9]
 unfold JK
 have O:(0:Rat)<(p:Rat):=wv.mpr p0
 have mp:(0:Rat)<((m:Int):Rat):=wv.mpr ∅
 have Tp:(0:Rat)<(T:Rat):=wv.mpr T0
 have pn:(p:Rat)≠0:=by grind
 have mn:((m:Int):Rat)≠0:=by grind
 have W:(p:Rat)*((m:Int):Rat)≠0:=by have:=w5 O mp;grind
 have a3:0<F:=by
  have:F=(T:Rat)/(p:Rat):=by grind
  rw[this];exact Zk Tp O
 have G:∀{a b:Rat},a<b->a/(p:Rat)<b/(p:Rat):=λh=>by
  rw[Wi,Wi];exact Wq h (YO.mpr O)
 rw[<-zeT (f:=λi:Int=>(i:Rat)/((p:Rat)*((m:Int):Rat))) (g:=λx:Rat=>(x*((p:Rat)*((m:Int):Rat))).num) (λi=>by
  show ((i:Rat)/((p:Rat)*((m:Int):Rat))*((p:Rat)*((m:Int):Rat))).num=i
  rw[uS W,Wp])]
 rw[wD,wD,wD,wD]
 have e1:ps.map ((λi:Int=>(i:Rat)/((p:Rat)*((m:Int):Rat))) ∘ λq=>q*(m:Int))=ps.map ((λh=>rst h F) ∘ λq:Int=>(q:Rat)/(p:Rat)):=wG λq hq=>by
  obtain⟨q0,q1⟩:=V q hq
  show ((q*(m:Int):Int):Rat)/_=rst ((q:Rat)/(p:Rat)) F
  have a0:(0:Rat)<=(q:Rat):=Wh.mpr q0
  have I:(q:Rat)<(T:Rat):=yL.mpr q1
  have b0:0<=(q:Rat)/(p:Rat):=by rw[Wi];exact uK a0 (yj (YO.mpr O))
  have b1:(q:Rat)/(p:Rat)<F:=by
   have:=G I
   have e:(T:Rat)/(p:Rat)=F:=by grind
   rw[e]at this;exact this
  rw[ze8 b0 b1,wj]
  generalize ((m:Int):Rat)=M at *
  generalize (p:Rat)=P at *
  generalize (q:Rat)=Q at *
  clear a0 I b0 b1 G
  grind
 have e2:ps.map ((λi:Int=>(i:Rat)/((p:Rat)*((m:Int):Rat))) ∘ λq=>(q*(m:Int)+T) % (T*(m:Int)))=ps.map ((λh=>rst (h+F/((m:Int):Rat)) F) ∘ λq:Int=>(q:Rat)/(p:Rat)):=wG λq hq=>by
  show (((q*(m:Int)+T) % (T*(m:Int)):Int):Rat)/_=rst ((q:Rat)/(p:Rat)+F/((m:Int):Rat)) F
  have Tm:0<T*(m:Int):=wQ T0 ∅
  have r0:=yS (q*(m:Int)+T) (b:=T*(m:Int)) ∅
  have r1:=yV (q*(m:Int)+T) Tm
  have rk:=Wk (q*(m:Int)+T) (T*(m:Int))
  generalize (q*(m:Int)+T) % (T*(m:Int))=r at *
  generalize (q*(m:Int)+T)/(T*(m:Int))=k at *
  have a0:(0:Rat)<=(r:Rat):=Wh.mpr r0
  have I:(r:Rat)<((T*(m:Int):Int):Rat):=yL.mpr r1
  have S:=congrArg (λi:Int=>(i:Rat)) rk
  try dsimp only at S
  rw[yk,wj,yk,wj,wj]at S
  rw[wj]at I
  have U:=w5 O mp
  have Y:=YO.mpr U
  symm
  refine zaa (k:=k) ?_ ?_ ?_
  ·rw[Wi];exact uK a0 (yj Y)
  ·have:=Wq I Y
   rw[<-Wi,<-Wi]at this
   have e:(T:Rat)*((m:Int):Rat)/((p:Rat)*((m:Int):Rat))=F:=by
    rw[eT]
    generalize ((m:Int):Rat)=M at *
    generalize (p:Rat)=P at *
    clear a0 I S G this
    grind
   rw[e]at this;exact this
  ·generalize ((m:Int):Rat)=M at *
   generalize (p:Rat)=P at *
   generalize (q:Rat)=Q at *
   generalize (k:Rat)=k' at *
   generalize (r:Rat)=r' at *
   rw[eT]at S
   clear a0 I G Y
   grind
 rw[e1,e2]
def GmZ.gr {p T:Int}{S:Rat}(V:0<p) (U:(T:Rat)=S*(p:Rat)) (I:0<T){ps:List Int}(F:∀q∈ps,0<=q/\q<T){M:Nat}(g:GmZ T ps M):GrR S (ps.map λq:Int=>(q:Rat)/(p:Rat)) M :=
 ⟨g.m1,by rw[wc];exact g.m2,(zb5 V U I F g.m1).mp g.m3,λm O G c=>g.m4 m O (by rw[wc]at G;exact G) ((zb5 V U I F O).mpr c)⟩
def zf0 {T:Rat}{a b:List Rat}(h:a.Perm b):AlR T 0 a b:=by
 refine(h.symm.map λx=>rst x T).trans (.of_eq (wG λx _=>?_))
 rw[Yu]
section
variable {bs:List Bl}{lo hi:Rat×Rat}{p s T:Int}{tk:Rat}{pss:List (Int×List Int)}
theorem ziQ (U:pss=phO (trB p s lo).1 T (bs.map λb=>trB p s (b.pl,b.sp))) (p0:0<p) (s0:0<s) (eT:(T:Rat)=(hi.1-lo.1+(hi.1-lo.1))*(p:Rat)) (el:(((trB p s lo).1:Int):Rat)=lo.1*(p:Rat)) (h1:∀b∈bs,(((trB p s (b.pl,b.sp)).1:Int):Rat)=b.pl*(p:Rat)) (h2:∀b∈bs,(((trB p s (b.pl,b.sp)).2:Int):Rat)=b.sp*(s:Rat)) (nd:(pss.map Prod.fst).Nodup){c:Rat}(G:0<c) :
  (∀e∈pss,(e.1:Rat)=c*(s:Rat)->(e.2.map λq:Int=>(q:Rat)/(p:Rat)).Perm (QB lo.1 hi.1 c (lsQ bs)))/\((∃u∈lsQ bs,xQ u=c)->∃e∈pss,(e.1:Rat)=c*(s:Rat)):=by
 have pp:(0:Rat)<(p:Rat):=wv.mpr p0
 have sp:(0:Rat)<(s:Rat):=wv.mpr s0
 have fl:(v4 pss).Perm (((bs.map λb=>trB p s (b.pl,b.sp)).filter Vz).map (phW (trB p s lo).1 T)):=by
  rw[U];unfold phO
  have:=J7 (l:=(trB p s lo).1) (T:=T) (bs.map λb=>trB p s (b.pl,b.sp)) [] (by simp)
  exact this
 have ab:∀b∈bs,(((zY (trB p s (b.pl,b.sp)).2):Int):Rat)=xQ (b.pl,b.sp)*(s:Rat):=λb F=>by
  have e:=h2 b F
  have neg:(trB p s (b.pl,b.sp)).2<0↔b.sp<0:=by
   have:((trB p s (b.pl,b.sp)).2<0↔(((trB p s (b.pl,b.sp)).2:Int):Rat)<((0:Int):Rat)):=yL.symm
   rw[this,e]
   have z:((0:Int):Rat)=0:=rfl
   rw[z]
   constructor
   ·intro q
    by_cases c:b.sp<0
    ·exact c
    ·have:=uK (show 0<=b.sp by grind) (yj sp);grind
   ·intro q
    have:=w5 (show 0 < -b.sp by grind) sp;grind
  unfold zY xQ
  by_cases q:(trB p s (b.pl,b.sp)).2<0
  ·rw[if_pos q,if_pos (neg.mp q),yT,e];grind
  ·rw[if_neg q,if_neg λz=>q (neg.mpr z),e]
 have key:∀b∈bs,∀k:Int,(k:Rat)=c*(s:Rat)->(zY (trB p s (b.pl,b.sp)).2=k↔xQ (b.pl,b.sp)=c):=λb F k hk=>by
  rw[<-yH,ab b F,hk]
  have sn:(s:Rat)≠0:=by grind
  constructor
  ·intro q
   have:=congrArg (· / (s:Rat)) q
   try dsimp only at this
   rw[uT sn,uT sn]at this
   exact this
  ·intro q;rw[q]
 refine⟨λe V ek=>?_,λhc=>?_⟩
 ·have Y:=zaB nd V
  have p1:=fl.filter λw=>decide (w.1=e.1)
  rw[Y,WU,Yv,WU]at p1
  have p2:=(p1.map λw:Int×Int=>(w.2:Rat)/(p:Rat))
  rw[wD,wD,wD]at p2
  refine(List.Perm.of_eq ?_).trans (p2.trans (.of_eq ?_))
  ·exact wG λ_ _=>rL
  ·unfold QB lsQ
   rw[WU,wD]
   have ef:bs.filter ((λa=>decide ((phW (trB p s lo).1 T a).1=e.1)&&Vz a) ∘ λb:Bl=>trB p s (b.pl,b.sp))=bs.filter (ofP c ∘ λb:Bl=>(b.pl,b.sp)):=u7 λb F=>by
    show (decide (zY (trB p s (b.pl,b.sp)).2=e.1)&&Vz (trB p s (b.pl,b.sp)))=decide (xQ (b.pl,b.sp)=c)
    have k:=key b F e.1 ek
    by_cases q:xQ (b.pl,b.sp)=c
    ·rw[wm q,wm (k.mpr q)]
     have:(trB p s (b.pl,b.sp)).2≠0:=λz=>by
      have:=h2 b F
      rw[z]at this
      have e0:b.sp=0:=by
       rcases WT.mp (show b.sp*(s:Rat)=0 from this.symm)with z | z
       ·exact z
       ·exfalso;rw[z]at sp;exact absurd sp (by decide)
      unfold xQ at q;dsimp only at q;rw[e0]at q;rw[if_neg (by decide)]at q;rw[<-q]at G;exact absurd G (by decide)
     unfold Vz;rw[wm this];rfl
    ·rw[wy q,wy λz=>q (k.mp z)];rfl
   have W:∀g:Int×Int->Bool,(∀a,g a=(decide ((phW (trB p s lo).1 T a).1=e.1)&&Vz a))->bs.filter (g ∘ λb:Bl=>trB p s (b.pl,b.sp))=bs.filter (ofP c ∘ λb:Bl=>(b.pl,b.sp)):=λg hg=>by
    rw[<-ef];exact u7 λb _=>hg _
   refine Eq.trans (congrArg (List.map _) (W _ λa=>rL)) ?_
   refine wG λb F=>?_
   have I:b∈bs:=(yr.mp F).1
   have S:xQ (b.pl,b.sp)=c:=wA (yr.mp F).2
   show (((phW (trB p s lo).1 T (trB p s (b.pl,b.sp))).2:Int):Rat)/(p:Rat)=Qr lo.1 hi.1 (b.pl,b.sp)
   have e1:=h1 b I
   have e2:=h2 b I
   have pos:(trB p s (b.pl,b.sp)).2<0↔¬ 0<b.sp:=by
    have:((trB p s (b.pl,b.sp)).2<0↔(((trB p s (b.pl,b.sp)).2:Int):Rat)<((0:Int):Rat)):=yL.symm
    rw[this,e2]
    have z:((0:Int):Rat)=0:=rfl
    rw[z]
    constructor
    ·intro q r
     have:=w5 r sp;grind
    ·intro q
     have:b.sp≠0:=λz=>by unfold xQ at S;dsimp only at S;rw[z,if_neg (by decide)]at S;rw[<-S]at G;exact absurd G (by decide)
     have:=w5 (show 0 < -b.sp by grind) sp;grind
   unfold phW Qr
   nofun
   have pn:(p:Rat)≠0:=by grind
   by_cases q:(trB p s (b.pl,b.sp)).2<0
   ·rw[if_pos q,if_neg (pos.mp q),yE,yE,e1,el,eT];grind
   ·rw[if_neg q,if_pos (by
     by_cases r:0<b.sp
     ·exact r
     ·exact absurd (pos.mpr r) q),yE,e1,el];grind
 ·obtain⟨u,mu,O⟩:=hc
  obtain⟨b,F,rfl⟩:=wf.mp mu
  have mv:Vz (trB p s (b.pl,b.sp))=true:=by
   unfold Vz
   refine wm λz=>?_
   have:=h2 b F
   rw[z]at this
   have e0:b.sp=0:=by
    rcases WT.mp (show b.sp*(s:Rat)=0 from this.symm)with z | z
    ·exact z
    ·exfalso;rw[z]at sp;exact absurd sp (by decide)
   unfold xQ at O;dsimp only at O;rw[e0,if_neg (by decide)]at O;rw[<-O]at G;exact absurd G (by decide)
  have m1:phW (trB p s lo).1 T (trB p s (b.pl,b.sp))∈v4 pss:=fl.mem_iff.mpr (wf.mpr ⟨_,yr.mpr ⟨wf.mpr ⟨b,F,rfl⟩,mv⟩,rfl⟩)
  obtain⟨e,V,h⟩:=List.mem_flatMap.mp m1
  obtain⟨q,_,h'⟩:=wf.mp h
  refine⟨e,V,?_⟩
  have:e.1=zY (trB p s (b.pl,b.sp)).2:=congrArg Prod.fst h'
  rw[this,ab b F,O]
theorem zhJ (Z:RwZ bs lo hi) (ep:p=pbO bs (some lo) (some hi)) (es:s=sbO bs (some lo) (some hi)) (rg:RoG bs lo hi T s tk pss) (pj:PhJ (trB p s lo).1 T (bs.map λb=>trB p s (b.pl,b.sp)) pss) (ne:pss≠[]){I:List (Int×Int)} (kz:KgZ T pss I):qW lo.1 hi.1 (lsQ bs) (xi (ptL T tk I)):=by
 have F:=Z.f
 rw[<-ep,<-es]at F
 have et:tk=Rat.divInt s p:=by rw[es,ep];exact rg.etk
 have V:T=2*((trB p s hi).1-(trB p s lo).1):=by rw[es,ep];exact rg.eT
 have a4:pss=phO (trB p s lo).1 T (bs.map λb=>trB p s (b.pl,b.sp)):=by rw[es,ep];exact rg.eph.symm
 have Rr:=Z.rat ep es et V
 have s0:=F.s0
 have p0:=F.p0
 have T0:0<T:=by rw[V];have:=F.lh;lia
 have pp:(0:Rat)<(p:Rat):=wv.mpr p0
 have sp:(0:Rat)<(s:Rat):=wv.mpr s0
 have eT:(T:Rat)=(hi.1-lo.1+(hi.1-lo.1))*(p:Rat):=by rw[Rr.T];grind
 have G:=λ{c:Rat}(O:0<c)=>ziQ (hi:=hi) a4 p0 s0 eT (vX (F.pd _ (qK rfl))) (λb hb=>vX (F.pd _ (QZ (lo:=some lo) (hi:=some hi) hb))) Rr.v pj.nd O
 have W0:0<hi.1-lo.1+(hi.1-lo.1):=by have:=Z.lh;grind
 have pv:∀(c:Rat) (v:Int) (M:Nat),0<c->1<=M->(v:Rat)=c*(s:Rat)->0<v->vO T v (M:Int) tk=(hi.1-lo.1+(hi.1-lo.1))/(((M:Int):Rat)*c):=λc v M O M1 ev v0=>by
  have Mp:=X8 M1
  rw[zaO ∅ ∅,ev,eT,Rr.tk]
  generalize ((M:Int):Rat)=M' at *
  generalize (p:Rat)=p' at *
  generalize (s:Rat)=s' at *
  generalize hi.1-lo.1+(hi.1-lo.1)=W at *
  clear G Rr F Z V
  grind
 have S:∀v∈I,∃(c:Rat) (M:Nat),0<c/\(∃u∈lsQ bs,xQ u=c)/\(v.1:Rat)=c*(s:Rat)/\GrR (hi.1-lo.1+(hi.1-lo.1)) (QB lo.1 hi.1 c (lsQ bs)) M/\vO T v.1 v.2 tk=(hi.1-lo.1+(hi.1-lo.1))/(((M:Int):Rat)*c):=λv U=>by
  obtain⟨ps,M,a1,a2,a3⟩:=kz.gm v U
  have v0:=pj.k0 _ a1
  obtain⟨t,mt,Y⟩:=pj.of _ a1
  obtain⟨b,hb,rfl⟩:=wf.mp mt
  have hv:=Rr.v b hb
  have vp:(0:Rat)<(v.1:Rat):=wv.mpr v0
  have e1:(v.1:Rat)=xQ (b.pl,b.sp)*(s:Rat):=by
   dsimp only at Y
   unfold xQ
   nofun
   rcases Y with Y | Y
   ·rw[Y]at hv
    have:¬b.sp<0:=λq=>by have:=w5 (show 0 < -b.sp by grind) sp;grind
    rw[if_neg this];exact hv
   ·rw[Y,yT]at hv
    have:b.sp<0:=by
     by_cases q:b.sp<0
     ·exact q
     ·have:=uK (show 0<=b.sp by grind) (yj sp);grind
    rw[if_pos this];grind
  have O:0<xQ (b.pl,b.sp):=by
   have:=zeN (b.pl,b.sp)
   by_cases q:xQ (b.pl,b.sp)=0
   ·rw[q,ur]at e1;grind
   ·grind
  refine⟨_,M,O,⟨_,wf.mpr ⟨b,hb,rL⟩,rL⟩,e1,?_,?_⟩
  ·exact AlR.gr W0 (zf0 ((G O).1 _ a1 e1)) (GmZ.gr p0 eT T0 (pj.inn _ a1) a3)
  ·rw[a2];exact pv _ _ M O a3.m1 e1 v0
 have n0:∀q∈ptL T tk I,0<q.num:=λq mq=>by
  obtain⟨v,U,rfl⟩:=wf.mp mq
  obtain⟨c,M,O,_,_,g,e⟩:=S v U
  rw[e]
  exact xa (X9 W0 (w5 (X8 g.m1) O))
 have kl:I.length=pss.length:=by have:=kz.pm.length_eq;rw[wc,wc]at this;exact this
 have l1:1<=(ptL T tk I).length:=by
  unfold ptL;rw[wc,kl]
  rcases pss with _ | ⟨x,l⟩
  ·exact absurd rL ne
  ·simp
 refine⟨Jl l1 n0,λc O hc=>?_,λX hX=>?_⟩
 ·obtain⟨e,me,ee⟩:=(G O).2 hc
  have:e.1∈I.map Prod.fst:=kz.pm.mem_iff.mpr (wf.mpr ⟨e,me,rfl⟩)
  obtain⟨v,U,ev⟩:=wf.mp this
  obtain⟨c',M,a6,a5,e1,g,e2⟩:=S v U
  have:c'=c:=by
   rw[ev,ee]at e1
   have sn:(s:Rat)≠0:=by grind
   have:=congrArg (· / (s:Rat)) e1
   try dsimp only at this
   rw[uT sn,uT sn]at this
   exact this.symm
  subst this
  refine⟨M,g,?_⟩
  rw[<-e2]
  exact Jk l1 n0 (wf.mpr ⟨v,U,rL⟩)
 ·refine Jj l1 n0 λq mq=>?_
  obtain⟨v,U,rfl⟩:=wf.mp mq
  obtain⟨c,M,O,hc,_,g,e⟩:=S v U
  rw[e]
  exact hX c O hc M g
end
end KK
namespace KM
def ThL (lo hi:Rat) (ls:List (Rat×Rat)) (k:Int) (y x:Rat):Prop:=ThQ (ls.map (xD lo hi x)) k y
def RdO (lo hi:Rat) (ls:List (Rat×Rat)):Option Rat->Prop
 |none=>∀u∈ls,u.2=0
 |some R=>(∃u∈ls,u.2≠0)/\qW lo hi ls R
def qk (lo hi:Rat) (ls:List (Rat×Rat)) (k:Int) (y x:Rat):Rat ⊕ List Rat->Prop
 |.inl m=>AtQ (ThL lo hi ls k y) x m
 |.inr ms=>NvQ (ThL lo hi ls k y) x/\∃R,RdO lo hi ls R/\LkQ (PsQ lo hi ls y) x R ms
def zdE (lo hi:Rat) (ls:List (Rat×Rat)) (y x m:Rat):Prop:=∃R,RdO lo hi ls R/\(m=x\/∃r,R=some r/\x<m/\m<x+r/\PsQ lo hi ls y m)
section
variable {lo hi y x R:Rat}{ls ls':List (Rat×Rat)}{k:Int}
theorem ThQ.perm {ps F:List Rat}(h:ps.Perm F) (t:ThQ ps k y):ThQ F k y:=by
 unfold ThQ at *
 rw[<-h.countP_eq,<-h.countP_eq];exact t
theorem RdO.free (h:RdO lo hi ls none) (x:Rat):¬PsQ lo hi ls y x:=λ⟨u,mu,u0,_⟩=>u0 (h u mu)
theorem RdO.per {R:Option Rat}(lh:lo<hi) (h:RdO lo hi ls R):∀r,R=some r->0<r/\∀x,ThL lo hi ls k y (x+r)->ThL lo hi ls k y x:=λr e=>by
 subst e
 exact⟨h.2.r0,λx t=>ThQ.perm (h.2.per lh x) t⟩
theorem qW.uniq {R F:Rat}(lh:lo<hi) (h:qW lo hi ls R) (h':qW lo hi ls F):R=F:=by
 have:=qW.two (ρ:=1) lh rfl (by decide) h h' (λc _=>by rw[WC]) (λc _ _=>⟨0,by rw[WC];exact .of_eq (wG λx _=>by rw[Yu])⟩)
 rw[WC]at this;exact this
theorem RdO.uniq {R F:Option Rat}(lh:lo<hi) (h:RdO lo hi ls R) (h':RdO lo hi ls F):R=F:=by
 cases R with
 |none =>
  cases F with
  |none=>rfl
  |some r'=>obtain⟨⟨u,G,I⟩,_⟩:=h';exact absurd (h u G) I
 |some r =>
  cases F with
  |none=>obtain⟨⟨u,G,I⟩,_⟩:=h;exact absurd (h' u G) I
  |some r'=>rw[qW.uniq lh h.2 h'.2]
theorem qk.uniq {o o':Rat ⊕ List Rat}(lh:lo<hi) (h:qk lo hi ls k y x o) (h':qk lo hi ls k y x o'):o=o':=by
 cases o with
 |inl m =>
  cases o' with
  |inl m'=>rw[AtQ.uniq h h']
  |inr ms=>exact(AtQ.nn h h'.1).elim
 |inr ms =>
  cases o' with
  |inl m=>exact(AtQ.nn h' h.1).elim
  |inr ms' =>
   obtain⟨_,R,O,F⟩:=h
   obtain⟨_,S,I,G⟩:=h'
   rw[RdO.uniq lh O I]at F
   rw[LkQ.uniq F G]
open Classical in
theorem zhd {R:Option Rat}{ms:List Int}{f:Int->Rat}{p:Int->Bool}(lh:lo<hi) (U:lo<=y) (V:y<=hi) (r:RdO lo hi ls R) (L:LkQ (PsQ lo hi ls y) x R (ms.map f)) (O:∀t,p t=true↔ThL lo hi ls k y (f t)):(∀t,ms.find? p=some t->qk lo hi ls k y x (.inl (f t))/\zdE lo hi ls y x (f t))/\(ms.find? p=none->qk lo hi ls k y x (.inr (ms.map f))):=by
 have bk:∀e m,e<=m->(∀x,e<x->x<=m->¬PsQ lo hi ls y x)->ThL lo hi ls k y m->ThL lo hi ls k y e:=λe m S np t=>zhe lh U V S np t
 have F:∀z,(λz=>decide (ThL lo hi ls k y z)) z=true↔ThL lo hi ls k y z:=λz=>decide_eq_true_iff
 have G:R=none->∀z,¬PsQ lo hi ls y z:=λe z=>by subst e;exact r.free z
 have I:(ms.map f).find? (λz=>decide (ThL lo hi ls k y z))=(ms.find? p).map f:=by
  rw[List.find?_map]
  congr 1
  congr 1
  funext t
  show decide (ThL lo hi ls k y (f t))=p t
  cases h:p t with
  |true=>exact wm ((O t).mp h)
  |false=>exact wy λz=>by rw[(O t).mpr z]at h;cases h
 constructor
 ·intro t e
  refine⟨L.at bk F G (m:=f t) ?_,R,r,?_⟩
  ·rw[I,e];rfl
  ·exact(L.2 _).mp (wf.mpr ⟨t,yX e,rL⟩)
 ·intro e
  refine⟨L.nv bk F G (r.per lh) ?_,R,r,L⟩
  rw[I,e];rfl
end
end KM
namespace KK
open PySem L2 KM
section
variable {bs:List Bl}{lo hi:Rat×Rat}{u:Rat}{q:Nat}{y x:Rat}{k:Int}
variable {p s m z:Int}{trs:List (Int×Int)}{l h b:Int×Int}{tk:Rat}{T:Int}{pss:List (Int×List Int)}{lz:Option (Int×Int)}
theorem WhF.tell (Z:RwZ bs lo hi) (F:WhF bs lo hi q y x p s m z trs l h tk b T pss lz) (Y:lo.1<=y) (y1:y<=hi.1){ms:List Int}{N:Int}(O:LkO (2*(h.1-l.1)) b (zP l.1 z trs) ms N lz) :
  (∀t,ms.find? (λt=>qV (some l) (some h) trs k z t N)=some t->qk lo.1 hi.1 (lsQ bs) k y x (.inl (moQ tk t N))/\zdE lo.1 hi.1 (lsQ bs) y x (moQ tk t N))/\(ms.find? (λt=>qV (some l) (some h) trs k z t N)=none->qk lo.1 hi.1 (lsQ bs) k y x (.inr (ms.map λt=>moQ tk t N))):=by
 have w:=Z.whr F.wz
 have go:0<N/\∃R,RdO lo.1 hi.1 (lsQ bs) R/\LkQ (PsQ lo.1 hi.1 (lsQ bs) y) x R (ms.map λt=>moQ tk t N):=by
  cases lz with
  |none =>
   have e0:pss=[]:=by
    by_cases c:pss=[]
    ·exact c
    ·obtain⟨G,U⟩:=KgZ.ex F.pj
     have:=(F.lzz.2 c G U).2
     cases this
   obtain⟨rfl,rfl⟩:=O
   have b2:0<b.2:=by rw[F.wz.eb];exact den_pos _
   refine⟨b2,none,λv V=>?_,?_⟩
   ·obtain⟨c,S,rfl⟩:=wf.mp V
    have:=F.pj.mv.mp e0 _ (wf.mpr ⟨c,S,rfl⟩)
    refine(w.sp0 S).mp ?_
    show (trB p s (c.pl,c.sp)).2*m=0
    rw[this,Int.zero_mul]
   ·have e1:moQ tk b.1 b.2=x:=by
     rw[QD,F.wz.eb]
     show ((x/tk).num:Rat)/(((x/tk).den:Int):Rat)*tk=x
     rw[<-wE,wW]
     exact uS (by have:=w.tk0;grind)
    show LkQ _ x none [moQ tk b.1 b.2]
    rw[e1]
    refine⟨List.pairwise_singleton _ _,λX=>?_⟩
    rw[wU]
    exact⟨.inl,λh=>by
     rcases h with h | ⟨r,e,_⟩
     ·exact h
     ·cases e⟩
  |some l' =>
   obtain⟨G,U,el⟩:=F.ex l' rfl
   have ne:pss≠[]:=λe=>by have:=F.lzz.1 e;cases this
   have R:=zhJ Z F.wz.ep F.wz.es F.rg F.pj ne U
   obtain⟨W,L⟩:=LkO.q w Y y1 F.wz.eb (F.ka l' rfl).1 el O
   refine⟨W,some _,⟨?_,R⟩,L⟩
   by_cases c:∃u∈lsQ bs,u.2≠0
   ·exact c
   ·exfalso
    refine ne (F.pj.mv.mpr λv V=>?_)
    obtain⟨I,S,rfl⟩:=wf.mp V
    have c0:I.sp=0:=by
     by_cases d:I.sp=0
     ·exact d
     ·exact absurd ⟨_,wf.mpr ⟨I,S,rL⟩,d⟩ c
    have t0:=(w.sp0 S).mpr c0
    have m0:=w.m0
    rcases Int.mul_eq_zero.mp (show (trB p s (I.pl,I.sp)).2*m=0 from t0)with e | e
    ·exact e
    ·lia
 obtain⟨W,R,r,L⟩:=go
 exact zhd Z.lh Y y1 r L λt=>w.there W k
end
end KK
namespace KM
def zcS (v:Rat):Rat:=if v<0 then -v else v
section
variable {lo hi x:Rat}{u:Rat×Rat}
theorem XW:xQ u=zcS u.2:=rfl
theorem zas (v:Rat):zcS (-v)=zcS v:=by unfold zcS;split <;> split <;> grind
theorem ziY {a b s:Rat}(hs:0<s){k:Int}(e:a=b+(k:Rat)*s):rst a s=rst b s:=by rw[e];exact ziZ hs k
end
section
variable {lo hi x y R:Rat}{ls ls':List (Rat×Rat)}{k:Int}
def zeM (x:Rat):Rat ⊕ List Rat->Rat ⊕ List Rat
 |.inl m=>.inl (m+x)
 |.inr ms=>.inr (ms.map (· + x))
end
end KM
namespace KK
open PySem L2 KM
end KK
namespace KM
end KM
namespace KK
open PySem L2 KM
variable {P:Program}{w:World}{K:Fg}{mg:Str->Option Value}{base:Heap}{aN:Addr}
def Qs (u y:Rat):Prop:=∃a D:Int,1<=D/\D<=20/\y=u*((a:Rat)/(D:Rat))
section
variable {g j d c w jp dp:Int}
theorem EvG.lat (h:EvG g j d c w jp dp):∃i1 i2:Int,zA g j d=Rat.divInt g 6*(i1:Rat)/\zN g c*(w:Rat)=Rat.divInt g 6*(i2:Rat)/\1<=i2/\i2<=60 ∧ -36<=i1/\i1<=36:=by
 have hd:=h.d
 have hc:=h.c
 have hw:=h.w
 have hj:=h.j
 obtain⟨f,f1,f2⟩:∃f:Int,d*f=6/\(f=6\/f=3):=by
  rcases hd with rfl | rfl
  ·exact⟨6,by decide,.inl rfl⟩
  ·exact⟨3,by decide,.inr rfl⟩
 obtain⟨e,e1,e2⟩:∃f:Int,c*f=6/\(f=6\/f=3\/f=2):=by
  rcases hc with rfl | rfl | rfl
  ·exact⟨6,by decide,.inl rfl⟩
  ·exact⟨3,by decide,.inr (.inl rfl)⟩
  ·exact⟨2,by decide,.inr (.inr rfl)⟩
 refine⟨j*f,e*w,?_,?_,?_⟩
 ·rw[JP h.pos.2.1 f1,Yt]
 ·have:zN g c=zA g 1 c:=by unfold zN zA;rw[uU]
  rw[this,JP h.pos.2.2.1 e1,uU,wj]
  grind
 ·rcases f2 with rfl | rfl <;> rcases e2 with rfl | rfl | rfl <;> lia
theorem JW {u y:Rat}{i:Int}(h:y=u*(i:Rat)):Qs u y:=⟨i,1,by decide,by decide,by rw[h];have:((1:Int):Rat)=1:=rfl;rw[this];grind⟩
theorem EvG.far_lat (h:EvG g j d c w jp dp){e n:Int}(n1:1<=n) (n5:n<=5):Qs (Rat.divInt g 6) (zA g j d+qj (zN g c*(w:Rat)) e n):=by
 obtain⟨i1,i2,e1,e2,_⟩:=h.lat
 refine⟨i1*(4*n)+i2*e,4*n,by lia,by lia,?_⟩
 unfold qj
 rw[e1,e2]
 clear e1 e2
 generalize Rat.divInt g 6=u
 have:=zO (show 4*n≠0 by lia)
 generalize 4*n=N at *
 rw[xF,yk,wj,wj]
 grind
theorem GrB.lat (h:EvG g j d c w jp dp){wt:Int}{b:Bl}(hb:GrB g j d c w jp dp wt b):Qs (Rat.divInt g 6) b.pl:=by
 obtain⟨_,t,t0,tw,e1,_⟩:=hb
 obtain⟨i1,i2,k1,k2,_⟩:=h.lat
 have hc:=h.c
 obtain⟨e,e1',e2⟩:∃f:Int,c*f=6/\(f=6\/f=3\/f=2):=by
  rcases hc with rfl | rfl | rfl
  ·exact⟨6,by decide,.inl rfl⟩
  ·exact⟨3,by decide,.inr (.inl rfl)⟩
  ·exact⟨2,by decide,.inr (.inr rfl)⟩
 refine JW (i:=i1+e*t) ?_
 have:zN g c=zA g 1 c:=by unfold zN zA;rw[uU]
 rw[e1,k1,this,JP h.pos.2.2.1 e1',uU,yk,wj]
 grind
theorem SpB.lat (h:EvG g j d c w jp dp){n:Nat}(n1:1<=n) (n5:n<=5){b:Bl}(hb:SpB (zA g j d) (zN g c*(w:Rat)) (zA g jp dp) n b):Qs (Rat.divInt g 6) b.pl:=by
 obtain⟨_,e,e0,e8,hh⟩:=hb
 rcases hh with⟨k1,k2,k3⟩ | ⟨k1,k2,k3⟩
 ·rw[k2];exact h.far_lat ∅ ∅
 ·rw[k2,zaA ∅];exact h.far_lat ∅ ∅
theorem EvB.lat (h:EvG g j d c w jp dp){n:Nat}(n1:1<=n) (n5:n<=5){bs:List Bl}(hb:EvB g j d c w jp dp n bs):∀b∈bs,Qs (Rat.divInt g 6) b.pl:=λb m=>by
 rcases hb with hb | ⟨wt,hb⟩
 ·exact SpB.lat h n1 n5 (hb b m)
 ·exact GrB.lat h (hb b m)
end
theorem zez {d:Int}{u v x:V}(F:0<=d) (h1:d<3):∃y,atI [u,v,x] d=some y/\(y=u\/y=v\/y=x):=by
 have:d=0\/d=1\/d=2:=by lia
 rcases this with rfl | rfl | rfl
 ·exact⟨_,rL,.inl rL⟩
 ·exact⟨_,rL,.inr (.inl rL)⟩
 ·exact⟨_,rL,.inr (.inr rL)⟩
structure EvA (H:Hp) (r a:Addr) (us:List V) (bs:List Bl) (g j d c w jp dp:Int):Prop where
 r:H r=some (.tup us)
 R:qi H us bs
 l1:1<=bs.length
 l5:bs.length<=5
 G:EvG g j d c w jp dp
 F:∀b∈bs,BlF (zA g j d) (zA g j d+zN g c*(w:Rat)) (Rat.divInt g 6) b
 wt:∃wt,∀b∈bs,b.wt=wt
 W:∃v1 v2,H a=some (.tup [v1,v2])/\xu H v1 (some (zA g j d,0))/\xu H v2 (some (zA g j d+zN g c*(w:Rat),0))
theorem EvA.tups {H H':Hp}{r a:Addr}{us:List V}{bs:List Bl}{g j d c w jp dp:Int}(h:EvA H r a us bs g j d c w jp dp) (t:xx H H'):EvA H' r a us bs g j d c w jp dp:=by
 obtain⟨h1,h2,I,G,F,O,hw,U,v2,S,W,Y⟩:=h
 exact⟨t _ _ h1,h2.keeps t,I,G,F,O,hw,U,v2,t _ _ S,W.tupsW t,Y.tupsW t⟩
def PlZ (lo hi y:Rat):Prop:=lo<=y/\y<=hi/\Bd 100 y.num/\Bd 12 (y.den:Int)
def TmZ (x:Rat):Prop:=Bd 101 x.num/\Bd 4 (x.den:Int)
inductive zjt  (vs:List V) (H:Hp) (Q:VK) (_e3:XK):Prop
 |mk:∀p r a us bs g j d c w' jp dp,(vs=[.ref p,.ref r,.ref a])->(vV H p)->(EvA H r a us bs g j d c w' jp dp)->((∀b∈bs,Qs (Rat.divInt g 6) b.pl))->(∀z q u,∀k:Int,∀y x H',xt p H H'->H' z=some (.tup [.int k,.ref q,.ref u])->0<=k->k<bs.length->zr H' q y->zr H' u x->Qs (Rat.divInt g 6) y->PlZ (zA g j d) (zA g j d+zN g c*(w':Rat)) y->TmZ x->Q (.ref z) H')->zjt vs H Q _e3
theorem XS:zB ["pool","row","walls","wide","grid","ball","place","far","t"] ["pool","row","walls"] (zj XN):=scq
theorem ziE (D:Df K mg "_law_wish" XN ["pool","row","walls"] []) (T:TxB K mg) (cN:Cal P w K mg base "_law_next" 1 ["pool","base"] [] XT) (cF:Cal P w K mg base "_law_far" 2 ["pool"] [] za1) (b8:Cal P w K mg base "_law_lowest" 1 ["top","bottom"] [] vt) (cS:Cal P w K mg base "_law_sum" 2 ["one","other"] [] (qt Sz2 (· + ·))) (cP:Cal P w K mg base "_law_product" 2 ["one","other"] [] (qt Sz2 (· * ·))) (f5:Cal P w K mg base "_law_minus" 3 ["one","other"] [] (qt Sz2 (· - ·))) :
  Cal P w K mg base "_law_wish" 4 ["pool","row","walls"] [] zjt:=by
 refine D.calq (k:=3) XS (λf cdv A outer s H vs Q E c3 h=>?_)
 rcases q:h with⟨p,r,a,us,bs,g,j,d,c,U,jp,dp,rfl,hP,EA,LB,k⟩
 have O:xb 1 _:=c3.md
 have a9:xb 2 _:=c3.md
 refine⟨_,(ze (psl (i:=3) XS.nd (zC f5 c3 (za (pxt (pxt (pv 2))) (za (pxt (pxt (pv 2))) zd))))
  (ze (psl (i:=4) XS.nd (zC cS a9 (za (pxt (pxt (pv 2))) (za (zC cP a9 (za (pv 3) (za (zC b8 O (za (zC cN O (za (pv 0) (za zi zd))) (za zi zd))) zd))) zd))))
  (ze (psl (i:=5) XS.nd (qp JV (pv 1) (zC cN O (za (pv 0) (za (zQ xj (by rfl) T.nLen PySem.boot_len (za (pv 1) zd)) zd))) (λ_ _=>rfl)))
  (ze (psl (i:=6) XS.nd (qp qy (xR (za (pv 4) (za (pxt (pv 5)) (za (pxt (qp JV (pv 2) (zC cN O (za (pv 0) (za zi zd))) (λ_ _=>rfl))) zd)))) (zC cN O (za (pv 0) (za zi zd))) (λ_ _=>rfl)))
  (ze (psl (i:=7) XS.nd (zC b8 O (za (zu xp (zu zK (zC cF a9 (za (pv 0) zd)) (zu VB zi zi)) (zC cF a9 (za (pv 0) zd))) (za (zu xp zi (zC cN O (za (pv 0) (za zi zd)))) zd))))
  (ze (psl (i:=8) XS.nd (qp qy (xR (za (zS (za zi (za zi zd))) (za (zC b8 O (za (zC cN O (za (pv 0) (za zi zd))) (za (zu xp zi (zC cN O (za (pv 0) (za zi zd)))) zd))) (za (pv 7) zd)))) (zC cN O (za (pv 0) (za zi zd))) (λ_ _=>rfl)))
  (zo (zE (zS (za (zC cN O (za (pv 0) (za (zQ xj (by rfl) T.nLen PySem.boot_len (za (pv 1) zd)) zd))) (za (pv 6) (za (pv 8) zd)))))))))))),?_⟩
 try dsimp only[xc,Cx.nox]
 have hp:=EA.G.pos
 have hj:=EA.G.j
 have hd:=EA.G.d
 have hc:=EA.G.c
 have hw:=EA.G.w
 have bg:=gBd EA.G.g1 EA.G.g2
 have W0:=EA.G.W0
 rcases q:id EA.W with⟨v1,v2,ha,⟨a1,p1,q1,rfl,h1,h2,h3⟩,⟨a2,p2,q2,rfl,g1,g2,g3⟩⟩
 have b9:Sz 100 (zA g j d):=.divInt ∅ (((show Bd 4 j from(show j.natAbs<2^4 by lia)).mul bg).md) (Bd.mono (m:=4) (show d.natAbs<2^4 by lia) (by decide))
 have zW:Sz 100 (zN g c*(U:Rat)):=by
  refine((Sz.divInt (n:=80) ∅ (bg.md) (Bd.mono (m:=4) (show c.natAbs<2^4 by lia) (by decide)):Sz 80 (zN g c)).mul (n:=10) ⟨show ((U:Rat)).num.natAbs<2^10 by rw[Wp];lia,show (((U:Rat).den:Int)).natAbs<2^10 by rw[WS];decide⟩).md
 refine zG (λσ' G=>∃wd,σ'=[Sr p,Sr r,Sr a,Sr wd,none,none,none,none,none]/\zk H G/\zr G wd (zN g c*(U:Rat))) ?_ ?_
 rotate_left
 ·intro nx I
  refine⟨_,rL,a,_,_,_,rL,rL,.of ha,at1 ..,a2,_,_,_,rL,rL,.of g1,at0 ..,_,rL,a,_,_,_,rL,rL,.of ha,at0 ..,a1,_,_,_,rL,rL,.of h1,at0 ..,?_⟩
  refine⟨p2,p1,_,_,rL,g2,h2,⟨(b9.add zW).md,b9.md⟩,λwd G S c0=>?_⟩
  refine I _ _ ⟨wd,rL,S,?_⟩
  have:zN g c*(U:Rat)=zA g j d+zN g c*(U:Rat)-zA g j d:=by grind
  rw[this];exact c0
 rintro σ1 G1 ⟨wd,rfl,S1,c0⟩
 refine zG (λσ' G=>∃gd y,σ'=[Sr p,Sr r,Sr a,Sr wd,Sr gd,none,none,none,none]/\xt p H G/\zr G gd y/\Qs (Rat.divInt g 6) y/\PlZ (zA g j d) (zA g j d+zN g c*(U:Rat)) y) ?_ ?_
 rotate_left
 ·intro nx I
  refine⟨_,rL,a,_,_,_,rL,rL,.of (S1 _ _ ha),at0 ..,a1,_,_,_,rL,rL,.of (S1 _ _ h1),at0 ..,?_⟩
  have P1:vV G1 p:=by obtain⟨x,y,z,e⟩:=hP;exact⟨x,y,z,S1 _ _ e⟩
  refine⟨_,rfl,_,rfl,p,_,rfl,by decide,by decide,P1,λe G2 b0 b1 t2=>?_⟩
  refine⟨_,_,rfl,by decide,Bd.mono (m:=5) (show (12:Int).natAbs<2^5 by decide) (by decide),λq3 G3 S3 e5=>?_⟩
  have d2:zr G3 wd _:=(t2.rat P1 c0).same S3
  refine⟨wd,q3,_,_,rfl,d2,e5,⟨zW.md,(Sz.divInt (n:=10) (by decide) (show e.natAbs<2^10 by lia) (show (12:Int).natAbs<2^10 by decide)).md⟩,λq4 G4 S4 h4=>?_⟩
  have f9:zr G4 p1 (zA g j d):=((t2.rat P1 (zr.same h2 S1)).same S3).same S4
  have zf:Sz 108 (qj (zN g c*(U:Rat)) e 3):=JQ zW b0 ∅ (by decide) (by decide)
  refine⟨p1,q4,_,_,rL,f9,h4,⟨b9.md,zf.md⟩,λq5 G5 S5 h5=>?_⟩
  have nn:=zd1 (n:=3) W0 (by decide) b0
  have le:=zd0 (n:=3) (e:=e) W0 (by decide) ∅
  refine I _ _ ⟨q5,zA g j d+qj (zN g c*(U:Rat)) e 3,rfl,(t2.pre S1).same (S3.trans (S4.trans S5)),h5,EA.G.far_lat (by decide) (by decide),by grind,by grind,?_⟩
  rw[zdZ hp.2.1 hp.2.2.1 (by decide)]
  have bw:Bd 8 (U*e):=(show Bd 4 U from(show U.natAbs<2^4 by lia)).mul (show Bd 4 e from(show e.natAbs<2^4 by lia))
  refine vo (wQ hp.2.1 (wQ hp.2.2.1 (by decide))) ((bg.mul (show Bd 13 (j*(c*(4*3))+U*e*d)from ?_)).md) ?_ (by decide)
  ·have g9:(U*e).natAbs<2^8:=bw
   show (j*(c*(4*3))+U*e*d).natAbs<2^13
   generalize U*e=x at *
   rcases hc with rfl | rfl | rfl <;> rcases hd with rfl | rfl <;> lia
  ·show (d*(c*(4*3))).natAbs<2^12
   rcases hc with rfl | rfl | rfl <;> rcases hd with rfl | rfl <;> decide
 rintro σ2 G2 Y;rcases q:Y with⟨gd,y1,rfl,T2,e8,e0,g4⟩
 have f7:xx H G2:=λa xs h=>T2.tup hP h
 have b6:=EA.tups f7
 have h0:=EA.R.1
 have l1:=EA.l1
 have l5:=EA.l5
 refine zG (λσ' G=>∃ba b pa pb,σ'=[Sr p,Sr r,Sr a,Sr wd,Sr gd,Sr ba,none,none,none]/\xt p G2 G/\b∈bs/\G ba=some (.tup [.ref pa,.ref pb,.int b.wt])/\zr G pa b.pl) ?_ ?_
 rotate_left
 ·intro nx I
  refine⟨_,rfl,_,rfl,_,rfl,r,us,rfl,.inr (SqT.of b6.r),p,_,rfl,by lia,by lia,T2.pool,λe G3 a3 b3 t3=>?_⟩
  have hl:e.toNat<us.length:=by lia
  obtain⟨v,hv⟩:∃v,us[e.toNat]?=some v:=⟨_,wJ hl⟩
  have e2:=JD hv
  rw[show ((e.toNat:Nat):Int)=e by lia]at e2
  rcases q:b6.R.2 _ v hv with⟨b,eb,ba,pa,pb,rfl,k1,k2,k3⟩
  refine⟨r,_,_,_,rL,rL,.of (t3.tup T2.pool b6.r),e2,?_⟩
  exact I _ _ ⟨ba,b,pa,pb,rL,t3,wL eb,t3.tup T2.pool k1,t3.rat T2.pool k2⟩
 rintro σ3 G3 Y;rcases q:Y with⟨ba,b,pa,pb,rfl,T3,mb,g6,e6⟩
 have fb:=EA.F b mb
 have c2:=T2.trans T3
 have h6:=EA.tups (λa xs h=>c2.tup hP h:xx H G3)
 have d3:=T3.rat T2.pool e8
 refine zG (λσ' G=>∃q y,σ'=[Sr p,Sr r,Sr a,Sr wd,Sr gd,Sr ba,Sr q,none,none]/\xt p G3 G/\zr G q y/\Qs (Rat.divInt g 6) y/\PlZ (zA g j d) (zA g j d+zN g c*(U:Rat)) y) ?_ ?_
 rotate_left
 ·intro nx I
  have f0:PlZ (zA g j d) (zA g j d+zN g c*(U:Rat)) (zA g j d):=by
   have n:=vo (n:=100) (m:=12) hp.2.1 (((show Bd 4 j from(show j.natAbs<2^4 by lia)).mul bg).md) (show d.natAbs<2^12 by lia) (by decide)
   exact⟨by grind,by grind,n.1,n.2⟩
  have e4:PlZ (zA g j d) (zA g j d+zN g c*(U:Rat)) (zA g j d+zN g c*(U:Rat)):=by
   refine⟨by grind,by grind,?_⟩
   rw[zfB hp.2.1 hp.2.2.1]
   refine vo (wQ hp.2.1 hp.2.2.1) ((bg.mul (show Bd 10 (j*c+U*d)from ?_)).md) ?_ (by decide)
   ·show (j*c+U*d).natAbs<2^10
    rcases hc with rfl | rfl | rfl <;> rcases hd with rfl | rfl <;> lia
   ·show (d*c).natAbs<2^12
    rcases hc with rfl | rfl | rfl <;> rcases hd with rfl | rfl <;> decide
  have f6:xx H G3:=λa xs h=>c2.tup hP h
  refine⟨_,rL,_,rL,ba,_,_,_,rL,rL,.of g6,rL,?_⟩
  refine⟨_,rfl,_,rfl,p,_,rfl,by decide,by decide,T3.pool,λe1 K1 c7 d1 t1=>?_⟩
  have a8:xx H K1:=λa xs h=>t1.tup T3.pool (f6 _ _ h)
  rcases q:EA.G.lat with⟨i1,i2,d0,d5,_⟩
  obtain⟨aw,pw,qw,yw,ew,g0,g7,lw,d8⟩:∃aw pw qw yw,atI [V.ref a1,V.ref a2] e1=some (.ref aw)/\K1 aw=some (.tup [.ref pw,.ref qw])/\zr K1 pw yw/\Qs (Rat.divInt g 6) yw/\PlZ (zA g j d) (zA g j d+zN g c*(U:Rat)) yw:=by
   have:e1=0\/e1=1:=by lia
   rcases this with rfl | rfl
   ·exact⟨a1,p1,q1,_,rL,a8 _ _ h1,a8 _ _ h2,JW d0,f0⟩
   ·exact⟨a2,p2,q2,_,rfl,a8 _ _ g1,a8 _ _ g2,JW (i:=i1+i2) (by rw[d0,d5,yk];grind),e4⟩
  refine⟨a,_,_,_,rL,rL,.of (a8 _ _ ha),ew,aw,_,_,_,rL,rL,.of g0,at0 ..,zL3,λl9 a4=>?_⟩
  refine⟨_,rfl,p,_,rfl,by decide,by decide,t1.pool.new a4,λe2 K2 c1 c4 t2=>?_⟩
  have hl:=t2.keep l9 _ zg (t1.pool.ne a4)
  have V4:=zk.upd (o:=.lst [.ref gd,.ref pa,.ref pw]) a4
  have tt:=t2.pre V4
  obtain⟨yy,ey,hy⟩:=zez (u:=V.ref gd) (v:=.ref pa) (x:=.ref pw) c1 c4
  refine⟨l9,_,_,_,rL,rL,.of hl,ey,?_⟩
  have st:xt p G3 K2:=t1.trans tt
  rcases hy with rfl | rfl | rfl
  ·exact I _ _ ⟨gd,y1,rL,st,st.rat T3.pool d3,e0,g4⟩
  ·exact I _ _ ⟨pa,b.pl,rL,st,st.rat T3.pool e6,LB b mb,fb.i.1,fb.i.2,fb.p.1,fb.p.2⟩
  ·exact I _ _ ⟨pw,yw,rL,st,tt.rat t1.pool g7,lw,d8⟩
 rintro σ4 G4 Y;rcases q:Y with⟨q,y,rfl,T4,hq,f8,d9⟩
 have e7:=c2.trans T4
 refine zG (λσ' G=>∃fr x,σ'=[Sr p,Sr r,Sr a,Sr wd,Sr gd,Sr ba,Sr q,Sr fr,none]/\xt p G4 G/\zr G fr x/\TmZ x) ?_ ?_
 rotate_left
 ·intro nx I
  refine⟨_,rL,p,rL,T4.pool,λf1 K1 c7 d1 t1=>?_⟩
  refine⟨_,_,rfl,rfl,⟨by decide,by decide,by decide⟩,_,_,rfl,rfl,⟨Bd.mono (m:=80) (show f1.natAbs<2^80 by lia) (by decide),Bd.mono (m:=40) (show ((10:Int)^9).natAbs<2^40 by decide) (by decide)⟩,?_⟩
  refine⟨_,rL,p,rL,t1.pool,λf2 K2 c1 c4 t2=>?_⟩
  refine⟨_,_,rL,rL,?_⟩
  have b2:=t1.trans t2
  refine⟨_,rfl,p,_,rfl,by decide,by decide,b2.pool,λe K3 c9 c8 t3=>⟨_,_,rfl,rfl,_,_,rfl,by lia,Bd.mono (m:=10) (show (1+e).natAbs<2^10 by lia) (by decide),λfr K4 S4 b4=>?_⟩⟩
  refine I _ _ ⟨fr,_,rL,(b2.trans t3).same S4,b4,?_⟩
  have p9:(10:Int)^9=1000000000:=by decide
  refine vo ∅ ?_ (show (1+e).natAbs<2^4 by lia) (by decide)
  have:(2535301200456458802993406410752:Nat)=2^101:=by decide
  show (f1*(10:Int)^9+f2).natAbs<2^101
  rw[p9]
  lia
 rintro σ5 G5 Y;rcases q:Y with⟨fr,x5,rfl,T5,b4,d4⟩
 refine zG (λσ' G=>∃u x,σ'=[Sr p,Sr r,Sr a,Sr wd,Sr gd,Sr ba,Sr q,Sr fr,Sr u]/\xt p G5 G/\zr G u x/\TmZ x) ?_ ?_
 rotate_left
 ·intro nx I
  refine⟨zL2,λz9 c5=>?_⟩
  have V1:=zk.upd (o:=.tup [.int 0,.int 1]) c5
  have q0:zr (upd G5 z9 (.tup [.int 0,.int 1])) z9 0:=zg
  have P1:vV (upd G5 z9 (.tup [.int 0,.int 1])) p:=T5.pool.new c5
  generalize upd G5 z9 (.tup [.int 0,.int 1])=K0 at V1 q0 P1
  refine⟨_,rfl,p,_,rfl,by decide,by decide,P1,λe1 K1 c7 d1 t1=>?_⟩
  refine⟨_,rfl,p,_,rfl,by decide,by decide,t1.pool,λe2 K2 c1 c4 t2=>⟨_,_,rfl,rfl,_,_,rfl,by lia,Bd.mono (m:=10) (show (1+e2).natAbs<2^10 by lia) (by decide),λsm K3 S3 g5=>?_⟩⟩
  have b2:=t1.trans t2
  refine⟨_,rL,zL3,λl9 a4=>?_⟩
  have V4:=zk.upd (o:=.lst [.ref z9,.ref sm,.ref fr]) a4
  have a5:=b2.same S3
  refine⟨_,rfl,p,_,rfl,by decide,by decide,a5.pool.new a4,λe3 K4 c9 c8 t4=>?_⟩
  have hl:=t4.keep l9 _ zg (a5.pool.ne a4)
  have tt:=t4.pre V4
  obtain⟨yy,ey,hy⟩:=zez (u:=V.ref z9) (v:=.ref sm) (x:=.ref fr) c9 c8
  refine⟨l9,_,_,_,rL,rL,.of hl,ey,?_⟩
  have st:xt p G5 K4:=(a5.trans tt).pre V1
  rcases hy with rfl | rfl | rfl
  ·exact I _ _ ⟨z9,0,rfl,st,tt.rat a5.pool (a5.rat P1 q0),show (0:Int).natAbs<2^101 by decide,show (1:Int).natAbs<2^4 by decide⟩
  ·exact I _ _ ⟨sm,_,rfl,st,tt.rat a5.pool g5,vo ∅ (show e1.natAbs<2^101 by lia) (show (1+e2).natAbs<2^4 by lia) (by decide)⟩
  ·exact I _ _ ⟨fr,x5,rL,st,st.rat T5.pool b4,d4⟩
 rintro σ6 G6 Y;rcases q:Y with⟨u,x,rfl,T6,d7,g8⟩
 have c6:=T5.trans T6
 have a6:=e7.trans c6
 have d6:=c6.rat T4.pool hq
 have e9:=EA.tups (λa xs h=>a6.tup hP h:xx H G6)
 refine⟨_,rfl,_,rfl,r,us,rfl,.inr (SqT.of e9.r),p,_,rfl,by lia,by lia,a6.pool,λe G7 a7 b7 t7=>?_⟩
 refine⟨_,rL,_,rL,zL3,λz hz=>?_⟩
 have b5:=zk.upd (o:=.tup [.int e,.ref q,.ref u]) hz
 exact k z q u e y x _ ((a6.trans t7).same b5) zg a7 ∅ ((t7.rat a6.pool d6).same b5) ((t7.rat a6.pool d7).same b5) f8 d9 g8
def vA (H:Hp) (v:V):Rat ⊕ List Rat->Prop
 |.inl m=>∃r q,v=.ref r/\H r=some (.tup [.str "at",.ref q])/\zr H q m
 |.inr ms=>∃r L us,v=.ref r/\H r=some (.tup [.str "never",.ref L])/\H L=some (.lst us)/\ZK H us ms/\us.length<=1000
def zgG:Rat ⊕ List Rat->PyData
 |.inl m=>atD m
 |.inr ms=>zik ms
theorem vA.rd {H:Hp}{v:V}{o:Rat ⊕ List Rat}(h:vA H v o):RdD H v (zgG o):=by
 cases o with
 |inl m =>
  obtain⟨r,q,rfl,h1,h2⟩:=h
  exact .tup h1 (.cons (.str _) (.cons (zr.rdD h2) .nil))
 |inr ms =>
  obtain⟨r,L,us,rfl,h1,h2,h3,_⟩:=h
  exact .tup h1 (.cons (.str _) (.cons (.lst h2 (vq h3)) .nil))
theorem ziN (o:Rat ⊕ List Rat):SeqAt.shaped (zgG o)=true:=by
 cases o with
 |inl m=>exact zdL m
 |inr ms=>exact zeD ms
theorem vA.same {H H':Hp}{v:V}{o:Rat ⊕ List Rat}(h:vA H v o) (e:zk H H'):vA H' v o:=by
 cases o with
 |inl m =>
  obtain⟨r,q,rfl,h1,h2⟩:=h
  exact⟨r,q,rL,e _ _ h1,h2.same e⟩
 |inr ms =>
  obtain⟨r,L,us,rfl,h1,h2,h3,h4⟩:=h
  exact⟨r,L,us,rL,e _ _ h1,e _ _ h2,h3.same e,h4⟩
def TmW (x:Rat):Prop:=Bd 150 x.num/\Bd 44 (x.den:Int)
def zb0 (lo hi:Rat) (ls:List (Rat×Rat)) (y x:Rat):Rat ⊕ List Rat->Prop
 |.inl m=>zdE lo hi ls y x m
 |.inr _=>True
def zar:Rat ⊕ List Rat->Prop
 |.inl m=>Sz 3000 m
 |.inr ms=>∀m∈ms,Sz 3000 m
section
variable {H:Hp}{r a q u:Addr}{us:List V}{bs:List Bl}{g j d c w jp dp:Int}{k:Int}{y x:Rat}
theorem EvA.fit (h:EvA H r a us bs g j d c w jp dp):RwZ bs (zA g j d,0) (zA g j d+zN g c*(w:Rat),0)/\RwU bs (zA g j d,0) (zA g j d+zN g c*(w:Rat),0) (Rat.divInt g 6) 36 ∧
  ∃b0,bs[0]?=some b0/\plB (tb b0) (bs.map tb) (some (zA g j d,0)) (some (zA g j d+zN g c*(w:Rat),0))=true:=by
 obtain⟨wt,hwt⟩:=h.wt
 exact zd3 h.G h.l1 h.l5 h.F hwt
theorem EvA.lh (h:EvA H r a us bs g j d c w jp dp):zA g j d<zA g j d+zN g c*(w:Rat):=by have:=h.G.W0;grind
end
end KK
namespace KM
end KM
namespace KK
open PySem L2 KM
end KK
namespace L2
open PySem PySem.Spec PyProof.Rows
def Vm.quiet {P:Program}{w:World}{K:Fg}{mg:Str->Option Value}{base:Heap}{x:Str}{k:Nat}{ps:List Str}{dvs:List V}{sp sp':Sp}(c:Vm P w K mg base x k ps dvs sp) (h:∀vs H Q E,sp' vs H Q E->sp vs H Q λ_ _ _=>False):Cal P w K mg base x k ps dvs sp':=by
 obtain⟨f,fd,ds,F,r⟩:=c.ex
 refine⟨⟨f,fd,ds,⟨λvs H Q E q=>F.len vs H Q _ (h vs H Q E q),λA outer s H args us vs Q E hr e0 hb hv q=>?_⟩,r⟩⟩
 refine codeAny_mono (F.run A outer s H args us vs Q _ hr e0 hb hv (h vs H Q E q)) λrr s' hq=>?_
 cases rr with
 |ok fl=>cases fl <;> exact hq
 |error e=>obtain⟨_,_,_,_,_,_,_,_,z⟩:=hq;exact z.elim
end L2
namespace KK
open PySem L2 KM
def zcH {d:PyData}(s:SeqAt.shaped d=true):PyData.eqv d d=true:=SeqAt.eqv_refl _ (by have:(_&&decide (_<=64))=true:=s;exact(Bool.and_eq_true_iff.mp this).1)
def Qg {H:Hp}{x y:V}{d:PyData}{Q:VK}(h1:RdD H x d) (h2:RdD H y d) (s:SeqAt.shaped d=true) (q:Q (.bl false) H):zks x y H Q :=
 ⟨_,_,h1,h2,s,s,by rw[zcH s];exact q⟩
def vZ {H:Hp}{x y:V}{d:PyData}{Q:VK}(h1:RdD H x d) (h2:RdD H y d) (s:SeqAt.shaped d=true) (q:Q (.bl true) H):ziT x y H Q :=
 ⟨_,_,h1,h2,s,s,by rw[zcH s];exact q⟩
def JO {H:Hp}{x y:V}{d e:PyData}{Q:VK}(h1:RdD H x d) (h2:RdD H y e) (s:SeqAt.shaped d=true) (s':SeqAt.shaped e=true) (n:PyData.eqv d e=false) (q:Q (.bl false) H):ziT x y H Q :=
 ⟨_,_,h1,h2,s,s',by rw[n];exact q⟩
end KK
namespace KM
def mrQ (lo hi:Rat) (u:Rat×Rat):Rat×Rat:=(lo+hi-u.1,-u.2)
section
variable {lo hi x y R:Rat}{ls ls':List (Rat×Rat)}{k:Int}
theorem zge (h:lo<hi) (z:Rat):xN lo hi (lo+hi-z)=lo+hi-xN lo hi z:=by
 obtain⟨y0,y1⟩:=zcc (z:=z) h
 obtain⟨n,e | e⟩:=(Zh (z:=z) h y0 y1).mp rfl
 ·refine(Zh h (by grind) (by grind)).mpr ⟨-n,.inl ?_⟩
  rw[yT];grind
 ·refine(Zh h (by grind) (by grind)).mpr ⟨1-n,.inr ?_⟩
  have one:((1:Int):Rat)=1:=rfl
  rw[yE,one];grind
theorem zbD (h:lo<hi) (m:Rat) (u:Rat×Rat):xD lo hi m (mrQ lo hi u)=lo+hi-xD lo hi m u:=by
 unfold xD mrQ
 rw[<-zge h]
 congr 1
 nofun
 grind
theorem zeC (c y:Rat):∀ps:List Rat,(ps.map λz=>c-z).countP (LtR (c-y))+ps.countP (LeR y)=ps.length/\(ps.map λz=>c-z).countP (LeR (c-y))+ps.countP (LtR y)=ps.length
 |[]=>⟨rfl,rfl⟩
 |z::ps=>by
  obtain⟨i1,i2⟩:=zeC c y ps
  rw[yg,yY,yY,yY,yY,wx]
  have a1:LtR (c-y) (c-z)=true↔¬LeR y z=true:=by unfold LtR LeR;rw[yo,yo];constructor <;> intro q <;> grind
  have a2:LeR (c-y) (c-z)=true↔¬LtR y z=true:=by unfold LtR LeR;rw[yo,yo];constructor <;> intro q <;> grind
  constructor
  ·by_cases q:LeR y z=true
   ·rw[if_neg (λt=>a1.mp t q),if_pos q];lia
   ·rw[if_pos (a1.mpr q),if_neg q];lia
  ·by_cases q:LtR y z=true
   ·rw[if_neg (λt=>a2.mp t q),if_pos q];lia
   ·rw[if_pos (a2.mpr q),if_neg q];lia
theorem zfO (h:lo<hi) (hp:ls'.Perm (ls.map (mrQ lo hi))) (m:Rat):ThL lo hi ls' ((ls.length:Int)-1-k) (lo+hi-y) m↔ThL lo hi ls k y m:=by
 have e:(ls'.map (xD lo hi m)).Perm ((ls.map (xD lo hi m)).map λz=>lo+hi-z):=by
  have:=hp.map (xD lo hi m)
  rw[wD]at this
  rw[wD]
  exact this.trans (.of_eq (wG λu _=>zbD h m u))
 obtain⟨c1,c2⟩:=zeC (lo+hi) y (ls.map (xD lo hi m))
 rw[wc]at c1 c2
 unfold ThL ThQ
 rw[e.countP_eq,e.countP_eq]
 omega
theorem zjZ (hp:ls'.Perm (ls.map (mrQ lo hi))) (c:Rat):(∃u∈ls',xQ u=c)↔∃u∈ls,xQ u=c:=by
 have pm:∀v:Rat×Rat,xQ (mrQ lo hi v)=xQ v:=λv=>zas v.2
 constructor
 ·rintro ⟨u,mu,e⟩
  obtain⟨v,mv,rfl⟩:=wf.mp (hp.mem_iff.mp mu)
  exact⟨v,mv,by rw[<-e,pm]⟩
 ·rintro ⟨v,mv,e⟩
  exact⟨_,hp.mem_iff.mpr (wf.mpr ⟨v,mv,rfl⟩),by rw[pm,e]⟩
theorem zcu (h:lo<hi) (hp:ls'.Perm (ls.map (mrQ lo hi))) (m:Rat):PsQ lo hi ls' (lo+hi-y) m↔PsQ lo hi ls y m:=by
 constructor
 ·rintro ⟨u,mu,u0,e⟩
  obtain⟨v,mv,rfl⟩:=wf.mp (hp.mem_iff.mp mu)
  rw[zbD h]at e
  exact⟨v,mv,λz=>u0 (by show -v.2=0;rw[z];rfl),by grind⟩
 ·rintro ⟨v,mv,v0,e⟩
  exact⟨_,hp.mem_iff.mpr (wf.mpr ⟨v,mv,rfl⟩),λz=>v0 (by have : -v.2=0:=z;grind),by rw[zbD h,e]⟩
theorem ziV {R':Rat}(h:lo<hi) (hp:ls'.Perm (ls.map (mrQ lo hi))) (r:qW lo hi ls R) (r':qW lo hi ls' R'):R=R':=by
 have s0:0<hi-lo+(hi-lo):=by grind
 have:=qW.two (ρ:=1) h rfl (by decide) r r' (λc _=>by rw[WC];exact zjZ hp c) (λc c0 _=>⟨hi-lo,by
  rw[WC]
  unfold QB AlR
  have p1:=((hp.filter (ofP c)).map (Qr lo hi)).map λq=>rst q (hi-lo+(hi-lo))
  refine p1.trans (.of_eq ?_)
  rw[WU,wD,wD,wD]
  have ef:ls.filter (ofP c ∘ mrQ lo hi)=ls.filter (ofP c):=u7 λu _=>by
   show decide (xQ (mrQ lo hi u)=c)=decide (xQ u=c)
   rw[show xQ (mrQ lo hi u)=xQ u from zas u.2]
  rw[ef]
  refine wG λu mu=>?_
  have eu:xQ u=c:=wA (yr.mp mu).2
  have u0:u.2≠0:=λz=>by rw[XW,z]at eu;rw[<-eu]at c0;exact absurd c0 (by decide)
  show rst (Qr lo hi (mrQ lo hi u)) _=rst (Qr lo hi u+(hi-lo)) _
  unfold Qr mrQ
  nofun
  have one:((1:Int):Rat)=1:=rfl
  by_cases q:0<u.2
  ·rw[if_neg (by grind),if_pos q];congr 1;grind
  ·rw[if_pos (by grind),if_neg q]
   refine ziY s0 (k := -1) ?_
   rw[yT,one];grind⟩)
 rw[WC]at this;exact this
theorem qk.mir {o:Rat ⊕ List Rat}(h:lo<hi) (hp:ls'.Perm (ls.map (mrQ lo hi))){R:Option Rat}(hr:RdO lo hi ls R) (t:qk lo hi ls' ((ls.length:Int)-1-k) (lo+hi-y) x o):qk lo hi ls k y x o:=by
 cases o with
 |inl m =>
  obtain⟨h1,h2,h3⟩:=t
  exact⟨h1,(zfO h hp m).mp h2,λz z1 z2 hz=>h3 z z1 z2 ((zfO h hp z).mpr hz)⟩
 |inr ms =>
  obtain⟨h1,R',r',L⟩:=t
  refine⟨λz z1 hz=>h1 z z1 ((zfO h hp z).mpr hz),R,hr,?_⟩
  have mz:∀v:Rat×Rat,(mrQ lo hi v).2=0↔v.2=0:=λv=>by show -v.2=0↔_;constructor <;> intro q <;> grind
  have eR:R=R':=by
   cases R with
   |none =>
    cases R' with
    |none=>rfl
    |some a =>
     obtain⟨⟨u,mu,u0⟩,_⟩:=r'
     obtain⟨v,mv,rfl⟩:=wf.mp (hp.mem_iff.mp mu)
     exact absurd ((mz v).mpr (hr v mv)) u0
   |some a =>
    cases R' with
    |none =>
     obtain⟨⟨u,mu,u0⟩,_⟩:=hr
     exact absurd ((mz u).mp (r' _ (hp.mem_iff.mpr (wf.mpr ⟨u,mu,rL⟩)))) u0
    |some b=>rw[ziV h hp hr.2 r'.2]
  subst eR
  exact⟨L.1,λz=>(L.2 z).trans (by
   constructor
   ·rintro (e | ⟨r,e,e1,e2,e3⟩)
    ·exact .inl e
    ·exact .inr ⟨r,e,e1,e2,(zcu h hp z).mp e3⟩
   ·rintro (e | ⟨r,e,e1,e2,e3⟩)
    ·exact .inl e
    ·exact .inr ⟨r,e,e1,e2,(zcu h hp z).mpr e3⟩)⟩
def scQ (b:Rat) (u:Rat×Rat):Rat×Rat:=(u.1,u.2*b)
theorem zbQ (b m:Rat) (u:Rat×Rat):xD lo hi m (scQ b u)=xD lo hi (b*m) u:=by
 unfold xD scQ
 nofun
 rw[Rat.mul_assoc]
theorem Vi {b:Rat}(hb:0<b) (u:Rat×Rat):(scQ b u).2=0↔u.2=0:=by
 show u.2*b=0↔_
 rw[WT]
 exact⟨λq=>by rcases q with q | q <;> grind,.inl⟩
theorem zbP {b:Rat}(hb:0<b) (u:Rat×Rat):xQ (scQ b u)=b*xQ u:=by
 rw[XW,XW]
 show zcS (u.2*b)=_
 unfold zcS
 by_cases c:u.2<0
 ·have:=w5 (show 0 < -u.2 by grind) hb
  rw[if_pos c,if_pos (by grind)];grind
 ·have:=uK (show 0<=u.2 by grind) (yj hb)
  rw[if_neg c,if_neg (by grind),Yt]
theorem ziW {R' b:Rat}(h:lo<hi) (hb:0<b) (hp:ls'.Perm (ls.map (scQ b))) (r:qW lo hi ls R) (r':qW lo hi ls' R'):R=b*R':=by
 have bn:b≠0:=by grind
 refine qW.two (ρ:=b) h rL hb r r' (λc _=>?_) (λc c0 _=>⟨0,?_⟩)
 ·constructor
  ·rintro ⟨u,mu,e⟩
   obtain⟨v,mv,rfl⟩:=wf.mp (hp.mem_iff.mp mu)
   rw[zbP hb]at e
   exact⟨v,mv,by grind⟩
  ·rintro ⟨v,mv,e⟩
   exact⟨_,hp.mem_iff.mpr (wf.mpr ⟨v,mv,rfl⟩),by rw[zbP hb,e]⟩
 ·unfold QB AlR
  have p1:=((hp.filter (ofP (b*c))).map (Qr lo hi)).map λq=>rst q (hi-lo+(hi-lo))
  refine p1.trans (.of_eq ?_)
  rw[WU,wD,wD,wD]
  have ef:ls.filter (ofP (b*c) ∘ scQ b)=ls.filter (ofP c):=u7 λu _=>by
   show decide (xQ (scQ b u)=b*c)=decide (xQ u=c)
   rw[zbP hb,decide_eq_decide]
   constructor <;> intro q
   ·grind
   ·rw[q]
  rw[ef]
  refine wG λu mu=>?_
  show rst (Qr lo hi (scQ b u)) _=rst (Qr lo hi u+0) _
  rw[Yu]
  unfold Qr scQ
  nofun
  have pq:0<u.2*b↔0<u.2:=by
   have:=qf (a:=0) (b:=u.2) hb
   rw[Rat.mul_zero,Yt]at this
   exact this
  by_cases q:0<u.2
  ·rw[if_pos (pq.mpr q),if_pos q]
  ·rw[if_neg (λz=>q (pq.mp z)),if_neg q]
def zeL (b:Rat):Rat ⊕ List Rat->Rat ⊕ List Rat
 |.inl m=>.inl (b*m)
 |.inr ms=>.inr (ms.map (b * ·))
theorem qk.scl {o:Rat ⊕ List Rat}{b:Rat}(h:lo<hi) (hb:0<b) (hp:ls'.Perm (ls.map (scQ b))){R:Option Rat}(hr:RdO lo hi ls R) (t:qk lo hi ls' k y (x/b) o):qk lo hi ls k y x (zeL b o):=by
 have bn:b≠0:=by grind
 have th:∀z,ThL lo hi ls' k y (z/b)↔ThL lo hi ls k y z:=λz=>by
  have e:(ls'.map (xD lo hi (z/b))).Perm (ls.map (xD lo hi z)):=by
   have:=hp.map (xD lo hi (z/b))
   rw[wD]at this
   refine this.trans (.of_eq (wG λu _=>?_))
   show xD lo hi (z/b) (scQ b u)=_
   rw[zbQ]
   congr 1
   grind
  exact⟨λq=>ThQ.perm e q,λq=>ThQ.perm e.symm q⟩
 have ps:∀z,PsQ lo hi ls' y (z/b)↔PsQ lo hi ls y z:=λz=>by
  have ez:b*(z/b)=z:=by grind
  constructor
  ·rintro ⟨u,mu,u0,e⟩
   obtain⟨v,mv,rfl⟩:=wf.mp (hp.mem_iff.mp mu)
   rw[zbQ,ez]at e
   exact⟨v,mv,λq=>u0 ((Vi hb v).mpr q),e⟩
  ·rintro ⟨v,mv,v0,e⟩
   exact⟨_,hp.mem_iff.mpr (wf.mpr ⟨v,mv,rfl⟩),λq=>v0 ((Vi hb v).mp q),by rw[zbQ,ez,e]⟩
 have lt:∀a c:Rat,a/b<c/b↔a<c:=λa c=>by
  have:=qf (a:=a/b) (b:=c/b) hb
  rw[show b*(a/b)=a by grind,show b*(c/b)=c by grind]at this
  exact this.symm
 have le:∀a c:Rat,a/b<=c/b↔a<=c:=λa c=>by
  have:=lt c a
  constructor <;> intro q <;> grind
 have eb:∀z:Rat,b*z/b=z:=λz=>by grind
 cases o with
 |inl m =>
  obtain⟨h1,h2,h3⟩:=t
  refine⟨?_,?_,λz z1 z2 hz=>h3 (z/b) ((le _ _).mpr z1) ?_ ((th z).mpr hz)⟩
  ·have:=(le x (b*m)).mp (by rw[eb];exact h1);exact this
  ·exact(th (b*m)).mp (by rw[eb];exact h2)
  ·have:=(lt z (b*m)).mpr z2;rw[eb]at this;exact this
 |inr ms =>
  obtain⟨h1,R',r',L⟩:=t
  refine⟨λz z1 hz=>h1 (z/b) ((le _ _).mpr z1) ((th z).mpr hz),R,hr,?_⟩
  have eR:R=R'.map (b * ·):=by
   cases R with
   |none =>
    cases R' with
    |none=>rfl
    |some a =>
     obtain⟨⟨u,mu,u0⟩,_⟩:=r'
     obtain⟨v,mv,rfl⟩:=wf.mp (hp.mem_iff.mp mu)
     exact absurd ((Vi hb v).mpr (hr v mv)) u0
   |some a =>
    cases R' with
    |none =>
     obtain⟨⟨u,mu,u0⟩,_⟩:=hr
     exact absurd ((Vi hb u).mp (r' _ (hp.mem_iff.mpr (wf.mpr ⟨u,mu,rL⟩)))) u0
    |some c=>show some a=some (b*c);rw[ziW h hb hp hr.2 r'.2]
  refine L.map (b * ·) (· / b) (λz=>by grind) eb (λa c q=>(qf hb).mpr q) (by grind) λz=>?_
  constructor
  ·rintro (e | ⟨r,e,e1,e2,e3⟩)
   ·exact .inl (by rw[e])
   ·rw[eR]at e
    cases R' with
    |none=>cases e
    |some c =>
     have er:r=b*c:=by cases e;rfl
     refine .inr ⟨c,rL,(lt _ _).mpr e1,?_,(ps z).mpr e3⟩
     have:=(lt z (x+r)).mpr e2
     rw[er]at this
     rw[show (x+b*c)/b=x/b+c by grind]at this
     exact this
  ·rintro (e | ⟨c,e,e1,e2,e3⟩)
   ·left
    have:=congrArg (b * ·) e
    try dsimp only at this
    rw[show b*(z/b)=z by grind,show b*(x/b)=x by grind]at this
    exact this
   ·refine .inr ⟨b*c,by rw[eR,e];rfl,(lt _ _).mp e1,?_,(ps z).mp e3⟩
    refine(lt _ _).mp ?_
    rw[show (x+b*c)/b=x/b+c by grind]
    exact e2
def mvB (u:Rat×Rat):Bool:=decide (u.2≠0)
theorem qW.mv (r:qW lo hi ls R):qW lo hi (ls.filter mvB) R:=by
 have ex:∀c,0<c->((∃u∈ls.filter mvB,xQ u=c)↔∃u∈ls,xQ u=c):=λc c0=>by
  constructor
  ·rintro ⟨u,mu,e⟩;exact⟨u,(yr.mp mu).1,e⟩
  ·rintro ⟨u,mu,e⟩
   exact⟨u,yr.mpr ⟨mu,wm λz=>by rw[XW,z]at e;rw[<-e]at c0;exact absurd c0 (by decide)⟩,e⟩
 have eg:∀c,0<c->QB lo hi c (ls.filter mvB)=QB lo hi c ls:=λc c0=>by
  unfold QB
  rw[Yv]
  congr 1
  refine u7 λu _=>?_
  by_cases q:xQ u=c
  ·have m:mvB u=true:=wm (show u.2≠0 from λz=>by rw[XW,z]at q;rw[<-q]at c0;exact absurd c0 (by decide))
   rw[m,Bool.and_true]
  ·have m:ofP c u=false:=wy q
   rw[m];rfl
 exact⟨r.r0,λc c0 hc=>by rw[eg c c0];exact r.part c c0 ((ex c c0).mp hc),λX hX=>r.univ X λc c0 hc M g=>hX c c0 ((ex c c0).mpr hc) M (by rw[eg c c0];exact g)⟩
theorem qW.ps (h:lo<hi) (r:qW lo hi ls R) (m:Rat):PsQ lo hi ls y (m+R)↔PsQ lo hi ls y m:=by
 have key:∀z,PsQ lo hi ls y z↔y∈(ls.filter mvB).map (xD lo hi z):=λz=>by
  rw[wf]
  constructor
  ·rintro ⟨u,mu,u0,e⟩;exact⟨u,yr.mpr ⟨mu,wm u0⟩,e⟩
  ·rintro ⟨u,mu,e⟩;exact⟨u,(yr.mp mu).1,wA (yr.mp mu).2,e⟩
 rw[key,key]
 exact(r.mv.per h m).mem_iff
theorem qW.many (h:lo<hi) (r:qW lo hi ls R) (m:Rat):∀n:Nat,(PsQ lo hi ls y (m+((n:Int):Rat)*R)↔PsQ lo hi ls y m)/\(ThL lo hi ls k y (m+((n:Int):Rat)*R)↔ThL lo hi ls k y m)
 |0=>by have z:(((0:Nat):Int):Rat)=0:=rfl;rw[z,ur,Yu];exact⟨.rfl,.rfl⟩
 |n+1=>by
  obtain⟨i1,i2⟩:=qW.many h r m n
  have e:(((n+1:Nat):Int):Rat)=((n:Int):Rat)+1:=by rw[show ((n+1:Nat):Int)=(n:Int)+1 by lia,yk];rfl
  have e2:m+(((n+1:Nat):Int):Rat)*R=m+((n:Int):Rat)*R+R:=by rw[e];grind
  rw[e2]
  refine⟨(r.ps h _).trans i1,Iff.trans ?_ i2⟩
  have p:=r.per h (m+((n:Int):Rat)*R)
  exact⟨λq=>ThQ.perm p q,λq=>ThQ.perm p.symm q⟩
theorem qk.late {o:Rat ⊕ List Rat}(h:lo<hi) (r:qW lo hi ls R) (rd:RdO lo hi ls (some R)) (n:Nat) (t:qk lo hi ls k y x o):qk lo hi ls k y (x+((n:Int):Rat)*R) (zeM (((n:Int):Rat)*R) o):=by
 generalize hd:((n:Int):Rat)*R=d
 have th:∀z,ThL lo hi ls k y z↔ThL lo hi ls k y (z-d):=λz=>by
  have:=(r.many (k:=k) (y:=y) h (z-d) n).2
  rw[hd,show z-d+d=z by grind]at this;exact this
 have ps:∀z,PsQ lo hi ls y z↔PsQ lo hi ls y (z-d):=λz=>by
  have:=(r.many (k:=k) (y:=y) h (z-d) n).1
  rw[hd,show z-d+d=z by grind]at this;exact this
 cases o with
 |inl m =>
  obtain⟨h1,h2,h3⟩:=t
  refine⟨by grind,(th _).mpr (by rw[show m+d-d=m by grind];exact h2),λz z1 z2 hz=>h3 (z-d) (by grind) (by grind) ((th z).mp hz)⟩
 |inr ms =>
  obtain⟨h1,R',r',L⟩:=t
  refine⟨λz z1 hz=>h1 (z-d) (by grind) ((th z).mp hz),R',r',?_⟩
  refine L.map (· + d) (· - d) (λz=>by grind) (λz=>by grind) (λa b q=>by grind) rfl λz=>?_
  constructor
  ·rintro (e | ⟨r,e,e1,e2,e3⟩)
   ·exact .inl (by grind)
   ·exact .inr ⟨r,e,by grind,by grind,(ps z).mp e3⟩
  ·rintro (e | ⟨r,e,e1,e2,e3⟩)
   ·exact .inl (by grind)
   ·exact .inr ⟨r,e,by grind,by grind,(ps z).mpr e3⟩
end
end KM
namespace KK
open PySem L2 KM
variable {P:Program}{w:World}{K:Fg}{mg:Str->Option Value}{base:Heap}{aN CE:Addr}
structure EvS (H:Hp) (r a:Addr) (us:List V) (bs:List Bl) (lo hi u:Rat):Prop where
 r:H r=some (.tup us)
 R:qi H us bs
 l1:1<=bs.length
 W:∃v1 v2,H a=some (.tup [v1,v2])/\xu H v1 (some (lo,0))/\xu H v2 (some (hi,0))
 z:RwZ bs (lo,0) (hi,0)
 U:RwU bs (lo,0) (hi,0) u 36
 p:∃b0,bs[0]?=some b0/\plB (tb b0) (bs.map tb) (some (lo,0)) (some (hi,0))=true
theorem EvA.s {H:Hp}{r a:Addr}{us:List V}{bs:List Bl}{g j d c w jp dp:Int}(h:EvA H r a us bs g j d c w jp dp):EvS H r a us bs (zA g j d) (zA g j d+zN g c*(w:Rat)) (Rat.divInt g 6):=by
 obtain⟨z,U,p⟩:=h.fit
 exact⟨h.r,h.R,h.l1,h.W,z,U,p⟩
theorem EvS.tups {H H':Hp}{r a:Addr}{us:List V}{bs:List Bl}{lo hi u:Rat}(h:EvS H r a us bs lo hi u) (t:xx H H'):EvS H' r a us bs lo hi u:=by
 obtain⟨h1,h2,h3,⟨v1,v2,h7,h8,h9⟩,h4,h5,h6⟩:=h
 exact⟨t _ _ h1,h2.keeps t,h3,⟨v1,v2,t _ _ h7,h8.tupsW t,h9.tupsW t⟩,h4,h5,h6⟩
section
variable {H:Hp}{r a q u:Addr}{us:List V}{bs:List Bl}{lo hi uu:Rat}{k:Int}{y x:Rat}
theorem EvS.ln (h:EvS H r a us bs lo hi uu):Ln H r a bs (some (lo,0)) (some (hi,0)):=⟨⟨us,h.r,h.R⟩,h.W,h.l1,by have:=h.z.l5;lia⟩
theorem EvS.lh (h:EvS H r a us bs lo hi uu):lo<hi:=h.z.lh
theorem EvS.tell (h:EvS H r a us bs lo hi uu) (hk:0<=k/\k<bs.length) (hq:zr H q y) (hy:PlZ lo hi y) (hu:zr H u x) (hx:TmW x){CM:Addr}{Q:VK}{E:XK}
  (kk:∀v o H',zk H H'->qk lo hi (lsQ bs) k y x o->zb0 lo hi (lsQ bs) y x o->zar o->vA H' v o->Q v H'):zha CM [.ref r,.ref a,.int k,.ref q,.ref u] H Q E:=by
 have z:=h.z
 obtain⟨b0,e0,hp⟩:=h.p
 obtain⟨p,s,m,zz,trs,l,h',tk,b,T,pss,lz,F⟩:=zjI z h.U hy.2.2.1 hy.2.2.2 hx.1 hx.2
 have ka:∀l',lz=some l'->LkA (2*(h'.1-l.1)) b l' (zP l.1 zz trs)/\LkG (2*(h'.1-l.1)) b l' (zP l.1 zz trs):=λl' e=>by
  obtain⟨A,bn,iq⟩:=F.ka l' e
  refine⟨A,LkG.of A bn (q:=36) iq ?_ (by decide)⟩
  have h1:=Xa l.1 zz trs
  have h2:trs.length=bs.length:=by rw[F.wz.et,wc,wc]
  have:=z.l5
  have:(zP l.1 zz trs).length*36<=10*36:=Nat.mul_le_mul_right _ ∅
  lia
 refine⟨k,bs,_,_,y,x,p,s,m,zz,trs,l,h',tk,b,T,pss,lz,⟨⟨r,a,q,u,rL,h.ln,hq,hu⟩,z.lnz,⟨b0,e0,hp⟩,hk,⟨hy.1,hy.2.1⟩⟩,F.wz,F.rg,F.lzz,.inl ⟨ka,λms N hO=>?_⟩⟩
 obtain⟨t1,t2⟩:=WhF.tell (k:=k) z F hy.1 hy.2.1 hO
 have b2:0<b.2:=by rw[F.wz.eb];exact den_pos _
 obtain⟨bm,bN,N0,ml⟩:=zev ⟨F.wz.bb.1,F.wz.bb.2,b2⟩ hO ka
 have ztk:Sz 92 tk:=by
  have f:=z.f
  rw[F.wz.etk,F.wz.ep,F.wz.es]
  exact .divInt (yu f.p0) f.sb (f.pb.md)
 have zm:∀t∈ms,Sz 3000 (moQ tk t N):=λt mt=>.divInt (yu (wQ N0 (den_pos tk))) (((bm t mt).mul ztk.1).md) ((bN.mul ztk.2).md)
 refine⟨λt e rr qq H' S h1 h2=>?_,λe rr L us' H' S h1 h2 h3=>?_⟩
 ·obtain⟨ta,na⟩:=t1 t e
  exact kk _ (.inl (moQ tk t N)) H' S ta na (zm t (yX e)) ⟨rr,qq,rL,h1,h2⟩
 ·exact kk _ (.inr (ms.map λt=>moQ tk t N)) H' S (t2 e) trivial (λm mm=>by obtain⟨t,mt,rfl⟩:=wf.mp mm;exact zm t mt) ⟨rr,L,us',rfl,h1,h2,h3,by rw[h3.1,wc];exact ml⟩
theorem EvS.round (h:EvS H r a us bs lo hi uu){Q:VK}{E:XK}(k0:RdO lo hi (lsQ bs) none->∀H',zk H H'->Q .non H')
  (k1:∀R,RdO lo hi (lsQ bs) (some R)->Bd 20 R.num/\Bd 24 (R.den:Int)->∀z q l H',zk H H'->H' z=some (.tup [.ref q,.ref l])->zr H' q R->Q (.ref z) H'):za3 [.ref r,.ref a] H Q E:=by
 have z:=h.z
 obtain⟨b0,e0,hp⟩:=h.p
 obtain⟨p,ep⟩:∃p,p=pbO bs (some (lo,0)) (some (hi,0)):=⟨_,rfl⟩
 obtain⟨s,es⟩:∃s,s=sbO bs (some (lo,0)) (some (hi,0)):=⟨_,rfl⟩
 obtain⟨tk,et⟩:∃tk,tk=Rat.divInt s p:=⟨_,rfl⟩
 obtain⟨T,eT⟩:∃T,T=2*((trB p s (hi,0)).1-(trB p s (lo,0)).1):=⟨_,rfl⟩
 obtain⟨pss,eps⟩:∃pss,pss=phO (trB p s (lo,0)).1 T (bs.map λb=>trB p s (b.pl,b.sp)):=⟨_,rfl⟩
 obtain⟨rg,pj,ztk,tn,T0,bT⟩:=z.rog ep es et eT eps
 have F:=z.f
 rw[<-ep,<-es]at F
 have Rr:=z.rat ep es et eT
 have mv:∀b∈bs,(trB p s (b.pl,b.sp)).2=0↔b.sp=0:=λb hb=>by
  have v:=Rr.v b hb
  have sp:(0:Rat)<(s:Rat):=wv.mpr F.s0
  constructor
  ·intro e
   rw[e]at v
   rcases WT.mp (show b.sp*(s:Rat)=0 from v.symm)with q | q
   ·exact q
   ·rw[q]at sp;exact absurd sp (by decide)
  ·intro e
   exact yH.mp (v.trans ((show b.sp*(s:Rat)=0 by rw[e,ur]).trans (show (0:Rat)=((0:Int):Rat)from rfl)))
 refine⟨r,a,bs,b0,_,_,T,s,tk,pss,rL,h.ln,z.lnz,e0,hp,rg,λe=>k0 λv mv'=>?_,λne zz H' kgs q l us' S kz h1 h2 _ _ _=>?_⟩
 ·obtain⟨b,hb,rfl⟩:=wf.mp mv'
  exact(mv b hb).mp (pj.mv.mp e _ (wf.mpr ⟨b,hb,rL⟩))
 ·have RF:=QX z h.U Rr F.s0 F.p0 pj ne kz (λe me g g1 g2=>(rg.pt e me g g1 g2).1)
  refine k1 _ ⟨?_,zhJ z ep es rg pj ne kz⟩ ⟨RF.rn,RF.rd⟩ zz q l H' S h1 h2
  by_cases c:∃v∈lsQ bs,v.2≠0
  ·exact c
  ·exfalso
   refine ne (pj.mv.mpr λv mv'=>?_)
   obtain⟨b,hb,rfl⟩:=wf.mp mv'
   refine(mv b hb).mpr ?_
   by_cases d:b.sp=0
   ·exact d
   ·exact absurd ⟨_,wf.mpr ⟨b,hb,rL⟩,d⟩ c
end
def scB (f:Rat) (b:Bl):Bl:=⟨b.pl,b.sp*f,b.wt⟩
def mrB (lo hi:Rat) (b:Bl):Bl:=⟨lo+hi-b.pl,-b.sp,b.wt⟩
section
variable {g j d c w jp dp:Int}
theorem zif (G:EvG g j d c w jp dp){y:Rat}{A B:Int}(B0:0<B) (B1:B<=300) (inn:zA g j d<=y/\y<=zA g j d+zN g c*(w:Rat)) (hA:y=Rat.divInt g 6*((A:Rat)/(B:Rat))):Bd 100 y.num/\Bd 12 (y.den:Int):=by
 obtain⟨i1,i2,e1,e2,i20,i260,i1a,i1b⟩:=G.lat
 have u0:0<Rat.divInt g 6:=(xM (by decide)).mpr G.pos.1
 have Bp:(0:Rat)<(B:Rat):=wv.mpr B0
 have bA:A.natAbs<=28800:=by
  have up:(A:Rat)<=((96*B:Int):Rat)/\((-36*B:Int):Rat)<=(A:Rat):=by
   have i1':(i1:Rat)<=((36:Int):Rat):=yd.mpr i1b
   have i1'':((-36:Int):Rat)<=(i1:Rat):=yd.mpr i1a
   have i2':(i2:Rat)<=((60:Int):Rat):=yd.mpr i260
   rw[e1,e2,hA]at inn
   have c96:((96:Int):Rat)=((36:Int):Rat)+((60:Int):Rat):=by decide +kernel
   generalize Rat.divInt g 6=u at *
   have n1:(i1:Rat)<=(A:Rat)/(B:Rat):=by
    by_cases q:(i1:Rat)<=(A:Rat)/(B:Rat)
    ·exact q
    ·exfalso;have:=uw (show (A:Rat)/(B:Rat)<(i1:Rat) by grind) u0;grind
   have n2:(A:Rat)/(B:Rat)<=(i1:Rat)+(i2:Rat):=by
    by_cases q:(A:Rat)/(B:Rat)<=(i1:Rat)+(i2:Rat)
    ·exact q
    ·exfalso;have:=uw (show (i1:Rat)+(i2:Rat)<(A:Rat)/(B:Rat) by grind) u0;grind
   have m1:=wP n1 (yj Bp)
   have m2:=wP n2 (yj Bp)
   have k1:=wP i1' (yj Bp)
   have k2:=wP i1'' (yj Bp)
   have k3:=wP i2' (yj Bp)
   have eA:(A:Rat)/(B:Rat)*(B:Rat)=(A:Rat):=uS (by grind)
   rw[eA]at m1 m2
   rw[wj,wj,c96]
   clear hA e1 e2 inn
   constructor <;> grind
  have u1:=yd.mp up.1
  have u2:=yd.mp up.2
  lia
 have epl:y=Rat.divInt (g*A) (6*B):=by
  rw[hA,xF,xF,wj,wj]
  have n6:((6:Int):Rat)≠0:=by decide
  have Bn:(B:Rat)≠0:=by grind
  generalize ((6:Int):Rat)=s at *
  clear hA e1 e2 inn
  grind
 rw[epl]
 exact vo ∅ (((gBd G.g1 G.g2).mul (show Bd 15 A from(show A.natAbs<2^15 by lia))).md) (show (6*B).natAbs<2^12 by lia) (by decide)
theorem zhv (G:EvG g j d c w jp dp){y:Rat}(L:Qs (Rat.divInt g 6) y) (h0:zA g j d<=y) (h1:y<=zA g j d+zN g c*(w:Rat)):PlZ (zA g j d) (zA g j d+zN g c*(w:Rat)) (zA g j d+(zA g j d+zN g c*(w:Rat))-y):=by
 obtain⟨i1,i2,e1,e2,_⟩:=G.lat
 obtain⟨a,D,D1,D20,hl⟩:=L
 have inn:zA g j d<=zA g j d+(zA g j d+zN g c*(w:Rat))-y/\zA g j d+(zA g j d+zN g c*(w:Rat))-y<=zA g j d+zN g c*(w:Rat):=by constructor <;> grind
 refine⟨inn.1,inn.2,zif G (A:=(2*i1+i2)*D-a) (B:=D) ∅ ∅ inn ?_⟩
 have Dn:=zO (show D≠0 by lia)
 rw[e1,e2,hl]
 simp only[yk,yE,wj]
 have two:((2:Int):Rat)=2:=rfl
 rw[two]
 clear e1 e2 hl inn
 grind
theorem GrB.off {wt:Int}{b:Bl}(G:EvG g j d c w jp dp) (hb:GrB g j d c w jp dp wt b):0<b.sp->b.pl<zA g j d+zN g c*(w:Rat):=λs=>by
 obtain⟨_,t,t0,tw,e1,hs,h1,h2⟩:=hb
 have S0:0<zN g c:=(xM G.pos.2.2.1).mpr G.pos.1
 have tl:t<w:=by
  rcases yD t w with z | z
  ·exact z
  ·have:=h2 ∅;grind
 have:=uw (yL.mpr tl) S0
 rw[e1];grind
theorem SpB.off {n:Nat}{b:Bl}(G:EvG g j d c w jp dp) (n1:1<=n) (hb:SpB (zA g j d) (zN g c*(w:Rat)) (zA g jp dp) n b):0<b.sp->b.pl<zA g j d+zN g c*(w:Rat):=λs=>by
 have v0:0<zA g jp dp:=zaz G.pos.1 (by have:=G.jp;lia) G.pos.2.2.2
 obtain⟨_,e,e0,e8,hh⟩:=hb
 rcases hh with⟨k1,k2,k3⟩ | ⟨k1,k2,k3⟩
 ·rw[k2];have:=(zbq (c:=e) (n:=(n:Int)) G.W0 ∅).mpr k1;grind
 ·rw[k3]at s;grind
theorem EvB.off {n:Nat}{bs:List Bl}(G:EvG g j d c w jp dp) (n1:1<=n) (hb:EvB g j d c w jp dp n bs):∀b∈bs,0<b.sp->b.pl<zA g j d+zN g c*(w:Rat):=λb m=>by
 rcases hb with hb | ⟨wt,hb⟩
 ·exact SpB.off G n1 (hb b m)
 ·exact GrB.off G (hb b m)
theorem BlF.mir (G:EvG g j d c w jp dp){b:Bl}(F:BlF (zA g j d) (zA g j d+zN g c*(w:Rat)) (Rat.divInt g 6) b) (L:Qs (Rat.divInt g 6) b.pl) (o:0<b.sp->b.pl<zA g j d+zN g c*(w:Rat)):BlF (zA g j d) (zA g j d+zN g c*(w:Rat)) (Rat.divInt g 6) (mrB (zA g j d) (zA g j d+zN g c*(w:Rat)) b):=by
 obtain⟨m1,m2,m3⟩:=zhv G L F.i.1 F.i.2
 refine⟨m3,?_,⟨m1,m2⟩,λn=>?_,λn=>?_⟩
 ·show Bd 80 (-b.sp).num/\Bd 13 ((-b.sp).den:Int)
  rw[Y7,Rat.neg_den];exact⟨F.s.1.neg,F.s.2⟩
 ·have n' : -b.sp<0:=n
  have:=o (by grind)
  show zA g j d<zA g j d+(zA g j d+zN g c*(w:Rat))-b.pl
  grind
 ·obtain⟨k,k1,k2,h⟩:=F.k (λz=>n (by show -b.sp=0;rw[z];rfl))
  refine⟨k,k1,k2,?_⟩
  show -b.sp=_ ∨ -b.sp=_
  rcases h with h | h
  ·exact .inr (by rw[h])
  ·exact .inl (by rw[h];grind)
theorem zh2 (h:EvG g j d c w jp dp){bs:List Bl}(l1:1<=bs.length) (l5:bs.length<=5) (hf:∀b∈bs,BlF (zA g j d) (zA g j d+zN g c*(w:Rat)) (Rat.divInt g 6) b){wt:Int}(hwt:∀b∈bs,b.wt=wt){p q:Int}(p1:1<=p) (p9:p<=9) (q1:1<=q) (q4:q<=4) :
  RwZ (bs.map (scB (Rat.divInt p q))) (zA g j d,0) (zA g j d+zN g c*(w:Rat),0)/\RwU (bs.map (scB (Rat.divInt p q))) (zA g j d,0) (zA g j d+zN g c*(w:Rat),0) (Rat.divInt g 6*Rat.divInt p q) 36 ∧
  ∃b0,(bs.map (scB (Rat.divInt p q)))[0]?=some b0/\plB (tb b0) ((bs.map (scB (Rat.divInt p q))).map tb) (some (zA g j d,0)) (some (zA g j d+zN g c*(w:Rat),0))=true:=by
 obtain⟨z,U,_⟩:=zd3 h l1 l5 hf hwt
 have hp:=h.pos
 have hc:=h.c
 have hw:=h.w
 have f0:0<Rat.divInt p q:=(xM ∅).mpr ∅
 have u0:0<Rat.divInt g 6:=(xM (by decide)).mpr hp.1
 have b0:Bd 80 (0:Rat).num/\Bd 13 ((0:Rat).den:Int):=⟨by show Bd 80 0;exact(show (0:Int).natAbs<2^80 by decide),by show Bd 13 1;exact(show (1:Int).natAbs<2^13 by decide)⟩
 have sg:∀v:Rat,v*Rat.divInt p q<0->v<0:=λv n=>by
  by_cases s:v<0
  ·exact s
  ·have:=uK (show 0<=v by grind) (yj f0);grind
 have kk:∀b∈bs,b.sp*Rat.divInt p q≠0->∃k:Nat,1<=k/\k<=36/\(b.sp*Rat.divInt p q=((k:Int):Rat)*(Rat.divInt g 6*Rat.divInt p q)\/b.sp*Rat.divInt p q=-(((k:Int):Rat)*(Rat.divInt g 6*Rat.divInt p q))):=λb hb n=>by
  obtain⟨k,k1,k2,h⟩:=(hf b hb).k (λs=>n (by rw[s,ur]))
  refine⟨k,k1,k2,?_⟩
  rcases h with h | h
  ·exact .inl (by rw[h,Rat.mul_assoc])
  ·exact .inr (by rw[h];grind)
 have mem:∀t∈ths (bs.map (scB (Rat.divInt p q))) (some (zA g j d,0)) (some (zA g j d+zN g c*(w:Rat),0)),(∃b∈bs,t=(b.pl,b.sp*Rat.divInt p q))\/t=(zA g j d,0)\/t=(zA g j d+zN g c*(w:Rat),0):=λt m=>by
  unfold ths at m
  rcases wY.mp m with m | m
  ·obtain⟨b',mb',rfl⟩:=wf.mp m
   obtain⟨b,mb,rfl⟩:=wf.mp mb'
   exact .inl ⟨b,mb,rL⟩
  ·simp only[Qh,wY,wU]at m
   rcases m with m | m
   ·exact .inr (.inl m)
   ·exact .inr (.inr m)
 have X_sc:∀k:Int,0<k->2*(zA g j d+zN g c*(w:Rat)-zA g j d)/((k:Rat)*(Rat.divInt g 6*Rat.divInt p q))=Rat.divInt (12*w*q) (c*k*p):=λk k0=>by
  have e:=zhV (lo:=zA g j d) (w:=w) (k:=k) hp.1 hp.2.2.1 k0
  have n1:=zO (show c*k≠0 from yu (wQ hp.2.2.1 k0))
  have n2:=zO (show p≠0 by lia)
  have n3:=zO (show q≠0 by lia)
  have n4:=zO (show k≠0 by lia)
  have un:Rat.divInt g 6≠0:=by grind
  have e2:2*(zA g j d+zN g c*(w:Rat)-zA g j d)/((k:Rat)*(Rat.divInt g 6*Rat.divInt p q))=2*(zA g j d+zN g c*(w:Rat)-zA g j d)/((k:Rat)*Rat.divInt g 6)/Rat.divInt p q:=by
   have fn:Rat.divInt p q≠0:=by grind
   generalize 2*(zA g j d+zN g c*(w:Rat)-zA g j d)=W at *
   generalize Rat.divInt g 6=u at *
   generalize Rat.divInt p q=f at *
   generalize (k:Rat)=k' at *
   clear e
   grind
  rw[e2,e,xF,xF,xF]
  simp only[wj]at *
  clear e e2
  generalize (c:Rat)=c' at *
  generalize (k:Rat)=k' at *
  generalize (p:Rat)=p' at *
  generalize (q:Rat)=q' at *
  generalize (w:Rat)=w' at *
  grind
 refine⟨⟨λt m=>?_,λt m=>?_,by rw[wc];lia,z.lh,λb m=>?_,λb m=>?_⟩,⟨w5 u0 f0,by decide,λb m=>?_,?_,λb m n k hk=>?_⟩,?_⟩
 ·rcases mem t m with⟨b,mb,rfl⟩ | rfl | rfl
  ·exact(hf b mb).p
  ·exact z.sp _ (qK rL)
  ·exact z.sp _ (vg rL)
 ·rcases mem t m with⟨b,mb,rfl⟩ | rfl | rfl
  ·show Bd 80 (b.sp*Rat.divInt p q).num/\Bd 13 ((b.sp*Rat.divInt p q).den:Int)
   by_cases n:b.sp*Rat.divInt p q=0
   ·rw[n];exact b0
   ·obtain⟨k,k1,k36,hk⟩:=kk b mb n
    have one:∀s:Int,s.natAbs<=36->b.sp*Rat.divInt p q=Rat.divInt (g*(s*p)) (6*q)->Bd 80 (b.sp*Rat.divInt p q).num/\Bd 13 ((b.sp*Rat.divInt p q).den:Int):=λs s36 e=>by
     rw[e]
     refine vo ∅ (((gBd h.g1 h.g2).mul (show Bd 9 (s*p)from ?_)).md) (show (6*q).natAbs<2^13 by lia) (by decide)
     show (s*p).natAbs<2^9
     rw[Wf]
     have:=YA s36 (show p.natAbs<=9 by lia)
     lia
    have ev:∀s:Int,(s:Rat)*(Rat.divInt g 6*Rat.divInt p q)=Rat.divInt (g*(s*p)) (6*q):=λs=>by
     rw[xF,xF,xF]
     simp only[wj]
     have n3:=zO (show q≠0 by lia)
     have s6:((6:Int):Rat)=6:=rfl
     rw[s6]
     grind
    rcases hk with hk | hk
    ·exact one k ∅ (by rw[hk];exact ev k)
    ·refine one (-(k:Int)) ∅ ?_
     rw[hk,<-ev,yT];grind
  ·exact b0
  ·exact b0
 ·obtain⟨b',mb,rfl⟩:=wf.mp m
  exact(hf b' mb).i
 ·obtain⟨b',mb,rfl⟩:=wf.mp m
  exact λn=>(hf b' mb).o (sg _ n)
 ·obtain⟨b',mb,rfl⟩:=wf.mp m
  exact kk b' mb
 ·have e:=X_sc 1 (by decide)
  have e1:((1:Int):Rat)=1:=rfl
  rw[e1,WC]at e
  show Bd 20 (2*(zA g j d+zN g c*(w:Rat)-zA g j d)/(Rat.divInt g 6*Rat.divInt p q)).num
  rw[e]
  have wq:(12*w*q).natAbs<2^20:=by
   rw[Wf]
   have:=YA (show (12*w).natAbs<=120 by lia) (show q.natAbs<=4 by lia)
   lia
  have cp:(c*1*p).natAbs<2^20:=by
   rw[Wf]
   have:=YA (show (c*1).natAbs<=3 by lia) (show p.natAbs<=9 by lia)
   lia
  exact(vo (n:=20) (m:=20) (wQ ∅ ∅) wq cp (by decide)).1
 ·obtain⟨b',mb,rfl⟩:=wf.mp m
  obtain⟨k',k1,k36,hk'⟩:=kk b' mb n
  have ek:=zel (w5 u0 f0) k1 hk hk'
  subst ek
  show Bd 20 ((2*(zA g j d+zN g c*(w:Rat)-zA g j d)/(((k:Int):Rat)*(Rat.divInt g 6*Rat.divInt p q))).den:Int)
  rw[X_sc k ∅]
  have wq:(12*w*q).natAbs<2^20:=by
   rw[Wf]
   have:=YA (show (12*w).natAbs<=120 by lia) (show q.natAbs<=4 by lia)
   lia
  have bc:Bd 20 (c*(k:Int)*p):=(((show Bd 4 c from(show c.natAbs<2^4 by lia)).mul (show Bd 6 (k:Int)from(show (k:Int).natAbs<2^6 by lia))).mul (show Bd 4 p from(show p.natAbs<2^4 by lia))).md
  exact(vo (n:=20) (m:=20) (wQ (wQ hp.2.2.1 ∅) ∅) wq bc (by decide)).2
 ·match bs,l1 with
  |b::r,_ =>
   refine⟨scB (Rat.divInt p q) b,rL,?_⟩
   unfold plB evB
   rw[uN,W7]
   refine⟨λt mt=>?_,?_⟩
   ·obtain⟨x,mx,rfl⟩:=wf.mp mt
    obtain⟨x',mx',rfl⟩:=wf.mp mx
    show decide (x'.wt=b.wt)=true
    rw[hwt x' mx',hwt b wB];exact wm rfl
   ·show (decide ((0:Rat)=0)&&decide ((0:Rat)=0))=true
    rw[wm rfl];rfl
end
theorem len3 {α:Type}{zs:List α}(h:zs.length=3):∃a b c,zs=[a,b,c]:=by
 match zs,h with
 |[a,b,c],_=>exact⟨a,b,c,rfl⟩
theorem qi.rev {H:Hp}{us:List V}{bs:List Bl}(h:qi H us bs):qi H us.reverse bs.reverse:=by
 refine⟨by rw[yp,yp];exact h.1,λi v e=>?_⟩
 have hi:i<us.length:=by
  have:=(wS.mp e).1
  rwa [yp]at this
 rw[List.getElem?_reverse hi]at e
 obtain⟨b,eb,hb⟩:=h.2 _ v e
 refine⟨b,?_,hb⟩
 rw[List.getElem?_reverse (by rw[<-h.1];exact hi),<-h.1];exact eb
inductive zfq  (vs:List V) (H:Hp) (Q:VK) (_e3:XK):Prop
 |mk:∀r a us bs g j d c w' jp dp,(vs=[.ref r,.ref a])->(EvA H r a us bs g j d c w' jp dp)->(∀z ys H',zk H H'->H' z=some (.tup ys)->qi H' ys (bs.reverse.map (mrB (zA g j d) (zA g j d+zN g c*(w':Rat))))->Q (.ref z) H')->zfq vs H Q _e3
theorem QO:zB ["row","walls","both","found","place","speed","weight"] ["row","walls"] (zj vS):=scq
theorem ziw (D:Df K mg "_law_mirrored" vS ["row","walls"] []) (T:TxB K mg) (cS:Cal P w K mg base "_law_sum" 2 ["one","other"] [] (qt Sz2 (· + ·))) (cP:Cal P w K mg base "_law_product" 2 ["one","other"] [] (qt Sz2 (· * ·))) (cMi:Cal P w K mg base "_law_minus" 3 ["one","other"] [] (qt Sz2 (· - ·))) :
  Cal P w K mg base "_law_mirrored" 4 ["row","walls"] [] zfq:=by
 refine D.calq (k:=3) QO (λf cdv A outer s H vs Q E hr3 h=>?_)
 rcases q:h with⟨r,a,us,bs,g,j,d,c,w',jp,dp,rfl,EA,k⟩
 have hr2:xb 2 _:=hr3.md
 refine⟨_,(ze (psl (i:=2) QO.nd (zC cS hr2 (za (pxt (pxt (pv 1))) (za (pxt (pxt (pv 1))) zd))))
  (ze (psl (i:=3) QO.nd (xR zd))
  (ze (vd PassesOwn.never rfl (ZR (zgK (pv 0) (vB qF zi))) (qH rfl (zJ (pgl (i:=4) QO.nd) (zJ (pgl (i:=5) QO.nd) (zJ (pgl (i:=6) QO.nd) xL)))) (zo (qm (ZQ yB yM yN qB (pv 3) (za (zS (za (zC cMi hr3 (za (pv 2) (za (pv 4) zd))) (za (zC cP hr2 (za (pv 5) (za (zS (za (vB qF zi) (za zi zd))) zd))) (za (pv 6) zd)))) zd)))))
  (zo (zE (vb jW (by rfl) T.nTuple uJ (za (pv 3) zd))))))),?_⟩
 try dsimp only[xc,Cx.nox]
 obtain⟨z,U,_⟩:=EA.fit
 rcases q:id EA.W with⟨v1,v2,ha,⟨a1,p1,q1,rfl,h1,h2,h3⟩,⟨a2,p2,q2,rfl,g1,g2,g3⟩⟩
 have zl:=z.sp _ (qK rfl)
 have zh:=z.sp _ (vg rfl)
 have zlo:Sz 100 (zA g j d):=⟨zl.1,zl.2.md⟩
 have zhi:Sz 100 (zA g j d+zN g c*(w':Rat)):=⟨zh.1,zh.2.md⟩
 have zbo:Sz 201 (zA g j d+(zA g j d+zN g c*(w':Rat))):=zlo.add zhi
 refine zG (λσ' G=>∃bo,σ'=[Sr r,Sr a,Sr bo,none,none,none,none]/\zk H G/\zr G bo (zA g j d+(zA g j d+zN g c*(w':Rat)))) ?_ ?_
 rotate_left
 ·intro nx hnx
  refine⟨_,rL,a,_,_,_,rL,rL,.of ha,at0 ..,a1,_,_,_,rL,rL,.of h1,at0 ..,_,rL,a,_,_,_,rL,rL,.of ha,at1 ..,a2,_,_,_,rL,rL,.of g1,at0 ..,?_⟩
  exact⟨p1,p2,_,_,rL,h2,g2,⟨zlo.md,zhi.md⟩,λbo G S hbo=>hnx _ _ ⟨bo,rL,S,hbo⟩⟩
 rintro σ1 G1 ⟨bo,rfl,S1,hbo⟩
 refine zG (λσ' G=>∃L,σ'=[Sr r,Sr a,Sr bo,Sr L,none,none,none]/\zk G1 G/\G L=some (.lst [])/\G1 L=none) ?_ ?_
 rotate_left
 ·intro nx hnx
  exact⟨by show 0<=sizeLine;lia,λL hL=>hnx _ _ ⟨L,rfl,zk.upd hL,zg,hL⟩⟩
 rintro σ2 G2 hQq;rcases q:hQq with⟨L,rfl,S2,hL2,hL1⟩
 have ER:=EA.R.rev
 have hul:us.length=bs.length:=EA.R.1
 have l5:=EA.l5
 refine zG (λσ' G=>∃x4 x5 x6 ws,σ'=[Sr r,Sr a,Sr bo,Sr L,x4,x5,x6]/\zk G1 G/\G L=some (.lst ws)/\qi G ws (bs.reverse.map (mrB (zA g j d) (zA g j d+zN g c*(w':Rat))))) ?_ ?_
 rotate_left
 ·intro nx hnx
  refine⟨_,rL,_,rL,r,us,rL,rL,.of (S2 _ _ (S1 _ _ EA.r)),λpr hpr=>?_⟩
  have S0:zk G2 (upd G2 pr (.tup us.reverse)):=zk.upd hpr
  have h0p:upd G2 pr (.tup us.reverse) pr=some (.tup us.reverse):=zg
  have npL:pr≠L:=λe=>by rw[e,hL2]at hpr;cases hpr
  have hp1:G1 pr=none:=by
   cases e:G1 pr with
   |none=>rfl
   |some o=>rw[S2 _ _ e]at hpr;cases hpr
  generalize upd G2 pr (.tup us.reverse)=G0 at S0 h0p
  refine⟨pr,rL,⟨_,SqT.of h0p⟩,?_⟩
  refine zgf (xs:=us.reverse) (λi σ' G=>∃x4 x5 x6 ws,σ'=[Sr r,Sr a,Sr bo,Sr L,x4,x5,x6]/\zk G1 G/\G pr=some (.tup us.reverse)/\G L=some (.lst ws)/\qi G ws ((bs.reverse.take i).map (mrB (zA g j d) (zA g j d+zN g c*(w':Rat)))))
   ⟨none,none,none,[],rfl,S2.trans S0,h0p,S0 _ _ hL2,⟨rfl,λi v e=>by cases e⟩⟩ (λi σ' G _ ⟨_,_,_,_,_,_,hG,_⟩=>SqT.of hG) ?_ ?_
  ·rintro i v σ' G hv hQq;rcases q:hQq with⟨x4,x5,x6,ws,rfl,SG,hGp,hG,hR⟩
   obtain⟨b,eb,hb⟩:=(ER.keeps (.of (S1.trans SG))).2 i v hv
   rcases q:hb with⟨ba,pa,pb,rfl,k1,k2,k3⟩
   have mb:b∈bs:=uO.mp (wL eb)
   have fb:=EA.F b mb
   have il:i<bs.length:=by
    have:=(wS.mp eb).1
    rwa [yp]at this
   refine⟨ba,_,rL,.of k1,rL,_,_,rL,_,_,rL,_,_,rL,rL,?_⟩
   dsimp only[zD]
   refine⟨_,rL,.inl ⟨rL,_,SqL.of hG⟩,?_⟩
   have zp:Sz 100 b.pl:=⟨fb.p.1,fb.p.2.md⟩
   have zs:Sz 80 b.sp:=⟨fb.s.1,fb.s.2.md⟩
   refine⟨_,rL,_,rL,bo,pa,_,_,rL,hbo.same SG,k2,⟨zbo.md,zp.md⟩,λq1 K1 V1 hq1=>?_⟩
   refine⟨_,rL,_,rL,zL2,λm1 hm1=>?_⟩
   have V2:=zk.upd (o:=.tup [.int (-1),.int 1]) hm1
   have e1:zr (upd K1 m1 (.tup [.int (-1),.int 1])) m1 (-1):=zg
   refine⟨pb,m1,_,-1,rL,k3.same (V1.trans V2),e1,⟨zs.md,Jx⟩,λq2 K2 V3 hq2=>?_⟩
   refine⟨_,rL,zL3,λt ht=>?_⟩
   have V4:=zk.upd (o:=.tup [.ref q1,.ref q2,.int b.wt]) ht
   have VV:=V1.trans (V2.trans (V3.trans V4))
   have hBl:Xj (upd K2 t (.tup [.ref q1,.ref q2,.int b.wt])) (.ref t) (mrB (zA g j d) (zA g j d+zN g c*(w':Rat)) b):=⟨t,q1,q2,rfl,zg,hq1.same (V2.trans (V3.trans V4)),by
    have:zr _ q2 (b.sp*(-1)):=hq2.same V4
    rw[show b.sp*(-1)=-b.sp by grind]at this;exact this⟩
   have hG4:=VV _ _ hG
   have hl:ws.length=i:=by rw[hR.1,wc,yn,yp];lia
   refine⟨L,ws,_,rL,rL,hG4,szl ∅,?_⟩
   refine⟨_,_,_,_,rfl,vG (SG.trans VV) hL1,by rw[zT npL];exact VV _ _ hGp,zg,?_⟩
   rw[yA,eb]
   show qi _ _ (List.map _ (_++[b]))
   rw[yt]
   exact((hR.keeps (.of VV)).snoc hBl).keeps (xx.upd hG4)
  ·rintro σ' G hQq;rcases q:hQq with⟨x4,x5,x6,ws,rfl,SG,hGp,hG,hR⟩
   refine hnx _ _ ⟨x4,x5,x6,ws,rL,SG,hG,?_⟩
   rw[yp,hul,<-yp,yq]at hR
   exact hR
 rintro σ3 G3 hQq;rcases q:hQq with⟨x4,x5,x6,ws,rfl,S3,hL3,hR3⟩
 refine⟨_,rL,L,ws,rL,.inl ⟨.of hL3,λz hz=>?_⟩⟩
 have S4:=zk.upd (o:=.tup ws) hz
 exact k z ws _ (S1.trans (S3.trans S4)) zg (hR3.keeps (.of S4))
inductive zfw  (vs:List V) (H:Hp) (Q:VK) (_e3:XK):Prop
 |mk:∀r f us bs v,(vs=[.ref r,.ref f])->(H r=some (.tup us))->(qi H us bs)->(bs.length<=5)->((∀b∈bs,Sz 100 b.sp))->(zr H f v)->(Sz 100 v)->(∀z ys H',zk H H'->H' z=some (.tup ys)->qi H' ys (bs.map (scB v))->Q (.ref z) H')->zfw vs H Q _e3
theorem zi6:zB ["row","by"] ["row","by"] (zj Zx):=scq
theorem ziB (D:Df K mg "_law_scaled" Zx ["row","by"] []) (T:TxB K mg) (cP:Cal P w K mg base "_law_product" 2 ["one","other"] [] (qt Sz2 (· * ·))):Cal P w K mg base "_law_scaled" 3 ["row","by"] [] zfw:=by
 refine D.calq (k:=2) zi6 (λf cdv A outer s H vs Q E hr2 h=>?_)
 rcases q:h with⟨r,f0,us,bs,v,rfl,hr,hR,l5,zs,hf,zv,k⟩
 refine⟨_,(zo (zE (vb jW (by rfl) T.nTuple uJ (za (qz (NB:=["place","speed","weight"]) (FR:=["by"]) (js:=[1]) rfl rfl (λx c h=>Xr rfl x c h) (.cons rfl rfl rfl ⟨_,rfl⟩ .nil) rfl (by decide +kernel) rfl (by decide +kernel) (ZR (pv 0)) (by intro _ _ _;refine⟨?_,?_,?_⟩;(exact(Xd (K:=K) (n:=3) rfl rfl (zJ (pgl (i:=0) (show List.Nodup (["place","speed","weight","by"]:List Str) by decide +kernel)) (zJ (pgl (i:=1) (show List.Nodup (["place","speed","weight","by"]:List Str) by decide +kernel)) (zJ (pgl (i:=2) (show List.Nodup (["place","speed","weight","by"]:List Str) by decide +kernel)) xL)))));(exact xI);(exact(zS (za (pv 0) (za (zC cP hr2 (za (pv 1) (za (pv 3) zd))) (za (pv 2) zd))))))) zd)))),?_⟩
 try dsimp only[xc,Cx.nox]
 have hul:us.length=bs.length:=hR.1
 refine⟨_,rL,r,rL,⟨_,SqT.of hr⟩,λDd hDd=>?_⟩
 refine xE (js:=[1]) (J:=Itt K r) (g:=zaE K 3 (v5 (zD 0) (v5 (zD 1) (v5 (zD 2) zbr)))) (te:=_) (n:=3) (xs:=us) (λi x G=>∃b,bs[i]?=some b/\Xj G x (scB v b)) (λi x G G' e ⟨b,q1,q2⟩=>⟨b,q1,q2.keeps e⟩) hDd (Qm hr) (by rw[sizeLine_eq];lia) ?_ ?_
 ·intro i y zs' G5 Q' hy hz S5 hQ
  rcases q:hR.2 i y hy with⟨b,eb,ba,pa,pb,rfl,k1,k2,k3⟩
  obtain⟨w1,w2,w3,rfl⟩:=len3 hz
  refine⟨ba,_,rL,.of (S5 _ _ k1),rL,_,_,rL,_,_,rL,_,_,rL,rL,⟨rL,?_⟩⟩
  refine⟨_,rL,_,rL,_,rL,pb,f0,_,_,rL,k3.same S5,hf.same S5,⟨(zs b (wL eb)).md,zv.md⟩,λq1 G6 s6 hq1=>?_⟩
  refine⟨_,rL,zL3,λt ht=>?_⟩
  have V:=zk.upd (o:=.tup [.ref pa,.ref q1,.int b.wt]) ht
  exact hQ _ _ (s6.trans V) ⟨b,eb,t,pa,q1,rL,zg,(k2.same S5).same (s6.trans V),hq1.same V⟩
 intro ws G6 S6 hDG6 hwl hR6
 refine⟨Dd,ws,rL,.inl ⟨.of hDG6,λz hz=>?_⟩⟩
 have V:=zk.upd (o:=.tup ws) hz
 refine k z ws _ (S6.trans V) zg ⟨by rw[hwl,wc];exact hul,λi x e=>?_⟩
 obtain⟨b,e1,e2⟩:=hR6 i x e
 exact⟨_,by rw[wu,e1];rfl,e2.keeps (.of V)⟩
theorem zdI {x y:Rat}{a b c d n m:Nat}(hx:Bd a x.num) (hxd:Bd b (x.den:Int)) (hy:Bd c y.num) (hyd:Bd d (y.den:Int)) (h1:a+d<=n) (h2:c+b<=n) (h3:b+d<=m):Bd (n+1) (x+y).num/\Bd m ((x+y).den:Int):=by
 have dx:=den_pos x
 have dy:=den_pos y
 have e:x+y=Rat.divInt (x.num*(y.den:Int)+y.num*(x.den:Int)) ((x.den:Int)*(y.den:Int)):=by
  have ex:x=(x.num:Rat)/((x.den:Int):Rat):=by rw[<-wE];exact(wW x).symm
  have ey:y=(y.num:Rat)/((y.den:Int):Rat):=by rw[<-wE];exact(wW y).symm
  have n1:=zO (show (x.den:Int)≠0 by omega)
  have n2:=zO (show (y.den:Int)≠0 by omega)
  rw[wE,yk,wj,wj,wj]
  conv=>lhs;rw[ex,ey]
  generalize ((x.den:Int):Rat)=p at *
  generalize ((y.den:Int):Rat)=q at *
  clear ex ey
  grind
 have nz:(x.den:Int)*(y.den:Int)≠0:=yu (wQ dx dy)
 rw[e]
 constructor
 ·suffices q:Bd (n+1) (x.num*(y.den:Int)+y.num*(x.den:Int))from q.of_le (JZ nz)
  have a1:Bd n (x.num*(y.den:Int)):=(hx.mul hyd).mono h1
  have a2:Bd n (y.num*(x.den:Int)):=(hy.mul hxd).mono h2
  have b1:(x.num*(y.den:Int)).natAbs<2^n:=a1
  have b2:(y.num*(x.den:Int)).natAbs<2^n:=a2
  show (x.num*(y.den:Int)+y.num*(x.den:Int)).natAbs<2^(n+1)
  have:2^(n+1)=2^n+2^n:=by rw[Nat.pow_succ];omega
  generalize 2^n=X at *
  omega
 ·exact((hxd.mul hyd).mono h3).of_le (by
   have:=Xs (t:=x.num*(y.den:Int)+y.num*(x.den:Int)) nz
   omega)
theorem zij {x:Rat}{k:Int}{a b c n:Nat}(hx:Bd a x.num) (hxd:Bd b (x.den:Int)) (hk:Bd c k) (h1:c+a<=n):Bd n ((k:Rat)*x).num/\Bd b (((k:Rat)*x).den:Int):=by
 have dx:=den_pos x
 have e:(k:Rat)*x=Rat.divInt (k*x.num) (x.den:Int):=by
  have ex:x=(x.num:Rat)/((x.den:Int):Rat):=by rw[<-wE];exact(wW x).symm
  rw[wE,wj]
  conv=>lhs;rw[ex]
  grind
 have nz:(x.den:Int)≠0:=by omega
 rw[e]
 constructor
 ·exact((hk.mul hx).mono h1).of_le (JZ nz)
 ·exact hxd.of_le (by
   have:=Xs (t:=k*x.num) nz
   omega)
theorem zgp {Ps:Rat->Prop}{t:Rat}{ms:List Rat}(h:LkQ Ps t none ms):ms=[t]:=by
 refine zak h.1 (List.pairwise_singleton _ _) λx=>?_
 rw[h.2,wU]
 constructor
 ·rintro (e | ⟨r,e,_⟩)
  ·exact e
  ·cases e
 ·exact .inl
structure WsT (H:Hp) (r a q u:Addr) (us:List V) (bs:List Bl) (lo hi uu:Rat) (k:Int) (y x:Rat):Prop where
 ev:EvS H r a us bs lo hi uu
 hk:0<=k/\k<bs.length
 hq:zr H q y
 hy:PlZ lo hi y
 hu:zr H u x
 hx:TmW x
inductive zhb  (vs:List V) (H:Hp) (Q:VK) (_e3:XK):Prop
 |mk:∀r a q u us bs lo hi uu k y x,(vs=[.ref r,.ref a,.int k,.ref q,.ref u])->(WsT H r a q u us bs lo hi uu k y x)->(∀v o H',zk H H'->qk lo hi (lsQ bs) k y x o->zb0 lo hi (lsQ bs) y x o->zar o->vA H' v o->Q v H')->zhb vs H Q _e3
theorem zkm (c:Vm P w K mg base "when" 10 ["row","walls","k","place","t"] [] (zha CE)):Cal P w K mg base "when" 10 ["row","walls","k","place","t"] [] zhb :=
 c.quiet λvs H Q E ⟨r,a,q,u,us,bs,lo,hi,uu,k,y,x,e,W,kk⟩=>by
  subst e
  exact W.ev.tell W.hk W.hq W.hy W.hu W.hx kk
theorem Xg:SeqAt.shaped (.str "at")=true:=by decide +kernel
theorem jU:SeqAt.shaped (.str "never")=true:=by decide +kernel
theorem XU:PyData.eqv (.str "at") (.str "never")=false:=by decide +kernel
theorem zbY:PyData.eqv (.str "never") (.str "at")=false:=by decide +kernel
theorem J8 (ms:List Rat):SeqAt.shaped (.list (ms.map raD))=true:=(Lay.lst (n:=1) λd m=>by obtain⟨q,_,rfl⟩:=wf.mp m;exact Lay.rat q).shaped (by decide)
inductive zg9  (vs:List V) (H:Hp) (Q:VK) (_e3:XK):Prop
 |mk:∀p r a q u us bs lo hi uu k y x,(vs=[.ref p,.ref r,.ref a,.int k,.ref q,.ref u])->(vV H p)->(WsT H r a q u us bs lo hi uu k y x)->(TmZ x)->(∀H',xt p H H'->Q (.bl true) H')->zg9 vs H Q _e3
theorem QP:zB ["pool","row","walls","k","place","t","word","told","found","more","late"] ["pool","row","walls","k","place","t"] (zj qJ):=scq
theorem ziA (D:Df K mg "_law_rounds_right" qJ ["pool","row","walls","k","place","t"] []) (T:TxB K mg) (cF:Cal P w K mg base "_law_far" 2 ["pool"] [] za1) (cS:Cal P w K mg base "_law_sum" 2 ["one","other"] [] (qt Sz2 (· + ·))) (cP:Cal P w K mg base "_law_product" 2 ["one","other"] [] (qt Sz2 (· * ·))) (cLs:Cal P w K mg base "_law_less" 1 ["one","other"] [] VM)
  (cWh:Cal P w K mg base "when" 10 ["row","walls","k","place","t"] [] zhb) (cRo:Cal P w K mg base "round_of" 9 ["row","walls"] [] za3) :
  Cal P w K mg base "_law_rounds_right" 11 ["pool","row","walls","k","place","t"] [] zg9:=by
 refine D.calq (k:=10) QP (λf cdv A outer s H vs Q E hr10 h=>?_)
 have hr9:xb 9 _:=hr10.md
 have hr1:xb 1 _:=hr10.md
 have hr2:xb 2 _:=hr10.md
 have hu:=hr10.units
 rcases q:h with⟨p,r,a,q,u,us,bs,lo,hi,uu,k,y,x,rfl,hP,W,hx,kk⟩
 refine⟨_,(ze (vP (zC cWh hr10 (za (pv 1) (za (pv 2) (za (pv 3) (za (pv 4) (za (pv 5) zd)))))) (qH rL (zJ (pgl (i:=6) QP.nd) (zJ (pgl (i:=7) QP.nd) xL))))
  (ze (psl (i:=8) QP.nd (zC cRo hr9 (za (pv 1) (za (pv 2) zd))))
  (ze (xv (zH qP (pv 8) xB (zF _)) (zo (zE (zhz (qD (xY (jX hu) (pv 6) Zq (zF _)) (vc (xY (jX hu) (pv 7) (xR (za (pv 5) zd)) (zF _)))) (vc (xY (jX hu) (zS (za (pv 6) (za (pv 7) zd))) (zS (za Zq (za (pv 5) zd))) (zF _)))))) zU)
  (ze (ZS (i:=9) QP.nd rfl (Or.inr rfl) (zC cP hr2 (za (pxt (pv 8)) (za (zS (za (zu xp zi (zC cF hr2 (za (pv 0) zd))) (za zi zd))) zd))))
  (ze (psl (i:=10) QP.nd (zC cWh hr10 (za (pv 1) (za (pv 2) (za (pv 3) (za (pv 4) (za (zC cS hr2 (za (pv 5) (za (pv 9) zd))) zd)))))))
  (ze (xv (zH (jX hu) (pv 6) Zq (zF _)) (zo (zE (qD (xY (jX hu) (pv 10) (zS (za Zq (za (zC cS hr2 (za (pv 7) (za (pv 9) zd))) zd))) (zF _)) (vc (zeS (zC cLs hr1 (za (zC cS hr2 (za (pv 5) (za (pxt (pv 8)) zd))) (za (pv 7) zd)))))))) zU)
  (zo (zE (xY (jX hu) (pv 10) (zS (za (pv 6) (za (qz (NB:=["moment"]) (FR:=["more"]) (js:=[9]) rfl rfl (λx c h=>Xr rfl x c h) (.cons rfl rfl rfl ⟨_,rfl⟩ .nil) rfl (by decide +kernel) rfl (by decide +kernel) (xk (pv 7)) (by intro _ _ _;refine⟨?_,?_,?_⟩;(exact(pgl (i:=0) (show List.Nodup (["moment","more"]:List Str) by decide +kernel)));(exact xI);(exact(zC cS hr2 (za (pv 0) (za (pv 1) zd)))))) zd))) (zF _)))))))))),?_⟩
 try dsimp only[xc,Cx.nox]
 have lh:=W.ev.lh
 refine zG (λσ' G=>∃wd v tr o,σ'=[Sr p,Sr r,Sr a,Si k,Sr q,Sr u,some wd,some v,none,none,none]/\zk H G/\qk lo hi (lsQ bs) k y x o/\zb0 lo hi (lsQ bs) y x o/\zar o/\vA G (.ref tr) o/\G tr=some (.tup [wd,v])) ?_ ?_
 rotate_left
 ·intro nx hnx
  refine⟨_,rL,_,rL,_,rL,_,rL,_,rL,r,a,q,u,us,bs,lo,hi,uu,k,y,x,rL,W,λv o G S t n z oa=>?_⟩
  cases o with
  |inl m =>
   rcases q:id oa with⟨tr,tq,rfl,h1,h2⟩
   refine⟨tr,_,rL,.of h1,rL,_,_,rL,_,_,rL,rL,?_⟩
   dsimp only[zD]
   exact hnx _ _ ⟨_,_,tr,_,rL,S,t,n,z,oa,h1⟩
  |inr ms =>
   rcases q:id oa with⟨tr,L,us',rfl,h1,h2,h3,h4⟩
   refine⟨tr,_,rL,.of h1,rL,_,_,rL,_,_,rL,rL,?_⟩
   dsimp only[zD]
   exact hnx _ _ ⟨_,_,tr,_,rL,S,t,n,z,oa,h1⟩
 rintro σ1 G1 hQq;rcases q:hQq with⟨wd,v,tr,o,rfl,S1,tell,near,osz,oat,htr⟩
 have EV1:=W.ev.tups (.of S1)
 refine zG (λσ' G=>∃f8,σ'=[Sr p,Sr r,Sr a,Si k,Sr q,Sr u,some wd,some v,some f8,none,none]/\zk G1 G/\((f8=.non/\RdO lo hi (lsQ bs) none)\/∃zz qR l R,f8=.ref zz/\G zz=some (.tup [.ref qR,.ref l])/\zr G qR R/\RdO lo hi (lsQ bs) (some R)/\Bd 20 R.num/\Bd 24 (R.den:Int))) ?_ ?_
 rotate_left
 ·intro nx hnx
  refine⟨_,rL,_,rL,?_⟩
  dsimp only[Z6]
  refine EV1.round (λhr G S=>hnx _ _ ⟨_,rL,S,.inl ⟨rL,hr⟩⟩) (λR hr hb zz qR l G S h1 h2=>hnx _ _ ⟨_,rL,S,.inr ⟨zz,qR,l,R,rL,h1,h2,hr,hb⟩⟩)
 rintro σ2 G2 ⟨f8,rfl,S2,hf⟩
 have oat:=oat.same S2
 have htr:=S2 _ _ htr
 have S12:=S1.trans S2
 have hu2:=W.hu.same S12
 rcases hf with⟨rfl,hr⟩ | ⟨zz,qR,l,R,rfl,hzz,hqR,hr,bR1,bR2⟩
 ·
  refine⟨_,rL,rL,_,rL,xO ?_⟩
  cases o with
  |inl m =>
   rcases q:oat with⟨tr',tq,e,h1,h2⟩
   cases e
   rw[htr]at h1;cases h1
   have em:m=x:=by
    obtain⟨R',hr',c⟩:=near
    have:=RdO.uniq lh hr' hr
    subst this
    rcases c with c | ⟨_,e,_⟩
    ·exact c
    ·cases e
   subst em
   refine⟨_,rL,?_⟩
   dsimp only[tC]
   refine JO (.str _) (.str _) Xg jU XU ⟨_,rL,xz ⟨_,rL,xz ?_⟩⟩
   refine⟨_,rL,_,rL,zL2,λe1 he1=>?_⟩
   have U1:=zk.upd (o:=.tup [.str "at",.ref tq]) he1
   refine⟨_,rL,zL2,λe2 he2=>?_⟩
   have U2:=zk.upd (o:=.tup [.str "at",.ref u]) he2
   exact vZ (d:=atD m) (.tup (U2 _ _ zg) (.cons (.str _) (.cons (zr.rdD (h2.same (U1.trans U2))) .nil))) (.tup zg (.cons (.str _) (.cons (zr.rdD (hu2.same (U1.trans U2))) .nil))) (zdL m) (kk _ ((xt.refl hP).same (S12.trans (U1.trans U2))))
  |inr ms =>
   rcases q:oat with⟨tr',L,us',e,h1,h2,h3,h4⟩
   cases e
   rw[htr]at h1;cases h1
   have em:ms=[x]:=by
    obtain⟨_,R',hr',c⟩:=tell
    have:=RdO.uniq lh hr' hr
    subst this
    exact zgp c
   subst em
   refine⟨_,rL,?_⟩
   dsimp only[tC]
   refine vZ (.str _) (.str _) jU ⟨_,rL,xO ?_⟩
   refine⟨_,rL,_,rL,zL1,λe1 he1=>?_⟩
   have U1:=zk.upd (o:=.lst [.ref u]) he1
   exact vZ (d:=.list ([x].map raD)) (.lst (U1 _ _ h2) (vq (h3.same U1))) (.lst zg (.cons (zr.rdD (hu2.same U1)) .nil)) (J8 _) ⟨_,rL,xO (kk _ ((xt.refl hP).same (S12.trans U1)))⟩
 ·refine zG (λσ' G=>σ'=[Sr p,Sr r,Sr a,Si k,Sr q,Sr u,some wd,some v,Sr zz,none,none]/\G=G2) ?_ ?_
  rotate_left
  ·intro nx hnx
   exact⟨_,rL,rL,_,rL,xz (hnx _ _ ⟨rL,rL⟩)⟩
  rintro σ3 G3 ⟨rfl,eG⟩
  rw[eG];clear eG
  have hP2:vV G2 p:=((xt.refl hP).same S12).pool
  refine zG (λσ' G=>∃mq,∃n:Nat,σ'=[Sr p,Sr r,Sr a,Si k,Sr q,Sr u,some wd,some v,Sr zz,Sr mq,none]/\xt p G2 G/\zr G mq (((n:Int):Rat)*R)/\n<=1000000000000000000000) ?_ ?_
  rotate_left
  ·intro nx hnx
   refine⟨_,rL,zz,_,_,_,rL,rL,.of hzz,rL,?_⟩
   refine⟨_,rL,p,rL,hP2,λfar G4 f0 f1 t4=>⟨_,_,rL,rL,zL2,λe he=>?_⟩⟩
   obtain⟨n,hn⟩:=WL (show 0<=1+far by lia)
   have U:=zk.upd (o:=.tup [.int (1+far),.int 1]) he
   have q1:zr (upd G4 e (.tup [.int (1+far),.int 1])) e ((n:Int):Rat):=by
    show upd G4 e (.tup [.int (1+far),.int 1]) e=some (.tup [.int ((n:Int):Rat).num,.int (((n:Int):Rat).den:Int)])
    rw[Wp,WS,<-hn];exact zg
   have bn:Bd 71 (n:Int):=by
    have:(2361183241434822606848:Nat)=2^71:=by decide
    show (n:Int).natAbs<2^71
    lia
   refine⟨qR,e,R,((n:Int):Rat),rfl,(t4.rat hP2 hqR).same U,q1,⟨⟨bR1.md,bR2.md⟩,⟨by rw[Wp];exact bn.md,by rw[WS];exact Bd.mono (m:=2) (show ((1:Nat):Int).natAbs<2^2 by decide) (by decide)⟩⟩,λmq G5 S5 hm=>?_⟩
   have hm':zr G5 mq (R*((n:Int):Rat)):=hm
   rw[Yt]at hm'
   exact hnx _ _ ⟨mq,n,rfl,t4.same (U.trans S5),hm',by lia⟩
  rintro σ4 G4 hQq;rcases q:hQq with⟨mq,n,rfl,t4,hmq,n1⟩
  have bn:Bd 71 (n:Int):=by
   have:(2361183241434822606848:Nat)=2^71:=by decide
   show (n:Int).natAbs<2^71
   lia
  obtain⟨bm1,bm2⟩:=zij (k:=(n:Int)) (n:=95) bR1 bR2 bn (by decide)
  have zx1:Bd 101 x.num:=hx.1
  have zx2:Bd 4 (x.den:Int):=hx.2
  have wM:TmW (x+((n:Int):Rat)*R):=by
   obtain⟨c1,c2⟩:=zdI (n:=140) (m:=44) zx1 zx2 bm1 bm2 (by decide) (by decide) (by decide)
   exact⟨c1.md,c2⟩
  have late:=qk.late lh hr.2 hr n tell
  have zM:Sz 4000 (((n:Int):Rat)*R):=⟨bm1.md,bm2.md⟩
  have zX:Sz 4000 x:=⟨zx1.md,zx2.md⟩
  have zR:Sz 4000 R:=⟨bR1.md,bR2.md⟩
  have EV4:=(EV1.tups (.of S2)).tups (λb xs h=>t4.tup hP2 h)
  have hq4:=t4.rat hP2 (W.hq.same S12)
  have hu4:=t4.rat hP2 hu2
  have T4:xt p H G4:=((xt.refl hP).same S12).trans t4
  generalize ((n:Int):Rat)*R=d at *
  refine zG (λσ' G=>∃v10,σ'=[Sr p,Sr r,Sr a,Si k,Sr q,Sr u,some wd,some v,Sr zz,Sr mq,some v10]/\zk G4 G/\vA G v10 (zeM d o)) ?_ ?_
  rotate_left
  ·intro nx hnx
   refine⟨_,rL,_,rL,_,rL,_,rL,_,rL,_,rL,u,mq,x,d,rL,hu4,hmq,⟨zX,zM⟩,λsq G5 S5 hs=>?_⟩
   refine⟨r,a,q,sq,us,bs,lo,hi,uu,k,y,x+d,rL,⟨EV4.tups (.of S5),W.hk,hq4.same S5,W.hy,hs,wM⟩,λv2 o2 G6 S6 tell2 _ _ oa2=>?_⟩
   have eo:o2=zeM d o:=qk.uniq lh tell2 late
   rw[eo]at oa2
   exact hnx _ _ ⟨v2,rL,S5.trans S6,oa2⟩
  rintro σ5 G5 ⟨v10,rfl,S5,oa5⟩
  have hmq5:=hmq.same S5
  have hu5:=hu4.same S5
  have tu:xx G2 G5:=λb xs h=>S5 _ _ (t4.tup hP2 h)
  have hzz5:=tu _ _ hzz
  have hqR5:zr G5 qR R:=tu _ _ hqR
  have htr5:=tu _ _ htr
  cases o with
  |inl m =>
   rcases q:oat with⟨tr',tq,e,h1,h2⟩
   cases e
   rw[htr]at h1;cases h1
   have h2:zr G5 tq m:=tu _ _ h2
   have zm:Sz 3000 m:=osz
   have mle:¬x+R<m:=by
    obtain⟨R',hr',c⟩:=near
    have:=RdO.uniq lh hr' hr
    subst this
    have r0:=hr.2.r0
    rcases c with c | ⟨_,e,c1,c2,_⟩
    ·grind
    ·cases e;grind
   refine⟨_,rL,?_⟩
   dsimp only[tC]
   refine vZ (.str _) (.str _) Xg ⟨_,rL,xO ?_⟩
   refine⟨_,rL,_,rL,_,rL,tq,mq,m,d,rL,h2,hmq5,⟨zm.md,zM⟩,λsq G6 S6 hs=>?_⟩
   refine⟨zL2,λe1 he1=>?_⟩
   have U1:=zk.upd (o:=.tup [.str "at",.ref sq]) he1
   refine vZ (d:=atD (m+d)) ((oa5.same S6).same U1).rd (.tup zg (.cons (.str _) (.cons (zr.rdD (hs.same U1)) .nil))) (zdL _) ⟨_,rL,xO ?_⟩
   have S7:=S6.trans U1
   refine⟨_,rL,_,rL,zz,_,_,_,rL,rL,.of (S7 _ _ hzz5),rL,u,qR,x,R,rL,hu5.same S7,hqR5.same S7,⟨zX,zR⟩,λs2 G8 S8 hs2=>?_⟩
   refine⟨_,rL,s2,tq,x+R,m,rL,hs2,(h2.same S7).same S8,?_,zm.md,⟨_,rL,?_⟩⟩
   ·obtain⟨c1,c2⟩:=zdI (n:=140) (m:=44) zx1 zx2 bR1 bR2 (by decide) (by decide) (by decide)
    exact⟨c1.md,c2.md⟩
   ·rw[wy mle]
    exact kk _ (T4.same (S5.trans (S7.trans S8)))
  |inr ms =>
   rcases q:oat with⟨tr',L,us',e,h1,h2,h3,h4⟩
   cases e
   rw[htr]at h1;cases h1
   have h2:G5 L=some (.lst us'):=by
    refine S5 _ _ (t4.keep L _ h2 λe=>?_)
    obtain⟨a1,a2,a3,ea⟩:=hP2
    rw[e,ea]at h2
    cases h2
    rcases q:h3.2 0 (.int a1) rfl with⟨_,_,_,e3,_⟩
    cases e3
   have zm:∀m∈ms,Sz 3000 m:=osz
   refine zG (λσ' G=>σ'=[Sr p,Sr r,Sr a,Si k,Sr q,Sr u,some (.str "never"),Sr L,Sr zz,Sr mq,some v10]/\G=G5) ?_ ?_
   rotate_left
   ·intro nx hnx
    refine⟨_,rL,?_⟩
    dsimp only[tC]
    exact JO (.str _) (.str _) jU Xg zbY ⟨_,rL,xz (hnx _ _ ⟨rL,rL⟩)⟩
   rintro σ6 G6 ⟨rfl,eG⟩
   rw[eG];clear eG
   refine⟨_,rL,_,rL,_,rL,L,rL,⟨_,SqL.of h2⟩,λDe hDe=>?_⟩
   refine xE (js:=[9]) (J:=Itl K L) (g:=zD 0) (te:=_) (n:=1) (xs:=us') (λi v G=>∃t rq,ms[i]?=some t/\v=.ref rq/\zr G rq (t+d)) (λi v G G' e ⟨t,rq,q0,q1,q2⟩=>⟨t,rq,q0,q1,e _ _ q2⟩) hDe (xq h2) (by rw[sizeLine_eq];lia) ?_ ?_
   ·intro i y zs G Q' hy hz SG hQ
    rcases q:h3.2 i y hy with⟨mm,rq,e1,rfl,e3⟩
    obtain⟨w1,rfl⟩:=Xm hz
    have zz:=zm mm (wL e1)
    have e3:zr G rq mm:=SG _ _ (tu _ _ e3)
    dsimp only[zD]
    refine⟨rL,_,rL,_,rL,rq,mq,mm,d,rL,e3,hmq5.same SG,⟨zz.md,zM⟩,λsq G10 S10 hs=>hQ _ _ S10 ⟨mm,sq,e1,rL,hs⟩⟩
   intro us9 G SG hDG hul9 hR9
   have hr9:ZK G us9 (ms.map (· + d)):=⟨by rw[hul9,h3.1,wc],λi v e=>by
    rcases q:hR9 i v e with⟨t,rq,f1,f2,f3⟩
    exact⟨_,rq,by rw[wu,f1];rfl,f2,f3⟩⟩
   refine⟨zL2,λe1 he1=>?_⟩
   have U1:=zk.upd (o:=.tup [.str "never",.ref De]) he1
   exact vZ (d:=zik (ms.map (· + d))) ((oa5.same SG).same U1).rd (.tup zg (.cons (.str _) (.cons (.lst (U1 _ _ hDG) (vq (hr9.same U1))) .nil))) (zeD _) (kk _ (T4.same (S5.trans (SG.trans U1))))
theorem hidw {A:Prop}(h:∀P:Prop,(A->P)->P):A:=h A id
theorem zkM {x:Rat}(h:TmZ x):TmW x:=⟨h.1.md,h.2.md⟩
theorem VP {p:Addr}{H H':Hp}(hP:vV H p) (s:xt p H H'):xx H H':=λ_ _ e=>s.tup hP e
theorem EvA.mir {H H':Hp}{r a:Addr}{us:List V}{bs:List Bl}{g j d c w jp dp:Int}(h:EvA H r a us bs g j d c w jp dp) (LB:∀b∈bs,Qs (Rat.divInt g 6) b.pl) (off:∀b∈bs,0<b.sp->b.pl<zA g j d+zN g c*(w:Rat)) (S:zk H H'){z:Addr}{ys:List V}(h1:H' z=some (.tup ys)) (h2:qi H' ys (bs.reverse.map (mrB (zA g j d) (zA g j d+zN g c*(w:Rat))))) :
  EvA H' z a ys (bs.reverse.map (mrB (zA g j d) (zA g j d+zN g c*(w:Rat)))) g j d c w jp dp:=by
 have hl:(bs.reverse.map (mrB (zA g j d) (zA g j d+zN g c*(w:Rat)))).length=bs.length:=by rw[wc,yp]
 have h':=h.tups (.of S)
 obtain⟨wt,hwt⟩:=h.wt
 refine⟨h1,h2,by rw[hl];exact h.l1,by rw[hl];exact h.l5,h.G,λb' mb=>?_,⟨wt,λb' mb=>?_⟩,h'.W⟩
 ·obtain⟨b,hb,rfl⟩:=wf.mp mb
  have hb:=uO.mp hb
  exact BlF.mir h.G (h.F b hb) (LB b hb) (off b hb)
 ·obtain⟨b,hb,rfl⟩:=wf.mp mb
  exact hwt b (uO.mp hb)
theorem zii {lo hi:Rat}{bs:List Bl}:(lsQ (bs.reverse.map (mrB lo hi))).Perm ((lsQ bs).map (mrQ lo hi)):=by
 have e:lsQ (bs.reverse.map (mrB lo hi))=bs.reverse.map λb=>mrQ lo hi (b.pl,b.sp):=by unfold lsQ;rw[wD];rfl
 have e2:(lsQ bs).map (mrQ lo hi)=bs.map λb=>mrQ lo hi (b.pl,b.sp):=by unfold lsQ;rw[wD];rfl
 rw[e,e2]
 exact(List.reverse_perm bs).map _
theorem zjY {f:Rat}{bs:List Bl}:(lsQ (bs.map (scB f))).Perm ((lsQ bs).map (scQ f)):=by
 refine .of_eq ?_
 unfold lsQ
 rw[wD,wD];rfl
theorem vA.two {G G':Hp}{tr e:Addr}{wd v:V}{o:Rat ⊕ List Rat}(h:vA G (.ref tr) o) (ht:G tr=some (.tup [wd,v])) (S:zk G G') (he:G' e=some (.tup [wd,v])):RdD G' (.ref e) (zgG o):=by
 cases o with
 |inl m =>
  obtain⟨tr',tq,q,h1,h2⟩:=h
  cases q
  rw[ht]at h1;cases h1
  exact .tup he (.cons (.str _) (.cons (zr.rdD (h2.same S)) .nil))
 |inr ms =>
  obtain⟨tr',L,us',q,h1,h2,h3,_⟩:=h
  cases q
  rw[ht]at h1;cases h1
  exact .tup he (.cons (.str _) (.cons (.lst (S _ _ h2) (vq (h3.same S))) .nil))
theorem vA.step {G G':Hp}{p:Addr}{v:V}{o:Rat ⊕ List Rat}(h:vA G v o) (hP:vV G p) (t:xt p G G'):vA G' v o:=by
 cases o with
 |inl m =>
  obtain⟨tr',tq,q,h1,h2⟩:=h
  exact⟨tr',tq,q,t.tup hP h1,t.rat hP h2⟩
 |inr ms =>
  obtain⟨tr',L,us',q,h1,h2,h3,h4⟩:=h
  refine⟨tr',L,us',q,t.tup hP h1,t.keep L _ h2 λe=>?_,⟨h3.1,λi v e=>?_⟩,h4⟩
  ·obtain⟨a1,a2,a3,ea⟩:=hP
   rw[e,ea]at h2
   cases h2
   obtain⟨_,_,_,e3,_⟩:=h3.2 0 (.int a1) rfl
   cases e3
  ·obtain⟨x,r,e1,e2,e3⟩:=h3.2 i v e
   exact⟨x,r,e1,e2,t.rat hP e3⟩
inductive za2 (K:Fg) (vs:List V) (H:Hp) (Q:VK) (_e3:XK):Prop
 |mk:∀(a:Addr) (ns:List Int),(vs=[.ref a])->(SqL K H a (ns.map V.int))->(ns.length<=63)->(∀H',Q (.bl true) H')->za2 K vs H Q _e3
theorem qU:zB ["script","k","pool","row","walls","ball","place","t","word","told","both","by","slow","due"] ["script"] (zj s_law):=scq
theorem zit {fl:Addr}{fdl:FuncData}(F:Fun K "law" "law" s_law fl fdl) (T:TxB K mg) (cC:Cal P w K mg base "_law_cell" 1 ["script","k"] [] (zbS K)) (cD:Cal P w K mg base "_law_dig" 1 ["cell"] [] zfm) (cN:Cal P w K mg base "_law_next" 1 ["pool","base"] [] XT) (cLo:Cal P w K mg base "_law_lowest" 1 ["top","bottom"] [] vt) (cS:Cal P w K mg base "_law_sum" 2 ["one","other"] [] (qt Sz2 (· + ·))) (cMi:Cal P w K mg base "_law_minus" 3 ["one","other"] [] (qt Sz2 (· - ·))) (cOv:Cal P w K mg base "_law_over" 2 ["one","other"] [] (qt (λx y=>Sz2 x y/\y≠0) (· / ·)))
  (cEv:Cal P w K mg base "_law_even" 4 ["pool","most"] [] zhM) (cWi:Cal P w K mg base "_law_wish" 4 ["pool","row","walls"] [] zjt) (cMr:Cal P w K mg base "_law_mirrored" 4 ["row","walls"] [] zfq) (cSl:Cal P w K mg base "_law_scaled" 3 ["row","by"] [] zfw) (cRr:Cal P w K mg base "_law_rounds_right" 11 ["pool","row","walls","k","place","t"] [] zg9) (cWh:Cal P w K mg base "when" 10 ["row","walls","k","place","t"] [] zhb) :
  ZH P w K mg base CX0 12 fl fdl ["script"] (za2 K):=by
 refine F.okq (k:=11) qU (λcdv A outer s H vs Q E hr h=>?_)
 rcases q:h with⟨a0,ns,rfl,hS,hlen,kk⟩
 have hr1:xb 1 _:=hr.md
 have hr2:xb 2 _:=hr.md
 have hr3:xb 3 _:=hr.md
 have hr4:xb 4 _:=hr.md
 have hr10:xb 10 _:=hr.md
 have hu:=hr.units
 refine⟨_,(ze (vd PassesOwn.never rfl (Xe rfl T.nRange (za (zQ (V8 rfl) (by rfl) T.nMax W2 (za zi (za (zQ (zcV rfl) (by rfl) T.nMin PyProof.Rows.boot_min (za zi (za (zQ xj (by rfl) T.nLen PySem.boot_len (za (pv 0) zd)) zd))) zd))) zd)) (pgl (i:=1) qU.nd) (ze (psl (i:=2) qU.nd (zC cD hr1 (za (zC cC hr1 (za (pv 0) (za (pv 1) zd))) zd)))
  (ze (vP (zC cEv hr4 (za (pv 2) (za zi zd))) (qH rfl (zJ (pgl (i:=3) qU.nd) (zJ (pgl (i:=4) qU.nd) xL))))
  (ze (vP (zC cWi hr4 (za (pv 2) (za (pv 3) (za (pv 4) zd)))) (qH rfl (zJ (pgl (i:=5) qU.nd) (zJ (pgl (i:=6) qU.nd) (zJ (pgl (i:=7) qU.nd) xL)))))
  (ze (vP (zC cWh hr10 (za (pv 3) (za (pv 4) (za (pv 5) (za (pv 6) (za (pv 7) zd)))))) (qH rfl (zJ (pgl (i:=8) qU.nd) (zJ (pgl (i:=9) qU.nd) xL))))
  (ze (psl (i:=10) qU.nd (zC cS hr2 (za (pxt (pxt (pv 4))) (za (pxt (pxt (pv 4))) zd))))
  (ze (xv (zH (zbI hu) (zC cWh hr10 (za (zC cMr hr4 (za (pv 3) (za (pv 4) zd))) (za (pv 4) (za (zu qh (zu qh (zQ xj (by rfl) T.nLen PySem.boot_len (za (pv 3) zd)) zi) (pv 5)) (za (zC cMi hr3 (za (pv 10) (za (pv 6) zd))) (za (pv 7) zd)))))) (zS (za (pv 8) (za (pv 9) zd))) (zF _)) (zo (zE VC)) zU)
  (ze (ZS (i:=11) qU.nd rfl (Or.inr rfl) (zC cLo hr1 (za (zu xp zi (zC cN hr1 (za (pv 2) (za zi zd)))) (za (zu xp zi (zC cN hr1 (za (pv 2) (za zi zd)))) zd))))
  (ze (psl (i:=12) qU.nd (zC cWh hr10 (za (zC cSl hr3 (za (pv 3) (za (pv 11) zd))) (za (pv 4) (za (pv 5) (za (pv 6) (za (zC cOv hr2 (za (pv 7) (za (pv 11) zd))) zd)))))))
  (ze (Qk (i:=13) (NB:=["moment"]) (FR:=["by"]) (js:=[11]) rfl rfl (λx c h=>Xr rfl x c h) (.cons rfl rfl rfl ⟨_,rfl⟩ .nil) rfl (by decide +kernel) rfl (by decide +kernel) qU.nd rfl rfl (by rfl) (xk (qp qy (xR (za (xR (za (pv 9) zd)) (za (pv 9) zd))) (vb Qw (by rfl) T.nInt Wo (za (xY (jX hu) (pv 8) Zq (zF _)) zd)) (λ_ _=>rfl))) (by intro _ _ _;refine⟨?_,?_,?_⟩;(exact(pgl (i:=0) (show List.Nodup (["moment","by"]:List Str) by decide +kernel)));(exact xI);(exact(zC cOv hr2 (za (pv 0) (za (pv 1) zd))))))
  (ze (xv (Ql (zH (zbI hu) (pxt (pv 12)) (pv 8) (zF _)) (Xz (zH (zbI hu) (qp qy (xR (za (xR (za (pxt (pv 12)) zd)) (za (pxt (pv 12)) zd))) (vb Qw (by rfl) T.nInt Wo (za (xY (jX hu) (pv 8) Zq (zF _)) zd)) (λ_ _=>rfl)) (pv 13) (zF _)))).pt (zo (zE VC)) zU)
  (zo (xv (Zs (qr (zC cRr hr (za (pv 2) (za (pv 3) (za (pv 4) (za (pv 5) (za (pv 6) (za (pv 7) zd))))))) λ_=>rfl)) (zo (zE VC)) zU)))))))))))))
  (zo (zE VC))),?_⟩
 try dsimp only[xc,Cx.nox]
 refine⟨_,rL,a0,_,rL,.inl hS,_,_,rL,_,_,rL,_,rL,?_,?_,?_⟩
 ·simp only[wc];split <;> split <;> lia
 ·simp only[wc];split <;> split <;> lia
 refine Xt (lo:=0) (λi σ H2=>∃y1 y2 y3 y4 y5 y6 y7 y8 y9 y10 y11 y12 y13,σ=[Sr a0,y1,y2,y3,y4,y5,y6,y7,y8,y9,y10,y11,y12,y13]/\zk H H2) ⟨_,_,_,_,_,_,_,_,_,_,_,_,_,rL,zk.refl _⟩ ?_ ?_
 rotate_left
 ·rintro σ H2 _
  exact kk _
 rintro i0 σ H2 N B hi hz hN
 refine hidw λPQq kQq=>?_;obtain⟨y1,y2,y3,y4,y5,y6,y7,y8,y9,y10,y11,y12,y13,rfl,s2⟩:=hz;refine kQq ?_;clear kQq
 dsimp only[zD]
 have hi63:i0<1000:=by
  revert hi;simp only[wc];split <;> split <;> lia
 obtain⟨i,hi'⟩:∃i:Int,(0:Int)+(i0:Int)=i:=⟨_,rfl⟩
 rw[hi']
 have i0':0<=i:=by lia
 have i1:i<1000:=by lia
 clear hi hi'
 refine zfC λnx hnx=>?_
 refine⟨_,rL,_,rL,a0,ns,i,rL,s2.seq hS,i0',i1,λcc=>⟨cc,rL,λp G1 hp s1 hP=>?_⟩⟩
 have nP:∀b o,H b=some o->b≠p:=λb o e q=>by have:=s2 _ _ e;rw[q,hp]at this;cases this
 dsimp only[zD]
 refine hnx _ _ ?_
 refine zfC λnx hnx=>?_
 refine⟨_,rfl,p,4,rfl,by decide,by decide,hP,λtt r a us bs g j d c w' jp dp G2 n t2 ht hr' hR l1 l2 l3 hG hB hW=>?_⟩
 refine⟨tt,_,rL,.of ht,rL,_,_,rL,_,_,rL,rL,?_⟩
 dsimp only[zD]
 refine hnx _ _ ?_
 refine zfC λnx hnx=>?_
 have ft:=hB.fit hG ∅ l3
 have LB:=hB.lat hG ∅ l3
 have off:=hB.off hG ∅
 have EA:EvA G2 r a us bs g j d c w' jp dp:=⟨hr',hR,l1,by lia,hG,ft.1,ft.2,hW⟩
 refine⟨_,rL,_,rL,_,rL,p,r,a,us,bs,g,j,d,c,w',jp,dp,rL,t2.pool,EA,LB,λz q u kb y x G3 t3 hz k0 k1 hq hu' ly hy hx=>?_⟩
 refine⟨z,_,rL,.of hz,rL,_,_,rL,_,_,rL,_,_,rL,rL,?_⟩
 dsimp only[zD]
 refine hnx _ _ ?_
 have EA:=EA.tups (VP t2.pool t3)
 have hP3:=t3.pool
 have back:∀G',xt p G3 G'->zk H G':=λG' t=>λb o e=>(t2.trans (t3.trans t)).keep b o (s1 _ _ (s2 _ _ e)) (nP b o e)
 clear s2 s1 t2 t3 ht hz nP hr' hR hW hB ft hP hp hnx nx
 have hul:us.length=bs.length:=EA.R.1
 have lh:=EA.lh
 have xW:=zkM hx
 have zx:Sz 150 x:=⟨xW.1,xW.2.md⟩
 refine zG (λσ' G=>∃wd v tr o,σ'=[Sr a0,Si i,Sr p,Sr r,Sr a,Si kb,Sr q,Sr u,some wd,some v,y10,y11,y12,y13]/\zk G3 G/\qk (zA g j d) (zA g j d+zN g c*(w':Rat)) (lsQ bs) kb y x o/\zb0 (zA g j d) (zA g j d+zN g c*(w':Rat)) (lsQ bs) y x o/\zar o/\vA G (.ref tr) o/\G tr=some (.tup [wd,v])) ?_ ?_
 rotate_left
 ·intro nx hnx
  refine⟨_,rL,_,rL,_,rL,_,rL,_,rL,r,a,q,u,us,bs,_,_,_,kb,y,x,rL,⟨EA.s,⟨k0,k1⟩,hq,hy,hu',xW⟩,λv o G S t n z oa=>?_⟩
  cases o with
  |inl m =>
   rcases q:id oa with⟨tr,tq,rfl,h1,h2⟩
   refine⟨tr,_,rL,.of h1,rL,_,_,rL,_,_,rL,rL,?_⟩
   dsimp only[zD]
   exact hnx _ _ ⟨_,_,tr,_,rL,S,t,n,z,oa,h1⟩
  |inr ms =>
   rcases q:id oa with⟨tr,L,us',rfl,h1,h2,h3,h4⟩
   refine⟨tr,_,rL,.of h1,rL,_,_,rL,_,_,rL,rL,?_⟩
   dsimp only[zD]
   exact hnx _ _ ⟨_,_,tr,_,rL,S,t,n,z,oa,h1⟩
 rintro σ1 G4 hQq;rcases q:hQq with⟨wd,v,tr,o,rfl,S4,tell,near,osz,oat,htr⟩
 obtain⟨R,hr'⟩:∃R,RdO (zA g j d) (zA g j d+zN g c*(w':Rat)) (lsQ bs) R:=by
  cases o with
  |inl m=>obtain⟨R,h,_⟩:=near;exact⟨R,h⟩
  |inr ms=>obtain⟨_,R,h,_⟩:=tell;exact⟨R,h⟩
 have EA4:=EA.tups (.of S4)
 obtain⟨z0,U0,_⟩:=EA4.fit
 rcases q:id EA4.W with⟨v1,v2,ha,⟨a1,p1,q1,rfl,h1,h2,h3⟩,⟨a2,p2,q2,rfl,g1,g2,g3⟩⟩
 have zl:=z0.sp _ (qK rfl)
 have zh:=z0.sp _ (vg rfl)
 have zlo:Sz 100 (zA g j d):=⟨zl.1,zl.2.md⟩
 have zhi:Sz 100 (zA g j d+zN g c*(w':Rat)):=⟨zh.1,zh.2.md⟩
 have zbo:Sz 201 ((zA g j d)+(zA g j d+zN g c*(w':Rat))):=zlo.add zhi
 refine zG (λσ' G=>∃bo,σ'=[Sr a0,Si i,Sr p,Sr r,Sr a,Si kb,Sr q,Sr u,some wd,some v,Sr bo,y11,y12,y13]/\zk G4 G/\zr G bo ((zA g j d)+(zA g j d+zN g c*(w':Rat)))) ?_ ?_
 rotate_left
 ·intro nx hnx
  refine⟨_,rL,a,_,_,_,rL,rL,.of ha,at0 ..,a1,_,_,_,rL,rL,.of h1,at0 ..,_,rL,a,_,_,_,rL,rL,.of ha,at1 ..,a2,_,_,_,rL,rL,.of g1,at0 ..,?_⟩
  exact⟨p1,p2,_,_,rL,h2,g2,⟨zlo.md,zhi.md⟩,λbo G S hbo=>hnx _ _ ⟨bo,rL,S,hbo⟩⟩
 rintro σ2 G5 ⟨bo,rfl,S5,hbo⟩
 have S35:=S4.trans S5
 have EA5:=EA.tups (.of S35)
 have hq5:=hq.same S35
 have hu5:=hu'.same S35
 have zy:Sz 100 y:=⟨hy.2.2.1,hy.2.2.2.md⟩
 refine zG (λσ' G=>σ'=[Sr a0,Si i,Sr p,Sr r,Sr a,Si kb,Sr q,Sr u,some wd,some v,Sr bo,y11,y12,y13]/\zk G5 G) ?_ ?_
 rotate_left
 ·intro nx hnx
  refine⟨_,rL,_,rL,r,a,us,bs,g,j,d,c,w',jp,dp,rL,EA5,λz ys G6 S6 hz hR=>?_⟩
  have EM:=EA5.mir LB off S6 hz hR
  refine⟨_,rL,_,rL,r,us,rL,.inr (SqT.of (S6 _ _ EA5.r)),_,_,rL,rL,_,rL,_,_,rL,rL,?_⟩
  refine⟨_,rL,_,rL,bo,q,_,_,rL,hbo.same S6,hq5.same S6,⟨zbo.md,zy.md⟩,λmq G7 S7 hmq=>?_⟩
  have pl:=zhv EA.G ly hy.1 hy.2.1
  refine⟨_,rfl,z,a,mq,u,ys,_,_,_,_,_,_,x,rfl,⟨(EM.tups (.of S7)).s,⟨by lia,by rw[wc,yp];lia⟩,hmq,pl,(hu5.same S6).same S7,xW⟩,λv' o' G8 S8 tell' _ _ oat'=>?_⟩
  have hll:((lsQ bs).length:Int)-1-kb=(us.length:Int)-1-kb:=by unfold lsQ;rw[wc,hul]
  have eo:o'=o:=qk.uniq lh (qk.mir lh zii hr' (by rw[hll];exact tell')) tell
  subst eo
  refine⟨_,rL,_,rL,zL2,λe he=>?_⟩
  have S9:=zk.upd (o:=.tup [wd,v]) he
  have SS:=S6.trans (S7.trans (S8.trans S9))
  exact Qg (d:=zgG o') (oat'.same S9).rd (oat.two htr (S5.trans SS) zg) (ziN _) ⟨_,rL,xz (hnx _ _ ⟨rL,SS⟩)⟩
 rintro σ3 G6 ⟨rfl,S6⟩
 have S36:=S35.trans S6
 have hP6:vV G6 p:=((xt.refl hP3).same S36).pool
 refine zG (λσ' G=>∃f,∃pn qn:Int,σ'=[Sr a0,Si i,Sr p,Sr r,Sr a,Si kb,Sr q,Sr u,some wd,some v,Sr bo,Sr f,y12,y13]/\xt p G6 G/\zr G f (Rat.divInt pn qn)/\1<=pn/\pn<=9/\1<=qn/\qn<=4) ?_ ?_
 rotate_left
 ·intro nx hnx
  refine⟨_,rfl,p,_,rfl,by decide,by decide,hP6,λe1 K1 a1' b1' t1=>⟨_,_,rfl,rfl,?_⟩⟩
  refine⟨_,rfl,p,_,rfl,by decide,by decide,t1.pool,λe2 K2 a2' b2' t2=>⟨_,_,rfl,rfl,?_⟩⟩
  refine⟨_,_,rfl,by lia,Bd.mono (m:=5) (show (1+e2).natAbs<2^5 by lia) (by decide),λf K3 S3 hf=>?_⟩
  exact hnx _ _ ⟨f,1+e1,1+e2,rfl,(t1.trans t2).same S3,hf,by lia,by lia,by lia,by lia⟩
 rintro σ4 G7 hQq;rcases q:hQq with⟨f,pn,qn,rfl,t7,hf,pn1,pn9,qn1,qn4⟩
 have T7:xt p G3 G7:=((xt.refl hP3).same S36).trans t7
 have tu7:=VP hP3 T7
 have EA7:=EA.tups tu7
 have hq7:zr G7 q y:=tu7 _ _ hq
 have hu7:zr G7 u x:=tu7 _ _ hu'
 have f0:0<Rat.divInt pn qn:=(xM ∅).mpr ∅
 have zf:Sz 5 (Rat.divInt pn qn):=.divInt ∅ (show pn.natAbs<2^5 by lia) (show qn.natAbs<2^5 by lia)
 have fq:Rat.divInt pn qn≠0:=by grind
 obtain⟨wt,hwt⟩:=EA.wt
 have FS:=zh2 EA.G EA.l1 EA.l5 EA.F hwt pn1 pn9 qn1 qn4
 have xf:TmW (x/Rat.divInt pn qn):=by
  have e:x/Rat.divInt pn qn=Rat.divInt (x.num*qn) ((x.den:Int)*pn):=by
   have ex:x=(x.num:Rat)/((x.den:Int):Rat):=by rw[<-wE];exact(wW x).symm
   have n1:=zO (show (x.den:Int)≠0 by have:=den_pos x;lia)
   have n2:=zO (show pn≠0 by lia)
   have n3:=zO (show qn≠0 by lia)
   rw[xF,xF,wj,wj]
   conv=>lhs;lhs;rw[ex]
   generalize ((x.den:Int):Rat)=b at *
   generalize (x.num:Rat)=a at *
   generalize (pn:Rat)=p' at *
   generalize (qn:Rat)=q' at *
   clear ex
   grind
  rw[e]
  have h1:Bd 101 x.num:=hx.1
  have h2:Bd 4 (x.den:Int):=hx.2
  exact vo (wQ (den_pos x) ∅) ((h1.mul (show Bd 5 qn from(show qn.natAbs<2^5 by lia))).md) ((h2.mul (show Bd 5 pn from(show pn.natAbs<2^5 by lia))).md) (by decide)
 have hf5:=hf
 generalize Rat.divInt pn qn=b at *
 refine zG (λσ' G=>∃tr2 wd2 v2 o2,σ'=[Sr a0,Si i,Sr p,Sr r,Sr a,Si kb,Sr q,Sr u,some wd,some v,Sr bo,Sr f,Sr tr2,y13]/\zk G7 G/\o=zeL b o2/\zar o2/\vA G (.ref tr2) o2/\G tr2=some (.tup [wd2,v2])) ?_ ?_
 rotate_left
 ·intro nx hnx
  refine⟨_,rL,_,rL,r,f,us,bs,b,rL,EA7.r,EA7.R,EA7.l5,λb' hb=>⟨(EA.F b' hb).s.1.md,(EA.F b' hb).s.2.md⟩,hf,zf.md,λz ys G8 S8 hz hR=>?_⟩
  refine⟨_,rL,_,rL,_,rL,_,rL,_,rL,u,f,x,b,rL,hu7.same S8,hf.same S8,⟨⟨zx.md,zf.md⟩,fq⟩,λtq G9 S9 ht=>?_⟩
  have S79:=S8.trans S9
  have ES:EvS G9 z a ys (bs.map (scB b)) (zA g j d) (zA g j d+zN g c*(w':Rat)) (Rat.divInt g 6*b):=⟨S9 _ _ hz,hR.keeps (.of S9),by rw[wc];exact EA.l1,(EA7.tups (.of S79)).W,FS.1,FS.2.1,FS.2.2⟩
  refine⟨z,a,q,tq,ys,_,_,_,_,kb,y,x/b,rfl,⟨ES,⟨k0,by rw[wc];exact k1⟩,hq7.same S79,hy,ht,xf⟩,λv' o' G10 S10 tell' _ osz' oat'=>?_⟩
  have eo:o=zeL b o':=qk.uniq lh tell (qk.scl lh f0 zjY hr' tell')
  have SS:=S79.trans S10
  cases o' with
  |inl m =>
   rcases q:id oat' with⟨tr2,tq2,rfl,h1,h2⟩
   exact hnx _ _ ⟨tr2,_,_,_,rL,SS,eo,osz',oat',h1⟩
  |inr ms =>
   rcases q:id oat' with⟨tr2,L2,us2,rfl,h1,h2,h3,h4⟩
   exact hnx _ _ ⟨tr2,_,_,_,rL,SS,eo,osz',oat',h1⟩
 rintro σ5 G8 hQq;rcases q:hQq with⟨tr2,wd2,v2',o2,rfl,S8,rfl,osz2,oat2,htr2⟩
 have oat6:=oat.same (S5.trans S6)
 have oat8:=(oat6.step hP6 t7).same S8
 have htr8:G8 tr=some (.tup [wd,v]):=S8 _ _ (t7.tup hP6 ((S5.trans S6) _ _ htr))
 have hf8:=hf5.same S8
 have T8:xt p G3 G8:=T7.same S8
 have eb:∀z:Rat,b*z/b=z:=λz=>by grind
 have fin:∀σ G,(∃d9,σ=[Sr a0,Si i,Sr p,Sr r,Sr a,Si kb,Sr q,Sr u,some wd,some v,Sr bo,Sr f,Sr tr2,some d9])->xt p G3 G->((zkH (zkJ λσ H Q=>ZE zg9 [] E0 (xU (xw 2) (xU (xw 3) (xU (xw 4) (xU (xw 5) (xU (xw 6) (xU (xw 7) Z6)))))) σ H λx H'=>∃k,zcR K x H' k/\Q k H') (zdA (tC (V.bl false))) zfI) { nx:=N,rt:=Q,bk:=B,ct:=N } σ G):=by
  rintro σ G ⟨d9,rfl⟩ tG
  have tuG:=VP hP3 tG
  refine⟨_,rL,_,rL,_,rL,_,rL,_,rL,_,rL,p,r,a,q,u,us,bs,_,_,_,kb,y,x,rL,tG.pool,⟨(EA.tups tuG).s,⟨k0,k1⟩,tuG _ _ hq,hy,tuG _ _ hu',xW⟩,hx,λGI tI=>?_⟩
  exact⟨_,rL,xz (hN _ _ ⟨_,_,_,_,_,_,_,_,_,_,_,_,_,rL,back _ (tG.trans tI)⟩)⟩
 clear tell near EA4 U0 z0 h1 h2 h3 g1 g2 g3 ha EA5 hq5 hu5 S35 S36 EA7 hq7 hu7 FS hwt xf hf hf5 S4 S5 S6 oat htr oat6 hbo hr' tu7 EA LB off
 cases o2 with
 |inl m =>
  rcases q:oat8 with⟨tr',tq,e,h1,h2⟩
  cases e
  rw[htr8]at h1;cases h1
  rcases q:oat2 with⟨tr2',tq2,e,g1,g2⟩
  cases e
  rw[htr2]at g1;cases g1
  have h2:zr G8 tq (b*m):=h2
  refine zG (λσ' G=>∃De us9,σ'=[Sr a0,Si i,Sr p,Sr r,Sr a,Si kb,Sr q,Sr u,some (.str "at"),Sr tq,Sr bo,Sr f,Sr tr2,Sr De]/\zk G8 G/\G De=some (.lst us9)/\ZK G us9 [m]) ?_ ?_
  rotate_left
  ·intro nx hnx
   refine⟨_,rL,zL1,λl1 hl1=>⟨_,rL,zL2,λl2 hl2=>?_⟩⟩
   have U1:=zk.upd (o:=.lst [.ref tq]) hl1
   have e1:upd G8 l1 (.lst [.ref tq]) l1=some (.lst [.ref tq]):=zg
   have U2:=zk.upd (o:=.lst [.ref l1,.ref tq]) hl2
   have e2:upd (upd G8 l1 (.lst [.ref tq])) l2 (.lst [.ref l1,.ref tq]) l2=some (.lst [.ref l1,.ref tq]):=zg
   have U12:=U1.trans U2
   have e1:=U2 _ _ e1
   generalize upd (upd G8 l1 (.lst [.ref tq])) l2 (.lst [.ref l1,.ref tq])=G9 at U12 e1 e2
   refine⟨_,rL,?_⟩
   dsimp only[tC]
   refine JO (.str _) (.str _) Xg jU XU (.inr ⟨_,rL,?_⟩)
   refine⟨l2,_,_,_,rL,rL,.of e2,rL,?_⟩
   refine⟨l1,rL,⟨_,SqL.of e1⟩,λDe hDe=>?_⟩
   refine xE (js:=[11]) (J:=Itl K l1) (g:=zD 0) (te:=_) (n:=1) (xs:=[.ref tq]) (λi v G=>∃rq,v=.ref rq/\zr G rq m) (λi v G G' e ⟨rq,q1,q2⟩=>⟨rq,q1,e _ _ q2⟩) hDe (xq e1) (by rw[sizeLine_eq,yR];decide) ?_ ?_
   ·intro i y zs G Q' hy hz SG hQ
    have ey:y=.ref tq:=by
     cases i with
     |zero=>cases hy;rfl
     |succ n=>cases hy
    subst ey
    obtain⟨w1,rfl⟩:=Xm hz
    dsimp only[zD]
    refine⟨rfl,_,rfl,_,rfl,tq,f,b*m,b,rfl,(h2.same U12).same SG,(hf8.same U12).same SG,⟨⟨Sz.mono (show Sz 3000 (b*m)from osz) (by decide),zf.md⟩,fq⟩,λsq G10 S10 hs=>hQ _ _ S10 ⟨sq,rfl,by have hs:zr G10 sq (b*m/b):=hs;rw[eb]at hs;exact hs⟩⟩
   intro us9 G SG hDG hul9 hR9
   refine hnx _ _ ⟨De,us9,rL,U12.trans SG,hDG,hul9,λi v e=>?_⟩
   obtain⟨rq,q1,q2⟩:=hR9 i v e
   have i0':i=0:=by have:=(wS.mp e).1;rw[hul9]at this;simp at this;lia
   subst i0'
   exact⟨m,rq,rL,q1,q2⟩
  rintro σ6 G9 hQq;rcases q:hQq with⟨De,us9,rfl,S9,hDe,hr9⟩
  refine zG (λσ' G=>∃d9,σ'=[Sr a0,Si i,Sr p,Sr r,Sr a,Si kb,Sr q,Sr u,some (.str "at"),Sr tq,Sr bo,Sr f,Sr tr2,some d9]/\zk G8 G) ?_ ?_
  rotate_left
  ·intro nx hnx
   have t9:=S9 _ _ htr2
   refine⟨_,rL,tr2,_,_,_,rL,rL,.of t9,rL,_,rL,?_⟩
   refine Qg (.str _) (.str _) Xg ⟨_,rL,xz ?_⟩
   refine⟨_,rL,tr2,_,_,_,rL,rL,.of t9,rL,zL1,λl1 hl1=>?_⟩
   have U1:=zk.upd (o:=.lst [.ref tq2]) hl1
   have e1:upd G9 l1 (.lst [.ref tq2]) l1=some (.lst [.ref tq2]):=zg
   refine⟨_,rL,tr2,_,_,_,rL,rL,.of (U1 _ _ t9),rL,zL2,λl2 hl2=>?_⟩
   have U2:=zk.upd (o:=.lst [.ref l1,.ref tq2]) hl2
   have e2:upd (upd G9 l1 (.lst [.ref tq2])) l2 (.lst [.ref l1,.ref tq2]) l2=some (.lst [.ref l1,.ref tq2]):=zg
   have U12:=U1.trans U2
   have e1:=U2 _ _ e1
   generalize upd (upd G9 l1 (.lst [.ref tq2])) l2 (.lst [.ref l1,.ref tq2])=GB at U12 e1 e2
   refine⟨_,rL,?_⟩
   dsimp only[tC]
   refine JO (.str _) (.str _) Xg jU XU (.inr ⟨_,rL,?_⟩)
   refine⟨l2,_,_,_,rL,rL,.of e2,rL,_,rL,?_⟩
   exact Qg (d:=.list ([m].map raD)) (.lst e1 (.cons (zr.rdD ((g2.same S9).same U12)) .nil)) (.lst (U12 _ _ hDe) (vq (hr9.same U12))) (J8 _) ⟨_,rL,xz (hnx _ _ ⟨_,rL,S9.trans U12⟩)⟩
  rintro σ7 GA ⟨d9,rfl,SA⟩
  exact fin _ _ ⟨d9,rL⟩ (T8.same SA)
 |inr ms =>
  rcases q:oat8 with⟨tr',L,us',e,h1,h2,h3,h4⟩
  cases e
  rw[htr8]at h1;cases h1
  rcases q:oat2 with⟨tr2',L2,us2,e,g1,g2,g3,g4⟩
  cases e
  rw[htr2]at g1;cases g1
  have zm:∀z∈ms.map (b * ·),Sz 3000 z:=osz
  refine zG (λσ' G=>∃De us9,σ'=[Sr a0,Si i,Sr p,Sr r,Sr a,Si kb,Sr q,Sr u,some (.str "never"),Sr L,Sr bo,Sr f,Sr tr2,Sr De]/\zk G8 G/\G De=some (.lst us9)/\ZK G us9 ms) ?_ ?_
  rotate_left
  ·intro nx hnx
   refine⟨_,rL,zL1,λl1 hl1=>⟨_,rL,zL2,λl2 hl2=>?_⟩⟩
   have U1:=zk.upd (o:=.lst [.ref L]) hl1
   have U2:=zk.upd (o:=.lst [.ref l1,.ref L]) hl2
   have e2:upd (upd G8 l1 (.lst [.ref L])) l2 (.lst [.ref l1,.ref L]) l2=some (.lst [.ref l1,.ref L]):=zg
   have U12:=U1.trans U2
   generalize upd (upd G8 l1 (.lst [.ref L])) l2 (.lst [.ref l1,.ref L])=G9 at U12 e2
   refine⟨_,rL,?_⟩
   dsimp only[tC]
   refine vZ (.str _) (.str _) jU (.inr ⟨_,rL,?_⟩)
   refine⟨l2,_,_,_,rL,rL,.of e2,rL,?_⟩
   have hL:=U12 _ _ h2
   refine⟨L,rL,⟨_,SqL.of hL⟩,λDe hDe=>?_⟩
   refine xE (js:=[11]) (J:=Itl K L) (g:=zD 0) (te:=_) (n:=1) (xs:=us') (λi v G=>∃z rq,ms[i]?=some z/\v=.ref rq/\zr G rq z) (λi v G G' e ⟨z,rq,q0,q1,q2⟩=>⟨z,rq,q0,q1,e _ _ q2⟩) hDe (xq hL) (by rw[sizeLine_eq];lia) ?_ ?_
   ·intro i y zs G Q' hy hz SG hQ
    rcases q:h3.2 i y hy with⟨mm,rq,e1,rfl,e3⟩
    obtain⟨w1,rfl⟩:=Xm hz
    have zz:=zm mm (wL e1)
    rw[wu]at e1
    obtain⟨m0,f1,rfl⟩:=Option.map_eq_some_iff.mp e1
    dsimp only[zD]
    refine⟨rfl,_,rfl,_,rfl,rq,f,b*m0,b,rfl,(e3.same U12).same SG,(hf8.same U12).same SG,⟨⟨zz.md,zf.md⟩,fq⟩,λsq G10 S10 hs=>hQ _ _ S10 ⟨m0,sq,f1,rfl,by have hs:zr G10 sq (b*m0/b):=hs;rw[eb]at hs;exact hs⟩⟩
   intro us9 G SG hDG hul9 hR9
   refine hnx _ _ ⟨De,us9,rfl,U12.trans SG,hDG,by rw[hul9,h3.1,wc],λi v e=>?_⟩
   rcases q:hR9 i v e with⟨z,rq,f1,f2,f3⟩
   exact⟨z,rq,f1,f2,f3⟩
  rintro σ6 G9 hQq;rcases q:hQq with⟨De,us9,rfl,S9,hDe,hr9⟩
  refine zG (λσ' G=>∃d9,σ'=[Sr a0,Si i,Sr p,Sr r,Sr a,Si kb,Sr q,Sr u,some (.str "never"),Sr L,Sr bo,Sr f,Sr tr2,some d9]/\zk G8 G) ?_ ?_
  rotate_left
  ·intro nx hnx
   have t9:=S9 _ _ htr2
   refine⟨_,rL,tr2,_,_,_,rL,rL,.of t9,rL,_,rL,?_⟩
   refine Qg (.str _) (.str _) jU ⟨_,rL,xz ?_⟩
   refine⟨_,rL,tr2,_,_,_,rL,rL,.of t9,rL,zL1,λl1 hl1=>?_⟩
   have U1:=zk.upd (o:=.lst [.ref L2]) hl1
   refine⟨_,rL,tr2,_,_,_,rL,rL,.of (U1 _ _ t9),rL,zL2,λl2 hl2=>?_⟩
   have U2:=zk.upd (o:=.lst [.ref l1,.ref L2]) hl2
   have e2:upd (upd G9 l1 (.lst [.ref L2])) l2 (.lst [.ref l1,.ref L2]) l2=some (.lst [.ref l1,.ref L2]):=zg
   have U12:=U1.trans U2
   generalize upd (upd G9 l1 (.lst [.ref L2])) l2 (.lst [.ref l1,.ref L2])=GB at U12 e2
   refine⟨_,rL,?_⟩
   dsimp only[tC]
   refine vZ (.str _) (.str _) jU (.inr ⟨_,rL,?_⟩)
   refine⟨l2,_,_,_,rL,rL,.of e2,rL,_,rL,?_⟩
   exact Qg (d:=.list (ms.map raD)) (.lst (U12 _ _ (S9 _ _ g2)) (vq ((g3.same S9).same U12))) (.lst (U12 _ _ hDe) (vq (hr9.same U12))) (J8 _) ⟨_,rL,xz (hnx _ _ ⟨_,rL,S9.trans U12⟩)⟩
  rintro σ7 GA ⟨d9,rfl,SA⟩
  exact fin _ _ ⟨d9,rL⟩ (T8.same SA)
open PySem.W
theorem ziO {K:Frag}{h:Heap}{mg:Str->Option Value}{x:Str}{C:Addr}(X:K.In h) (G:h.Ns mainGlobals mg) (e:nsIn K mainGlobals x=some (some (.ref C))) (q:excIn K C zjH "ValueError.__new__" = true):zjL x C mg h:=by
 unfold excIn at q
 split at q
 case h_2=>cases q
 case h_1 dd cd sl ho =>
  split at q
  case h_2=>cases q
  case h_1 C' bm k0 k1 k2 k3 n k5 hm hs =>
   obtain⟨cnm,cbs,cmro,cns,cqn,chd,csn,csub,cab,ccol,cdel⟩:=cd
   obtain⟨sll⟩:=sl
   simp only at hm hs q
   subst hm;subst hs
   simp only[uN,beq_iff_eq,Bool.not_eq_true']at q
   obtain⟨⟨⟨⟨⟨eC,en⟩,ed⟩,et⟩,eo⟩,ei⟩:=q
   subst eC;subst en;subst ed
   exact⟨mg_of X G e,bm,cns,cnm,cqn,cbs,chd,csn,csub,cab,ccol,dd,k0,k1,k2,k3,k5,_,X _ _ ho,.of_isNs (isNs_of_in X eo),nsMap_none_of_in X eo ei,tail_of_in X et⟩
def DD (K:Fg) (x:Str) (st:Stmt):Prop:=∃(f:Addr) (oc:Value) (od an:Option Addr) (sl:Array (Option Value)) (kV dc pm cd ct:Value),
 PySem.W.nsIn K mainGlobals x=some (some (.ref f))/\K.lookup f=some ⟨oc,od,.func (PySem.W.fnOf x x (xH st) (z7 st) (zj st) .none kV dc pm an cd ct),sl⟩/\PySem.W.codeIn K cd x=true/\PySem.W.keepIn K (.ref f)=true
section
variable {K:Fg}{x:Str}{st:Stmt}
theorem zjO {f:Addr}{oc:Value}{od an:Option Addr}{sl:Array (Option Value)}{kV dc pm cd ct:Value}(a:PySem.W.nsIn K mainGlobals x=some (some (.ref f))) (l:K.lookup f=some ⟨oc,od,.func (PySem.W.fnOf x x (xH st) (z7 st) (zj st) .none kV dc pm an cd ct),sl⟩) (c:PySem.W.codeIn K cd x=true) (k:PySem.W.keepIn K (.ref f)=true):DD K x st :=
 ⟨f,oc,od,an,sl,kV,dc,pm,cd,ct,a,l,c,k⟩
variable {h:Heap}{mg:Str->Option Value}{ps:List Str}
theorem DD.df (d:DD K x st) (X:K.In h) (G:h.Ns mainGlobals mg) (hb:∀(kV dc pm cd ct:Value) (an:Option Addr) (us:List Value),us.length=ps.length->bindArgs (PySem.W.fnOf x x (xH st) (z7 st) (zj st) .none kV dc pm an cd ct) ⟨us,[]⟩=pure (ps.zip us)):Df K mg x st ps []:=by
 obtain⟨f,oc,od,an,sl,kV,dc,pm,cd,ct,a,l,c,k⟩:=d
 exact zjP l c k (Wu X G a) (hb kV dc pm cd ct an)
theorem lsc {n:Nat}{us:List Value}(e:us.length=n+1):∃a t,us=a::t/\t.length=n:=by
 cases us with
 |nil=>cases e
 |cons a t=>exact⟨a,t,rfl,Nat.succ.inj e⟩
theorem lsn {us:List Value}(e:us.length=0):us=[]:=uf.mp e
theorem DD.df1 {p:Str}(d:DD K x st) (X:K.In h) (G:h.Ns mainGlobals mg) (hb:∀(kV dc pm cd ct:Value) (an:Option Addr) a,bindArgs (PySem.W.fnOf x x (xH st) (z7 st) (zj st) .none kV dc pm an cd ct) ⟨[a],[]⟩=pure ([p].zip [a]):=by intros;rfl):Df K mg x st [p] [] :=
 d.df X G λkV dc pm cd ct an us hl=>by
  obtain⟨a,us,rfl,h1⟩:=lsc hl
  cases lsn h1
  exact hb kV dc pm cd ct an a
theorem DD.df2 {p q:Str}(d:DD K x st) (X:K.In h) (G:h.Ns mainGlobals mg) (hb:∀(kV dc pm cd ct:Value) (an:Option Addr) a b,bindArgs (PySem.W.fnOf x x (xH st) (z7 st) (zj st) .none kV dc pm an cd ct) ⟨[a,b],[]⟩=pure ([p,q].zip [a,b]):=by intros;rfl):Df K mg x st [p,q] [] :=
 d.df X G λkV dc pm cd ct an us hl=>by
  obtain⟨a,us,rfl,h1⟩:=lsc hl
  obtain⟨b,us,rfl,h2⟩:=lsc h1
  cases lsn h2
  exact hb kV dc pm cd ct an a b
theorem DD.df3 {p q r:Str}(d:DD K x st) (X:K.In h) (G:h.Ns mainGlobals mg) (hb:∀(kV dc pm cd ct:Value) (an:Option Addr) a b c,bindArgs (PySem.W.fnOf x x (xH st) (z7 st) (zj st) .none kV dc pm an cd ct) ⟨[a,b,c],[]⟩=pure ([p,q,r].zip [a,b,c]):=by intros;rfl):Df K mg x st [p,q,r] [] :=
 d.df X G λkV dc pm cd ct an us hl=>by
  obtain⟨a,us,rfl,h1⟩:=lsc hl
  obtain⟨b,us,rfl,h2⟩:=lsc h1
  obtain⟨c,us,rfl,h3⟩:=lsc h2
  cases lsn h3
  exact hb kV dc pm cd ct an a b c
theorem DD.df4 {p q r s:Str}(d:DD K x st) (X:K.In h) (G:h.Ns mainGlobals mg) (hb:∀(kV dc pm cd ct:Value) (an:Option Addr) a b c e,bindArgs (PySem.W.fnOf x x (xH st) (z7 st) (zj st) .none kV dc pm an cd ct) ⟨[a,b,c,e],[]⟩=pure ([p,q,r,s].zip [a,b,c,e]):=by intros;rfl):Df K mg x st [p,q,r,s] [] :=
 d.df X G λkV dc pm cd ct an us hl=>by
  obtain⟨a,us,rfl,h1⟩:=lsc hl
  obtain⟨b,us,rfl,h2⟩:=lsc h1
  obtain⟨c,us,rfl,h3⟩:=lsc h2
  obtain⟨e,us,rfl,h4⟩:=lsc h3
  cases lsn h4
  exact hb kV dc pm cd ct an a b c e
theorem DD.df5 {p q r s t:Str}(d:DD K x st) (X:K.In h) (G:h.Ns mainGlobals mg) (hb:∀(kV dc pm cd ct:Value) (an:Option Addr) a b c e f,bindArgs (PySem.W.fnOf x x (xH st) (z7 st) (zj st) .none kV dc pm an cd ct) ⟨[a,b,c,e,f],[]⟩=pure ([p,q,r,s,t].zip [a,b,c,e,f]):=by intros;rfl):Df K mg x st [p,q,r,s,t] [] :=
 d.df X G λkV dc pm cd ct an us hl=>by
  obtain⟨a,us,rfl,h1⟩:=lsc hl
  obtain⟨b,us,rfl,h2⟩:=lsc h1
  obtain⟨c,us,rfl,h3⟩:=lsc h2
  obtain⟨e,us,rfl,h4⟩:=lsc h3
  obtain⟨f,us,rfl,h5⟩:=lsc h4
  cases lsn h5
  exact hb kV dc pm cd ct an a b c e f
theorem DD.df6 {p q r s t u:Str}(d:DD K x st) (X:K.In h) (G:h.Ns mainGlobals mg) (hb:∀(kV dc pm cd ct:Value) (an:Option Addr) a b c e f g,bindArgs (PySem.W.fnOf x x (xH st) (z7 st) (zj st) .none kV dc pm an cd ct) ⟨[a,b,c,e,f,g],[]⟩=pure ([p,q,r,s,t,u].zip [a,b,c,e,f,g]):=by intros;rfl):Df K mg x st [p,q,r,s,t,u] [] :=
 d.df X G λkV dc pm cd ct an us hl=>by
  obtain⟨a,us,rfl,h1⟩:=lsc hl
  obtain⟨b,us,rfl,h2⟩:=lsc h1
  obtain⟨c,us,rfl,h3⟩:=lsc h2
  obtain⟨e,us,rfl,h4⟩:=lsc h3
  obtain⟨f,us,rfl,h5⟩:=lsc h4
  obtain⟨g,us,rfl,h6⟩:=lsc h5
  cases lsn h6
  exact hb kV dc pm cd ct an a b c e f g
end
end KK
namespace PySem.W.Fast
def tw10058057156150914921:=0
def tw10203712609568823277:=0
def tw10277062185533198270:=0
def tw10332928528968020:=0
def tw10574089101000864132:=0
def tw10673899275037437618:=0
def tw1088373514406292168:=0
def tw10883761091768892417:=0
def tw11041342127024491545:=0
def tw1122999919456302637:=0
def tw11231583406194889497:=0
def tw11237157097318093033:=0
def tw11264611706030619176:=0
def tw11325488235494207844:=0
def tw11368924494432386981:=0
def tw11432150270504346527:=0
def tw11439680906573245778:=0
def tw11556571998670262308:=0
def tw11666158987904240323:=0
def tw11693270663612742697:=0
def tw11746563183799243825:=0
def tw1177369278384486829:=0
def tw1187678448072123898:=0
def tw11997933784343184354:=0
def tw12187417619850181325:=0
def tw1227888577167762183:=0
def tw12371837104479219783:=0
def tw12473539322876321347:=0
def tw12487786873215182226:=0
def tw12488232393342692665:=0
def tw12531833947137931710:=0
def tw12700690317752267220:=0
def tw12815420372049130187:=0
def tw12860179083342181957:=0
def tw12926729942377107673:=0
def tw12990366932930317215:=0
def tw13176251393365411337:=0
def tw13181828772447756671:=0
def tw1329394453402296487:=0
def tw13363138702982459987:=0
def tw13386590370994298686:=0
def tw1342118641831464196:=0
def tw13595616690497796825:=0
def tw13862924947925820260:=0
def tw14011334024992018896:=0
def tw14090070299950978336:=0
def tw1426067157983963317:=0
def tw14302312989210866059:=0
def tw14306007146376724776:=0
def tw14378129095695222249:=0
def tw14387625403953969823:=0
def tw14416104031812441745:=0
def tw14541065508114819150:=0
def tw14552291475076914555:=0
def tw14572105160374433029:=0
def tw14732600293931243136:=0
def tw14916268428614771825:=0
def tw15012625640610535614:=0
def tw15178883331694486758:=0
def tw15190131218251909720:=0
def tw1536829202685126169:=0
def tw15396566240961535742:=0
def tw15475389612768487449:=0
def tw155055714319335244:=0
def tw15517668379577710611:=0
def tw15525326373874261374:=0
def tw1553086142829812142:=0
def tw15594968310430639841:=0
def tw15678868184647492094:=0
def tw15872804491999913001:=0
def tw15886900538524362272:=0
def tw15934805765860679744:=0
def tw16214048669032987432:=0
def tw16315468095190183422:=0
def tw16453841693426833801:=0
def tw16479797450495469806:=0
def tw16523776346865984316:=0
def tw16525383208401809301:=0
def tw1679129487172131967:=0
def tw16815897317384833377:=0
def tw16895726913046845656:=0
def tw17112987936414461754:=0
def tw17146204073847275574:=0
def tw17193886745007510629:=0
def tw17204628580267046506:=0
def tw17291144342146585553:=0
def tw17310288101911938642:=0
def tw17497558913020071677:=0
def tw17629917518149753120:=0
def tw17672533338362661386:=0
def tw17731878123092909054:=0
def tw17765532464446822486:=0
def tw17821599647685817889:=0
def tw17868177634352968805:=0
def tw1799836267549887164:=0
def tw1806865372489894741:=0
def tw18081626978386329113:=0
def tw18189554771369288616:=0
def tw18305713976749877348:=0
def tw18307310714228776319:=0
def tw18341424892327320236:=0
def tw18390344444542784368:=0
def tw1942872755313232816:=0
def tw2017141643087745183:=0
def tw2064652315138003484:=0
def tw2116763594654100011:=0
def tw2173346792311435698:=0
def tw2235426901792922341:=0
def tw2244371574638821169:=0
def tw2282763328691467643:=0
def tw2386727280139031696:=0
def tw2575811019633191538:=0
def tw2663420101241357461:=0
def tw2723305328449405847:=0
def tw2853185671327604510:=0
def tw2867710246036438919:=0
def tw2965808064216531328:=0
def tw3101672874318562392:=0
def tw3195780800768180610:=0
def tw3206187739853290124:=0
def tw3273906024542328366:=0
def tw3367166573468802260:=0
def tw3641428166549175888:=0
def tw3695097757027231767:=0
def tw3716235746390818489:=0
def tw3728550118374463357:=0
def tw3839424176339486517:=0
def tw3884114432805205531:=0
def tw4031211114304532830:=0
def tw4032386325647667325:=0
def tw4084676895236174851:=0
def tw4136893360079212355:=0
def tw4188028906829467611:=0
def tw4203957788761913530:=0
def tw4228475458072395994:=0
def tw4306545975877031456:=0
def tw4554860745184738878:=0
def tw4579762495434993827:=0
def tw4596995935109073982:=0
def tw4621432217766286033:=0
def tw4667065730567484478:=0
def tw4678738580493322220:=0
def tw4774387578313640596:=0
def tw4815692360640106700:=0
def tw4937682901432570504:=0
def tw4984231802077498474:=0
def tw4998016947005663188:=0
def tw5045577911094580835:=0
def tw5051353384465199778:=0
def tw5131305044932915618:=0
def tw5166115226473013392:=0
def tw542172925226243848:=0
def tw5563948418587419714:=0
def tw5710153158328001446:=0
def tw5786441903091241732:=0
def tw5841528415475524600:=0
def tw5862148197831597274:=0
def tw5980079202559442744:=0
def tw6034098557588895801:=0
def tw6115370304493104995:=0
def tw6201450475101917202:=0
def tw6273197960170013936:=0
def tw6277536961820060511:=0
def tw6291428513118469397:=0
def tw641858141389864653:=0
def tw6452246780717883989:=0
def tw649718634258064463:=0
def tw6568219586952233940:=0
def tw6568606024110117040:=0
def tw6667237415086433788:=0
def tw6668564679523727966:=0
def tw6687355137489327126:=0
def tw6788131478039888812:=0
def tw6808759455815911000:=0
def tw6811994565241577167:=0
def tw6867855240952377377:=0
def tw6879243392366036742:=0
def tw697349808348584068:=0
def tw7021814157530063044:=0
def tw7077382182614990052:=0
def tw7363904519168138079:=0
def tw7387632053559026082:=0
def tw7420184830546584946:=0
def tw7442329023005655848:=0
def tw7545275848199126670:=0
def tw7561499647269416510:=0
def tw7647277865885666080:=0
def tw7709207565237127476:=0
def tw7763510946471680972:=0
def tw788506657908610549:=0
def tw7889196863028922487:=0
def tw7961887558321337038:=0
def tw8000548324313625354:=0
def tw807863197901625261:=0
def tw8119047642234734008:=0
def tw8162748861408593432:=0
def tw8307149565029059976:=0
def tw8389661001846740951:=0
def tw845877936506600072:=0
def tw8616882825262616377:=0
def tw8651227925624878789:=0
def tw8710124627070564443:=0
def tw8721883282824817780:=0
def tw884579205564371214:=0
def tw8990432403449268260:=0
def tw906031712935158696:=0
def tw9143042739424688998:=0
def tw9172928087446946621:=0
def tw9191705961316930067:=0
def tw9201133699575381168:=0
def tw9233462398712583301:=0
def tw9251826912905227919:=0
def tw9256214760528568278:=0
def tw9269969142688693449:=0
def tw9344996269082858276:=0
def tw9436362235980946866:=0
def tw9473705116754245111:=0
def tw9655975694002809779:=0
def tw9673578978863597280:=0
def tw9800474304713658176:=0
end PySem.W.Fast
namespace KK
open PySem L2 KM
def zid (K:Fg):PySem.W.kitOne K (.type "int") (.type "int")=some true:=by
 unfold PySem.W.kitOne;rw[if_pos (by decide +kernel)]
def zic (K:Fg):PySem.W.kitOne K (.type "int") (.type "bool")=some false:=by
 with_unfolding_all rfl
def zie (K:Fg):PySem.W.kitOne K (.type "tuple") (.type "tuple")=some true:=by
 unfold PySem.W.kitOne;rw[if_pos (by decide +kernel)]
def zhW {l:PySem.W.OpenLaw}{w:World}{K:Fg}{h:Heap}{mg:Str->Option Value}{fa:Addr}(X:K.In h) (G:h.Ns mainGlobals mg) (hfa:mg "law" = some (.ref fa))
  (a0:DD K "is_whole" XF)
  (a1:DD K "is_tuple" XE)
  (a2:DD K "greatest_divisor" qI)
  (a3:DD K "is_ratio" XB)
  {f4:Addr}{od4 an4:Option Addr}{sl4:Array (Option Value)}{oc4 kV4 dc4 pm4 cd4 ct4:Value}{Td4:Addr}{ocd4:Value}{odd4:Option Addr}{tkd4:Tok}{nd4:Nat}{sld4:Array (Option Value)}
  (a4:PySem.W.nsIn K mainGlobals "ratio" = some (some (.ref f4))) (l4:K.lookup f4=some ⟨oc4,od4,.func (PySem.W.fnOf "ratio" "ratio" (xH ZB) (z7 ZB) (zj ZB) (.ref Td4) kV4 dc4 pm4 an4 cd4 ct4),sl4⟩) (c4:PySem.W.codeIn K cd4 "ratio" = true) (k4:PySem.W.keepIn K (.ref f4)=true)
  (ld4:K.lookup Td4=some ⟨ocd4,odd4,.seq #[.int 1 tkd4] nd4,sld4⟩)
  (a5:DD K "over" zbM)
  (a6:DD K "less" zbL)
  (a7:DD K "least_multiple" ve)
  (a8:DD K "common_bottom" vv)
  (a9:DD K "track_of" XR)
  (a10:DD K "ticks_of" XQ)
  (a11:DD K "moment_of" ZX)
  (a12:DD K "refine" VH)
  (a13:DD K "refined" QM)
  (a14:DD K "is_wall" QH)
  (a15:DD K "is_wall_pair" vR)
  (a16:DD K "is_ball_form" vQ)
  (a17:DD K "is_row_form" Zb)
  (a18:DD K "is_even" QG)
  (a19:DD K "is_still" XC)
  (a20:DD K "is_plain" XA)
  (a21:DD K "refuse_uneven" vy)
  (a22:DD K "refuse_no_box" vx)
  (a23:DD K "refuse_no_ball" vf)
  (a24:DD K "refuse_no_place" qS)
  (a25:DD K "trip_of" QN)
  (a26:DD K "line_at" QL)
  (a27:DD K "passes" VG)
  (a28:DD K "phases_of" ZY)
  (a29:DD K "comes_again" Za)
  (a30:DD K "greatest_many" vw)
  (a31:DD K "least_round" Zd)
  (a32:DD K "round_of" XO)
  (a33:DD K "gaps_to" QF)
  (a34:DD K "refuse_too_many" qT)
  (a35:DD K "moments_between" qQ)
  (a36:DD K "looked_at" ZW)
  (a37:DD K "is_there" XD)
  (a38:DD K "when" zbN)
  (a39:DD K "_law_cell" XG)
  (a40:DD K "_law_dig" QI)
  (a41:DD K "_law_next" XL)
  (a42:DD K "_law_lowest" Zw)
  (a43:DD K "_law_far" QJ)
  (a44:DD K "_law_spaced" ZA)
  (a45:DD K "_law_even" XH)
  (a46:DD K "_law_less" XI)
  (a47:DD K "_law_sum" QK)
  (a48:DD K "_law_product" Zc)
  (a49:DD K "_law_sorted" Zy)
  (a50:DD K "_law_ahead" ZU)
  (a51:DD K "_law_minus" ZV)
  (a52:DD K "_law_over" XM)
  (a53:DD K "_law_wish" XN)
  (a54:DD K "_law_mirrored" vS)
  (a55:DD K "_law_scaled" Zx)
  (a56:DD K "_law_rounds_right" qJ)
  {f57:Addr}{od57 an57:Option Addr}{sl57:Array (Option Value)}{oc57 kV57 dc57 pm57 cd57 ct57:Value}
  (a57:PySem.W.nsIn K mainGlobals "law" = some (some (.ref f57))) (l57:K.lookup f57=some ⟨oc57,od57,.func (PySem.W.fnOf "law" "law" (xH s_law) (z7 s_law) (zj s_law) .none kV57 dc57 pm57 an57 cd57 ct57),sl57⟩) (c57:PySem.W.codeIn K cd57 "law" = true) (k57:PySem.W.keepIn K (.ref f57)=true)
  (j0:PySem.W.nsIn K mainGlobals "isinstance" = some none)
  (j1:PySem.W.nsIn K mainGlobals "int" = some none)
  (j2:PySem.W.nsIn K mainGlobals "bool" = some none)
  (j3:PySem.W.nsIn K mainGlobals "abs" = some none)
  (j4:PySem.W.nsIn K mainGlobals "len" = some none)
  (j5:PySem.W.nsIn K mainGlobals "max" = some none)
  (j6:PySem.W.nsIn K mainGlobals "min" = some none)
  (j7:PySem.W.nsIn K mainGlobals "range" = some none)
  (j8:PySem.W.nsIn K mainGlobals "tuple" = some none)
  (j9:PySem.W.nsIn K mainGlobals "sum" = some none)
  (ja:PySem.W.nsIn K mainGlobals "all" = some none)
  (jb:PySem.W.nsIn K mainGlobals "zip" = some none)
  (jc:PySem.W.nsIn K mainGlobals "list" = some none)
  (jd:PySem.W.nsIn K mainGlobals "enumerate" = some none)
  (je:PySem.W.nsIn K mainGlobals "sorted" = some none)
  (jf:PySem.W.nsIn K mainGlobals "set" = some none)
  {jg:Addr}(jh:PySem.W.nsIn K mainGlobals "TooMany" = some (some (.ref jg)))
  {ji:Addr}(jj:PySem.W.nsIn K mainGlobals "Course" = some (some (.ref ji)))
  (jk:PySem.W.keepIn K (.ref ji)=true)
  {jl:Addr}{jm jn:Option Addr}{jo:Array (Option Value)}{jp jq jr js jt:Value}(ju:PySem.W.findIn K (.ref ji) "__init__" = some (some (.ref jl)))
  (jv:K.lookup jl=some ⟨.type "function",jm,.func (PySem.W.fnOf "__init__" "Course.__init__" (xH qu) (z7 qu) (zj qu) .none jp jq jr jn js jt),jo⟩) (jw:PySem.W.codeIn K js "Course.__init__" = true) (jx:PySem.W.keepIn K (.ref jl)=true)
  (jy:PySem.W.findIn K (.ref ji) "__setattr__" = some (some (.builtin "object.__setattr__")))
  (jz:PySem.W.excIn K jg zjH "ValueError.__new__" = true)
  (mkC:PySem.W.makesIn K ji=true)
  (ifC:PySem.W.isFn K (.ref jl)=true)
  (pgC:PySem.W.plainGet K ji Str.empty=true)
  (hdC:PySem.W.hasDictIn K ji=true)
  (poC:PySem.W.plainOver K ji=true)
  (jA:PySem.W.findIn K (.ref ji) "place_bottom" = some none)
  (jB:PySem.W.findIn K (.ref ji) "speed_bottom" = some none)
  (jC:PySem.W.findIn K (.ref ji) "tick" = some none)
  (jD:PySem.W.findIn K (.ref ji) "weights" = some none)
  (jE:PySem.W.findIn K (.ref ji) "tracks" = some none)
  (jF:PySem.W.findIn K (.ref ji) "low" = some none)
  (jG:PySem.W.findIn K (.ref ji) "high" = some none)
  {jH:Tok}(jI:PySem.W.nsIn K mainGlobals "MOST_LOOKED_AT" = some (some (.int 1000 jH)))
  {jJ:Addr}{jK jL:Tok}{jM:Nat}{jN:Option Addr}{jO:Array (Option Value)} (jP:PySem.W.nsIn K mainGlobals "NOUGHT" = some (some (.ref jJ))) (jQ:K.lookup jJ=some ⟨.type "tuple",jN,.seq #[.int 0 jK,.int 1 jL] jM,jO⟩) :
  ∃fd:FuncData,(∀(s:Shared) (v:Value),BindsTo s fd ⟨[v],[]⟩ [("script",v)])/\∀base:Heap,K.In base->base.Ns mainGlobals mg->ZH l.prog w K mg base CX0 12 fa fd ["script"] (za2 K):=by
 have e:=hfa.symm.trans (Wu X G a57)
 cases e
 have d_ratio:Df K mg "ratio" ZB ["top","bottom"] []:=⟨⟨f4,_,_,_,_,_,_,_,_,_,_,[],l4,c4,k4,Wu X G a4,.nil,λs us KX hl=>match us,hl with | [_,_],_=>.of_defaults rfl (KX _ _ ld4) rfl rfl rfl⟩⟩
 have dd_ratio:Df K mg "ratio" ZB ["top","bottom"] [.int 1]:=⟨⟨f4,_,_,_,_,_,_,_,_,_,_,[.int 1 tkd4],l4,c4,k4,Wu X G a4,.cons ⟨_,rfl⟩ .nil,λs us KX hl=>have hl2:us.length=1:=↥hl;match us,hl2 with | [_],_=>.of_defaults rfl (KX _ _ ld4) rfl rfl rfl⟩⟩
 have T:TxB K mg:=⟨zid K,zic K,yc X G j0,yc X G j1,yc X G j2,yc X G j3,yc X G j4,yc X G j5,yc X G j6,yc X G j7,yc X G j8,yc X G j9⟩
 have F:=zea (st:=s_law) l57 c57 k57
 refine⟨PySem.W.fnOf "law" "law" (xH s_law) (z7 s_law) (zj s_law) .none kV57 dc57 pm57 an57 cd57 ct57,λs v=>.of_eq rL,λbase hKb hGb=>?_⟩
 have T3:Tx3 K mg jJ:=⟨yc X G ja,yc X G je,yc X G jd,Wu X G jP,⟨_,_,_,_,jQ,rfl,rfl⟩,zie K⟩
 have TQ:TxQ K mg:=⟨T,yc X G jc,yc X G jb⟩
 have nL:=yc X G jc
 have nSo:=yc X G je
 have nSe:=yc X G jf
 have TM:=Wu X G jI
 have mCo:=Wu X G jj
 have FUC:=zea (st:=qu) jv jw jx
 have BIC:=FUC.binds (ps:=["self","row","walls"]) λ_ _ _ _ _ _ us hl=>match us,hl with | [_,_,_],_=>rfl
 have TC:TCo K ji:=⟨⟨pgC,hdC,poC,jy⟩,jA,jB,jC,jD,jE,jF,jG⟩
 have M:Mk K ji jl:=⟨mkC,ju,ifC,jk⟩
 have OM:=ziO hKb hGb jh jz
 have cW:=zeJ (P:=l.prog) (w:=w) (base:=base) (a0.df1 X G) T
 have cG:=ziq (P:=l.prog) (w:=w) (base:=base) (a2.df2 X G)
 have cR:=zeH d_ratio T cW cG
 have cOv:=zgB (a5.df2 X G) cR
 have cLs:=ziD (P:=l.prog) (w:=w) (base:=base) (a6.df2 X G)
 have cTu:=zki (P:=l.prog) (w:=w) (base:=base) (a1.df2 X G) T T3
 have cIr:=zj7 (a3.df1 X G) T cTu cW cG
 have cWa:=zkj (a14.df1 X G) cTu cIr
 have cWp:=zkl (a15.df1 X G) cTu cWa
 have cBf:=zj1 (a16.df1 X G) cTu cIr cW
 have cRf:=zeI (a17.df1 X G) T T3 cBf
 have cEv:=zj5 (a18.df1 X G) T T3 cRf
 have cSt:=zkf (a19.df1 X G) T3 cWp
 have cLcm:=ziu (a7.df1 X G) cG
 have cB:=zj2 (a8.df1 X G) cLcm
 have cTr:=zkh (P:=l.prog) (w:=w) (base:=base) (a9.df2 X G) TC
 have Fi:=zj4 FUC TQ TC cB cR cTr
 have cPl:=zkc (a20.df2 X G) cEv cSt
 have cRu:=zke (a21.df2 X G) cPl
 have cTp:=zgD (P:=l.prog) (w:=w) (base:=base) (a25.df1 X G) TC
 have cPs:=ziH (P:=l.prog) (w:=w) (base:=base) (a27.df4 X G)
 have cLa:=zis (P:=l.prog) (w:=w) (base:=base) (a26.df3 X G) T TC
 have cNx:=ziG (a22.df2 X G) cRu
 have cNb:=zka (P:=l.prog) (w:=w) (base:=base) (a23.df2 X G)
 have cRnp:=ziJ (a24.df2 X G) cLs
 have cTk:=zkg (a10.df2 X G) TC cOv
 have cPh:=zkb (a28.df1 X G) TC cTp
 have cCg:=zj3 (P:=l.prog) (w:=w) (base:=base) (a29.df3 X G) T3
 have cGm:=zj6 (a30.df2 X G) T cCg
 have cMm:=zj9 (a11.df2 X G) TC cR
 have cLr:=ziz (a31.df2 X G) TC cTp cG cLcm cR cMm
 have cRo:=ziK (a32.df2 X G) T T3 TC M Fi mCo BIC cNx cPh cGm cTp cLr cR
 have cGa:=zio (P:=l.prog) (w:=w) (base:=base) (a33.df2 X G) TC
 have cMb:=ziF (P:=l.prog) (w:=w) (base:=base) (a35.df5 X G) T nL
 have cRfn:=ziI (P:=l.prog) (w:=w) (base:=base) (a13.df2 X G)
 have cRe:=zkd (a12.df2 X G) TC cRfn
 have cThe:=ziL (a37.df4 X G) T TC cLa
 have cRt:=zgC (a34.df4 X G) OM TM cPs
 have cLk:=zj8 (a36.df4 X G) T TC TM nSo nSe cLcm cGa cTp cRt cMb
 have cWh:=zkk (a38.df5 X G) T TC M Fi mCo BIC cNx cNb cRnp cRe cLcm cRo cTk cLk cThe cMm
 have cC:=zgv (P:=l.prog) (w:=w) (base:=base) (a39.df2 X G) T
 have cD:=zim (P:=l.prog) (w:=w) (base:=base) (a40.df1 X G) T
 have cN:=zgA (P:=l.prog) (w:=w) (base:=base) (a41.df2 X G)
 have cF:=zin (a43.df1 X G) T cN
 have cLo:=ziy (P:=l.prog) (w:=w) (base:=base) (a42.df2 X G) T
 have cS:=zgz (a47.df2 X G) cLo
 have cP:=zeG (a48.df2 X G) cLo
 have cLl:=zgw (P:=l.prog) (w:=w) (base:=base) (a46.df2 X G)
 have cMi:=zgx (a51.df2 X G) cS cP
 have cAh:=zir (a50.df2 X G) cLl
 have cSr:=ziC (a49.df1 X G) T cAh
 have cSc:=zgy (a44.df5 X G) T cN cLo cS cP cLl
 have cEe:=ziv (a45.df2 X G) T cN cF cLo cS cP cSr cSc
 have cWi:=ziE (a53.df3 X G) T cN cF cLo cS cP cMi
 have cLov:=zix (P:=l.prog) (w:=w) (base:=base) (a52.df2 X G) cLo
 have cWs:=zkm cWh
 have cMr:=ziw (a54.df2 X G) T cS cP cMi
 have cSl:=ziB (a55.df2 X G) T cP
 have cRr:=ziA (a56.df6 X G) T cF cS cP cLl cWs cRo
 exact zit F T cC cD cN cLo cS cMi cLov cEe cWi cMr cSl cRr cWs
def walk {l:PySem.W.OpenLaw}{q:Program}{loose:List Str}{XP:(Str->Option Value)->Heap->Prop}{YP:World->Heap->Prop}{d:DefRec}{K:Params->Fg}(hn:l.most=some 63) (hdf:d.params.defaults=[])
  (hY:∀(w:World) (h:Heap),YP w h->(K w.params).In h)
  (F:∀(w:World) (mg:Str->Option Value) (fa:Addr) (h:Heap),(K w.params).In h->h.Ns mainGlobals mg->mg d.name=some (.ref fa) →
   ∃fd:FuncData,(∀(s:Shared) (u:Value),BindsTo s fd ⟨[u],[]⟩ [("script",u)])/\∀base:Heap,(K w.params).In base->base.Ns mainGlobals mg->ZH l.prog w (K w.params) mg base CX0 12 fa fd ["script"] (za2 (K w.params))) :
  PySem.W.WalkO q loose XP YP l.row.toRowW d [] (λf vs=>PySem.call f vs) :=
 L2.zhl (n:=63) (k:=12) (x:="script") (CX:=λ_=>CX0) (sp:=λw=>za2 (K w.params)) hn (by decide) hdf ⟨rfl,by decide,by decide⟩ hY F (λ_ _ a ns hl _ hS=>⟨a,ns,rfl,hS,hl,λ_=>rfl⟩) λ_ _ _ _ _ z=>z
end KK
open PySem PySem.W PyProof.Rows
set_option maxRecDepth 100000 in
set_option maxHeartbeats 0 in
theorem PySem.Challenge.cw_clackrow_k40_whole_first_moments_moved_holds : PySem.Challenge.rw_clackrow_k40_whole_first_moments_moved.Holds := by
 w_on;o_law;k_head;(case hw=>w_witness2)
 k_fill
 refine KK.walk (l:=PySem.Challenge.rw_clackrow_k40_whole_first_moments_moved) rL rL (λw h Y=>PySem.W.kIn_of Y) ?F
 case F =>
  intro w mg fa h KX G hmg
  refine' KK.zhW KX G hmg ..
  all_goals (try (first | (refine' KK.zjO ?_ ?_ ?_ ?_ <;> try k_is) | k_is | k_exc | kernel_rfl))
